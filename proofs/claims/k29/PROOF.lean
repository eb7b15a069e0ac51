import PyProof.Rows.All
import Wide.All
import OpenK.AllK
import Wide.FinOn
import Lean
import PyProof.EqAt
import PyProof.EqKinds
import PyProof.TupleCall
import PyProof.AttrMissHeap
import PySem.Challenge.RW_sealchain_k29_chains_told
set_option Elab.async false
set_option linter.all false
set_option maxRecDepth 100000
set_option bootstrap.genMatcherCode false
set_option compiler.extract_closed false
set_option maxHeartbeats 40000000
theorem mY {α:Type _}{a:α}(l:List α){k:List α}(h:a∈k):a∈l++k:=List.mem_append_right l h
theorem mZ {α:Type _}(b:α){a:α}{l:List α}(h:a∈l):a∈b::l:=List.mem_cons_of_mem b h
theorem mX {α:Type _}{a:α}{l:List α}:a∈a::l:=List.mem_cons_self
theorem oX {α β:Type _}{o:Option α}{f:α->Option β}{b:β}(h:o.bind f=some b):∃a,o=some a/\f a=some b:=Option.bind_eq_some_iff.mp h
theorem oY {α β:Type _}{f:α->β}{o:Option α}{b:β}(h:o.map f=some b):∃a,o=some a/\f a=b:=Option.map_eq_some_iff.mp h
def wX:=@PySem.wpAny_bind
def wY:=@PySem.wpAny_pure
def vZ:=@PySem.Heap.get?_push_of_some
def vY:=@PySem.Heap.get?_push_size
def vX:=@PySem.Heap.lt_size
def vW:=@PySem.Heap.SameBut.update
theorem vV {α:Type _}{l:List α}{i:Nat}{a:α}(h:l[i]? = some a):∃h:i<l.length,l[i]=a:=List.getElem?_eq_some_iff.mp h
theorem vU {α:Type _}{l:List α}{i:Nat}(h:i<l.length):l[i]? = some l[i]:=List.getElem?_eq_getElem h
theorem vT (n:Nat):n<=n:=Nat.le_refl n
theorem vS {a b:Nat}(h:a<b):a≠b:=Nat.ne_of_lt h
theorem vR {n m k:Nat}:n<=m->m<=k->n<=k:=Nat.le_trans
theorem vQ {n m k:Nat}:n<m->m<=k->n<k:=Nat.lt_of_lt_of_le
theorem vP {α:Type _}{a b:α}{l:List α}(h:b∈a::l):b=a∨b∈l:=List.mem_cons.mp h
theorem vO {α β:Type _}{b:β}{f:α->β}{l:List α}(h:b∈l.map f):∃a,a∈l/\f a=b:=List.mem_map.mp h
theorem vN {α:Type _}{a:α}{p:α->Bool}{l:List α}(h:a∈l.filter p):a∈l/\p a=true:=List.mem_filter.mp h
theorem vM {α:Type _}(p:α->Bool)(l:List α):(l.filter p).length<=l.length:=List.length_filter_le p l
theorem vL {α:Type _}{l:List α}{i:Nat}{a:α}(h:l[i]? = some a):a∈l:=List.mem_of_getElem? h
theorem vK {α:Type _}{a b:α}(h:some a=some b):a=b:=Option.some.inj h
theorem vJ {α β:Type _}(a:α)(f:α->Option β):(some a).bind f=f a:=rfl
theorem vI {α β:Type _}{as:List α}(f:α->β):(as.map f).length=as.length:=List.length_map f
theorem vH {α:Type _}{l:List α}:l.toArray.size=l.length:=rfl
theorem vG {α:Type _}{xs:Array α}:xs.toList.length=xs.size:=rfl
theorem vF {α:Type _}{l:List α}{i:Nat}{a:α}:l.getD i a=l[i]?.getD a:=List.getD_eq_getElem?_getD
theorem vE {α:Type _}{a:α}{as:List α}:(a::as).length=as.length+1:=rfl
theorem vC (a b:Bool):((a && b)=true)=(a=true/\b=true):=Bool.and_eq_true a b
theorem vB {α:Type _}{i j:Nat}{a:α}{l:List α}(h:i≠j):(l.set i a)[j]? = l[j]?:=List.getElem?_set_ne h
theorem vA {α β:Type _}{f:α->β}{l:List α}{i:Nat}:(l.map f)[i]? = Option.map f l[i]?:=List.getElem?_map
theorem uZ {α:Type _}{as bs:List α}:(as++bs).length=as.length+bs.length:=List.length_append
theorem uY {α β:Type _}{f:α->β}{a:α}{l:List α}:(a::l).map f=f a::l.map f:=rfl
theorem uX:false≠true:=Bool.false_ne_true
theorem uW {α β:Type _}{f:α->β}{l l':List α}:(l++l').map f=l.map f++l'.map f:=List.map_append
theorem uV:(false=true)=False:=Bool.false_eq_true
theorem uU {α:Type _}{x:Option α}(h:x.isSome=true):∃a,x=some a:=Option.isSome_iff_exists.mp h
theorem uT {α:Type _}{a b:α}(h:a∈[b]):a=b:=List.mem_singleton.mp h
theorem uS {α β:Type _}{b:β}{f:α->β}{l:List α}(h:∃a,a∈l/\f a=b):b∈l.map f:=List.mem_map.mpr h
theorem uR {α:Type _}{l:List α}{p:α->Bool}(h:l.all p=true):∀x∈l,p x=true:=List.all_eq_true.mp h
theorem uQ {α:Type _}(as:List α):as++[]=as:=List.append_nil as
theorem uP {α β γ:Type _}{g:β->γ}{f:α->β}{l:List α}:(l.map f).map g=l.map (g ∘ f):=List.map_map
theorem uO {α β:Type _}{x:α}{xs:List α}{f:α->List β}:(x::xs).flatMap f=f x++xs.flatMap f:=List.flatMap_cons
theorem uN (n:Nat):0<=n:=Nat.zero_le n
noncomputable section
open PySem.W (Frag kia_one fnOf nsIn mg_of)
namespace L2
open PySem PySem.Spec PyProof.Rows
abbrev cz:=Sum Int Str
noncomputable def t6:cz->Value->Bool
 |.inl k,v=>Value.isInt k v
 |.inr x,v=>Value.isStrOf x v
noncomputable def Te (w:World):cz->Int
 |.inl k=>hashInt k
 |.inr x=>hashStr w x
theorem cJ:∀ {k:cz}{v:Value},t6 k v=true->(∃i t,k=Sum.inl i/\v=Value.int i t)∨(∃x t,k=Sum.inr x/\v=Value.str x t)
 |.inl i,v,h=>by
  obtain⟨t,e⟩:=Value.isInt_shape (k:=i) (v:=v) h;exact .inl ⟨i,t,rfl,e⟩
 |.inr x,v,h=>by
  obtain⟨t,e⟩:=Value.isStrOf_shape (x:=x) (v:=v) h;exact .inr ⟨x,t,rfl,e⟩
theorem CW (i:Int)(t:Tok):t6 (.inl i) (.int i t)=true:=by simp[t6,Value.isInt]
theorem CY (x:Str)(t:Tok):t6 (.inr x) (.str x t)=true:=by simp[t6,Value.isStrOf]
theorem Mm (a b:Int):decide ((Sum.inl a:cz)=Sum.inl b)=(a == b):=by
 by_cases e:a=b
 ·subst e;simp
 ·have h:¬(Sum.inl a:cz)=Sum.inl b:=λq=>e (Sum.inl.inj q);rw[decide_eq_false h];exact(beq_eq_false_iff_ne.mpr e).symm
theorem Mn (a b:Str):decide ((Sum.inr a:cz)=Sum.inr b)=decide (a=b):=by
 by_cases e:a=b
 ·subst e;simp
 ·have h:¬(Sum.inr a:cz)=Sum.inr b:=λq=>e (Sum.inr.inj q);rw[decide_eq_false h,decide_eq_false e]
theorem Mo (a:Int)(b:Str):decide ((Sum.inl a:cz)=Sum.inr b)=false:=decide_eq_false (λq=>nomatch q)
theorem Mp (a:Str)(b:Int):decide ((Sum.inr a:cz)=Sum.inl b)=false:=decide_eq_false (λq=>nomatch q)
def cm (prog:Program)(w:World):PySem.KeyKind prog w cz where
 is:=t6
 hash:=Te w
 inj:=λv a b ha hb=>by
  rcases cJ ha with⟨i,t,rfl,rfl⟩|⟨x,t,rfl,rfl⟩
  ·rcases cJ hb with⟨j,u,rfl,e⟩|⟨y,u,rfl,e⟩
   ·injection e with e1 _;rw[e1]
   ·exact nomatch e
  ·rcases cJ hb with⟨j,u,rfl,e⟩|⟨y,u,rfl,e⟩
   ·exact nomatch e
   ·injection e with e1 _;rw[e1]
 byValue:=λk v h=>by
  rcases cJ h with⟨i,t,rfl,rfl⟩|⟨x,t,rfl,rfl⟩<;>rfl
 pyHash:=λhv h=>by
  rcases cJ hv with⟨i,t,rfl,rfl⟩|⟨x,t,rfl,rfl⟩
  ·exact wpAny_pyHash_int h
  ·exact wpAny_pyHash_str h
 eqBool:=λhu hv h=>by
  rcases cJ hu with⟨i,t,rfl,rfl⟩|⟨x,t,rfl,rfl⟩
  ·rcases cJ hv with⟨j,u,rfl,rfl⟩|⟨y,u,rfl,rfl⟩
   ·rw[Mm]at h;exact wpAny_eqBool_int h
   ·rw[Mo]at h;exact SeqAt.EqAt.int_str i t y u _ _ _ _ h
  ·rcases cJ hv with⟨j,u,rfl,rfl⟩|⟨y,u,rfl,rfl⟩
   ·rw[Mp]at h;exact SeqAt.EqAt.str_int x t j u _ _ _ _ h
   ·rw[Mn]at h;exact wpAny_eqBool_str h
 «strs»:=λk x t v h=>by
  rcases cJ h with⟨i,u,rfl,e⟩|⟨y,u,rfl,e⟩
  ·exact nomatch e
  ·injection e with e1 _;subst e1;cases v<;>rfl
theorem xz (prog:Program)(w:World)(i:Int)(t:Tok):(cm prog w).is (.inl i) (.int i t)=true:=CW i t
theorem x0 (prog:Program)(w:World)(x:Str)(t:Tok):(cm prog w).is (.inr x) (.str x t)=true:=CY x t
inductive V where
 |non|bl (b:Bool)|int (i:Int)|str (x:Str)|byt (b:Array UInt8)|flt (b:UInt64)|ref (a:Addr)|ty (n:String)
 deriving DecidableEq
def aU:V->Value->Prop
 |.non,u=>u=Value.none
 |.bl b,u=>u=Value.bool b
 |.int i,u=>∃t,u=Value.int i t
 |.str x,u=>∃t,u=Value.str x t
 |.byt b,u=>∃t,u=Value.bytes b t
 |.flt b,u=>∃t,u=Value.float b t
 |.ref a,u=>u=Value.ref a
 |.ty n,u=>u=Value.type n
abbrev aS:List V->List Value->Prop:=Paired aU
theorem aS.length (r:aS xs us):xs.length=us.length:=Paired.length r
theorem aS.get:∀ {xs:List V}{us:List Value}{i:Nat}{x:V},aS xs us->xs[i]? = some x->∃u,us[i]? = some u/\aU x u
 |_,_,_,_,.nil,e=>by simp at e
 |_,_,0,_,.cons r _,e=>by simp at e;subst e;exact⟨_,rfl,r⟩
 |_,_,i+1,x,.cons _ t,e=>by
  obtain⟨u,h1,h2⟩:=aS.get (i:=i) (x:=x) t (by simpa using e);exact⟨u,by simpa using h1,h2⟩
theorem aS.set (r:aU x u):∀ {xs:List V}{us:List Value}(i:Nat),aS xs us->aS (xs.set i x) (us.set i u)
 |_,_,_,.nil=>.nil
 |_,_,0,.cons _ t=>.cons r t
 |_,_,i+1,.cons q t=>.cons q (aS.set r i t)
theorem aS.append:∀ {xs ys:List V}{us ws:List Value},aS xs us->aS ys ws->aS (xs++ys) (us++ws)
 |_,_,_,_,.nil,s=>s
 |_,_,_,_,.cons r t,s=>.cons r (aS.append t s)
theorem aS.take:∀ {xs:List V}{us:List Value}(n:Nat),aS xs us->aS (xs.take n) (us.take n)
 |_,_,0,_=>.nil
 |_,_,_+1,.nil=>.nil
 |_,_,n+1,.cons r t=>.cons r (aS.take n t)
theorem aS.drop:∀ {xs:List V}{us:List Value}(n:Nat),aS xs us->aS (xs.drop n) (us.drop n)
 |_,_,0,r=>r
 |_,_,_+1,.nil=>.nil
 |_,_,n+1,.cons _ t=>aS.drop n t
theorem aS.none_of:∀ {xs:List V}{us:List Value}{i:Nat},aS xs us->xs[i]? = none->us[i]? = none:=λ{xs us i} r e=>by
 have h1:=r.length;have h2:xs.length<=i:=List.getElem?_eq_none_iff.mp e;exact List.getElem?_eq_none_iff.mpr (by omega)
def ls:Option V->Option Value->Prop
 |some v,some u=>aU v u
 |none,none=>True
 |_,_=>False
def KV {κ:Type}:List (κ×V)->List (κ×Value)->Prop:=Paired λ(p:κ×V) (q:κ×Value)=>p.1=q.1/\aU p.2 q.2
noncomputable def kV:cz->V
 |.inl i=>.int i
 |.inr x=>.str x
inductive HO where
  |lst (xs:List V)
  |tup (xs:List V)
  |dK (aK:List (cz×V)) (ob:Obj)|dT (aK:List (List cz×V))
  |set (S:Int->Bool) (n:Nat)
  |ins (C dx:Addr) (fs:List (Str×V))
  |own (x:Addr)
  |xd (fs:List (Str×V))
  |met (f x:Addr)
  |rng (lo hi:Int)
  |frz (o:Obj) (u:HO)
  |tbl (q:Str)
  |ext (φ:Heap->Prop)
abbrev Hp:=Addr->Option HO
noncomputable def upd (H:Hp)(a:Addr)(o:HO):Hp:=λb=>if b=a then some o else H b
theorem aC:upd H a o a=some o:=by unfold upd;rw[if_pos rfl]
theorem aI (h:b≠a):upd H a o b=H b:=by unfold upd;rw[if_neg h]
theorem Ie:upd (upd H a o) a u=upd H a u:=by
 funext b;unfold upd;split<;>rfl
theorem P2 {H:Hp}{a b:Addr}{o u:HO}(h:H a=some o)(h':H b=some u)(d:o≠u):a≠b:=by
 intro e;subst e;rw[h]at h';exact d (vK h')
theorem aW {H:Hp}{a b:Addr}{o:HO}(h:H a=some o)(h':H b=none):a≠b:=by
 intro e;subst e;rw[h]at h';cases h'
section
variable (P:Program) (w:World)
def bN (H:Hp)(h:Heap)(a:Addr):HO->Prop
 |.lst xs=>xs.length<=sizeLine/\∃(its:List Value)(n:Nat),aS xs its/\h.get? a=some { cls:=.type "list",data:=.seq its.toArray n }
 |.tup xs=>xs.length<=sizeLine/\∃its:List Value,aS xs its/\IsTup h a its.toArray
 |.dK aK ob=>h.get? a=some ob/\aK.length<=sizeLine/\(a == sysModules)=false/\∃vs,KV aK vs/\h.DictOf (cm P w) a vs
 |.dT aK=>aK.length<=sizeLine/\(a == sysModules)=false/\∃xs:List (List cz×Addr×Value),
   Paired (λ(p:List cz×V) (q:List cz×Addr×Value)=>p.1=q.1/\H q.2.1=some (.tup (p.1.map kV))/\aU p.2 q.2.2) aK xs /\
   ∃o es ep,h.get? a=some o/\o.ExactDict/\o.data=.dict es ep/\es.toList=xs.map (entryOfKey (tupleKind (cm P w)))/\(xs.map (·.1)).Nodup
 |.set S n=>h.SetOf (intKind P w) a S n
 |.ins C dx fs=>H dx=some (.own a)/\fs.length<=1000/\dx≠a/\h.get? a=some (PySem.W.instObj C dx) /\
   ∃mA,h.Ns1 dx mA/\(∀f,ls (fs.lookup f) (mA f))/\PySem.Within mA (fs.map (·.1))
 |.own _=>∃o,h.get? a=some o
 |.xd fs=>∃mA,h.Ns1 a mA/\∀f,ls (fs.lookup f) (mA f)
 |.rng lo hi=>∃t u v,h.get? a=some { cls:=.type "range",data:=.fields #[.int lo t,.int hi u,.int 1 v] }
 |.frz o u=>h.get? a=some o/\bN H h a u
 |.tbl q=>∃ps:Array Value,h.get? a=some { cls:=.none,data:=.fields ps }/\TriplesOk ps.toList/\∀pos cv,codeAmong pos ps.toList=some cv->∃(c:Addr)(oc:Obj)(u:HO)(vs:Array Value)(t:Tok),cv=.ref c/\H c=some (.frz oc u)/\oc.data=.fields vs/\vs[1]? = some (.str q t)
 |.met f x=>h.get? a=some (PySem.W.methodObj (.ref f) (.ref x))
 |.ext φ=>φ h/\(∃o,h.get? a=some o)/\∀h1 h2:Heap,φ h1->(∀o,h1.get? a=some o->h2.get? a=some o)->φ h2
def lu (H:Hp)(h:Heap):Prop:=∀a o,H a=some o->bN P w H h a o
end
section
variable {P:Program}{w:World}{H H':Hp}{h h':Heap}{a:Addr}{o:HO}
theorem bN.lt (x:bN P w H h a o):a<h.objs.size:=by
 cases o with
 |lst xs=>obtain⟨_,_,_,_,e⟩:=x;exact vX e
 |tup xs=>obtain⟨_,_,_,p⟩:=x;exact p.lt
 |dK aK ob=>exact vX (And.left x)
 |dT aK=>obtain⟨_,_,_,_,o,_,_,e,_⟩:=x;exact vX e
 |set S n=>obtain⟨o,_,_,_,e,_⟩:=x;exact vX e
 |ins C dx fs=>obtain⟨_,_,_,e,_⟩:=x;exact vX e
 |own y=>obtain⟨_,e⟩:=x;exact vX e
 |xd fs=>obtain⟨_,⟨_,_,_,e,_⟩,_⟩:=x;exact vX e
 |rng lo hi=>obtain⟨_,_,_,e⟩:=x;exact vX e
 |frz ob u=>obtain⟨e,_⟩:=x;exact vX e
 |tbl q=>obtain⟨_,e,_⟩:=x;exact vX e
 |met f y=>exact vX (show h.get? a=some _ from x)
 |ext φ=>obtain⟨_,⟨_,e⟩,_⟩:=x;exact vX e
theorem Paired.mapP {α β:Type}{F G:α->β->Prop}:∀ {l₁:List α}{l₂:List β},Paired F l₁ l₂->(∀a b,F a b->G a b)->Paired G l₁ l₂
 |_,_,.nil,_=>.nil
 |_,_,.cons r t,f=>.cons (f _ _ r) (Paired.mapP t f)
theorem bN.stay (x:bN P w H h a o)(k:∀b u,(b=a∨H b=some (.own a))->h.get? b=some u->h'.get? b=some u)
  (ho:∀b,H b=some (.own a)->H' b=some (.own a)) (ht:∀b xs,H b=some (.tup xs)->H' b=some (.tup xs)) (hf:∀b o u,H b=some (.frz o u)->H' b=some (.frz o u)):bN P w H' h' a o:=by
 induction o with
 |lst xs=>obtain⟨z,its,n,r,e⟩:=x;exact⟨z,its,n,r,k _ _ (.inl rfl) e⟩
 |tup xs=>obtain⟨z,its,r,ob,e,c⟩:=x;exact⟨z,its,r,ob,k _ _ (.inl rfl) e,c⟩
 |dK aK Um=>obtain⟨g,z,y,vs,r,ob,es,ep,e,c⟩:=x;exact⟨k _ _ (.inl rfl) g,z,y,vs,r,ob,es,ep,k _ _ (.inl rfl) e,c⟩
 |dT aK=>
  obtain⟨z,y,xs,r,ob,es,ep,e,c⟩:=x;exact⟨z,y,xs,Paired.mapP r λp q z=>⟨z.1,ht _ _ z.2.1,z.2.2⟩,ob,es,ep,k _ _ (.inl rfl) e,c⟩
 |set S n=>obtain⟨ob,es,ep,t,e,c⟩:=x;exact⟨ob,es,ep,t,k _ _ (.inl rfl) e,c⟩
 |ins C dx fs=>
  obtain⟨d,z,ne,e,mA,⟨od,es,ep,e2,c⟩,r⟩:=x;exact⟨ho _ d,z,ne,k _ _ (.inl rfl) e,mA,⟨od,es,ep,k _ _ (.inr d) e2,c⟩,r⟩
 |own y=>obtain⟨ob,e⟩:=x;exact⟨ob,k _ _ (.inl rfl) e⟩
 |xd fs=>obtain⟨mA,⟨od,es,ep,e,c⟩,r⟩:=x;exact⟨mA,⟨od,es,ep,k _ _ (.inl rfl) e,c⟩,r⟩
 |rng lo hi=>obtain⟨t,u,v,e⟩:=x;exact⟨t,u,v,k _ _ (.inl rfl) e⟩
 |frz ob u ih=>obtain⟨e,q⟩:=x;exact⟨k _ _ (.inl rfl) e,ih q⟩
 |tbl q=>obtain⟨ps,e,t,c⟩:=x;exact⟨ps,k a _ (.inl rfl) e,t,λpos cv z=>let ⟨d,oc,u,vs,tk,z1,z2,z3⟩:=c pos cv z;⟨d,oc,u,vs,tk,z1,hf _ _ _ z2,z3⟩⟩
 |met f y=>
  have e:h.get? a=some (PySem.W.methodObj (.ref f) (.ref y)):=x;show h'.get? a=some (PySem.W.methodObj (.ref f) (.ref y));exact k a _ (.inl rfl) e
 |ext φ=>obtain⟨p,⟨o,e⟩,st⟩:=x;exact⟨st _ _ p λo q=>k _ _ (.inl rfl) q,⟨o,k _ _ (.inl rfl) e⟩,st⟩
theorem lu.lt (x:lu P w H h)(e:H a=some o):a<h.objs.size:=(x a o e).lt
theorem lu.fresh (x:lu P w H h)(e:h.objs.size<=a):H a=none:=by
 cases q:H a with
 |none=>rfl
 |some u=>exact absurd (vQ (x.lt q) e) (Nat.lt_irrefl _)
theorem lu.kept (x:lu P w H h)(k:∀b u,h.get? b=some u->h'.get? b=some u):lu P w H h':=λa o e=>
 (x a o e).stay (λb u _ q=>k b u q) (λ_ q=>q) (λ_ _ q=>q) λ_ _ _ q=>q
theorem lu.laid (x:lu P w H h)(k:∀b u,h.get? b=some u->h'.get? b=some u)(hp:h.objs.size<=a)(new:bN P w (upd H a o) h' a o):lu P w (upd H a o) h':=λb u e=>by
 have hn:=x.fresh hp;by_cases hb:b=a
 ·subst hb;rw[aC]at e;cases e;exact new
 ·rw[aI hb]at e;exact(x b u e).stay (λc v _ q=>k c v q) (λc q=>by rw[aI (aW q hn)];exact q) (λc xs q=>by rw[aI (aW q hn)];exact q) λc o xs q=>by rw[aI (aW q hn)];exact q
end
def Rd (H:Hp)(a:Addr)(u:HO):Prop:=H a=some u∨∃o,H a=some (.frz o u)
theorem Rd.of (h:H a=some u):Rd H a u:=.inl h
theorem Rd.ok (r:Rd H a u)(x:lu P w H h):bN P w H h a u:=by
 rcases r with r|⟨o,r⟩
 ·exact x a u r
 ·obtain⟨_,q⟩:=x a _ r;exact q
def P4:Option HO->Prop
 |some (.lst _)=>True
 |some (.dK _ _)=>True
 |some (.dT _)=>True
 |some (.set _ _)=>True
 |some (.ins _ _ _)=>True
 |some (.ext _)=>True
 |_=>False
section
variable {P:Program}{w:World}{H:Hp}{h h':Heap}{x e:Addr}{o':HO}
theorem lu.write (ok:lu P w H h)(mu:P4 (H x))(he:e=x∨H e=some (.own x))(k:∀b u,b≠e->h.get? b=some u->h'.get? b=some u)(Pf:∃u,h'.get? e=some u)
  (new:bN P w (upd H x o') h' x o'):lu P w (upd H x o') h':=λb u q=>by
 have Rg:∀c y,H c=some (.own y)->c≠x:=λc y r z=>by subst z;rw[r]at mu;exact mu
 have Uo:∀c xs,H c=some (.tup xs)->c≠x:=λc xs r z=>by subst z;rw[r]at mu;exact mu
 by_cases hb:b=x
 ·subst hb;rw[aC]at q;cases q;exact new
 ·rw[aI hb]at q;by_cases hbe:b=e
  ·have q':H b=some (.own x):=by
    rcases he with z|z
    ·exact absurd (hbe.trans z) hb
    ·rw[hbe];exact z
   rw[q]at q';cases q';obtain⟨v,hv⟩:=Pf;exact⟨v,by rw[hbe];exact hv⟩
  ·refine(ok b u q).stay (λc v hc r=>k c v ?_ r) (λc r=>by rw[aI (Rg c b r)];exact r) (λc xs r=>by rw[aI (Uo c xs r)];exact r) λc o xs r=>by rw[aI (λz=>by subst z;rw[r]at mu;exact mu)];exact r
   rcases hc with rfl|hc
   ·exact hbe
   ·rintro rfl;rcases he with z|z
    ·exact Rg c b hc z
    ·rw[hc]at z;cases z;exact hb rfl
end
structure Un (fs ex:List Addr)(H H':Hp)(h h':Heap):Prop where
 keep:∀b o,h.get? b=some o->H b=none->b∉fs->b∉ex->h'.get? b=some o
 slot:∀b o,h.get? b=some o->H b=none->b∈fs->b∉ex->∃sl,h'.get? b=some { o with slots:=sl }
 free:∀b o,h.get? b=some o->H b=none->b∉ex->H' b=none
 there:∀b o,h.get? b=some o->b∉ex->∃o',h'.get? b=some o'
 tups:∀b xs,H b=some (.tup xs)->H' b=some (.tup xs)
 frzs:∀b o u,H b=some (.frz o u)->H' b=some (.frz o u)
 tbls:∀b q,H b=some (.tbl q)->H' b=some (.tbl q)
section
variable {fs Yi ex ex':List Addr}{H H1 H2:Hp}{h h1 h2 h':Heap}{a x e:Addr}{o:HO}
theorem Un.any (u:Un fs ex H H1 h h1)(q:h.get? b=some ob)(n:H b=none)(hx:b∉ex):∃sl,h1.get? b=some { ob with slots:=sl }:=by
 by_cases hb:b∈fs
 ·exact u.slot b ob q n hb hx
 ·exact⟨ob.slots,u.keep b ob q n hb hx⟩
theorem Un.trans (a:Un fs ex H H1 h h1)(b:Un fs ex H1 H2 h1 h2):Un fs ex H H2 h h2 where
 keep:=λc ob q n hc hx=>b.keep c ob (a.keep c ob q n hc hx) (a.free c ob q n hx) hc hx
 slot:=λc ob q n hc hx=>by
  obtain⟨sl,e1⟩:=a.slot c ob q n hc hx;obtain⟨Uq,e2⟩:=b.slot c _ e1 (a.free c ob q n hx) hc hx;exact⟨Uq,e2⟩
 free:=λc ob q n hx=>by
  obtain⟨o',e1⟩:=a.there c ob q hx;exact b.free c o' e1 (a.free c ob q n hx) hx
 there:=λc ob q hx=>by
  obtain⟨o',e1⟩:=a.there c ob q hx;exact b.there c o' e1 hx
 tups:=λc xs q=>b.tups c xs (a.tups c xs q)
 frzs:=λc ob xs q=>b.frzs c ob xs (a.frzs c ob xs q)
 tbls:=λc ps q=>b.tbls c ps (a.tbls c ps q)
theorem Un.kept (k:∀b u,h.get? b=some u->h'.get? b=some u):Un fs ex H H h h' :=
 ⟨λb ob q _ _ _=>k b ob q,λb ob q _ _ _=>⟨ob.slots,k b ob q⟩,λ_ _ _ n _=>n,λb ob q _=>⟨ob,k b ob q⟩,λ_ _ q=>q,λ_ _ _ q=>q,λ_ _ q=>q⟩
theorem Un.refl:Un fs ex H H h h:=Un.kept λ_ _ q=>q
theorem Un.laid (k:∀b u,h.get? b=some u->h'.get? b=some u)(hp:h.objs.size<=a)(hn:H a=none):Un fs ex H (upd H a o) h h' where
 keep:=λb u q _ _ _=>k b u q
 slot:=λb u q _ _ _=>⟨u.slots,k b u q⟩
 free:=λb u q n _=>by rw[aI (vS (vQ (vX q) hp))];exact n
 there:=λb u q _=>⟨u,k b u q⟩
 tups:=λb xs q=>by rw[aI (aW q hn)];exact q
 frzs:=λb u xs q=>by rw[aI (aW q hn)];exact q
 tbls:=λb ps q=>by rw[aI (aW q hn)];exact q
theorem Un.write (mu:P4 (H x))(he:e=x∨H e=some (.own x))(k:∀b u,b≠e->h.get? b=some u->h'.get? b=some u)(Pf:∃u,h'.get? e=some u):Un fs ex H (upd H x o) h h':=by
 have hx:∀b,H b=none->b≠x:=λb n z=>by subst z;rw[n]at mu;exact mu
 have hb:∀b,H b=none->b≠e:=λb n z=>by
  subst z;rcases he with r|r
  ·exact hx b n r
  ·rw[n]at r;cases r
 have hm:∀b u,H b=some u->¬P4 (some u)->b≠x:=λb u q nm z=>by subst z;rw[q]at mu;exact nm mu
 refine⟨λb u q n _ _=>k b u (hb b n) q,λb u q n _ _=>⟨u.slots,k b u (hb b n) q⟩,λb u q n _=>by rw[aI (hx b n)];exact n,λb u q _=>?_,
  λb xs q=>by rw[aI (hm b _ q λz=>z)];exact q,λb u xs q=>by rw[aI (hm b _ q λz=>z)];exact q,λb ps q=>by rw[aI (hm b _ q λz=>z)];exact q⟩
 by_cases hbe:b=e
 ·subst hbe;exact Pf
 ·exact⟨u,k b u hbe q⟩
end
noncomputable def Sg (h:Heap)(H:Hp):List Addr:=(List.range h.objs.size).filter λa=>(H a).isSome
def xA (h:Heap)(H:Hp):Heap:=PySem.W.hideAll h (Sg h H)
theorem CZ (h:Heap)(H:Hp):(xA h H).objs.size=h.objs.size:=PySem.W.hideAll_size _ _
theorem pQ (e:h.get? b=some o)(n:H b=none):(xA h H).get? b=some o :=
 PySem.W.hideAll_get _ e λhm=>by
  have q:(H b).isSome=true:=(vN hm).2;rw[n]at q;simp at q
theorem Ig (e:(xA h H).get? b=some o):h.get? b=some o/\H b=none:=by
 have e':h.get? b=some o:=PySem.W.of_hideAll (Sg h H) e;refine⟨e',?_⟩;cases q:H b with
 |none=>rfl
 |some x=>
  have hm:b∈Sg h H:=List.mem_filter.mpr ⟨List.mem_range.mpr (vX e'),by simp[q]⟩;have z:(xA h H).get? b=none:=PySem.W.hideAll_none (Sg h H) hm;rw[z]at e;cases e
noncomputable def Ih (g h:Heap)(L:Addr):List (Addr×Obj):=(List.range h.objs.size).filterMap λa=>if a=L∨(g.get? a).isSome=true then none else (h.get? a).map λo=>(a,o)
def aD (g h:Heap)(L d:Addr):List (Addr×Obj):=(Ih g h L).filter λp=>decide (p.1≠d)
structure Mod (K:Frag)(mg:Str->Option Value)(base:Heap):Prop where
 kin:K.In base
 glob:base.Ns mainGlobals mg
 blt:∃mb,base.Ns builtinsNs mb/\∀x:Str,x ≠ "__name__"->mb x=bootBuiltins x
 nolimit:base.NoLimit
 bmain:∃bm ob,mg "__builtins__" = some (.ref bm)/\bm≠builtinsNs/\base.get? bm=some ob/\ob.cls=.type "module"/\ob.dict=some builtinsNs/\ob.data=.plain
structure Cx where
 prog:Program
 w:World
 K:Frag
 mg:Str->Option Value
 base:Heap
 A:Around
 N:List Str
 s₀:Shared
 H₀:Hp
 env:Env
 outer:List Env
 stack:List Env
 ex:List Addr
 fn:Str->Bool
 calm:Bool
 pn:List (Addr×Obj)
 xe:Value->Shared->Prop
noncomputable def Ey (l:List Env):List Addr:=l.filterMap (·.frame)
abbrev Cx.fs (X:Cx):List Addr:=Ey X.outer
def Ez (sc:Scope)(x:Str):Prop:=sc.names.lookup x=some .local∨sc.names.lookup x=some .cell∨sc.names.lookup x=some .free
def HL (sc:Scope)(x:Str):Prop:=sc.names.lookup x=some .local∨sc.names.lookup x=some .cell
def Tf (env:Env)(h:Heap)(m:Str->Option Value)(x:Str)(u:Value):Prop :=
 (env.kindOf x=some .local/\m x=some u)∨((env.kindOf x=some .cell∨env.kindOf x=some .free)/\∃c,env.cells.lookup x=some c/\h.IsCell c (some u))
abbrev wq {α:Type}(X:Cx):Sem α->(α->Shared->Prop)->(Value->Shared->Prop)->Shared->Prop:=wpAny (model X.prog X.w) X.A
structure Cx.Ok (X:Cx):Prop where
 mod:Mod X.K X.mg X.base
 kind:X.env.scope.kind=.function
 glob:X.env.globals=mainGlobals
 blt:X.env.builtins=builtinsNs
 above:X.s₀.heap.objs.size<=X.env.locals
 inj:∀x y c,X.env.cells.lookup x=some c->X.env.cells.lookup y=some c->x=y
 has:∀x,(X.env.kindOf x=some .cell∨X.env.kindOf x=some .free)->∃c,X.env.cells.lookup x=some c
 cab:∀x c,X.fn x=true->X.env.cells.lookup x=some c->X.s₀.heap.objs.size<=c
 hd:X.calm=true->X.A.handled=none
 frames:X.A.frames=some X.stack
 stk:X.stack=X.outer∨(X.stack=X.env::X.outer/\X.env.frame=some X.env.locals)
 exf:∀b∈X.ex,b≠X.env.locals/\∀x c,X.env.cells.lookup x=some c->c≠b
 bs:∀b o,X.base.get? b=some o->X.s₀.heap.get? b=some o/\X.H₀ b=none
 bsz:X.base.objs.size<=X.s₀.heap.objs.size
 noex:∀b o,X.base.get? b=some o->b∉X.ex
 exfs:∀b∈X.ex,b∉X.fs
 funs:X.s₀.heap.FunFrames X.base X.outer
 frf:∀b∈X.fs,X.H₀ b=none
structure Inv (X:Cx)(ae:List (Addr×Obj))(σ:List (Option V))(H:Hp)(s:Shared):Prop where
 ok:X.Ok
 os:s.os=X.s₀.os
 bare:AllBare s.gens
 base:Un X.fs X.ex X.H₀ H X.s₀.heap s.heap
 loc:∃m,s.heap.Ns X.env.locals m/\∀(i:Nat)(x:Str)(v:V),X.N[i]? = some x->σ[i]? = some (some v)->Ez X.env.scope x->∃u,aU v u/\Tf X.env s.heap m x u
 cell:∀x c,X.env.cells.lookup x=some c->∃v,s.heap.IsCell c v
 free:H X.env.locals=none
 freeC:∀x c,X.env.cells.lookup x=some c->H c=none
 pin:∀p∈X.pn++ae,s.heap.get? p.1=some p.2/\H p.1=none/\p.1≠X.env.locals/\p.1∉X.fs/\∀v,p.2.data≠.cell v
 hok:lu X.prog X.w H s.heap
 len:σ.length=X.N.length
section
variable {X:Cx}{ae:List (Addr×Obj)}{σ:List (Option V)}{H H':Hp}{s:Shared}{h':Heap}
theorem Cx.Ok.nofr (ok:X.Ok)(e:X.base.get? b=some o):b∉X.fs:=λhb=>by
 have:=(ok.funs.mem hb).1;rw[e]at this;cases this
theorem Inv.bs (I:Inv X ae σ H s):∀b o,X.base.get? b=some o->s.heap.get? b=some o/\H b=none:=λb o e=>
 ⟨I.base.keep b o (I.ok.bs b o e).1 (I.ok.bs b o e).2 (I.ok.nofr e) (I.ok.noex b o e),I.base.free b o (I.ok.bs b o e).1 (I.ok.bs b o e).2 (I.ok.noex b o e)⟩
theorem Inv.bk (I:Inv X ae σ H s):∀b o,X.base.get? b=some o->s.heap.get? b=some o:=λb o e=>(I.bs b o e).1
theorem Inv.mod (I:Inv X ae σ H s):Mod X.K X.mg X.base:=I.ok.mod
theorem Inv.kIn (I:Inv X ae σ H s):X.K.In s.heap:=I.ok.mod.kin.keeps I.bk
theorem Inv.nolimit (I:Inv X ae σ H s):s.heap.NoLimit:=I.ok.mod.nolimit.keeps I.bk
theorem Inv.lt (I:Inv X ae σ H s):X.env.locals<s.heap.objs.size:=let ⟨_,hn,_⟩:=I.loc;hn.lt
theorem Inv.sz (I:Inv X ae σ H s):X.s₀.heap.objs.size<=s.heap.objs.size:=vR I.ok.above (Nat.le_of_lt I.lt)
theorem Inv.nofs (I:Inv X ae σ H s)(h:s.heap.objs.size<=a):a∉X.fs:=λhb=>by
 obtain⟨_,o,ho,_⟩:=I.ok.funs.mem hb;exact absurd (vQ (vX ho) (vR I.sz h)) (Nat.lt_irrefl _)
theorem Inv.cne (I:Inv X ae σ H s):∀x c,X.env.cells.lookup x=some c->c≠X.env.locals:=λx c e z=>by
 obtain⟨v,o,ho,hd⟩:=I.cell x c e;obtain⟨m,⟨o',es,ep,sD,Bi,_⟩,_⟩:=I.loc;rw[z,sD]at ho;cases ho;rw[Bi]at hd;cases hd
theorem Inv.funs (I:Inv X ae σ H s):s.heap.FunFrames X.base X.outer:=by
 have all:∀(l:List Env),(∀b∈Ey l,b∈X.fs)->X.s₀.heap.FunFrames X.base l->s.heap.FunFrames X.base l:=by
  intro l;induction l with
  |nil=>intro _ _;trivial
  |cons env r ih=>
   intro hs hl;obtain⟨hk,⟨L,o,hf,hn,ho,hd⟩,hr⟩:=hl;have hL:L∈X.fs:=hs L (by unfold Ey;rw[List.filterMap_cons,hf];exact mX);obtain⟨sl,e⟩:=I.base.slot L o ho (I.ok.frf L hL) hL λz=>I.ok.exfs L z hL;exact⟨hk,⟨L,_,hf,hn,e,hd⟩,ih (λb hb=>hs b (by unfold Ey;rw[List.filterMap_cons,hf];exact mZ _ hb)) hr⟩
 exact all X.outer (λ_ hb=>hb) I.ok.funs
theorem Inv.stack (I:Inv X ae σ H s):s.heap.FunFrames X.base X.stack:=by
 rcases I.ok.stk with e|⟨e,hf⟩
 ·rw[e];exact I.funs
 ·rw[e];obtain⟨m,hn,_⟩:=I.loc;refine .cons (by rw[I.ok.kind];decide) hf hn ?_ I.funs;exact Heap.get?_none_of_le (vR I.ok.bsz I.ok.above)
theorem Inv.stkSub (I:Inv X ae σ H s):∀b∈Ey X.stack,b∈X.env.locals::X.fs:=λb hb=>by
 rcases I.ok.stk with e|⟨e,hf⟩
 ·rw[e]at hb;exact mZ _ hb
 ·rw[e]at hb;unfold Ey at hb;rw[List.filterMap_cons,hf]at hb;exact hb
theorem Inv.stkFree (I:Inv X ae σ H s):∀b∈Ey X.stack,H b=none:=λb hb=>by
 rcases vP (I.stkSub b hb)with e|hb
 ·rw[e];exact I.free
 ·obtain⟨_,o,ho,_⟩:=I.ok.funs.mem hb;exact I.base.free b o ho (I.ok.frf b hb) λz=>I.ok.exfs b z hb
theorem Inv.step {g':Array GenState}{t':Nat}{d':Drawn}{ch:List Addr}(I:Inv X ae σ H s)
  (pA:∀b∈ch,(b∈X.ex∨X.s₀.heap.objs.size<=b)/\b≠X.env.locals/\(∀x c,X.env.cells.lookup x=some c->c≠b)/\∀p∈X.pn++ae,p.1≠b)
  (keep:∀b o,b≠X.env.locals->b∉X.fs->b∉ch->s.heap.get? b=some o->H b=none->h'.get? b=some o)
  (slot:∀b o,b≠X.env.locals->b∈X.fs->b∉ch->s.heap.get? b=some o->H b=none->∃sl,h'.get? b=some { o with slots:=sl }) (free:∀b o,b∉ch->s.heap.get? b=some o->H b=none->H' b=none)
  (there:∀b o,b∉ch->s.heap.get? b=some o->∃o',h'.get? b=some o')
  (tups:∀b xs,H b=some (.tup xs)->H' b=some (.tup xs)) (frzs:∀b o u,H b=some (.frz o u)->H' b=some (.frz o u)) (tbls:∀b q,H b=some (.tbl q)->H' b=some (.tbl q))
  (ns:∀m,s.heap.Ns X.env.locals m->h'.Ns X.env.locals m) (hok:lu X.prog X.w H' h') (hg:AllBare g'):
  Inv X ae σ H' { s with heap:=h',gens:=g',drawn:=d',toks:=t' }:=by
 have Wj:∀b o,X.s₀.heap.get? b=some o->b≠X.env.locals:=λb o e=>vS (vQ (vX e) I.ok.above);have Pg:∀b o,X.s₀.heap.get? b=some o->b∉X.ex->b∉ch:=λb o e hx hb=>by
  rcases (pA b hb).1 with z|z
  ·exact hx z
  ·exact absurd (vQ (vX e) z) (Nat.lt_irrefl _)
 have LR:∀x c,X.env.cells.lookup x=some c->∀v,s.heap.IsCell c v->h'.IsCell c v:=λx c e v ⟨o,ho,hd⟩=>by
  have Rh:c∉ch:=λz=>(pA c z).2.2.1 x c e rfl;by_cases hc:c∈X.fs
  ·obtain⟨sl,q⟩:=slot c o (I.cne x c e) hc Rh ho (I.freeC x c e);exact⟨_,q,hd⟩
  ·exact⟨o,keep c o (I.cne x c e) hc Rh ho (I.freeC x c e),hd⟩
 refine⟨I.ok,I.os,hg,⟨λb o e n hb hx=>?_,λb o e n hb hx=>?_,λb o e n hx=>?_,λb o e hx=>?_,λb xs e=>tups b xs (I.base.tups b xs e),λb o xs e=>frzs b o xs (I.base.frzs b o xs e),λb ps e=>?_⟩,?_,λx c e=>?_,?_,λx c e=>?_,λp hp=>?_,hok,I.len⟩
 ·exact keep b o (Wj b o e) hb (Pg b o e hx) (I.base.keep b o e n hb hx) (I.base.free b o e n hx)
 ·obtain⟨sl,e1⟩:=I.base.slot b o e n hb hx;obtain⟨Uq,e2⟩:=slot b _ (Wj b o e) hb (Pg b o e hx) e1 (I.base.free b o e n hx);exact⟨Uq,e2⟩
 ·obtain⟨o',e1⟩:=I.base.there b o e hx;exact free b o' (Pg b o e hx) e1 (I.base.free b o e n hx)
 ·obtain⟨o',e1⟩:=I.base.there b o e hx;exact there b o' (Pg b o e hx) e1
 ·exact tbls b _ (I.base.tbls b ps e)
 ·obtain⟨m,hn,hl⟩:=I.loc;refine⟨m,ns m hn,λi x v e1 e2 e3=>?_⟩;obtain⟨u,r,l⟩:=hl i x v e1 e2 e3;refine⟨u,r,?_⟩;rcases l with l|⟨k,c,e,z⟩
  ·exact .inl l
  ·exact .inr ⟨k,c,e,LR x c e _ z⟩
 ·obtain⟨v,z⟩:=I.cell x c e;exact⟨v,LR x c e v z⟩
 ·obtain⟨m,⟨o,_,_,ho,_⟩,_⟩:=I.loc;exact free _ o (λz=>(pA _ z).2.1 rfl) ho I.free
 ·obtain⟨v,o,ho,hd⟩:=I.cell x c e;exact free c o (λz=>(pA c z).2.2.1 x c e rfl) ho (I.freeC x c e)
 ·obtain⟨e,n,ne,nf,d⟩:=I.pin p hp;have Rh:p.1∉ch:=λz=>(pA p.1 z).2.2.2 p hp rfl;exact⟨keep p.1 p.2 ne nf Rh e n,free p.1 p.2 Rh e n,ne,nf,d⟩
theorem Inv.un {t':Nat}(I:Inv X ae σ H s)(u:Un X.fs [] H H' s.heap h')(hok:lu X.prog X.w H' h'):Inv X ae σ H' { s with heap:=h',toks:=t' }:=by
 obtain⟨m,⟨o,es,ep,ho,r⟩,_⟩:=id I.loc;obtain⟨sl,hL⟩:=u.any ho I.free (by simp);exact I.step (g':=s.gens) (d':=s.drawn) (ch:=[]) (λ_ z=>nomatch z) (λb o _ hb _ e n=>u.keep b o e n hb (by simp)) (λb o _ hb _ e n=>u.slot b o e n hb (by simp)) (λb o _ e n=>u.free b o e n (by simp)) (λb o _ e=>u.there b o e (by simp)) u.tups u.frzs u.tbls (λm' hm=>by
  obtain⟨o',E5,Ph,sD,r'⟩:=hm;rw[ho]at sD;cases sD;exact⟨_,E5,Ph,hL,r'⟩) hok I.bare
theorem Inv.call {g':Array GenState}{t':Nat}{d':Drawn}{ch:List Addr}(I:Inv X ae σ H s)(u:Un (Ey X.stack) ch H H' s.heap h')(hok:lu X.prog X.w H' h')(hg:AllBare g')
  (pA:∀b∈ch,(b∈X.ex∨X.s₀.heap.objs.size<=b)/\b≠X.env.locals/\(∀x c,X.env.cells.lookup x=some c->c≠b)/\∀p∈X.pn++ae,p.1≠b):
  Inv X ae σ H' { s with heap:=h',gens:=g',drawn:=d',toks:=t' }:=by
 obtain⟨m,⟨o,es,ep,ho,r⟩,_⟩:=id I.loc;obtain⟨sl,hL⟩:=u.any ho I.free λz=>(pA _ z).2.1 rfl;exact I.step (ch:=ch) pA (λb o hL hb hc e n=>u.keep b o e n (λz=>(vP (I.stkSub b z)).elim hL hb) hc) (λb o _ _ hc e n=>u.any e n hc) (λb o hc e n=>u.free b o e n hc) (λb o hc e=>u.there b o e hc) u.tups u.frzs u.tbls (λm' hm=>by
  obtain⟨o',E5,Ph,sD,r'⟩:=hm;rw[ho]at sD;cases sD;exact⟨_,E5,Ph,hL,r'⟩) hok hg
theorem Inv.turned {t':Nat}{it:Addr}(I:Inv X ae σ H s)(k:∀b o,b≠it->s.heap.get? b=some o->h'.get? b=some o)(hn:H it=none)(hL:it≠X.env.locals)
  (h1:it∈X.ex∨X.s₀.heap.objs.size<=it) (h2:∀x c,X.env.cells.lookup x=some c->c≠it) (h3:∀p∈X.pn++ae,p.1≠it):Inv X ae σ H { s with heap:=h',toks:=t' }:=by
 have LS:∀b u,H b=some u->b≠it:=λb u e z=>by rw[z,hn]at e;cases e
 refine I.step (g':=s.gens) (d':=s.drawn) (ch:=[it]) (λb hb=>?_) (λb o _ _ hc e _=>k b o (λz=>hc (by simp[z])) e) (λb o _ _ hc e _=>⟨o.slots,k b o (λz=>hc (by simp[z])) e⟩) (λ_ _ _ _ n=>n)
  (λb o hc e=>⟨o,k b o (λz=>hc (by simp[z])) e⟩) (λ_ _ e=>e) (λ_ _ _ e=>e) (λ_ _ e=>e) (λm hm=>?_) (λb u e=>?_) I.bare
 ·have e:b=it:=by simpa using hb
  subst e;exact⟨h1,hL,h2,h3⟩
 ·obtain⟨o,es,ep,ho,r⟩:=hm;exact⟨o,es,ep,k _ o (Ne.symm hL) ho,r⟩
 ·refine(I.hok b u e).stay (λc v hc q=>k c v ?_ q) (λ_ q=>q) (λ_ _ q=>q) λ_ _ _ q=>q;rcases hc with z|z
  ·rw[z];exact LS b u e
  ·exact LS c _ z
theorem Inv.tok (I:Inv X ae σ H s)(t:Nat):Inv X ae σ H { s with toks:=t }:=I.un (h':=s.heap) (t':=t) Un.refl I.hok
theorem Inv.kept (I:Inv X ae σ H s)(k:∀b u,s.heap.get? b=some u->h'.get? b=some u):Inv X ae σ H { s with heap:=h',toks:=t' }:=I.un (Un.kept k) (I.hok.kept k)
theorem Inv.laid (I:Inv X ae σ H s)(k:∀b u,s.heap.get? b=some u->h'.get? b=some u)(hp:s.heap.objs.size<=a)(new:bN X.prog X.w (upd H a o) h' a o):
  Inv X ae σ (upd H a o) { s with heap:=h',toks:=t' }:=I.un (Un.laid k hp (I.hok.fresh hp)) (I.hok.laid k hp new)
theorem Inv.write (I:Inv X ae σ H s)(mu:P4 (H x))(he:e=x∨H e=some (.own x))(k:∀b u,b≠e->s.heap.get? b=some u->h'.get? b=some u)(Pf:∃u,h'.get? e=some u)
  (new:bN X.prog X.w (upd H x o) h' x o):Inv X ae σ (upd H x o) { s with heap:=h',toks:=t' }:=I.un (Un.write mu he k Pf) (I.hok.write mu he k Pf new)
theorem Inv.pins_of (I:Inv X ae σ H s)(h:∀p∈Hn,s.heap.get? p.1=some p.2/\H p.1=none/\p.1≠X.env.locals/\p.1∉X.fs/\∀v,p.2.data≠.cell v):Inv X Hn σ H s :=
 ⟨I.ok,I.os,I.bare,I.base,I.loc,I.cell,I.free,I.freeC,λp hp=>(List.mem_append.mp hp).elim (λz=>I.pin p (List.mem_append_left _ z)) (h p),I.hok,I.len⟩
theorem xB {N:List Str}(hN:N.Nodup){i j:Nat}{x:Str}(a:N[i]? = some x)(b:N[j]? = some x):i=j:=by
 obtain⟨h1,e1⟩:=vV a;obtain⟨h2,e2⟩:=vV b;exact(List.getElem_inj hN).mp (e1.trans e2.symm)
theorem t7 {M:Model}{A:Around}{E:Value->Shared->Prop}{i:Nat}{x:Str}{v:V}{u:Value}{Q:Unit->Shared->Prop}(I:Inv X ae σ H s)(hN:X.N.Nodup)(hi:X.N[i]? = some x)(hx:HL X.env.scope x)(r:aU v u)
  (h:∀s',Inv X ae (σ.set i (some v)) H s'->(∃a,Heap.SameBut a s.heap s'.heap/\(a=X.env.locals∨X.env.cells.lookup x=some a))->Q () s') (hf:X.fn x=true∨X.env.scope.names.lookup x=some .local:=by first|exact .inl rfl|exact .inr rfl|assumption):wpAny M A (storeName X.env x u) Q E s:=by
 obtain⟨m,hn,hl⟩:=id I.loc;have Ur:(X.env.scope.kind == .class || (X.env.scope.kind == .module && X.env.locals != X.env.globals))=false:=by rw[I.ok.kind];rfl
 have El:i<σ.length:=by rw[I.len];exact(vV hi).1
 have cne:=I.cne;have CN:∀ {a:Addr}{h':Heap},(∃o,s.heap.get? a=some o/\H a=none)->Heap.SameBut a s.heap h'->lu X.prog X.w H h':=λ{a h'} ha hs b ob e=>by
  obtain⟨_,_,LU⟩:=ha;refine(I.hok b ob e).stay (λc w' hc q=>(hs.2 c ?_).trans q) (λ_ q=>q) (λ_ _ q=>q) λ_ _ _ q=>q;rintro rfl;rcases hc with rfl|hc
  ·rw[LU]at e;cases e
  ·rw[LU]at hc;cases hc
 rcases hx with hk|hk
 ·refine wpAny_storeName_local hk hn (λh' Ri hs=>?_) Ur;obtain⟨oL,_,_,K0,_⟩:=id hn;refine h _ ⟨I.ok,I.os,I.bare,⟨λb o e n hb hx=>?_,λb o e n hb hx=>?_,I.base.free,λb o e hx=>?_,I.base.tups,I.base.frzs,I.base.tbls⟩,⟨_,Ri,λj y v' e1 e2 e3=>?_⟩,λy c e=>?_,I.free,I.freeC,λp hp=>?_,CN ⟨oL,K0,I.free⟩ hs,by simpa using I.len⟩ ⟨_,hs,.inl rfl⟩
  ·exact(hs.2 b (vS (vQ (vX e) I.ok.above))).trans (I.base.keep b o e n hb hx)
  ·obtain⟨sl,e1⟩:=I.base.slot b o e n hb hx;exact⟨sl,(hs.2 b (vS (vQ (vX e) I.ok.above))).trans e1⟩
  ·obtain⟨o',e1⟩:=I.base.there b o e hx;exact⟨o',(hs.2 b (vS (vQ (vX e) I.ok.above))).trans e1⟩
  ·by_cases hj:j=i
   ·subst hj;rw[hi]at e1;cases e1;rw[List.getElem?_set_self El]at e2;cases e2
    exact⟨u,r,.inl ⟨hk,by simp⟩⟩
   ·rw[vB (Ne.symm hj)]at e2;obtain⟨u',r',q⟩:=hl j y v' e1 e2 e3;refine⟨u',r',?_⟩;rcases q with⟨k,e⟩|⟨k,c,e,z⟩
    ·refine .inl ⟨k,?_⟩;have:y≠x:=λe=>hj (xB hN e1 (e ▸ hi));simp[this,e]
    ·exact .inr ⟨k,c,e,z.sameBut hs (cne y c e)⟩
  ·obtain⟨w',z⟩:=I.cell y c e;exact⟨w',z.sameBut hs (cne y c e)⟩
  ·obtain⟨e,n,ne,nf,d⟩:=I.pin p hp;exact⟨(hs.2 p.1 ne).trans e,n,ne,nf,d⟩
 ·have Us:X.fn x=true:=by
   rcases hf with z|z
   ·exact z
   ·rw[z]at hk;cases hk
  obtain⟨c,hc⟩:=I.ok.has x (.inl hk);obtain⟨w',z⟩:=I.cell x c hc;refine wpAny_storeName_cell I.ok.kind hk hc z (λh' K1 hs=>?_);obtain⟨oc,K2,Ut⟩:=id z;refine h { s with heap:=h' } ⟨I.ok,I.os,I.bare,⟨λb o e n hb hx=>?_,λb o e n hb hx=>?_,I.base.free,λb o e hx=>?_,I.base.tups,I.base.frzs,I.base.tbls⟩,⟨m,hn.sameBut hs (Ne.symm (cne x c hc)),λj y v' e1 e2 e3=>?_⟩,λy c' e=>?_,I.free,I.freeC,λp hp=>?_,CN ⟨oc,K2,I.freeC x c hc⟩ hs,by simpa using I.len⟩ ⟨c,hs,.inr hc⟩
  ·exact(hs.2 b (vS (vQ (vX e) (I.ok.cab x c Us hc)))).trans (I.base.keep b o e n hb hx)
  ·obtain⟨sl,e1⟩:=I.base.slot b o e n hb hx;exact⟨sl,(hs.2 b (vS (vQ (vX e) (I.ok.cab x c Us hc)))).trans e1⟩
  ·obtain⟨o',e1⟩:=I.base.there b o e hx;exact⟨o',(hs.2 b (vS (vQ (vX e) (I.ok.cab x c Us hc)))).trans e1⟩
  ·by_cases hj:j=i
   ·subst hj;rw[hi]at e1;cases e1;rw[List.getElem?_set_self El]at e2;cases e2
    exact⟨u,r,.inr ⟨.inl hk,c,hc,K1⟩⟩
   ·rw[vB (Ne.symm hj)]at e2;obtain⟨u',r',q⟩:=hl j y v' e1 e2 e3;refine⟨u',r',?_⟩;rcases q with q|⟨k,c',e,z'⟩
    ·exact .inl q
    ·refine .inr ⟨k,c',e,z'.sameBut hs ?_⟩;rintro rfl;exact hj (xB hN e1 (I.ok.inj _ _ _ e hc ▸ hi))
  ·by_cases hcc:c'=c
   ·subst hcc;exact⟨_,K1⟩
   ·obtain⟨w2,z2⟩:=I.cell y c' e;exact⟨w2,z2.sameBut hs hcc⟩
  ·obtain⟨e,n,ne,nf,d⟩:=I.pin p hp;refine⟨(hs.2 p.1 ?_).trans e,n,ne,nf,d⟩;intro q;rw[q,K2]at e;have q':oc=p.2:=vK e;exact d w' (by rw[←q'];exact Ut)
theorem xC {M:Model}{A:Around}{E:Value->Shared->Prop}{i:Nat}{x:Str}{v:V}{u:Value}{Q:Unit->Shared->Prop}(I:Inv X ae σ H s)(hN:X.N.Nodup)(hi:X.N[i]? = some x)(hx:HL X.env.scope x)(r:aU v u)
  (h:∀s',Inv X ae (σ.set i (some v)) H s'->Q () s') (hf:X.fn x=true∨X.env.scope.names.lookup x=some .local:=by first|exact .inl rfl|exact .inr rfl|assumption):wpAny M A (storeName X.env x u) Q E s :=
 t7 I hN hi hx r (λs' I' _=>h s' I') hf
theorem Inv.call' (I:Inv X ae σ H s)(ho:s'.os=s.os)(u:Un (Ey X.stack) ch H H' s.heap s'.heap)(hok:lu X.prog X.w H' s'.heap)(hg:AllBare s'.gens)
  (pA:∀b∈ch,(b∈X.ex∨X.s₀.heap.objs.size<=b)/\b≠X.env.locals/\(∀x c,X.env.cells.lookup x=some c->c≠b)/\∀p∈X.pn++ae,p.1≠b):Inv X ae σ H' s':=by
 obtain⟨h',g',d',t',o'⟩:=s';have e:o'=s.os:=ho;subst e;exact I.call (g':=g') (t':=t') (d':=d') u hok hg pA
end
abbrev XK:=Value->Option Addr->Hp->Prop
abbrev St:=List (Option V)
abbrev VK:=V->Hp->Prop
abbrev TE:=St->Hp->VK->Prop
abbrev TT:=St->Hp->(Bool->Hp->Prop)->Prop
abbrev TA:=St->Hp->(List V->Hp->Prop)->Prop
structure Ends where
 nx:St->Hp->Prop
 rt:VK
 bk:St->Hp->Prop:=λ_ _=>False
 ct:St->Hp->Prop:=λ_ _=>False
abbrev TS:=Ends->St->Hp->Prop
def EP (X:Cx)(ae:List (Addr×Obj))(σ:St)(Q:VK)(u:Value)(s':Shared):Prop:=∃v H',Inv X ae σ H' s'/\aU v u/\Q v H'
def TP (X:Cx)(ae:List (Addr×Obj))(σ:St)(Q:Bool->Hp->Prop)(b:Bool)(s':Shared):Prop:=∃H',Inv X ae σ H' s'/\Q b H'
def AP (X:Cx)(ae:List (Addr×Obj))(σ:St)(Q:List V->Hp->Prop)(us:List Value)(s':Shared):Prop:=∃vs H',Inv X ae σ H' s'/\aS vs us/\Q vs H'
def SP (X:Cx)(ae:List (Addr×Obj))(D:Ends)(f:Flow)(s':Shared):Prop :=
 match f with
 |.next=>∃σ' H',Inv X ae σ' H' s'/\D.nx σ' H'
 |.brk=>∃σ' H',Inv X ae σ' H' s'/\D.bk σ' H'
 |.cont=>∃σ' H',Inv X ae σ' H' s'/\D.ct σ' H'
 |.ret u=>∃v σ' H',Inv X ae σ' H' s'/\aU v u/\D.rt v H'
def PE (X:Cx)(e:Expr)(t:TE):Prop :=
 ∀(ae:List (Addr×Obj))(s:Shared)(σ:St)(H:Hp)(Q:VK),Inv X ae σ H s->t σ H Q->wq X (eval e X.env) (EP X ae σ Q) X.xe s
def PT (X:Cx)(e:Expr)(t:TT):Prop :=
 ∀(ae:List (Addr×Obj))(s:Shared)(σ:St)(H:Hp)(Q:Bool->Hp->Prop),Inv X ae σ H s->t σ H Q->wq X (isTrue e X.env (eval e X.env)) (TP X ae σ Q) X.xe s
def PW (X:Cx)(e:Expr)(t:TT):Prop :=
 ∀(sE:Sem Value)(ae:List (Addr×Obj))(s:Shared)(σ:St)(H:Hp)(Q:Bool->Hp->Prop),Inv X ae σ H s->t σ H Q->wq X (isTrue e X.env sE) (TP X ae σ Q) X.xe s
theorem PW.pt (h:PW X e t):PT X e t:=h _
def PA (X:Cx)(es:List Expr)(t:TA):Prop :=
 ∀(pos:Pos)(ae:List (Addr×Obj))(s:Shared)(σ:St)(H:Hp)(Q:List V->Hp->Prop),Inv X ae σ H s->t σ H Q->wq X (spliced (backTo pos (starEach es X.env))) (AP X ae σ Q) X.xe s
def PS (X:Cx)(st:Stmt)(t:TS):Prop :=
 ∀(ae:List (Addr×Obj))(s:Shared)(σ:St)(H:Hp)(D:Ends),Inv X ae σ H s->t D σ H->wq X (exec st X.env) (SP X ae D) X.xe s
def t8 (X:Cx)(st:List Stmt)(t:TS):Prop :=
 ∀(ae:List (Addr×Obj))(s:Shared)(σ:St)(H:Hp)(D:Ends),Inv X ae σ H s->t D σ H->wq X (execs st X.env) (SP X ae D) X.xe s
theorem cu {α:Type}{t:Sem α}{Q Q':α->Shared->Prop}{M:Model}{A:Around}{E:Value->Shared->Prop}{s:Shared}(h:wpAny M A t Q E s)(hQ:∀a s,Q a s->Q' a s):wpAny M A t Q' E s:=wpAny_mono h hQ λ_ _ x=>x
section
variable {X:Cx}
theorem ZZ {a b:Expr}{ta tb:TE}(ha:PE X a ta)(hb:PE X b tb){ae:List (Addr×Obj)}{s:Shared}{σ:St}{H:Hp}{R:V->V->Hp->Prop}(I:Inv X ae σ H s)(h:ta σ H λx H1=>tb σ H1 λy H2=>R x y H2)
  {α:Type}{Q:α->Shared->Prop}{f:Value->Value->Sem α}
  (hf:∀v u s2 x y H2,Inv X ae σ H2 s2->aU x v->aU y u->R x y H2->wq X (f v u) Q X.xe s2):
  wq X (eval a X.env) (λv s₁=>wq X (eval b X.env) (λu s₂=>wq X (f v u) Q X.xe s₂) X.xe s₁) X.xe s:=by
 refine cu (ha ae s σ H _ I h) λv s1 ⟨x,H1,I1,r1,q1⟩=>?_;refine cu (hb ae s1 σ H1 _ I1 q1) λu s2 ⟨y,H2,I2,r2,q2⟩=>?_;exact hf v u s2 x y H2 I2 r1 r2 q2
def EA (i:Nat):TE:=λσ H Q=>∃v,σ[i]? = some (some v)/\Q v H
def tC (v:V):TE:=λ_ H Q=>Q v H
theorem kh (hN:X.N[i]? = some x)(hv:Ez X.env.scope x)(hd:(x == ("__debug__" : Str))=false:=by decide)(jj:(x == ("__classdict__" : Str))=false:=by decide):PE X (.Name x pos) (EA i):=by
 intro ae s σ H Q I h;obtain⟨v,e,h⟩:=h;obtain⟨m,hn,hl⟩:=I.loc;obtain⟨u,r,l⟩:=hl i x v hN e hv;have iF:EP X ae σ Q u s:=⟨v,H,I,r,h⟩;rcases l with⟨hk,hm⟩|⟨hk,c,hc,LV⟩
 ·exact wpAny_Name (wpAny_loadName_local I.ok.kind hk hn hm iF) hd
 ·rcases hk with hk|hk
  ·exact wpAny_Name (wpAny_loadName_cell I.ok.kind hk hc LV iF) hd
  ·exact wpAny_Name (wpAny_loadName_free I.ok.kind hk hc LV iF jj) hd
theorem Mq {i j pos}:PE X (.Constant (.int i) j pos) (tC (.int i)):=λ_ _ _ H _ I h=>wpAny_Constant_int ⟨.int i,H,I.tok _,⟨_,rfl⟩,h⟩
theorem P5 {b j pos}:PE X (.Constant (.bool b) j pos) (tC (.bl b)):=λ_ _ _ H _ I h=>Constant_bool ⟨.bl b,H,I,rfl,h⟩
theorem Mr {j pos}:PE X (.Constant .none j pos) (tC .non):=λ_ _ _ H _ I h=>Constant_none ⟨.non,H,I,rfl,h⟩
theorem Ms {x j pos}:PE X (.Constant (.str x) j pos) (tC (.str x)):=λ_ _ _ H _ I h=>Calls.Constant_str ⟨.str x,H,I.tok _,⟨_,rfl⟩,h⟩
def Gl (X:Cx)(x:Str):Prop:=X.env.kindOf x=some .globalImplicit
theorem vq {E:Value->Shared->Prop}{ae:List (Addr×Obj)}{s:Shared}{σ:St}{H:Hp}{x:Str}{u:Value}{pos:Pos}{Q:Value->Shared->Prop}(I:Inv X ae σ H s)(hg:Gl X x)(hm:X.mg x=some u)(h:Q u s)
  (hd:(x == ("__debug__" : Str))=false:=by decide):wq X (eval (.Name x pos) X.env) Q E s :=
 Calls.Name_function_global I.ok.kind hg (Calls.loadGlobal_global (by rw[I.ok.glob];exact I.mod.glob.keeps I.bk) hm h) hd
theorem iS {E:Value->Shared->Prop}{ae:List (Addr×Obj)}{s:Shared}{σ:St}{H:Hp}{x:Str}{u:Value}{pos:Pos}{Q:Value->Shared->Prop}(I:Inv X ae σ H s)(hg:Gl X x)(hm:X.mg x=none)(hv:bootBuiltins x=some u)(h:Q u s)
  (hn:x ≠ "__name__":=by decide) (hd:(x == ("__debug__" : Str))=false:=by decide):wq X (eval (.Name x pos) X.env) Q E s:=by
 obtain⟨mb,h1,h2⟩:=I.mod.blt;exact Calls.Name_function_global I.ok.kind hg (Calls.loadGlobal_builtin (by rw[I.ok.glob];exact I.mod.glob.keeps I.bk) hm (by rw[I.ok.blt];exact h1.keeps I.bk) ((h2 x hn).trans hv) h) hd
theorem Bo (hg:Gl X x)(hm:X.mg x=some u)(r:aU v u)(hd:(x == ("__debug__" : Str))=false:=by decide):PE X (.Name x pos) (tC v) :=
 λ_ _ _ H _ I h=>vq I hg hm ⟨v,H,I,r,h⟩ hd
theorem Ii (hg:Gl X x)(hm:X.mg x=none)(hv:bootBuiltins x=some u)(r:aU v u)(hn:x ≠ "__name__":=by decide)(hd:(x == ("__debug__" : Str))=false:=by decide):PE X (.Name x pos) (tC v) :=
 λ_ _ _ H _ I h=>iS I hg hm hv ⟨v,H,I,r,h⟩ hn hd
def Xv (ta tb:TE)(k:Int->Int->Hp->Prop):St->Hp->Prop:=λσ H=>ta σ H λx H1=>tb σ H1 λy H2=>∃i j,x=.int i/\y=.int j/\k i j H2
variable {a b:Expr}{ta tb:TE}{pos:Pos}
def PC (X:Cx)(op:CmpOp)(a b:Expr)(t:TE):Prop :=
 ∀(ae:List (Addr×Obj))(s:Shared)(σ:St)(H:Hp)(Q:VK),Inv X ae σ H s->t σ H Q ->
  wq X (eval a X.env) (λv s₁=>wq X (eval b X.env) (λu s₂=>wq X (compareOp op v u) (EP X ae σ Q) X.xe s₂) X.xe s₁) X.xe s
theorem jk (b:Expr){op:CmpOp}(h:op≠.In)(h2:op≠.NotIn):behindInMarks op b=false:=by
 have e1:(op == CmpOp.In)=false:=by cases op<;>first|rfl|exact absurd rfl h
 have e2:(op == CmpOp.NotIn)=false:=by cases op<;>first|rfl|exact absurd rfl h2
 cases b<;>simp[behindInMarks,e1,e2]
def P6 (p:Int->Int->Bool)(ta tb:TE):TE:=λσ H Q=>Xv ta tb (λi j H2=>Q (.bl (p i j)) H2) σ H
abbrev Mt:TE->TE->TE:=P6 λi j=>decide (i<j)
abbrev Xw:TE->TE->TE:=P6 λi j=>decide (j<i)
def tB (t:TE):TT:=λσ H Q=>t σ H λx H1=>∃c,x=.bl c/\Q c H1
theorem Mu (h:PC X op a b t)(h1:behindInMarks op b=false:=by first|exact jk _ (by decide) (by decide)|rfl):PE X (.Compare a [op] [b] pos) t:=λae s σ H Q I hw=>wpAny_Compare1 (h ae s σ H Q I hw) h1
theorem Mv {op:CmpOp}{t:TE}(h:PC X op a b t)(h1:behindInMarks op b=false:=by first|exact jk _ (by decide) (by decide)|rfl):PT X (.Compare a [op] [b] pos) (tB t):=by
 intro ae s σ H Q I hw;refine wpAny_isTrue_Compare1 (cu (h ae s σ H _ I hw) λv s1 h1=>cu h1 λu s2 h2=>cu h2 λc s3 ⟨x,H1,I1,r1,q1⟩=>?_) h1;obtain⟨d,rfl,q⟩:=q1;cases r1
 exact wpAny_truthy_bool ⟨H1,I1,q⟩
theorem Mw {e:Expr}{t:TE}(h:PE X e t)(he:∀sE,isTrue e X.env sE=(do let v ←sE;standAt e.pos;holding [v] (truthy v)):=by intro _;rfl):PT X e (tB t):=by
 intro ae s σ H Q I hw;refine isTrue_plain (cu (h ae s σ H _ I hw) λv s1 ⟨x,H1,I1,r1,q1⟩=>?_) (he _);obtain⟨d,rfl,q⟩:=q1;cases r1
 exact wpAny_truthy_bool ⟨H1,I1,q⟩
variable {tA S2:TT}{aD:List Expr}
def P7 (t u:TT):TT:=λσ H Q=>t σ H λc H1=>if c=true then u σ H1 Q else Q false H1
def V3 (t u:TT):TT:=λσ H Q=>t σ H λc H1=>if c=true then Q true H1 else u σ H1 Q
def P8 (t:TT):TT:=λσ H Q=>t σ H λc H1=>Q (!c) H1
theorem Ij (ha:PT X a tA):PW X (.BoolOp .And [a] pos) tA:=by
 intro wh ae s σ H Q I h;refine isTrue_and (cu (ha ae s σ H Q I h) λc s1 e=>?_);cases c with
 |true=>exact isTrue_and_nil e
 |false=>exact e
theorem Mx (ha:PT X a tA):PW X (.BoolOp .Or [a] pos) tA:=by
 intro wh ae s σ H Q I h;refine isTrue_or (cu (ha ae s σ H Q I h) λc s1 e=>?_);cases c with
 |false=>exact isTrue_or_nil e
 |true=>exact e
theorem My (ha:PT X a tA)(hb:PW X (.BoolOp .And (b::aD) pos) S2):PW X (.BoolOp .And (a::b::aD) pos) (P7 tA S2):=by
 intro wh ae s σ H Q I h;refine isTrue_and (cu (ha ae s σ H _ I h) λc s1 ⟨H1,I1,q1⟩=>?_);cases c with
 |true=>exact hb wh ae s1 σ H1 Q I1 q1
 |false=>exact⟨H1,I1,q1⟩
theorem P9 (ha:PT X a tA)(hb:PW X (.BoolOp .Or (b::aD) pos) S2):PW X (.BoolOp .Or (a::b::aD) pos) (V3 tA S2):=by
 intro wh ae s σ H Q I h;refine isTrue_or (cu (ha ae s σ H _ I h) λc s1 ⟨H1,I1,q1⟩=>?_);cases c with
 |true=>exact⟨H1,I1,q1⟩
 |false=>exact hb wh ae s1 σ H1 Q I1 q1
theorem Mz (ha:PT X a tA):PT X (.UnaryOp .Not a pos) (P8 tA):=by
 intro ae s σ H Q I h;exact isTrue_not (ha ae s σ H (λc H1=>Q (!c) H1) I h)
def PB (ta tb:TE):TE:=λσ H Q=>ta σ H λx H1=>∃c,x=.bl c/\if c=true then tb σ H1 Q else Q (.bl false) H1
def Tg (ta tb:TE):TE:=λσ H Q=>ta σ H λx H1=>∃c,x=.bl c/\if c=true then Q (.bl true) H1 else tb σ H1 Q
def PD (ta:TE):TE:=λσ H Q=>ta σ H λx H1=>∃c,x=.bl c/\Q (.bl (!c)) H1
theorem M0 {op}(h:PE X a t):PE X (.BoolOp op [a] pos) t:=λae s σ H Q I hw=>BoolOp_one (h ae s σ H Q I hw)
theorem M2 (ha:PE X a ta)(hb:PE X (.BoolOp .And (b::aD) pos) tb):PE X (.BoolOp .And (a::b::aD) pos) (PB ta tb):=by
 intro ae s σ H Q I h;refine BoolOp_and (cu (ha ae s σ H _ I h) λv s1 ⟨x,H1,I1,r1,q1⟩=>?_);obtain⟨c,rfl,q1⟩:=q1;cases r1
 refine wpAny_truthy_bool ?_;cases c with
 |true=>exact hb ae s1 σ H1 Q I1 q1
 |false=>exact⟨.bl false,H1,I1,rfl,q1⟩
theorem PF (ha:PE X a ta)(hb:PE X (.BoolOp .Or (b::aD) pos) tb):PE X (.BoolOp .Or (a::b::aD) pos) (Tg ta tb):=by
 intro ae s σ H Q I h;refine BoolOp_or (cu (ha ae s σ H _ I h) λv s1 ⟨x,H1,I1,r1,q1⟩=>?_);obtain⟨c,rfl,q1⟩:=q1;cases r1
 refine wpAny_truthy_bool ?_;cases c with
 |false=>exact hb ae s1 σ H1 Q I1 q1
 |true=>exact⟨.bl true,H1,I1,rfl,q1⟩
theorem M3 (ha:PE X a ta):PE X (.UnaryOp .Not a pos) (PD ta):=by
 intro ae s σ H Q I h;refine UnaryOp_ (cu (ha ae s σ H _ I h) λv s1 ⟨x,H1,I1,r1,q1⟩=>?_);obtain⟨c,rfl,q1⟩:=q1;cases r1
 exact not_of (wpAny_truthy_bool ⟨.bl (!c),H1,I1,rfl,q1⟩)
end
def gX (K:Frag)(H:Hp)(a:Addr)(xs:List V):Prop :=
 Rd H a (.lst xs) ∨
  ∃(o:Obj)(its:Array Value)(n:Nat),K.lookup a=some o/\o.cls=.type "list"/\o.dict=none/\o.data=.seq its n/\its.size<=sizeLine/\aS xs its.toList
def jl (K:Frag)(H:Hp)(a:Addr)(xs:List V):Prop :=
 Rd H a (.tup xs) ∨
  ∃(o:Obj)(its:Array Value)(n:Nat),K.lookup a=some o/\o.cls=.type "tuple"/\o.data=.seq its n/\its.size<=sizeLine/\aS xs its.toList
noncomputable def Th:Value->Option V
 |.none=>some .non
 |.bool b=>some (.bl b)
 |.int i _=>some (.int i)
 |.str x _=>some (.str x)
 |.bytes b _=>some (.byt b)
 |.float b _=>some (.flt b)
 |.ref a=>some (.ref a)
 |.type n=>some (.ty n)
 |_=>none
theorem aU.abs (r:aU x u):Th u=some x:=by
 cases x with
 |non=>cases r;rfl
 |bl _=>cases r;rfl
 |int _=>obtain⟨t,rfl⟩:=r;rfl
 |str _=>obtain⟨t,rfl⟩:=r;rfl
 |byt _=>obtain⟨t,rfl⟩:=r;rfl
 |flt _=>obtain⟨t,rfl⟩:=r;rfl
 |ref _=>cases r;rfl
 |ty _=>cases r;rfl
theorem aU.inj (r:aU x u)(q:aU y u):x=y:=vK (r.abs.symm.trans q.abs)
theorem aS.inj:∀ {xs ys:List V}{us:List Value},aS xs us->aS ys us->xs=ys
 |_,_,_,.nil,.nil=>rfl
 |_,_,_,.cons r t,.cons r' t'=>by rw[r.inj r',aS.inj t t']
section
variable {X:Cx}{ae:List (Addr×Obj)}{σ:St}{H:Hp}{s:Shared}{a:Addr}{xs ys:List V}
theorem gX.of {K:Frag}(h:H a=some (.lst xs)):gX K H a xs:=.inl (.inl h)
theorem jl.of {K:Frag}(h:H a=some (.tup xs)):jl K H a xs:=.inl (.inl h)
theorem Inv.list (I:Inv X ae σ H s)(h:gX X.K H a xs):∃its:List Value,aS xs its/\PlainL s.heap a its.toArray/\xs.length<=sizeLine:=by
 rcases h with h|⟨o,its,n,hk,hc,hd,hs,hz,r⟩
 ·obtain⟨z,its,n,r,e⟩:=h.ok I.hok;exact⟨its,r,⟨_,n,e,rfl,rfl,rfl⟩,z⟩
 ·refine⟨its.toList,r,⟨o,n,I.kIn a o hk,hc,hd,by simpa using hs⟩,?_⟩;have e:=r.length;simp only[vG]at e;omega
theorem Inv.tuple (I:Inv X ae σ H s)(h:jl X.K H a xs):∃its:List Value,aS xs its/\IsTup s.heap a its.toArray/\xs.length<=sizeLine:=by
 rcases h with h|⟨o,its,n,hk,hc,hs,hz,r⟩
 ·obtain⟨z,its,r,p⟩:=h.ok I.hok;exact⟨its,r,p,z⟩
 ·refine⟨its.toList,r,⟨o,I.kIn a o hk,hc,n,by simpa using hs⟩,?_⟩;have e:=r.length;simp only[vG]at e;omega
theorem Inv.list_inj (I:Inv X ae σ H s)(h:gX X.K H a xs)(h':gX X.K H a ys):xs=ys:=by
 obtain⟨its,r,⟨o,n,e,_,_,d⟩,_⟩:=I.list h;obtain⟨its',r',⟨o',n',e',_,_,d'⟩,_⟩:=I.list h';rw[e]at e';cases e';rw[d]at d';injection d' with d1 _;have:its=its':=by simpa using congrArg Array.toList d1
 subst this;exact r.inj r'
theorem Inv.tuple_inj (I:Inv X ae σ H s)(h:jl X.K H a xs)(h':jl X.K H a ys):xs=ys:=by
 obtain⟨its,r,⟨o,e,_,n,d⟩,_⟩:=I.tuple h;obtain⟨its',r',⟨o',e',_,n',d'⟩,_⟩:=I.tuple h';rw[e]at e';cases e';rw[d]at d';injection d' with d1 _;have:its=its':=by simpa using congrArg Array.toList d1
 subst this;exact r.inj r'
end
noncomputable abbrev Cx.wish (X:Cx)(E:Value->Shared->Prop):Cx:={ X with xe:=E }
noncomputable abbrev Cx.nox (X:Cx):Cx:=X.wish λ_ _=>False
theorem Cx.Ok.wish {X:Cx}(ok:X.Ok)(E:Value->Shared->Prop):(X.wish E).Ok :=
 ⟨ok.mod,ok.kind,ok.glob,ok.blt,ok.above,ok.inj,ok.has,ok.cab,ok.hd,ok.frames,ok.stk,ok.exf,ok.bs,ok.bsz,ok.noex,ok.exfs,ok.funs,ok.frf⟩
theorem Cx.Ok.unwish {X:Cx}{E:Value->Shared->Prop}(ok:(X.wish E).Ok):X.Ok :=
 ⟨ok.mod,ok.kind,ok.glob,ok.blt,ok.above,ok.inj,ok.has,ok.cab,ok.hd,ok.frames,ok.stk,ok.exf,ok.bs,ok.bsz,ok.noex,ok.exfs,ok.funs,ok.frf⟩
section
variable {X:Cx}{ae:List (Addr×Obj)}{σ:St}{H:Hp}{s:Shared}{E:Value->Shared->Prop}
theorem Inv.wish (I:Inv X ae σ H s)(E:Value->Shared->Prop):Inv (X.wish E) ae σ H s:=⟨I.ok.wish E,I.os,I.bare,I.base,I.loc,I.cell,I.free,I.freeC,I.pin,I.hok,I.len⟩
theorem Inv.unwish (I:Inv (X.wish E) ae σ H s):Inv X ae σ H s:=⟨I.ok.unwish,I.os,I.bare,I.base,I.loc,I.cell,I.free,I.freeC,I.pin,I.hok,I.len⟩
theorem SP.unwish (h:SP (X.wish E) ae D f s'):SP X ae D f s':=by
 cases f with
 |next=>obtain⟨σ',H',I,q⟩:=h;exact⟨σ',H',I.unwish,q⟩
 |brk=>obtain⟨σ',H',I,q⟩:=h;exact⟨σ',H',I.unwish,q⟩
 |cont=>obtain⟨σ',H',I,q⟩:=h;exact⟨σ',H',I.unwish,q⟩
 |ret u=>obtain⟨v,σ',H',I,r,q⟩:=h;exact⟨v,σ',H',I.unwish,r,q⟩
theorem PE.nox (h:PE X.nox e t):PE X e t:=λae s σ H Q I hw=>
 wpAny_mono (h ae s σ H Q (I.wish _) hw) (λ_ _ ⟨v,H',I',r,q⟩=>⟨v,H',I'.unwish,r,q⟩) λ_ _ z=>False.elim z
theorem PT.nox (h:PT X.nox e t):PT X e t:=λae s σ H Q I hw=>
 wpAny_mono (h ae s σ H Q (I.wish _) hw) (λ_ _ ⟨H',I',q⟩=>⟨H',I'.unwish,q⟩) λ_ _ z=>False.elim z
theorem t8.nox {st:List Stmt}{t:TS}(h:t8 X.nox st t):t8 X st t:=λae s σ H D I hw=>
 wpAny_mono (h ae s σ H D (I.wish _) hw) (λ_ _ q=>q.unwish) λ_ _ z=>False.elim z
end
section
variable {X:Cx}{st:Stmt}{aD:List Stmt}{t u:TS}{e:Expr}{te:TE}{pos:Pos}
def KY:TS:=λD σ H=>D.nx σ H
def PH (t u:TS):TS:=λD σ H=>t { D with nx:=u D } σ H
theorem Ik:t8 X [] KY:=λ_ _ σ H _ I h=>wpAny_execs_nil ⟨σ,H,I,h⟩
theorem EB (h1:PS X st t)(h2:t8 X aD u):t8 X (st::aD) (PH t u):=by
 intro ae s σ H D I h;refine wpAny_execs_cons (cu (h1 ae s σ H { D with nx:=u D } I h) λf s1 q=>?_);cases f with
 |next=>
  obtain⟨σ',H',I',q⟩:=q;exact h2 ae s1 σ' H' D I' q
 |ret v=>exact q
 |brk=>exact q
 |cont=>exact q
theorem Il (h1:PS X st t):t8 X [st] t:=by
 intro ae s σ H D I h;refine wpAny_execs_cons (cu (h1 ae s σ H D I h) λf s1 q=>?_);cases f with
 |next=>exact wpAny_execs_nil q
 |ret v=>exact q
 |brk=>exact q
 |cont=>exact q
def PJ:TS:=λD σ H=>D.ct σ H
theorem xD:PS X (.Continue pos) PJ:=λ_ _ σ H _ I h=>wpAny_Continue ⟨σ,H,I,h⟩
theorem Inv.quiet (I:Inv X ae σ H s):interactive X.env=false:=by simp[interactive,I.ok.kind]
def PK (te:TE):TS:=λD σ H=>te σ H λ_ H1=>D.nx σ H1
theorem Bp (he:PE X e te)(hs:swapsWith e none pos.line X.env=pure false:=by rfl):PS X (.Expr e pos) (PK te):=by
 intro ae s σ H D I h;exact wpAny_Expr_any (cu (he ae s σ H _ I h) λv s1 ⟨x,H1,I1,r1,q1⟩=>⟨σ,H1,I1,q1⟩) I.quiet hs
def M4 (te:TE):TS:=λD σ H=>te σ H D.rt
theorem EC (he:PE X e te):PS X (.Return (some e) pos) (M4 te):=by
 intro ae s σ H D I h;exact wpAny_Return_some (cu (he ae s σ H _ I h) λv s1 ⟨x,H1,I1,r1,q1⟩=>⟨x,σ,H1,I1,r1,q1⟩)
def PL (c:TT)(t u:TS):TS:=λD σ H=>c σ H λb H1=>if b=true then t D σ H1 else u D σ H1
theorem PM {c:Expr}{a b:List Stmt}{tc:TT}(hc:PT X c tc)(ha:t8 X a t)(hb:t8 X b u):PS X (.If c a b pos) (PL tc t u):=by
 intro ae s σ H D I h;refine wpAny_If (cu (hc ae s σ H _ I h) λd s1 ⟨H1,I1,q1⟩=>?_);cases d with
 |true=>exact ha ae s1 σ H1 D I1 q1
 |false=>exact hb ae s1 σ H1 D I1 q1
end
abbrev TG:=V->St->Hp->(St->Hp->Prop)->Prop
abbrev M5:=List V->St->Hp->(St->Hp->Prop)->Prop
def PG (X:Cx)(sG:Expr)(t:TG):Prop :=
 ∀(ae:List (Addr×Obj))(s:Shared)(σ:St)(H:Hp)(v:V)(u:Value)(Q:St->Hp->Prop),Inv X ae σ H s->aU v u->t v σ H Q ->
  wq X (assign sG X.env u) (λ_ s'=>∃σ' H',Inv X ae σ' H' s'/\Q σ' H') X.xe s
def Sh (X:Cx)(ts:List Expr)(t:M5):Prop :=
 ∀(ae:List (Addr×Obj))(s:Shared)(σ:St)(H:Hp)(vs:List V)(us:List Value)(Q:St->Hp->Prop),Inv X ae σ H s->aS vs us->t vs σ H Q ->
  wq X (assignInOrder ((assignEach ts X.env).map (·.2)) us) (λ_ s'=>∃σ' H',Inv X ae σ' H' s'/\Q σ' H') X.xe s
abbrev M6:=V->V->V->Hp->(Hp->Prop)->Prop
def PN (X:Cx)(t:M6):Prop :=
 ∀(ae:List (Addr×Obj))(s:Shared)(σ:St)(H:Hp)(o i v:V)(ov iv u:Value)(Q:Hp->Prop),Inv X ae σ H s->aU o ov->aU i iv->aU v u->t o i v H Q ->
  wq X (setItem ov iv u) (λ_ s'=>∃H',Inv X ae σ H' s'/\Q H') X.xe s
section
variable {X:Cx}{pos:Pos}
def jQ (i:Nat):TG:=λv σ H Q=>Q (σ.set i (some v)) H
theorem Bq (hN:X.N.Nodup)(hi:X.N[i]? = some x)(hx:HL X.env.scope x)(hf:X.fn x=true∨X.env.scope.names.lookup x=some .local:=by first|exact .inl rfl|exact .inr rfl|assumption):PG X (.Name x pos) (jQ i):=by
 intro ae s σ H v u Q I r h;exact wpAny_assign_Name (xC I hN hi hx r (λs' I'=>⟨_,H,I',h⟩) hf)
def PP:M5:=λvs σ H Q=>vs=[]/\Q σ H
def KZ (t:TG)(u:M5):M5:=λvs σ H Q=>∃v r,vs=v::r/\t v σ H λσ' H'=>u r σ' H' Q
theorem vt:Sh X [] PP:=by
 intro ae s σ H vs us Q I r h;obtain⟨e,h⟩:=h;subst e;cases r
 exact assignInOrder_nil ⟨σ,H,I,h⟩
theorem jm {e:Expr}{es:List Expr}{t:TG}{u:M5}(h1:PG X e t)(h2:Sh X es u)
  (hs:(assignEach (e::es) X.env).map (·.2)=assign e X.env::(assignEach es X.env).map (·.2):=by rfl):Sh X (e::es) (KZ t u):=by
 intro ae s σ H vs us Q I r h;obtain⟨v,vr,e1,h⟩:=h;subst e1;cases r with
 |cons r rr=>
  rw[hs];refine assignInOrder_cons (cu (h1 ae s σ H _ _ _ I r h) λ_ s1 ⟨σ1,H1,I1,q1⟩=>?_);exact h2 ae s1 σ1 H1 _ _ Q I1 rr q1
def M7 (K:Frag)(n:Nat)(t:M5):TG:=λv σ H Q=>∃a xs,v=.ref a/\jl K H a xs/\xs.length=n/\t xs σ H Q
theorem zZ (hc:X.calm=true)(h:Sh X es t)
  (hn:(assignEach es X.env).length=n:=by rfl) (nB:(assignEach es X.env).findIdx? (·.1)=none:=by rfl):PG X (.Tuple es k pos) (M7 X.K n t):=by
 intro ae s σ H v u Q I r hw;obtain⟨a,xs,e1,hq,hl,hw⟩:=hw;subst e1;cases r
 obtain⟨its,rv,ht,hz⟩:=I.tuple hq;refine assign_Tuple_tuple (I.ok.hd hc) ht (by simp[hn,←hl,rv.length]) nB λh' hx=>?_;have I1:Inv X ae σ H { s with heap:=h' }:=I.kept (t':=s.toks) λb o e=>hx b o (vS (vX e)) e;exact h ae _ σ H xs _ Q I1 (by simpa using rv) hw
def Ti (to ti:TE)(t:M6):TG:=λv σ H Q=>to σ H λo H1=>ti σ H1 λi H2=>t o i v H2 λH3=>Q σ H3
theorem M8 {o i:Expr}{to ti:TE}{t:M6}(ho:PE X o to)(hi:PE X i ti)(hs:PN X t)
  (ha:∀v,assign (.Subscript o i pos) X.env v=(do
   let ov ←holding [v] (eval o X.env)
   let iv ←holding [v,ov] (eval i X.env)
   standAt pos
   holding [v,ov,iv] (setItem ov iv v)
   release [v,ov,iv] []):=by intro _;rfl):PG X (.Subscript o i pos) (Ti to ti t):=by
 intro ae s σ H v u Q I r h;rw[ha];refine wX (wpAny_holding (cu (ho ae s σ H _ I h) λov s1 ⟨x,H1,I1,r1,q1⟩=>?_));refine wX (wpAny_holding (cu (hi ae s1 σ H1 _ I1 q1) λiv s2 ⟨y,H2,I2,r2,q2⟩=>?_));refine wX (wpAny_standAt (wX (wpAny_holding (cu (hs ae s2 σ H2 x y v ov iv u _ I2 r1 r2 r q2) λ_ s3 ⟨H3,I3,q3⟩=>?_))));exact wpAny_release ⟨σ,H3,I3,q3⟩
def Aa (te:TE)(g:TG):TS:=λD σ H=>te σ H λx H1=>g x σ H1 D.nx
theorem M9 {tg e:Expr}{te:TE}{g:TG}(he:PE X e te)(hg:PG X tg g)(hs:swapsWithSole [tg] e pos.line X.env=pure false:=by rfl)(hw:swappedStores [tg] e X.env=pure none:=by rfl)
  (h1:(assignEach [tg] X.env).map (·.2)=[assign tg X.env]:=by rfl):PS X (.Assign [tg] e pos) (Aa te g):=by
 intro ae s σ H D I h;refine wpAny_Assign_stores (cu (he ae s σ H _ I h) λv s1 ⟨x,H1,I1,r1,q1⟩=>?_) hs hw;rw[h1];exact cu (hg ae s1 σ H1 x v _ I1 r1 q1) λ_ s2 q=>q
theorem vv {i:Nat}{x:Str}{e:Expr}{te:TE}{zL:Pos}(hN:X.N.Nodup)(hi:X.N[i]? = some x)(hx:HL X.env.scope x)(he:PE X e te)(hs:swapsWith e (some (.Name x zL)) pos.line X.env=pure false:=by rfl)(hf:X.fn x=true∨X.env.scope.names.lookup x=some .local:=by first|exact .inl rfl|exact .inr rfl|assumption):
  PS X (.Assign [.Name x zL] e pos) (Aa te (jQ i)):=by
 intro ae s σ H D I h;refine wpAny_Assign_Name (cu (he ae s σ H _ I h) λv s1 ⟨y,H1,I1,r1,q1⟩=>?_) hs;exact xC I1 hN hi hx r1 (λs2 I2=>⟨_,H1,I2,q1⟩) hf
end
section
variable {X:Cx}{pos:Pos}
def ED (c:TT)(tb:TS):TS:=λD σ H=>∃W:Nat->St->Hp->Prop,(∃m,W m σ H)/\∀m σ H,W m σ H ->
 c σ H λb H1=>if b=true then ∃N:St->Hp->Prop,(∀σ' H',N σ' H'->∃m',m'<m/\W m' σ' H')/\tb { D with nx:=N,ct:=N,bk:=D.nx } σ H1 else D.nx σ H1
theorem EE {c:Expr}{body:List Stmt}{tc:TT}{tb:TS}(hp:PassesOwn (model X.prog X.w) X.A X.env X.xe)(hc:PT X c tc)(hb:t8 X body tb):PS X (.While c body [] pos) (ED tc tb):=by
 intro ae s σ H D I h;obtain⟨W,⟨m0,w0⟩,Ho⟩:=h;refine wpAny_While (codeAny_whileLoop (λn s'=>∃σ' H',Inv X ae σ' H' s'/\W n σ' H') ?_ m0 ⟨σ,H,I,w0⟩);rintro n s1 ⟨σ1,H1,I1,w1⟩;refine wpAny_passesOwn hp (cu (hc ae s1 σ1 H1 _ I1 (Ho n σ1 H1 w1)) λb s2 ⟨H2,I2,q2⟩=>?_);cases b with
 |true=>
  obtain⟨N,hN,q2⟩:=q2;rw[if_pos rfl];refine wpAny_passesOwn hp (cu (hb ae s2 σ1 H2 _ I2 q2) λf s3 q3=>?_);cases f with
  |next=>
   obtain⟨σ3,H3,I3,n3⟩:=q3;obtain⟨m',hm,w3⟩:=hN σ3 H3 n3;exact⟨m',hm,σ3,H3,I3,w3⟩
  |cont=>
   obtain⟨σ3,H3,I3,n3⟩:=q3;obtain⟨m',hm,w3⟩:=hN σ3 H3 n3;exact⟨m',hm,σ3,H3,I3,w3⟩
  |brk=>exact q3
  |ret v=>exact q3
 |false=>
  rw[if_neg uX];exact wpAny_execs_nil ⟨σ1,H2,I2,q2⟩
end
structure It where
 go:Nat->Hp->Prop
 yld:Nat->Hp->V->Hp->Prop
 stop:Nat->Hp->Prop
def nE (X:Cx)(ae:List (Addr×Obj))(H:Hp)(b:Addr):Prop :=
 H b=none/\b≠X.env.locals/\b∉X.fs/\(b∈X.ex∨X.s₀.heap.objs.size<=b)/\(∀x c,X.env.cells.lookup x=some c->c≠b)/\∀p∈X.pn++ae,p.1≠b
theorem Inv.fpOk (I:Inv X ae σ H s)(hb:s.heap.objs.size<=b)(hn:H' b=none):nE X ae H' b:=by
 refine⟨hn,Nat.ne_of_gt (vQ I.lt hb),I.nofs hb,.inr (vR I.sz hb),λx c e z=>?_,λp hp z=>?_⟩
 ·obtain⟨v,q⟩:=I.cell x c e;exact absurd (vQ q.lt (by rw[z];exact hb)) (Nat.lt_irrefl _)
 ·exact absurd (vQ (vX (I.pin p hp).1) (by rw[z];exact hb)) (Nat.lt_irrefl _)
structure Turn (P:Program)(w:World)(K:Frag)(tg:Expr)(J:It)(fp:List Addr)(it:Addr)(tn:Nat->Heap->Prop):Prop where
 mem:it∈fp
 obj:∀i h,tn i h->∀b∈fp,∃o,h.get? b=some o/\∀v,o.data≠.cell v
 keep:∀i h h',tn i h->(∀b∈fp,∀o,h.get? b=some o->h'.get? b=some o)->tn i h'
 item:∀(X:Cx),X.prog=P->X.w=w->X.K=K->X.calm=true->∀(i:Nat)(ae:List (Addr×Obj))(s:Shared)(σ:St)(H:Hp)(E:Value->Shared->Prop),Inv X ae σ H s->(∀b∈fp,nE X ae H b)->tn i s.heap->J.go i H ->
  wpAny (model P w) X.A (pyNext (.ref it)) (λr s1=>∃u,r=some u /\
   wpAny (model P w) X.A (letOwnedTupleGo tg (.ref it) u) (λ_ s2=>∃x H',Inv X ae σ H' s2/\aU x u/\J.yld i H x H'/\tn (i+1) s2.heap/\∀b∈fp,H' b=none) E s1) E s
 done:∀(X:Cx),X.prog=P->X.w=w->X.K=K->X.calm=true->∀(i:Nat)(ae:List (Addr×Obj))(s:Shared)(σ:St)(H:Hp)(E:Value->Shared->Prop),Inv X ae σ H s->(∀b∈fp,nE X ae H b)->tn i s.heap->J.stop i H ->
  wpAny (model P w) X.A (pyNext (.ref it)) (λr s1=>r=none/\Inv X ae σ H s1) E s
 self:∀(A:Around)(i:Nat)(s:Shared)(Q:Value->Shared->Prop)(E:Value->Shared->Prop),tn i s.heap->Q (.ref it) s->wpAny (model P w) A (pyIter (.ref it)) Q E s
abbrev TI:=St->Hp->(It->Hp->Prop)->Prop
def Tj (X:Cx)(ae:List (Addr×Obj))(σ:St)(tg:Expr)(R:It->Hp->Prop)(S3:Value)(s2:Shared):Prop :=
 ∃(it:Addr)(fp:List Addr)(tn:Nat->Heap->Prop)(J:It)(H':Hp),S3=.ref it/\Inv X ae σ H' s2/\Turn X.prog X.w X.K tg J fp it tn/\tn 0 s2.heap/\(∀b∈fp,nE X ae H' b)/\R J H'
def PI (X:Cx)(tg di:Expr)(wi:TI):Prop :=
 ∀(ae:List (Addr×Obj))(s:Shared)(σ:St)(H:Hp)(R:It->Hp->Prop),Inv X ae σ H s->wi σ H R ->
  wq X (eval di X.env) (λv s1=>wq X (pyIter v) (Tj X ae σ tg R) X.xe s1) X.xe s
theorem pR (ho:s.heap.get? it=some o)(hc:o.cls=.type n)(hd:o.data=.fields vs)
    (hn:["enumerate","zip","dict_itemiterator","dict_reverseitemiterator","odict_iterator","itertools.zip_longest","itertools.pairwise"].contains n=false) (hQ:Q () s):wpAny M A (letOwnedTupleGo tg (.ref it) u) Q E s:=by
  unfold letOwnedTupleGo;cases tg<;>first
    |exact wY hQ
    | (cases u<;>first
        |exact wY hQ
        | (refine wX (wpAny_load ho ?_)
           rw[hc,hd]
           show wpAny M A (if(["enumerate","zip","dict_itemiterator","dict_reverseitemiterator","odict_iterator","itertools.zip_longest","itertools.pairwise"].contains n && vs[0]? == some (rawInt _))=true then _ else _) Q E s
           rw[if_neg (by intro h;rw[hn,Bool.false_and]at h;cases h)]
           exact wY hQ))
noncomputable def V4 (K:Frag)(a:Addr):It :=
 ⟨λi H=>∃xs x,gX K H a xs/\xs[i]? = some x,λi H x H'=>H'=H/\∀xs,gX K H a xs->xs[i]? = some x,λi H=>∃xs,gX K H a xs/\xs.length<=i⟩
noncomputable def V5 (K:Frag)(a:Addr):It :=
 ⟨λi H=>∃xs x,jl K H a xs/\xs[i]? = some x,λi H x H'=>H'=H/\∀xs,jl K H a xs->xs[i]? = some x,λi H=>∃xs,jl K H a xs/\xs.length<=i⟩
noncomputable def Si (lo:Int)(n:Nat):It:=⟨λi _=>i<n,λi H x H'=>H'=H/\x=.int (lo+i),λi _=>n<=i⟩
theorem Db {P:Program}{w:World}{K:Frag}{tg:Expr}(a it:Addr):Turn P w K tg (V4 K a) [it] it (λi h=>h.IsListIter it a i) where
 mem:=by simp
 obj:=λi h st b hb=>by
  have e:b=it:=by simpa using hb
  subst e;obtain⟨o,e,c,d⟩:=st;exact⟨o,e,λv z=>by rw[d]at z;cases z⟩
 keep:=λi h h' st k=>st.at λo e=>k it (by simp) o e
 item:=by
  intro X hP hw hK hc i ae s σ H E I hf st hg;subst hP hw hK;obtain⟨xs,x,hq,hx⟩:=hg;obtain⟨its,rv,p,hz⟩:=I.list hq;obtain⟨u,hu,ru⟩:=rv.get hx;obtain⟨f0,f1,f2,f3,f4,f5⟩:=hf it (by simp);refine wpAny_pyNext_list_item st p.isList (x:=u) (by simpa using hu) λh' kU sb=>?_;have I1:Inv X ae σ H { s with heap:=h' }:=I.turned (t':=s.toks) (λb o hb e=>(sb.2 b hb).trans e) f0 f1 f3 f4 f5;obtain⟨o,e,c,d⟩:=id kU;exact⟨u,rfl,pR (s:={ s with heap:=h' }) e c d (by decide) ⟨x,H,I1,ru,⟨rfl,λys hy=>by rw[I.list_inj hy hq];exact hx⟩,kU,λb hb=>(hf b hb).1⟩⟩
 done:=by
  intro X hP hw hK hc i ae s σ H E I hf st hg;subst hP hw hK;obtain⟨xs,hq,hx⟩:=hg;obtain⟨its,rv,p,hz⟩:=I.list hq;obtain⟨f0,f1,f2,f3,f4,f5⟩:=hf it (by simp);have hl:=rv.length;exact wpAny_pyNext_list_end (I.ok.hd hc) st p.isList (by simp;omega) λh' eb=>⟨rfl,I.turned (t':=s.toks) (λb o hb e=>eb b o hb e) f0 f1 f3 f4 f5⟩
 self:=λ_ _ _ _ _ st h=>wpAny_pyIter_listiter st h
theorem Ab {P:Program}{w:World}{K:Frag}{tg:Expr}(a it:Addr):Turn P w K tg (V5 K a) [it] it (λi h=>h.IsTupleIter it a i) where
 mem:=by simp
 obj:=λi h st b hb=>by
  have e:b=it:=by simpa using hb
  subst e;obtain⟨o,e,c,d⟩:=st;exact⟨o,e,λv z=>by rw[d]at z;cases z⟩
 keep:=λi h h' st k=>st.at λo e=>k it (by simp) o e
 item:=by
  intro X hP hw hK hc i ae s σ H E I hf st hg;subst hP hw hK;obtain⟨xs,x,hq,hx⟩:=hg;obtain⟨its,rv,p,hz⟩:=I.tuple hq;obtain⟨u,hu,ru⟩:=rv.get hx;obtain⟨f0,f1,f2,f3,f4,f5⟩:=hf it (by simp);refine wpAny_pyNext_tuple_item st (show s.heap.IsTuple a its.toArray from p) (x:=u) (by simpa using hu) λh' kU sb=>?_;have I1:Inv X ae σ H { s with heap:=h' }:=I.turned (t':=s.toks) (λb o hb e=>(sb.2 b hb).trans e) f0 f1 f3 f4 f5;obtain⟨o,e,c,d⟩:=id kU;exact⟨u,rfl,pR (s:={ s with heap:=h' }) e c d (by decide) ⟨x,H,I1,ru,⟨rfl,λys hy=>by rw[I.tuple_inj hy hq];exact hx⟩,kU,λb hb=>(hf b hb).1⟩⟩
 done:=by
  intro X hP hw hK hc i ae s σ H E I hf st hg;subst hP hw hK;obtain⟨xs,hq,hx⟩:=hg;obtain⟨its,rv,p,hz⟩:=I.tuple hq;obtain⟨f0,f1,f2,f3,f4,f5⟩:=hf it (by simp);have hl:=rv.length;exact wpAny_pyNext_tuple_end (I.ok.hd hc) st (show s.heap.IsTuple a its.toArray from p) (by simp;omega) λh' eb=>⟨rfl,I.turned (t':=s.toks) (λb o hb e=>eb b o hb e) f0 f1 f3 f4 f5⟩
 self:=λ_ _ _ _ _ st h=>wpAny_pyIter_tupleiter st h
theorem Ac {P:Program}{w:World}{K:Frag}{tg:Expr}(it:Addr)(lo:Int)(n:Nat):Turn P w K tg (Si lo n) [it] it (λi h=>IsRangeIter h it (lo+(i:Nat)*1) ((n:Int) - (i:Nat)) 1) where
 mem:=by simp
 obj:=λi h st b hb=>by
  have e:b=it:=by simpa using hb
  subst e;exact⟨_,st,λv z=>by
   have z':Data.fields _=Data.cell v:=z;cases z'⟩
 keep:=λi h h' st k=>k it (by simp) _ st
 item:=by
  intro X hP hw hK hc i ae s σ H E I hf st hg;subst hP hw hK;obtain⟨f0,f1,f2,f3,f4,f5⟩:=hf it (by simp);have W:=Walks.range (prog:=X.prog) (w:=X.w) (I.ok.hd hc) it lo 1 n;refine W.item i s _ _ hg st λv h' tk hv kU kk=>?_;obtain⟨t,rfl⟩:=hv;have I1:Inv X ae σ H { s with heap:=h',toks:=tk }:=I.turned (λb o hb e=>kk b o (by simpa using hb) e) f0 f1 f3 f4 f5;refine⟨_,rfl,pR (s:={ s with heap:=h',toks:=tk }) (n:="range_iterator") kU rfl rfl (by decide) ⟨.int (lo+i),H,I1,⟨t,?_⟩,⟨rfl,rfl⟩,kU,λb hb=>(hf b hb).1⟩⟩;rw[Int.mul_one]
 done:=by
  intro X hP hw hK hc i ae s σ H E I hf st hg;subst hP hw hK;obtain⟨f0,f1,f2,f3,f4,f5⟩:=hf it (by simp);exact wpAny_pyNext_range_end (I.ok.hd hc) st (by have:n<=i:=hg;omega) λh' eb=>⟨rfl,I.turned (t':=s.toks) (λb o hb e=>eb b o hb e) f0 f1 f3 f4 f5⟩
 self:=λ_ _ _ _ _ st h=>wpAny_pyIter_rangeiter st h
section
variable {X:Cx}{tg:Expr}
def PQ (K:Frag)(tl:TE):TI:=λσ H R=>tl σ H λx H1=>∃a,x=.ref a/\(∃xs,gX K H1 a xs)/\R (V4 K a) H1
def Tk (K:Frag)(tl:TE):TI:=λσ H R=>tl σ H λx H1=>∃a,x=.ref a/\(∃xs,jl K H1 a xs)/\R (V5 K a) H1
theorem Im {l:Expr}{tl:TE}(hl:PE X l tl):PI X tg l (PQ X.K tl):=by
 intro ae s σ H R I h;refine cu (hl ae s σ H _ I h) λv s1 ⟨x,H1,I1,r1,q1⟩=>?_;obtain⟨a,e,⟨xs,hq⟩,q⟩:=q1;subst e;cases r1
 obtain⟨its,rv,p,hz⟩:=I1.list hq;refine wpAny_pyIter_list p.isList ?_;refine⟨s1.heap.objs.size,[s1.heap.objs.size],_,_,H1,rfl,I1.kept (t':=s1.toks) λb o e=>vZ _ e,Db a _,⟨_,vY _ rfl,rfl,rfl⟩,λb hb=>?_,q⟩;have e:b=s1.heap.objs.size:=by simpa using hb
 subst e;exact I1.fpOk (vT _) (I1.hok.fresh (vT _))
theorem MA {l:Expr}{tl:TE}(hl:PE X l tl):PI X tg l (Tk X.K tl):=by
 intro ae s σ H R I h;refine cu (hl ae s σ H _ I h) λv s1 ⟨x,H1,I1,r1,q1⟩=>?_;obtain⟨a,e,⟨xs,hq⟩,q⟩:=q1;subst e;cases r1
 obtain⟨its,rv,p,hz⟩:=I1.tuple hq;refine wpAny_pyIter_tuple (show s1.heap.IsTuple a its.toArray from p) ?_;refine⟨s1.heap.objs.size,[s1.heap.objs.size],_,_,H1,rfl,I1.kept (t':=s1.toks) λb o e=>vZ _ e,Ab a _,⟨_,vY _ rfl,rfl,rfl⟩,λb hb=>?_,q⟩;have e:b=s1.heap.objs.size:=by simpa using hb
 subst e;exact I1.fpOk (vT _) (I1.hok.fresh (vT _))
theorem EF {ae:List (Addr×Obj)}{σ:St}{H:Hp}{s:Shared}{R:It->Hp->Prop}{E:Value->Shared->Prop}{lo hi:Int}{t u v:Tok}{tk:Nat}(I:Inv X ae σ H s)(h1 : -(2 ^ 62)<=lo)(h2:lo<2 ^ 62)(h3 : -(2 ^ 62)<=hi)(h4:hi<2 ^ 62)
  (q:R (Si lo (hi - lo).toNat) H):wq X (pyIter (.ref s.heap.objs.size)) (Tj X ae σ tg R) E { s with heap:=s.heap.push { cls:=.type "range",data:=.fields #[.int lo t,.int hi u,.int 1 v] },toks:=tk }:=by
 refine wpAny_pyIter_range (IsRange.new ..) (small_one h1 h2 h3 h4) ?_;have I1:Inv X ae σ H { s with heap:=s.heap.push { cls:=.type "range",data:=.fields #[.int lo t,.int hi u,.int 1 v] },toks:=tk }:=I.kept λb o e=>vZ _ e;refine⟨(s.heap.push { cls:=.type "range",data:=.fields #[.int lo t,.int hi u,.int 1 v] }).objs.size,[(s.heap.push { cls:=.type "range",data:=.fields #[.int lo t,.int hi u,.int 1 v] }).objs.size],_,_,H,rfl,
  I1.kept (t':=tk) λb o e=>vZ _ e,Ac _ lo (hi - lo).toNat,?_,λb hb=>?_,q⟩
 ·have e1:lo+((0:Nat):Int)*1=lo:=by simp
  have e2:(((hi - lo).toNat:Nat):Int) - ((0:Nat):Int)=Builtin.Range.rangeSize lo hi 1:=by rw[rangeSize_one];split<;>omega
  show IsRangeIter _ _ (lo+((0:Nat):Int)*1) ((((hi - lo).toNat:Nat):Int) - ((0:Nat):Int)) 1;rw[e1,e2];exact vY _ rfl
 ·have e:b=(s.heap.push { cls:=.type "range",data:=.fields #[.int lo t,.int hi u,.int 1 v] }).objs.size:=by simpa using hb
  subst e;exact I1.fpOk (vT _) (I1.hok.fresh (vT _))
def PR (ta:TA):TI:=λσ H R=>ta σ H λvs H1=>∃j:Int,vs=[.int j]/\-(2 ^ 62)<=j/\j<2 ^ 62/\R (Si 0 j.toNat) H1
theorem Dc {a:Expr}{ta:TA}{p pos:Pos}(hg:Gl X "range")(hm:X.mg "range" = none)(ha:PA X [a] ta)(hs:starEach [a] X.env=[(false,eval a X.env)]:=by rfl):PI X tg (.Call (.Name "range" p) [a] [] pos) (PR ta):=by
 intro ae s σ H R I h;refine Call_ (iS I hg hm boot_range (PyProof.Rows.callWith_type1 (cu (ha pos ae s σ H _ I h) λus s1 ⟨vs,H1,I1,r1,q1⟩=>?_) hs rfl));obtain⟨j,e,q1,q2,q⟩:=q1;subst e;cases r1 with
 |cons r rr=>
  cases rr
  obtain⟨t,rfl⟩:=r;exact call_range_1 (EF I1 (by omega) (by omega) q1 q2 (by simpa using q))
def MB (wi:TI)(g:TG)(tb:TS):TS:=λD σ H=>wi σ H λJ H1=>∃W:Nat->Nat->St->Hp->Prop,(∃m,W 0 m σ H1)/\∀i m σ H,W i m σ H ->
 (J.stop i H/\D.nx σ H)∨(J.go i H/\∃N:St->Hp->Prop,(∀σ' H',N σ' H'->∃m',m'<m/\W (i+1) m' σ' H')/\∀x H',J.yld i H x H'->g x σ H' λσ2 H2=>tb { D with nx:=N,ct:=N,bk:=D.nx } σ2 H2)
def nF (fp:List Addr)(h:Heap):List (Addr×Obj):=fp.filterMap λb=>(h.get? b).map λo=>(b,o)
theorem j8 {fp:List Addr}{h:Heap}{b:Addr}{o:Obj}(hb:b∈fp)(e:h.get? b=some o):(b,o)∈nF fp h:=List.mem_filterMap.mpr ⟨b,hb,by rw[e];rfl⟩
theorem De (hp:p∈nF fp h):p.1∈fp/\h.get? p.1=some p.2:=by
 obtain⟨b,hb,e⟩:=List.mem_filterMap.mp hp;cases q:h.get? b with
 |none=>rw[q]at e;cases e
 |some o=>
  rw[q]at e;have e':(b,o)=p:=vK e;subst e';exact⟨hb,q⟩
theorem Inv.pinned (I:Inv X ae σ H s)(hf:∀b∈fp,nE X ae H b)(ho:∀b∈fp,∃o,s.heap.get? b=some o/\∀v,o.data≠.cell v):Inv X (ae++nF fp s.heap) σ H s :=
 I.pins_of λp hp=>(List.mem_append.mp hp).elim (λz=>I.pin p (mY _ z)) λz=>by
  obtain⟨hb,e⟩:=De z;obtain⟨f0,f1,f2,_⟩:=hf p.1 hb;obtain⟨o,e',d⟩:=ho p.1 hb;rw[e]at e';cases e';exact⟨e,f0,f1,f2,d⟩
theorem Inv.unpinned (I:Inv X (ae++pl) σ H s):Inv X ae σ H s:=I.pins_of λp hp=>I.pin p (mY _ (List.mem_append_left _ hp))
theorem EG {di:Expr}{body:List Stmt}{wi:TI}{g:TG}{tb:TS}{pos:Pos}(hp:PassesOwn (model X.prog X.w) X.A X.env X.xe)(hc:X.calm=true)(hi:PI X tg di wi)(hg:PG X tg g)(hb:t8 X body tb)
  (hs:∀x,foldedSetIterable di X.env x=pure x:=by intro _;rfl):PS X (.For tg di body [] pos) (MB wi g tb):=by
 intro ae s σ H D I h;refine wpAny_For (cu (hi ae s σ H _ I h) λv s1 h1=>cu h1 λS3 s2 h2=>?_) hs;obtain⟨it,fp,tn,J,H2,e,I2,T,K3,f2,W,⟨m0,w0⟩,Ho⟩:=h2;subst e
 -- what stays true of the iterator's objects through the loop
 have Oq:∀ {H':Hp},(∀b∈fp,H' b=none)->∀b∈fp,nE X ae H' b:=λhn b hb=>⟨hn b hb,(f2 b hb).2⟩;refine codeAny_forLoop_any (λn s'=>∃i σ' H',Inv X ae σ' H' s'/\tn i s'.heap/\(∀b∈fp,H' b=none)/\W i n σ' H') ?_ m0 ⟨0,σ,H2,I2,K3,λb hb=>(f2 b hb).1,w0⟩;rintro n s3 ⟨i,σ3,H3,I3,Wk,Wl,w3⟩;rcases Ho i n σ3 H3 w3 with⟨stop,qn⟩|⟨go,N,hN,step⟩
 ·refine wpAny_passesOwn hp (cu (T.done X rfl rfl rfl hc i ae s3 σ3 H3 X.xe I3 (Oq Wl) Wk stop) λr s4 ⟨hr,I4⟩=>?_);subst hr;exact wpAny_execs_nil ⟨σ3,H3,I4,qn⟩
 ·refine wpAny_passesOwn hp (cu (T.item X rfl rfl rfl hc i ae s3 σ3 H3 X.xe I3 (Oq Wl) Wk go) λr s4 ⟨u,hr,h4⟩=>?_);subst hr;refine wpAny_passesOwn hp (cu h4 λ_ s5 ⟨x,H5,I5,r5,y5,Uu,Uv⟩=>?_);have Yj:=I5.pinned (Oq Uv) (T.obj _ _ Uu);refine wpAny_passesOwn hp (cu (hg _ s5 σ3 H5 x u _ Yj r5 (step x H5 y5)) λ_ s6 ⟨σ6,H6,I6,q6⟩=>?_);refine wpAny_passesOwn hp (cu (hb _ s6 σ6 H6 _ I6 q6) λf s7 q7=>?_);have again:∀ {σ7:St}{H7:Hp},Inv X (ae++nF fp s5.heap) σ7 H7 s7->N σ7 H7->∃m,m<n/\∃i σ' H',Inv X ae σ' H' s7/\tn i s7.heap/\(∀b∈fp,H' b=none)/\W i m σ' H':=λ{σ7 H7} I7 n7=>by
   obtain⟨m',hm,w7⟩:=hN σ7 H7 n7;refine⟨m',hm,i+1,σ7,H7,I7.unpinned,T.keep _ _ _ Uu λb hb o e=>(I7.pin (b,o) (mY _ (mY _ (j8 hb e)))).1,λb hb=>?_,w7⟩;obtain⟨o,e,d⟩:=T.obj _ _ Uu b hb;exact(I7.pin (b,o) (mY _ (mY _ (j8 hb e)))).2.1
  cases f with
  |next=>obtain⟨σ7,H7,I7,n7⟩:=q7;exact again I7 n7
  |cont=>obtain⟨σ7,H7,I7,n7⟩:=q7;exact again I7 n7
  |brk=>obtain⟨σ7,H7,I7,q7⟩:=q7;exact⟨σ7,H7,I7.unpinned,q7⟩
  |ret v=>obtain⟨x7,σ7,H7,I7,r7,q7⟩:=q7;exact⟨x7,σ7,H7,I7.unpinned,r7,q7⟩
end
abbrev R2:=V->V->Hp->VK->Prop
def dI (X:Cx)(f:Value->Value->Sem Value)(r:R2):Prop :=
 ∀(ae:List (Addr×Obj))(s:Shared)(σ:St)(H:Hp)(x y:V)(v u:Value)(Q:VK),Inv X ae σ H s->aU x v->aU y u->r x y H Q ->
  wq X (f v u) (EP X ae σ Q) X.xe s
def PU (X:Cx)(f:Value->Sem Value)(r:V->Hp->VK->Prop):Prop :=
 ∀(ae:List (Addr×Obj))(s:Shared)(σ:St)(H:Hp)(x:V)(v:Value)(Q:VK),Inv X ae σ H s->aU x v->r x H Q ->
  wq X (f v) (EP X ae σ Q) X.xe s
def bQ (X:Cx)(f:Value)(r:List V->Hp->VK->Prop):Prop :=
 ∀(ae:List (Addr×Obj))(s:Shared)(σ:St)(H:Hp)(xs:List V)(us:List Value)(Q:VK),Inv X ae σ H s->aS xs us->r xs H Q ->
  wq X (call f us) (EP X ae σ Q) X.xe s
def Sj (r:R2)(ta tb:TE):TE:=λσ H Q=>ta σ H λx H1=>tb σ H1 λy H2=>r x y H2 Q
def Xx (r:V->Hp->VK->Prop)(ta:TE):TE:=λσ H Q=>ta σ H λx H1=>r x H1 Q
def rI (C:Int->Int->Prop)(g:Int->Int->V):R2:=λx y H Q=>∃i j,x=.int i/\y=.int j/\C i j/\Q (g i j) H
def HM (g:Int->Int->V):R2:=λx y H Q=>∃i j,x=.int i/\y=.int j/\Q (g i j) H
def rU (g:Int->V):V->Hp->VK->Prop:=λx H Q=>∃i,x=.int i/\Q (g i) H
section
variable {X:Cx}{a b c:Expr}{ta tb tc:TE}{pos:Pos}
theorem MC (ha:PE X a ta)(hb:PE X b tb){ae:List (Addr×Obj)}{s:Shared}{σ:St}{H:Hp}{R:V->V->Hp->Prop}(I:Inv X ae σ H s)
  (h:ta σ H λx H1=>tb σ H1 λy H2=>R x y H2) {Q:Value->Shared->Prop}{f:Value->Value->Sem Value}
  (hf:∀v u s2 x y H2,Inv X ae σ H2 s2->aU x v->aU y u->R x y H2->wq X (f v u) Q X.xe s2):
  wq X (eval a X.env) (λv s₁=>wq X (eval b X.env) (λu s₂=>wq X (f v u) Q X.xe s₂) X.xe s₁) X.xe s:=by
 refine cu (ha ae s σ H _ I h) λv s1 ⟨x,H1,I1,r1,q1⟩=>?_;refine cu (hb ae s1 σ H1 _ I1 q1) λu s2 ⟨y,H2,I2,r2,q2⟩=>?_;exact hf v u s2 x y H2 I2 r1 r2 q2
theorem La {op:Operator}{r:R2}(ho:dI X (binaryOp op) r)(ha:PE X a ta)(hb:PE X b tb):PE X (.BinOp a op b pos) (Sj r ta tb):=by
 intro ae s σ H Q I h;exact wpAny_BinOp (MC ha hb I h λv u s2 x y H2 I2 rx ry q=>ho ae s2 σ H2 x y v u Q I2 rx ry q)
theorem PV {op:UnaryOp}{r:V->Hp->VK->Prop}(ho:PU X (unaryOp op) r)(ha:PE X a ta):PE X (.UnaryOp op a pos) (Xx r ta):=by
 intro ae s σ H Q I h;exact UnaryOp_ (cu (ha ae s σ H _ I h) λv s1 ⟨x,H1,I1,r1,q1⟩=>ho ae s1 σ H1 x v Q I1 r1 q1)
theorem Tl {f:Value->Value->Sem Value}{C:Int->Int->Prop}{g:Int->Int->Int}
  (rule:∀(i j:Int)(t u:Tok)(s:Shared)(Q:Value->Shared->Prop)(E:Value->Shared->Prop),C i j->Q (.int (g i j) s.toks) { s with toks:=s.toks+1 }->wq X (f (.int i t) (.int j u)) Q E s):
  dI X f (rI C λi j=>.int (g i j)):=by
 intro ae s σ H x y v u Q I rx ry h;obtain⟨i,j,rfl,rfl,hc,q⟩:=h;obtain⟨t,rfl⟩:=rx;obtain⟨t',rfl⟩:=ry;exact rule i j t t' s _ _ hc ⟨.int (g i j),H,I.tok _,⟨_,rfl⟩,q⟩
theorem MD {f:Value->Value->Sem Value}{g:Int->Int->Int}
  (rule:∀(i j:Int)(t u:Tok)(s:Shared)(Q:Value->Shared->Prop)(E:Value->Shared->Prop),Q (.int (g i j) s.toks) { s with toks:=s.toks+1 }->wq X (f (.int i t) (.int j u)) Q E s):
  dI X f (HM λi j=>.int (g i j)):=by
 intro ae s σ H x y v u Q I rx ry h;obtain⟨i,j,rfl,rfl,q⟩:=h;obtain⟨t,rfl⟩:=rx;obtain⟨t',rfl⟩:=ry;exact rule i j t t' s _ _ ⟨.int (g i j),H,I.tok _,⟨_,rfl⟩,q⟩
theorem Io {f:Value->Value->Sem Value}{g:Int->Int->Bool}
  (rule:∀(i j:Int)(t u:Tok)(s:Shared)(Q:Value->Shared->Prop)(E:Value->Shared->Prop),Q (.bool (g i j)) s->wq X (f (.int i t) (.int j u)) Q E s):
  dI X f (HM λi j=>.bl (g i j)):=by
 intro ae s σ H x y v u Q I rx ry h;obtain⟨i,j,rfl,rfl,q⟩:=h;obtain⟨t,rfl⟩:=rx;obtain⟨t',rfl⟩:=ry;exact rule i j t t' s _ _ ⟨.bl (g i j),H,I,rfl,q⟩
def PX (i j:Int):Prop:=0<j/\j<1073741824
def Ip (i j:Int):Prop:=(-(2 ^ 64)<i/\i<2 ^ 64)∨(-(2 ^ 64)<j/\j<2 ^ 64)
theorem Ip.ok (h:Ip i j):IntMulOk i j:=by
 rcases h with⟨h1,h2⟩|⟨h1,h2⟩
 ·exact .of_left (intBits_le_64 h1 h2)
 ·exact .of_right (intBits_le_64 h1 h2)
theorem ME:dI X (binaryOp .Add) (HM λi j=>.int (i+j)):=MD λ_ _ _ _ _ _ _ q=>add_int q
theorem MF:dI X (binaryOp .Sub) (HM λi j=>.int (i - j)):=MD λ_ _ _ _ _ _ _ q=>sub_int q
theorem MG:dI X (binaryOp .Mult) (rI Ip λi j=>.int (i*j)):=Tl λ_ _ _ _ _ _ _ hc q=>mul_int q hc.ok
theorem Iq:dI X (binaryOp .FloorDiv) (rI PX λi j=>.int (i / j)):=Tl λi j _ _ _ _ _ hc q=>by
 have h1:(0:Int)<j:=hc.1;have h2:j<1073741824:=hc.2;exact floordiv_int (by omega) (by rw[Int.fdiv_eq_ediv_of_nonneg i (by omega)];exact q) (.inl (PyProof.noPylong_small (by omega)))
theorem MH:dI X (binaryOp .Mod) (rI (λ_ j=>0<j) λi j=>.int (i % j)):=Tl λi j _ _ _ _ _ hc q=>by
 have h1:(0:Int)<j:=hc;exact mod_int' (by omega) (by rw[Int.fmod_eq_emod_of_nonneg i (by omega)];exact q)
theorem MI:dI X (binaryOp .BitAnd) (HM λi j=>.int (Builtin.bitAnd i j)):=MD λ_ _ _ _ _ _ _ q=>and_int q
theorem Xy {f:Value->Sem Value}{g:Int->Int}
  (rule:∀(i:Int)(t:Tok)(s:Shared)(Q:Value->Shared->Prop)(E:Value->Shared->Prop),Q (.int (g i) s.toks) { s with toks:=s.toks+1 }->wq X (f (.int i t)) Q E s):
  PU X f (rU λi=>.int (g i)):=by
 intro ae s σ H x v Q I rx h;obtain⟨i,rfl,q⟩:=h;obtain⟨t,rfl⟩:=rx;exact rule i t s _ _ ⟨.int (g i),H,I.tok _,⟨_,rfl⟩,q⟩
theorem MJ:PU X (unaryOp .USub) (rU λi=>.int (-i)):=Xy λ_ _ _ _ _ q=>neg_int q
theorem Df:dI X (binaryOp .Add) (λx y H Q=>∃i k,x=.int i/\y=.bl k/\Q (.int (i+b2i k)) H):=by
 intro ae s σ H x y v u Q I rx ry h;obtain⟨i,k,rfl,rfl,q⟩:=h;obtain⟨t,rfl⟩:=rx;cases ry
 exact add_int_bool ⟨.int (i+b2i k),H,I.tok _,⟨_,rfl⟩,q⟩
end
section
variable {X:Cx}{a b c:Expr}{ta tb tc:TE}{pos:Pos}
theorem PY:dI X (compareOp .Lt) (HM λi j=>.bl (decide (i<j))):=Io λ_ _ _ _ _ _ _ q=>lt_int q
theorem PZ:dI X (compareOp .LtE) (HM λi j=>.bl (decide (i<=j))):=Io λ_ _ _ _ _ _ _ q=>le_int q
theorem Qa:dI X (compareOp .Gt) (HM λi j=>.bl (decide (j<i))):=Io λ_ _ _ _ _ _ _ q=>gt_int q
theorem Qb:dI X (compareOp .GtE) (HM λi j=>.bl (decide (j<=i))):=Io λ_ _ _ _ _ _ _ q=>ge_int q
theorem dI.or (h:dI X f r)(h':dI X f r'):dI X f (λx y H Q=>r x y H Q∨r' x y H Q):=by
 intro ae s σ H x y v u Q I rx ry q;rcases q with q|q
 ·exact h ae s σ H x y v u Q I rx ry q
 ·exact h' ae s σ H x y v u Q I rx ry q
theorem Tn (b:Expr)(h:op≠.In:=by decide)(h2:op≠.NotIn:=by decide):behindInMarks op b=false:=by
 have e1:(op == CmpOp.In)=false:=by cases op<;>first|rfl|exact absurd rfl h
 have e2:(op == CmpOp.NotIn)=false:=by cases op<;>first|rfl|exact absurd rfl h2
 cases b<;>simp[behindInMarks,e1,e2]
theorem Ir (ho:dI X (compareOp op) r)(ha:PE X a ta)(hb:PE X b tb)(hm:behindInMarks op b=false):PE X (.Compare a [op] [b] pos) (Sj r ta tb):=by
 intro ae s σ H Q I h;exact wpAny_Compare1 (MC ha hb I h λv u s2 x y H2 I2 rx ry q=>ho ae s2 σ H2 x y v u Q I2 rx ry q) hm
def Qc (t:TE):TT:=λσ H Q=>t σ H λx H'=>∃k,x=.bl k/\Q k H'
theorem Iu {op:CmpOp}{r:R2}(ho:dI X (compareOp op) r)(ha:PE X a ta)(hb:PE X b tb)(hm:behindInMarks op b=false):PT X (.Compare a [op] [b] pos) (Qc (Sj r ta tb)):=by
 intro ae s σ H Q I h;refine wpAny_isTrue_Compare1 (cu (ha ae s σ H _ I h) λv s1 ⟨x,H1,I1,r1,q1⟩=>cu (hb ae s1 σ H1 _ I1 q1) λu s2 ⟨y,H2,I2,r2,q2⟩=>
  cu (ho ae s2 σ H2 x y v u _ I2 r1 r2 q2) λc s3 ⟨z,H3,I3,r3,k,e,q3⟩=>?_) hm
 subst e;cases r3
 exact wpAny_truthy_bool ⟨H3,I3,q3⟩
def EH (r r':R2)(ta tb tc:TE):TE:=λσ H Q=>ta σ H λx H1=>tb σ H1 λy H2=>r x y H2 λz H3=>∃k,z=.bl k /\
 (if k=true then tc σ H3 λw' H4=>r' y w' H4 Q else Q (.bl false) H3)
theorem EI {op Pj:CmpOp}{r r':R2}(ho:dI X (compareOp op) r)(sD:dI X (compareOp Pj) r')(ha:PE X a ta)(hb:PE X b tb)(hc:PE X c tc)
  (hm:lastMarks [op,Pj] [b,c]=false:=by with_unfolding_all rfl):PE X (.Compare a [op,Pj] [b,c] pos) (EH r r' ta tb tc):=by
 intro ae s σ H Q I h;refine Compare_chain (cu (ha ae s σ H _ I h) λv s1 ⟨x,H1,I1,r1,q1⟩=>chain_link (cu (hb ae s1 σ H1 _ I1 q1) λu s2 ⟨y,H2,I2,r2,q2⟩=>
  cu (ho ae s2 σ H2 x y v u _ I2 r1 r2 q2) λd s3 ⟨z,H3,I3,r3,k,e,q3⟩=>?_)) hm
 subst e;cases r3
 refine wpAny_truthy_bool ?_;cases k with
 |false=>exact ite_ff ⟨.bl false,H3,I3,rfl,q3⟩
 |true=>exact ite_tt (chain_last (cu (hc ae s3 σ H3 _ I3 q3) λw' s4 ⟨z',H4,I4,r4,q4⟩=>sD ae s4 σ H4 y z' u w' Q I4 r2 r4 q4))
theorem nG:(sizeLine:Nat)<2 ^ 63:=by rw[sizeLine_eq];decide
theorem Ad:dI X (binaryOp .Add) (λx y H Q=>∃i j,x=.str i/\y=.str j/\i.length+j.length<=sizeLine/\Q (.str (i++j)) H):=by
 intro ae s σ H x y v u Q I rx ry h;obtain⟨i,j,rfl,rfl,hz,q⟩:=h;obtain⟨t,rfl⟩:=rx;obtain⟨t',rfl⟩:=ry;exact add_str (λt' tk=>⟨.str (i++j),H,I.tok _,⟨_,rfl⟩,q⟩) hz
theorem gK (r:aS [x] us):∃u,us=[u]/\aU x u:=by
 cases r with
 |cons r1 r2=>cases r2;exact⟨_,rfl,r1⟩
theorem EJ (r:aS [x,y] us):∃u w',us=[u,w']/\aU x u/\aU y w':=by
 cases r with
 |cons r1 r2=>
  cases r2 with
  |cons r3 r4=>cases r4;exact⟨_,_,rfl,r1,r3⟩
theorem Dg (hc:X.calm=true):bQ X (.builtin "max") (λxs H Q=>∃i j,xs=[.int i,.int j]/\Q (.int (if j > i then j else i)) H):=by
 intro ae s σ H xs us Q I r h;obtain⟨i,j,rfl,q⟩:=h;obtain⟨u,w',rfl,⟨t,rfl⟩,⟨t',rfl⟩⟩:=EJ r;refine max_two_ints (I.ok.hd hc) λh' tk k=>⟨_,H,I.kept k,?_,q⟩;by_cases hj:j > i
 ·rw[if_pos hj,if_pos hj];exact⟨_,rfl⟩
 ·rw[if_neg hj,if_neg hj];exact⟨_,rfl⟩
theorem Dh (hc:X.calm=true):bQ X (.builtin "min") (λxs H Q=>∃i j,xs=[.int i,.int j]/\Q (.int (if j<i then j else i)) H):=by
 intro ae s σ H xs us Q I r h;obtain⟨i,j,rfl,q⟩:=h;obtain⟨u,w',rfl,⟨t,rfl⟩,⟨t',rfl⟩⟩:=EJ r;refine min_two_ints (I.ok.hd hc) λh' tk k=>⟨_,H,I.kept k,?_,q⟩;by_cases hj:j<i
 ·rw[if_pos hj,if_pos hj];exact⟨_,rfl⟩
 ·rw[if_neg hj,if_neg hj];exact⟨_,rfl⟩
theorem Di:bQ X (.type "int") (λxs H Q=>(∃i,xs=[.int i]/\Q (.int i) H)∨∃k,xs=[.bl k]/\Q (.int (if k then 1 else 0)) H):=by
 intro ae s σ H xs us Q I r h;rcases h with⟨i,rfl,q⟩|⟨k,rfl,q⟩
 ·obtain⟨u,rfl,t,rfl⟩:=gK r;exact call_int_int ⟨.int i,H,I,⟨_,rfl⟩,q⟩
 ·obtain⟨u,rfl,r1⟩:=gK r;cases r1
  exact call_int_bool ⟨.int (if k then 1 else 0),H,I.tok _,⟨_,rfl⟩,q⟩
end
structure K4 (h:Heap)(x dx C:Addr)(mA:Str->Option Value):Prop where
 obj:h.get? x=some (PySem.W.instObj C dx)
 ns:h.Ns1 dx mA
 ne:dx≠x
theorem Dj {h:Heap}{dx:Addr}{mA:Str->Option Value}(n:h.Ns1 dx mA):∃od,h.get? dx=some od/\∀name,PySem.W.lookIn name od=some (mA name):=by
 obtain⟨o,es,ep,ho,hd,hk,_,hm⟩:=n;refine⟨o,ho,λname=>?_⟩;have e:=hm name;unfold nsFind findBy at e;rw[←Array.find?_toList]at e;unfold PySem.W.lookIn;rw[hd];dsimp only;split
 ·rename_i y q;rw[q]at e;exact congrArg some e
 ·rename_i q;rw[q]at e;have a:es.toList.any (·.refKey)=false:=by
   rw[List.any_eq_false];intro y hy;obtain⟨z,t,Em⟩:=hk y (Array.mem_toList_iff.mp hy);simp[DictEntry.refKey,Em]
  have a':¬es.toList.any (·.refKey)=true:=by rw[a];exact uX
  rw[if_neg a'];exact congrArg some e
theorem K4.look (I:K4 h x dx C mA):∃od,PySem.W.InstAt h x (PySem.W.instObj C dx) C (some od)/\∀name,PySem.W.lookIn name od=some (mA name) :=
 let ⟨od,ho,hl⟩:=Dj I.ns
 ⟨od,⟨I.obj,rfl,rfl,ho⟩,hl⟩
section
variable {prog:Program}{w:World}{A:Around}{E:Value->Shared->Prop}{s:Shared}{K:Frag}{x dx C f:Addr}{mA:Str->Option Value}{name:Str}{v:Value}
theorem EK (X:K.In s.heap)(I:K4 s.heap x dx C mA)(hg:PySem.W.plainGet K C name=true)
  (hf:PySem.W.findIn K (.ref C) name=some (some (.ref f))) (ht:PySem.W.isFn K (.ref f)=true) (hv:mA name=none) (h:Q (.ref f,[.ref x]) s):
  wpAny (model prog w) A (getMethod (.ref x) name pl) Q E s:=by
 obtain⟨od,J,hl⟩:=I.look;exact PySem.W.method_fn X J (PySem.W.plainGet_of hg).1 (PySem.W.plainGet_of hg).2 hf (beq_iff_eq.mp ht) (by show(PySem.W.lookIn name od).map (·.isSome)=some false;rw[hl,hv];rfl) h
theorem Qd (X:K.In s.heap)(hm:PySem.W.makesIn K C=true)
  (hi:PySem.W.findIn K (.ref C) "__init__" = some (some (.ref f))) (hf:PySem.W.typeIn K (.ref f)=some (.type "function"))
  (h:codeAny (model prog w) (A.under (.builtin "type.__call__" ⟨.ref C::vs,kw⟩)) (.call (.ref f) ⟨.ref (s.heap.objs.size+1)::vs,kw⟩) (PySem.W.InitBack (s.heap.objs.size+1) R)
   { s with heap:=(s.heap.push PySem.W.emptyDict).push (PySem.W.instObj C s.heap.objs.size) }):
  codeAny (model prog w) A (.call (.ref C) ⟨vs,kw⟩) R s:=by
 obtain⟨hh,g,d,t,os⟩:=s;exact PySem.W.make_core (PySem.W.makes_of X hm) (PySem.W.looks_findIn X hi) (λself=>PySem.W.bind_fn X self hf) (.inl rfl) h
end
theorem ls.some_of (r:ls (some v) o):∃u,o=some u/\aU v u:=by
 cases o with
 |none=>exact(show False from r).elim
 |some u=>exact⟨u,rfl,r⟩
theorem ls.none_of (r:ls none o):o=none:=by
 cases o with
 |none=>rfl
 |some u=>exact(show False from r).elim
section
variable {P:Program}{w:World}{H H':Hp}{h h':Heap}{a C dx:Addr}{fs Yi:List (Str×V)}
theorem Br (hok:lu P w H h)(e:H a=some (.ins C dx fs)):∃mA,K4 h a dx C mA/\(∀f,ls (fs.lookup f) (mA f))/\PySem.Within mA (fs.map (·.1))/\fs.length<=1000/\H dx=some (.own a):=by
 obtain⟨d,z,ne,ob,mA,n,r,q⟩:=(show bN P w H h a (.ins C dx fs)from hok a _ e);exact⟨mA,⟨ob,n,ne⟩,r,q,z,d⟩
end
structure Cls (K:Frag)(C:Addr):Prop where
 pg:PySem.W.plainGet K C Str.empty=true
 hd:PySem.W.hasDictIn K C=true
 po:PySem.W.plainOver K C=true
 sa:PySem.W.findIn K (.ref C) "__setattr__" = some (some (.builtin "object.__setattr__"))
theorem Cls.get {K:Frag}{C:Addr}(c:Cls K C)(f:Str):PySem.W.plainGet K C f=true:=c.pg
def ML (K:Frag)(C:Addr)(f:Str):Prop:=PySem.W.findIn K (.ref C) f=some none
structure Meth (K:Frag)(C:Addr)(m:Str)(f:Addr):Prop where
 at_:PySem.W.findIn K (.ref C) m=some (some (.ref f))
 fn:PySem.W.isFn K (.ref f)=true
 kp:PySem.W.keepIn K (.ref f)=true
section
variable {X:Cx}{ae:List (Addr×Obj)}{σ:St}{H:Hp}{s:Shared}{a C dx:Addr}{fs:List (Str×V)}{f:Str}{v:V}{A:Around}{E:Value->Shared->Prop}
theorem Ae {m:Str}{g:Addr}{pl:Sem Bool}{Q:Value×List Value->Shared->Prop}(I:Inv X ae σ H s)(e:H a=some (.ins C dx fs))(c:Cls X.K C)(k:Meth X.K C m g)(l:fs.lookup m=none)
  (h:Q (.ref g,[.ref a]) s):wpAny (model X.prog X.w) A (getMethod (.ref a) m pl) Q E s:=by
 obtain⟨mA,O,r,_,_,_⟩:=Br I.hok e;have hn:mA m=none:=ls.none_of (by rw[←l];exact r m);exact EK I.kIn O (c.get m) k.at_ k.fn hn h
theorem Inv.made (I:Inv X ae σ H s):Inv X ae σ (upd (upd H s.heap.objs.size (.own (s.heap.objs.size+1))) (s.heap.objs.size+1) (.ins C s.heap.objs.size []))
  { s with heap:=(s.heap.push PySem.W.emptyDict).push (PySem.W.instObj C s.heap.objs.size) }:=by
 have e1:(s.heap.push PySem.W.emptyDict).get? s.heap.objs.size=some PySem.W.emptyDict:=vY s.heap rfl;have e2:((s.heap.push PySem.W.emptyDict).push (PySem.W.instObj C s.heap.objs.size)).get? (s.heap.objs.size+1)=some (PySem.W.instObj C s.heap.objs.size):=by
  have:=vY (s.heap.push PySem.W.emptyDict) (o:=PySem.W.instObj C s.heap.objs.size) rfl;rwa [Heap.size_push]at this
 have e3:(s.heap.push PySem.W.emptyDict).Ns s.heap.objs.size (λ_=>none):=⟨PySem.W.emptyDict,#[],_,e1,rfl,(λe he=>absurd he (by simp)),λ_=>rfl⟩;have I1:=I.laid (a:=s.heap.objs.size) (o:=.own (s.heap.objs.size+1)) (h':=s.heap.push PySem.W.emptyDict) (t':=s.toks) (λb u q=>vZ _ q) (vT _) ⟨_,e1⟩;refine I1.laid (a:=s.heap.objs.size+1) (o:=.ins C s.heap.objs.size []) (t':=s.toks) (λb u q=>vZ _ q) (Nat.le_of_eq (Heap.size_push _ _)) ?_;have ne:s.heap.objs.size≠s.heap.objs.size+1:=vS (Nat.lt_succ_self _);refine⟨by rw[aI ne,aC],uN _,ne,e2,λ_=>none,(Heap.Ns1.of_empty e3).at λo q=>vZ _ q,λ_=>True.intro,λy hy=>absurd rfl hy⟩
end
def Xz (K:Frag)(ta:TE)(f:Str):TE:=λσ H Q=>ta σ H λx H1=>∃a C dx fs v,x=.ref a/\H1 a=some (.ins C dx fs)/\Cls K C/\ML K C f/\fs.lookup f=some v/\Q v H1
section
variable {X:Cx}{o e value:Expr}{f:Str}{pos zL En:Pos}{ta tv:TE}
theorem Lb {pl:Sem Bool}{m:Str}{cV:Pos}{args:List Expr}{ae:List (Addr×Obj)}{s:Shared}{σ:St}{H:Hp}{Q:Value->Shared->Prop}{te:TE}(he:PE X e te)(I:Inv X ae σ H s)
  (h:te σ H λx H1=>∃a C dx fs g,x=.ref a/\H1 a=some (.ins C dx fs)/\Cls X.K C/\Meth X.K C m g/\fs.lookup m=none /\
   ∀s1,Inv X ae σ H1 s1->wq X (callWith pos (.ref g) [.ref a] (backTo pos (starEach args X.env)) (backToKw pos (keywordEach [] X.env))) Q X.xe s1)
  (ht:eval (.Call (.Attribute e m cV) args [] pos) X.env=(do
   let ov ←eval e X.env
   standAt cV.atName
   let (f,first) ←holding [ov] (getMethod ov m pl)
   callWith pos f first (backTo pos (starEach args X.env)) (backToKw pos (keywordEach [] X.env)))):
  wq X (eval (.Call (.Attribute e m cV) args [] pos) X.env) Q X.xe s:=by
 refine PySem.W.methodCall_KW (pl:=pl) (cu (he ae s σ H _ I h) λu s1 ⟨x,H1,I1,rx,a,C,dx,fs,g,ex,ea,c,k,l,q⟩=>?_) ht;subst ex;obtain rfl:u=Value.ref a:=rx;exact Ae I1 ea c k l (q s1 I1)
end
section
variable {X:Cx}{ae:List (Addr×Obj)}{σ:St}{H:Hp}{s:Shared}{A:Around}{E:Value->Shared->Prop}{Q:Value->Shared->Prop}{c:Value}{b:Bool}
inductive TyOf (K:Frag)(H:Hp):V->Value->Prop where
 |non:TyOf K H .non (.type "NoneType")
 |bl (x:Bool):TyOf K H (.bl x) (.type "bool")
 |int (i:Int):TyOf K H (.int i) (.type "int")
 |str (x:Str):TyOf K H (.str x) (.type "str")
 |flt (x:UInt64):TyOf K H (.flt x) (.type "float")
 |lst {a:Addr}{xs:List V}(e:H a=some (.lst xs)):TyOf K H (.ref a) (.type "list")
 |frz {a:Addr}{o:Obj}{xs:List V}(e:H a=some (.frz o (.lst xs))):TyOf K H (.ref a) (.type "list")
 |tup {a:Addr}{xs:List V}(e:H a=some (.tup xs)):TyOf K H (.ref a) (.type "tuple")
 |dK {a:Addr}{aK:List (cz×V)}{ob:Obj}(e:H a=some (.dK aK ob)):TyOf K H (.ref a) (.type "dict")
 |dT {a:Addr}{aK:List (List cz×V)}(e:H a=some (.dT aK)):TyOf K H (.ref a) (.type "dict")
 |ins {a C dx:Addr}{fs:List (Str×V)}(e:H a=some (.ins C dx fs)) (cl:Cls K C) (ha:PySem.W.findIn K (.ref C) "__class__" = some (some (.builtin "object.__class__")))
   (hn:PySem.W.specialIn K (.builtin "object.__class__") "__get__" = some (some (.builtin "getset_descriptor.__get__"))) (Wm:PySem.W.takesIn K (.builtin "object.__class__")=some true)
   (hm:PySem.W.mroIn K C (.type "object")=some true):TyOf K H (.ref a) (.ref C)
theorem gY (I:Inv X ae σ H s)(rx:aU x u)(ty:TyOf X.K H x t)(e:PySem.W.kitOne X.K t c=some b)(h:∀tk,Q (.bool b) { s with toks:=tk }):
  wpAny (model X.prog X.w) A (call (.builtin "isinstance") [u,c]) Q E s:=by
 cases ty with
 |non=>cases (show u=Value.none from rx);exact kia_one PySem.W.kitx_none I.kIn True.intro e (λz=>nomatch z) h
 |bl y=>cases (show u=Value.bool y from rx);exact kia_one PySem.W.kitx_bool I.kIn True.intro e (λz=>nomatch z) h
 |int i=>obtain⟨t,q⟩:=(show ∃t,u=Value.int i t from rx);cases q;exact kia_one PySem.W.kitx_int I.kIn True.intro e (λz=>nomatch z) h
 |str y=>obtain⟨t,q⟩:=(show ∃t,u=Value.str y t from rx);cases q;exact kia_one PySem.W.kitx_str I.kIn True.intro e (λz=>nomatch z) h
 |flt y=>obtain⟨t,q⟩:=(show ∃t,u=Value.float y t from rx);cases q;exact kia_one PySem.W.kitx_float I.kIn True.intro e (λz=>nomatch z) h
 |@lst a xs ea=>
  cases (show u=Value.ref a from rx)
  obtain⟨_,_,n,_,h1⟩:=(show bN X.prog X.w H s.heap a (.lst xs)from I.hok a _ ea);exact kia_one PySem.W.kitx_list I.kIn ⟨_,h1,rfl⟩ e (λz=>nomatch z) h
 |@frz a ob xs ea=>
  cases (show u=Value.ref a from rx)
  obtain⟨_,_,_,n,_,h1⟩:=(show bN X.prog X.w H s.heap a (.frz ob (.lst xs))from I.hok a _ ea);exact kia_one PySem.W.kitx_list I.kIn ⟨_,h1,rfl⟩ e (λz=>nomatch z) h
 |@tup a xs ea=>
  cases (show u=Value.ref a from rx)
  obtain⟨_,_,_,p⟩:=(show bN X.prog X.w H s.heap a (.tup xs)from I.hok a _ ea);obtain⟨o,h1,h2,_⟩:=p;exact kia_one PySem.W.kitx_tuple I.kIn ⟨o,h1,h2⟩ e (λz=>nomatch z) h
 |@dK a aK ob ea=>
  cases (show u=Value.ref a from rx)
  obtain⟨_,_,_,vs,_,p⟩:=(show bN X.prog X.w H s.heap a (.dK aK ob)from I.hok a _ ea);obtain⟨o,es,ep,h1,h2,_⟩:=p;exact kia_one PySem.W.kitx_dict I.kIn ⟨o,h1,h2.1⟩ e (λz=>nomatch z) h
 |@dT a aK ea=>
  cases (show u=Value.ref a from rx)
  obtain⟨_,_,xs,_,o,es,ep,h1,h2,_⟩:=(show bN X.prog X.w H s.heap a (.dT aK)from I.hok a _ ea);exact kia_one PySem.W.kitx_dict I.kIn ⟨o,h1,h2.1⟩ e (λz=>nomatch z) h
 |@ins a C dx fs ea cl ha hn Wm hm=>
  cases (show u=Value.ref a from rx)
  obtain⟨mA,O,_⟩:=Br I.hok ea;obtain⟨od,J,_⟩:=O.look;exact kia_one (PySem.W.kitx_own (cl.get _) cl.hd ha hn Wm hm) I.kIn J e (λz=>nomatch z) h
end
structure eN (k:Nat)(A:Around):Prop where
 hd:A.handled=none
 dp:A.depth+3*k+5<recursionLimit
 un:A.units+16*k+200<cLine
theorem eN.mono (r:eN k A)(h:j<=k):eN j A:=⟨r.hd,by have:=r.dp;omega,by have:=r.un;omega⟩
theorem eN.deeper (r:eN (k+1) A)(env:Env):eN k (A.deeper env) :=
 ⟨r.hd,by have:=r.dp;show A.depth+1+3*k+5<_;omega,by have:=r.un;show A.units+3+16*k+200<_;omega⟩
theorem eN.in1 (r:eN (k+1) A):eN k A.in1 :=
 ⟨r.hd,by have:=r.dp;show A.depth+3*k+5<_;omega,by have:=r.un;show A.units+1+16*k+200<_;omega⟩
theorem eN.depth (r:eN k A):A.depth<recursionLimit:=by have:=r.dp;omega
def Qe:TA:=λ_ H Q=>Q [] H
def Lc (ta:TE)(tr:TA):TA:=λσ H Q=>ta σ H λx H1=>tr σ H1 λxs H2=>Q (x::xs) H2
section
variable {X:Cx}{e:Expr}{es:List Expr}{te:TE}{t:TA}{pos:Pos}
theorem ki:PA X [] Qe:=λ_ _ _ _ H Q I h=>Calls.spliced_nil ⟨[],H,I,.nil,h⟩
theorem iG (ha:PE X e te)(hr:PA X es t)(hs:starEach (e::es) X.env=(false,eval e X.env)::starEach es X.env:=by rfl):PA X (e::es) (Lc te t):=by
 intro pos ae s σ H Q I h;rw[hs];show wpAny _ _ (spliced ((false,eval e X.env)::backTo pos (starEach es X.env))) _ _ s;refine Calls.spliced_cons (cu (ha ae s σ H _ I h) λu s1 ⟨x,H1,I1,r1,q1⟩=>?_);exact cu (hr pos ae s1 σ H1 _ I1 q1) λus s2 ⟨xs,H2,I2,r2,q2⟩=>⟨x::xs,H2,I2,.cons r1 r2,q2⟩
def Qf (t:TA):TE:=λσ H Q=>t σ H λxs H1=>xs.length<=sizeLine/\∀p,H1 p=none->Q (.ref p) (upd H1 p (.tup xs))
def To (t:TA):TE:=λσ H Q=>t σ H λxs H1=>xs.length<=sizeLine/\∀p,H1 p=none->Q (.ref p) (upd H1 p (.lst xs))
theorem Af {x1}(h:PA X es t):PE X (.Tuple es x1 pos) (Qf t):=by
 intro ae s σ H Q I hq;refine wpAny_Tuple_spliced (cu (h pos ae s σ H _ I hq) λus s1 ⟨xs,H1,I1,r,z,q⟩=>⟨by rw[←r.length];exact z,?_⟩);have hf:H1 s1.heap.objs.size=none:=I1.hok.fresh (vT _);refine⟨.ref s1.heap.objs.size,upd H1 s1.heap.objs.size (.tup xs),I1.laid (t':=s1.toks) (λb u e=>vZ _ e) (vT _) ?_,rfl,q _ hf⟩;exact⟨z,us,r,⟨_,vY _ rfl,rfl,_,rfl⟩⟩
theorem MN (h:PA X es t):PE X (.List es pos) (To t):=by
 intro ae s σ H Q I hq;refine wpAny_List_spliced (cu (h pos ae s σ H _ I hq) λus s1 ⟨xs,H1,I1,r,z,q⟩=>⟨by rw[←r.length];exact z,?_⟩);have hf:H1 s1.heap.objs.size=none:=I1.hok.fresh (vT _);refine⟨.ref s1.heap.objs.size,upd H1 s1.heap.objs.size (.lst xs),I1.laid (t':=s1.toks) (λb u e=>vZ _ e) (vT _) ?_,rfl,q _ hf⟩;exact⟨z,us,0,r,vY _ rfl⟩
end
abbrev Sp:=List V->Hp->VK->XK->Prop
abbrev Ld:=List Env->Hp->Shared->XK->Value->Shared->Prop
structure Env0 (P:Program)(w:World)(K:Frag)(mg:Str->Option Value)(base:Heap)(A:Around)(outer:List Env)(s:Shared)(H:Hp):Prop where
 frames:A.frames=some outer
 mod:Mod K mg base
 bs:∀b o,base.get? b=some o->s.heap.get? b=some o/\H b=none
 bsz:base.objs.size<=s.heap.objs.size
 funs:s.heap.FunFrames base outer
 frf:∀b∈Ey outer,H b=none
 hok:lu P w H s.heap
 bare:AllBare s.gens
def CE (outer:List Env)(P:Program)(w:World)(H:Hp)(s:Shared)(Q:VK)(u:Value)(s':Shared):Prop :=
 ∃v H',s'.os=s.os/\AllBare s'.gens/\Un (Ey outer) [] H H' s.heap s'.heap/\lu P w H' s'.heap/\aU v u/\Q v H'
def CR (CX:Ld)(outer:List Env)(P:Program)(w:World)(H:Hp)(s:Shared)(Q:VK)(E:XK)(r:Result)(s':Shared):Prop :=
 match r with
 |.ok (.ret u)=>CE outer P w H s Q u s'
 |.ok _=>False
 |.error e=>CX outer H s E e s'
structure tq (P:Program)(w:World)(K:Frag)(mg:Str->Option Value)(base:Heap)(CX:Ld)(k:Nat)(f:Addr)(fd:FuncData)(ps:List Str)(sp:Sp):Prop where
 len:∀vs H Q E,sp vs H Q E->vs.length=ps.length
 run:∀(A:Around)(outer:List Env)(s:Shared)(H:Hp)(args:Args)(us:List Value)(vs:List V)(Q:VK)(E:XK),eN k A->Env0 P w K mg base A outer s H->BindsTo s fd args (ps.zip us)->aS vs us->sp vs H Q E ->
  codeAny (model P w) A (.call (.ref f) args) (CR CX outer P w H s Q E) s
section
variable {X:Cx}{ae:List (Addr×Obj)}{σ:St}{H:Hp}{s s':Shared}
theorem Inv.env0 (I:Inv X ae σ H s):Env0 X.prog X.w X.K X.mg X.base X.A X.stack s H :=
 ⟨I.ok.frames,I.ok.mod,I.bs,vR I.ok.bsz I.sz,I.stack,I.stkFree,I.hok,I.bare⟩
theorem Inv.after (I:Inv X ae σ H s)(h:CE X.stack X.prog X.w H s Q u s'):EP X ae σ Q u s':=by
 obtain⟨v,H',os,bare,un,hok,r,q⟩:=h;obtain⟨hh,g,d,t,S5⟩:=s';obtain rfl:S5=s.os:=os;exact⟨v,H',I.call (h':=hh) (g':=g) (d':=d) (t':=t) (ch:=[]) un hok bare (λb z=>absurd z (by simp)),r,q⟩
end
def Qg (sp:Sp)(Eo:List V)(E:XK)(t:TA):TE:=λσ H Q=>t σ H λvs H1=>sp (vs++Eo) H1 Q E
def V6 (C:Addr)(m:Str)(sp:Sp)(Eo:List V)(E:XK)(ta:TE)(t:TA):TE:=λσ H Q=>ta σ H λx H1=>∃a dx fs,x=.ref a/\H1 a=some (.ins C dx fs)/\fs.lookup m=none /\
 t σ H1 λvs H2=>sp (x::(vs++Eo)) H2 Q E
def V7 (C:Addr)(sp:Sp)(Eo:List V)(E:XK)(t:TA):TE:=λσ H Q=>t σ H λvs H1=>∀x dx,H1 x=none->H1 dx=none->dx≠x ->
 sp (.ref x::(vs++Eo)) (upd (upd H1 dx (.own x)) x (.ins C dx [])) (λv H2=>v=.non/\Q (.ref x) H2) E
def t9 (K:Frag)(fd:FuncData)(ps:List Str)(ds:List Value):Prop :=
 ∀(s:Shared)(us:List Value),K.In s.heap->(us++ds).length=ps.length->BindsTo s fd ⟨us,[]⟩ (ps.zip (us++ds))
theorem t9.all {K:Frag}{fd:FuncData}{ps:List Str}(h:∀us:List Value,us.length=ps.length->bindArgs fd ⟨us,[]⟩=pure (ps.zip us)):t9 K fd ps []:=λs us _ hl=>by
 rw[uQ]at hl ⊢;exact .of_eq (h us hl)
def Ag (CX:Ld)(X:Cx)(E:XK):Prop:=∀(ae:List (Addr×Obj))(σ:St)(H:Hp)(s:Shared)(e:Value)(s':Shared),Inv X ae σ H s->CX X.stack H s E e s'->X.xe e s'
section
variable {X:Cx}{CX:Ld}{k:Nat}{f C:Addr}{fd:FuncData}{ps:List Str}{sp:Sp}{Eo:List V}{ds:List Value}{E:XK}{x m:Str}{p pos cV:Pos}{e o:Expr}{es:List Expr}{ta:TE}{t:TA}
theorem MO {ae:List (Addr×Obj)}{σ:St}{H:Hp}{s:Shared}{Q:VK}{us:List Value}{vs:List V}(F:tq X.prog X.w X.K X.mg X.base CX k f fd ps sp)(hr:eN k X.A)(hb:t9 X.K fd ps ds)(hd:aS Eo ds)(hx:Ag CX X E)
  (I:Inv X ae σ H s) (r:aS vs us) (h:sp (vs++Eo) H Q E):wq X (call (.ref f) us) (EP X ae σ Q) X.xe s:=by
 have r2:aS (vs++Eo) (us++ds):=r.append hd;have hl:(us++ds).length=ps.length:=by rw[←r2.length];exact F.len _ _ _ _ h
 refine wpAny_call (codeAny_mono (F.run X.A X.stack s H ⟨us,[]⟩ (us++ds) (vs++Eo) Q E hr I.env0 (hb s us I.kIn hl) r2 h) λr s' hq=>?_);cases r with
 |error e=>exact hx ae σ H s e s' I hq
 |ok fl=>
  cases fl with
  |ret u=>exact I.after hq
  |next=>exact False.elim hq
  |brk=>exact False.elim hq
  |cont=>exact False.elim hq
theorem Iv (F:tq X.prog X.w X.K X.mg X.base CX k f fd ps sp)(hr:eN k X.A)(hg:Gl X x)(hm:X.mg x=some (.ref f))(hk:PySem.W.keepIn X.K (.ref f)=true)(hb:t9 X.K fd ps ds)(hd:aS Eo ds)(hx:Ag CX X E)
  (ha:PA X (e::es) t) (tu:(x == ("__debug__" : Str))=false:=by decide) (he:starEach (e::es) X.env=(false,eval e X.env)::starEach es X.env:=by rfl) (mf:(backTo pos (starEach es X.env)).any (·.1)=false:=by rfl):
  PE X (.Call (.Name x p) (e::es) [] pos) (Qg sp Eo E t):=by
 intro ae s σ H Q I h;refine wpAny_Call_Name_kw (vq I hg hm ?_ tu);refine PySem.W.callWith_K (h₀:=X.base) I.ok.mod.kin hk (cu (ha pos ae s σ H _ I h) λus s1 ⟨vs,H1,I1,r,q⟩=>⟨I1.kIn,?_⟩) he mf;exact MO F hr hb hd hx I1 r q
end
structure FnScope (N P:List Str)(sc:Scope):Prop where
 kind:sc.kind=.function
 co:sc.isCoroutine=false
 gen:sc.isGenerator=false
 nd:N.Nodup
 pre:N.take P.length=P
 par:∀x∈P,sc.names.lookup x=some .local∨sc.names.lookup x=some .cell
 nofree:∀y∈sc.names,y.2≠.free
theorem tE {kindOf:Str->Option NameKind}{x:Str}:∀ {binds:List (Str×Value)}{m:Str->Option Value},(∀v,(x,v)∉binds)->bindL kindOf binds m x=m x
 |[],_,_=>rfl
 | (n,v)::r,m,h=>by
  unfold bindL;rw[tE λw hw=>h w (mZ _ hw)];split
  ·have:x≠n:=by rintro rfl;exact h v mX
   simp[this]
  ·rfl
theorem tF {kindOf:Str->Option NameKind}{x:Str}:∀ {binds:List (Str×Value)}{m:Str->Option Value},(∀v,(x,v)∉binds)->bindC kindOf binds m x=m x
 |[],_,_=>rfl
 | (n,v)::r,m,h=>by
  unfold bindC;rw[tF λw hw=>h w (mZ _ hw)];split
  ·rfl
  ·have:x≠n:=by rintro rfl;exact h v mX
   simp[this]
theorem tG {kindOf:Str->Option NameKind}{x:Str}{v:Value}:∀ {P:List Str}{vs:List Value}{i:Nat}{m:Str->Option Value},P.Nodup->P[i]? = some x->vs[i]? = some v->kindOf x=some .local ->
  bindL kindOf (P.zip vs) m x=some v
 |[],_,_,_,_,h,_,_=>by simp at h
 |_::_,[],_,_,_,_,h,_=>by simp at h
 |p::P,w::vs,0,m,nd,h1,h2,hk=>by
  simp at h1 h2;subst h1;subst h2;show bindL kindOf ((p,w)::P.zip vs) m p=_;unfold bindL;rw[tE λv hv=>(List.nodup_cons.mp nd).1 (List.of_mem_zip hv).1,if_pos hk];simp
 |p::P,w::vs,i+1,m,nd,h1,h2,hk=>by
  show bindL kindOf ((p,w)::P.zip vs) m x=_;unfold bindL;exact tG (i:=i) (List.nodup_cons.mp nd).2 (by simpa using h1) (by simpa using h2) hk
theorem tH {kindOf:Str->Option NameKind}{x:Str}{v:Value}:∀ {P:List Str}{vs:List Value}{i:Nat}{m:Str->Option Value},P.Nodup->P[i]? = some x->vs[i]? = some v->kindOf x≠some .local ->
  bindC kindOf (P.zip vs) m x=some v
 |[],_,_,_,_,h,_,_=>by simp at h
 |_::_,[],_,_,_,_,h,_=>by simp at h
 |p::P,w::vs,0,m,nd,h1,h2,hk=>by
  simp at h1 h2;subst h1;subst h2;show bindC kindOf ((p,w)::P.zip vs) m p=_;unfold bindC;rw[tF λv hv=>(List.nodup_cons.mp nd).1 (List.of_mem_zip hv).1,if_neg hk];simp
 |p::P,w::vs,i+1,m,nd,h1,h2,hk=>by
  show bindC kindOf ((p,w)::P.zip vs) m x=_;unfold bindC;exact tH (i:=i) (List.nodup_cons.mp nd).2 (by simpa using h1) (by simpa using h2) hk
noncomputable def jR (N:List Str)(vs:List V):St:=vs.map some++List.replicate (N.length - vs.length) none
noncomputable def pw (CX:Ld)(P:Program)(w:World)(K:Frag)(mg:Str->Option Value)(base:Heap)(N:List Str)(qual:Str)(scope:Scope)(f:Addr)(cd:Value)(A:Around)(outer:List Env)(s:Shared)(H:Hp)(E:XK):Cx where
 prog:=P
 w:=w
 K:=K
 mg:=mg
 base:=base
 A:=A.deeper (envOfC qual scope s.heap.objs.size f cd)
 N:=N
 s₀:=s
 H₀:=H
 env:=envOfC qual scope s.heap.objs.size f cd
 outer:=outer
 stack:=envOfC qual scope s.heap.objs.size f cd::outer
 ex:=[]
 calm:=true
 fn:=λ_=>true
 pn:=[]
 xe:=λe s'=>wpAny (model P w) (A.deeper (envOfC qual scope s.heap.objs.size f cd)) (leaving (envOfC qual scope s.heap.objs.size f cd) e) (λ_ E6=>CX outer H s E e E6) (λe' E6=>CX outer H s E e' E6) s'
theorem xE {sc:Scope}{n:Nat}{x:Str}(h:sc.names.lookup x=some .cell):∃c,(cellsFrom n sc.names []).lookup x=some c:=by
 have q:=PySem.W.cellsFrom_some sc.names n [] (.inl h);exact uU q
theorem Dk {CX:Ld}{P:Program}{w:World}{K:Frag}{mg:Str->Option Value}{base:Heap}{N ps:List Str}{qual:Str}{scope:Scope}{f:Addr}{cd:Value}{A:Around}{outer:List Env}{s s1:Shared}{H:Hp}{E:XK}{us:List Value}{vs:List V}
  (S:FnScope N ps scope) (hd:A.handled=none) (e0:Env0 P w K mg base A outer s H) (hl:vs.length=ps.length) (r:aS vs us)
  (x:InCallC s s.heap.objs.size (bindL (envOfC qual scope s.heap.objs.size f cd).kindOf (ps.zip us) λ_=>none) (cellsFrom (s.heap.objs.size+1) scope.names []) (bindC (envOfC qual scope s.heap.objs.size f cd).kindOf (ps.zip us) λ_=>none) s1):
  Inv (pw CX P w K mg base N qual scope f cd A outer s H E) [] (jR N vs) H s1:=by
 have mf:ps.length<=N.length:=by have:=congrArg List.length S.pre;rw[List.length_take]at this;omega
 obtain⟨h1,tk,rfl,hk⟩:=x.done;have K5:∀b:Addr,b∉(pw CX P w K mg base N qual scope f cd A outer s H E).ex:=λb z=>absurd (show b∈([]:List Addr)from z) (by simp);refine⟨⟨e0.mod,S.kind,rfl,rfl,vT _,λy z c h1 h2=>?_,λy hy=>?_,λy c _ h=>?_,λ_=>hd,Around.frames_deeper e0.frames,.inr ⟨rfl,rfl⟩,λb z=>absurd z (K5 b),e0.bs,e0.bsz,λb _ _=>K5 b,λb z=>absurd z (K5 b),e0.funs,e0.frf⟩,
  rfl,e0.bare,Un.kept hk,⟨_,x.toInCall.ns,λi y v h1 h2 h3=>?_⟩,λy c h=>⟨_,x.cell y c h⟩,e0.hok.fresh (vT _),λy c h=>?_,λp hp=>absurd (show p∈([]:List (Addr×Obj))from hp) (by simp),e0.hok.kept hk,?_⟩
 ·exact name_of_addr x.apart (PySem.mem_of_lookup h1) (PySem.mem_of_lookup h2)
 ·have hy:scope.names.lookup y=some .cell∨scope.names.lookup y=some .free:=hy;rcases hy with hy|hy
  ·exact xE hy
  ·exact absurd rfl (S.nofree _ (PySem.mem_of_lookup hy))
 ·exact Nat.le_of_lt (x.above y c (PySem.mem_of_lookup h))
 ·have hi:i<vs.length:=by
   unfold jR at h2;by_cases hi:i<vs.length
   ·exact hi
   ·rw[List.getElem?_append_right (by simpa using hi)]at h2;rw[List.getElem?_replicate]at h2;split at h2<;>cases h2
  have ha:vs[i]? = some v:=by
   unfold jR at h2;rw[List.getElem?_append_left (by simpa using hi),vA]at h2;cases e:vs[i]? with
   |none=>rw[e]at h2;cases h2
   |some a=>rw[e]at h2;cases h2;rfl
  obtain⟨u,hu,rv⟩:=r.get ha;have hp:ps[i]? = some y:=by
   rw[←S.pre,List.getElem?_take_of_lt (by omega)];exact h1
  have Wn:ps.Nodup:=by rw[←S.pre];exact S.nd.sublist (List.take_sublist _ _)
  refine⟨u,rv,?_⟩;rcases S.par y (vL hp)with k|k
  ·exact .inl ⟨k,tG Wn hp hu k⟩
  ·obtain⟨c,e⟩:=xE (n:=s.heap.objs.size+1) k;refine .inr ⟨.inl k,c,e,?_⟩;have q:=x.cell y c e;rw[tH Wn hp hu (by show scope.names.lookup y≠_;rw[k];decide)]at q;exact q
 ·exact e0.hok.fresh (Nat.le_of_lt (x.above y c (PySem.mem_of_lookup h)))
 ·unfold jR;show _=N.length;rw[uZ,vI,List.length_replicate];omega
theorem Le {CX:Ld}{P:Program}{w:World}{K:Frag}{mg:Str->Option Value}{base:Heap}{k:Nat}{f:Addr}{name qual:Str}{params:Arguments}{body:List Stmt}{scope:Scope}{dV kV doc pm eG ct oc:Value}{an od:Option Addr}
  {pq:Array (Option Value)}{N ps:List Str}{sp:Sp}(lk:K.lookup f=some ⟨oc,od,.func (fnOf name qual params body scope dV kV doc pm an eG ct),pq⟩) (jj:PySem.W.codeIn K eG qual=true) (S:FnScope N ps scope)
  (len:∀vs H Q E,sp vs H Q E->vs.length=ps.length)
  (Ht:∀(A:Around)(outer:List Env)(s:Shared)(H:Hp)(vs:List V)(Q:VK)(E:XK),eN k (A.deeper (envOfC qual scope s.heap.objs.size f eG))->sp vs H Q E ->
   ∃t,t8 (pw CX P w K mg base N qual scope f eG A outer s H E) body t/\t { nx:=λ_ H'=>Q .non H',rt:=Q } (jR N vs) H):
  tq P w K mg base CX (k+1) f (fnOf name qual params body scope dV kV doc pm an eG ct) ps sp:=by
 refine⟨len,λA outer s H args us vs Q E hr e0 hb r Pk=>?_⟩;have hl:=len _ _ _ _ Pk;have KX:K.In s.heap:=e0.mod.kin.keeps λb o e=>(e0.bs b o e).1;have Yk:s.heap.NoLimit:=e0.mod.nolimit.keeps λb o e=>(e0.bs b o e).1;have Rj:∀y∈ps.zip us,scope.names.lookup y.1=some .local∨(scope.names.lookup y.1=some .cell/\((cellsFrom (s.heap.objs.size+1) scope.names []).lookup y.1).isSome=true):=λ⟨n,v⟩ hy=>by
  rcases S.par n (List.of_mem_zip hy).1 with q|q
  ·exact .inl q
  ·exact .inr ⟨q,PySem.W.cellsFrom_some _ _ _ (.inl q)⟩
 refine codeAny_call_function hr.depth (KX _ _ lk) rfl S.co S.gen rfl (PySem.W.codeRec_of KX jj) (hb _ _ _ _ ?_);refine wpAny_newFunctionEnv_cells S.kind Rj λenv he s1 x=>?_;subst he;refine⟨Yk.keeps x.toInCall.keep,codeAny_func ?_⟩;obtain⟨t,ht,hq⟩:=Ht A outer s H vs Q E (hr.deeper _) Pk;have I:Inv (pw CX P w K mg base N qual scope f eG A outer s H E) [] (jR N vs) H s1:=Dk S hr.hd e0 hl r x;refine wpAny_mono (ht [] s1 (jR N vs) H _ I hq) (λfl s' hs=>?_) λe s' hs=>hs;have iF:∀ {σ':St}{H':Hp}{v:V}{u:Value},Inv (pw CX P w K mg base N qual scope f eG A outer s H E) [] σ' H' s'->aU v u->Q v H'->CE outer P w H s Q u s' :=
  λ{σ' H' v u} J rv q=>⟨v,H',J.os,J.bare,J.base,J.hok,rv,q⟩
 cases fl with
 |ret u=>
  obtain⟨v,σ',H',J,rv,q⟩:=hs;exact iF J rv q
 |next=>
  obtain⟨σ',H',J,q⟩:=hs;exact iF (v:=V.non) (u:=Value.none) J rfl q
 |brk=>
  obtain⟨_,_,_,q⟩:=hs;exact False.elim q
 |cont=>
  obtain⟨_,_,_,q⟩:=hs;exact False.elim q
section
variable {X:Cx}{x:Str}{p pos:Pos}{e:Expr}{es:List Expr}{t:TA}{id T:String}{r:List V->Hp->VK->Prop}
def V8 (r:List V->Hp->VK->Prop)(t:TA):TE:=λσ H Q=>t σ H λvs H1=>r vs H1 Q
theorem xF (hc:bQ X (.builtin id) r)(hg:Gl X x)(hm:X.mg x=none)(hv:bootBuiltins x=some (.builtin id))(ha:PA X (e::es) t)(hn:x ≠ "__name__":=by decide)(tu:(x == ("__debug__" : Str))=false:=by decide)
  (he:starEach (e::es) X.env=(false,eval e X.env)::starEach es X.env:=by rfl) (mf:(backTo pos (starEach es X.env)).any (·.1)=false:=by rfl):PE X (.Call (.Name x p) (e::es) [] pos) (V8 r t):=by
 intro ae s σ H Q I h;refine wpAny_Call_Name_kw (iS I hg hm hv ?_ hn tu);exact PyProof.Rows.callWith_builtin1 (cu (ha pos ae s σ H _ I h) λus s1 ⟨vs,H1,I1,r1,q1⟩=>hc ae s1 σ H1 vs us Q I1 r1 q1) he mf
theorem tI (hc:bQ X (.type T) r)(hg:Gl X x)(hm:X.mg x=none)(hv:bootBuiltins x=some (.type T))(ha:PA X (e::es) t)(hn:x ≠ "__name__":=by decide)(tu:(x == ("__debug__" : Str))=false:=by decide)
  (he:starEach (e::es) X.env=(false,eval e X.env)::starEach es X.env:=by rfl) (mf:(backTo pos (starEach es X.env)).any (·.1)=false:=by rfl):PE X (.Call (.Name x p) (e::es) [] pos) (V8 r t):=by
 intro ae s σ H Q I h;refine wpAny_Call_Name_kw (iS I hg hm hv ?_ hn tu);exact PyProof.Rows.callWith_type1 (cu (ha pos ae s σ H _ I h) λus s1 ⟨vs,H1,I1,r1,q1⟩=>hc ae s1 σ H1 vs us Q I1 r1 q1) he mf
end
end L2
namespace HT
open PySem PyProof.Rows
section
open PySem.SeqAt
open PySem.AutoSeq1 (wpAny_loadPart')
open PySem.MeetsSeq PySem.MeetsSeq2 PySem.MeetsSeq3
end
section
variable {prog:Program}{w:World}{A:Around}{E:Value->Shared->Prop}{s:Shared}
theorem Iw (ht:IsTup s.heap t vs.toArray)(hb:IsTup s.heap b ws.toArray)(hv:vs≠[])
  (h1:ws=[]->Q (.ref t) s) (h2:ws≠[]->Q (.ref s.heap.objs.size) { s with heap:=s.heap.push { cls:=.type "tuple",data:=.seq (vs++ws).toArray } })
  (hsz:vs.length+ws.length<=sizeLine):wpAny (model prog w) A (binaryOp .Add (.ref t) (.ref b)) Q E s:=by
 obtain⟨⟨cls,dd,data,sl⟩,ho,hc,n,hd⟩:=id ht;obtain⟨⟨Uw,Ot,data2,S6⟩,K6,zW,n2,Rk⟩:=id hb;simp only at hc hd zW Rk;subst hc hd zW Rk;have e:vs.toArray++ws.toArray=(vs++ws).toArray:=by simp
 by_cases hw:ws=[]
 ·exact concat_meets ⟨_,ho,rfl⟩ ⟨_,K6,rfl⟩ noFill_tuple_add seq_tuple_add PySem.F.slot_tuple_add PySem.F.entry_tuple_add (PySem.F.args_tuple_add_2 _ _)
   (tuple_addW1 t b vs.toArray ws.toArray n n2 dd Ot sl S6 (by simpa using hv) (by simp[hw])) ⟨ho,K6,h1 hw⟩
 ·refine concat_meets ⟨_,ho,rfl⟩ ⟨_,K6,rfl⟩ noFill_tuple_add seq_tuple_add PySem.F.slot_tuple_add PySem.F.entry_tuple_add (PySem.F.args_tuple_add_2 _ _)
   (tuple_addW2 t b vs.toArray ws.toArray n n2 dd Ot sl S6 (by simpa using hv) (by simpa using hw) (by rw[vH,vH];exact hsz)) ⟨ho,K6,?_⟩
  rw[e];exact h2 hw
noncomputable def dY (n d:Nat):Option Int->Nat
 |none=>d
 |some v=>if v<0 then (v+(n:Int)).toNat else min v.toNat n
theorem MP (n d:Nat)(hd:d<=n)(o:Option Int):dY n d o<=n:=by
 cases o with
 |none=>exact hd
 |some v=>
  show(if v<0 then (v+(n:Int)).toNat else min v.toNat n)<=n;by_cases hv:v<0
  ·rw[if_pos hv];omega
  ·rw[if_neg hv];exact Nat.min_le_right _ _
theorem Bt (v:Int)(n d:Nat):(if v<0 then max (v+(n:Int)) 0 else min v (n:Int))=((dY n d (some v):Nat):Int):=by
 show(if v<0 then max (v+(n:Int)) 0 else min v (n:Int))=(((if v<0 then (v+(n:Int)).toNat else min v.toNat n):Nat):Int);by_cases hv:v<0
 ·simp only[if_pos hv];omega
 ·simp only[if_neg hv];omega
theorem Ah (lo hi:Option Int)(n:Nat):Builtin.Slice.sliceAdjust lo hi 1 (n:Int)=(((dY n 0 lo:Nat):Int),((dY n n hi:Nat):Int)):=by
 have h1:¬((1:Int)<0):=by omega
 unfold Builtin.Slice.sliceAdjust;simp only[h1,if_false];refine Prod.ext ?_ ?_
 ·cases lo with
  |none=>rfl
  |some v=>exact Bt v n 0
 ·cases hi with
  |none=>rfl
  |some v=>exact Bt v n n
theorem Ai (i j:Nat):Builtin.Slice.slicePlaces (i:Int) (j:Int) 1=j - i:=by
 unfold Builtin.Slice.slicePlaces;have h1:(1:Int) > 0:=by omega
 simp only[h1,if_true,Int.ediv_one];split<;>omega
theorem pT (p:IsPart v o)(h:Q o s):wpAny (model prog w) A (Builtin.Slice.slicePartIndex v) Q E s:=by
 cases p with
 |none=>exact slicePart_none h
 |int i t=>exact slicePart_int h
theorem jn {sl:Addr}{vl vu:Value}{lo hi:Option Int}{n:Nat}{Q:Int×Int×Nat->Shared->Prop}(hs:s.heap.IsSliceOf sl vl vu .none)(pl:IsPart vl lo)(pu:IsPart vu hi)
  (h:Q (((dY n 0 lo:Nat):Int),1,dY n n hi - dY n 0 lo) s):wpAny (model prog w) A (Builtin.Slice.sliceApplied (.ref sl) (pure (n:Int))) Q E s:=by
 obtain⟨os,K7,xy,Ou⟩:=id hs;unfold Builtin.Slice.sliceApplied Builtin.Slice.sliceFields;refine wX (wX (wpAny_field K7 Ou (x:=vl) rfl (wX (wpAny_field K7 Ou (x:=vu) rfl (wX (wpAny_field K7 Ou (x:=.none) rfl (wY ?_)))))));refine wX (slicePart_none ?_);show wpAny _ _ (if((1:Int) == 0)=true then _ else _) _ _ s;rw[if_neg (by decide)];refine wX (pT pl (wX (pT pu (wX (wY ?_)))));show wpAny _ _ (match Builtin.Slice.sliceAdjust lo hi 1 (n:Int) with|(lo,hi)=>pure (lo,(1:Int),Builtin.Slice.slicePlaces lo hi 1)) _ _ s;rw[Ah lo hi n];show wpAny _ _ (pure (((dY n 0 lo:Nat):Int),(1:Int),Builtin.Slice.slicePlaces ((dY n 0 lo:Nat):Int) ((dY n n hi:Nat):Int) 1)) _ _ s;rw[Ai];exact wY h
theorem EL (xs:Array Value)(i k:Nat):((List.range k).filterMap λ(m:Nat)=>xs[((i:Int)+(m:Int)*1).toNat]?).toArray=((xs.toList.drop i).take k).toArray:=by
 have e:(λ(m:Nat)=>xs[((i:Int)+(m:Int)*1).toNat]?)=λm=>xs[i+m]?:=by
  funext m;have:((i:Int)+(m:Int)*1).toNat=i+m:=by omega
  rw[this]
 rw[e];have:=pick_run xs i k;rw[List.filterMap_map]at this;have e2:((λx=>xs[x]?) ∘ λx=>i+x)=λm=>xs[i+m]?:=rfl;rw[e2]at this;rw[this]
theorem mh {t sl:Addr}{items:Array Value}{vl vu:Value}{lo hi:Option Int}{Q:Value->Shared->Prop}(ht:IsTup s.heap t items)(hs:s.heap.IsSliceOf sl vl vu .none)(pl:IsPart vl lo)(pu:IsPart vu hi)
  (hw:¬(dY items.size 0 lo=0/\dY items.size items.size hi=items.size))
  (h:Q (.ref s.heap.objs.size) { s with heap:=s.heap.push { cls:=.type "tuple",data:=.seq ((items.toList.drop (dY items.size 0 lo)).take (dY items.size items.size hi - dY items.size 0 lo)).toArray } })
  (hsz:items.size<=sizeLine):wpAny (model prog w) A (getItem (.ref t) (.ref sl)) Q E s:=by
 have CO:sizeOk (.seq ((items.toList.drop (dY items.size 0 lo)).take (dY items.size items.size hi - dY items.size 0 lo)).toArray):=by
  show((items.toList.drop (dY items.size 0 lo)).take (dY items.size items.size hi - dY items.size 0 lo)).toArray.size<=sizeLine
  rw[vH,List.length_take,List.length_drop,vG]
  omega
 have hj:dY items.size items.size hi<=items.size:=MP _ _ (vT _) hi
 obtain⟨os,K7,xy,Ou⟩:=id hs
 have Yl:s.TypeIs (.ref sl) "slice":=⟨os,K7,xy⟩
 unfold getItem
 try with_reducible refine wpAny_holding ?_
 first|refine wX (wY ?_)|skip
 refine wX (wpAny_sequenceKey ht.typeIs (by decide) ?_)
 refine wX (wpAny_callSpecial?_slot (name:=Str.ofString "__getitem__") ht.typeIs PyProof.Rows.slot_tuple_getitem
  (wpAny_call_entry PyProof.Rows.slot_tuple_getitem ht.typeIs entry_tuple_getitem ?_ (args_tuple_getitem _ _)))
 show wpAny _ _ (Builtin.Tuple.tupleItemsOf (.ref t)>>=_) _ _ s
 refine wX (tupleItemsOf_ ht ?_)
 refine wX (wpAny_typeOf Yl ?_)
 rw[if_pos (by decide)]
 refine wX (jn hs pl pu ?_)
 have Hu:¬((((dY items.size 0 lo:Nat):Int) == 0 && (1:Int) == 1 && (dY items.size items.size hi - dY items.size 0 lo) == items.size)=true):=by
  intro q
  rw[vC,vC]at q
  have q1:((dY items.size 0 lo:Nat):Int)=0:=eq_of_beq q.1.1
  have q2:dY items.size items.size hi - dY items.size 0 lo=items.size:=eq_of_beq q.2
  exact hw ⟨by omega,by omega⟩
 show wpAny _ _ (if(((dY items.size 0 lo:Nat):Int) == 0 && (1:Int) == 1 && (dY items.size items.size hi - dY items.size 0 lo) == items.size)=true then _ else _) _ _ s
 rw[if_neg Hu,EL]
 first
  |exact wX (m:=Builtin.Tuple.tupleExact _) (wpAny_newObj_type (wY ⟨_,rfl,wY h⟩) CO)
  |exact wX (m:=Builtin.Tuple.tupleExact _) (wpAny_newObj_type (wX (wY (wY ⟨_,rfl,wY h⟩))) CO)
  |exact wX (wX (m:=Builtin.Tuple.tupleExact _) (wpAny_newObj_type (wY (wY ⟨_,rfl,wY h⟩)) CO))
  |exact wX (wX (m:=Builtin.Tuple.tupleExact _) (wpAny_newObj_type (wY ⟨_,rfl,wY h⟩) CO))
end
end HT
namespace L2
open PySem PySem.Spec PyProof.Rows
abbrev TO:=St->Hp->(Option Int->Hp->Prop)->Prop
def PO (X:Cx)(e:Option Expr)(t:TO):Prop :=
 ∀(ae:List (Addr×Obj))(s:Shared)(σ:St)(H:Hp)(Q:Option Int->Hp->Prop),Inv X ae σ H s->t σ H Q ->
  wq X (evalPart e X.env) (λu s'=>∃o H',Inv X ae σ H' s'/\IsPart u o/\Q o H') X.xe s
def Ix:TO:=λ_ H Q=>Q none H
def Qh (t:TE):TO:=λσ H Q=>t σ H λx H1=>∃i,x=.int i/\Q (some i) H1
section
variable {X:Cx}{e:Expr}{te:TE}{lo hi:Option Expr}{tl th:TO}{pos p2:Pos}
theorem Iy:PO X none Ix:=by
 intro ae s σ H Q I h;rw[evalPart_none];exact wY ⟨none,H,I,.none,h⟩
theorem Iz (h:PE X e te):PO X (some e) (Qh te):=by
 intro ae s σ H Q I hw;rw[evalPart_some];refine cu (h ae s σ H _ I hw) λu s1 ⟨x,H1,I1,r1,q1⟩=>?_;obtain⟨i,rfl,q⟩:=q1;obtain⟨t,rfl⟩:=r1;exact⟨some i,H1,I1,.int i t,q⟩
def E1 (X:Cx)(r:V->Option Int->Option Int->Hp->VK->Prop):Prop :=
 ∀(ae:List (Addr×Obj))(s:Shared)(σ:St)(H:Hp)(x:V)(v vl vu:Value)(lo hi:Option Int)(sl:Addr)(Q:VK),Inv X ae σ H s->aU x v->s.heap.IsSliceOf sl vl vu .none->IsPart vl lo->IsPart vu hi->r x lo hi H Q ->
  ∃T id,typeLookup (.type T) "__getitem__" = pure (some (.builtin id))/\s.TypeIs v T/\wq X (getItem v (.ref sl)) (EP X ae σ Q) X.xe s
theorem E1.or (h:E1 X r)(h':E1 X r'):E1 X (λx lo hi H Q=>r x lo hi H Q∨r' x lo hi H Q):=by
 intro ae s σ H x v vl vu lo hi sl Q I rx hs pl pu q;rcases q with q|q
 ·exact h ae s σ H x v vl vu lo hi sl Q I rx hs pl pu q
 ·exact h' ae s σ H x v vl vu lo hi sl Q I rx hs pl pu q
def X0 (r:V->Option Int->Option Int->Hp->VK->Prop)(te:TE)(tl th:TO):TE:=λσ H Q=>te σ H λx H1=>tl σ H1 λl H2=>th σ H2 λu H3=>r x l u H3 Q
theorem EM (hr:E1 X r)(he:PE X e te)(hl:PO X lo tl)(hu:PO X hi th):PE X (.Subscript e (.Slice lo hi none p2) pos) (X0 r te tl th):=by
 intro ae s σ H Q I h;refine Subscript_ (cu (he ae s σ H _ I h) λv s1 ⟨x,H1,I1,r1,q1⟩=>?_);refine wpAny_Slice (cu (hl ae s1 σ H1 _ I1 q1) λvl s2 ⟨l,H2,I2,pl,q2⟩=>cu (hu ae s2 σ H2 _ I2 q2) λvu s3 ⟨u,H3,I3,pu,q3⟩=>?_);rw[evalPart_none];refine wY ?_;have I4:Inv X ae σ H3 { s3 with heap:=s3.heap.push { cls:=.type "slice",data:=.fields #[vl,vu,.none] } }:=I3.kept (t':=s3.toks) λb ob q=>vZ _ q;obtain⟨T,id,hT,ht,hg⟩:=hr ae { s3 with heap:=s3.heap.push { cls:=.type "slice",data:=.fields #[vl,vu,.none] } } σ H3 x v vl vu l u s3.heap.objs.size Q I4 r1 (Heap.IsSliceOf.new ..) pl pu q3;show wq X (subscriptTail e (.Slice lo hi none p2) v (.ref s3.heap.objs.size)) (EP X ae σ Q) X.xe { s3 with heap:=s3.heap.push { cls:=.type "slice",data:=.fields #[vl,vu,.none] } };exact tail_any (ops:=[.ref s3.heap.objs.size,v]) ht hT hg (by with_unfolding_all rfl)
def sM (xs:List V)(lo hi:Option Int):List V:=(xs.drop (HT.dY xs.length 0 lo)).take (HT.dY xs.length xs.length hi - HT.dY xs.length 0 lo)
theorem oA (xs:List V)(lo hi:Option Int):(sM xs lo hi).length<=xs.length:=by
 unfold sM;rw[List.length_take,List.length_drop];omega
def Tp (K:Frag):V->Option Int->Option Int->Hp->VK->Prop:=λx lo hi H Q=>∃a xs,x=.ref a/\jl K H a xs /\
 ¬(HT.dY xs.length 0 lo=0/\HT.dY xs.length xs.length hi=xs.length)/\∀p,H p=none->Q (.ref p) (upd H p (.tup (sM xs lo hi)))
theorem MQ:E1 X (Tp X.K):=by
 intro ae s σ H x v vl vu lo hi sl Q I rx hs pl pu h;obtain⟨a,xs,rfl,hx,hw,q⟩:=h;cases rx
 obtain⟨its,r,ht,hz⟩:=I.tuple hx;have bJ:its.toArray.size=xs.length:=by rw[vH];exact r.length.symm
 refine⟨"tuple",_,PyProof.Rows.slot_tuple_getitem.lookup,ht.typeIs,?_⟩;refine HT.mh ht hs pl pu (by rw[bJ];exact hw) ?_ (by rw[bJ];exact hz);rw[bJ];refine⟨.ref s.heap.objs.size,_,I.laid (t':=s.toks) (o:=.tup (sM xs lo hi)) (λb ob q=>vZ _ q) (vT _) ?_,rfl,q _ (I.hok.fresh (vT _))⟩;exact⟨vR (oA xs lo hi) hz,_,(r.drop (HT.dY xs.length 0 lo)).take (HT.dY xs.length xs.length hi - HT.dY xs.length 0 lo),IsTup.new _ _⟩
def Qi (K:Frag):R2:=λx y H Q=>∃a b xs ys,x=.ref a/\y=.ref b/\jl K H a xs/\jl K H b ys/\xs≠[]/\xs.length+ys.length<=sizeLine /\
 (ys=[]->Q (.ref a) H)/\(ys≠[]->∀p,H p=none->Q (.ref p) (upd H p (.tup (xs++ys))))
theorem aS.nil_iff (r:aS xs us):us=[]↔xs=[]:=by
 cases r with
 |nil=>simp
 |cons _ _=>simp
theorem IA:dI X (binaryOp .Add) (Qi X.K):=by
 intro ae s σ H x y v u Q I rx ry h;obtain⟨a,b,xs,ys,rfl,rfl,ha,hb,hx,hz,q1,q2⟩:=h;cases rx
 cases ry
 obtain⟨its,r1,p1,_⟩:=I.tuple ha;obtain⟨Rm,r2,p2,_⟩:=I.tuple hb;refine HT.Iw p1 p2 (λz=>hx (r1.nil_iff.mp z)) (λz=>⟨.ref a,H,I,rfl,q1 (r2.nil_iff.mp z)⟩) (λz=>?_) (by rw[←r1.length,←r2.length];exact hz);refine⟨.ref s.heap.objs.size,_,I.laid (t':=s.toks) (o:=.tup (xs++ys)) (λb ob q=>vZ _ q) (vT _) ?_,rfl,q2 (λw=>z (r2.nil_iff.mpr w)) _ (I.hok.fresh (vT _))⟩;exact⟨by rw[uZ];exact hz,_,r1.append r2,IsTup.new _ _⟩
end
def zQ (n:Nat)(i:Int):Option Nat:=if 0<=i then (if i<n then some i.toNat else none)else if -(n:Int)<=i then some (i+n).toNat else none
def lI {α:Type}(xs:List α)(i:Int):Option α:=(zQ xs.length i).bind λj=>xs[j]?
theorem Bu (h:zQ n i=some j):seqIndex? i n=some j/\j<n/\-(n:Int)<=i/\i<n:=by
 unfold zQ at h;by_cases h0:0<=i
 ·rw[if_pos h0]at h;by_cases h1:i<n
  ·rw[if_pos h1]at h;have e:i.toNat=j:=vK h;exact⟨by rw[seqIndex_of h0 h1,e],by omega,by omega,h1⟩
  ·rw[if_neg h1]at h;cases h
 ·rw[if_neg h0]at h;by_cases h1 : -(n:Int)<=i
  ·rw[if_pos h1]at h;have e:(i+n).toNat=j:=vK h;exact⟨by rw[seqIndex_neg (by omega) h1,e],by omega,h1,by omega⟩
  ·rw[if_neg h1]at h;cases h
theorem vw {α:Type}{xs:List α}{i:Int}{v:α}(h:lI xs i=some v):∃j,seqIndex? i xs.length=some j/\xs[j]? = some v/\j<xs.length/\-(xs.length:Int)<=i/\i<xs.length:=by
 unfold lI at h;cases e:zQ xs.length i with
 |none=>rw[e]at h;cases h
 |some j=>
  rw[e]at h;obtain⟨h1,h2,h3,h4⟩:=Bu e;exact⟨j,h1,h,h2,h3,h4⟩
theorem IB {α:Type}{xs:List α}{j:Nat}{v:α}(h:xs[j]? = some v):lI xs (j:Int)=some v:=by
 have hj:j<xs.length:=(vV h).1;have e:zQ xs.length (j:Int)=some j:=by
  unfold zQ;rw[if_pos (by omega),if_pos (by omega)];simp
 unfold lI;rw[e];exact h
theorem xG {α:Type}(xs:List α)(v:α):lI (xs++[v]) (-1)=some v:=by
 have hl:(xs++[v]).length=xs.length+1:=by simp
 have e:zQ (xs++[v]).length (-1)=some xs.length:=by
  unfold zQ;rw[hl,if_neg (by decide),if_pos (by omega)];congr 1;omega
 unfold lI;rw[e];show(xs++[v])[xs.length]? = some v;simp
def vx (b:Expr):Prop:=∀o i,subscripted b false o i=operate [o,i] (getItem o i)
def HN (X:Cx)(r:R2):Prop :=
 ∀(value slice:Expr)(ae:List (Addr×Obj))(s:Shared)(σ:St)(H:Hp)(x y:V)(v u:Value)(Q:VK),Inv X ae σ H s->aU x v->aU y u->r x y H Q ->
  subscripted slice false v u=operate [v,u] (getItem v u)->wq X (subscriptTail value slice v u) (EP X ae σ Q) X.xe s
def HP (X:Cx)(id:String)(r:V->List V->Hp->VK->Prop):Prop :=
 ∀(ae:List (Addr×Obj))(s:Shared)(σ:St)(H:Hp)(x:V)(xs:List V)(v:Value)(us:List Value)(Q:VK),Inv X ae σ H s->aU x v->aS xs us->r x xs H Q ->
  wq X (call (.builtin id) (v::us)) (EP X ae σ Q) X.xe s
section
variable {X:Cx}{a b:Expr}{ta tb:TE}{pos:Pos}
theorem HN.or (h:HN X r)(h':HN X r'):HN X (λx y H Q=>r x y H Q∨r' x y H Q):=by
 intro value slice ae s σ H x y v u Q I rx ry q hs;rcases q with q|q
 ·exact h value slice ae s σ H x y v u Q I rx ry q hs
 ·exact h' value slice ae s σ H x y v u Q I rx ry q hs
theorem HP.or {id:String}{r r':V->List V->Hp->VK->Prop}(h:HP X id r)(h':HP X id r'):HP X id (λx xs H Q=>r x xs H Q∨r' x xs H Q):=by
 intro ae s σ H x xs v us Q I rx rs q;rcases q with q|q
 ·exact h ae s σ H x xs v us Q I rx rs q
 ·exact h' ae s σ H x xs v us Q I rx rs q
theorem Lf (hr:HN X r)(ha:PE X a ta)(hb:PE X b tb)(hs:vx b):PE X (.Subscript a b pos) (Sj r ta tb):=by
 intro ae s σ H Q I h;exact Subscript_ (MC ha hb I h λv u s2 x y H2 I2 rx ry q=>hr a b ae s2 σ H2 x y v u Q I2 rx ry q (hs _ _))
def Tq (K:Frag):R2:=λx y H Q=>∃p xs i v,x=.ref p/\y=.int i/\gX K H p xs/\lI xs i=some v/\Q v H
def Tr (K:Frag):R2:=λx y H Q=>∃p xs i v,x=.ref p/\y=.int i/\jl K H p xs/\lI xs i=some v/\Q v H
def Ts:R2:=λx y H Q=>∃z i c,x=.str z/\y=.int i/\z.length<=sizeLine/\lI z.cps.toList i=some c/\Q (.str ⟨#[c]⟩) H
theorem IC:HN X (Tq X.K):=by
 intro value slice ae s σ H x y v u Q I rx ry h hs;obtain⟨p,xs,i,z,rfl,rfl,hq,he,q⟩:=h;cases rx
 obtain⟨t,rfl⟩:=ry;obtain⟨its,r,pl,hz⟩:=I.list hq;obtain⟨j,h1,h2,h3,h4,h5⟩:=vw he;obtain⟨w,ew,Hv⟩:=r.get h2;have hl:=r.length;have hn:=nG;have iF:EP X ae σ Q w s:=⟨z,H,I,Hv,q⟩;by_cases h0:0<=i
 ·have hj:i.toNat=j:=by
   rw[seqIndex_of h0 h5]at h1;exact vK h1
  exact item_listR pl.isList h0 (by omega) (by rw[hj];simpa using ew) iF hs
 ·have hj:(i+(its.toArray.size:Int)).toNat=j:=by
   rw[seqIndex_neg (by omega) h4]at h1;rw[vH,←hl];exact vK h1
  exact subscriptTail_builtinR (x:=w) pl.isList.typeIs slot_list_getitem.lookup
   (wpAny_getItem_list_neg (Q:=λr s'=>r=w/\EP X ae σ Q r s') pl.isList (by omega) (by rw[vH]<;>omega) (by omega) (by rw[hj];simpa using ew) ⟨rfl,iF⟩) hs
theorem vy:HN X (Tr X.K):=by
 intro value slice ae s σ H x y v u Q I rx ry h hs;obtain⟨p,xs,i,z,rfl,rfl,hq,he,q⟩:=h;cases rx
 obtain⟨t,rfl⟩:=ry;obtain⟨its,r,pl,hz⟩:=I.tuple hq;obtain⟨j,h1,h2,h3,h4,h5⟩:=vw he;obtain⟨w,ew,Hv⟩:=r.get h2;have hl:=r.length;have hn:=nG;have iF:EP X ae σ Q w s:=⟨z,H,I,Hv,q⟩;exact subscriptTail_builtinR (x:=w) pl.typeIs slot_tuple_getitem.lookup
  (getItem_tuple (j:=j) (Q:=λr s'=>r=w/\EP X ae σ Q r s') pl (by omega) (by omega) (by rw[vH,←hl];exact h1) (by simpa using ew) ⟨rfl,iF⟩) hs
theorem Aj:HN X Ts:=by
 intro value slice ae s σ H x y v u Q I rx ry h hs;obtain⟨z,i,c,rfl,rfl,hz,he,q⟩:=h;obtain⟨t,rfl⟩:=rx;obtain⟨t',rfl⟩:=ry;obtain⟨j,h1,h2,h3,h4,h5⟩:=vw he;have hl:z.cps.toList.length=z.length:=by simp[Str.length]
 rw[hl]at h1 h4 h5;have hn:=nG;exact tail_any (typeIs_str s z t) slot_str_getitem.lookup (getItem_str (c:=c) (by
  have e1:decide (i < -(2 ^ 63:Int))=false:=decide_eq_false (by omega);have e2:decide (i ≥ 2 ^ 63)=false:=decide_eq_false (by omega);rw[e1,e2,Bool.or_false]) (by rw[h1];simpa using h2) ⟨.str ⟨#[c]⟩,H,I.tok _,⟨_,rfl⟩,q⟩) hs
theorem Ak (its:List Value)(n j:Nat)(u:Value):Obj.mapSeq (·.setIfInBounds j u) { cls:=.type "list",data:=.seq its.toArray n }={ cls:=.type "list",data:=.seq (its.set j u).toArray n }:=by
 simp[Obj.mapSeq]
theorem Inv.lst (I:Inv X ae σ H s)(h:H p=some (.lst xs)):
  ∃(its:List Value)(n:Nat),aS xs its/\s.heap.get? p=some { cls:=.type "list",data:=.seq its.toArray n }/\xs.length<=sizeLine:=by
 obtain⟨z,its,n,r,e⟩:=I.hok p _ h;exact⟨its,n,r,e,z⟩
theorem Inv.lstUpd {ae:List (Addr×Obj)}{σ:St}{H:Hp}{s:Shared}{p:Addr}{xs ys:List V}{its its':List Value}{n n':Nat}{f:Obj->Obj}(I:Inv X ae σ H s)(h:H p=some (.lst xs))
  (ho:s.heap.get? p=some { cls:=.type "list",data:=.seq its.toArray n }) (hf:f { cls:=.type "list",data:=.seq its.toArray n }={ cls:=.type "list",data:=.seq its'.toArray n' }) (r:aS ys its') (hz:ys.length<=sizeLine) (t:Nat):
  Inv X ae σ (upd H p (.lst ys)) { s with heap:=s.heap.update p f,toks:=t }:=by
 have e:(s.heap.update p f).get? p=some { cls:=.type "list",data:=.seq its'.toArray n' }:=by
  rw[Heap.get?_update_self f ho (by rw[hf]<;>rfl),hf]
 refine I.write (x:=p) (e:=p) (by rw[h];trivial) (.inl rfl) (λb u hb q=>(Heap.get?_update_other _ _ (Ne.symm hb)).trans q) ⟨_,e⟩ ?_;exact⟨hz,its',n',r,e⟩
def Qj:V->V->V->Hp->(Hp->Prop)->Prop:=λo i v H Q=>∃p xs k j,o=.ref p/\i=.int k/\H p=some (.lst xs)/\zQ xs.length k=some j/\Q (upd H p (.lst (xs.set j v)))
theorem EN:PN X Qj:=by
 intro ae s σ H o i v ov iv u Q I ro ri rv h;obtain⟨p,xs,k,j,rfl,rfl,hp,hj,q⟩:=h;cases ro
 obtain⟨t,rfl⟩:=ri;obtain⟨its,n,r,ho,hz⟩:=I.lst hp;obtain⟨h1,h2,h3,h4⟩:=Bu hj;have hl:=r.length;have hn:=nG;have I':Inv X ae σ (upd H p (.lst (xs.set j v))) { s with heap:=s.heap.update p (Obj.mapSeq (·.setIfInBounds j u)) } :=
  I.lstUpd hp ho (Ak its n j u) (r.set rv j) (by rw[List.length_set];exact hz) s.toks
 by_cases h0:0<=k
 ·have hk:k.toNat=j:=by
   rw[seqIndex_of h0 h4]at h1;exact vK h1
  exact PySem.W.ki_setAt ho h0 (by omega) (by rw[vH,←hl];exact h4) (by rw[hk];exact⟨_,I',q⟩)
 ·have hk:(k+(its.toArray.size:Int)).toNat=j:=by
   rw[seqIndex_neg (by omega) h3]at h1;rw[vH,←hl];exact vK h1
  exact PySem.W.ki_setBack ho (by omega) (by rw[vH,←hl];exact h3) (by omega) (by rw[hk];exact⟨_,I',q⟩)
theorem vz (lo hi:Option Int)(n:Nat):(sliceBounds lo hi none n).1=((HT.dY n 0 lo:Nat):Int)/\(sliceBounds lo hi none n).2.1=((HT.dY n n hi:Nat):Int)/\(sliceBounds lo hi none n).2.2=1:=by
 refine⟨?_,?_,rfl⟩
 ·cases lo with
  |none=>simp[sliceBounds,HT.dY]
  |some i=>
   simp only[sliceBounds,HT.dY,Option.getD_none,show(1:Int) > 0 by decide,if_true];by_cases h:i<0
   ·simp only[h,if_true]<;>omega
   ·simp only[h,if_false]<;>omega
 ·cases hi with
  |none=>simp[sliceBounds,HT.dY]
  |some i=>
   simp only[sliceBounds,HT.dY,Option.getD_none,show(1:Int) > 0 by decide,if_true];by_cases h:i<0
   ·simp only[h,if_true]<;>omega
   ·simp only[h,if_false]<;>omega
theorem sO (its:List Value)(lo hi:Option Int):slicePick its.toArray lo hi none=((its.drop (HT.dY its.length 0 lo)).take (HT.dY its.length its.length hi - HT.dY its.length 0 lo)).toArray:=by
 obtain⟨h1,h2,h3⟩:=vz lo hi its.toArray.size;unfold slicePick;rw[h1,h2,h3];simp only[sliceRange_one,pick_run,vH]<;>rfl
def Tt (K:Frag):V->Option Int->Option Int->Hp->VK->Prop:=λx lo hi H Q=>∃a xs,x=.ref a/\gX K H a xs/\∀p,H p=none->Q (.ref p) (upd H p (.lst (sM xs lo hi)))
theorem ID:E1 X (Tt X.K):=by
 intro ae s σ H x v vl vu lo hi sl Q I rx hs pl pu h;obtain⟨a,xs,rfl,hx,q⟩:=h;cases rx
 obtain⟨its,r,ht,hz⟩:=I.list hx;have bJ:=r.length;refine⟨"list",_,slot_list_getitem.lookup,ht.isList.typeIs,?_⟩;refine wpAny_getItem_list_slice ht.isList hs pl pu .none (by simp) ?_ (by rw[vH]<;>omega)
 rw[sO,←bJ];refine⟨.ref s.heap.objs.size,_,I.laid (t':=s.toks) (o:=.lst (sM xs lo hi)) (λb ob q=>vZ _ q) (vT _) ?_,rfl,q _ (I.hok.fresh (vT _))⟩;exact⟨vR (oA xs lo hi) hz,_,0,(r.drop (HT.dY xs.length 0 lo)).take (HT.dY xs.length xs.length hi - HT.dY xs.length 0 lo),vY _ rfl⟩
noncomputable def lz:V->Bool
 |.non=>true
 |.bl _=>true
 |.int _=>true
 |.str _=>true
 |_=>false
def HQ:V->V->Bool
 |.non,.non=>true
 |.bl a,.bl b=>a == b
 |.bl a,.int b=>(if a then 1 else 0) == b
 |.int a,.bl b=>a == (if b then 1 else 0)
 |.int a,.int b=>a == b
 |.str a,.str b=>a == b
 |_,_=>false
theorem MT (ry:aU y u)(rx:aU x v)(fy:lz y=true)(fx:lz x=true):SeqAt.EqAt A s u v (HQ y x):=by
 cases y with
 |non=>
  cases ry
  cases x with
  |non=>cases rx;exact SeqAt.EqAt.same _
  |bl b=>cases rx;exact SeqAt.EqAt.none_bool b
  |int b=>obtain⟨t,rfl⟩:=rx;exact SeqAt.EqAt.none_int b t
  |str b=>obtain⟨t,rfl⟩:=rx;exact SeqAt.EqAt.none_str b t
  |_=>exact absurd (show false=true from fx) uX
 |bl a=>
  cases ry
  cases x with
  |non=>cases rx;exact SeqAt.EqAt.bool_none a
  |bl b=>cases rx;exact SeqAt.EqAt.bool_bool a b
  |int b=>obtain⟨t,rfl⟩:=rx;exact SeqAt.EqAt.bool_int a b t
  |str b=>obtain⟨t,rfl⟩:=rx;exact SeqAt.EqAt.bool_str a b t
  |_=>exact absurd (show false=true from fx) uX
 |int a=>
  obtain⟨t',rfl⟩:=ry;cases x with
  |non=>cases rx;exact SeqAt.EqAt.int_none a t'
  |bl b=>cases rx;exact SeqAt.EqAt.int_bool a t' b
  |int b=>obtain⟨t,rfl⟩:=rx;exact SeqAt.EqAt.int_int a t' b t
  |str b=>obtain⟨t,rfl⟩:=rx;exact SeqAt.EqAt.int_str a t' b t
  |_=>exact absurd (show false=true from fx) uX
 |str a=>
  obtain⟨t',rfl⟩:=ry;cases x with
  |non=>cases rx;exact SeqAt.EqAt.str_none a t'
  |bl b=>cases rx;exact SeqAt.EqAt.str_bool a t' b
  |int b=>obtain⟨t,rfl⟩:=rx;exact SeqAt.EqAt.str_int a t' b t
  |str b=>obtain⟨t,rfl⟩:=rx;exact SeqAt.EqAt.str_str a t' b t
  |_=>exact absurd (show false=true from fx) uX
 |_=>exact absurd (show false=true from fy) uX
def Al (x:V)(u:Value):Bool:=match u with
 |.none=>HQ .non x
 |.bool b=>HQ (.bl b) x
 |.int i _=>HQ (.int i) x
 |.str z _=>HQ (.str z) x
 |_=>false
theorem EO (r:aU y u)(f:lz y=true):Al x u=HQ y x:=by
 cases y with
 |non=>cases r;rfl
 |bl b=>cases r;rfl
 |int i=>obtain⟨t,rfl⟩:=r;rfl
 |str z=>obtain⟨t,rfl⟩:=r;rfl
 |_=>exact absurd (show false=true from f) uX
theorem ml:∀ {xs:List V}{us:List Value},aS xs us->xs.all lz=true->us.any (Al x)=xs.any λy=>HQ y x
 |_,_,.nil,_=>rfl
 |y::xs,u::us,.cons r t,f=>by
  rw[List.all_cons,vC]at f;rw[List.any_cons,List.any_cons,EO r f.1,ml t f.2]
theorem kj (rx:aU x v)(fx:lz x=true):∀ {xs:List V}{us:List Value},aS xs us->xs.all lz=true->∀u∈us,SeqAt.EqAt A s u v (Al x u)
 |_,_,.nil,_=>λu hu=>by cases hu
 |y::xs,u::us,.cons r t,f=>λu' hu=>by
  rw[List.all_cons,vC]at f;rcases vP hu with rfl|hu
  ·rw[EO r f.1];exact MT r rx f.1 fx
  ·exact kj rx fx t f.2 u' hu
noncomputable def Sk (x:V)(xs:List V):Bool:=xs.any λy=>HQ y x
def V9 (K:Frag)(Ym:Bool):R2:=λx y H Q=>∃p xs,y=.ref p/\(gX K H p xs∨jl K H p xs)/\lz x=true/\xs.all lz=true/\Q (.bl (if Ym then !Sk x xs else Sk x xs)) H
theorem Dl:dI X (compareOp .In) (V9 X.K false):=by
 intro ae s σ H x y v u Q I rx ry h;obtain⟨p,xs,rfl,hq,fx,fs,q⟩:=h;cases ry
 rcases hq with hq|hq
 ·obtain⟨its,r,pl,hz⟩:=I.list hq;refine SeqAt.in_listAt (Al x) pl.isList (λw hw=>kj rx fx r fs w (by simpa using hw)) ⟨.bl _,H,I,rfl,?_⟩;rw[show its.toArray.any (Al x)=its.any (Al x) by simp,ml r fs];exact q
 ·obtain⟨its,r,pl,hz⟩:=I.tuple hq;refine SeqAt.in_tupleAt (Al x) pl (λw hw=>kj rx fx r fs w (by simpa using hw)) ⟨.bl _,H,I,rfl,?_⟩;rw[show its.toArray.any (Al x)=its.any (Al x) by simp,ml r fs];exact q
theorem v0:dI X (compareOp .NotIn) (V9 X.K true):=by
 intro ae s σ H x y v u Q I rx ry h;obtain⟨p,xs,rfl,hq,fx,fs,q⟩:=h;cases ry
 rcases hq with hq|hq
 ·obtain⟨its,r,pl,hz⟩:=I.list hq;refine SeqAt.notIn_listAt (Al x) pl.isList (λw hw=>kj rx fx r fs w (by simpa using hw)) ⟨.bl _,H,I,rfl,?_⟩;rw[show its.toArray.any (Al x)=its.any (Al x) by simp,ml r fs];exact q
 ·obtain⟨its,r,pl,hz⟩:=I.tuple hq;refine SeqAt.notIn_tupleAt (Al x) pl (λw hw=>kj rx fx r fs w (by simpa using hw)) ⟨.bl _,H,I,rfl,?_⟩;rw[show its.toArray.any (Al x)=its.any (Al x) by simp,ml r fs];exact q
theorem wa:bQ X (.builtin "len") (λxs H Q=>∃p ys,xs=[.ref p]/\(gX X.K H p ys∨jl X.K H p ys)/\Q (.int ys.length) H):=by
 intro ae s σ H xs us Q I r h;obtain⟨p,ys,rfl,hq,q⟩:=h;obtain⟨u,rfl,rx⟩:=gK r;cases rx
 have hn:=nG;rcases hq with hq|hq
 ·obtain⟨its,r',pl,hz⟩:=I.list hq;have bJ:=r'.length;exact Calls.call_len_list pl.isList (by simp only[vH]<;>omega) ⟨.int ys.length,H,I.tok _,⟨s.toks+1,by rw[vH,bJ]⟩,q⟩
 ·obtain⟨its,r',pl,hz⟩:=I.tuple hq;have bJ:=r'.length;exact len_tuple pl (by simp only[vH]<;>omega) ⟨.int ys.length,H,I.tok _,⟨s.toks+1,by rw[vH,bJ]⟩,q⟩
theorem wb:bQ X (.builtin "len") (λxs H Q=>∃z,xs=[.str z]/\z.length<=sizeLine/\Q (.int z.length) H):=by
 intro ae s σ H xs us Q I r h;obtain⟨z,rfl,hz,q⟩:=h;obtain⟨u,rfl,t,rfl⟩:=gK r;have hn:=nG;exact len_str (by omega) ⟨.int z.length,H,I.tok _,⟨_,rfl⟩,q⟩
theorem bQ.or (h:bQ X f r)(h':bQ X f r'):bQ X f (λxs H Q=>r xs H Q∨r' xs H Q):=by
 intro ae s σ H xs us Q I rs q;rcases q with q|q
 ·exact h ae s σ H xs us Q I rs q
 ·exact h' ae s σ H xs us Q I rs q
theorem wc:bQ X (.type "list") (λxs H Q=>∃p ys,xs=[.ref p]/\(gX X.K H p ys∨jl X.K H p ys)/\∀l,H l=none->Q (.ref l) (upd H l (.lst ys))):=by
 intro ae s σ H xs us Q I r h;obtain⟨p,ys,rfl,hq,q⟩:=h;obtain⟨u,rfl,rx⟩:=gK r;cases rx
 have iF:∀(its:List Value),aS ys its->ys.length<=sizeLine->∀(h':Heap)(c':Nat),(∀b o',s.heap.get? b=some o'->h'.get? b=some o') ->
   h'.get? s.heap.objs.size=some { cls:=.type "list",dict:=none,data:=.seq its.toArray c',slots:=#[] }->EP X ae σ Q (.ref s.heap.objs.size) { s with heap:=h' }:=λits r' hz h' c' kp e=>
  ⟨.ref s.heap.objs.size,_,I.laid (t':=s.toks) kp (vT _) (show bN X.prog X.w _ h' _ (.lst ys)from ⟨hz,its,c',r',e⟩),rfl,q _ (I.hok.fresh (vT _))⟩
 rcases hq with hq|hq
 ·obtain⟨its,r',pl,hz⟩:=I.list hq;have bJ:=r'.length;obtain⟨o,ho,hc,n,hd⟩:=pl.isList;exact call_list_seq p (.inl rfl) ho hc hd (λh' c' kp e=>iF its r' hz h' c' kp e) (by simp only[vH]<;>omega)
 ·obtain⟨its,r',pl,hz⟩:=I.tuple hq;have bJ:=r'.length;obtain⟨o,ho,hc,n,hd⟩:=pl;exact call_list_seq p (.inr rfl) ho hc hd (λh' c' kp e=>iF its r' hz h' c' kp e) (by simp only[vH]<;>omega)
theorem sP:bQ X (.type "tuple") (λxs H Q=>∃p ys,xs=[.ref p]/\((gX X.K H p ys/\∀l,H l=none->Q (.ref l) (upd H l (.tup ys)))∨(jl X.K H p ys/\Q (.ref p) H))):=by
 intro ae s σ H xs us Q I r h;obtain⟨p,ys,rfl,h⟩:=h;obtain⟨u,rfl,rx⟩:=gK r;cases rx
 rcases h with⟨hq,q⟩|⟨hq,q⟩
 ·obtain⟨its,r',pl,hz⟩:=I.list hq;have bJ:=r'.length;refine call_tuple_list pl.isList (λh' kp=>?_) (by simp only[vH]<;>omega)
  have I1:Inv X ae σ H { s with heap:=h' }:=I.kept (t':=s.toks) kp;have I2:Inv X ae σ (upd H h'.objs.size (.tup ys)) { s with heap:=h'.push { cls:=.type "tuple",data:=.seq its.toArray } } :=
   I1.laid (t':=s.toks) (λb o e=>vZ _ e) (vT _) (show bN X.prog X.w _ _ _ (.tup ys)from ⟨hz,its,r',IsTup.new _ _⟩)
  exact⟨.ref h'.objs.size,_,I2,rfl,q _ (I1.hok.fresh (vT _))⟩
 ·obtain⟨its,r',pl,hz⟩:=I.tuple hq;exact call_tuple_same pl ⟨.ref p,H,I,rfl,q⟩
def Tu (K:Frag)(T:String)(x:V)(H:Hp):Prop:=match x with
 |.str _=>T = "str"
 |.int _=>T = "int"
 |.ref p=>(T = "list"/\∃xs,gX K H p xs)∨(T = "tuple"/\∃o,K.lookup p=some o/\o.cls=.type "tuple"/\o.dict=none) ∨
   (T = "dict"/\((∃aK ob,H p=some (.dK aK ob))∨∃aK,H p=some (.dT aK)))∨(T = "set"/\∃S n,H p=some (.set S n))
 |_=>False
theorem we (I:Inv X ae σ H s)(r:aU x v)(ty:Tu X.K T x H):
  s.TypeIs v T/\∀a,v=.ref a->∃ob,s.heap.get? a=some ob/\ob.dict=none:=by
 cases x with
 |str z=>
  obtain⟨t,rfl⟩:=r;cases (show T = "str" from ty)
  exact⟨typeIs_str s z t,λ_ e=>nomatch e⟩
 |int i=>
  obtain⟨t,rfl⟩:=r;cases (show T = "int" from ty)
  exact⟨typeIs_int s i t,λ_ e=>nomatch e⟩
 |ref p=>
  cases r
  rcases ty with⟨rfl,xs,hq⟩|⟨rfl,o,hk,hc,hd⟩|⟨rfl,hk⟩|⟨rfl,S,n,hk⟩
  ·obtain⟨its,_,pl,_⟩:=I.list hq;refine⟨pl.isList.typeIs,λa e=>?_⟩;cases e
   obtain⟨o,n,e,c,hd,_⟩:=pl;exact⟨o,e,hd⟩
  ·refine⟨⟨o,I.kIn p o hk,hc⟩,λa e=>?_⟩;cases e
   exact⟨o,I.kIn _ o hk,hd⟩
  ·have z:∃o,s.heap.get? p=some o/\o.ExactDict:=by
    rcases hk with⟨aK,Um,hk⟩|⟨aK,hk⟩
    ·obtain⟨_,_,_,_,_,o,_,_,e,ex,_⟩:=I.hok p _ hk;exact⟨o,e,ex⟩
    ·obtain⟨_,_,_,_,o,_,_,e,ex,_⟩:=I.hok p _ hk;exact⟨o,e,ex⟩
   obtain⟨o,e,ex⟩:=z;refine⟨⟨o,e,ex.1⟩,λa e2=>?_⟩;cases e2
   exact⟨o,e,ex.2.1⟩
  ·obtain⟨o,_,_,_,e,ex,_⟩:=I.hok p _ hk;refine⟨⟨o,e,ex.1⟩,λa e2=>?_⟩;cases e2
   exact⟨o,e,ex.2.1⟩
 |_=>exact False.elim ty
def Tv (K:Frag)(T:String)(r:V->List V->Hp->VK->Prop)(to:TE):TE:=λσ H Q=>to σ H λx H1=>Tu K T x H1/\r x [] H1 Q
def X1 (K:Frag)(T:String)(r:V->List V->Hp->VK->Prop)(to:TE)(t:TA):TE:=λσ H Q=>to σ H λx H1=>Tu K T x H1/\t σ H1 λxs H2=>r x xs H2 Q
variable {o e:Expr}{es:List Expr}{to:TE}{t:TA}{name:Str}{cV cr:Pos}{T id:String}{r:V->List V->Hp->VK->Prop}
theorem MU (pa:PlainAttrs T)(slot:Slot T name id)(HZ:typeOf (.builtin id)=pure (.type "method_descriptor"))(hm:HP X id r)(ho:PE X o to)
  (fL:attributeBase o name X.env (eval o X.env)=eval o X.env:=by rfl) (fM:(cV.endLine == cr.line)=true:=by rfl):PE X (.Call (.Attribute o name cV) [] [] cr) (Tv X.K T r to):=by
 intro ae s σ H Q I h;refine wpAny_Call_method0_late fL fM (cu (ho ae s σ H _ I h) λv s1 ⟨x,H1,I1,r1,ty,q1⟩=>?_);obtain⟨h1,h2⟩:=we I1 r1 ty;exact⟨T,id,pa,slot,HZ,h1,h2,Calls.callWith_builtin rfl (PySem.evalArgs_none (hm ae s1 σ H1 x [] v [] Q I1 r1 .nil q1))⟩
theorem EQ (pa:PlainAttrs T)(slot:Slot T name id)(HZ:typeOf (.builtin id)=pure (.type "method_descriptor"))(hm:HP X id r)(ho:PE X o to)(ha:PA X (e::es) t)
  (fL:attributeBase o name X.env (eval o X.env)=eval o X.env:=by rfl)
  (Bj:((backTo cr (starEach (e::es) X.env)).all (λx=>!x.1) && (backToKw cr (keywordEach [] X.env)).all (λx=>x.1.isSome)
   && decide ((e::es).length+([]:List Keyword).length+(if([]:List Keyword).isEmpty then 0 else 1)<30))=true:=by rfl)
  (fM:(cV.endLine == cr.line)=true:=by rfl) (hs:starEach (e::es) X.env=(false,eval e X.env)::starEach es X.env:=by rfl) (Ov:(backTo cr (starEach es X.env)).any (·.1)=false:=by rfl):
  PE X (.Call (.Attribute o name cV) (e::es) [] cr) (X1 X.K T r to t):=by
 intro ae s σ H Q I h;refine wpAny_Call_method_late fL Bj fM rfl (cu (ho ae s σ H _ I h) λv s1 ⟨x,H1,I1,r1,ty,q1⟩=>?_);obtain⟨h1,h2⟩:=we I1 r1 ty;refine⟨T,id,pa,slot,HZ,h1,h2,?_⟩;have hA:=ha cr ae s1 σ H1 _ I1 q1;rw[hs]at hA ⊢;refine Calls.callWith_builtin (by show(false || (backTo cr (starEach es X.env)).any (·.1))=false;rw[Ov]<;>rfl) (Calls.evalArgs_plain ?_)
 exact cu hA λus s2 ⟨vs,H2,I2,r2,q2⟩=>hm ae s2 σ H2 x vs v us Q I2 r1 r2 q2
/- xs.append(e),list.index on a module's tuple .. are HP facts of 06m -/
end
def Tw (X:Cx)(id:String)(r:V->List V->Hp->VK->Prop):Prop :=
 ∀(ae:List (Addr×Obj))(s:Shared)(σ:St)(H:Hp)(x:V)(xs:List V)(v:Value)(us:List Value)(Q:VK),Inv X ae σ H s->aU x v->aS xs us->r x xs H Q ->
  wq X (call (.builtin id) (v::us)) (EP X ae σ Q) X.xe s
theorem aS.one:∀ {x:V}{us:List Value},aS [x] us->∃u,us=[u]/\aU x u
 |_,_,.cons r .nil=>⟨_,rfl,r⟩
theorem aS.two:∀ {x y:V}{us:List Value},aS [x,y] us->∃u v,us=[u,v]/\aU x u/\aU y v
 |_,_,_,.cons r (.cons q .nil)=>⟨_,_,rfl,r,q⟩
theorem aS.zero:∀ {us:List Value},aS [] us->us=[]
 |_,.nil=>rfl
theorem aS.dropLast (h:aS xs us):aS xs.dropLast us.dropLast:=by
 induction h with
 |nil=>exact .nil
 |cons r t ih=>
  cases t with
  |nil=>exact .nil
  |cons q t'=>exact .cons r ih
theorem aS.eraseIdx:∀ {xs:List V}{us:List Value}(i:Nat),aS xs us->aS (xs.eraseIdx i) (us.eraseIdx i)
 |_,_,_,.nil=>.nil
 |_,_,0,.cons _ t=>t
 |_,_,i+1,.cons r t=>.cons r (aS.eraseIdx i t)
theorem aS.rep (h:aS xs us):∀k:Nat,aS (List.replicate k xs).flatten (List.replicate k us).flatten
 |0=>.nil
 |k+1=>by
  rw[List.replicate_succ,List.replicate_succ,List.flatten_cons,List.flatten_cons];exact aS.append h (aS.rep h k)
theorem Am {α:Type}(l:List α):l.eraseIdx (l.length - 1)=l.dropLast:=by
 induction l with
 |nil=>rfl
 |cons a r ih=>
  cases r with
  |nil=>rfl
  |cons b r=>
   have e:(a::b::r).length - 1=((b::r).length - 1)+1:=by
    have h1:(a::b::r).length=r.length+2:=rfl;have h2:(b::r).length=r.length+1:=rfl;omega
   rw[e,List.eraseIdx_cons_succ,ih]
   all_goals rfl
theorem tJ (its:List Value):∀(k:Nat)(lx:List Value),
  List.foldl (λx1 x2=>x1++x2) lx.toArray (List.replicate k its.toArray)=(lx++(List.replicate k its).flatten).toArray
 |0,lx=>by simp
 |k+1,lx=>by
  have e:lx.toArray++its.toArray=(lx++its).toArray:=by simp
  have e2:(lx++its)++(List.replicate k its).flatten=lx++(List.replicate (k+1) its).flatten:=by
   rw[List.replicate_succ,List.flatten_cons,List.append_assoc]
  rw[←e2,←tJ its k (lx++its),←e,List.replicate_succ,List.foldl_cons]
section
variable {X:Cx}{ae:List (Addr×Obj)}{σ:St}{H:Hp}{s:Shared}{l b:Addr}{xs ys zs:List V}
theorem Inv.lset {its its':List Value}{n:Nat}{f:Array Value->Array Value}{t':Nat}(I:Inv X ae σ H s)(hH:H l=some (.lst xs))
  (e:s.heap.get? l=some { cls:=.type "list",data:=.seq its.toArray n }) (hf:f its.toArray=its'.toArray) (hv:aS ys its') (hz:ys.length<=sizeLine):
  Inv X ae σ (upd H l (.lst ys)) { s with heap:=s.heap.update l (Obj.mapSeq f),toks:=t' }:=by
 have q:=PySem.IsL.update e f;rw[hf]at q;refine I.write (x:=l) (e:=l) (by rw[hH];exact trivial) (.inl rfl) (λb' u hb hu=>(Heap.get?_update_other s.heap (Obj.mapSeq f) (Ne.symm hb)).trans hu) ⟨_,q⟩ ?_;exact⟨hz,its',_,hv,q⟩
theorem Inv.lnew (I:Inv X ae σ H s)(hv:aS ys its)(hz:ys.length<=sizeLine):
  Inv X ae σ (upd H s.heap.objs.size (.lst ys)) { s with heap:=s.heap.push { cls:=.type "list",data:=.seq its.toArray },toks:=t' } :=
 I.laid (λ_ _ q=>vZ _ q) (vT _) ⟨hz,its,0,hv,vY _ rfl⟩
theorem Inv.fresh (I:Inv X ae σ H s):H s.heap.objs.size=none:=I.hok.fresh (vT _)
theorem Inv.lstM (I:Inv X ae σ H s)(hH:H l=some (.lst xs)):xs.length<=sizeLine/\∃(its:List Value)(n:Nat),aS xs its/\xs.length=its.length/\s.heap.get? l=some { cls:=.type "list",data:=.seq its.toArray n }:=by
 obtain⟨z,its,n,r,e⟩:=I.hok l _ hH;exact⟨z,its,n,r,r.length,e⟩
theorem ER (h:n<=sizeLine):Builtin.List.listTooLong n=false:=by
 unfold Builtin.List.listTooLong;exact decide_eq_false (by omega)
end
section
variable {X:Cx}
def Bv:V->List V->Hp->VK->Prop:=λx vs H Q=>∃l xs y,x=.ref l/\vs=[y]/\H l=some (.lst xs)/\xs.length<sizeLine/\Q .non (upd H l (.lst (xs++[y])))
theorem tK:Tw X "list.append" Bv:=by
 intro ae s σ H x vs v us Q I rx rv h;obtain⟨l,xs,y,rfl,rfl,hH,hz,q⟩:=h;cases rx
 obtain⟨u,rfl,ru⟩:=rv.one;obtain⟨z,its,n,r,hl,e⟩:=I.lstM hH;refine call_meets F.slot_list_append ⟨_,e,rfl⟩ F.entry_list_append (F.args_list_append_2 _ _) (PySem.list_append l its.toArray n u (by rw[vH];omega)) ⟨e,?_⟩;refine⟨.non,_,I.lset (its':=its++[u]) hH e (by simp) (r.append (.cons ru .nil)) ?_,rfl,q⟩;rw[uZ,List.length_singleton];omega
def Tz:V->List V->Hp->VK->Prop:=λx vs H Q=>∃l xs y,x=.ref l/\vs=[]/\H l=some (.lst xs)/\xs[xs.length - 1]? = some y/\Q y (upd H l (.lst xs.dropLast))
theorem T1:Tw X "list.pop" Tz:=by
 intro ae s σ H x vs v us Q I rx rv h;obtain⟨l,xs,y,rfl,rfl,hH,hy,q⟩:=h;cases rx
 have Ux:=rv.zero;subst Ux;obtain⟨z,its,n,r,hl,e⟩:=I.lstM hH;obtain⟨u,hu,ru⟩:=r.get hy;have Yn:its.toArray[its.toArray.size - 1]? = some u:=by
  show its.toArray[its.length - 1]? = some u;rw[←Array.getElem?_toList,←hl];exact hu
 refine call_meets F.slot_list_pop ⟨_,e,rfl⟩ F.entry_list_pop (F.args_list_pop_1 _) (MeetsSeq.list_pop_last l its.toArray n u Yn (by rw[vH];omega)) ⟨e,?_⟩;refine⟨y,_,I.lset (its':=its.dropLast) hH e ?_ r.dropLast ?_,ru,q⟩
 ·show its.toArray.eraseIdxIfInBounds (its.toArray.size - 1)=its.dropLast.toArray;rw[vH,List.eraseIdxIfInBounds_toArray,Am]
 ·rw[List.length_dropLast];omega
def MV:V->List V->Hp->VK->Prop:=λx vs H Q=>∃l xs,x=.ref l/\vs=[]/\H l=some (.lst xs)/\Q .non (upd H l (.lst []))
theorem ES:Tw X "list.clear" MV:=by
 intro ae s σ H x vs v us Q I rx rv h;obtain⟨l,xs,rfl,rfl,hH,q⟩:=h;cases rx
 have Ux:=rv.zero;subst Ux;obtain⟨z,its,n,r,hl,e⟩:=I.lstM hH;refine call_meets F.slot_list_clear ⟨_,e,rfl⟩ F.entry_list_clear (F.args_list_clear_1 _) (AutoSeq1.list_clear_list_0 l its.toArray n (by rw[vH];omega)) ⟨e,?_⟩;exact⟨.non,_,I.lset (its':=[]) (ys:=[]) hH e rfl .nil (uN _),rfl,q⟩
def T2:R2:=λx y H Q=>∃l k xs,x=.ref l/\y=.int k/\H l=some (.lst xs)/\-(2 ^ 63)<=k/\k<2 ^ 63/\xs.length*k.toNat<=sizeLine /\
 ∀p,H p=none->Q (.ref p) (upd H p (.lst (List.replicate k.toNat xs).flatten))
theorem IE {α:Type}(xs:List α)(k:Nat):(List.replicate k xs).flatten.length=k*xs.length:=by
 induction k with
 |zero=>simp
 |succ k ih=>rw[List.replicate_succ,List.flatten_cons,uZ,ih,Nat.succ_mul,Nat.add_comm]
theorem MW:dI X (binaryOp .Mult) T2:=by
 intro ae s σ H x y v u Q I rx ry h;obtain⟨l,k,xs,rfl,rfl,hH,h1,h2,hz,q⟩:=h;cases rx
 obtain⟨t,rfl⟩:=ry;obtain⟨z,its,n,r,hl,e⟩:=I.lstM hH;have bJ:its.toArray.size*k.toNat<=sizeLine:=by rw[vH,←hl];exact hz
 have Uy:¬its.toArray.size*k.toNat > (2 ^ 63 - 1) / 8:=by
  have:(sizeLine:Nat)<=(2 ^ 63 - 1) / 8:=by decide
  omega
 have Uz:¬(!Builtin.List.listFitsIndex k)=true:=by
  rw[fitsIndex_both h1 h2];exact uX
 have Rn:¬Builtin.List.listTooLong (its.toArray.size*k.toNat)=true:=by
  rw[ER bJ];exact uX
 have U0:List.foldl (λx1 x2=>x1++x2) #[] (List.replicate (if its.toArray.isEmpty=true then 0 else k.toNat) its.toArray)=(List.replicate k.toNat its).flatten.toArray:=by
  have f0:∀m:Nat,List.foldl (λx1 x2=>x1++x2) #[] (List.replicate m its.toArray)=(List.replicate m its).flatten.toArray:=λm=>by
   have:=tJ its m [];rw[List.nil_append]at this;exact this
  rw[f0];cases its with
  |nil=>simp
  |cons a r'=>rw[if_neg (by simp)]
 refine wpAny_binaryOp_repeat_ref (T:="list") (U:="int") (by decide) ⟨_,e,rfl⟩ (λs'=>typeIs_int s' k t) noFill_list_mul F.fills_int_mul F.slot_int_rmul repeat_list F.slot_int_index.lookup
  (call_meets F.slot_int_rmul (typeIs_int s k t) F.entry_int_rmul (F.args_int_rmul_2 _ _) (int___rmul___int_list k t l its.toArray n)
   ⟨e,rfl,⟨_,e,rfl⟩,call_meets F.slot_list_mul ⟨_,e,rfl⟩ F.entry_list_mul (F.args_list_mul_2 _ _) (AutoListH.list___mul___list_int_3 l its.toArray n k t Uz Uy Rn) ⟨e,?_⟩⟩)
 rw[U0];exact⟨.ref _,_,I.lnew (t':=s.toks) (r.rep k.toNat) (by rw[IE,Nat.mul_comm];exact hz),rfl,q _ I.fresh⟩
end
end L2
namespace Att
open PySem PySem.W PySem.Calls PyProof.Rows
theorem px:∀(ns:List Int)(vs:List Value),WellAll P h vs (ns.map WData.int)->IntsAre vs ns:=by
 intro ns;induction ns with
 |nil=>
  intro vs w;rw[List.map_nil]at w;cases w
  exact .nil
 |cons n ns ih=>
  intro vs w;rw[uY]at w;cases w with
  |cons a b=>
   cases a
   exact .cons _ _ (ih _ b)
theorem Dm {l:OpenLaw}{n:Nat}(hn:l.most=some n){P:Params}{h:Heap}{args:List WData}{vals:List Value}
  (K8:l.row.toRowW.claim.pre args=true) (U1:WellAll P h vals args):
  ∃a vs ns,vals=[Value.ref a]/\args=[WData.list (ns.map WData.int)]/\h.get? a=some { cls:=.type "list",data:=.seq vs.toArray }/\IntsAre vs ns/\ns.length<=n:=by
 have U2:WShape.hasAll [] args [.list .int]=true:=(pre_splitW K8).1;have hc:l.pre.holds [] { args:=args }=true:=(pre_splitW K8).2;obtain⟨d,r,rfl,h1,h2⟩:=hasAllW_cons U2;obtain rfl:=hasAllW_nil h2;obtain⟨xs,rfl,h3⟩:=hasW_list h1;obtain⟨ns,rfl⟩:=items_int h3;have bJ:ns.length<=n:=by
  unfold OpenLaw.pre at hc;have h4:(WTm.not (.lt (.lit (.int (n:Int))) (.len (.arg 0)))).holds [] { args:=[.list (ns.map .int)] }=true:=by
   have h4:=(holds_andW hc).1;rw[hn]at h4;exact h4
  have h5:=condW_of h4 (w_not (w_lt w_lit (w_len_list (w_arg rfl))));rw[vI]at h5;refine Nat.le_of_not_lt λq=>?_;have q':(n:Int)<((ns.length:Nat):Int):=by omega
  first
   | (rw[decide_eq_true q']at h5;exact absurd h5 (by decide))
   | (simp at h5;omega)
 cases U1 with
 |cons w1 w2=>
  cases w2
  cases w1 with
  |list ho ly=>exact⟨_,_,ns,rfl,rfl,ho,px ns _ ly,bJ⟩
theorem Dn (l:OpenLaw)(args:List WData):l.row.toRowW.claim.post args (.bool true) args=true :=
 postW_of (r:=l.row.toRowW) (X:=(true == true))
  (show WShape.has [] (.bool true) .bool=true by first|rfl|decide|simp[WShape.has,WShape.arms,WShape.armsAll])
  (show(WTm.eq .res (.lit (.bool true))).value [] { args:=args,res:=some (.bool true),after:=args }=some (.bool (true == true))from w_eq_bool (w_res rfl) w_lit) rfl
theorem xH {l:OpenLaw}{n:Nat}{q:Program}{CP:List Str}{XP:(Str->Option Value)->Heap->Prop}{YP:World->Heap->Prop}{d:DefRec}
  (hn:l.most=some n) (Ro:d.params.defaults=[])
  (call:∀(w:World)(s₀ s₁:Shared)(mg mb:Str->Option Value)(fa:Addr)(o:Obj)(pm cd doc:Value)(a:Addr)(vs:List Value)(ns:List Int),
   Ground q CP [] XP w s₀ mg mb s₁.heap->YP w s₁.heap ->
   s₁.heap.get? fa=some o->o.data=.func (docDef d.name d.params d.body d.scope pm cd doc)->s₁.heap.CodeRec cd d.name->mg d.name=some (.ref fa) ->
   s₁.heap.get? a=some { cls:=.type "list",data:=.seq vs.toArray }->IntsAre vs ns->ns.length<=n->s₁.gens=#[] ->
   codeAny (model l.prog w) callerA (.call (.ref fa) ⟨[.ref a],[]⟩) (λr s'=>r=.ok (.ret (.bool true))/\OldK s₁.heap s'.heap/\s'.os=s₁.os/\AllBare s'.gens) s₁):
  WalkO q CP XP YP l.row.toRowW d [] (λf vs=>PySem.call f vs):=by
 intro w s₀ s₁ mg mb G Y fa o pm cd doc dV kV ho hd jj hD hmg hg args vals as K8 hlay hrd U1 hlo;obtain rfl:dV=.none:=Dflts.none hD Ro;obtain rfl:kV=.none:=Dflts.noKw hD;obtain⟨a,vs,ns,rfl,rfl,Ow,Hw,bJ⟩:=Dm hn K8 U1;refine enter_call (codeAny_mono (call w s₀ s₁ mg mb fa o pm cd doc a vs ns G Y ho (fd_plain hd) jj hmg Ow Hw bJ hg) λr s' hq=>?_);obtain⟨rfl,h2,h3,h4⟩:=hq;exact⟨.inl ⟨.bool true,.bool true,[],rfl,λ_=>rfl,.bool true,Dn l _,λ_=>⟨List.Pairwise.nil,λ_ hm=>(nomatch hm)⟩⟩,h2,h3,h4⟩
section
variable {prog:Program}{w:World}{A:Around}{E:Value->Shared->Prop}{s:Shared}{K:Frag}
theorem Qk 
  (X:K.In s.heap) (hm:makesIn K C=true) (hi:findIn K (.ref C) "__init__" = some (some (.ref fI))) (hf:isFn K (.ref fI)=true)
  (h:codeAny (model prog w) (A.under (.builtin "type.__call__" ⟨.ref C::aD,kw⟩)) (.call (.ref fI) ⟨.ref (s.heap.objs.size+1)::aD,kw⟩) (InitBack (s.heap.objs.size+1) R)
   { s with heap:=(s.heap.push emptyDict).push (instObj C s.heap.objs.size) }):codeAny (model prog w) A (.call (.ref C) ⟨aD,kw⟩) R s:=by
 obtain⟨hh,g,d,t,os⟩:=s;exact make_core (makes_of X hm) (looks_findIn X hi) (λself=>bind_fn X self (beq_iff_eq.mp hf)) (.inl rfl) h
theorem OK 
  (X:K.In s.heap) (I:PySem.W.InstAt s.heap x ox C (some (dictOf es n))) (hg:plainGet K C name=true) (hh:hasDictIn K C=true) (ha:findIn K (.ref C) name=some none)
  (hl:getL name es=some (some v)) (hv:handedIn v=true) (h:Q v { s with toks:=s.toks+1 }):wpAny (model prog w) A (getAttr (.ref x) name expr) Q E s :=
 get_value X I (plainGet_of hg).1 (findObj_own hh ha rfl hl) hv h
def T3 (h:Heap)(L d:Addr):List (Addr×Obj):=(List.range h.objs.size).filterMap λa=>if a=L∨a=d then none else (h.get? a).map λo=>(a,o)
end
end Att
namespace L2
open PySem PySem.Spec PyProof.Rows
theorem jo:∀ {vs:List Value}{ns:List Int},IntsAre vs ns->aS (ns.map V.int) vs
 |_,_,.nil=>.nil
 |_,_,.cons n t h=>.cons ⟨t,rfl⟩ (jo h)
noncomputable def gk (s:Stmt):Arguments:=match s with
 |.FunctionDef _ a _ _ _ _ _ _ _ _=>a
 |_=>{ posonlyargs:=[],args:=[],vararg:=none,kwonlyargs:=[],kw_defaults:=[],kwarg:=none,defaults:=[] }
noncomputable def cK (s:Stmt):List Stmt:=match s with
 |.FunctionDef _ _ b _ _ _ _ _ _ _=>b
 |_=>[]
noncomputable def aQ (s:Stmt):Scope:=match s with
 |.FunctionDef _ _ _ _ _ _ sc _ _ _=>sc
 |_=>{ kind:=.function,names:=[],isGenerator:=false,isCoroutine:=false }
abbrev zR:Ld:=λ_ _ _ _ _ _=>False
abbrev E0:XK:=λ_ _ _=>False
theorem Ql:Ag zR X E0:=λ_ _ _ _ _ _ _ h=>h.elim
structure Ox (K:Frag)(x qual:Str)(st:Stmt)(f:Addr)(fd:FuncData):Prop where
 ex:∃(oc:Value)(od:Option Addr)(kV doc pm:Value)(an:Option Addr)(eG ct:Value)(pq:Array (Option Value)),
  fd=fnOf x qual (gk st) (cK st) (aQ st) .none kV doc pm an eG ct/\K.lookup f=some ⟨oc,od,.func fd,pq⟩/\PySem.W.codeIn K eG qual=true
 kp:PySem.W.keepIn K (.ref f)=true
section
variable {P:Program}{w:World}{K:Frag}{mg:Str->Option Value}{base:Heap}
theorem Ox.ok {x qual:Str}{st:Stmt}{f:Addr}{fd:FuncData}{N ps:List Str}{k:Nat}{sp:Sp}(F:Ox K x qual st f fd)(S:FnScope N ps (aQ st))(len:∀vs H Q E,sp vs H Q E->vs.length=ps.length)
  (Ht:∀(eG:Value)(A:Around)(outer:List Env)(s:Shared)(H:Hp)(vs:List V)(Q:VK)(E:XK),eN k (A.deeper (envOfC qual (aQ st) s.heap.objs.size f eG))->sp vs H Q E ->
   ∃t,t8 (pw zR P w K mg base N qual (aQ st) f eG A outer s H E).nox (cK st) t/\t { nx:=λ_ H'=>Q .non H',rt:=Q } (jR N vs) H):tq P w K mg base zR (k+1) f fd ps sp:=by
 obtain⟨oc,od,kV,doc,pm,an,eG,ct,pq,rfl,lk,jj⟩:=F.ex;refine Le lk jj S len λA outer s H vs Q E hr Pk=>?_;obtain⟨t,h,q⟩:=Ht eG A outer s H vs Q E hr Pk;exact⟨t,h.nox,q⟩
theorem Ox.binds {x qual:Str}{st:Stmt}{f:Addr}{fd:FuncData}{ps:List Str}(F:Ox K x qual st f fd)
  (h:∀(kV doc pm:Value)(an:Option Addr)(eG ct:Value)(us:List Value),us.length=ps.length->bindArgs (fnOf x qual (gk st) (cK st) (aQ st) .none kV doc pm an eG ct) ⟨us,[]⟩=pure (ps.zip us)):t9 K fd ps []:=by
 obtain⟨oc,od,kV,doc,pm,an,eG,ct,pq,rfl,lk,jj⟩:=F.ex;exact .all (h kV doc pm an eG ct)
theorem MX {x qual:Str}{st:Stmt}{f:Addr}{oc:Value}{od an:Option Addr}{pq:Array (Option Value)}{kV doc pm eG ct:Value}(l:K.lookup f=some ⟨oc,od,.func (fnOf x qual (gk st) (cK st) (aQ st) .none kV doc pm an eG ct),pq⟩)
  (c:PySem.W.codeIn K eG qual=true) (k:PySem.W.keepIn K (.ref f)=true):Ox K x qual st f (fnOf x qual (gk st) (cK st) (aQ st) .none kV doc pm an eG ct):=⟨⟨oc,od,kV,doc,pm,an,eG,ct,pq,rfl,l,c⟩,k⟩
end
def aV (H H':Hp):Prop:=∀b o,H b=some o->H' b=some o
theorem aV.refl (H:Hp):aV H H:=λ_ _ h=>h
theorem aV.trans (a:aV H H1)(b:aV H1 H2):aV H H2:=λc o h=>b c o (a c o h)
theorem aV.free (e:aV H H')(h:H' l=Option.none):H l=Option.none:=by
 cases q:H l with
 |none=>rfl
 |some o=>
  rw[e l o q]at h;cases h
theorem aV.seq {K:Frag}{H H':Hp}{a:Addr}{xs:List V}(e:aV H H')(h:gX K H a xs):gX K H' a xs:=by
 rcases h with (h|⟨o,h⟩)|h
 ·exact .inl (.inl (e _ _ h))
 ·exact .inl (.inr ⟨o,e _ _ h⟩)
 ·exact .inr h
section
variable {κ:Type}[DecidableEq κ]
noncomputable def jW (aK:List (κ×V))(k:κ):Option V:=(aK.find? λkv=>decide (kv.1=k)).map (·.2)
def mm (aK:List (κ×V))(k:κ)(v:V):List (κ×V) :=
 if(aK.any λkv=>decide (kv.1=k))=true then aK.map (λkv=>if kv.1=k then (kv.1,v)else kv)else aK++[(k,v)]
theorem mn {p:κ×V}{r:List (κ×V)}{k:κ}(e:p.1=k):jW (p::r) k=some p.2:=by simp[jW,List.find?_cons,e]
theorem mo {p:κ×V}{r:List (κ×V)}{k:κ}(e:¬p.1=k):jW (p::r) k=jW r k:=by simp[jW,List.find?_cons,e]
theorem xI (k:κ):∀aK:List (κ×V),(aK.any λkv=>decide (kv.1=k))=(jW aK k).isSome
 |[]=>rfl
 |p::r=>by
  rw[List.any_cons];by_cases e:p.1=k
  ·simp only[mn e,decide_eq_true e,Bool.true_or,Option.isSome_some]
  ·rw[mo e,decide_eq_false e,Bool.false_or];exact xI k r
theorem km (aK:List (κ×V))(k:κ)(v:V):(mm aK k v).length<=aK.length+1:=by
 unfold mm;split
 ·rw[vI];omega
 ·rw[uZ,vE,List.length_nil];omega
theorem ls.isSome_eq (r:ls o u):o.isSome=u.isSome:=by
 cases o with
 |none=>cases u with
  |none=>rfl
  |some _=>exact(show False from r).elim
 |some _=>cases u with
  |none=>exact(show False from r).elim
  |some _=>rfl
theorem ls.getD (r:ls o u)(rd:aU d d'):aU (o.getD d) (u.getD d'):=by
 cases o with
 |none=>cases u with
  |none=>exact rd
  |some _=>exact(show False from r).elim
 |some _=>cases u with
  |none=>exact(show False from r).elim
  |some _=>exact r
theorem KV.val {aK:List (κ×V)}{vs:List (κ×Value)}(r:KV aK vs)(k:κ):ls (jW aK k) (valueAt vs k):=by
 unfold KV at r;induction r with
 |nil=>exact True.intro
 |@cons p q ps qs h t ih=>
  obtain⟨h1,h2⟩:=h;by_cases e:p.1=k
  ·have e':q.1=k:=h1.symm.trans e;have b:valueAt (q::qs) k=some q.2:=by simp[valueAt,List.find?_cons,e']
   rw[mn e,b];exact h2
  ·have e':¬q.1=k:=λz=>e (h1.trans z);have b:valueAt (q::qs) k=valueAt qs k:=by simp[valueAt,List.find?_cons,e']
   rw[mo e,b];exact ih
theorem KV.any (r:KV aK vs)(k:κ):(aK.any λkv=>decide (kv.1=k))=vs.any λkv=>decide (kv.1=k):=by
 unfold KV at r;induction r with
 |nil=>rfl
 |cons h t ih=>rw[List.any_cons,List.any_cons,ih,h.1]
theorem KV.repl (r:KV aK vs)(k:κ)(ry:aU y u):
  KV (aK.map λkv=>if kv.1=k then (kv.1,y)else kv) (vs.map λkv=>if kv.1=k then (kv.1,u)else kv):=by
 unfold KV at r ⊢;induction r with
 |nil=>exact .nil
 |@cons p q ps qs h t ih=>
  rw[uY,uY];refine .cons ?_ ih;obtain⟨h1,h2⟩:=h;by_cases e:p.1=k
  ·rw[if_pos e,if_pos (h1.symm.trans e)];exact⟨h1,ry⟩
  ·rw[if_neg e,if_neg (λz=>e (h1.trans z))];exact⟨h1,h2⟩
theorem KV.put (r:KV aK vs)(k:κ)(ry:aU y u):KV (mm aK k y) (stored vs k u):=by
 unfold mm stored;rw[r.any k];by_cases e:(vs.any λkv=>decide (kv.1=k))=true
 ·rw[if_pos e,if_pos e];exact r.repl k ry
 ·rw[if_neg e,if_neg e];exact Paired.snoc r ⟨rfl,ry⟩
theorem KV.length (r:KV aK vs):aK.length=vs.length:=Paired.length r
end
theorem pU (r:aU (kV k) u):(cm P w).is k u=true:=by
 cases k with
 |inl i=>obtain⟨t,e⟩:=(show ∃t,u=Value.int i t from r);subst e;exact xz P w i t
 |inr x=>obtain⟨t,e⟩:=(show ∃t,u=Value.str x t from r);subst e;exact x0 P w x t
theorem tL:∀ {ks:List cz}{us:List Value},aS (ks.map kV) us->ItemsAre (cm P w) ks us
 |[],_,r=>by rw[List.map_nil]at r;cases r;exact .nil
 |k::ks,_,r=>by
  rw[uY]at r;cases r with
  |cons h t=>exact .cons (pU h) (tL t)
abbrev KT (H:Hp):List (List cz×V)->List (List cz×Addr×Value)->Prop:=Paired λp q=>p.1=q.1/\H q.2.1=some (.tup (p.1.map kV))/\aU p.2 q.2.2
theorem KT.val {H:Hp}{aK:List (List cz×V)}{xs:List (List cz×Addr×Value)}(r:KT H aK xs)(k:List cz):ls (jW aK k) ((atKey xs k).map (·.2)):=by
 induction r with
 |nil=>exact True.intro
 |@cons p q ps qs h t ih=>
  obtain⟨h1,_,h2⟩:=h;by_cases e:p.1=k
  ·have e':q.1=k:=h1.symm.trans e;have b:atKey (q::qs) k=some q.2:=by simp[atKey,List.find?_cons,e']
   rw[mn e,b];exact h2
  ·have e':¬q.1=k:=λz=>e (h1.trans z);have b:atKey (q::qs) k=atKey qs k:=by simp[atKey,List.find?_cons,e']
   rw[mo e,b];exact ih
theorem KT.repl (r:KT H aK xs)(k:List cz)(ry:aU y u):
  KT H (aK.map λkv=>if kv.1=k then (kv.1,y)else kv) (xs.map (putAt k u)):=by
 induction r with
 |nil=>exact .nil
 |@cons p q ps qs h t ih=>
  rw[uY,uY];refine .cons ?_ ih;obtain⟨h1,h2,h3⟩:=h;unfold putAt;by_cases e:p.1=k
  ·rw[if_pos e,if_pos (h1.symm.trans e)];exact⟨h1,h2,ry⟩
  ·rw[if_neg e,if_neg (λz=>e (h1.trans z))];exact⟨h1,h2,h3⟩
theorem KT.put (r:KT H aK xs)(k:List cz)(hb:H b=some (.tup (k.map kV)))(ry:aU y u):
  KT H (mm aK k y) (storedH xs k b u):=by
 have e:(aK.any λkv=>decide (kv.1=k))=(atKey xs k).isSome:=by
  rw[xI,(r.val k).isSome_eq,Option.isSome_map]
 unfold mm storedH;rw[e];by_cases q:(atKey xs k).isSome=true
 ·rw[if_pos q,if_pos q];exact r.repl k ry
 ·rw[if_neg q,if_neg q];exact Paired.snoc r ⟨rfl,hb,ry⟩
theorem KT.keeps (r:KT H aK xs)(ht:∀b ys,H b=some (.tup ys)->H' b=some (.tup ys)):KT H' aK xs :=
 Paired.mapP r λ_ _ z=>⟨z.1,ht _ _ z.2.1,z.2.2⟩
section
variable {P:Program}{w:World}{H:Hp}{h:Heap}{a:Addr}
theorem Lg (ok:lu P w H h)(e:Rd H a u):bN P w H h a u:=e.ok ok
theorem An (ok:lu P w H h)(e:H a=some (.dK aK ob)):h.get? a=some ob:=And.left (show bN P w H h a (.dK aK ob)from ok a _ e)
theorem pV (ok:lu P w H h)(e:Rd H a (.dK aK ob)):aK.length<=sizeLine/\(a == sysModules)=false/\∃vs,KV aK vs/\h.DictOf (cm P w) a vs :=
 And.right (show bN P w H h a (.dK aK ob)from Lg ok e)
theorem pW (ok:lu P w H h)(e:H a=some (.dK aK ob)):aK.length<=sizeLine/\(a == sysModules)=false/\∃vs,KV aK vs/\h.DictOf (cm P w) a vs:=pV ok (.inl e)
theorem nH (ok:lu P w H h)(e:H a=some (.tup (ks.map kV))):(tupleKind (cm P w)).is h ks a:=by
 obtain⟨_,its,r,o,h1,h2,n,h3⟩:=(show bN P w H h a (.tup (ks.map kV))from ok a _ e);exact⟨o,its.toArray,n,h1,h2,h3,by simpa using tL r⟩
theorem pX (ok:lu P w H h)(e:Rd H a (.dT aK)):aK.length<=sizeLine/\(a == sysModules)=false /\
  ∃xs,KT H aK xs/\h.DictOfH (tupleKind (cm P w)) a xs:=by
 obtain⟨z,y,xs,r,o,es,ep,h1,h2,h3,h4,h5⟩:=(show bN P w H h a (.dT aK)from Lg ok e);refine⟨z,y,xs,r,o,es,ep,h1,h2,h3,h4,λx hx=>?_,h5⟩;have all:∀ {l:List (List cz×V)}{m:List (List cz×Addr×Value)},KT H l m->∀x∈m,(tupleKind (cm P w)).is h x.1 x.2.1:=by
  intro l m q;induction q with
  |nil=>intro x hx;exact nomatch hx
  |@cons p q ps qs hq t ih=>
   intro x hx;rcases vP hx with e|hx
   ·subst e;exact nH ok (by rw[←hq.1];exact hq.2.1)
   ·exact ih x hx
 exact all r x hx
theorem Qm (ok:lu P w H h)(e:H a=some (.dT aK)):aK.length<=sizeLine/\(a == sysModules)=false /\
  ∃xs,KT H aK xs/\h.DictOfH (tupleKind (cm P w)) a xs:=pX ok (.inl e)
end
def pY (H:Hp)(a:Addr)(y:V)(r:Option V):Prop :=
 (∃aK k ob,Rd H a (.dK aK ob)/\y=kV k/\r=jW aK k)∨∃aK k b,Rd H a (.dT aK)/\y=.ref b/\H b=some (.tup (k.map kV))/\r=jW aK k
def Qn (H:Hp)(a:Addr)(y v:V)(Q:Hp->Prop):Prop :=
 (∃aK k ob,H a=some (.dK aK ob)/\y=kV k/\aK.length<sizeLine/\∀U3,Q (upd H a (.dK (mm aK k v) U3))) ∨
 ∃aK k b,H a=some (.dT aK)/\y=.ref b/\H b=some (.tup (k.map kV))/\aK.length<sizeLine/\Q (upd H a (.dT (mm aK k v)))
theorem pY.t (e:H a=some (.dT aK))(eb:H b=some (.tup (k.map kV))):pY H a (.ref b) (jW aK k):=.inr ⟨aK,k,b,.inl e,rfl,eb,rfl⟩
section
variable {X:Cx}{ae:List (Addr×Obj)}{σ:St}{H:Hp}{s:Shared}{a:Addr}{y v:V}{u r:Value}{o:Option V}{A:Around}{E:Value->Shared->Prop}
theorem Inv.big (I:Inv X ae σ H s):sysModules<s.heap.objs.size:=by
 have h:mainGlobals<s.heap.objs.size:=(I.mod.glob.keeps I.bk).lt;exact Nat.lt_trans (by decide) h
theorem Dp (hu:A.units+1<cLine)(I:Inv X ae σ H s)(g:pY H a y (some v))(ry:aU y u)(h:∀w' s',Inv X ae σ H s'->aU v w'->Q w' s'):
  wpAny (model X.prog X.w) A (getItem (.ref a) u) Q E s:=by
 rcases g with⟨aK,k,ob,e,ey,l⟩|⟨aK,k,b,e,ey,eb,l⟩
 ·subst ey;obtain⟨z,hd,vs,pv,dd⟩:=pV I.hok e;obtain⟨w',hw,Hv⟩:=ls.some_of (v:=v) (o:=valueAt vs k) (by rw[l];exact pv.val k);exact wpAny_getItem_of (pU ry) dd.mapOf hw (h w' _ (I.tok _) Hv)
 ·subst ey;cases (show u=Value.ref b from ry)
  obtain⟨z,hd,xs,pv,dd⟩:=pX I.hok e;obtain⟨w',hw,Hv⟩:=ls.some_of (v:=v) (o:=(atKey xs k).map (·.2)) (by rw[l];exact pv.val k);obtain⟨p,hp,Yo⟩:=oY hw;refine wpAny_getItem_heap (tupleKind_room_in1 hu) (nH I.hok eb) dd hp ?_;rw[Yo];exact h w' _ (I.tok _) Hv
theorem T4 (hu:A.units+1<cLine)(I:Inv X ae σ H s)(g:pY H a y o)(ry:aU y u)(h:∀s',Inv X ae σ H s'->Q (.bool o.isSome) s'):
  wpAny (model X.prog X.w) A (compareOp .In u (.ref a)) Q E s:=by
 rcases g with⟨aK,k,ob,e,ey,l⟩|⟨aK,k,b,e,ey,eb,l⟩
 ·subst ey;obtain⟨z,hd,vs,pv,dd⟩:=pV I.hok e;refine wpAny_in_of (pU ry) hd dd.mapOf ?_;rw[←(pv.val k).isSome_eq,←l];exact h _ (I.tok _)
 ·subst ey;cases (show u=Value.ref b from ry)
  obtain⟨z,hd,xs,pv,dd⟩:=pX I.hok e;refine wpAny_in_heap (tupleKind_room_in1 hu) (nH I.hok eb) hd dd ?_;have q:=(pv.val k).isSome_eq;rw[Option.isSome_map]at q;rw[←q,←l];exact h _ (I.tok _)
theorem IF (hu:A.units+1<cLine)(I:Inv X ae σ H s)(g:pY H a y o)(ry:aU y u)(h:∀s',Inv X ae σ H s'->Q (.bool (!o.isSome)) s'):
  wpAny (model X.prog X.w) A (compareOp .NotIn u (.ref a)) Q E s:=by
 rcases g with⟨aK,k,ob,e,ey,l⟩|⟨aK,k,b,e,ey,eb,l⟩
 ·subst ey;obtain⟨z,hd,vs,pv,dd⟩:=pV I.hok e;refine wpAny_notIn_of (pU ry) hd dd.mapOf ?_;rw[←(pv.val k).isSome_eq,←l];exact h _ (I.tok _)
 ·subst ey;cases (show u=Value.ref b from ry)
  obtain⟨z,hd,xs,pv,dd⟩:=pX I.hok e;refine wpAny_notIn_heap (tupleKind_room_in1 hu) (nH I.hok eb) hd dd ?_;have q:=(pv.val k).isSome_eq;rw[Option.isSome_map]at q;rw[←q,←l];exact h _ (I.tok _)
theorem wg (I:Inv X ae σ H s)(mu:P4 (H a))(hs:Heap.SameBut a s.heap h')(he:∃q,h'.get? a=some q)(new:bN X.prog X.w (upd H a ob) h' a ob):
  Inv X ae σ (upd H a ob) { s with heap:=h',toks:=t' } :=
 I.write (x:=a) (e:=a) mu (.inl rfl) (λb q hb z=>(hs.2 b hb).trans z) he new
theorem ET (z:aK.length<=sizeLine)(hd:(a == sysModules)=false)(pv:KV aK vs)(dd:h'.DictOf (cm P w) a vs)(hg:h'.get? a=some ob):
  bN P w H' h' a (.dK aK ob):=⟨hg,z,hd,vs,pv,dd⟩
theorem Dq (hu:A.units+1<cLine)(I:Inv X ae σ H s)(g:Qn H a y v R)(ry:aU y u)(rv:aU v r)(h:∀H' s',R H'->Inv X ae σ H' s'->Q () s'):
  wpAny (model X.prog X.w) A (setItem (.ref a) u r) Q E s:=by
 rcases g with⟨aK,k,ob,e,ey,l,eH⟩|⟨aK,k,b,e,ey,eb,l,eH⟩
 ·subst ey;obtain⟨z,hd,vs,pv,dd⟩:=pW I.hok e;have hz:vs.length<=sizeLine:=by rw[←pv.length];exact z
  have hl:(mm aK k v).length<=sizeLine:=by have:=km aK k v;omega
  refine wpAny_setItem_pairs (hsz:=hz) (pU ry) dd λh' K9 hs=>?_;obtain⟨q,hq⟩:∃q,h'.get? a=some q:=let ⟨q,_,_,hq,_⟩:=K9;⟨q,hq⟩;exact h _ _ (eH q) (wg I (by rw[e];exact True.intro) hs ⟨q,hq⟩ (ET hl hd (pv.put k rv) K9 hq))
 ·subst ey;cases (show u=Value.ref b from ry)
  obtain⟨z,hd,xs,pv,dd⟩:=Qm I.hok e;have hz:xs.length<=sizeLine:=by rw[←Paired.length pv];exact z
  have hl:(mm aK k v).length<=sizeLine:=by have:=km aK k v;omega
  refine wpAny_setItem_heap (hsz:=hz) (tupleKind_room_in1 hu) (nH I.hok eb) dd λh' K9 hs=>h _ _ eH ?_;obtain⟨q,es,ep,hq,h2,h3,h4,_,h5⟩:=K9;refine wg I (by rw[e];exact True.intro) hs ⟨q,hq⟩ ⟨hl,hd,_,(pv.put k eb rv).keeps λc ys ec=>?_,q,es,ep,hq,h2,h3,h4,h5⟩;rw[aI (P2 ec e (λz=>nomatch z))];exact ec
end
def MY (i:Expr):Prop:=∀ov iv,subscripted i false ov iv=operate [ov,iv] (getItem ov iv)
theorem IG {prog:Program}{w:World}{A:Around}{E:Value->Shared->Prop}{s:Shared}{env:Env}{value slice:Expr}{pos:Pos}{T id:String}{Q:Value->Shared->Prop}
  (hl:typeLookup (.type T) "__getitem__" = pure (some (.builtin id))) (hs:MY slice)
  (h:wpAny (model prog w) A (eval value env) (λo s₁=>wpAny (model prog w) A (eval slice env) (λi s₂=>s₂.TypeIs o T/\wpAny (model prog w) A (getItem o i) Q E s₂) E s₁) E s):
  wpAny (model prog w) A (eval (.Subscript value slice pos) env) Q E s:=by
 refine Subscript_ (wpAny_mono h (λo s₁ h₁=>wpAny_mono h₁ (λi s₂ h₂=>?_) λ_ _ x=>x) λ_ _ x=>x);obtain⟨hT,h₂⟩:=h₂;unfold subscriptTail;refine wX ?_;rw[getitemInPython_of_ne hT.not_modules];refine wX (wpAny_specialOf hT hl ?_);have iF:wpAny (model prog w) A (subscripted slice false o i) (λr s₃=>wpAny (model prog w) A (letTemporaryGo value o r>>=λ_=>pure r) Q E s₃) E s₂:=by
  rw[hs o i];exact wpAny_operating (wpAny_mono h₂ (λr s₃ h₃=>wX (wpAny_letTemporaryGo (wY h₃))) λ_ _ x=>x)
 first
  |exact wY (wX iF)
  |exact wX (wY (wX iF))
  |exact wX iF
theorem xJ (I:Inv X ae σ H s)(g:pY H a y o):s.TypeIs (.ref a) "dict":=by
 rcases g with⟨aK,k,Um,e,_,_⟩|⟨aK,k,b,e,_,_,_⟩
 ·obtain⟨_,_,vs,_,dd⟩:=pV I.hok e;exact dd.typeIs
 ·obtain⟨_,_,xs,_,dd⟩:=pX I.hok e;exact dd.typeIs
def Qo (td ty:TE):TE:=λσ H Q=>td σ H λx H1=>ty σ H1 λy H2=>∃a v,x=.ref a/\pY H2 a y (some v)/\Q v H2
def T5 (ty td:TE):TE:=λσ H Q=>ty σ H λy H1=>td σ H1 λx H2=>∃a o,x=.ref a/\pY H2 a y o/\Q (.bl o.isSome) H2
def IH (ty td:TE):TE:=λσ H Q=>ty σ H λy H1=>td σ H1 λx H2=>∃a o,x=.ref a/\pY H2 a y o/\Q (.bl (!o.isSome)) H2
def Bw (td ty tv:TE):TS:=λD σ H=>tv σ H λv H1=>td σ H1 λx H2=>ty σ H2 λy H3=>∃a,x=.ref a/\Qn H3 a y v (D.nx σ)
section
variable {X:Cx}{o i e value:Expr}{pos zL En:Pos}{td ty tv:TE}
theorem II (hu:X.A.units+1<cLine)(ho:PE X o td)(hi:PE X i ty)(hs:MY i):PE X (.Subscript o i pos) (Qo td ty):=by
 intro ae s σ H Q I h;refine IG PySem.F.slot_dict_getitem.lookup hs (cu (ho ae s σ H _ I h) λu s1 ⟨x,H1,I1,rx,q1⟩=>cu (hi ae s1 σ H1 _ I1 q1) λiv s2 ⟨y,H2,I2,ry,a,v,ex,g,q2⟩=>?_);subst ex;obtain rfl:u=Value.ref a:=rx;exact⟨xJ I2 g,Dp hu I2 g ry λw' s3 I3 Hv=>⟨v,H2,I3,Hv,q2⟩⟩
theorem MZ (hu:X.A.units+1<cLine)(hi:PE X i ty)(ho:PE X o td):PC X .In i o (T5 ty td):=by
 intro ae s σ H Q I h;refine cu (hi ae s σ H _ I h) λiv s1 ⟨y,H1,I1,ry,q1⟩=>cu (ho ae s1 σ H1 _ I1 q1) λu s2 ⟨x,H2,I2,rx,a,ov,ex,g,q2⟩=>?_;subst ex;obtain rfl:u=Value.ref a:=rx;exact T4 hu I2 g ry λs3 I3=>⟨.bl ov.isSome,H2,I3,rfl,q2⟩
theorem Dr (hu:X.A.units+1<cLine)(hi:PE X i ty)(ho:PE X o td):PC X .NotIn i o (IH ty td):=by
 intro ae s σ H Q I h;refine cu (hi ae s σ H _ I h) λiv s1 ⟨y,H1,I1,ry,q1⟩=>cu (ho ae s1 σ H1 _ I1 q1) λu s2 ⟨x,H2,I2,rx,a,ov,ex,g,q2⟩=>?_;subst ex;obtain rfl:u=Value.ref a:=rx;exact IF hu I2 g ry λs3 I3=>⟨.bl (!ov.isSome),H2,I3,rfl,q2⟩
theorem wj (hu:X.A.units+1<cLine)(ho:PE X o td)(hi:PE X i ty)(hv:PE X value tv)(hs:swapsWith value (some (.Subscript o i zL)) pos.line X.env=pure false):
  PS X (.Assign [.Subscript o i zL] value pos) (Bw td ty tv):=by
 intro ae s σ H D I h;refine wpAny_Assign_Subscript (cu (hv ae s σ H _ I h) λr s1 ⟨v,H1,I1,rv,q1⟩=>cu (ho ae s1 σ H1 _ I1 q1) λu s2 ⟨x,H2,I2,rx,q2⟩=>cu (hi ae s2 σ H2 _ I2 q2) λiv s3 ⟨y,H3,I3,ry,a,ex,g⟩=>?_) hs;subst ex;obtain rfl:u=Value.ref a:=rx;exact Dq hu I3 g ry rv λH4 s4 q3 I4=>⟨σ,H4,I4,q3⟩
end
theorem xK (h:Heap)(hb:sysModules<h.objs.size):bN P w H (h.push { cls:=.type "dict",data:=.dict #[] }) h.objs.size (.dK [] { cls:=.type "dict",data:=.dict #[] }) :=
 ⟨vY _ rfl,uN _,beq_eq_false_iff_ne.mpr (Ne.symm (vS hb)),[],.nil,Heap.DictOf.new h⟩
theorem EU (h:Heap)(hb:sysModules<h.objs.size):bN P w H (h.push { cls:=.type "dict",data:=.dict #[] }) h.objs.size (.dT []) :=
 ⟨uN _,beq_eq_false_iff_ne.mpr (Ne.symm (vS hb)),[],.nil,_,#[],0,vY _ rfl,⟨rfl,rfl,rfl⟩,rfl,rfl,List.nodup_nil⟩
def EV:TE:=λ_ H Q=>∀p ob,H p=none->Q (.ref p) (upd H p (.dK [] ob))
def EW:TE:=λ_ H Q=>∀p,H p=none->Q (.ref p) (upd H p (.dT []))
section
variable {X:Cx}{pos:Pos}
theorem EX:PE X (.Dict [] [] pos) EV:=λae s σ H Q I h=>
 wpAny_Dict_empty ⟨.ref s.heap.objs.size,_,I.laid (a:=s.heap.objs.size) (o:=.dK [] { cls:=.type "dict",data:=.dict #[] }) (t':=s.toks) (λ_ _ q=>vZ _ q) (vT _) (xK s.heap I.big),rfl,h _ _ (I.hok.fresh (vT _))⟩
theorem EY:PE X (.Dict [] [] pos) EW:=λae s σ H Q I h=>
 wpAny_Dict_empty ⟨.ref s.heap.objs.size,_,I.laid (a:=s.heap.objs.size) (o:=.dT []) (t':=s.toks) (λ_ _ q=>vZ _ q) (vT _) (EU s.heap I.big),rfl,h _ (I.hok.fresh (vT _))⟩
end
structure M1 (X:Cx)(o:Expr)(m:Str)(cV:Pos)(e:Expr)(cr:Pos):Prop where
 base:attributeBase o m X.env (eval o X.env)=eval o X.env
 few:((backTo cr (starEach [e] X.env)).all (λx=>!x.1) && (backToKw cr (keywordEach [] X.env)).all (λx=>x.1.isSome)
  && decide (([e]:List Expr).length+([]:List Keyword).length+(if([]:List Keyword).isEmpty then 0 else 1)<30))=true
 line:(cV.endLine == cr.line)=true
 trees:backTo cr (starEach [e] X.env)=[(false,eval e X.env)]
def VA (H:Hp)(a:Addr):Prop:=(∃aK ob,Rd H a (.dK aK ob))∨∃aK,Rd H a (.dT aK)
theorem Na (I:Inv X ae σ H s)(d:VA H a):
  s.TypeIs (.ref a) "dict"/\(∀b,Value.ref a=.ref b->∃ob,s.heap.get? b=some ob/\ob.dict=none)/\(a == sysModules)=false:=by
 rcases d with⟨aK,Um,e⟩|⟨aK,e⟩
 ·obtain⟨_,hd,vs,_,dd⟩:=pV I.hok e;refine⟨dd.typeIs,λb q=>?_,hd⟩;cases q
  obtain⟨ob,_,_,h1,h2,_⟩:=dd;exact⟨ob,h1,h2.2.1⟩
 ·obtain⟨_,hd,xs,_,dd⟩:=pX I.hok e;refine⟨dd.typeIs,λb q=>?_,hd⟩;cases q
  obtain⟨ob,_,_,h1,h2,_⟩:=dd;exact⟨ob,h1,h2.2.1⟩
section
variable {X:Cx}{ae:List (Addr×Obj)}{σ:St}{H:Hp}{s:Shared}{a:Addr}{y d:V}{u r:Value}{o:Option V}{A:Around}{E:Value->Shared->Prop}
theorem Nb (hu:A.units+1<cLine)(I:Inv X ae σ H s)(g:pY H a y o)(ry:aU y u)(h:∀w' s',Inv X ae σ H s'->aU (o.getD .non) w'->Q w' s'):
  wpAny (model X.prog X.w) A (call (.builtin "dict.get") [.ref a,u]) Q E s:=by
 rcases g with⟨aK,k,ob,e,ey,l⟩|⟨aK,k,b,e,ey,eb,l⟩
 ·subst ey;obtain⟨z,hd,vs,pv,dd⟩:=pV I.hok e;refine call_meetsIn PySem.F.slot_dict_get dd.typeIs PySem.F.entry_dict_get (PySem.F.args_dict_get_2 _ _) (meets_dict_get (cm X.prog X.w) a (pU ry) hd) ⟨_,dd.mapOf,h _ _ (I.tok _) ?_⟩;rw[l];exact(pv.val k).getD rfl
 ·subst ey;cases (show u=Value.ref b from ry)
  obtain⟨z,hd,xs,pv,dd⟩:=pX I.hok e;refine call_meetsIn PySem.F.slot_dict_get dd.typeIs PySem.F.entry_dict_get (PySem.F.args_dict_get_2 _ _) (meetsH_dict_get (tupleKind (cm X.prog X.w)) a b hd) ⟨tupleKind_room_in1 hu,k,xs,nH I.hok eb,dd,h _ _ (I.tok _) ?_⟩;rw[l];exact(pv.val k).getD rfl
end
def Nc (td ty:TE):TE:=λσ H Q=>td σ H λx H1=>∃a,x=.ref a/\VA H1 a/\ty σ H1 λy H2=>∃o,pY H2 a y o/\Q (o.getD .non) H2
section
variable {X:Cx}{o e f:Expr}{cV cr:Pos}{td ty tx:TE}
theorem xL (hu:X.A.units+1<cLine)(ho:PE X o td)(he:PE X e ty)(m:M1 X o "get" cV e cr):PE X (.Call (.Attribute o "get" cV) [e] [] cr) (Nc td ty):=by
 intro ae s σ H Q I h;refine wpAny_Call_method m.base m.few m.line PySem.F.plainAttrs_dict PySem.F.slot_dict_get PySem.F.type_dict_get (cu (ho ae s σ H _ I h) λu s1 ⟨x,H1,I1,rx,a,ex,d,q1⟩=>?_);subst ex;obtain rfl:u=Value.ref a:=rx;obtain⟨t1,t2,_⟩:=Na I1 d;refine⟨t1,t2,?_⟩;rw[m.trees];refine Calls.callWith_builtin rfl (Calls.evalArgs_plain (Calls.spliced_cons (cu (he ae s1 σ H1 _ I1 q1) λiv s2 ⟨y,H2,I2,ry,ov,g,q2⟩=>Calls.spliced_nil ?_)));exact Nb hu I2 g ry λw' s3 I3 Hv=>⟨_,H2,I3,Hv,q2⟩
end
end L2
namespace DL
open PySem L2
set_option linter.all false
abbrev St:=L2.St
inductive D where
 |non|bl (b:Bool)|int (i:Int)|str (x:Str)|ty (n:String)|tup (ds:List D)|lst (ds:List D)
  |dk (ks:List cz) (vs:List D)|dt (ks:List (List cz)) (vs:List D)
abbrev OB:=Option (D×Bool)
mutual
inductive Is (K:Frag)(H:Hp):V->D->Prop where
 |non:Is K H .non .non
 |bl (b:Bool):Is K H (.bl b) (.bl b)
 |int (i:Int):Is K H (.int i) (.int i)
 |str (x:Str):Is K H (.str x) (.str x)
 |ty (n:String):Is K H (.ty n) (.ty n)
 |tup {a:Addr}{vs:List V}{ds:List D}(h:jl K H a vs) (hs:IsL K H vs ds):Is K H (.ref a) (.tup ds)
 |lst {a:Addr}{vs:List V}{ds:List D}(h:gX K H a vs) (hs:IsL K H vs ds):Is K H (.ref a) (.lst ds)
 |dk {a:Addr}{ks:List cz}{vs:List V}{ds:List D}{ob:Obj}(h:H a=some (.dK (ks.zip vs) ob)) (hl:ks.length=vs.length) (hs:IsL K H vs ds):Is K H (.ref a) (.dk ks ds)
 |dt {a:Addr}{ks:List (List cz)}{vs:List V}{ds:List D}(h:H a=some (.dT (ks.zip vs))) (hl:ks.length=vs.length) (hs:IsL K H vs ds):Is K H (.ref a) (.dt ks ds)
inductive IsL (K:Frag)(H:Hp):List V->List D->Prop where
 |nil:IsL K H [] []
 |cons {v:V}{d:D}{vs:List V}{ds:List D}(h:Is K H v d) (hs:IsL K H vs ds):IsL K H (v::vs) (d::ds)
end
mutual
def be:D->Bool
 |.lst _=>false
 |.dk _ _=>false
 |.dt _ _=>false
 |.tup ds=>bz ds
 |_=>true
def bz:List D->Bool
 |[]=>true
 |d::ds=>be d && bz ds
end
@[simp] theorem OL:be .non=true:=by simp only[be]
@[simp] theorem Qp (b:Bool):be (.bl b)=true:=by simp only[be]
@[simp] theorem OM (i:Int):be (.int i)=true:=by simp only[be]
@[simp] theorem ON (x:Str):be (.str x)=true:=by simp only[be]
@[simp] theorem Qq (x:String):be (.ty x)=true:=by simp only[be]
@[simp] theorem OO (ds:List D):be (.tup ds)=bz ds:=by rw[be]
@[simp] theorem OP (ds:List D):be (.lst ds)=false:=by rw[be]
@[simp] theorem Qr (ks:List cz)(ds:List D):be (.dk ks ds)=false:=by rw[be]
@[simp] theorem Qs (ks:List (List cz))(ds:List D):be (.dt ks ds)=false:=by rw[be]
@[simp] theorem Nd:bz []=true:=by rw[bz]
@[simp] theorem Lh (d:D)(ds:List D):bz (d::ds)=(be d && bz ds):=by rw[bz]
section
variable {K:Frag}{H H':Hp}
mutual
theorem Is.keep (hT:∀a vs,jl K H a vs->jl K H' a vs)(hL:∀a vs,gX K H a vs->gX K H' a vs)(hK:∀a aK ob,H a=some (.dK aK ob)->H' a=some (.dK aK ob))(hM:∀a aK,H a=some (.dT aK)->H' a=some (.dT aK)):∀ {v:V}{d:D},Is K H v d->Is K H' v d
 |_,_,.non=>.non
 |_,_,.bl b=>.bl b
 |_,_,.int i=>.int i
 |_,_,.str x=>.str x
 |_,_,.ty x=>.ty x
 |_,_,.tup h hs=>.tup (hT _ _ h) (IsL.keep hT hL hK hM hs)
 |_,_,.lst h hs=>.lst (hL _ _ h) (IsL.keep hT hL hK hM hs)
 |_,_,.dk h hl hs=>.dk (hK _ _ _ h) hl (IsL.keep hT hL hK hM hs)
 |_,_,.dt h hl hs=>.dt (hM _ _ h) hl (IsL.keep hT hL hK hM hs)
theorem IsL.keep (hT:∀a vs,jl K H a vs->jl K H' a vs)(hL:∀a vs,gX K H a vs->gX K H' a vs)(hK:∀a aK ob,H a=some (.dK aK ob)->H' a=some (.dK aK ob))(hM:∀a aK,H a=some (.dT aK)->H' a=some (.dT aK)):∀ {vs:List V}{ds:List D},IsL K H vs ds->IsL K H' vs ds
 |_,_,.nil=>.nil
 |_,_,.cons h hs=>.cons (Is.keep hT hL hK hM h) (IsL.keep hT hL hK hM hs)
end
mutual
theorem Is.keepT (hT:∀a vs,jl K H a vs->jl K H' a vs):∀ {v:V}{d:D},Is K H v d->be d=true->Is K H' v d
 |_,_,.non,_=>.non
 |_,_,.bl b,_=>.bl b
 |_,_,.int i,_=>.int i
 |_,_,.str x,_=>.str x
 |_,_,.ty x,_=>.ty x
 |_,_,.tup h hs,n=>.tup (hT _ _ h) (IsL.keepT hT hs (by simpa using n))
 |_,_,.lst h hs,n=>by simp at n
 |_,_,.dk h hl hs,n=>by simp at n
 |_,_,.dt h hl hs,n=>by simp at n
theorem IsL.keepT (hT:∀a vs,jl K H a vs->jl K H' a vs):∀ {vs:List V}{ds:List D},IsL K H vs ds->bz ds=true->IsL K H' vs ds
 |_,_,.nil,_=>.nil
 |_,_,.cons h hs,n=>by
  simp at n;exact .cons (Is.keepT hT h n.1) (IsL.keepT hT hs n.2)
end
theorem bj (e:aV H H')(h:jl K H a xs):jl K H' a xs:=by
 rcases h with (h|⟨o,h⟩)|h
 ·exact .inl (.inl (e _ _ h))
 ·exact .inl (.inr ⟨o,e _ _ h⟩)
 ·exact .inr h
theorem Is.mono (h:Is K H v d)(e:aV H H'):Is K H' v d:=h.keep (λ_ _=>bj e) (λ_ _=>e.seq) (λ_ _ _ q=>e _ _ q) λ_ _ q=>e _ _ q
theorem IsL.mono (h:IsL K H v d)(e:aV H H'):IsL K H' v d:=h.keep (λ_ _=>bj e) (λ_ _=>e.seq) (λ_ _ _ q=>e _ _ q) λ_ _ q=>e _ _ q
theorem IsL.length:∀ {vs:List V}{ds:List D},IsL K H vs ds->vs.length=ds.length
 |_,_,.nil=>rfl
 |_,_,.cons _ t=>congrArg (· + 1) t.length
theorem IsL.get:∀ {vs:List V}{ds:List D}{i:Nat}{d:D},IsL K H vs ds->ds[i]? = some d->∃v,vs[i]? = some v/\Is K H v d
 |_,_,_,_,.nil,e=>by simp at e
 |_,_,0,_,.cons h _,e=>by simp at e;subst e;exact⟨_,rfl,h⟩
 |_,_,i+1,d,.cons _ t,e=>by
  obtain⟨u,h1,h2⟩:=t.get (i:=i) (d:=d) (by simpa using e);exact⟨u,by simpa using h1,h2⟩
theorem IsL.append:∀ {vs ws:List V}{ds es:List D},IsL K H vs ds->IsL K H ws es->IsL K H (vs++ws) (ds++es)
 |_,_,_,_,.nil,s=>s
 |_,_,_,_,.cons r t,s=>.cons r (t.append s)
theorem IsL.take:∀ {vs:List V}{ds:List D}(n:Nat),IsL K H vs ds->IsL K H (vs.take n) (ds.take n)
 |_,_,0,_=>by simpa using IsL.nil
 |_,_,_+1,.nil=>.nil
 |_,_,n+1,.cons r t=>.cons r (t.take n)
theorem IsL.drop:∀ {vs:List V}{ds:List D}(n:Nat),IsL K H vs ds->IsL K H (vs.drop n) (ds.drop n)
 |_,_,0,r=>r
 |_,_,_+1,.nil=>.nil
 |_,_,n+1,.cons _ t=>t.drop n
theorem IsL.set (h:Is K H v d):∀ {vs:List V}{ds:List D}(i:Nat),IsL K H vs ds->IsL K H (vs.set i v) (ds.set i d)
 |_,_,_,.nil=>.nil
 |_,_,0,.cons _ t=>.cons h t
 |_,_,i+1,.cons r t=>.cons r (IsL.set h i t)
theorem IsL.eraseIdx:∀ {vs:List V}{ds:List D}(i:Nat),IsL K H vs ds->IsL K H (vs.eraseIdx i) (ds.eraseIdx i)
 |_,_,_,.nil=>.nil
 |_,_,0,.cons _ t=>t
 |_,_,i+1,.cons r t=>.cons r (t.eraseIdx i)
theorem IsL.flat {vs:List V}{ns:List Int}(h:vs=ns.map V.int):IsL K H vs (ns.map D.int):=by
 subst h;induction ns with
 |nil=>exact .nil
 |cons n ns ih=>exact .cons (.int n) ih
end
structure Ext (B N H H':Hp):Prop where
 hh:aV H H'
 bn:aV B N
 nh:aV N H'
 new:∀a o,N a=some o->B a=some o∨H a=none
theorem Ext.refl (h:aV B H):Ext B B H H:=⟨.refl _,.refl _,h,λ_ _ e=>.inl e⟩
theorem Ext.trans (x:Ext B N H H1)(y:Ext N N2 H1 H2):Ext B N2 H H2 :=
 ⟨x.hh.trans y.hh,x.bn.trans y.bn,y.nh,λa o e=>(y.new a o e).elim (λq=>x.new a o q) λq=>.inr (x.hh.free q)⟩
theorem Ext.laid (h:aV B H)(hp:H p=none):Ext B (upd B p o) H (upd H p o):=by
 have hB:B p=none:=h.free hp;refine⟨λa u e=>?_,λa u e=>?_,λa u e=>?_,λa u e=>?_⟩
 ·rw[aI (λq=>by subst q;rw[hp]at e;cases e)];exact e
 ·rw[aI (λq=>by subst q;rw[hB]at e;cases e)];exact e
 ·by_cases q:a=p
  ·subst q;rw[aC]at e ⊢;exact e
  ·rw[aI q]at e ⊢;exact h _ _ e
 ·by_cases q:a=p
  ·subst q;exact .inr hp
  ·rw[aI q]at e;exact .inl e
theorem Ext.grow (h:aV B H)(hh:aV H H'):Ext B B H H':=⟨hh,.refl _,h.trans hh,λ_ _ e=>.inl e⟩
abbrev Env:=List OB
abbrev FE:=Env->OB
abbrev FA:=Env->Option (List D)
abbrev FT:=Env->Option Bool
def OQ (K:Frag)(H N:Hp)(v:V)(d:D):Prop:=∃(a:Addr)(vs:List V)(ds:List D),v=.ref a/\d=.lst ds/\H a=none/\N a=some (.lst vs)/\IsL K N vs ds
theorem OQ.back (h:OQ K H' N v d)(e:aV H H'):OQ K H N v d:=let ⟨a,vs,ds,q,y,z,r⟩:=h;⟨a,vs,ds,q,y,e.free z,r⟩
noncomputable def mq:List Str:=["in_order","has_seal","is_first_death","bases_by"]
noncomputable def pZ (x:Str):Str:=x ++ ".<locals>." ++ "<lambda>"
def Tb (K:Frag)(B:Hp):Prop:=∀x∈mq,∀c P,PySem.W.tabIn K x=some (c,P)->B P=some (.tbl (pZ x))
theorem Tb.mono (h:Tb K B)(e:aV B B'):Tb K B':=λx hx c P q=>e _ _ (h x hx c P q)
structure fN (K:Frag)(B:Hp)(σ:St)(ρ:Env):Prop where
 tb:Tb K B
 at':∀(i:Nat)(d:D)(b:Bool),ρ[i]? = some (some (d,b))->∃v,σ[i]? = some (some v)/\Is K B v d
theorem fN.mono (h:fN K B σ ρ)(e:aV B B'):fN K B' σ ρ:=⟨h.tb.mono e,λi d b q=>let ⟨v,h1,h2⟩:=h.at' i d b q;⟨v,h1,h2.mono e⟩⟩
def Fin (K:Frag)(B H:Hp)(d:D)(b:Bool)(Q:VK):Prop:=∀(v:V)(H' N:Hp),Ext B N H H'->Is K N v d->(b=true->OQ K H N v d)->Q v H'
def tD (K:Frag)(f:FE):TE:=λσ H Q=>∃(B:Hp)(ρ:Env)(d:D)(b:Bool),aV B H/\fN K B σ ρ/\f ρ=some (d,b)/\Fin K B H d b Q
def By (K:Frag)(f:FT):TT:=λσ H Q=>∃(B:Hp)(ρ:Env)(c:Bool),aV B H/\fN K B σ ρ/\f ρ=some c/\∀H',aV H H'->Q c H'
def OR (K:Frag)(f:FA):TA:=λσ H Q=>∃(B:Hp)(ρ:Env)(ds:List D),aV B H/\fN K B σ ρ/\f ρ=some ds/\∀(vs:List V)(H' N:Hp),Ext B N H H'->IsL K N vs ds->Q vs H'
def rD (K:Frag)(op:D->D->OB):R2:=λx y H Q=>∃(B:Hp)(dx dy d:D)(b:Bool),aV B H/\Is K B x dx/\Is K B y dy/\op dx dy=some (d,b)/\Fin K B H d b Q
def T6 (K:Frag)(op:D->OB):V->Hp->VK->Prop:=λx H Q=>∃(B:Hp)(dx d:D)(b:Bool),aV B H/\Is K B x dx/\op dx=some (d,b)/\Fin K B H d b Q
def Bz (K:Frag)(op:List D->OB):List V->Hp->VK->Prop:=λxs H Q=>∃(B:Hp)(ds:List D)(d:D)(b:Bool),aV B H/\IsL K B xs ds/\op ds=some (d,b)/\Fin K B H d b Q
theorem Fin.one (h:Fin K B H d false Q)(s:aV B H)(i:Is K B v d):Q v H:=h v H B (.refl s) i (by simp)
theorem Fin.into (h:Fin K B H d b Q)(x:Ext B N H H1):Fin K N H1 d b Q:=λv H' N' y i fr=>h v H' N' (x.trans y) i λe=>(fr e).back x.hh
@[simp] noncomputable def fC (d:D):FE:=λ_=>some (d,false)
@[simp] noncomputable def aj (i:Nat):FE:=λρ=>match ρ[i]? with|some (some (d,_))=>some (d,false)|_=>none
@[simp] noncomputable def f2 (op:D->D->OB)(fa fb:FE):FE:=λρ=>(fa ρ).bind λx=>(fb ρ).bind λy=>op x.1 y.1
@[simp] noncomputable def f1 (op:D->OB)(fa:FE):FE:=λρ=>(fa ρ).bind λx=>op x.1
@[simp] noncomputable def ai:FA:=λ_=>some []
@[simp] noncomputable def af (fa:FE)(fr:FA):FA:=λρ=>(fa ρ).bind λx=>(fr ρ).bind λxs=>some (x.1::xs)
@[simp] noncomputable def fA (op:List D->OB)(fa:FA):FE:=λρ=>(fa ρ).bind op
theorem Nf (h:tD K (aj i) σ H Q):∃v,σ[i]? = some (some v)/\Q v H:=by
 obtain⟨B,ρ,d,b,s,r,e,q⟩:=h;unfold aj at e;split at e
 ·rename_i d' b' e';cases e
  obtain⟨v,h1,h2⟩:=r.at' i _ _ e';exact⟨v,h1,q.one s h2⟩
 ·cases e
theorem IJ (h:tD K (f2 op fa fb) σ H Q):tD K fa σ H λx H1=>tD K fb σ H1 λy H2=>rD K op x y H2 Q:=by
 obtain⟨B,ρ,d,b,s,r,e,q⟩:=h;obtain⟨x,ex,e⟩:=oX e;obtain⟨y,ey,e⟩:=oX e;refine⟨B,ρ,x.1,x.2,s,r,ex,λv H1 N x1 i1 _=>⟨N,ρ,y.1,y.2,x1.nh,r.mono x1.bn,ey,λv2 H2 N2 x2 i2 _=>⟨N2,x.1,y.1,d,b,x2.nh,i1.mono x2.bn,i2,e,?_⟩⟩⟩;exact q.into (x1.trans x2)
theorem T7 (h:tD K (f1 op fa) σ H Q):tD K fa σ H λx H1=>T6 K op x H1 Q:=by
 obtain⟨B,ρ,d,b,s,r,e,q⟩:=h;obtain⟨x,ex,e⟩:=oX e;exact⟨B,ρ,x.1,x.2,s,r,ex,λv H1 N x1 i1 _=>⟨N,x.1,d,b,x1.nh,i1,e,q.into x1⟩⟩
theorem IK (h:tD K (fA op fa) σ H Q):OR K fa σ H λxs H1=>Bz K op xs H1 Q:=by
 obtain⟨B,ρ,d,b,s,r,e,q⟩:=h;obtain⟨x,ex,e⟩:=oX e;exact⟨B,ρ,x,s,r,ex,λv H1 N x1 i1=>⟨N,x,d,b,x1.nh,i1,e,q.into x1⟩⟩
theorem IL (h:OR K ai σ H Q):Q [] H:=by
 obtain⟨B,ρ,ds,s,r,e,q⟩:=h;cases e
 exact q [] H B (.refl s) .nil
theorem EZ (h:OR K (af fa fr) σ H Q):tD K fa σ H λx H1=>OR K fr σ H1 λxs H2=>Q (x::xs) H2:=by
 obtain⟨B,ρ,ds,s,r,e,q⟩:=h;obtain⟨x,ex,e⟩:=oX e;obtain⟨y,ey,e⟩:=oX e;cases e
 exact⟨B,ρ,x.1,x.2,s,r,ex,λv H1 N x1 i1 _=>⟨N,ρ,y,x1.nh,r.mono x1.bn,ey,λvs H2 N2 x2 i2=>q _ H2 N2 (x1.trans x2) (.cons (i1.mono x2.bn) i2)⟩⟩
@[simp] noncomputable def bd (f:FE):FT:=λρ=>match f ρ with|some (.bl c,_)=>some c|_=>none
@[simp] noncomputable def fu (f g:FT):FT:=λρ=>match f ρ with|some true=>g ρ|some false=>some false|none=>none
@[simp] noncomputable def gQ (f g:FT):FT:=λρ=>match f ρ with|some true=>some true|some false=>g ρ|none=>none
@[simp] noncomputable def eI (f:FT):FT:=λρ=>(f ρ).map (!·)
@[simp] noncomputable def fIf (c:FT)(f g:FE):FE:=λρ=>match c ρ with|some true=>f ρ|some false=>g ρ|none=>none
open Classical in
noncomputable def dZ (H:Hp)(P:Addr->Prop):Hp:=λa=>if P a then none else H a
theorem cY (h:¬P a):dZ H P a=H a:=by unfold dZ;rw[if_neg h]
theorem Ao (h:P a):dZ H P a=none:=by unfold dZ;rw[if_pos h]
theorem qc (h:dZ H P a=some o):¬P a/\H a=some o:=by
 by_cases q:P a
 ·rw[Ao q]at h;cases h
 ·rw[cY q]at h;exact⟨q,h⟩
theorem bO:aV (dZ H P) H:=λ_ _ e=>(qc e).2
theorem eJ (e:∀a o,H a=some o->¬P a->H' a=some o/\¬P' a):aV (dZ H P) (dZ H' P'):=λa o q=>by
 obtain⟨h1,h2⟩:=qc q;obtain⟨h3,h4⟩:=e a o h2 h1;rw[cY h4];exact h3
noncomputable def join (N N':Hp):Hp:=λa=>match N a with|some o=>some o|none=>N' a
theorem eP:aV N (join N N'):=λa o e=>by unfold join;rw[e]
theorem eA (e:N a=none):join N N' a=N' a:=by unfold join;rw[e]
def own (σ:St)(ρ:Env)(a:Addr):Prop:=∃(i:Nat)(d:D),ρ[i]? = some (some (d,true))/\σ[i]? = some (some (V.ref a))
inductive Bx (K:Frag)(C:Hp):HO->D->Prop where
 |lst {vs:List V}{ds:List D}(h:IsL K C vs ds):Bx K C (.lst vs) (.lst ds)
 |dk {ks:List cz}{vs:List V}{ds:List D}(hl:ks.length=vs.length) (h:IsL K C vs ds) {ob:Obj}:Bx K C (.dK (ks.zip vs) ob) (.dk ks ds)
 |dt {ks:List (List cz)}{vs:List V}{ds:List D}(hl:ks.length=vs.length) (h:IsL K C vs ds):Bx K C (.dT (ks.zip vs)) (.dt ks ds)
theorem Bx.mono (h:Bx K C o d)(e:aV C C'):Bx K C' o d:=by
 cases h with
 |lst h=>exact .lst (h.mono e)
 |dk hl h=>exact .dk hl (h.mono e)
 |dt hl h=>exact .dt hl (h.mono e)
theorem Bx.is (h:Bx K C o d)(e:C a=some o):Is K C (.ref a) d:=by
 cases h with
 |lst h=>exact .lst (gX.of e) h
 |dk hl h=>exact .dk e hl h
 |dt hl h=>exact .dt e hl h
structure eF (K:Frag)(B0 H0 N H:Hp)(σ:St)(ρ:Env):Prop where
 bh:aV B0 H0
 tb:Tb K B0
 ext:Ext B0 N H0 H
 len:ρ.length=σ.length
 sh:∀(i:Nat)(d:D),ρ[i]? = some (some (d,false))->∃v,σ[i]? = some (some v)/\Is K (dZ N (own σ ρ)) v d
 ow:∀(i:Nat)(d:D),ρ[i]? = some (some (d,true))->∃(a:Addr)(o:HO),σ[i]? = some (some (V.ref a))/\N a=some o/\H0 a=none/\Bx K (dZ N (own σ ρ)) o d
 inj:∀(i j:Nat)(a:Addr)(d e:D),ρ[i]? = some (some (d,true))->ρ[j]? = some (some (e,true))->σ[i]? = some (some (V.ref a))->σ[j]? = some (some (V.ref a))->i=j
def wl (K:Frag)(B0 H0 H:Hp)(σ:St)(ρ:Env):Prop:=∃N,eF K B0 H0 N H σ ρ
section
variable {K:Frag}{B0 H0 N H H':Hp}{σ:St}{ρ:Env}
theorem eF.owL (s:eF K B0 H0 N H σ ρ)(i:Nat)(d:D)(q:ρ[i]? = some (some (.lst es,true)))(hd:d=.lst es:=by rfl):∃(a:Addr)(vs:List V)(ds:List D),d=.lst ds/\σ[i]? = some (some (V.ref a))/\N a=some (.lst vs)/\H0 a=none/\IsL K (dZ N (own σ ρ)) vs ds:=by
 obtain⟨a,o,h1,h2,h3,h4⟩:=s.ow i _ q;cases h4 with
 |lst h4=>exact⟨a,_,es,hd,h1,h2,h3,h4⟩
def boxed:HO->Prop
 |.lst _|.dK _ _|.dT _=>True
 |_=>False
theorem Bx.boxed (h:Bx K C o d):boxed o:=by cases h<;>exact trivial
theorem eF.owned (s:eF K B0 H0 N H σ ρ)(h:own σ ρ a):∃o,(N a=some o/\boxed o)/\H0 a=none:=by
 obtain⟨i,d,h1,h2⟩:=h;obtain⟨a',o,h3,h4,h5,h6⟩:=s.ow i d h1;rw[h2]at h3;cases h3;exact⟨o,⟨h4,h6.boxed⟩,h5⟩
theorem eF.rep (s:eF K B0 H0 N H σ ρ):fN K N σ ρ:=⟨s.tb.mono s.ext.bn,λi d b q=>by
 cases b with
 |false=>obtain⟨v,h1,h2⟩:=s.sh i d q;exact⟨v,h1,h2.mono bO⟩
 |true=>
  obtain⟨a,o,h2,h3,_,h4⟩:=s.ow i d q;exact⟨_,h2,(h4.mono bO).is h3⟩⟩
noncomputable def mr (ρ:Env):Env:=ρ.map λx=>match x with|some (d,false)=>some (d,false)|_=>none
theorem Fa {i:Nat}{d:D}{b:Bool}(h:(mr ρ)[i]? = some (some (d,b))):b=false/\ρ[i]? = some (some (d,false)):=by
 unfold mr at h;rw[vA]at h;cases e:ρ[i]? with
 |none=>rw[e]at h;cases h
 |some x=>
  rw[e]at h;match x,h with
  |some (d',false),h=>cases h;exact⟨rfl,rfl⟩
  |some (d',true),h=>cases h
  |none,h=>cases h
theorem eF.tbC (s:eF K B0 H0 N H σ ρ):Tb K (dZ N (own σ ρ)):=λx hx c P q=>by
 have z:=s.tb.mono s.ext.bn x hx c P q;rw[cY]
 ·exact z
 ·intro y;obtain⟨o,⟨y,yb⟩,_⟩:=s.owned y;rw[z]at y;cases y;exact yb
theorem eF.repH (s:eF K B0 H0 N H σ ρ):fN K (dZ N (own σ ρ)) σ (mr ρ):=⟨s.tbC,λi d b q=>by
 obtain⟨rfl,q2⟩:=Fa q;exact s.sh i d q2⟩
theorem eF.grow (s:eF K B0 H0 N H σ ρ)(x:Ext N N' H H'):eF K B0 H0 N' H' σ ρ:=by
 have c:aV (dZ N (own σ ρ)) (dZ N' (own σ ρ)):=eJ λa o e q=>⟨x.bn a o e,q⟩;refine⟨s.bh,s.tb,s.ext.trans x,s.len,λi d q=>?_,λi d q=>?_,s.inj⟩
 ·obtain⟨v,h1,h2⟩:=s.sh i d q;exact⟨v,h1,h2.mono c⟩
 ·obtain⟨a,o,h2,h3,h4,h5⟩:=s.ow i d q;exact⟨a,o,h2,x.bn _ _ h3,h4,h5.mono c⟩
theorem eF.growH (s:eF K B0 H0 N H σ ρ)(x:Ext (dZ N (own σ ρ)) N' H H'):eF K B0 H0 (join N N') H' σ ρ/\aV N' (dZ (join N N') (own σ ρ)):=by
 have x':Ext N (join N N') H H':=by
  refine⟨x.hh,eP,λa o e=>?_,λa o e=>?_⟩
  ·cases q:N a with
   |some u=>
    have:join N N' a=some u:=eP _ _ q;rw[this]at e;cases e;exact x.hh _ _ (s.ext.nh _ _ q)
   |none=>rw[eA q]at e;exact x.nh _ _ e
  ·cases q:N a with
   |some u=>
    have:join N N' a=some u:=eP _ _ q;rw[this]at e;cases e;exact .inl rfl
   |none=>
    rw[eA q]at e;rcases x.new a o e with z|z
    ·have:=bO _ _ z;rw[q]at this;cases this
    ·exact .inr z
 refine⟨s.grow x',λa o e=>?_⟩;rcases x.new a o e with z|z
 ·obtain⟨z1,z2⟩:=qc z;rw[cY z1];exact eP _ _ z2
 ·have hN:N a=none:=s.ext.nh.free z;have:¬own σ ρ a:=λq=>by obtain⟨vs,⟨q,_⟩,_⟩:=s.owned q;rw[hN]at q;cases q
  rw[cY this,eA hN];exact e
noncomputable def unown (ρ:Env):Env:=ρ.map λx=>x.map λy=>(y.1,false)
theorem kX {i:Nat}{d:D}{b:Bool}(h:(unown ρ)[i]? = some (some (d,b))):b=false/\∃c,ρ[i]? = some (some (d,c)):=by
 unfold unown at h;rw[vA]at h;cases e:ρ[i]? with
 |none=>rw[e]at h;cases h
 |some x=>
  rw[e]at h;match x,h with
  |some (d',c),h=>cases h;exact⟨rfl,c,rfl⟩
  |none,h=>cases h
theorem tM {a:Addr}:¬own σ (unown ρ) a:=λ⟨i,d,h,_⟩=>by
 obtain⟨z,_⟩:=kX h;cases z
theorem eF.unown (s:eF K B0 H0 N H σ ρ):eF K B0 H0 N H σ (unown ρ):=by
 refine⟨s.bh,s.tb,s.ext,by unfold DL.unown;rw[vI];exact s.len,λi d q=>?_,λi d q=>?_,λi j a d e q=>?_⟩
 ·obtain⟨_,c,q⟩:=kX q;obtain⟨v,h1,h2⟩:=s.rep.at' i d c q;exact⟨v,h1,h2.mono λa o e=>by rw[cY tM];exact e⟩
 ·obtain⟨z,_⟩:=kX q;cases z
 ·obtain⟨z,_⟩:=kX q;cases z
theorem bX {α:Type}{l:List α}{i j:Nat}{x y:α}(h:(l.set i x)[j]? = some y):(i=j/\x=y)∨(i≠j/\l[j]? = some y):=by
 by_cases e:i=j
 ·subst e;rw[List.getElem?_set]at h;split at h
  ·split at h
   ·exact .inl ⟨rfl,vK h⟩
   ·cases h
  ·contradiction
 ·rw[vB e]at h;exact .inr ⟨e,h⟩
theorem tN {α β:Type}{l:List α}{m:List β}{i:Nat}{x y:α}(h:(l.set i x)[i]? = some y)(e:l.length=m.length):i<m.length:=by
 obtain⟨h,_⟩:=vV h;rw[List.length_set]at h;omega
theorem wm {i:Nat}{v:V}{x:OB}{a:Addr}(h:own (σ.set i (some v)) (ρ.set i x) a):(v=.ref a/\∃d,x=some (d,true))∨∃j,j≠i/\∃d,ρ[j]? = some (some (d,true))/\σ[j]? = some (some (V.ref a)):=by
 obtain⟨j,d,h1,h2⟩:=h;rcases bX h1 with⟨e,q⟩|⟨e,q⟩
 ·rcases bX h2 with⟨e2,q2⟩|⟨e2,q2⟩
  ·cases q2;exact .inl ⟨rfl,d,q⟩
  ·exact absurd e e2
 ·rcases bX h2 with⟨e2,q2⟩|⟨e2,q2⟩
  ·exact absurd e2 e
  ·exact .inr ⟨j,λz=>e z.symm,d,q,q2⟩
theorem eF.bind (s:eF K B0 H0 N H σ ρ){i:Nat}{v:V}{d:D}(h:Is K (dZ N (own σ ρ)) v d):eF K B0 H0 N H (σ.set i (some v)) (ρ.set i (some (d,false))):=by
 have o:∀a,own (σ.set i (some v)) (ρ.set i (some (d,false))) a->own σ ρ a:=λa q=>by
  rcases wm q with⟨_,d',p⟩|⟨j,_,d',q1,q2⟩
  ·cases p
  ·exact⟨j,d',q1,q2⟩
 have c:aV (dZ N (own σ ρ)) (dZ N (own (σ.set i (some v)) (ρ.set i (some (d,false))))):=eJ λa u e q=>⟨e,λz=>q (o a z)⟩;refine⟨s.bh,s.tb,s.ext,by simp[s.len],λj e q=>?_,λj e q=>?_,λj k a e f q q' h1 h2=>?_⟩
 ·rcases bX q with⟨rfl,p⟩|⟨ne,p⟩
  ·cases p
   have hi:=tN q s.len;exact⟨v,by simp[hi],h.mono c⟩
  ·obtain⟨w,h1,h2⟩:=s.sh j e p;exact⟨w,by rw[vB ne];exact h1,h2.mono c⟩
 ·rcases bX q with⟨rfl,p⟩|⟨ne,p⟩
  ·cases p
  ·obtain⟨a,o,h1,h2,h3,h4⟩:=s.ow j e p;exact⟨a,o,by rw[vB ne];exact h1,h2,h3,h4.mono c⟩
 ·rcases bX q with⟨rfl,p⟩|⟨ne,p⟩
  ·cases p
  ·rcases bX q' with⟨rfl,p'⟩|⟨Rp,p'⟩
   ·cases p'
   ·rw[vB ne]at h1;rw[vB Rp]at h2;exact s.inj j k a e f p p' h1 h2
theorem eF.bindOwn (s:eF K B0 H0 N H σ ρ){i:Nat}{a:Addr}{ob:HO}{dd:D}(hN:N a=some ob)(h0:H0 a=none)(Hu:∀(j:Nat)(d:D),ρ[j]? = some (some (d,true))->σ[j]? ≠ some (some (V.ref a)))
  (U2:∀(j:Nat)(d:D),j≠i->ρ[j]? = some (some (d,false))->∃v,σ[j]? = some (some v)/\Is K (dZ N (λb=>own σ ρ b∨b=a)) v d) (Yp:∀(j:Nat)(d:D),j≠i->ρ[j]? = some (some (d,true))->∃(a':Addr)(o:HO),σ[j]? = some (some (V.ref a'))/\N a'=some o/\Bx K (dZ N (λb=>own σ ρ b∨b=a)) o d)
  (Ou:Bx K (dZ N (λb=>own σ ρ b∨b=a)) ob dd):eF K B0 H0 N H (σ.set i (some (.ref a))) (ρ.set i (some (dd,true))):=by
 have o:∀b,own (σ.set i (some (V.ref a))) (ρ.set i (some (dd,true))) b->own σ ρ b∨b=a:=λb q=>by
  rcases wm q with⟨p,_⟩|⟨j,_,d',q1,q2⟩
  ·cases p;exact .inr rfl
  ·exact .inl ⟨j,d',q1,q2⟩
 have c:aV (dZ N (λb=>own σ ρ b∨b=a)) (dZ N (own (σ.set i (some (V.ref a))) (ρ.set i (some (dd,true))))):=eJ λb u e q=>⟨e,λz=>q (o b z)⟩;refine⟨s.bh,s.tb,s.ext,by simp[s.len],λj e q=>?_,λj e q=>?_,λj k b e f q q' h1 h2=>?_⟩
 ·rcases bX q with⟨rfl,p⟩|⟨ne,p⟩
  ·cases p
  ·obtain⟨w,h1,h2⟩:=U2 j e (Ne.symm ne) p;exact⟨w,by rw[vB ne];exact h1,h2.mono c⟩
 ·rcases bX q with⟨rfl,p⟩|⟨ne,p⟩
  ·cases p
   have hi:=tN q s.len;exact⟨a,ob,by simp[hi],hN,h0,Ou.mono c⟩
  ·obtain⟨a',o',h1,h2,h4⟩:=Yp j e (Ne.symm ne) p;have h3:H0 a'=none:=by
    obtain⟨a2,_,k1,_,k3,_⟩:=s.ow j e p;rw[h1]at k1;cases k1;exact k3
   exact⟨a',o',by rw[vB ne];exact h1,h2,h3,h4.mono c⟩
 ·rcases bX q with⟨rfl,p⟩|⟨ne,p⟩
  ·rcases bX q' with⟨rfl,p'⟩|⟨Rp,p'⟩
   ·rfl
   ·rw[vB Rp]at h2;have S7:V.ref a=V.ref b:=by
     rcases bX h1 with⟨_,z⟩|⟨z,_⟩
     ·exact vK z
     ·exact absurd rfl z
    cases S7
    exact absurd h2 (Hu k f p')
  ·rcases bX q' with⟨rfl,p'⟩|⟨Rp,p'⟩
   ·rw[vB ne]at h1;have Hy:V.ref a=V.ref b:=by
     rcases bX h2 with⟨_,z⟩|⟨z,_⟩
     ·exact vK z
     ·exact absurd rfl z
    cases Hy
    exact absurd h1 (Hu j e p)
   ·rw[vB ne]at h1;rw[vB Rp]at h2;exact s.inj j k b e f p p' h1 h2
end
inductive Res where
 |nx (ρ:Env)|rt (d:D) (b:Bool)|bk (ρ:Env)|ct (ρ:Env)
abbrev FS:=Env->Option Res
def Qt (K:Frag)(B0 H0:Hp)(E:Ends):Res->Prop
 |.nx ρ=>∀σ H,wl K B0 H0 H σ ρ->E.nx σ H
 |.rt d b=>∀v H N,Ext B0 N H0 H->Is K N v d->(b=true->OQ K H0 N v d)->E.rt v H
 |.bk ρ=>∀σ H,wl K B0 H0 H σ ρ->E.bk σ H
 |.ct ρ=>∀σ H,wl K B0 H0 H σ ρ->E.ct σ H
def nz (K:Frag)(g:FS):TS:=λE σ H=>∃(B0 H0:Hp)(ρ:Env)(r:Res),wl K B0 H0 H σ ρ/\g ρ=some r/\Qt K B0 H0 E r
section
variable {K:Frag}{B0 H0 N H H':Hp}{σ:St}{ρ:Env}{E:Ends}
theorem eF.writeB (s:eF K B0 H0 N H σ ρ)(hi:ρ[i]? = some (some (d,true)))(hσ:σ[i]? = some (some (V.ref a)))(h:Bx K (dZ N (own σ ρ)) ob dd):
  eF K B0 H0 (upd N a ob) (upd H a ob) σ (ρ.set i (some (dd,true))):=by
 have oa:own σ ρ a:=⟨i,d,hi,hσ⟩;obtain⟨ws,hw,h0⟩:=s.owned oa;have b0:B0 a=none:=s.bh.free h0;have o:∀b,own σ (ρ.set i (some (dd,true))) b↔own σ ρ b:=λb=>by
  constructor
  ·rintro⟨j,e,q1,q2⟩;rcases bX q1 with⟨rfl,p⟩|⟨_,p⟩
   ·exact⟨i,d,hi,q2⟩
   ·exact⟨j,e,p,q2⟩
  ·rintro⟨j,e,q1,q2⟩;by_cases z:i=j
   ·subst z;exact⟨i,dd,by rw[List.getElem?_set_self (vV hi).1],q2⟩
   ·exact⟨j,e,by rw[vB z];exact q1,q2⟩
 have c:aV (dZ N (own σ ρ)) (dZ (upd N a ob) (own σ (ρ.set i (some (dd,true))))):=eJ λb u e q=>by
  have ne:b≠a:=λz=>q (z ▸ oa);exact⟨by rw[aI ne];exact e,λz=>q ((o b).mp z)⟩
 refine⟨s.bh,s.tb,⟨λb u e=>?_,λb u e=>?_,λb u e=>?_,λb u e=>?_⟩,by rw[List.length_set];exact s.len,λj e q=>?_,λj e q=>?_,λj k b e f q q' h1 h2=>?_⟩
 ·rw[aI (λz=>by subst z;rw[h0]at e;cases e)];exact s.ext.hh _ _ e
 ·rw[aI (λz=>by subst z;rw[b0]at e;cases e)];exact s.ext.bn _ _ e
 ·by_cases z:b=a
  ·subst z;rw[aC]at e ⊢;exact e
  ·rw[aI z]at e ⊢;exact s.ext.nh _ _ e
 ·by_cases z:b=a
  ·subst z;exact .inr h0
  ·rw[aI z]at e;exact s.ext.new _ _ e
 ·rcases bX q with⟨rfl,p⟩|⟨ne,p⟩
  ·cases p
  ·obtain⟨v,h1,h2⟩:=s.sh j e p;exact⟨v,h1,h2.mono c⟩
 ·rcases bX q with⟨rfl,p⟩|⟨ne,p⟩
  ·cases p
   exact⟨a,ob,hσ,aC,h0,h.mono c⟩
  ·obtain⟨a',o',h1,h2,h3,h4⟩:=s.ow j e p;have na:a'≠a:=λz=>by subst z;exact ne (s.inj i j _ d e hi p hσ h1)
   exact⟨a',o',h1,by rw[aI na];exact h2,h3,h4.mono c⟩
 ·have get:∀ {j:Nat}{e:D},(ρ.set i (some (dd,true)))[j]? = some (some (e,true))->∃e',ρ[j]? = some (some (e',true)):=λ{j e} q=>by
   rcases bX q with⟨rfl,p⟩|⟨ne,p⟩
   ·exact⟨d,hi⟩
   ·exact⟨e,p⟩
  obtain⟨e',q1⟩:=get q;obtain⟨f',q2⟩:=get q';exact s.inj j k b e' f' q1 q2 h1 h2
theorem eF.write (s:eF K B0 H0 N H σ ρ)(hi:ρ[i]? = some (some (d,true)))(hσ:σ[i]? = some (some (V.ref a)))(h:IsL K (dZ N (own σ ρ)) vs ds):
  eF K B0 H0 (upd N a (.lst vs)) (upd H a (.lst vs)) σ (ρ.set i (some (.lst ds,true))):=s.writeB hi hσ (.lst h)
theorem eF.tups (s:eF K B0 H0 N H σ ρ):∀a vs,jl K N a vs->jl K (dZ N (own σ ρ)) a vs:=λa vs h=>by
 have key:∀u,N a=some u->¬boxed u->dZ N (own σ ρ) a=some u:=λu e hu=>by
  rw[cY λz=>?_];exact e;obtain⟨ws,⟨q,qb⟩,_⟩:=s.owned z;rw[e]at q;cases q;exact hu qb
 rcases h with (h|⟨o,h⟩)|h
 ·exact .inl (.inl (key _ h (λq=>q)))
 ·exact .inl (.inr ⟨o,key _ h (λq=>q)⟩)
 ·exact .inr h
theorem eF.flat (s:eF K B0 H0 N H σ ρ)(h:Is K N v d)(n:be d=true):Is K (dZ N (own σ ρ)) v d:=h.keepT s.tups n
theorem eF.rebase (s:eF K B0 H0 N H σ ρ):eF K (dZ N (own σ ρ)) (dZ H (own σ ρ)) N H σ ρ :=
 ⟨eJ λa o e q=>⟨s.ext.nh _ _ e,q⟩,s.tbC,⟨bO,bO,s.ext.nh,λa o e=>by
  by_cases q:own σ ρ a
  ·exact .inr (Ao q)
  ·exact .inl (by rw[cY q];exact e)⟩,s.len,s.sh,λi d q=>by
   obtain⟨a,o,h1,h2,_,h4⟩:=s.ow i d q;exact⟨a,o,h1,h2,Ao ⟨i,d,q,h1⟩,h4⟩,s.inj⟩
theorem eF.unbase (s:eF K B0 H0 N H σ ρ)(t:eF K (dZ N (own σ ρ)) (dZ H (own σ ρ)) N' H' σ' ρ'):eF K B0 H0 N' H' σ' ρ':=by
 have h0:aV H0 (dZ H (own σ ρ)):=λa o e=>by
  rw[cY λz=>?_];exact s.ext.hh _ _ e;obtain⟨_,_,q⟩:=s.owned z;rw[q]at e;cases e
 have b0:aV B0 (dZ N (own σ ρ)):=λa o e=>by
  rw[cY λz=>?_];exact s.ext.bn _ _ e;obtain⟨_,_,q⟩:=s.owned z;rw[s.bh _ _ e]at q;cases q
 refine⟨s.bh,s.tb,⟨h0.trans t.ext.hh,b0.trans t.ext.bn,t.ext.nh,λa o e=>?_⟩,t.len,t.sh,λi d q=>?_,t.inj⟩
 ·rcases t.ext.new a o e with z|z
  ·exact s.ext.new a o (bO _ _ z)
  ·exact .inr (h0.free z)
 ·obtain⟨a,o,h1,h2,h3,h4⟩:=t.ow i d q;exact⟨a,o,h1,h2,h0.free h3,h4⟩
theorem eF.based (t:eF K B0 H0 N H σ ρ):aV B0 (dZ N (own σ ρ)):=λa o e=>by
 rw[cY λz=>?_];exact t.ext.bn _ _ e;obtain⟨_,_,q⟩:=t.owned z;rw[t.bh _ _ e]at q;cases q
@[simp] noncomputable def a7 (g h:FS):FS:=λρ=>match g ρ with|some (.nx ρ')=>h ρ'|r=>r
@[simp] noncomputable def bg:FS:=λρ=>some (.nx ρ)
@[simp] noncomputable def eB (c:FT)(g h:FS):FS:=λρ=>match c ρ with|some true=>g ρ|some false=>h ρ|none=>none
@[simp] noncomputable def aR (f:FE):FS:=λρ=>(f ρ).map λx=>.rt x.1 x.2
@[simp] noncomputable def VB:FS:=λ_=>some (.rt .non false)
@[simp] noncomputable def VC (f:FE):FS:=λρ=>(f ρ).map λ_=>.nx ρ
@[simp] noncomputable def Li:D->Bool
 |.dk _ _=>true
 |.dt _ _=>true
 |_=>false
@[simp] def jS (i:Nat):FS:=λρ=>match ρ[i]? with|some (some (d,b))=>some (.rt d (b && !Li d))|_=>none
@[simp] def xM:D->Bool
 |.lst ds=>bz ds
 |_=>false
@[simp] def setE (ρ:Env)(i:Nat)(d:D)(b:Bool):Env :=
 if be d=true then ρ.set i (some (d,false))else if b=true/\xM d=true then ρ.set i (some (d,true))else (unown ρ).set i (some (d,false))
@[simp] def aN (i:Nat)(f:FE):FS:=λρ=>(f ρ).map λx=>.nx (setE ρ i x.1 x.2)
@[simp] def xN (i:Nat)(f:FE):FS:=λρ=>(f (mr ρ)).map λx=>.nx (ρ.set i (some (x.1,false)))
@[simp] def iT (i:Nat)(f:FE):FS:=λρ=>match ρ[i]? with
 |some (some (.lst ds,true))=>(f ρ).bind λx=>if be x.1=true/\ds.length<sizeLine then some (.nx (ρ.set i (some (.lst (ds++[x.1]),true))))else none
 |_=>none
theorem IM (q:nz K (a7 g h) E σ H):PH (nz K g) (nz K h) E σ H:=by
 obtain⟨B0,H0,ρ,r,s,e,p⟩:=q;unfold a7 at e;cases eg:g ρ with
 |none=>rw[eg]at e;cases e
 |some r1=>
  rw[eg]at e;cases r1 with
  |nx ρ'=>exact⟨B0,H0,ρ,.nx ρ',s,eg,λσ' H' s'=>⟨B0,H0,ρ',r,s',e,p⟩⟩
  |rt d b=>cases e;exact⟨B0,H0,ρ,_,s,eg,p⟩
  |bk ρ'=>cases e;exact⟨B0,H0,ρ,_,s,eg,p⟩
  |ct ρ'=>cases e;exact⟨B0,H0,ρ,_,s,eg,p⟩
theorem Fb (q:nz K bg E σ H):KY E σ H:=by
 obtain⟨B0,H0,ρ,r,s,e,p⟩:=q;cases e
 exact p σ H s
theorem wl.grown (s:eF K B0 H0 N H σ ρ)(h:aV H H'):wl K B0 H0 H' σ ρ:=⟨N,s.grow (.grow s.ext.nh h)⟩
theorem Ng (q:nz K (eB c g h) E σ H):PL (By K c) (nz K g) (nz K h) E σ H:=by
 obtain⟨B0,H0,ρ,r,⟨N,s⟩,e,p⟩:=q;unfold eB at e;cases ec:c ρ with
 |none=>rw[ec]at e;cases e
 |some b=>
  rw[ec]at e;refine⟨N,ρ,b,s.ext.nh,s.rep,ec,λH1 h1=>?_⟩;cases b with
  |true=>rw[if_pos rfl];exact⟨B0,H0,ρ,r,.grown s h1,e,p⟩
  |false=>rw[if_neg (by decide)];exact⟨B0,H0,ρ,r,.grown s h1,e,p⟩
theorem IN (q:nz K (aR f) E σ H):M4 (tD K f) E σ H:=by
 obtain⟨B0,H0,ρ,r,⟨N,s⟩,e,p⟩:=q;obtain⟨x,ex,e⟩:=oY e;subst e;exact⟨N,ρ,x.1,x.2,s.ext.nh,s.rep,ex,λv H1 N1 x1 i1 f1=>p v H1 N1 (s.ext.trans x1) i1 λb=>(f1 b).back s.ext.hh⟩
theorem Fc (q:nz K (jS i) E σ H):M4 (EA i) E σ H:=by
 obtain⟨B0,H0,ρ,r,⟨N,s⟩,e,p⟩:=q;unfold jS at e;split at e
 ·rename_i d b ei;cases e
  cases b with
  |false=>
   obtain⟨v,h1,h2⟩:=s.sh i d ei;exact⟨v,h1,p v H N s.ext (h2.mono bO) (by simp)⟩
  |true=>
   obtain⟨a,o,h1,h2,h3,h4⟩:=s.ow i d ei;cases h4 with
   |lst h4=>exact⟨_,h1,p _ H N s.ext (.lst (gX.of h2) (h4.mono bO)) λ_=>⟨a,_,_,rfl,rfl,h3,h2,h4.mono bO⟩⟩
   |dk hl h4=>exact⟨_,h1,p _ H N s.ext (.dk h2 hl (h4.mono bO)) (by simp)⟩
   |dt hl h4=>exact⟨_,h1,p _ H N s.ext (.dt h2 hl (h4.mono bO)) (by simp)⟩
 ·cases e
theorem eF.setE (s:eF K B0 H0 N H σ ρ)(x:Ext N N1 H H1)(h:Is K N1 v d)(f:b=true->OQ K H N1 v d):eF K B0 H0 N1 H1 (σ.set i (some v)) (setE ρ i d b):=by
 have s1:=s.grow x;unfold DL.setE;by_cases hn:be d=true
 ·rw[if_pos hn];exact s1.bind (s1.flat h hn)
 ·rw[if_neg hn];by_cases hb:b=true/\xM d=true
  ·rw[if_pos hb];obtain⟨a,vs,ds,rfl,rfl,ha,hN,hs⟩:=f hb.1;have Wo:N a=none:=s.ext.nh.free ha;have U4:¬own σ ρ a:=λz=>by obtain⟨ws,⟨q,_⟩,_⟩:=s.owned z;rw[Wo]at q;cases q
   have c:aV (dZ N (own σ ρ)) (dZ N1 (λb=>own σ ρ b∨b=a)):=eJ λb u e q=>⟨x.bn _ _ e,λz=>z.elim q λz=>by subst z;rw[Wo]at e;cases e⟩;refine s1.bindOwn hN (s.ext.hh.free ha) (λj e q z=>U4 ⟨j,e,q,z⟩) (λj e _ q=>?_) (λj e _ q=>?_) (.lst (hs.keepT (λt ts st=>?_) hb.2))
   ·obtain⟨w,h1,h2⟩:=s.sh j e q;exact⟨w,h1,h2.mono c⟩
   ·obtain⟨a',o',h1,h2,_,h4⟩:=s.ow j e q;exact⟨a',o',h1,x.bn _ _ h2,h4.mono c⟩
   ·have key:∀u,N1 t=some u->¬boxed u->dZ N1 (λb=>own σ ρ b∨b=a) t=some u:=λu e hu=>by
     rw[cY λz=>?_];exact e;rcases z with z|z
     ·obtain⟨ws,⟨q,qb⟩,_⟩:=s1.owned z;rw[e]at q;cases q;exact hu qb
     ·subst z;rw[e]at hN;cases hN;exact hu trivial
    rcases st with (st|⟨o,st⟩)|st
    ·exact .inl (.inl (key _ st (λq=>q)))
    ·exact .inl (.inr ⟨o,key _ st (λq=>q)⟩)
    ·exact .inr st
  ·rw[if_neg hb];exact s1.unown.bind (h.mono λa o e=>by rw[cY tM];exact e)
theorem B1 (q:nz K (aN i f) E σ H):Aa (tD K f) (jQ i) E σ H:=by
 obtain⟨B0,H0,ρ,r,⟨N,s⟩,e,p⟩:=q;obtain⟨x,ex,e⟩:=oY e;subst e;exact⟨N,ρ,x.1,x.2,s.ext.nh,s.rep,ex,λv H1 N1 x1 i1 f1=>p _ H1 ⟨N1,s.setE x1 i1 f1⟩⟩
theorem Fd (q:nz K (xN i f) E σ H):Aa (tD K f) (jQ i) E σ H:=by
 obtain⟨B0,H0,ρ,r,⟨N,s⟩,e,p⟩:=q;obtain⟨x,ex,e⟩:=oY e;subst e;refine⟨dZ N (own σ ρ),mr ρ,x.1,x.2,bO.trans s.ext.nh,s.repH,ex,λv H1 N1 x1 i1 f1=>?_⟩;obtain⟨s1,c⟩:=s.growH x1;exact p _ H1 ⟨_,s1.bind (i1.mono c)⟩
theorem IP (q:nz K (iT i f) E σ H):∃(a:Addr)(us:List V),σ[i]? = some (some (V.ref a))/\H a=some (.lst us)/\Lc (tD K f) Qe σ H λxs H2=>Bv (.ref a) xs H2 λ_ H3=>E.nx σ H3:=by
 obtain⟨B0,H0,ρ,r,⟨N,s⟩,e,p⟩:=q;unfold iT at e;split at e
 ·rename_i ds ei;obtain⟨x,ex,e⟩:=oX e;split at e
  ·rename_i hx;cases e
   obtain⟨a,vs,Ia,z,h1,h2,h3,h4⟩:=s.owL i _ ei;cases z
   refine⟨a,vs,h1,s.ext.nh _ _ h2,N,ρ,x.1,x.2,s.ext.nh,s.rep,ex,λv H1 N1 x1 i1 f1=>⟨a,vs,v,rfl,rfl,x1.hh _ _ (s.ext.nh _ _ h2),by rw[h4.length];exact hx.2,?_⟩⟩;have s1:=s.grow x1;obtain⟨a',S8,Ia,z,k1,k2,_,k4⟩:=s1.owL i _ ei;cases z
   rw[h1]at k1;cases k1;rw[x1.bn _ _ h2]at k2;cases k2;exact p σ _ ⟨_,s1.write ei h1 (k4.append (.cons (s1.flat i1 hx.1) .nil))⟩
  ·cases e
 ·cases e
end
noncomputable def fU (c:FT)(g:FS):Nat->Env->Option Res
 |0,_=>none
 |n+1,ρ=>match c ρ with
  |some true=>match g ρ with
   |some (.nx ρ')=>fU c g n ρ'
   |some (.ct ρ')=>fU c g n ρ'
   |some (.bk ρ')=>some (.nx ρ')
   |r=>r
  |some false=>some (.nx ρ)
  |none=>none
theorem Ds (q:nz K (fU c g n) E σ H):ED (By K c) (nz K g) E σ H:=by
 obtain⟨B0,H0,ρ,r,s,e,p⟩:=q;refine⟨λm σ H=>∃ρ,wl K B0 H0 H σ ρ/\fU c g m ρ=some r,⟨n,ρ,s,e⟩,?_⟩;rintro m σ H ⟨ρ,⟨N,s⟩,e⟩;cases m with
 |zero=>cases e
 |succ m=>
  unfold fU at e;cases ec:c ρ with
  |none=>rw[ec]at e;cases e
  |some b=>
   rw[ec]at e;refine⟨N,ρ,b,s.ext.nh,s.rep,ec,λH1 h1=>?_⟩;cases b with
   |false=>rw[if_neg (by decide)];cases e;exact p σ H1 (.grown s h1)
   |true=>
    rw[if_pos rfl];refine⟨λσ H=>∃ρ,wl K B0 H0 H σ ρ/\fU c g m ρ=some r,λσ' H' w=>⟨m,Nat.lt_succ_self m,w⟩,?_⟩;cases eg:g ρ with
    |none=>rw[eg]at e;cases e
    |some r1=>
     rw[eg]at e;refine⟨B0,H0,ρ,r1,.grown s h1,eg,?_⟩;cases r1 with
     |nx ρ'=>exact λσ' H' s'=>⟨ρ',s',e⟩
     |ct ρ'=>exact λσ' H' s'=>⟨ρ',s',e⟩
     |bk ρ'=>cases e;exact λσ' H' s'=>p σ' H' s'
     |rt d b=>cases e;exact p
def nI (K:Frag)(J:It)(B:Hp)(ds:List D):Prop:=∀(i:Nat)(H:Hp),aV B H ->
 (∀d,ds[i]? = some d->J.go i H/\∀x H',J.yld i H x H'->∃N,Ext B N H H'/\Is K N x d)/\(ds.length<=i->J.stop i H)
def VD (K:Frag)(f:FA):TI:=λσ H R=>∃(B:Hp)(ρ:Env)(ds:List D),aV B H/\fN K B σ ρ/\f ρ=some ds/\∀(J:It)(H' N:Hp),Ext B N H H'->nI K J N ds->R J H'
abbrev FG:=D->Env->Option Env
def IQ (K:Frag)(tg:FG)(g:TG):Prop:=∀(B0 H0 N H:Hp)(σ:St)(ρ ρ':Env)(v:V)(d:D)(Q:St->Hp->Prop),eF K B0 H0 N H σ ρ->Is K (dZ N (own σ ρ)) v d->tg d ρ=some ρ' ->
 (∀σ' H',wl K B0 H0 H' σ' ρ'->Q σ' H')->g v σ H Q
@[simp] noncomputable def dD (i:Nat):FG:=λd ρ=>some (ρ.set i (some (d,false)))
theorem fw:IQ K (dD i) (jQ i):=by
 intro B0 H0 N H σ ρ ρ' v d Q s h e k;cases e
 exact k _ H ⟨N,s.bind h⟩
noncomputable def iU (tg:FG)(g:FS):List D->Env->Option Res
 |[],ρ=>some (.nx ρ)
 |d::ds,ρ=>(tg d ρ).bind λρ1=>match g ρ1 with
  |some (.nx ρ')=>iU tg g ds ρ'
  |some (.ct ρ')=>iU tg g ds ρ'
  |some (.bk ρ')=>some (.nx ρ')
  |r=>r
@[simp] theorem Fe (tg:FG)(g:FS)(ρ:Env):iU tg g [] ρ=some (.nx ρ):=by rw[iU]
@[simp] theorem Dt (tg:FG)(g:FS)(d:D)(ds:List D)(ρ:Env):iU tg g (d::ds) ρ=(tg d ρ).bind λρ1=>match g ρ1 with
  |some (.nx ρ')=>iU tg g ds ρ'
  |some (.ct ρ')=>iU tg g ds ρ'
  |some (.bk ρ')=>some (.nx ρ')
  |r=>r:=by rw[iU]
@[simp] def sQ (f:FA)(tg:FG)(g:FS):FS:=λρ=>(f (mr ρ)).bind λds=>iU tg g ds ρ
theorem xO (ht:IQ K tg t)(s1:eF K B0 H0 N H1 σ ρ)(c:aV N1 (dZ N (own σ ρ)))(J1:nI K J N1 ds)(e:iU tg g ds ρ=some r)(p:Qt K B0 H0 E r):
  ∃W:Nat->Nat->St->Hp->Prop,(∃m,W 0 m σ H1)/\∀i m σ H,W i m σ H->(J.stop i H/\E.nx σ H)∨(J.go i H/\∃N:St->Hp->Prop,(∀σ' H',N σ' H'->∃m',m'<m/\W (i+1) m' σ' H')/\∀x H',J.yld i H x H'->t x σ H' λσ2 H2=>nz K g { E with nx:=N,ct:=N,bk:=E.nx } σ2 H2):=by
 refine⟨λi m σ H=>∃(N:Hp)(ρ:Env),eF K B0 H0 N H σ ρ/\aV N1 (dZ N (own σ ρ))/\m=ds.length - i/\i<=ds.length/\iU tg g (ds.drop i) ρ=some r,⟨ds.length,_,ρ,s1,c,rfl,uN _,e⟩,?_⟩;clear e s1 c;rintro i m σ H ⟨N,ρ,s,c,rfl,hi,e⟩;have hs:aV N1 H:=c.trans (bO.trans s.ext.nh);obtain⟨j1,j2⟩:=J1 i H hs;by_cases eZ:i<ds.length
 ·obtain⟨go,yl⟩:=j1 ds[i] (by simp[eZ]);rw[List.drop_eq_getElem_cons eZ]at e;obtain⟨ρ1,e1,e⟩:=oX e;refine .inr ⟨go,λσ' H'=>∃(N:Hp)(ρ:Env),eF K B0 H0 N H' σ' ρ/\aV N1 (dZ N (own σ' ρ))/\iU tg g (ds.drop (i+1)) ρ=some r,λσ' H' ⟨N',ρ',s',c',e'⟩=>⟨_,by omega,N',ρ',s',c',rfl,eZ,e'⟩,λx H' y=>?_⟩;obtain⟨N2,x2,i2⟩:=yl x H' y;have x3:Ext (dZ N (own σ ρ)) (join (dZ N (own σ ρ)) N2) H H':=by
   refine⟨x2.hh,eP,λa o e=>?_,λa o e=>?_⟩
   ·cases q:dZ N (own σ ρ) a with
    |some u=>rw[eP _ _ q]at e;cases e;exact x2.hh _ _ (s.ext.nh _ _ (bO _ _ q))
    |none=>rw[eA q]at e;exact x2.nh _ _ e
   ·cases q:dZ N (own σ ρ) a with
    |some u=>rw[eP _ _ q]at e;cases e;exact .inl rfl
    |none=>
     rw[eA q]at e;rcases x2.new a o e with z|z
     ·rw[c _ _ z]at q;cases q
     ·exact .inr z
  obtain⟨s2,c2⟩:=s.growH x3;have c3:aV N2 (join (dZ N (own σ ρ)) N2):=λa o e=>by
   rcases x2.new a o e with z|z
   ·exact eP _ _ (c _ _ z)
   ·rw[eA ((bO.trans s.ext.nh).free z)];exact e
  have i3:=i2.mono (c3.trans c2);have c4:aV N1 (dZ (join N (join (dZ N (own σ ρ)) N2)) (own σ ρ)):=(x2.bn.trans c3).trans c2;refine ht _ _ _ _ _ _ _ _ _ _ s2.rebase i3 e1 λσ2 H2 ⟨N4,s4⟩=>?_;cases eg:g ρ1 with
  |none=>rw[eg]at e;cases e
  |some r1=>
   rw[eg]at e;refine⟨_,_,ρ1,r1,⟨N4,s4⟩,eg,?_⟩;have back:∀ {σ':St}{H':Hp}{ρ':Env}{N':Hp},eF K _ _ N' H' σ' ρ'->eF K B0 H0 N' H' σ' ρ'/\aV N1 (dZ N' (own σ' ρ')):=λt=>⟨s2.unbase t,c4.trans t.based⟩;cases r1 with
   |nx ρ'=>exact λσ' H' ⟨N',t⟩=>⟨N',ρ',(back t).1,(back t).2,e⟩
   |ct ρ'=>exact λσ' H' ⟨N',t⟩=>⟨N',ρ',(back t).1,(back t).2,e⟩
   |bk ρ'=>cases e;exact λσ' H' ⟨N',t⟩=>p σ' H' ⟨N',(back t).1⟩
   |rt d b=>
    cases e
    intro v H' N' x' i' f';have y:=s2.rebase.ext;have h0:aV H0 (dZ H' (λ_=>False)):=λa o e=>by rw[cY (λz=>z)];exact x'.hh _ _ (by
     rw[cY λz=>?_];exact s2.ext.hh _ _ e;obtain⟨_,_,q⟩:=s2.owned z;rw[q]at e;cases e)
    have h0':aV H0 (dZ H' (λ_=>False)):=h0;have hH:aV H0 (dZ H' (λ_=>False)):=h0;have hc:∀a,dZ H' (λ_=>False) a=H' a:=λa=>cY (λz=>z);have hb:aV H0 (dZ _ (own σ ρ)):=λa o e=>by
     rw[cY λz=>?_];exact s2.ext.hh _ _ e;obtain⟨_,_,q⟩:=s2.owned z;rw[q]at e;cases e
    have bb:aV B0 (dZ _ (own σ ρ)):=λa o e=>by
     rw[cY λz=>?_];exact s2.ext.bn _ _ e;obtain⟨_,_,q⟩:=s2.owned z;rw[s2.bh _ _ e]at q;cases q
    refine p v H' N' ⟨hb.trans x'.hh,bb.trans x'.bn,x'.nh,λa o e=>?_⟩ i' λz=>(f' z).back hb;rcases x'.new a o e with z|z
    ·exact s2.ext.new a o (bO _ _ z)
    ·exact .inr (hb.free z)
 ·have ei:i=ds.length:=by omega
  subst ei;rw[List.drop_eq_nil_of_le (vT _)]at e;cases e
  exact .inl ⟨j2 (vT _),p σ H ⟨N,s⟩⟩
theorem IS (ht:IQ K tg t)(q:nz K (sQ f tg g) E σ H):MB (VD K f) t (nz K g) E σ H:=by
 obtain⟨B0,H0,ρ,r,⟨N,s⟩,e,p⟩:=q;obtain⟨ds,ef,e⟩:=oX e;refine⟨dZ N (own σ ρ),mr ρ,ds,bO.trans s.ext.nh,s.repH,ef,λJ H1 N1 x1 J1=>?_⟩;obtain⟨s1,c⟩:=s.growH x1;exact xO ht s1 c J1 e p
def Qu (K:Frag)(f:FA):TI:=λσ H R=>∃(B:Hp)(ρ:Env)(ds:List D),aV B H/\fN K B σ ρ/\f ρ=some ds/\∀(J:It)(H' N:Hp),Ext B N H H'->(∀B',nI K J B' ds)->R J H'
@[simp] def l7 (f:FA)(tg:FG)(g:FS):FS:=λρ=>(f ρ).bind λds=>iU tg g ds ρ
theorem Ff (ht:IQ K tg t)(q:nz K (l7 f tg g) E σ H):MB (Qu K f) t (nz K g) E σ H:=by
 obtain⟨B0,H0,ρ,r,⟨N,s⟩,e,p⟩:=q;obtain⟨ds,ef,e⟩:=oX e;refine⟨N,ρ,ds,s.ext.nh,s.rep,ef,λJ H1 N1 x1 J1=>?_⟩;exact xO ht (s.grow x1) (aV.refl _) (J1 _) e p
end DL
namespace DL
open PySem PySem.Spec PyProof.Rows L2
abbrev JE (X:Cx)(e:Expr)(f:FE):Prop:=PE X e (tD X.K f)
abbrev JT (X:Cx)(e:Expr)(f:FT):Prop:=PT X e (By X.K f)
abbrev JW (X:Cx)(e:Expr)(f:FT):Prop:=PW X e (By X.K f)
abbrev JA (X:Cx)(es:List Expr)(f:FA):Prop:=PA X es (OR X.K f)
abbrev JS (X:Cx)(st:Stmt)(g:FS):Prop:=PS X st (nz X.K g)
abbrev wn (X:Cx)(st:List Stmt)(g:FS):Prop:=t8 X st (nz X.K g)
abbrev JI (X:Cx)(tg di:Expr)(f:FA):Prop:=PI X tg di (VD X.K f)
def Nh (M:Model)(A:Around)(sI:List Expr)(tz:Expr)(env:PySem.Env)(lx:Value)(E:Value->Shared->Prop)(P:Shared->Prop):Shared->Prop :=
 wpAny M A (forIn sI true λc r=>if r=true then do let ok ←isTrue c env (eval c env);pure (ForInStep.yield ok)else pure (ForInStep.yield r))
  (λok s₃=>if ok=true then wpAny M A (eval tz env) (λx=>wpAny M A (call (.builtin "list.append") [lx,x]) (λ_=>P) E) E s₃ else P s₃) E
theorem wo {E:Value->Shared->Prop}(hE:∀x s,¬E x s)(I:Nat->Shared->Prop)
  (Ho:∀n s,I n s->wpAny (model prog w) A (pyNext it) (λr s₁=>match r with
   |none=>R (.ok .next) s₁
   |some v=>wpAny (model prog w) A (letOwnedTupleGo sG it v) (λ_=>wpAny (model prog w) A (assign sG env v) (λ_=>Nh (model prog w) A sI tz env lx E λs=>∃m,m<n/\I m s) E) E s₁) E s)
  (n:Nat) (h:I n s):codeAny (model prog w) A (.compLoop (.ListComp tz [⟨sG,di,sI,0⟩] scope pos) 0 it lx env) R s:=by
 refine codeAny_loop rfl I (λn s hI=>?_) n h;show wpAny _ A ((compTurn (.ListComp tz [⟨sG,di,sI,0⟩] scope pos) 0 it lx env).onRaise (λx=>do noteFrame x env;theTreesLotGoes x)) _ _ s;refine wpAny_noted (wpAny_mono (E:=E) ?_ (λ_ _ q=>q) λ_ _ z=>(hE _ _ z).elim);rw[compTurn_list];refine wX (wpAny_standAt (wX (cu (Ho n s hI) λr s₁ h₁=>?_)));cases r with
 |none=>exact wY h₁
 |some v=>
  refine wX (cu h₁ λ_ s₁ h₁=>wX (cu h₁ λ_ s₂ h₂=>wX (cu h₂ λok s₃ h₃=>?_)));cases ok with
  |false=>exact wY ⟨rfl,h₃⟩
  |true=>exact wX (wX (cu h₃ λx s₄ h₄=>wX (cu h₄ λ_ s₅ h₅=>wY (wY ⟨rfl,h₅⟩))))
theorem Ext.upd (x:Ext B N H H')(h:H a=none)(hN:N a=none):Ext B N H (upd H' a o) :=
 ⟨λb u e=>by rw[aI (λz=>by subst z;rw[h]at e;cases e)];exact x.hh _ _ e,x.bn,λb u e=>by rw[aI (λz=>by subst z;rw[hN]at e;cases e)];exact x.nh _ _ e,x.new⟩
noncomputable abbrev iV (X:Cx)(N':List Str)(scope:Scope)(cl:List (Str×Addr))(C:Addr)(s₃:Shared)(H₃:Hp)(fp:List Addr):Cx :=
 { X with N:=N',s₀:=s₃,H₀:=H₃,env:=compEnvC scope cl C X.env,outer:=X.stack,stack:=X.stack,ex:=fp,fn:=λ_=>false,pn:=[],xe:=λ_ _=>False }
inductive nw (X:Cx)(N':List Str)(scope:Scope)(cl:List (Str×Addr)):Nat->List Nat->Prop where
 |nil {j:Nat}(h:N'.length=j):nw X N' scope cl j []
 |cons {j i:Nat}{r:List Nat}{x:Str}(h1:N'[j]? = some x) (h2:X.N[i]? = some x) (h3:X.env.kindOf x=some .cell∨X.env.kindOf x=some .free)
   (h4:(relabel scope X.env).names.lookup x=some .cell∨(relabel scope X.env).names.lookup x=some .free) (h5:cl.lookup x=X.env.cells.lookup x) (t:nw X N' scope cl (j+1) r):nw X N' scope cl j (i::r)
theorem nw.len:∀ {j:Nat}{cap:List Nat},nw X N' scope cl j cap->N'.length=j+cap.length
 |_,_,.nil h=>by rw[h];rfl
 |j,i::r,.cons _ _ _ _ _ t=>by rw[t.len,vE];omega
theorem nw.get:∀ {j:Nat}{cap:List Nat}{k i:Nat},nw X N' scope cl j cap->cap[k]? = some i->∃x,N'[j+k]? = some x/\X.N[i]? = some x/\(X.env.kindOf x=some .cell∨X.env.kindOf x=some .free) /\
  ((relabel scope X.env).names.lookup x=some .cell∨(relabel scope X.env).names.lookup x=some .free)/\cl.lookup x=X.env.cells.lookup x
 |_,_,_,_,.nil _,e=>by simp at e
 |j,_,0,_,.cons h1 h2 h3 h4 h5 _,e=>by simp at e;subst e;exact⟨_,h1,h2,h3,h4,h5⟩
 |j,_,k+1,i,.cons _ _ _ _ _ t,e=>by
  obtain⟨x,q,r⟩:=t.get (k:=k) (i:=i) (by simpa using e);exact⟨x,by rw[show j+(k+1)=j+1+k by omega];exact q,r⟩
structure CompSc (X:Cx)(scope:Scope)(cl:List (Str×Addr)):Prop where
 clos:closureFor scope X.env=pure cl
 nocell:∀y∈scope.names,y.2≠.cell
 kind:scope.kind=.function
 names:∀y∈scope.names,y.2=.local->scope.names.lookup y.1=some .local
 sub:∀x c,cl.lookup x=some c->X.env.cells.lookup x=some c
 has:∀x,((relabel scope X.env).names.lookup x=some .cell∨(relabel scope X.env).names.lookup x=some .free)->∃c,cl.lookup x=some c
noncomputable def dJ:List (Str×NameKind)->List (Str×Addr)->List (Str×Addr)->List (Str×Addr)
 |[],_,cs=>cs
 | (n,k)::r,cells,cs=>dJ r cells (if k == .free then (match cells.lookup n with|some c=>(n,c)::cs|none=>cs)else cs)
theorem tO:∀(names:List (Str×NameKind))(cs:List (Str×Addr)),(∀y∈names,y.2=.free->(env.cells.lookup y.1).isSome=true) ->
    (do let mut cs:=cs
        for (name,kind)in names do
          if kind == .free then cs:=(name,←cellOf env name)::cs
        return cs:Sem (List (Str×Addr)))=pure (dJ names env.cells cs):=by
  intro names;induction names with
  |nil=>intro cs _;rfl
  |cons y r ih=>
    intro cs h;obtain⟨n,k⟩:=y;have Rr:=λcs=>ih cs λy hy=>h y (mZ _ hy);by_cases hk:k=.free
    . subst hk;have hc:=h (n,.free) mX rfl;cases q:env.cells.lookup n with
      |none=>rw[q]at hc;cases hc
      |some c=>
        have e1:dJ ((n,.free)::r) env.cells cs=dJ r env.cells ((n,c)::cs):=by
          rw[dJ,q];rfl
        rw[e1,←Rr ((n,c)::cs)];have e2:cellOf env n=pure c:=by unfold cellOf;rw[q]
        simp only[List.forIn_cons,beq_self_eq_true,if_true,e2];rfl
    . have hb:(k == NameKind.free)=false:=by simpa using hk
      have e1:dJ ((n,k)::r) env.cells cs=dJ r env.cells cs:=by rw[dJ,hb];rfl
      rw[e1,←Rr cs];simp only[List.forIn_cons,hb,uV,if_false];rfl
theorem mv:∀(names:List (Str×NameKind))(cs:List (Str×Addr)),(∀y d,cs.lookup y=some d->cells.lookup y=some d)->(dJ names cells cs).lookup x=some c->cells.lookup x=some c
 |[],cs,h,e=>h x c e
 | (n,k)::r,cs,h,e=>by
  rw[dJ]at e;refine mv r _ (λy d q=>?_) e;split at q
  ·split at q
   ·rename_i c' ec;rw[List.lookup_cons]at q;split at q
    ·rename_i hy;cases q
     rw[eq_of_beq hy];exact ec
    ·exact h y d q
   ·exact h y d q
  ·exact h y d q
theorem tP:∀(names:List (Str×NameKind))(cs:List (Str×Addr)),(cs.lookup x).isSome=true->((dJ names cells cs).lookup x).isSome=true
 |[],cs,h=>h
 | (n,k)::r,cs,h=>by
  rw[dJ];refine tP r _ ?_;split
  ·split
   ·rw[List.lookup_cons];split
    ·rfl
    ·exact h
   ·exact h
  ·exact h
theorem mw:∀(names:List (Str×NameKind))(cs:List (Str×Addr)),(x,NameKind.free)∈names->(cells.lookup x).isSome=true->((dJ names cells cs).lookup x).isSome=true
 | (n,k)::r,cs,hm,hc=>by
  rw[dJ];rcases vP hm with e|e
  ·cases e
   refine tP r _ ?_;cases q:cells.lookup x with
   |none=>rw[q]at hc;cases hc
   |some c=>simp
  ·exact mw r _ e hc
theorem fW {α:Type}{x:Str}{k:α}:∀ {l:List (Str×α)},l.lookup x=some k->(x,k)∈l
 | (n,j)::r,h=>by
  rw[List.lookup_cons]at h;split at h
  ·rename_i e;cases h
   rw[eq_of_beq e];exact mX
  ·exact mZ _ (fW h)
theorem Ni {X:Cx}{scope:Scope}(h1:∀y∈scope.names,y.2≠.cell)(h2:scope.kind=.function)(h3:∀y∈scope.names,y.2=.local->scope.names.lookup y.1=some .local)(Pl:(scope.names.all λy=>!(y.2 == NameKind.free) || (X.env.cells.lookup y.1).isSome)=true):
  CompSc X scope (dJ scope.names X.env.cells []):=by
 have h4:∀y∈scope.names,y.2=.free->(X.env.cells.lookup y.1).isSome=true:=λy hy e=>by
  have:=uR Pl y hy;rw[e]at this;simpa using this
 have frees:∀x,((relabel scope X.env).names.lookup x=some .cell∨(relabel scope X.env).names.lookup x=some .free)->(x,NameKind.free)∈scope.names:=λx h=>by
  have:∃k,(x,k)∈(relabel scope X.env).names/\(k=.cell∨k=.free):=by
   rcases h with h|h
   ·exact⟨_,fW h,.inl rfl⟩
   ·exact⟨_,fW h,.inr rfl⟩
  obtain⟨k,hm,hk⟩:=this;obtain⟨⟨n,j⟩,hj,e⟩:=vO hm;dsimp only at e;split at e
  ·rename_i hc;rw[vC,vC]at hc;cases e
   rw[←eq_of_beq hc.1.1];exact hj
  ·cases e
   rcases hk with rfl|rfl
   ·exact absurd rfl (h1 _ hj)
   ·exact hj
 exact⟨tO scope.names [] h4,h1,h2,h3,λx c e=>mv scope.names [] (λy d q=>by cases q) e,λx h=>by
  have:=mw (x:=x) scope.names [] (frees x h) (h4 _ (frees x h) rfl);exact uU this⟩
theorem pC {scope:Scope}{cells:List (Str×Addr)}{x:Str}(h:(x,NameKind.free)∈scope.names)(hc:(cells.lookup x).isSome=true):(dJ scope.names cells []).lookup x=cells.lookup x:=by
 obtain⟨c,e⟩:=uU (mw (x:=x) scope.names [] h hc);rw[e,mv scope.names [] (λy d q=>by cases q) e]
noncomputable def sR (nT:Nat)(cap:List Nat)(σ:St):St:=List.replicate nT none++cap.map λi=>(σ[i]?).join
noncomputable def dL (nT:Nat)(cap:List Nat)(ρ:Env):Env:=List.replicate nT none++cap.map λi=>match ρ[i]? with|some (some (d,_))=>some (d,false)|_=>none
theorem wt {α:Type}{nT:Nat}{cap:List Nat}{f:Nat->Option α}{j:Nat}{v:α}(h:(List.replicate nT none++cap.map f)[j]? = some (some v)):∃k i,j=nT+k/\cap[k]? = some i/\f i=some v:=by
 by_cases hj:j<nT
 ·rw[List.getElem?_append_left (by simpa using hj),List.getElem?_replicate,if_pos hj]at h;cases h
 ·rw[List.getElem?_append_right (by simpa using Nat.not_lt.mp hj),List.length_replicate,vA]at h;obtain⟨i,h1,h2⟩:=oY h;exact⟨j - nT,i,by omega,h1,h2⟩
theorem IT {α:Type}{nT:Nat}{cap:List Nat}{f:Nat->Option α}{k i:Nat}{v:α}(h1:cap[k]? = some i)(h2:f i=some v):(List.replicate nT none++cap.map f)[nT+k]? = some (some v):=by
 rw[List.getElem?_append_right (by simp),List.length_replicate,vA,Nat.add_sub_cancel_left,h1];simp[h2]
theorem fN.caps {K:Frag}{B:Hp}{σ:St}{ρ:Env}{nT:Nat}{cap:List Nat}(h:fN K B σ ρ):fN K B (sR nT cap σ) (dL nT cap ρ):=⟨h.tb,λj d b q=>by
 obtain⟨k,i,rfl,h1,h2⟩:=wt q;split at h2
 ·rename_i d' b' e;cases h2
  obtain⟨v,g1,g2⟩:=h.at' i _ _ e;exact⟨v,IT h1 (by rw[g1];rfl),g2⟩
 ·cases h2⟩
noncomputable def gL (tg:FG)(c:FT)(fe:FE)(ρ:Env):List D->Option (List D)
 |[]=>some []
 |d::r=>(tg d ρ).bind λρ1=>(c ρ1).bind λb=>if b=true then (fe ρ1).bind λx=>(gL tg c fe ρ r).map (x.1 :: ·)else gL tg c fe ρ r
@[simp] theorem OS (tg:FG)(c:FT)(fe:FE)(ρ:Env):gL tg c fe ρ []=some []:=by rw[gL]
@[simp] theorem Ap (tg:FG)(c:FT)(fe:FE)(ρ:Env)(d:D)(r:List D):gL tg c fe ρ (d::r)=(tg d ρ).bind λρ1=>(c ρ1).bind λb=>if b=true then (fe ρ1).bind λx=>(gL tg c fe ρ r).map (x.1 :: ·)else gL tg c fe ρ r:=by rw[gL]
@[simp] def bR (fi:FA)(nT:Nat)(cap:List Nat)(tg:FG)(c:FT)(fe:FE):FE:=λρ=>(fi ρ).bind λitems=>if items.length<=sizeLine then (gL tg c fe (dL nT cap ρ) items).map λds=>(.lst ds,true)else none
def Lj (K:Frag)(n:Nat)(tg:FG)(g:TG):Prop:=∀(B H:Hp)(σ:St)(ρ ρ1:Env)(v:V)(d:D)(Q:St->Hp->Prop),(∀i,i<n->ρ[i]? = some none)->fN K B σ ρ->aV B H->Is K B v d->tg d ρ=some ρ1 ->
 ρ.length=σ.length->(∀σ1,fN K B σ1 ρ1->(∀B',fN K B' σ ρ->fN K B' σ1 ρ)->ρ.length=σ1.length->Q σ1 H)->g v σ H Q
theorem xP {K:Frag}{n i:Nat}(hi:i<n):Lj K n (dD i) (jQ i):=by
 intro B H σ ρ ρ1 v d Q cl rep s h e hl k;cases e
 have El:i<σ.length:=by
  have:=(vV (cl i hi)).1;omega
 refine k _ ⟨rep.tb,λj e b q=>?_⟩ ?_ (by simpa using hl)
 ·rcases bX q with⟨rfl,p⟩|⟨ne,p⟩
  ·cases p
   exact⟨v,by simp[El],h⟩
  ·obtain⟨w,h1,h2⟩:=rep.at' j e b p;exact⟨w,by rw[vB ne];exact h1,h2⟩
 ·intro B' Rt;refine⟨Rt.tb,λj e b q=>?_⟩;obtain⟨w,h1,h2⟩:=Rt.at' j e b q;have ne:i≠j:=λz=>by subst z;rw[cl i hi]at q;cases q
  exact⟨w,by rw[vB ne];exact h1,h2⟩
def JC (X:Cx)(sI:List Expr)(c:FT):Prop:=∀(ae:List (Addr×Obj))(s:Shared)(σ:St)(H:Hp)(Q:Bool->Hp->Prop),Inv X ae σ H s->By X.K c σ H Q ->
 wq X (forIn sI true λc r=>if r=true then do let ok ←isTrue c X.env (eval c X.env);pure (ForInStep.yield ok)else pure (ForInStep.yield r)) (TP X ae σ Q) X.xe s
@[simp] noncomputable def hW:FT:=λ_=>some true
theorem kn:JC X [] hW:=by
 intro ae s σ H Q I h;obtain⟨B,ρ,c,sB,rep,e,q⟩:=h;cases e
 exact wpAny_tests_nil ⟨H,I,q H (.refl H)⟩
theorem eQ (h:JT X e f):JC X [e] f:=λae s σ H Q I q=>wpAny_tests_one (h ae s σ H Q I q)
inductive CI (Y:Cx)(tn:Nat->Heap->Prop)(fp:List Addr)(N1 H2:Hp)(κ:Env)(a:Addr)(l:List D->Option (List D))(items ds:List D)(s:Shared):Nat->Prop
 |mk (i:Nat) (N:Hp) (vs:List V) (es r:List D) (σ:St) (H:Hp) (I:Inv Y [] σ H s) (ti:tn i s.heap) (hn:∀b∈fp,H b=none) (hi:i<=items.length) (rp:fN Y.K N1 σ κ) (hl:κ.length=σ.length)
   (x:Ext N1 N H2 H) (n0:N a=none) (h0:H a=some (.lst vs)) (vl:vs.length<=i) (iv:IsL Y.K N vs es) (er:l (items.drop i)=some r) (ed:es++r=ds):CI Y tn fp N1 H2 κ a l items ds s (items.length - i)
theorem Ext.both (x:Ext N1 N H2 H)(y:Ext N1 N' H H'):Ext N (join N N') H H'/\aV N' (join N N'):=by
 refine⟨⟨y.hh,eP,λa o e=>?_,λa o e=>?_⟩,λa o e=>?_⟩
 ·cases z:N a with
  |some u'=>rw[eP _ _ z]at e;cases e;exact y.hh _ _ (x.nh _ _ z)
  |none=>rw[eA z]at e;exact y.nh _ _ e
 ·cases z:N a with
  |some u'=>rw[eP _ _ z]at e;cases e;exact .inl rfl
  |none=>
   rw[eA z]at e;exact(y.new a o e).elim (λz'=>by rw[x.bn _ _ z']at z;cases z) .inr
 ·exact(y.new a o e).elim (λz=>eP _ _ (x.bn _ _ z)) λz=>by rw[eA (x.nh.free z)];exact e
theorem Ext.off (x:Ext B N H H')(h:B a=none)(h':H a=some o):N a=none:=by
 cases z:N a with
 |none=>rfl
 |some u=>
  rcases x.new _ _ z with z|z
  ·rw[h]at z;cases z
  ·rw[h']at z;cases z
theorem Du {Y:Cx}(jV:Y.calm=true)(hE:∀x s,¬Y.xe x s)(hg:PG Y tg g)(Hz:Lj Y.K nT pO g)(hc:JC Y sI fc)(he:JE Y tz fe)(T:Turn Y.prog Y.w Y.K tg J fp it tn)(Ru:∀i,i<nT->κ[i]? = some none)
  (J1:nI Y.K J N1 items) (hsz:items.length<=sizeLine) (hD:H2 a=none) (U7:∀H',(∀b∈fp,H' b=none)->∀b∈fp,nE Y [] H' b)
  (hR:∀s4 σ' H' N vs,Inv Y [] σ' H' s4->Ext N1 N H2 H'->N a=none->H' a=some (.lst vs)->IsL Y.K N vs ds->R (.ok .next) s4) (h:CI Y tn fp N1 H2 κ a (gL pO fc fe κ) items ds s items.length):
  codeAny (model Y.prog Y.w) Y.A (.compLoop (.ListComp tz [⟨tg,di,sI,0⟩] scope pos) 0 (.ref it) (.ref a) Y.env) R s:=by
 refine wo hE (λn s=>CI Y tn fp N1 H2 κ a (gL pO fc fe κ) items ds s n) (λn s' h=>?_) _ h;obtain⟨i,N,vs,es,r,σ',H',I',ti,hn,hi,rp,bJ,x,S9,Rv,CQ,Rw,er,SA⟩:=h;have sH:aV N1 H':=x.bn.trans x.nh;by_cases eZ:i<items.length
 ·obtain⟨go,yl⟩:=(J1 i H' sH).1 items[i] (by simp[eZ]);refine cu (T.item Y rfl rfl rfl jV i [] s' σ' H' Y.xe I' (U7 _ hn) ti go) λq s4 ⟨u,eu,hq⟩=>?_;subst eu;refine cu hq λ_ s5 ⟨xv,H5,I5,rx,y5,t5,Uv⟩=>?_;obtain⟨N5,x5,i5⟩:=yl xv H5 y5;obtain⟨x6,c5⟩:=x.both x5;have Wp:(join N N5) a=none:=x6.off S9 Rv;have SD:aV (join N N5) H5:=x6.nh;rw[List.drop_eq_getElem_cons eZ]at er;unfold gL at er;obtain⟨ρ1,e1,er⟩:=oX er;obtain⟨b,e2,er⟩:=oX er;have iF:∀(s9:Shared)(σ9:St)(H9 N9:Hp)(Ry:List V)(SE r9:List D),Inv Y (nF fp s5.heap) σ9 H9 s9->fN Y.K N1 σ9 κ->κ.length=σ9.length->Ext N1 N9 H2 H9->N9 a=none->H9 a=some (.lst Ry) ->
    Ry.length<=i+1->IsL Y.K N9 Ry SE->gL pO fc fe κ (items.drop (i+1))=some r9->SE++r9=ds->∃m,m<items.length - i/\CI Y tn fp N1 H2 κ a (gL pO fc fe κ) items ds s9 m:=λs9 σ9 H9 N9 Ry SE r9 I9 Yq l9 x9 n9 h9 v9 i9 Yr Ys=>
   ⟨_,by omega,i+1,N9,Ry,SE,r9,σ9,H9,I9.pins_of λp hp=>by simp at hp,T.keep _ _ _ t5 λb hb o e=>(I9.pin (b,o) (mY _ (j8 hb e))).1,λb hb=>by
    obtain⟨o,e,d⟩:=T.obj _ _ t5 b hb;exact(I9.pin (b,o) (mY _ (j8 hb e))).2.1,eZ,Yq,l9,x9,n9,h9,v9,i9,Yr,Ys⟩
  refine cu (hg (nF fp s5.heap) s5 σ' H5 xv u (λσ6 H6=>H6=H5/\fN Y.K (join N N5) σ6 ρ1/\fN Y.K N1 σ6 κ/\κ.length=σ6.length) (I5.pinned (U7 _ Uv) (T.obj _ _ t5)) rx
   (Hz (join N N5) H5 σ' κ ρ1 xv items[i] _ Ru (rp.mono (x.bn.trans eP)) SD (i5.mono c5) e1 bJ λσ1 r1 r2 l1=>⟨rfl,r1,r2 N1 rp,l1⟩)) λ_ s6 ⟨σ6,H6,I6,eH,Wq,Wr,l6⟩=>?_
  subst eH;have U8:H6 a=some (.lst vs):=x5.hh _ _ Rv;refine cu (hc _ s6 σ6 H6 (λc H7=>c=b/\aV H6 H7) I6 ⟨join N N5,ρ1,b,SD,Wq,e2,λH7 h7=>⟨rfl,h7⟩⟩) λok s7 ⟨H7,I7,eb,h7⟩=>?_;subst eb;have x7:Ext N1 (join N N5) H2 H7:=(x.trans x6).trans (.grow SD h7);cases ok with
  |false=>
   rw[if_neg (by decide)]at er ⊢;exact iF s7 σ6 H7 (join N N5) vs es r I7 Wr l6 x7 Wp (h7 _ _ U8) (Nat.le_succ_of_le CQ) (Rw.mono eP) er SA
  |true=>
   rw[if_pos rfl]at er ⊢;obtain⟨y,e3,er⟩:=oX er;obtain⟨r',e4,er⟩:=oY er;subst er;refine cu (he _ s7 σ6 H7 (λv H8=>∃N8,Ext (join N N5) N8 H7 H8/\Is Y.K N8 v y.1) I7 ⟨join N N5,ρ1,y.1,y.2,SD.trans h7,Wq,e3,λv H8 N8 x8 i8 _=>⟨N8,x8,i8⟩⟩) λw8 s8 ⟨v8,H8,I8,r8,N8,x8,i8⟩=>?_;refine cu (tK _ s8 σ6 H8 (.ref a) [v8] (.ref a) [w8] (λ_ H9=>H9=upd H8 a (.lst (vs++[v8]))) I8 rfl (.cons r8 .nil) ⟨_,vs,v8,rfl,rfl,x8.hh _ _ (h7 _ _ U8),by omega,rfl⟩) λ_ s9 ⟨_,H9,I9,_,e9⟩=>?_;subst e9;have Ws:=x8.off Wp (h7 _ _ U8);exact iF s9 σ6 _ N8 (vs++[v8]) (es++[y.1]) r' I9 Wr l6 ((x7.trans x8).upd hD Ws) Ws aC (by rw[uZ,List.length_singleton];omega) ((Rw.mono (eP.trans x8.bn)).append (.cons i8 .nil)) e4 (by rw[List.append_assoc];exact SA)
 ·obtain rfl:i=items.length:=by omega
  rw[List.drop_eq_nil_of_le (vT _)]at er;cases er
  rw[uQ]at SA;subst SA;refine cu (T.done Y rfl rfl rfl jV items.length [] s' σ' H' Y.xe I' (U7 _ hn) ti ((J1 _ H' sH).2 (vT _))) λq s4 ⟨hq,I9⟩=>?_;subst hq;exact hR s4 σ' H' N vs I9 x S9 Rv Rw
theorem qd {X:Cx}(jV:X.calm=true){tg di tz:Expr}{sI:List Expr}{scope:Scope}{pos:Pos}{cl:List (Str×Addr)}{N':List Str}{nT:Nat}{cap:List Nat}{pO:FG}{g:TG}{fc:FT}{fe:FE}
  (S:CompSc X scope cl) (cp:nw X N' scope cl nT cap)
  (hg:∀C s H fp,PG (iV X N' scope cl C s H fp) tg g) (Hz:Lj X.K nT pO g) (hc:∀C s H fp,JC (iV X N' scope cl C s H fp) sI fc) (he:∀C s H fp,JE (iV X N' scope cl C s H fp) tz fe)
  {ae:List (Addr×Obj)}{σ:St}{H2:Hp}{s2:Shared}{it:Addr}{fp:List Addr}{tn:Nat->Heap->Prop}{J:It}{N1:Hp}{ρ:Env}{items ds:List D}{E:Value->Shared->Prop}
  (I2:Inv X ae σ H2 s2) (T:Turn X.prog X.w X.K tg J fp it tn) (K3:tn 0 s2.heap) (f2:∀b∈fp,nE X ae H2 b)
  (rep:fN X.K N1 σ ρ) (sN:aV N1 H2) (J1:nI X.K J N1 items) (hsz:items.length<=sizeLine) (ec:gL pO fc fe (dL nT cap ρ) items=some ds) {RR:Value->Addr->Result->Shared->Prop}
  (Yt:∀(Dd C:Addr)(s':Shared)(H' N:Hp)(vs:List V)(m:Str->Option Value),H2 Dd=none->Inv X ae σ H' s'->s'.heap.Ns C m->nE X ae H' C->Ext N1 N H2 H'->N Dd=some (.lst vs)->IsL X.K N vs ds->RR (.ref Dd) C (.ok .next) s'):
  wq X (newList []) (λlx s₃=>wq X (newFunctionEnv scope X.env.globals cl [] X.env.qual none .none (some X.env)) (λRz s₄=>
   codeAny (model X.prog X.w) X.A (.compStart (.ListComp tz [⟨tg,di,sI,0⟩] scope pos) 0 (.ref it) lx { Rz with scope:=relabel scope X.env }) (RR lx Rz.locals) s₄) E s₃) E s2:=by
 refine wpAny_newObj_type (wpAny_newFunctionEnv S.nocell (by intro y hy;simp at hy) (λh₁ Bk hsb₁=>?_) S.kind);dsimp only at Bk hsb₁ ⊢;have hD:H2 s2.heap.objs.size=none:=I2.fresh;have I3:Inv X ae σ (upd H2 s2.heap.objs.size (.lst [])) { s2 with heap:=s2.heap.push { cls:=.type "list",dict:=none,data:=.seq ([]:List Value).toArray } }:=I2.lnew (t':=s2.toks) (ys:=[]) (its:=[]) .nil (uN _);generalize hH3:s2.heap.push { cls:=.type "list",dict:=none,data:=.seq ([]:List Value).toArray }=g3 at Bk hsb₁ I3 ⊢;have hC:g3.objs.size=s2.heap.objs.size+1:=by rw[←hH3,Heap.size_push]
 have KE:∀b o,s2.heap.get? b=some o->g3.get? b=some o:=λb o e=>hH3 ▸ vZ _ e;have Ep:∀b o,g3.get? b=some o->h₁.get? b=some o:=λb o e=>hsb₁.extBut b o (vS (vX e)) (vZ _ e);have Pg:∀b o,g3.get? b=some o->b≠g3.objs.size:=λb o e=>vS (vX e);have Wt:∀b∈fp,∃o,s2.heap.get? b=some o:=λb hb=>let ⟨o,e,_⟩:=T.obj 0 s2.heap K3 b hb;⟨o,e⟩;have Yu:∀b∈fp,b≠s2.heap.objs.size:=λb hb=>let ⟨o,e⟩:=Wt b hb;vS (vX e);have Wu:∀b∈fp,b≠g3.objs.size:=λb hb=>let ⟨o,e⟩:=Wt b hb;Pg b o (KE b o e);have Wv:∀x c,X.env.cells.lookup x=some c->c≠g3.objs.size:=λx c e=>by
  obtain⟨v,z⟩:=I3.cell x c e;exact vS z.lt
 have Yv:(upd H2 s2.heap.objs.size (HO.lst [])) g3.objs.size=none:=I3.hok.fresh (vT _);have stk:∀b∈Ey X.stack,∃o,s2.heap.get? b=some o:=λb hb=>by
  obtain⟨_,o,ho,_⟩:=(I2.stack).mem hb;exact⟨o,ho⟩
 -- the block's context
 let Y:Cx:=iV X N' scope cl g3.objs.size { s2 with heap:=g3 } (upd H2 s2.heap.objs.size (.lst [])) fp;have ok:Y.Ok:=by
  refine⟨I2.ok.mod,?_,I2.ok.glob,I2.ok.blt,vT _,λx y c e1 e2=>I2.ok.inj x y c (S.sub x c e1) (S.sub y c e2),λx h=>S.has x h,λx c h=>absurd h uX,I2.ok.hd,I2.ok.frames,.inl rfl,λb hb=>⟨Wu b hb,λx c e=>(f2 b hb).2.2.2.2.1 x c (S.sub x c e)⟩,λb o e=>?_,?_,λb o e hb=>?_,λb hb hz=>?_,I3.stack,λb hb=>I3.stkFree b hb⟩
  ·show(relabel scope X.env).kind=.function;exact S.kind
  ·exact I3.bs b o e
  ·exact vR I3.ok.bsz I3.sz
  ·have h1:=(f2 b hb).2.2.2.1;rcases h1 with z|z
   ·exact I2.ok.noex b o e z
   ·exact absurd (vQ (vX e) (vR I2.ok.bsz z)) (Nat.lt_irrefl _)
  ·rcases vP (I2.stkSub b hz)with z|z
   ·exact(f2 b hb).2.1 z
   ·exact(f2 b hb).2.2.1 z
 have I4:Inv Y [] (sR nT cap σ) (upd H2 s2.heap.objs.size (.lst [])) { s2 with heap:=h₁,toks:=s2.toks+([]:List (Str×Value)).length }:=by
  refine⟨ok,rfl,I2.bare,Un.kept Ep,⟨_,Bk,λj x v e1 e2 e3=>?_⟩,λx c e=>?_,Yv,λx c e=>I3.freeC x c (S.sub x c e),λp hp=>absurd (show p∈[]from hp) List.not_mem_nil,I3.hok.kept Ep,?_⟩
  ·obtain⟨k,i,rfl,h1,h2⟩:=wt e2;obtain⟨y,g1,g2,Ww,g4,g5⟩:=cp.get h1;have LW:N'[nT+k]? = some x:=e1;rw[g1]at LW;cases LW;have Hy:σ[i]? = some (some v):=by
    cases q:σ[i]? with
    |none=>rw[q]at h2;cases h2
    |some z=>rw[q]at h2;have:z=some v:=h2;rw[this]
   obtain⟨m,_,hl⟩:=I3.loc;obtain⟨u,r,l⟩:=hl i _ v g2 Hy (Ww.elim (λz=>.inr (.inl z)) λz=>.inr (.inr z));refine⟨u,r,?_⟩;rcases l with⟨l,_⟩|⟨_,c,lc,ic⟩
   ·rcases Ww with z|z<;>(rw[z]at l;cases l)
   ·refine .inr ⟨g4,c,by show cl.lookup _=some c;rw[g5];exact lc,?_⟩;obtain⟨o,ho,hd⟩:=ic;exact⟨o,Ep _ _ ho,hd⟩
  ·obtain⟨v,o,ho,hd⟩:=I3.cell x c (S.sub x c e);exact⟨v,o,Ep _ _ ho,hd⟩
  ·show(sR nT cap σ).length=N'.length;unfold sR;rw[cp.len];simp
 have loop:∀s₃:Shared,s₃={ s2 with heap:=h₁,toks:=s2.toks+([]:List (Str×Value)).length }->codeAny (model Y.prog Y.w) Y.A (.compLoop (.ListComp tz [⟨tg,di,sI,0⟩] scope pos) 0 (.ref it) (.ref s2.heap.objs.size) Y.env) (RR (.ref s2.heap.objs.size) g3.objs.size) s₃:=by
  rintro s₃ rfl;refine Du (Y:=Y) jV (λ_ _ z=>z) (hg _ _ _ _) Hz (hc _ _ _ _) (he _ _ _ _) T (λi hi=>?_) J1 hsz hD (λH' hn b hb=>⟨hn b hb,Wu b hb,ok.exfs b hb,.inl hb,λx c e=>(f2 b hb).2.2.2.2.1 x c (S.sub x c e),λp hp=>absurd (show p∈[]from hp) List.not_mem_nil⟩) (λs4 σ' H' N vs I9 x S9 Rv Rw=>?_)
   ⟨0,N1,[],[],ds,sR nT cap σ,_,I4,T.keep _ _ _ K3 λb hb o e=>Ep _ _ (KE _ _ e),λb hb=>?_,uN _,rep.caps,?_,(Ext.refl sN).upd hD (sN.free hD),sN.free hD,aC,uN _,.nil,by simpa using ec,rfl⟩
  ·unfold dL;rw[List.getElem?_append_left (by simpa using hi),List.getElem?_replicate,if_pos hi]
  ·obtain⟨m,hm,_⟩:=I9.loc;have k:aV N (upd N s2.heap.objs.size (.lst vs)):=λa o e=>by rw[aI (λz=>by subst z;rw[S9]at e;cases e)];exact e
   refine Yt s2.heap.objs.size g3.objs.size s4 H' (upd N s2.heap.objs.size (.lst vs)) vs m hD (I2.call' (ch:=fp) I9.os ((Un.laid KE (vT _) hD).trans I9.base) I9.hok I9.bare λb hb=>⟨(f2 b hb).2.2.2.1,(f2 b hb).2.1,(f2 b hb).2.2.2.2.1,(f2 b hb).2.2.2.2.2⟩) hm (I2.fpOk (by rw[hC];exact Nat.le_succ _) I9.free) ⟨x.hh,x.bn.trans k,λa o e=>?_,λa o e=>?_⟩ aC (Rw.mono k)
   ·by_cases z:a=s2.heap.objs.size
    ·subst z;rw[aC]at e;cases e;exact Rv
    ·rw[aI z]at e;exact x.nh _ _ e
   ·by_cases z:a=s2.heap.objs.size
    ·subst z;exact .inr hD
    ·rw[aI z]at e;exact x.new _ _ e
  ·rw[aI (Yu b hb)];exact(f2 b hb).1
  ·unfold dL sR;simp
 exact codeAny_compStart_list (loop _ rfl) (T.self _ 0 _ _ _ (T.keep _ _ _ K3 λb hb o e=>Ep _ _ (KE _ _ e)) (loop _ rfl))
theorem IU (jV:X.calm=true) 
  (S:CompSc X scope cl) (cp:nw X N' scope cl nT cap) (hi:JI X tg di fi)
  (hg:∀C s H fp,PG (iV X N' scope cl C s H fp) tg g) (Hz:Lj X.K nT pO g) (hc:∀C s H fp,JC (iV X N' scope cl C s H fp) sI fc) (he:∀C s H fp,JE (iV X N' scope cl C s H fp) tz fe)
  (hs:∀x,foldedSetIterable di X.env x=pure x:=by intro _;rfl):
  JE X (.ListComp tz [⟨tg,di,sI,0⟩] scope pos) (bR fi nT cap pO fc fe):=by
 intro ae s σ H Q I h;obtain⟨B,ρ,d,b,sB,rep,e,q⟩:=h;obtain⟨items,ei,e⟩:=oX e;have hsz:items.length<=sizeLine:=Decidable.byContradiction λz=>by rw[if_neg z]at e;cases e
 rw[if_pos hsz]at e;obtain⟨ds,ec,e⟩:=oY e;cases e
 rw[eval_ListComp];refine wpAny_comprehension_free (use:=none) rfl hs S.clos S.kind S.names (cu (hi ae s σ H (λJ H2=>∃N1,Ext B N1 H H2/\nI X.K J N1 items) I ⟨B,ρ,items,sB,rep,ei,λJ H2 N1 x1 j1=>⟨N1,x1,j1⟩⟩) λv s1 h1=>cu h1 λS3 s2 h2=>?_);obtain⟨it,fp,tn,J,H2,e,I2,T,K3,f2,N1,x1,j1⟩:=h2;subst e;refine qd jV S cp hg Hz hc he I2 T K3 f2 (rep.mono x1.bn) x1.nh j1 hsz ec (RR:=λlx C=>compPost (model X.prog X.w) X.A X.xe none (EP X ae σ Q) lx C) ?_;intro Dd C s' H' N vs m hD I' hm fC x hN hl;refine⟨m,hm,λh' hs'=>⟨.ref Dd,H',?_,rfl,q _ H' N (x1.trans x) (.lst (gX.of hN) hl) λ_=>⟨Dd,vs,ds,rfl,rfl,x1.hh.free hD,hN,hl⟩⟩⟩;obtain⟨c0,c1,c2,c3,c4,c5⟩:=fC;exact I'.turned (t':=s'.toks) (λb o hb e=>(hs'.2 b hb).trans e) c0 c1 c3 c4 c5
theorem IV (jV:X.calm=true) 
  (hN:X.N.Nodup) (LX:X.N[i]? = some y) (hy:X.env.kindOf y=some .local)
  (Oy:swapsWith (.ListComp tz [⟨tg,di,sI,0⟩] scope pos) (some (.Name y py)) spos.line X.env=pure true)
  (S:CompSc X scope cl) (cp:nw X N' scope cl nT cap) (hi:JI X tg di fi)
  (hg:∀C s H fp,PG (iV X N' scope cl C s H fp) tg g) (Hz:Lj X.K nT pO g) (hc:∀C s H fp,JC (iV X N' scope cl C s H fp) sI fc) (he:∀C s H fp,JE (iV X N' scope cl C s H fp) tz fe)
  (hs:∀x,foldedSetIterable di X.env x=pure x:=by intro _;rfl):
  JS X (.Assign [.Name y py] (.ListComp tz [⟨tg,di,sI,0⟩] scope pos) spos) (aN i (bR fi nT cap pO fc fe)):=by
 intro ae s σ H E I h;have h2:Aa (tD X.K (bR fi nT cap pO fc fe)) (jQ i) E σ H:=B1 h;obtain⟨B,ρ,d,b,sB,rep,e,q⟩:=h2;obtain⟨items,ei,e⟩:=oX e;have hsz:items.length<=sizeLine:=Decidable.byContradiction λz=>by rw[if_neg z]at e;cases e
 rw[if_pos hsz]at e;obtain⟨ds,ec,e⟩:=oY e;cases e
 rw[exec_Assign_Name_used _ _ _ _ Oy];refine wX (wpAny_standAt (wX ?_));show wpAny _ _ (do let _ ←comprehension (.ListComp tz [⟨tg,di,sI,0⟩] scope pos) scope X.env _ (newList []) false (eval di X.env) (some (assign (.Name y py) X.env))) _ _ s;refine wX (wpAny_mono (wpAny_comprehension_free (use:=some (assign (.Name y py) X.env)) (Q:=λ_ s'=>SP X ae E .next s') rfl hs S.clos S.kind S.names
  (cu (hi ae s σ H (λJ H2=>∃N1,Ext B N1 H H2/\nI X.K J N1 items) I ⟨B,ρ,items,sB,rep,ei,λJ H2 N1 x1 j1=>⟨N1,x1,j1⟩⟩) λv s1 h1=>cu h1 λS3 s2 h2=>?_)) (λ_ s' hq=>wY (wY hq)) λ_ _ e=>e)
 obtain⟨it,fp,tn,J,H2,e,I2,T,K3,f2,N1,x1,j1⟩:=h2;subst e;refine qd jV S cp hg Hz hc he I2 T K3 f2 (rep.mono x1.bn) x1.nh j1 hsz ec (RR:=λlx C=>compPost (model X.prog X.w) X.A X.xe (some (assign (.Name y py) X.env)) (λ_ s'=>SP X ae E .next s') lx C) ?_;intro Dd C s' H' N vs m hD I' hm fC x Wx hl;show wpAny _ _ (assign (.Name y py) X.env (.ref Dd)) _ _ s';obtain⟨c0,c1,c2,c3,c4,c5⟩:=fC;refine wpAny_assign_Name (t7 I' hN LX (.inl hy) (r:=show aU (.ref Dd) (.ref Dd)from rfl) (λs9 I9 ⟨a,sb,ha⟩=>?_) (.inr hy));have nC:C≠a:=by
  rcases ha with z|z
  ·rw[z];exact c1
  ·exact λw=>c4 y a z w.symm
 refine⟨m,hm.sameBut sb nC,λh' hs'=>⟨_,H',?_,q _ H' N (x1.trans x) (.lst (gX.of Wx) hl) λ_=>⟨Dd,vs,ds,rfl,rfl,x1.hh.free hD,Wx,hl⟩⟩⟩;exact I9.turned (t':=s9.toks) (λb o hb e=>(hs'.2 b hb).trans e) c0 c1 c3 c4 c5
section
variable {X:Cx}{a b c e:Expr}{pos:Pos}
theorem PE.to (h:PE X e t)(k:∀σ H Q,t' σ H Q->t σ H Q):PE X e t':=λae s σ H Q I q=>h ae s σ H Q I (k σ H Q q)
theorem PT.to (h:PT X e t)(k:∀σ H Q,t' σ H Q->t σ H Q):PT X e t':=λae s σ H Q I q=>h ae s σ H Q I (k σ H Q q)
theorem PW.to (h:PW X e t)(k:∀σ H Q,t' σ H Q->t σ H Q):PW X e t':=λwh ae s σ H Q I q=>h wh ae s σ H Q I (k σ H Q q)
theorem PA.to (h:PA X es t)(k:∀σ H Q,t' σ H Q->t σ H Q):PA X es t':=λpos ae s σ H Q I q=>h pos ae s σ H Q I (k σ H Q q)
theorem PS.to {st:Stmt}{t t':TS}(h:PS X st t)(k:∀E σ H,t' E σ H->t E σ H):PS X st t':=λae s σ H E I q=>h ae s σ H E I (k E σ H q)
theorem t8.to {st:List Stmt}{t t':TS}(h:t8 X st t)(k:∀E σ H,t' E σ H->t E σ H):t8 X st t':=λae s σ H E I q=>h ae s σ H E I (k E σ H q)
theorem PI.to (h:PI X tg it t)(k:∀σ H Q,t' σ H Q->t σ H Q):PI X tg it t':=λae s σ H Q I q=>h ae s σ H Q I (k σ H Q q)
theorem Dv {K:Frag}{d:D}{v:V}(i:∀B,Is K B v d){σ:St}{H:Hp}{Q:VK}(h:tD K (fC d) σ H Q):tC v σ H Q:=by
 obtain⟨B,ρ,d',b,s,r,e,q⟩:=h;cases e
 exact q.one s (i B)
theorem ag (i:Nat)(hN:X.N[i]? = some x:=by rfl)(hv:Ez X.env.scope x:=by first|exact Or.inl rfl|exact Or.inr (Or.inl rfl)|exact Or.inr (Or.inr rfl))(hd:(x == ("__debug__" : Str))=false:=by decide)
  (jj:(x == ("__classdict__" : Str))=false:=by decide):JE X (.Name x pos) (aj i):=PE.to (kh hN hv hd jj) λ_ _ _ h=>Nf h
theorem av:JE X (.Constant (.int i) j pos) (fC (.int i)):=PE.to Mq λ_ _ _ h=>Dv (λ_=>.int i) h
theorem fQ:JE X (.Constant (.bool i) j pos) (fC (.bl i)):=PE.to P5 λ_ _ _ h=>Dv (λ_=>.bl i) h
theorem dB:JE X (.Constant .none j pos) (fC .non):=PE.to Mr λ_ _ _ h=>Dv (λ_=>.non) h
theorem aA:JE X (.Constant (.str x) j pos) (fC (.str x)):=PE.to Ms λ_ _ _ h=>Dv (λ_=>.str x) h
theorem IW (hg:Gl X x)(hm:X.mg x=some u)(r:aU v u)(i:∀B,Is X.K B v d)(hd:(x == ("__debug__" : Str))=false:=by decide):JE X (.Name x pos) (fC d):=PE.to (Bo hg hm r hd) λ_ _ _ h=>Dv i h
theorem ax (ho:dI X (binaryOp op) (rD X.K f))(ha:JE X a fa)(hb:JE X b fb):JE X (.BinOp a op b pos) (f2 f fa fb):=PE.to (La ho ha hb) λ_ _ _ h=>IJ h
theorem tQ (ho:PU X (unaryOp op) (T6 X.K f))(ha:JE X a fa):JE X (.UnaryOp op a pos) (f1 f fa):=PE.to (PV ho ha) λ_ _ _ h=>T7 h
theorem c6 (ho:dI X (compareOp op) (rD X.K f))(ha:JE X a fa)(hb:JE X b fb)(hm:behindInMarks op b=false:=by first|exact jk _ (by decide) (by decide)|rfl):JE X (.Compare a [op] [b] pos) (f2 f fa fb):=PE.to (Ir ho ha hb hm) λ_ _ _ h=>IJ h
theorem Aq {K:Frag}{f:FE}{σ:St}{H:Hp}{Q:Bool->Hp->Prop}(h:By K (bd f) σ H Q):tD K f σ H λx H'=>∃k,x=.bl k/\Q k H':=by
 obtain⟨B,ρ,c,s,r,e,q⟩:=h;unfold bd at e;split at e
 ·rename_i c' b' ef;cases e
  refine⟨B,ρ,.bl c,b',s,r,ef,λv H' N x i _=>?_⟩;cases i
  exact⟨c,rfl,q H' x.hh⟩
 ·cases e
theorem aH (ho:dI X (compareOp op) (rD X.K f))(ha:JE X a fa)(hb:JE X b fb)(hm:behindInMarks op b=false:=by first|exact jk _ (by decide) (by decide)|rfl):JT X (.Compare a [op] [b] pos) (bd (f2 f fa fb)) :=
 PT.to (Iu ho ha hb hm) λ_ _ _ h=>IJ (Aq h)
theorem bV (h:JE X e f)(he:∀sE,isTrue e X.env sE=(do let v ←sE;standAt e.pos;holding [v] (truthy v)):=by intro _;rfl):JT X e (bd f):=PT.to (Mw h he) λ_ _ _ q=>Aq q
@[simp] noncomputable def nJ (f g:D->D->OB)(fa fb fc:FE):FE:=λρ=>(fa ρ).bind λx=>(fb ρ).bind λy=>match f x.1 y.1 with
 |some (.bl true,_)=>(fc ρ).bind λz=>g y.1 z.1
 |some (.bl false,_)=>some (.bl false,false)
 |_=>none
theorem Fg {K:Frag}{f g:D->D->OB}{fa fb fc:FE}{σ:St}{H:Hp}{Q:VK}(h:tD K (nJ f g fa fb fc) σ H Q):EH (rD K f) (rD K g) (tD K fa) (tD K fb) (tD K fc) σ H Q:=by
 obtain⟨B,ρ,d,b,s,r,e,q⟩:=h;obtain⟨x,ex,e⟩:=oX e;obtain⟨y,ey,e⟩:=oX e;refine⟨B,ρ,x.1,x.2,s,r,ex,λv H1 N1 x1 i1 _=>⟨N1,ρ,y.1,y.2,x1.nh,r.mono x1.bn,ey,λv2 H2 N2 x2 i2 _=>?_⟩⟩;split at e
 ·rename_i b' ef;obtain⟨z,ez,e⟩:=oX e;refine⟨N2,x.1,y.1,.bl true,b',x2.nh,i1.mono x2.bn,i2,ef,λv3 H3 N3 x3 i3 _=>?_⟩;cases i3
  refine⟨true,rfl,?_⟩;rw[if_pos rfl];refine⟨N3,ρ,z.1,z.2,x3.nh,r.mono (x1.bn.trans (x2.bn.trans x3.bn)),ez,λv4 H4 N4 x4 i4 _=>⟨N4,y.1,z.1,d,b,x4.nh,i2.mono (x3.bn.trans x4.bn),i4,e,?_⟩⟩;exact q.into ((x1.trans x2).trans (x3.trans x4))
 ·rename_i b' ef;cases e
  refine⟨N2,x.1,y.1,.bl false,b',x2.nh,i1.mono x2.bn,i2,ef,λv3 H3 N3 x3 i3 _=>?_⟩;cases i3
  refine⟨false,rfl,?_⟩;rw[if_neg (by decide)];exact(q.into ((x1.trans x2).trans x3)).one x3.nh (.bl false)
 ·cases e
theorem Fh (ho:dI X (compareOp op) (rD X.K f))(sD:dI X (compareOp Pj) (rD X.K g))(ha:JE X a fa)(hb:JE X b fb)(hc:JE X c fc)
  (hm:lastMarks [op,Pj] [b,c]=false:=by with_unfolding_all rfl):JE X (.Compare a [op,Pj] [b,c] pos) (nJ f g fa fb fc):=PE.to (EI ho sD ha hb hc hm) λ_ _ _ h=>Fg h
theorem IX {K:Frag}{f g:FT}{σ:St}{H:Hp}{Q:Bool->Hp->Prop}(h:By K (fu f g) σ H Q):P7 (By K f) (By K g) σ H Q:=by
 obtain⟨B,ρ,c,s,r,e,q⟩:=h;unfold fu at e;cases ef:f ρ with
 |none=>rw[ef]at e;cases e
 |some k=>
  rw[ef]at e;refine⟨B,ρ,k,s,r,ef,λH1 h1=>?_⟩;cases k with
  |true=>rw[if_pos rfl];exact⟨B,ρ,c,s.trans h1,r,e,λH2 h2=>q H2 (h1.trans h2)⟩
  |false=>rw[if_neg (by decide)];cases e;exact q H1 h1
theorem Nj {K:Frag}{f g:FT}{σ:St}{H:Hp}{Q:Bool->Hp->Prop}(h:By K (gQ f g) σ H Q):V3 (By K f) (By K g) σ H Q:=by
 obtain⟨B,ρ,c,s,r,e,q⟩:=h;unfold gQ at e;cases ef:f ρ with
 |none=>rw[ef]at e;cases e
 |some k=>
  rw[ef]at e;refine⟨B,ρ,k,s,r,ef,λH1 h1=>?_⟩;cases k with
  |false=>rw[if_neg (by decide)];exact⟨B,ρ,c,s.trans h1,r,e,λH2 h2=>q H2 (h1.trans h2)⟩
  |true=>rw[if_pos rfl];cases e;exact q H1 h1
theorem IY {K:Frag}{f:FT}{σ:St}{H:Hp}{Q:Bool->Hp->Prop}(h:By K (eI f) σ H Q):P8 (By K f) σ H Q:=by
 obtain⟨B,ρ,c,s,r,e,q⟩:=h;obtain⟨k,ek,e⟩:=oY e;subst e;exact⟨B,ρ,k,s,r,ek,λH1 h1=>q H1 h1⟩
variable {aD:List Expr}
theorem j9 (ha:JT X a f):JW X (.BoolOp .And [a] pos) f:=Ij ha
theorem iW (ha:JT X a f):JW X (.BoolOp .Or [a] pos) f:=Mx ha
theorem lJ (ha:JT X a f)(hb:JW X (.BoolOp .And (b::aD) pos) g):JW X (.BoolOp .And (a::b::aD) pos) (fu f g):=PW.to (My ha hb) λ_ _ _ h=>IX h
theorem iH (ha:JT X a f)(hb:JW X (.BoolOp .Or (b::aD) pos) g):JW X (.BoolOp .Or (a::b::aD) pos) (gQ f g):=PW.to (P9 ha hb) λ_ _ _ h=>Nj h
theorem ko (h:JW X e f):JT X e f:=h.pt
theorem fz (ha:JT X a f):JT X (.UnaryOp .Not a pos) (eI f):=PT.to (Mz ha) λ_ _ _ h=>IY h
@[simp] noncomputable def jA (f g:FE):FE:=λρ=>match f ρ with|some (.bl true,_)=>g ρ|some (.bl false,_)=>some (.bl false,false)|_=>none
@[simp] noncomputable def Nk (f g:FE):FE:=λρ=>match f ρ with|some (.bl true,_)=>some (.bl true,false)|some (.bl false,_)=>g ρ|_=>none
@[simp] noncomputable def Ar (f:FE):FE:=λρ=>match f ρ with|some (.bl c,_)=>some (.bl (!c),false)|_=>none
theorem gF (ha:JE X a f)(hb:JE X (.BoolOp .And (b::aD) pos) g):JE X (.BoolOp .And (a::b::aD) pos) (jA f g):=PE.to (M2 ha hb) λσ H Q h=>by
 obtain⟨B,ρ,d,k,s,r,e,q⟩:=h;unfold jA at e;split at e
 ·rename_i b' ef;refine⟨B,ρ,_,_,s,r,ef,λv H1 N1 x1 i1 _=>?_⟩;cases i1
  refine⟨true,rfl,?_⟩;rw[if_pos rfl];exact⟨N1,ρ,d,k,x1.nh,r.mono x1.bn,e,q.into x1⟩
 ·rename_i b' ef;cases e
  refine⟨B,ρ,_,_,s,r,ef,λv H1 N1 x1 i1 _=>?_⟩;cases i1
  refine⟨false,rfl,?_⟩;rw[if_neg (by decide)];exact(q.into x1).one x1.nh (.bl false)
 ·cases e
theorem Fi (ha:JE X a f)(hb:JE X (.BoolOp .Or (b::aD) pos) g):JE X (.BoolOp .Or (a::b::aD) pos) (Nk f g):=PE.to (PF ha hb) λσ H Q h=>by
 obtain⟨B,ρ,d,k,s,r,e,q⟩:=h;unfold Nk at e;split at e
 ·rename_i b' ef;cases e
  refine⟨B,ρ,_,_,s,r,ef,λv H1 N1 x1 i1 _=>?_⟩;cases i1
  refine⟨true,rfl,?_⟩;rw[if_pos rfl];exact(q.into x1).one x1.nh (.bl true)
 ·rename_i b' ef;refine⟨B,ρ,_,_,s,r,ef,λv H1 N1 x1 i1 _=>?_⟩;cases i1
  refine⟨false,rfl,?_⟩;rw[if_neg (by decide)];exact⟨N1,ρ,d,k,x1.nh,r.mono x1.bn,e,q.into x1⟩
 ·cases e
theorem fB (h:JE X a f):JE X (.BoolOp op [a] pos) f:=M0 h
theorem Nl (ha:JE X a f):JE X (.UnaryOp .Not a pos) (Ar f):=PE.to (M3 ha) λσ H Q h=>by
 obtain⟨B,ρ,d,k,s,r,e,q⟩:=h;unfold Ar at e;split at e
 ·rename_i c b' ef;cases e
  refine⟨B,ρ,_,_,s,r,ef,λv H1 N1 x1 i1 _=>?_⟩;cases i1
  exact⟨c,rfl,(q.into x1).one x1.nh (.bl _)⟩
 ·cases e
variable {es:List Expr}
theorem am:JA X [] ai:=PA.to ki λ_ _ _ h=>IL h
theorem ah (ha:JE X e f)(hr:JA X es g)(hs:starEach (e::es) X.env=(false,eval e X.env)::starEach es X.env:=by rfl):JA X (e::es) (af f g):=PA.to (iG ha hr hs) λ_ _ _ h=>EZ h
@[simp] noncomputable def aY:List D->OB:=λds=>if ds.length<=sizeLine then some (.tup ds,false)else none
@[simp] noncomputable def bF:List D->OB:=λds=>if ds.length<=sizeLine then some (.lst ds,true)else none
theorem aX {x1}(h:JA X es f):JE X (.Tuple es x1 pos) (fA aY f):=PE.to (Af h) λσ H Q q=>by
 obtain⟨B,ρ,ds,s,r,e,k⟩:=IK q;refine⟨B,ρ,ds,s,r,e,λvs H1 N1 x1 i1=>?_⟩;obtain⟨B2,Wy,d,b,s2,i2,e2,k2⟩:=k vs H1 N1 x1 i1;unfold aY at e2;split at e2
 ·rename_i hz;cases e2
  refine⟨by rw[i2.length];exact hz,λp hp=>k2 _ _ (upd B2 p (.tup vs)) (.laid s2 hp) (.tup (jl.of aC) (i2.mono (Ext.laid s2 hp).bn)) (by simp)⟩
 ·cases e2
theorem bG (h:JA X es f):JE X (.List es pos) (fA bF f):=PE.to (MN h) λσ H Q q=>by
 obtain⟨B,ρ,ds,s,r,e,k⟩:=IK q;refine⟨B,ρ,ds,s,r,e,λvs H1 N1 x1 i1=>?_⟩;obtain⟨B2,Wy,d,b,s2,i2,e2,k2⟩:=k vs H1 N1 x1 i1;unfold bF at e2;split at e2
 ·rename_i hz;cases e2
  refine⟨by rw[i2.length];exact hz,λp hp=>k2 _ _ (upd B2 p (.lst vs)) (.laid s2 hp) (.lst (gX.of aC) (i2.mono (Ext.laid s2 hp).bn)) λ_=>⟨p,vs,Wy,rfl,rfl,hp,aC,i2.mono (Ext.laid s2 hp).bn⟩⟩
 ·cases e2
end
section
variable {X:Cx}
theorem iX (h:dI X f r)(k:∀x y H Q,r' x y H Q->r x y H Q):dI X f r':=λae s σ H x y v u Q I rx ry q=>h ae s σ H x y v u Q I rx ry (k x y H Q q)
noncomputable def E2 (f g:D->D->OB):D->D->OB:=λx y=>match f x y with|some r=>some r|none=>g x y
theorem nL (h:dI X s (rD X.K f))(h':dI X s (rD X.K g)):dI X s (rD X.K (E2 f g)):=by
 intro ae st σ H x y v u Q I rx ry q;obtain⟨B,dx,dy,d,b,sB,ix,iy,e,q⟩:=q;unfold E2 at e;split at e
 ·rename_i r ef;cases e
  exact h ae st σ H x y v u Q I rx ry ⟨B,dx,dy,_,_,sB,ix,iy,ef,q⟩
 ·exact h' ae st σ H x y v u Q I rx ry ⟨B,dx,dy,_,_,sB,ix,iy,e,q⟩
@[simp] noncomputable def zS (C:Int->Int->Bool)(g:Int->Int->D):D->D->OB
 |.int i,.int j=>if C i j=true then some (g i j,false)else none
 |_,_=>none
theorem wu (h:dI X s (rI C g))(hC:∀i j,C' i j=true->C i j)(hg:∀i j B,Is X.K B (g i j) (g' i j)):dI X s (rD X.K (zS C' g')):=by
 refine iX h λx y H Q q=>?_;obtain⟨B,dx,dy,d,b,sB,ix,iy,e,q⟩:=q;cases ix<;>try (cases e;done)
 cases iy<;>try (cases e;done)
 rename_i i j;simp only[zS]at e;split at e
 ·rename_i hc;cases e
  exact⟨i,j,rfl,rfl,hC i j hc,q.one sB (hg i j B)⟩
 ·cases e
theorem hZ (h:dI X s (HM g))(hg:∀i j B,Is X.K B (g i j) (g' i j)):dI X s (rD X.K (zS (λ_ _=>true) g')):=by
 refine iX h λx y H Q q=>?_;obtain⟨B,dx,dy,d,b,sB,ix,iy,e,q⟩:=q;cases ix<;>try (cases e;done)
 cases iy<;>try (cases e;done)
 rename_i i j;simp only[zS,if_true]at e;cases e
 exact⟨i,j,rfl,rfl,q.one sB (hg i j B)⟩
abbrev Nm:D->D->OB:=zS (λ_ _=>true) λi j=>.int (i+j)
abbrev nM:D->D->OB:=zS (λ_ _=>true) λi j=>.int (i - j)
abbrev Nn:D->D->OB:=zS (λi j=>decide ((-18446744073709551616<i/\i<18446744073709551616)∨(-18446744073709551616<j/\j<18446744073709551616))) λi j=>.int (i*j)
abbrev cU:D->D->OB:=zS (λ_ j=>decide (0<j/\j<1073741824)) λi j=>.int (i / j)
abbrev bI:D->D->OB:=zS (λ_ j=>decide (0<j)) λi j=>.int (i % j)
abbrev Qv:D->D->OB:=zS (λ_ _=>true) λi j=>.int (Builtin.bitAnd i j)
abbrev VE:D->D->OB:=zS (λ_ _=>true) λi j=>.bl (decide (i<j))
abbrev T8:D->D->OB:=zS (λ_ _=>true) λi j=>.bl (decide (i<=j))
abbrev HR:D->D->OB:=zS (λ_ _=>true) λi j=>.bl (decide (j<i))
abbrev T9:D->D->OB:=zS (λ_ _=>true) λi j=>.bl (decide (j<=i))
theorem Qw:dI X (binaryOp .Add) (rD X.K Nm):=hZ ME λ_ _ _=>.int _
theorem xQ:dI X (binaryOp .Sub) (rD X.K nM):=hZ MF λ_ _ _=>.int _
theorem Qx:dI X (binaryOp .Mult) (rD X.K Nn):=wu MG (λi j h=>by have h:=of_decide_eq_true h;unfold Ip;omega) λ_ _ _=>.int _
theorem bL:dI X (binaryOp .FloorDiv) (rD X.K cU):=wu Iq (λi j h=>by have h:=of_decide_eq_true h;unfold PX;omega) λ_ _ _=>.int _
theorem bH:dI X (binaryOp .Mod) (rD X.K bI):=wu MH (λ_ _ h=>of_decide_eq_true h) λ_ _ _=>.int _
theorem Qy:dI X (binaryOp .BitAnd) (rD X.K Qv):=hZ MI λ_ _ _=>.int _
theorem TB:dI X (compareOp .Lt) (rD X.K VE):=hZ PY λ_ _ _=>.bl _
theorem TC:dI X (compareOp .LtE) (rD X.K T8):=hZ PZ λ_ _ _=>.bl _
theorem Fj:dI X (compareOp .Gt) (rD X.K HR):=hZ Qa λ_ _ _=>.bl _
theorem TD:dI X (compareOp .GtE) (rD X.K T9):=hZ Qb λ_ _ _=>.bl _
@[simp] noncomputable def OT (C:Str->Str->Bool)(g:Str->Str->D):D->D->OB
 |.str i,.str j=>if C i j=true then some (g i j,false)else none
 |_,_=>none
abbrev IZ:D->D->OB:=OT (λi j=>decide (i.length+j.length<=sizeLine)) λi j=>.str (i++j)
abbrev Sl:D->D->OB:=OT (λ_ _=>true) λi j=>.bl (!decide (j.cps.toList<i.cps.toList))
theorem No:dI X (binaryOp .Add) (rD X.K IZ):=by
 refine iX Ad λx y H Q q=>?_;obtain⟨B,dx,dy,d,b,sB,ix,iy,e,q⟩:=q;cases ix<;>try (cases e;done)
 cases iy<;>try (cases e;done)
 rename_i i j;simp only[IZ,OT]at e;split at e
 ·rename_i hc;cases e
  exact⟨i,j,rfl,rfl,of_decide_eq_true hc,q.one sB (.str _)⟩
 ·cases e
theorem Qz:dI X (compareOp .LtE) (rD X.K Sl):=by
 intro ae s σ H x y v u Q I rx ry q;obtain⟨B,dx,dy,d,b,sB,ix,iy,e,q⟩:=q;cases ix<;>try (cases e;done)
 cases iy<;>try (cases e;done)
 rename_i i j;simp only[Sl,OT,if_true]at e;cases e
 obtain⟨t,rfl⟩:=rx;obtain⟨t',rfl⟩:=ry;exact PySem.P.le_str ⟨.bl _,H,I,rfl,q.one sB (.bl _)⟩
end
section
variable {X:Cx}{a b c e:Expr}{pos:Pos}{st:Stmt}{aD:List Stmt}
theorem fD:wn X [] bg:=t8.to Ik λ_ _ _ h=>Fb h
theorem ao (h1:JS X st g)(h2:wn X aD h):wn X (st::aD) (a7 g h):=t8.to (EB h1 h2) λ_ _ _ q=>IM q
theorem bq (h1:JS X st g):wn X [st] g:=Il h1
theorem fg {c:Expr}{a b:List Stmt}{fc:FT}{g h:FS}(hc:JT X c fc)(ha:wn X a g)(hb:wn X b h):JS X (.If c a b pos) (eB fc g h):=PS.to (PM hc ha hb) λ_ _ _ q=>Ng q
theorem Fk (he:JE X e f):JS X (.Return (some e) pos) (aR f):=PS.to (EC he) λ_ _ _ q=>IN q
theorem mz (i:Nat)(hN:X.N[i]? = some x:=by rfl)(hv:Ez X.env.scope x:=by first|exact Or.inl rfl|exact Or.inr (Or.inl rfl)|exact Or.inr (Or.inr rfl))(hd:(x == ("__debug__" : Str))=false:=by decide)
  (jj:(x == ("__classdict__" : Str))=false:=by decide):JS X (.Return (some (.Name x p)) pos) (jS i):=PS.to (EC (kh hN hv hd jj)) λ_ _ _ q=>Fc q
theorem aB (hN:X.N.Nodup)(he:JE X e f)(hi:X.N[i]? = some x:=by rfl)(hx:HL X.env.scope x:=by first|exact Or.inl rfl|exact Or.inr rfl)(hs:swapsWith e (some (.Name x p)) pos.line X.env=pure false:=by rfl)
  (hf:X.fn x=true∨X.env.scope.names.lookup x=some .local:=by first|exact .inl rfl|exact .inr rfl):JS X (.Assign [.Name x p] e pos) (aN i f):=PS.to (vv hN hi hx he hs hf) λ_ _ _ q=>B1 q
theorem Ja (hN:X.N.Nodup)(he:JE X e f)(hi:X.N[i]? = some x:=by rfl)(hx:HL X.env.scope x:=by first|exact Or.inl rfl|exact Or.inr rfl)(hs:swapsWith e (some (.Name x p)) pos.line X.env=pure false:=by rfl)
  (hf:X.fn x=true∨X.env.scope.names.lookup x=some .local:=by first|exact .inl rfl|exact .inr rfl):JS X (.Assign [.Name x p] e pos) (xN i f):=PS.to (vv hN hi hx he hs hf) λ_ _ _ q=>Fd q
theorem Fl (n:Nat)(hp:PassesOwn (model X.prog X.w) X.A X.env X.xe)(hc:JT X c fc)(hb:wn X body g):JS X (.While c body [] pos) (fU fc g n):=PS.to (EE hp hc hb) λ_ _ _ q=>Ds q
theorem Np (hp:PassesOwn (model X.prog X.w) X.A X.env X.xe)(hc:X.calm=true)(hi:JI X tg di fi)(hg:PG X tg t)(ht:IQ X.K pO t)(hb:wn X body g)
  (hs:∀x,foldedSetIterable di X.env x=pure x:=by intro _;rfl):JS X (.For tg di body [] pos) (sQ fi pO g):=PS.to (EG hp hc hi hg hb hs) λ_ _ _ q=>IS ht q
theorem Jb (hp:PassesOwn (model X.prog X.w) X.A X.env X.xe)(hc:X.calm=true)(hi:PI X tg di (Qu X.K fi))(hg:PG X tg t)(ht:IQ X.K pO t)(hb:wn X body g)
  (hs:∀x,foldedSetIterable di X.env x=pure x:=by intro _;rfl):JS X (.For tg di body [] pos) (l7 fi pO g):=PS.to (EG hp hc hi hg hb hs) λ_ _ _ q=>Ff ht q
theorem gG (he:JE X e f)(hN:X.N[i]? = some x:=by rfl)(hv:Ez X.env.scope x:=by first|exact Or.inl rfl|exact Or.inr (Or.inl rfl)|exact Or.inr (Or.inr rfl))(hd:(x == ("__debug__" : Str))=false:=by decide)
  (jj:(x == ("__classdict__" : Str))=false:=by decide)
  (fL:attributeBase (.Name x p) "append" X.env (eval (.Name x p) X.env)=eval (.Name x p) X.env:=by rfl)
  (Bj:((backTo cr (starEach [e] X.env)).all (λx=>!x.1) && (backToKw cr (keywordEach [] X.env)).all (λx=>x.1.isSome)
   && decide ([e].length+([]:List Keyword).length+(if([]:List Keyword).isEmpty then 0 else 1)<30))=true:=by rfl)
  (fM:(cV.endLine == cr.line)=true:=by rfl) (hs:starEach [e] X.env=[(false,eval e X.env)]:=by rfl) (Oy:swapsWith (.Call (.Attribute (.Name x p) "append" cV) [e] [] cr) none pos.line X.env=pure false:=by rfl):
  JS X (.Expr (.Call (.Attribute (.Name x p) "append" cV) [e] [] cr) pos) (iT i f):=by
 refine PS.to (Bp (EQ PySem.F.plainAttrs_list PySem.F.slot_list_append PySem.F.type_list_append tK (kh hN hv hd jj) (iG he ki hs) fL Bj fM hs rfl) Oy) λE σ H q=>?_;obtain⟨a,us,h1,h2,k⟩:=IP q;exact⟨_,h1,.inl ⟨rfl,us,gX.of h2⟩,k⟩
end
@[simp] noncomputable def aM (g:FS)(n k:Nat):List D->OB:=λds=>if ds.length=n then
 match g (ds.map (λd=>some (d,false))++List.replicate k none) with
 |some (.rt d b)=>some (d,b)
 |some (.nx _)=>some (.non,false)
 |_=>none
 else none
def Jc (K:Frag)(f:List D->OB):Sp:=λvs H Q _=>∃(B:Hp)(ds:List D)(d:D)(b:Bool),(aV B H/\Tb K B)/\IsL K B vs ds/\f ds=some (d,b)/\Fin K B H d b Q
theorem xR {K:Frag}{B H:Hp}{vs:List V}{ds:List D}{N:List Str}(sB:aV B H)(tb:Tb K B)(i:IsL K B vs ds):eF K B H B H (L2.jR N vs) (ds.map (λd=>some (d,false))++List.replicate (N.length - vs.length) none):=by
 have nf:∀(j:Nat)(d:D)(b:Bool),(ds.map (λd=>some (d,false))++List.replicate (N.length - vs.length) none:Env)[j]? = some (some (d,b))->b=false/\ds[j]? = some d:=λj d b e=>by
  by_cases hj:j<ds.length
  ·rw[List.getElem?_append_left (by simpa using hj),vA]at e;obtain⟨d',h1,h2⟩:=oY e;cases h2
   exact⟨rfl,h1⟩
  ·rw[List.getElem?_append_right (by simpa using Nat.not_lt.mp hj),List.getElem?_replicate]at e;split at e<;>cases e
 have no:∀a,¬own (L2.jR N vs) (ds.map (λd=>some (d,false))++List.replicate (N.length - vs.length) none) a:=λa ⟨j,d,h,_⟩=>by
  obtain⟨z,_⟩:=nf j d true h;cases z
 refine⟨sB,tb,.refl sB,?_,λj d e=>?_,λj d e=>?_,λj k a d e h=>?_⟩
 ·unfold L2.jR;rw[uZ,uZ,vI,vI,List.length_replicate,List.length_replicate,i.length]
 ·obtain⟨_,e1⟩:=nf j d false e;obtain⟨v,h1,h2⟩:=i.get e1;refine⟨v,?_,h2.mono λa o e=>by rw[cY (no a)];exact e⟩;unfold L2.jR;have hj:j<vs.length:=(vV h1).1;rw[List.getElem?_append_left (by simpa using hj),vA,h1]<;>rfl
 ·obtain⟨z,_⟩:=nf j d true e;cases z
 ·obtain⟨z,_⟩:=nf j d true h;cases z
section
variable {P:Program}{w:World}{K:Frag}{mg:Str->Option Value}{base:Heap}
theorem Q0 {x qual:Str}{st:Stmt}{f:Addr}{fd:FuncData}{N ps:List Str}{k:Nat}{g:FS}(F:Ox K x qual st f fd)(S:FnScope N ps (aQ st))
  (hb:∀(eG:Value)(A:Around)(outer:List PySem.Env)(s:Shared)(H:Hp)(E:XK),eN k (A.deeper (envOfC qual (aQ st) s.heap.objs.size f eG))->wn (pw zR P w K mg base N qual (aQ st) f eG A outer s H E).nox (cK st) g):
  tq P w K mg base zR (k+1) f fd ps (Jc K (aM g ps.length (N.length - ps.length))):=by
 have len:∀vs H Q E,Jc K (aM g ps.length (N.length - ps.length)) vs H Q E->vs.length=ps.length:=λvs H Q E h=>by
  obtain⟨B,ds,d,b,sB,i,e,q⟩:=h;unfold aM at e;split at e
  ·rename_i hl;rw[i.length];exact hl
  ·cases e
 refine F.ok S len λeG A outer s H vs Q E hr h=>⟨_,hb eG A outer s H E hr,?_⟩;have bJ:=len vs H Q E h;obtain⟨B,ds,d,b,sB,i,e,q⟩:=h;unfold aM at e;rw[if_pos (by rw[←i.length];exact bJ)]at e;have s0:=xR (N:=N) sB.1 sB.2 i;rw[bJ]at s0;split at e
 ·rename_i d' b' eg;cases e
  exact⟨B,H,_,_,⟨B,s0⟩,eg,λv H' N' x' i' f'=>q v H' N' x' i' f'⟩
 ·rename_i ρ' eg;cases e
  exact⟨B,H,_,_,⟨B,s0⟩,eg,λσ' H' ⟨N',s'⟩=>q .non H' N' s'.ext .non (by simp)⟩
 ·cases e
structure Fn (P:Program)(w:World)(K:Frag)(mg:Str->Option Value)(base:Heap)(k:Nat)(x:Str)(f:List D->OB):Prop where
 ex:∃(ad:Addr)(fd:FuncData)(ps:List Str),tq P w K mg base zR k ad fd ps (Jc K f)/\mg x=some (.ref ad)/\PySem.W.keepIn K (.ref ad)=true/\t9 K fd ps []
end
theorem B3 (F:Fn X.prog X.w X.K X.mg X.base k x f)(hr:eN k X.A)(ha:JA X (e::es) fa)(hg:Gl X x:=by rfl)
  (tu:(x == ("__debug__" : Str))=false:=by decide) (he:starEach (e::es) X.env=(false,eval e X.env)::starEach es X.env:=by rfl) (mf:(backTo pos (starEach es X.env)).any (·.1)=false:=by rfl):
  JE X (.Call (.Name x p) (e::es) [] pos) (fA f fa):=by
 obtain⟨ad,fd,ps,F1,hm,hk,hb⟩:=F.ex;refine PE.to (Iv F1 hr hg hm hk hb .nil Ql ha tu he mf) λσ H Q q=>?_;obtain⟨B,ρ,d,b,s,r,e,q⟩:=q;obtain⟨ds,ex,e⟩:=oX e;exact⟨B,ρ,ds,s,r,ex,λvs H1 N1 x1 i1=>by
  show Jc X.K f (vs++[]) H1 Q _;rw[uQ];exact⟨N1,ds,d,b,⟨x1.nh,r.tb.mono x1.bn⟩,i1,e,q.into x1⟩⟩
mutual
def bB:D->D->Bool
 |.non,.non=>true
 |.bl a,.bl b=>a == b
 |.bl a,.int b=>decide ((if a then 1 else 0)=b)
 |.int a,.bl b=>decide (a=(if b then 1 else 0))
 |.int a,.int b=>decide (a=b)
 |.str a,.str b=>decide (a=b)
 |.tup xs,.tup ys=>dq xs ys
 |.lst xs,.lst ys=>dq xs ys
 |_,_=>false
def dq:List D->List D->Bool
 |[],[]=>true
 |x::xs,y::ys=>bB x y && dq xs ys
 |_,_=>false
end
@[simp] theorem xS:bB .non .non=true:=by simp only[bB]
@[simp] theorem As (b:Bool):bB .non (.bl b)=false:=by simp only[bB]
@[simp] theorem xT (b:Int):bB .non (.int b)=false:=by simp only[bB]
@[simp] theorem xU (b:Str):bB .non (.str b)=false:=by simp only[bB]
@[simp] theorem Ll (b:List D):bB .non (.tup b)=false:=by simp only[bB]
@[simp] theorem Lm (b:List D):bB .non (.lst b)=false:=by simp only[bB]
@[simp] theorem Au (a:Bool):bB (.bl a) .non=false:=by simp only[bB]
@[simp] theorem Dw (a:Bool)(b:Bool):bB (.bl a) (.bl b)=(a == b):=by simp only[bB]
@[simp] theorem Av (a:Bool)(b:Int):bB (.bl a) (.int b)=decide ((if a then 1 else 0)=b):=by simp only[bB]
@[simp] theorem Aw (a:Bool)(b:Str):bB (.bl a) (.str b)=false:=by simp only[bB]
@[simp] theorem Nq (a:Bool)(b:List D):bB (.bl a) (.tup b)=false:=by simp only[bB]
@[simp] theorem Nr (a:Bool)(b:List D):bB (.bl a) (.lst b)=false:=by simp only[bB]
@[simp] theorem xV (a:Int):bB (.int a) .non=false:=by simp only[bB]
@[simp] theorem Ax (a:Int)(b:Bool):bB (.int a) (.bl b)=decide (a=(if b then 1 else 0)):=by simp only[bB]
@[simp] theorem xW (a:Int)(b:Int):bB (.int a) (.int b)=decide (a=b):=by simp only[bB]
@[simp] theorem xX (a:Int)(b:Str):bB (.int a) (.str b)=false:=by simp only[bB]
@[simp] theorem Ln (a:Int)(b:List D):bB (.int a) (.tup b)=false:=by simp only[bB]
@[simp] theorem Lo (a:Int)(b:List D):bB (.int a) (.lst b)=false:=by simp only[bB]
@[simp] theorem xY (a:Str):bB (.str a) .non=false:=by simp only[bB]
@[simp] theorem Ay (a:Str)(b:Bool):bB (.str a) (.bl b)=false:=by simp only[bB]
@[simp] theorem xZ (a:Str)(b:Int):bB (.str a) (.int b)=false:=by simp only[bB]
@[simp] theorem oB (a:Str)(b:Str):bB (.str a) (.str b)=decide (a=b):=by simp only[bB]
@[simp] theorem Lp (a:Str)(b:List D):bB (.str a) (.tup b)=false:=by simp only[bB]
@[simp] theorem Lq (a:Str)(b:List D):bB (.str a) (.lst b)=false:=by simp only[bB]
@[simp] theorem Lr (a:List D):bB (.tup a) .non=false:=by simp only[bB]
@[simp] theorem Nt (a:List D)(b:Bool):bB (.tup a) (.bl b)=false:=by simp only[bB]
@[simp] theorem Ls (a:List D)(b:Int):bB (.tup a) (.int b)=false:=by simp only[bB]
@[simp] theorem Lu (a:List D)(b:Str):bB (.tup a) (.str b)=false:=by simp only[bB]
@[simp] theorem Lv (a:List D)(b:List D):bB (.tup a) (.tup b)=dq a b:=by simp only[bB]
@[simp] theorem Lx (a:List D)(b:List D):bB (.tup a) (.lst b)=false:=by simp only[bB]
@[simp] theorem Ly (a:List D):bB (.lst a) .non=false:=by simp only[bB]
@[simp] theorem Nu (a:List D)(b:Bool):bB (.lst a) (.bl b)=false:=by simp only[bB]
@[simp] theorem Lz (a:List D)(b:Int):bB (.lst a) (.int b)=false:=by simp only[bB]
@[simp] theorem L0 (a:List D)(b:Str):bB (.lst a) (.str b)=false:=by simp only[bB]
@[simp] theorem L3 (a:List D)(b:List D):bB (.lst a) (.tup b)=false:=by simp only[bB]
@[simp] theorem L4 (a:List D)(b:List D):bB (.lst a) (.lst b)=dq a b:=by simp only[bB]
@[simp] theorem Q1:dq [] []=true:=by rw[dq]
@[simp] theorem OU (x y:D)(xs ys:List D):dq (x::xs) (y::ys)=(bB x y && dq xs ys):=by rw[dq]
@[simp] theorem Sm (y:D)(ys:List D):dq [] (y::ys)=false:=by simp only[dq]
@[simp] theorem Sn (x:D)(xs:List D):dq (x::xs) []=false:=by simp only[dq]
noncomputable def aq:Nat->D->Bool
 |_,.non=>true
 |_,.bl _=>true
 |_,.int _=>true
 |_,.str _=>true
 |_,.ty _=>false
 |_,.dk _ _=>false
 |_,.dt _ _=>false
 |0,.tup _=>false
 |0,.lst _=>false
 |n+1,.tup ds=>ds.all (aq n)
 |n+1,.lst ds=>ds.all (aq n)
@[simp] theorem Nv (n:Nat):aq n .non=true:=by cases n<;>simp only[aq]
@[simp] theorem OV (n:Nat)(a:Bool):aq n (.bl a)=true:=by cases n<;>simp only[aq]
@[simp] theorem Nw (n:Nat)(a:Int):aq n (.int a)=true:=by cases n<;>simp only[aq]
@[simp] theorem Nx (n:Nat)(a:Str):aq n (.str a)=true:=by cases n<;>simp only[aq]
@[simp] theorem OW (n:Nat)(ks:List cz)(vs:List D):aq n (.dk ks vs)=false:=by cases n<;>simp only[aq]
@[simp] theorem OX (n:Nat)(ks:List (List cz))(vs:List D):aq n (.dt ks vs)=false:=by cases n<;>simp only[aq]
@[simp] theorem Ny (n:Nat)(ds:List D):aq (n+1) (.tup ds)=ds.all (aq n):=by simp only[aq]
@[simp] theorem Nz (n:Nat)(ds:List D):aq (n+1) (.lst ds)=ds.all (aq n):=by simp only[aq]
theorem ya:∀ {xs ys:List D},dq xs ys=true->xs.length=ys.length
 |[],[],_=>rfl
 |x::xs,y::ys,h=>by
  simp only[dq,vC]at h;rw[vE,vE,ya h.2]
 |[],_::_,h=>by simp[dq]at h
 |_::_,[],h=>by simp[dq]at h
theorem ww (h:xs.length≠ys.length):dq xs ys=false:=by
 cases e:dq xs ys with
 |false=>rfl
 |true=>exact absurd (ya e) h
theorem jB (f:Nat->Bool):∀ {xs ys:List D},xs.length=ys.length->(∀(j:Nat) x y,xs[j]? = some x->ys[j]? = some y->f j=bB x y)->(List.range xs.length).all f=dq xs ys
 |[],[],_,_=>by simp[dq]
 |x::xs,y::ys,hl,h=>by
  have e:=jB (λj=>f (j+1)) (xs:=xs) (ys:=ys) (by simpa using hl) λj a b h1 h2=>h (j+1) a b (by simpa using h1) (by simpa using h2);rw[vE,List.range_succ_eq_map,List.all_cons,List.all_map,dq,←h 0 x y rfl rfl,←e];rfl
 |[],_::_,hl,_=>by simp at hl
 |_::_,[],hl,_=>by simp at hl
section
variable {X:Cx}{ae:List (Addr×Obj)}{σ:St}{H:Hp}{s:Shared}
theorem B4 (I:Inv X ae σ H s)(h1:jl X.K H a vs)(h2:gX X.K H a ws):False:=by
 obtain⟨its,_,⟨o,e,c,_⟩,_⟩:=I.tuple h1;obtain⟨its',_,⟨o',n',e',c',_⟩,_⟩:=I.list h2;rw[e]at e';cases e';rw[c]at c';injection c' with z;exact absurd z (by decide)
theorem B5 (I:Inv X ae σ H s)(e:s.heap.get? a=some o)(d:o.data=.seq its n):(∀aK ob,H a≠some (.dK aK ob))/\∀aK,H a≠some (.dT aK):=by
 refine⟨λaK ob h=>?_,λaK h=>?_⟩
 ·obtain⟨_,_,_,_,_,o',es,ep,e',_,d',_⟩:=(show bN X.prog X.w H s.heap a (.dK aK ob)from I.hok a _ h);rw[e]at e';cases e';rw[d]at d';cases d'
 ·obtain⟨_,_,_,_,o',es,ep,e',_,d',_⟩:=(show bN X.prog X.w H s.heap a (.dT aK)from I.hok a _ h);rw[e]at e';cases e';rw[d]at d';cases d'
theorem yc (I:Inv X ae σ H s)(h1:jl X.K H a vs):(∀aK ob,H a≠some (.dK aK ob))/\∀aK,H a≠some (.dT aK):=by
 obtain⟨its,_,⟨o,e,c,n,d⟩,_⟩:=I.tuple h1;exact B5 I e d
theorem ye (I:Inv X ae σ H s)(h1:gX X.K H a vs):(∀aK ob,H a≠some (.dK aK ob))/\∀aK,H a≠some (.dT aK):=by
 obtain⟨its,_,p,_⟩:=I.list h1;obtain⟨o,e,c,n,d⟩:=p.isList;exact B5 I e d
theorem B6 (I:Inv X ae σ H s):∀(n:Nat){v:V}{d d':D},Is X.K H v d->Is X.K H v d'->aq n d=true->bB d d'=true:=by
 have lists:∀ {p:D->Bool}(ih:∀ {v:V}{d d':D},Is X.K H v d->Is X.K H v d'->p d=true->bB d d'=true) {vs:List V}{ds Ia:List D},IsL X.K H vs ds->IsL X.K H vs Ia->ds.all p=true->dq ds Ia=true:=by
  intro p ih vs;induction vs with
  |nil=>intro ds Ia h h' _;cases h;cases h';simp[dq]
  |cons v vs Yw=>
   intro ds Ia h h' hp;cases h with
   |cons h1 h2=>
    cases h' with
    |cons h3 h4=>
     rw[List.all_cons,vC]at hp;rw[dq,ih h1 h3 hp.1,Yw h2 h4 hp.2];rfl
 intro n;induction n with
 |zero=>
  intro v d d' h h' hp;cases h<;>cases h'<;>first|(simp[aq]at hp;done)|simp[bB]
 |succ n ih=>
  intro v d d' h h' hp;cases h with
  |tup h1 h2=>
   cases h' with
   |tup h3 h4=>
    rw[I.tuple_inj h3 h1]at h4;rw[bB];exact lists ih h2 h4 (by simpa [aq]using hp)
   |lst h3 h4=>exact(B4 I h1 h3).elim
   |dk h3 _ _=>exact((yc I h1).1 _ _ h3).elim
   |dt h3 _ _=>exact((yc I h1).2 _ h3).elim
  |lst h1 h2=>
   cases h' with
   |lst h3 h4=>
    rw[I.list_inj h3 h1]at h4;rw[bB];exact lists ih h2 h4 (by simpa [aq]using hp)
   |tup h3 h4=>exact(B4 I h3 h1).elim
   |dk h3 _ _=>exact((ye I h1).1 _ _ h3).elim
   |dt h3 _ _=>exact((ye I h1).2 _ h3).elim
  |ty=>simp[aq]at hp
  |dk=>simp[aq]at hp
  |dt=>simp[aq]at hp
  |_=>cases h'<;>simp[bB]
theorem L5 {α:Type}{p:α->Bool}{l:List α}{j:Nat}{x:α}(h:l.all p=true)(e:l[j]? = some x):p x=true:=uR h x (vL e)
theorem yf {A:Around}{p:D->Bool}(ih:∀ {v1 v2:V}{d1 d2:D}{u1 u2:Value},p d1=true->p d2=true->Is X.K H v1 d1->Is X.K H v2 d2->aU v1 u1->aU v2 u2->SeqAt.EqAt A s u1 u2 (bB d1 d2))
  {vs ws:List V}{ds es:List D}{its gE:List Value}(i1:IsL X.K H vs ds) (i2:IsL X.K H ws es) (r1:aS vs its) (r2:aS ws gE) (p1:ds.all p=true) (p2:es.all p=true):
  ∀j (h1:j<its.toArray.size) (h2:j<gE.toArray.size),SeqAt.EqAt A s its.toArray[j] gE.toArray[j] (bB (ds.getD j .non) (es.getD j .non)):=by
 intro j h1 h2;rw[vH]at h1 h2;have l1:=r1.length;have l2:=r2.length;have l3:=i1.length;have l4:=i2.length;have hv:j<vs.length:=by omega
 have hw:j<ws.length:=by omega
 have hd:j<ds.length:=by omega
 have he:j<es.length:=by omega
 obtain⟨u,e1,q1⟩:=r1.get (i:=j) (x:=vs[j]) (by simp[hv]);obtain⟨u',e2,q2⟩:=r2.get (i:=j) (x:=ws[j]) (by simp[hw]);obtain⟨v,e3,q3⟩:=i1.get (i:=j) (d:=ds[j]) (by simp[hd]);obtain⟨w,e4,q4⟩:=i2.get (i:=j) (d:=es[j]) (by simp[he]);have a1:its.toArray[j]=u:=by have z:=(vV e1).2;simpa using z
 have a2:gE.toArray[j]=u':=by have z:=(vV e2).2;simpa using z
 have a3:vs[j]=v:=by simpa [hv]using e3
 have a4:ws[j]=w:=by simpa [hw]using e4
 have a5:ds.getD j .non=ds[j]:=by simp[List.getD,hd]
 have a6:es.getD j .non=es[j]:=by simp[List.getD,he]
 rw[a1,a2,a5,a6];exact ih (L5 p1 (j:=j) (by simp[hd])) (L5 p2 (j:=j) (by simp[he])) (a3 ▸ q3) (a4 ▸ q4) q1 q2
theorem wx {xs ys:List D}(j:Nat)(x y:D)(h1:xs[j]? = some x)(h2:ys[j]? = some y):bB (xs.getD j .non) (ys.getD j .non)=bB x y:=by
 simp[List.getD,h1,h2]
abbrev VF (A:Around)(s:Shared)(u1 u2:Value)(b:Bool):Prop:=SeqAt.RcAt A s u1 u2 b/\SeqAt.EqAt A s u1 u2 b/\SeqAt.RcNeAt A s u1 u2 (!b)
theorem cf (p1:aq 0 d1=true)(p2:aq 0 d2=true)(i1:Is X.K H v1 d1)(i2:Is X.K H v2 d2)(r1:aU v1 u1)(r2:aU v2 u2):VF A s u1 u2 (bB d1 d2):=by
 cases i1 with
 |non=>
  cases r1
  cases i2 with
  |non=>
   cases r2
   rw[xS];exact⟨SeqAt.RcAt.none_none,SeqAt.EqAt.same _,SeqAt.RcNeAt.none_none⟩
  |bl b=>
   cases r2
   rw[As];exact⟨SeqAt.RcAt.none_bool _,SeqAt.EqAt.none_bool _,SeqAt.RcNeAt.none_bool _⟩
  |int b=>
   obtain⟨t',rfl⟩:=r2;rw[xT];exact⟨SeqAt.RcAt.none_int _ _,SeqAt.EqAt.none_int _ _,SeqAt.RcNeAt.none_int _ _⟩
  |str b=>
   obtain⟨t',rfl⟩:=r2;rw[xU];exact⟨SeqAt.RcAt.none_str _ _,SeqAt.EqAt.none_str _ _,SeqAt.RcNeAt.none_str _ _⟩
  |ty=>simp[aq]at p2
  |dk=>simp[aq]at p2
  |dt=>simp[aq]at p2
  |tup=>simp[aq]at p2
  |lst=>simp[aq]at p2
 |bl a=>
  cases r1
  cases i2 with
  |non=>
   cases r2
   rw[Au];exact⟨SeqAt.RcAt.bool_none _,SeqAt.EqAt.bool_none _,SeqAt.RcNeAt.bool_none _⟩
  |bl b=>
   cases r2
   rw[Dw];exact⟨SeqAt.RcAt.bool_bool _ _,SeqAt.EqAt.bool_bool _ _,SeqAt.RcNeAt.bool_bool _ _⟩
  |int b=>
   obtain⟨t',rfl⟩:=r2;rw[Av,←Bool.beq_eq_decide_eq];exact⟨SeqAt.RcAt.bool_int _ _ _,SeqAt.EqAt.bool_int _ _ _,SeqAt.RcNeAt.bool_int _ _ _⟩
  |str b=>
   obtain⟨t',rfl⟩:=r2;rw[Aw];exact⟨SeqAt.RcAt.bool_str _ _ _,SeqAt.EqAt.bool_str _ _ _,SeqAt.RcNeAt.bool_str _ _ _⟩
  |ty=>simp[aq]at p2
  |dk=>simp[aq]at p2
  |dt=>simp[aq]at p2
  |tup=>simp[aq]at p2
  |lst=>simp[aq]at p2
 |int a=>
  obtain⟨t,rfl⟩:=r1;cases i2 with
  |non=>
   cases r2
   rw[xV];exact⟨SeqAt.RcAt.int_none _ _,SeqAt.EqAt.int_none _ _,SeqAt.RcNeAt.int_none _ _⟩
  |bl b=>
   cases r2
   rw[Ax,←Bool.beq_eq_decide_eq];exact⟨SeqAt.RcAt.int_bool _ _ _,SeqAt.EqAt.int_bool _ _ _,SeqAt.RcNeAt.int_bool _ _ _⟩
  |int b=>
   obtain⟨t',rfl⟩:=r2;rw[xW,←Bool.beq_eq_decide_eq];exact⟨SeqAt.RcAt.int_int _ _ _ _,SeqAt.EqAt.int_int _ _ _ _,SeqAt.RcNeAt.int_int _ _ _ _⟩
  |str b=>
   obtain⟨t',rfl⟩:=r2;rw[xX];exact⟨SeqAt.RcAt.int_str _ _ _ _,SeqAt.EqAt.int_str _ _ _ _,SeqAt.RcNeAt.int_str _ _ _ _⟩
  |ty=>simp[aq]at p2
  |dk=>simp[aq]at p2
  |dt=>simp[aq]at p2
  |tup=>simp[aq]at p2
  |lst=>simp[aq]at p2
 |str a=>
  obtain⟨t,rfl⟩:=r1;cases i2 with
  |non=>
   cases r2
   rw[xY];exact⟨SeqAt.RcAt.str_none _ _,SeqAt.EqAt.str_none _ _,SeqAt.RcNeAt.str_none _ _⟩
  |bl b=>
   cases r2
   rw[Ay];exact⟨SeqAt.RcAt.str_bool _ _ _,SeqAt.EqAt.str_bool _ _ _,SeqAt.RcNeAt.str_bool _ _ _⟩
  |int b=>
   obtain⟨t',rfl⟩:=r2;rw[xZ];exact⟨SeqAt.RcAt.str_int _ _ _ _,SeqAt.EqAt.str_int _ _ _ _,SeqAt.RcNeAt.str_int _ _ _ _⟩
  |str b=>
   obtain⟨t',rfl⟩:=r2;rw[oB,←Bool.beq_eq_decide_eq];exact⟨SeqAt.RcAt.str_str _ _ _ _,SeqAt.EqAt.str_str _ _ _ _,SeqAt.RcNeAt.str_str _ _ _ _⟩
  |ty=>simp[aq]at p2
  |dk=>simp[aq]at p2
  |dt=>simp[aq]at p2
  |tup=>simp[aq]at p2
  |lst=>simp[aq]at p2
 |ty=>simp[aq]at p1
 |dk=>simp[aq]at p1
 |dt=>simp[aq]at p1
 |tup=>simp[aq]at p1
 |lst=>simp[aq]at p1
theorem L6 (I:Inv X ae σ H s):∀(n:Nat){A:Around}{v1 v2:V}{d1 d2:D}{u1 u2:Value},A.units+n<cLine->aq n d1=true->aq n d2=true->Is X.K H v1 d1->Is X.K H v2 d2->aU v1 u1->aU v2 u2->VF A s u1 u2 (bB d1 d2):=by
 intro n;induction n with
 |zero=>exact λ_ p1 p2 i1 i2 r1 r2=>cf p1 p2 i1 i2 r1 r2
 |succ n ih=>
  intro A v1 v2 d1 d2 u1 u2 hu p1 p2 i1 i2 r1 r2;have ft:A.units<cLine:=by omega
  have Rr:∀ {v1 v2:V}{d1 d2:D}{u1 u2:Value},aq n d1=true->aq n d2=true->Is X.K H v1 d1->Is X.K H v2 d2->aU v1 u1->aU v2 u2->SeqAt.EqAt A.in1 s u1 u2 (bB d1 d2):=λp1 p2 i1 i2 r1 r2=>(ih (A:=A.in1) (by show A.units+1+n<cLine;omega) p1 p2 i1 i2 r1 r2).2.1;cases i1 with
  |tup h1 k1=>
   cases r1
   obtain⟨its,Oz,t1,z1⟩:=I.tuple h1;have jZ:s.heap.IsTuple _ its.toArray:=t1;have q1:=p1;simp only[aq]at q1;cases i2 with
   |tup h2 k2=>
    cases r2
    obtain⟨gE,zX,t2,z2⟩:=I.tuple h2;have o6:s.heap.IsTuple _ gE.toArray:=t2;have q2:=p2;simp only[aq]at q2;rename_i a1 vs ds a2 ws es;have he:=yf (A:=A.in1) (p:=aq n) Rr k1 k2 Oz zX q1 q2;have R0:((List.range (min its.toArray.size gE.toArray.size)).all (λj=>bB (ds.getD j .non) (es.getD j .non)) && its.toArray.size == gE.toArray.size)=bB (.tup ds) (.tup es):=by
     rw[bB,vH,vH,←Oz.length,←zX.length,k1.length,k2.length];by_cases hl:ds.length=es.length
     ·rw[←hl,Nat.min_self,beq_self_eq_true,Bool.and_true];exact jB _ hl λj x y e1 e2=>wx j x y e1 e2
     ·rw[ww hl,beq_eq_false_iff_ne.mpr hl,Bool.and_false]
    have rc:=SeqAt.RcAt.tuples jZ o6 ft he;have rn:=SeqAt.RcNeAt.tuples jZ o6 ft he;rw[R0]at rc rn;refine⟨rc,?_,rn⟩;by_cases ha:a1=a2
    ·subst ha;rw[B6 I (n+1) (.tup h1 k1) (.tup h2 k2) p1];exact SeqAt.EqAt.same _
    ·exact SeqAt.EqAt.of_refs ha rc
   |lst h2 k2=>
    cases r2
    obtain⟨gE,zX,t2,z2⟩:=I.list h2;rw[show bB (.tup _) (.lst _)=false by simp only[bB]];exact⟨SeqAt.RcAt.tuple_list jZ t2.isList ft,SeqAt.EqAt.tuple_list jZ t2.isList ft,SeqAt.RcNeAt.tuple_list jZ t2.isList ft⟩
   |ty=>simp[aq]at p2
   |dk=>simp[aq]at p2
   |dt=>simp[aq]at p2
   |non=>cases r2;simp only[bB];exact⟨SeqAt.RcAt.tuple_none jZ ft,SeqAt.EqAt.tuple_none jZ ft,SeqAt.RcNeAt.tuple_none jZ ft⟩
   |bl=>cases r2;simp only[bB];exact⟨SeqAt.RcAt.tuple_bool _ jZ ft,SeqAt.EqAt.tuple_bool _ jZ ft,SeqAt.RcNeAt.tuple_bool _ jZ ft⟩
   |int=>obtain⟨t,rfl⟩:=r2;simp only[bB];exact⟨SeqAt.RcAt.tuple_int _ _ jZ ft,SeqAt.EqAt.tuple_int _ _ jZ ft,SeqAt.RcNeAt.tuple_int _ _ jZ ft⟩
   |str=>obtain⟨t,rfl⟩:=r2;simp only[bB];exact⟨SeqAt.RcAt.tuple_str _ _ jZ ft,SeqAt.EqAt.tuple_str _ _ jZ ft,SeqAt.RcNeAt.tuple_str _ _ jZ ft⟩
  |lst h1 k1=>
   cases r1
   obtain⟨its,Oz,t1,z1⟩:=I.list h1;have jZ:s.heap.IsList _ its.toArray:=t1.isList;have q1:=p1;simp only[aq]at q1;cases i2 with
   |lst h2 k2=>
    cases r2
    obtain⟨gE,zX,t2,z2⟩:=I.list h2;have o6:s.heap.IsList _ gE.toArray:=t2.isList;have q2:=p2;simp only[aq]at q2;rename_i a1 vs ds a2 ws es;have he:=yf (A:=A.in1) (p:=aq n) Rr k1 k2 Oz zX q1 q2;have both:SeqAt.RcAt A s (.ref a1) (.ref a2) (bB (.lst ds) (.lst es))/\SeqAt.RcNeAt A s (.ref a1) (.ref a2) (!bB (.lst ds) (.lst es)):=by
     by_cases hl:ds.length=es.length
     ·have hs:its.toArray.size=gE.toArray.size:=by rw[vH,vH,←Oz.length,←zX.length,k1.length,k2.length];exact hl
      have R0:(List.range its.toArray.size).all (λj=>bB (ds.getD j .non) (es.getD j .non))=bB (.lst ds) (.lst es):=by
       rw[bB,vH,←Oz.length,k1.length];exact jB _ hl λj x y e1 e2=>wx j x y e1 e2
      have rc:=SeqAt.RcAt.lists jZ o6 hs ft he;have rn:=SeqAt.RcNeAt.lists jZ o6 hs ft he;rw[R0]at rc rn;exact⟨rc,rn⟩
     ·have hs:(its.toArray.size != gE.toArray.size)=true:=by rw[vH,vH,←Oz.length,←zX.length,k1.length,k2.length];exact bne_iff_ne.mpr hl
      rw[bB,ww hl];exact⟨SeqAt.RcAt.lists_lengths jZ o6 hs ft,SeqAt.RcNeAt.lists_lengths jZ o6 hs ft⟩
    refine⟨both.1,?_,both.2⟩;by_cases ha:a1=a2
    ·subst ha;rw[B6 I (n+1) (.lst h1 k1) (.lst h2 k2) p1];exact SeqAt.EqAt.same _
    ·exact SeqAt.EqAt.of_refs ha both.1
   |tup h2 k2=>
    cases r2
    obtain⟨gE,zX,t2,z2⟩:=I.tuple h2;have o6:s.heap.IsTuple _ gE.toArray:=t2;rw[show bB (.lst _) (.tup _)=false by simp only[bB]];exact⟨SeqAt.RcAt.list_tuple jZ o6 ft,SeqAt.EqAt.list_tuple jZ o6 ft,SeqAt.RcNeAt.list_tuple jZ o6 ft⟩
   |ty=>simp[aq]at p2
   |dk=>simp[aq]at p2
   |dt=>simp[aq]at p2
   |non=>cases r2;simp only[bB];exact⟨SeqAt.RcAt.list_none jZ ft,SeqAt.EqAt.list_none jZ ft,SeqAt.RcNeAt.list_none jZ ft⟩
   |bl=>cases r2;simp only[bB];exact⟨SeqAt.RcAt.list_bool _ jZ ft,SeqAt.EqAt.list_bool _ jZ ft,SeqAt.RcNeAt.list_bool _ jZ ft⟩
   |int=>obtain⟨t,rfl⟩:=r2;simp only[bB];exact⟨SeqAt.RcAt.list_int _ _ jZ ft,SeqAt.EqAt.list_int _ _ jZ ft,SeqAt.RcNeAt.list_int _ _ jZ ft⟩
   |str=>obtain⟨t,rfl⟩:=r2;simp only[bB];exact⟨SeqAt.RcAt.list_str _ _ jZ ft,SeqAt.EqAt.list_str _ _ jZ ft,SeqAt.RcNeAt.list_str _ _ jZ ft⟩
  |ty=>simp[aq]at p1
  |dk=>simp[aq]at p1
  |dt=>simp[aq]at p1
  |non=>
   cases i2 with
   |tup h2 k2=>cases r1;cases r2;obtain⟨gE,zX,t2,z2⟩:=I.tuple h2;have o6:s.heap.IsTuple _ gE.toArray:=t2;simp only[bB];exact⟨SeqAt.RcAt.none_tuple o6 ft,SeqAt.EqAt.none_tuple o6 ft,SeqAt.RcNeAt.none_tuple o6 ft⟩
   |lst h2 k2=>cases r1;cases r2;obtain⟨gE,zX,t2,z2⟩:=I.list h2;simp only[bB];exact⟨SeqAt.RcAt.none_list t2.isList ft,SeqAt.EqAt.none_list t2.isList ft,SeqAt.RcNeAt.none_list t2.isList ft⟩
   |ty=>simp[aq]at p2
   |dk=>simp[aq]at p2
   |dt=>simp[aq]at p2
   |non=>exact cf (X:=X) (H:=H) (by simp[aq]) (by simp[aq]) .non .non r1 r2
   |bl x=>exact cf (X:=X) (H:=H) (by simp[aq]) (by simp[aq]) .non (.bl x) r1 r2
   |int x=>exact cf (X:=X) (H:=H) (by simp[aq]) (by simp[aq]) .non (.int x) r1 r2
   |str x=>exact cf (X:=X) (H:=H) (by simp[aq]) (by simp[aq]) .non (.str x) r1 r2
  |bl y=>
   cases i2 with
   |tup h2 k2=>cases r1;cases r2;obtain⟨gE,zX,t2,z2⟩:=I.tuple h2;have o6:s.heap.IsTuple _ gE.toArray:=t2;simp only[bB];exact⟨SeqAt.RcAt.bool_tuple _ o6 ft,SeqAt.EqAt.bool_tuple _ o6 ft,SeqAt.RcNeAt.bool_tuple _ o6 ft⟩
   |lst h2 k2=>cases r1;cases r2;obtain⟨gE,zX,t2,z2⟩:=I.list h2;simp only[bB];exact⟨SeqAt.RcAt.bool_list _ t2.isList ft,SeqAt.EqAt.bool_list _ t2.isList ft,SeqAt.RcNeAt.bool_list _ t2.isList ft⟩
   |ty=>simp[aq]at p2
   |dk=>simp[aq]at p2
   |dt=>simp[aq]at p2
   |non=>exact cf (X:=X) (H:=H) (by simp[aq]) (by simp[aq]) (.bl y) .non r1 r2
   |bl x=>exact cf (X:=X) (H:=H) (by simp[aq]) (by simp[aq]) (.bl y) (.bl x) r1 r2
   |int x=>exact cf (X:=X) (H:=H) (by simp[aq]) (by simp[aq]) (.bl y) (.int x) r1 r2
   |str x=>exact cf (X:=X) (H:=H) (by simp[aq]) (by simp[aq]) (.bl y) (.str x) r1 r2
  |int y=>
   cases i2 with
   |tup h2 k2=>obtain⟨t,rfl⟩:=r1;cases r2;obtain⟨gE,zX,t2,z2⟩:=I.tuple h2;have o6:s.heap.IsTuple _ gE.toArray:=t2;simp only[bB];exact⟨SeqAt.RcAt.int_tuple _ _ o6 ft,SeqAt.EqAt.int_tuple _ _ o6 ft,SeqAt.RcNeAt.int_tuple _ _ o6 ft⟩
   |lst h2 k2=>obtain⟨t,rfl⟩:=r1;cases r2;obtain⟨gE,zX,t2,z2⟩:=I.list h2;simp only[bB];exact⟨SeqAt.RcAt.int_list _ _ t2.isList ft,SeqAt.EqAt.int_list _ _ t2.isList ft,SeqAt.RcNeAt.int_list _ _ t2.isList ft⟩
   |ty=>simp[aq]at p2
   |dk=>simp[aq]at p2
   |dt=>simp[aq]at p2
   |non=>exact cf (X:=X) (H:=H) (by simp[aq]) (by simp[aq]) (.int y) .non r1 r2
   |bl x=>exact cf (X:=X) (H:=H) (by simp[aq]) (by simp[aq]) (.int y) (.bl x) r1 r2
   |int x=>exact cf (X:=X) (H:=H) (by simp[aq]) (by simp[aq]) (.int y) (.int x) r1 r2
   |str x=>exact cf (X:=X) (H:=H) (by simp[aq]) (by simp[aq]) (.int y) (.str x) r1 r2
  |str y=>
   cases i2 with
   |tup h2 k2=>obtain⟨t,rfl⟩:=r1;cases r2;obtain⟨gE,zX,t2,z2⟩:=I.tuple h2;have o6:s.heap.IsTuple _ gE.toArray:=t2;simp only[bB];exact⟨SeqAt.RcAt.str_tuple _ _ o6 ft,SeqAt.EqAt.str_tuple _ _ o6 ft,SeqAt.RcNeAt.str_tuple _ _ o6 ft⟩
   |lst h2 k2=>obtain⟨t,rfl⟩:=r1;cases r2;obtain⟨gE,zX,t2,z2⟩:=I.list h2;simp only[bB];exact⟨SeqAt.RcAt.str_list _ _ t2.isList ft,SeqAt.EqAt.str_list _ _ t2.isList ft,SeqAt.RcNeAt.str_list _ _ t2.isList ft⟩
   |ty=>simp[aq]at p2
   |dk=>simp[aq]at p2
   |dt=>simp[aq]at p2
   |non=>exact cf (X:=X) (H:=H) (by simp[aq]) (by simp[aq]) (.str y) .non r1 r2
   |bl x=>exact cf (X:=X) (H:=H) (by simp[aq]) (by simp[aq]) (.str y) (.bl x) r1 r2
   |int x=>exact cf (X:=X) (H:=H) (by simp[aq]) (by simp[aq]) (.str y) (.int x) r1 r2
   |str x=>exact cf (X:=X) (H:=H) (by simp[aq]) (by simp[aq]) (.str y) (.str x) r1 r2
@[simp] def dz:D->D->OB:=λx y=>if aq 40 x=true/\aq 40 y=true then some (.bl (bB x y),false)else none
@[simp] def oC:D->D->OB:=λx y=>if aq 40 x=true/\aq 40 y=true then some (.bl (!bB x y),false)else none
theorem cG (hu:X.A.units+40<cLine):dI X (compareOp .Eq) (rD X.K dz):=by
 intro ae s σ H x y v u Q I rx ry q;obtain⟨B,dx,dy,d,b,sB,ix,iy,e,q⟩:=q;unfold dz at e;split at e
 ·rename_i hp;cases e
  exact(L6 I 40 hu hp.1 hp.2 (ix.mono sB) (iy.mono sB) rx ry).1 _ _ _ _ ⟨.bl _,H,I,rfl,q.one sB (.bl _)⟩
 ·cases e
theorem yg (hu:X.A.units+40<cLine):dI X (compareOp .NotEq) (rD X.K oC):=by
 intro ae s σ H x y v u Q I rx ry q;obtain⟨B,dx,dy,d,b,sB,ix,iy,e,q⟩:=q;unfold oC at e;split at e
 ·rename_i hp;cases e
  exact(L6 I 40 hu hp.1 hp.2 (ix.mono sB) (iy.mono sB) rx ry).2.2 _ _ _ _ ⟨.bl _,H,I,rfl,q.one sB (.bl _)⟩
 ·cases e
end
section
variable {X:Cx}{a b e:Expr}{pos:Pos}
theorem B7 {K:Frag}{H:Hp}{vs:List V}{ds:List D}{i:Int}{d:D}(h:IsL K H vs ds)(e:lI ds i=some d):∃v,lI vs i=some v/\Is K H v d:=by
 unfold lI at e ⊢;rw[h.length];cases q:zQ ds.length i with
 |none=>rw[q]at e;cases e
 |some j=>rw[q]at e;exact h.get e
@[simp] def bC:D->D->OB
 |.lst ds,.int i=>(lI ds i).map λd=>(d,false)
 |.tup ds,.int i=>(lI ds i).map λd=>(d,false)
 |.str z,.int i=>if z.length<=sizeLine then (lI z.cps.toList i).map λc=>(.str ⟨#[c]⟩,false)else none
 |_,_=>none
theorem TF:HN X (rD X.K bC):=by
 intro value slice ae s σ H x y v u Q I rx ry q hs;obtain⟨B,dx,dy,d,b,sB,ix,iy,e,q⟩:=q;cases ix<;>try (cases e;done)
 all_goals (cases iy<;>try (cases e;done))
 ·simp only[bC]at e;split at e
  ·rename_i hz;obtain⟨c,e1,e2⟩:=oY e;cases e2
   exact Aj value slice ae s σ H _ _ v u Q I rx ry ⟨_,_,c,rfl,rfl,hz,e1,q.one sB (.str _)⟩ hs
  ·cases e
 ·rename_i h hl i;simp only[bC]at e;obtain⟨c,e1,e2⟩:=oY e;cases e2
  obtain⟨w,h1,h2⟩:=B7 hl e1;exact vy value slice ae s σ H _ _ v u Q I rx ry ⟨_,_,_,w,rfl,rfl,bj sB h,h1,q.one sB h2⟩ hs
 ·rename_i h hl i;simp only[bC]at e;obtain⟨c,e1,e2⟩:=oY e;cases e2
  obtain⟨w,h1,h2⟩:=B7 hl e1;exact IC value slice ae s σ H _ _ v u Q I rx ry ⟨_,_,_,w,rfl,rfl,sB.seq h,h1,q.one sB h2⟩ hs
theorem aO (ha:JE X a fa)(hb:JE X b fb)(hs:vx b:=by intro _ _;rfl):JE X (.Subscript a b pos) (f2 bC fa fb):=PE.to (Lf TF ha hb hs) λ_ _ _ h=>IJ h
abbrev FO:=Env->Option (Option Int)
def X2 (K:Frag)(f:FO):TO:=λσ H Q=>∃(B:Hp)(ρ:Env)(o:Option Int),aV B H/\fN K B σ ρ/\f ρ=some o/\∀H',aV H H'->Q o H'
abbrev JO (X:Cx)(e:Option Expr)(f:FO):Prop:=PO X e (X2 X.K f)
@[simp] noncomputable def Fm:FO:=λ_=>some none
@[simp] noncomputable def B8 (f:FE):FO:=λρ=>match f ρ with|some (.int i,_)=>some (some i)|_=>none
theorem Jd:JO X none Fm:=λae s σ H Q I h=>Iy ae s σ H Q I (by
 obtain⟨B,ρ,o,sB,r,e,q⟩:=h;cases e
 exact q H (.refl H))
theorem Je (h:JE X e f):JO X (some e) (B8 f):=λae s σ H Q I q=>Iz h ae s σ H Q I (by
 obtain⟨B,ρ,o,sB,r,e,q⟩:=q;unfold B8 at e;split at e
 ·rename_i i b' ef;cases e
  refine⟨B,ρ,_,_,sB,r,ef,λv H1 N1 x1 i1 _=>?_⟩;cases i1
  exact⟨i,rfl,q H1 x1.hh⟩
 ·cases e)
def sS (ds:List D)(lo hi:Option Int):List D:=(ds.drop (HT.dY ds.length 0 lo)).take (HT.dY ds.length ds.length hi - HT.dY ds.length 0 lo)
theorem wy {K:Frag}{H:Hp}{vs:List V}{ds:List D}{lo hi:Option Int}(h:IsL K H vs ds):IsL K H (sM vs lo hi) (sS ds lo hi):=by
 unfold sM sS;rw[h.length];exact(h.drop _).take _
@[simp] def X3 (fa:FE)(fl fh:FO):FE:=λρ=>(fa ρ).bind λx=>(fl ρ).bind λl=>(fh ρ).bind λh=>match x.1 with
 |.lst ds=>some (.lst (sS ds l h),true)
 |.tup ds=>if HT.dY ds.length 0 l=0/\HT.dY ds.length ds.length h=ds.length then none else some (.tup (sS ds l h),false)
 |_=>none
theorem bQ.to (h:bQ X f r)(k:∀xs H Q,r' xs H Q->r xs H Q):bQ X f r':=λae s σ H xs us Q I rs q=>h ae s σ H xs us Q I rs (k xs H Q q)
variable {es:List Expr}{x:Str}{p:Pos}{id T:String}
theorem b7 (hc:bQ X (.builtin id) (Bz X.K f))(hm:X.mg x=none)(hv:bootBuiltins x=some (.builtin id))(ha:JA X (e::es) fa)(hg:Gl X x:=by rfl)(hn:x ≠ "__name__":=by decide)(tu:(x == ("__debug__" : Str))=false:=by decide)
  (he:starEach (e::es) X.env=(false,eval e X.env)::starEach es X.env:=by rfl) (mf:(backTo pos (starEach es X.env)).any (·.1)=false:=by rfl):JE X (.Call (.Name x p) (e::es) [] pos) (fA f fa):=PE.to (xF hc hg hm hv ha hn tu he mf) λ_ _ _ h=>IK h
theorem fX (hc:bQ X (.type T) (Bz X.K f))(hm:X.mg x=none)(hv:bootBuiltins x=some (.type T))(ha:JA X (e::es) fa)(hg:Gl X x:=by rfl)(hn:x ≠ "__name__":=by decide)(tu:(x == ("__debug__" : Str))=false:=by decide)
  (he:starEach (e::es) X.env=(false,eval e X.env)::starEach es X.env:=by rfl) (mf:(backTo pos (starEach es X.env)).any (·.1)=false:=by rfl):JE X (.Call (.Name x p) (e::es) [] pos) (fA f fa):=PE.to (tI hc hg hm hv ha hn tu he mf) λ_ _ _ h=>IK h
@[simp] noncomputable def gp:List D->OB
 |[.lst ds]=>some (.int ds.length,false)
 |[.tup ds]=>some (.int ds.length,false)
 |[.str z]=>if z.length<=sizeLine then some (.int z.length,false)else none
 |_=>none
theorem iI:bQ X (.builtin "len") (Bz X.K gp):=by
 refine bQ.to (bQ.or wa wb) λxs H Q q=>?_;obtain⟨B,ds,d,b,sB,i,e,q⟩:=q;cases i with
 |nil=>simp[gp]at e
 |cons i1 i2=>
  cases i2 with
  |cons _ _=>cases i1<;>simp[gp]at e
  |nil=>
   cases i1<;>try (simp[gp]at e;done)
   ·simp only[gp]at e;split at e
    ·rename_i hz;cases e
     exact .inr ⟨_,rfl,hz,q.one sB (.int _)⟩
    ·cases e
   ·rename_i h hl;simp only[gp]at e;cases e
    refine .inl ⟨_,_,rfl,.inr (bj sB h),?_⟩;rw[hl.length];exact q.one sB (.int _)
   ·rename_i h hl;simp only[gp]at e;cases e
    refine .inl ⟨_,_,rfl,.inl (sB.seq h),?_⟩;rw[hl.length];exact q.one sB (.int _)
theorem Fo (hm:X.mg x=none)(hv:bootBuiltins x=some (.type n))(hg:Gl X x:=by rfl)(hn:x ≠ "__name__":=by decide)(hd:(x == ("__debug__" : Str))=false:=by decide):JE X (.Name x pos) (fC (.ty n)) :=
 PE.to (Ii hg hm hv (v:=.ty n) rfl hn hd) λ_ _ _ h=>Dv (λ_=>.ty n) h
end
theorem Dx (hr:eN k A):A.units+40<cLine:=by have:=hr.un;omega
section
variable {X:Cx}{a b e:Expr}{pos:Pos}{x:Str}{p:Pos}
theorem yh (h:∃u v,X.mg x=some u/\aU v u/\∀B,Is X.K B v d)(hg:Gl X x:=by rfl)(hd:(x == ("__debug__" : Str))=false:=by decide):JE X (.Name x pos) (fC d):=by
 obtain⟨u,v,hm,r,i⟩:=h;exact IW hg hm r i hd
@[simp] noncomputable def B9:D->D->OB
 |.int i,.int j=>some (.int (i+j),false)
 |.str i,.str j=>if i.length+j.length<=sizeLine then some (.str (i++j),false)else none
 |_,_=>none
theorem Jf:dI X (binaryOp .Add) (rD X.K B9):=by
 refine iX (r:=rD X.K (E2 Nm IZ)) (nL Qw No) λx y H Q q=>?_;obtain⟨B,dx,dy,d,b,sB,ix,iy,e,q⟩:=q;refine⟨B,dx,dy,d,b,sB,ix,iy,?_,q⟩;cases dx<;>try (cases e;done)
 all_goals (cases dy<;>try (cases e;done))
 all_goals (simp[B9]at e;simp[E2,Nm,IZ,zS,OT,e])
@[simp] def gs:D->D->OB:=Nn
theorem cZ:dI X (binaryOp .Mult) (rD X.K gs):=Qx
@[simp] def N6:D->D->OB:=VE
theorem BA:dI X (compareOp .Lt) (rD X.K N6):=TB
@[simp] noncomputable def BB:D->D->OB
 |.int i,.int j=>some (.bl (decide (i<=j)),false)
 |.str i,.str j=>some (.bl (!decide (j.cps.toList<i.cps.toList)),false)
 |_,_=>none
theorem qe:dI X (compareOp .LtE) (rD X.K BB):=by
 refine iX (r:=rD X.K (E2 T8 Sl)) (nL TC Qz) λx y H Q q=>?_;obtain⟨B,dx,dy,d,b,sB,ix,iy,e,q⟩:=q;refine⟨B,dx,dy,d,b,sB,ix,iy,?_,q⟩;cases dx<;>try (cases e;done)
 all_goals (cases dy<;>try (cases e;done))
 all_goals (simp[BB]at e;simp[E2,T8,Sl,zS,OT,e])
@[simp] noncomputable def lK:D->OB
 |.int i=>some (.int (-i),false)
 |_=>none
theorem tR:PU X (unaryOp .USub) (T6 X.K lK):=by
 intro ae s σ H x v Q I rx q;obtain⟨B,dx,d,b,sB,ix,e,q⟩:=q;cases ix<;>try (simp[lK]at e;done)
 simp only[lK]at e;cases e
 exact MJ ae s σ H _ v Q I rx ⟨_,rfl,q.one sB (.int _)⟩
@[simp] noncomputable def Dy:D->D->Option Bool
 |.non,.non=>some true
 |_,.non=>some false
 |.bl a,.bl b=>some (a == b)
 |_,.bl _=>some false
 |_,_=>none
@[simp] def E3:D->D->OB:=λx y=>(Dy x y).map λb=>(.bl b,false)
@[simp] def kq:D->D->OB:=λx y=>(Dy x y).map λb=>(.bl (!b),false)
theorem BC {K:Frag}{B:Hp}{x y:V}{v u:Value}{dx dy:D}{k:Bool}(ix:Is K B x dx)(iy:Is K B y dy)(rx:aU x v)(ry:aU y u)(e:Dy dx dy=some k):plainIs v u=true/\(v == u)=k:=by
 cases iy<;>(first|(cases dx<;>simp[Dy]at e;done)|skip)
 all_goals (cases ix)
 all_goals (first|(obtain⟨t,rfl⟩:=rx)|cases rx)
 all_goals (cases ry)
 all_goals (simp only[Dy,Option.some.injEq]at e;subst e)
 all_goals (first|exact⟨rfl,rfl⟩|skip)
 all_goals (rename_i c d;cases c<;>cases d<;>exact⟨rfl,rfl⟩)
theorem Fp:dI X (compareOp .Is) (rD X.K E3):=by
 intro ae s σ H x y v u Q I rx ry q;obtain⟨B,dx,dy,d,b,sB,ix,iy,e,q⟩:=q;obtain⟨k,ek,e⟩:=oY e;cases e
 obtain⟨h1,h2⟩:=BC ix iy rx ry ek;refine wpAny_is_plain h1 ⟨.bl k,H,I,by rw[h2];rfl,q.one sB (.bl _)⟩
theorem pD:dI X (compareOp .IsNot) (rD X.K kq):=by
 intro ae s σ H x y v u Q I rx ry q;obtain⟨B,dx,dy,d,b,sB,ix,iy,e,q⟩:=q;obtain⟨k,ek,e⟩:=oY e;cases e
 obtain⟨h1,h2⟩:=BC ix iy rx ry ek;refine wpAny_isNot_plain h1 ⟨.bl (!k),H,I,by rw[h2];rfl,q.one sB (.bl _)⟩
@[simp] noncomputable def fR:D->Bool
 |.non=>true|.bl _=>true|.int _=>true|.str _=>true
 |_=>false
noncomputable def HS (x:D)(ds:List D):Bool:=ds.any λy=>bB y x
@[simp] noncomputable def gM:D->Option (List D)
 |.lst ds=>some ds
 |.tup ds=>some ds
 |_=>none
@[simp] def Az:D->D->OB:=λx y=>(gM y).bind λds=>if fR x=true/\ds.all fR=true then some (.bl (HS x ds),false)else none
@[simp] def eS:D->D->OB:=λx y=>(gM y).bind λds=>if fR x=true/\ds.all fR=true then some (.bl (!HS x ds),false)else none
theorem qg {K:Frag}{B:Hp}{v:V}{d:D}(i:Is K B v d)(h:fR d=true):lz v=true:=by
 cases i<;>first|rfl|(simp[fR]at h)
theorem TH {K:Frag}{B:Hp}{v w:V}{d e:D}(i:Is K B v d)(j:Is K B w e)(h:fR d=true)(h':fR e=true):HQ v w=bB d e:=by
 cases i<;>(first|(simp[fR]at h;done)|skip)
 all_goals (cases j<;>(first|(simp[fR]at h';done)|skip))
 all_goals (simp only[HQ,bB,Bool.beq_eq_decide_eq])
theorem yi {K:Frag}{B:Hp}:∀ {vs:List V}{ds:List D},IsL K B vs ds->ds.all fR=true->vs.all lz=true
 |_,_,.nil,_=>rfl
 |_,_,.cons i t,h=>by
  rw[List.all_cons,vC]at h;rw[List.all_cons,qg i h.1,yi t h.2];rfl
theorem Fq {K:Frag}{B:Hp}{v:V}{d:D}(j:Is K B v d)(hd:fR d=true):∀ {vs:List V}{ds:List D},IsL K B vs ds->ds.all fR=true->Sk v vs=HS d ds
 |_,_,.nil,_=>rfl
 |_,_,.cons i t,h=>by
  rw[List.all_cons,vC]at h;have e:=Fq j hd t h.2;unfold Sk HS at *;rw[List.any_cons,List.any_cons,e,TH i j h.1 hd]
theorem yj:dI X (compareOp .In) (rD X.K Az):=by
 refine iX Dl λx y H Q q=>?_;obtain⟨B,dx,dy,d,b,sB,ix,iy,e,q⟩:=q;obtain⟨ds,es,e⟩:=oX e;split at e
 ·rename_i hf;cases e
  cases iy<;>simp only[gM]at es<;>try (cases es;done)
  ·rename_i h hl;cases es
   exact⟨_,_,rfl,.inr (bj sB h),qg ix hf.1,yi hl hf.2,by rw[if_neg (by decide),Fq ix hf.1 hl hf.2];exact q.one sB (.bl _)⟩
  ·rename_i h hl;cases es
   exact⟨_,_,rfl,.inl (sB.seq h),qg ix hf.1,yi hl hf.2,by rw[if_neg (by decide),Fq ix hf.1 hl hf.2];exact q.one sB (.bl _)⟩
 ·cases e
theorem m4:dI X (compareOp .NotIn) (rD X.K eS):=by
 refine iX v0 λx y H Q q=>?_;obtain⟨B,dx,dy,d,b,sB,ix,iy,e,q⟩:=q;obtain⟨ds,es,e⟩:=oX e;split at e
 ·rename_i hf;cases e
  cases iy<;>simp only[gM]at es<;>try (cases es;done)
  ·rename_i h hl;cases es
   exact⟨_,_,rfl,.inr (bj sB h),qg ix hf.1,yi hl hf.2,by rw[if_pos rfl,Fq ix hf.1 hl hf.2];exact q.one sB (.bl _)⟩
  ·rename_i h hl;cases es
   exact⟨_,_,rfl,.inl (sB.seq h),qg ix hf.1,yi hl hf.2,by rw[if_pos rfl,Fq ix hf.1 hl hf.2];exact q.one sB (.bl _)⟩
 ·cases e
theorem iJ:bootBuiltins "len" = some (.builtin "len"):=PySem.boot_len
theorem jC:bootBuiltins "isinstance" = some (.builtin "isinstance"):=by decide +kernel
theorem Q2:bootBuiltins "max" = some (.builtin "max"):=by decide +kernel
theorem Q3:bootBuiltins "min" = some (.builtin "min"):=by decide +kernel
theorem Q4:bootBuiltins "all" = some (.builtin "all"):=by decide +kernel
theorem L7:bootBuiltins "int" = some (.type "int"):=by decide +kernel
theorem N7:bootBuiltins "bool" = some (.type "bool"):=by decide +kernel
theorem qh:bootBuiltins "list" = some (.type "list"):=by decide +kernel
theorem BD:bootBuiltins "tuple" = some (.type "tuple"):=by decide +kernel
@[simp] noncomputable def Jg:List D->OB
 |[.int i,.int j]=>some (.int (if j > i then j else i),false)
 |_=>none
@[simp] noncomputable def Jh:List D->OB
 |[.int i,.int j]=>some (.int (if j<i then j else i),false)
 |_=>none
theorem yk {K:Frag}{B:Hp}{xs:List V}{i j:Int}(h:IsL K B xs [.int i,.int j]):xs=[.int i,.int j]:=by
 cases h with
 |cons h1 h2=>cases h1;cases h2 with|cons h3 h4=>cases h3;cases h4;rfl
theorem Q5 (hc:X.calm=true:=by rfl):bQ X (.builtin "max") (Bz X.K Jg):=by
 refine bQ.to (Dg hc) λxs H Q q=>?_;obtain⟨B,ds,d,b,sB,i,e,q⟩:=q;match ds,e with
 |[.int i',.int j'],e=>simp only[Jg]at e;cases e;exact⟨i',j',yk i,q.one sB (.int _)⟩
theorem Q6 (hc:X.calm=true:=by rfl):bQ X (.builtin "min") (Bz X.K Jh):=by
 refine bQ.to (Dh hc) λxs H Q q=>?_;obtain⟨B,ds,d,b,sB,i,e,q⟩:=q;match ds,e with
 |[.int i',.int j'],e=>simp only[Jh]at e;cases e;exact⟨i',j',yk i,q.one sB (.int _)⟩
@[simp] noncomputable def kx:D->String
 |.non=>"NoneType" | .bl _=>"bool" | .int _=>"int" | .str _=>"str" | .ty _=>"type" | .tup _=>"tuple" | .lst _=>"list" | .dk _ _=>"dict" | .dt _ _=>"dict"
@[simp] noncomputable def Q7:D->Bool
 |.ty _=>true
 |_=>false
@[simp] noncomputable def BE (t n:String):OB :=
 if n = "int" then some (.bl (t == "int" || t == "bool"),false)else if n = "bool" then some (.bl (t == "bool"),false)else if n = "str" then some (.bl (t == "str"),false)
 else if n = "list" then some (.bl (t == "list"),false)else if n = "tuple" then some (.bl (t == "tuple"),false)else none
@[simp] def c9:List D->OB
 |[d,.ty n]=>if Q7 d=true then none else BE (kx d) n
 |_=>none
theorem Ji {ae:List (Addr×Obj)}{σ:St}{H:Hp}{s:Shared}{A:Around}{E:Value->Shared->Prop}{Q:Value->Shared->Prop}{c:Value}{b:Bool}{v:V}{d:D}{u:Value}(I:Inv X ae σ H s)(i:Is X.K H v d)(hd:∀n,d≠.ty n)(rx:aU v u)(e:PySem.W.kitOne X.K (.type (kx d)) c=some b)(h:∀tk,Q (.bool b) { s with toks:=tk }):
  wpAny (model X.prog X.w) A (call (.builtin "isinstance") [u,c]) Q E s:=by
 cases i with
 |non=>exact gY I rx .non e h
 |bl y=>exact gY I rx (.bl y) e h
 |int y=>exact gY I rx (.int y) e h
 |str y=>exact gY I rx (.str y) e h
 |ty n=>exact absurd rfl (hd n)
 |dk h1 _ _=>exact gY I rx (.dK h1) e h
 |dt h1 _ _=>exact gY I rx (.dT h1) e h
 |tup ht _=>
  cases rx
  obtain⟨its,_,⟨o,h1,h2,_⟩,_⟩:=I.tuple ht;exact kia_one PySem.W.kitx_tuple I.kIn ⟨o,h1,h2⟩ e (λz=>nomatch z) h
 |lst hl _=>
  cases rx
  obtain⟨its,_,⟨o,n,h1,h2,_⟩,_⟩:=I.list hl;exact kia_one PySem.W.kitx_list I.kIn ⟨o,h1,h2⟩ e (λz=>nomatch z) h
theorem NA (K:Frag)(d:D)(hd:∀n,d≠.ty n):
  PySem.W.kitOne K (.type (kx d)) (.type "int")=some (kx d == "int" || kx d == "bool")/\PySem.W.kitOne K (.type (kx d)) (.type "bool")=some (kx d == "bool")/\PySem.W.kitOne K (.type (kx d)) (.type "str")=some (kx d == "str") /\
   PySem.W.kitOne K (.type (kx d)) (.type "list")=some (kx d == "list")/\PySem.W.kitOne K (.type (kx d)) (.type "tuple")=some (kx d == "tuple"):=by
 cases d<;>(first|exact absurd rfl (hd _)|skip)
 all_goals (simp only[kx];refine⟨?_,?_,?_,?_,?_⟩<;>kernel_rfl)
theorem jD:bQ X (.builtin "isinstance") (Bz X.K c9):=by
 intro ae s σ H xs us Q I rs q;obtain⟨B,ds,d,b,sB,i,e,q⟩:=q;cases i with
 |nil=>cases e
 |cons i1 i=>cases i with
 |nil=>cases e
 |cons i2 i=>
  cases i2<;>try (cases e;done)
  cases i<;>try (cases e;done)
  rename_i dx n;obtain⟨u1,u2,rfl,r1,r2⟩:=EJ rs;cases r2
  simp only[c9]at e;split at e
  ·cases e
  ·rename_i ht;have hd:∀n,dx≠.ty n:=λn z=>by subst z;exact ht rfl
   obtain⟨k1,k2,k3,k4,k5⟩:=NA X.K dx hd;have iF:∀ {k:Bool},PySem.W.kitOne X.K (.type (kx dx)) (.type n)=some k->Fin X.K B H (.bl k) false Q->wq X (call (.builtin "isinstance") [u1,.type n]) (EP X ae σ Q) X.xe s:=λ{k} hk q=>
    Ji I (i1.mono sB) hd r1 hk λtk=>⟨.bl k,H,I.tok tk,rfl,q.one sB (.bl k)⟩
   unfold BE at e;split at e
   ·rename_i z;subst z;cases e;exact iF k1 q
   split at e
   ·rename_i z;subst z;cases e;exact iF k2 q
   split at e
   ·rename_i z;subst z;cases e;exact iF k3 q
   split at e
   ·rename_i z;subst z;cases e;exact iF k4 q
   split at e
   ·rename_i z;subst z;cases e;exact iF k5 q
   ·cases e
@[simp] noncomputable def VG:D->OB
 |.int i=>some (.int (Builtin.Int.intBits i),false)
 |_=>none
@[simp] def Fs (f:FE):FA:=λρ=>(f ρ).bind λx=>gM x.1
theorem BF (h:JE X e f):JI X tg e (Fs f):=by
 intro ae s σ H R I q;obtain⟨B,ρ,ds,sB,r,e',q⟩:=q;obtain⟨x,ex,es⟩:=oX e';obtain⟨xd,xb⟩:=x;cases xd<;>simp only[gM]at es<;>try (cases es;done)
 ·cases es
  refine MA h ae s σ H R I ⟨B,ρ,_,_,sB,r,ex,λv H1 N1 x1 i1 _=>?_⟩;cases i1 with
  |@tup a vs _ ht hl=>
   refine⟨a,rfl,⟨vs,bj x1.nh ht⟩,q _ H1 N1 x1 λi H2 s2=>⟨λd ed=>?_,λbJ=>⟨vs,bj s2 ht,by rw[hl.length];exact bJ⟩⟩⟩;obtain⟨v,ev,iv⟩:=hl.get ed;refine⟨⟨vs,v,bj s2 ht,ev⟩,λy H3 hy=>?_⟩;obtain⟨rfl,hy⟩:=hy;have:=hy vs (bj s2 ht);rw[ev]at this;cases this;exact⟨N1,.refl s2,iv⟩
 ·cases es
  refine Im h ae s σ H R I ⟨B,ρ,_,_,sB,r,ex,λv H1 N1 x1 i1 _=>?_⟩;cases i1 with
  |@lst a vs _ ht hl=>
   refine⟨a,rfl,⟨vs,x1.nh.seq ht⟩,q _ H1 N1 x1 λi H2 s2=>⟨λd ed=>?_,λbJ=>⟨vs,s2.seq ht,by rw[hl.length];exact bJ⟩⟩⟩;obtain⟨v,ev,iv⟩:=hl.get ed;refine⟨⟨vs,v,s2.seq ht,ev⟩,λy H3 hy=>?_⟩;obtain⟨rfl,hy⟩:=hy;have:=hy vs (s2.seq ht);rw[ev]at this;cases this;exact⟨N1,.refl s2,iv⟩
noncomputable def fY (lo:Int)(n:Nat):List D:=(List.range n).map λ(k:Nat)=>.int (lo+(k:Int))
theorem Ft {K:Frag}{B:Hp}(lo:Int)(n:Nat):nI K (Si lo n) B (fY lo n):=by
 intro i H s;unfold fY;refine⟨λd ed=>?_,λhl=>by rw[vI,List.length_range]at hl;exact hl⟩;rw[vA]at ed;obtain⟨k,ek,ed⟩:=oY ed;have hk:=vV ek;obtain⟨eZ,hk⟩:=hk;rw[List.length_range]at eZ;rw[List.getElem_range]at hk;subst hk;subst ed;refine⟨eZ,λx H' hy=>?_⟩;obtain⟨rfl,rfl⟩:=hy;exact⟨B,.refl s,.int _⟩
@[simp] def gH (f:FE):FA:=λρ=>match f ρ with
 |some (.int j,_)=>if -1000<=j/\j<=1000 then some (fY 0 j.toNat)else none
 |_=>none
theorem ky (hm:X.mg "range" = none)(h:JE X a f)(hg:Gl X "range":=by rfl)(hs:starEach [a] X.env=[(false,eval a X.env)]:=by rfl):PI X tg (.Call (.Name "range" p) [a] [] pos) (Qu X.K (gH f)):=by
 refine PI.to (Dc hg hm (ah h am hs) hs) λσ H R q=>?_;obtain⟨B,ρ,ds,sB,r,e',q⟩:=q;unfold gH at e';split at e'
 ·rename_i j b' ef;split at e'
  ·rename_i hj;cases e'
   refine⟨B,ρ,[.int j],sB,r,by simp[af,ai,ef],λvs H1 N1 x1 i1=>?_⟩;cases i1 with
   |cons i1 i2=>
    cases i1;cases i2
    exact⟨j,rfl,by omega,by omega,q _ H1 N1 x1 λ_=>Ft 0 j.toNat⟩
  ·cases e'
 ·cases e'
theorem Fu (hm:X.mg "range" = none)(h:JE X a f)(hg:Gl X "range":=by rfl)(hs:starEach [a] X.env=[(false,eval a X.env)]:=by rfl):JI X tg (.Call (.Name "range" p) [a] [] pos) (gH f) :=
 PI.to (ky hm h hg hs) λσ H R ⟨B,ρ,ds,sB,r,e',q⟩=>⟨B,ρ,ds,sB,r,e',λJ H' N x h=>q J H' N x (h _)⟩
end
def dH (K:Frag)(x:Str)(st:Stmt):Prop:=∃(f:Addr)(fd:FuncData),Ox K x x st f fd/\nsIn K mainGlobals x=some (some (.ref f))
theorem def_mk {K:Frag}{x:Str}{st:Stmt}{f:Addr}{oc:Value}{od an:Option Addr}{pq:Array (Option Value)}{kV doc pm eG ct:Value}(a:nsIn K mainGlobals x=some (some (.ref f)))
  (l:K.lookup f=some ⟨oc,od,.func (fnOf x x (gk st) (cK st) (aQ st) .none kV doc pm an eG ct),pq⟩) (c:PySem.W.codeIn K eG x=true) (k:PySem.W.keepIn K (.ref f)=true):dH K x st:=⟨f,_,MX l c k,a⟩
section
variable {P:Program}{w:World}{K:Frag}{mg:Str->Option Value}{base:Heap}
theorem dH.fn {x:Str}{st:Stmt}{N ps:List Str}{k:Nat}{g:FS}{h:Heap}(F:dH K x st)(X:K.In h)(G:h.Ns mainGlobals mg)(S:FnScope N ps (aQ st))
  (KG:∀(kV doc pm:Value)(an:Option Addr)(eG ct:Value)(us:List Value),us.length=ps.length->bindArgs (fnOf x x (gk st) (cK st) (aQ st) .none kV doc pm an eG ct) ⟨us,[]⟩=pure (ps.zip us))
  (hb:∀(f:Addr)(eG:Value)(A:Around)(outer:List PySem.Env)(s:Shared)(H:Hp)(E:XK),eN k (A.deeper (envOfC x (aQ st) s.heap.objs.size f eG))->wn (pw zR P w K mg base N x (aQ st) f eG A outer s H E).nox (cK st) g):
  Fn P w K mg base (k+1) x (aM g ps.length (N.length - ps.length)):=by
 obtain⟨f,fd,F1,a⟩:=F;exact⟨f,fd,ps,Q0 F1 S (hb f),mg_of X G a,F1.kp,F1.binds KG⟩
end
def Q8 (H:Hp):Prop:=∀b,H b=none∨(∃o xs,H b=some (.frz o (.lst xs)))∨∃q,H b=some (.tbl q)
noncomputable def qi (kg:List (Addr×Str))(G:Hp):Hp:=λb=>match kg.lookup b with|some q=>some (.tbl q)|none=>G b
theorem gt (e:kg.lookup b=some q):qi kg G b=some (.tbl q):=by unfold qi;rw[e]
theorem jp (e:kg.lookup b=none):qi kg G b=G b:=by unfold qi;rw[e]
theorem Dz {P:Program}{w:World}{K:Frag}{mg mb:Str->Option Value}{k:Nat}{fa a:Addr}{fd:FuncData}{x:Str}{sp:Sp}{s₁:Shared}{vs:List Value}{ns:List Int}(kg:List (Addr×Str))
  (ht:∀b q,kg.lookup b=some q->s₁.heap.get? b=some (PySem.W.tabObj #[])/\isCodeTable s₁.heap b) (Yx:PySem.W.noTabs K=true)
  (KX:K.In s₁.heap) (LY:s₁.heap.Ns mainGlobals mg) (hb:s₁.heap.Ns builtinsNs mb) (Yy:∀x:Str,x ≠ "__name__"->mb x=bootBuiltins x) (U9:s₁.heap.NoLimit)
  (Yz:∃bm ob,mg "__builtins__" = some (.ref bm)/\bm≠builtinsNs/\s₁.heap.get? bm=some ob/\ob.cls=.type "module"/\ob.dict=some builtinsNs/\ob.data=.plain) (hg:s₁.gens=#[])
  (ha:s₁.heap.get? a=some { cls:=.type "list",data:=.seq vs.toArray }) (hi:IntsAre vs ns) (hl:ns.length<=sizeLine) (hr:eN k callerA)
  (F:∀base:Heap,K.In base->base.Ns mainGlobals mg->tq P w K mg base zR k fa fd [x] sp) (zM:∀(s:Shared)(u:Value),BindsTo s fd ⟨[u],[]⟩ [(x,u)])
  (Pk:∀H:Hp,(∀b q,kg.lookup b=some q->H b=some (.tbl q))->gX K H a (ns.map V.int)->sp [.ref a] H (λv _=>v=.bl true) λ_ _ _=>False):
  codeAny (model P w) callerA (.call (.ref fa) ⟨[.ref a],[]⟩) (λr s'=>r=.ok (.ret (.bool true))/\OldK s₁.heap s'.heap/\s'.os=s₁.os/\AllBare s'.gens) s₁:=by
 have rv:=L2.jo hi;have UA:=hi.length;have R1:∀H:Hp,Q8 H->(∀b q,kg.lookup b=some q->H b=some (.tbl q))->gX K H a (ns.map V.int)->lu P w H s₁.heap->(∀b q,H b=some (.tbl q)->s₁.heap.get? b=some (PySem.W.tabObj #[])/\isCodeTable s₁.heap b) ->
   (∀b o u,H b=some (.frz o u)->b=a)->(∀b o u,H b=some (.frz o u)->K.lookup b=none) ->
   codeAny (model P w) callerA (.call (.ref fa) ⟨[.ref a],[]⟩) (λr s'=>r=.ok (.ret (.bool true))/\OldK s₁.heap s'.heap/\s'.os=s₁.os/\AllBare s'.gens) s₁:=by
  intro H hO hT hS hok hA hB hK;have K5:∀ {b:Addr}{o:Obj},s₁.heap.get? b=some o->(o.cls≠.none)->(o.cls≠.type "list")->H b=none:=λ{b o} e d d'=>by
   rcases hO b with q|⟨ob,xs,q⟩|⟨u,q⟩
   ·exact q
   ·have e':b=a:=hB b _ _ q;subst e';rw[ha]at e;cases e;exact absurd rfl d'
   ·rw[(hA b u q).1]at e;cases e;exact absurd rfl d
  have Y0:∀ {b:Addr}{o:Obj}{es:Array DictEntry}{ep:Nat},s₁.heap.get? b=some o->o.data=.dict es ep->H b=none:=λ{b o es ep} e d=>by
   rcases hO b with q|⟨ob,xs,q⟩|⟨u,q⟩
   ·exact q
   ·have e':b=a:=hB b _ _ q;subst e';rw[ha]at e;cases e;cases d
   ·rw[(hA b u q).1]at e;cases e;cases d
  have SF:∀ {b:Addr}{m:Str->Option Value},s₁.heap.Ns b m->(xA s₁.heap H).Ns b m:=λ{b m} ⟨o,es,ep,e,d,r⟩=>⟨o,es,ep,pQ e (Y0 e d),d,r⟩;have Wz:K.In (xA s₁.heap H):=λb o e=>pQ (KX b o e) (by
   rcases hO b with q|⟨ob,xs,q⟩|⟨u,q⟩
   ·exact q
   ·rw[hK b _ _ q]at e;cases e
   ·have z:=(hA b u q).1;rw[KX b o e]at z;cases z
    have:=uR Yx _ (PySem.W.mem_of_lookupK e);simp at this)
  have hM:Mod K mg (xA s₁.heap H):=⟨Wz,SF LY,⟨mb,SF hb,Yy⟩,let ⟨mc,h1,h2⟩:=U9;⟨mc,SF h1,h2⟩,by
   obtain⟨bm,ob,b1,b2,b3,b4,b5⟩:=Yz;exact⟨bm,ob,b1,b2,pQ b3 (K5 b3 (by rw[b4];exact λz=>nomatch z) (by rw[b4];intro z;injection z with z;exact absurd z (by decide))),b4,b5⟩⟩
  have e0:Env0 P w K mg (xA s₁.heap H) callerA [] s₁ H:=⟨rfl,hM,λb o e=>Ig e,Nat.le_of_eq (CZ _ _),trivial,λb hb=>absurd (show b∈([]:List Addr)from hb) (by simp),hok,.of_eq hg⟩;refine codeAny_mono ((F _ Wz (SF LY)).run callerA [] s₁ H ⟨[.ref a],[]⟩ [.ref a] [.ref a] _ _ hr e0 (zM s₁ (.ref a)) (.cons rfl .nil) (Pk H hT hS)) λr s' h=>?_;cases r with
  |error e=>exact False.elim h
  |ok fl=>
   cases fl with
   |next=>exact False.elim h
   |brk=>exact False.elim h
   |cont=>exact False.elim h
   |ret u=>
    obtain⟨v,H',os,bare,un,R3,r',q⟩:=h;have q':v=.bl true:=q;subst q';obtain rfl:u=Value.bool true:=r';have kp:∀b o,H b=none->s₁.heap.get? b=some o->s'.heap.get? b=some o:=λb o n e=>un.keep b o e n (by intro z;exact absurd (show b∈([]:List Addr)from z) (by simp)) (by simp);refine⟨rfl,⟨λb o e=>?_,λb o e=>un.there b o e (by simp)⟩,os,bare⟩;rcases hO b with z|⟨ob,xs,z⟩|⟨u,z⟩
    ·exact .inl (kp b o z e)
    ·have z2:=un.frzs b ob _ z;obtain⟨e1,_⟩:=hok b _ z;obtain⟨e2,_⟩:=R3 b _ z2;rw[e]at e1;cases e1;exact .inl e2
    ·obtain⟨e1,e2⟩:=hA b u z;rw[e]at e1;cases e1;obtain⟨ps,e3,_⟩:=R3 b _ (un.tbls b u z);exact .inr (.inl ⟨e2,rfl,#[],ps,rfl,by simpa using e3⟩)
 have O0:∀q,kg.lookup a≠some q:=λq z=>by
  have:=(ht a q z).1;rw[ha]at this;cases this
 have ta:kg.lookup a=none:=by
  cases z:kg.lookup a with
  |none=>rfl
  |some q=>exact absurd z (O0 q)
 have LZ:∀(G:Hp) b q,kg.lookup b=some q->bN P w (qi kg G) s₁.heap b (.tbl q):=λG b q z=>⟨#[],(ht b q z).1,trivial,λpos cv c=>by cases c⟩;cases hk:K.lookup a with
 |some o=>
  have e:=KX a o hk;rw[ha]at e;cases e
  refine R1 (qi kg λ_=>none) (λb=>?_) (λb q z=>gt z) (.inr ⟨_,vs.toArray,_,hk,rfl,rfl,rfl,by rw[vH,UA];exact hl,by simpa using rv⟩) (λb u z=>?_) (λb q z=>?_) (λb o u z=>?_) λb o u z=>?_
  all_goals cases zt:kg.lookup b with
   |none=>first|exact .inl (jp zt)|(rw[jp zt]at z;cases z)
   |some q'=>first|exact .inr (.inr ⟨q',gt zt⟩)|(rw[gt zt]at z;cases z;done)|(rw[gt zt]at z;cases z;first|exact LZ _ b _ zt|exact ht b _ zt)
 |none=>
  refine R1 (qi kg λb=>if b=a then some (.frz { cls:=.type "list",data:=.seq vs.toArray } (.lst (ns.map V.int)))else none) (λb=>?_) (λb q z=>gt z) (.inl (.inr ⟨{ cls:=.type "list",data:=.seq vs.toArray },by rw[jp ta,if_pos rfl]⟩)) (λb u z=>?_) (λb q z=>?_) (λb o u z=>?_) λb o u z=>?_
  all_goals cases zt:kg.lookup b with
   |some q'=>first|exact .inr (.inr ⟨q',gt zt⟩)|(rw[gt zt]at z;cases z;done)|(rw[gt zt]at z;cases z;first|exact LZ _ b _ zt|exact ht b _ zt)
   |none=>
    first
    |rw[jp zt]at z
    |rw[jp zt]
    by_cases hb:b=a
    ·first
     |rw[if_pos hb]at z
     |rw[if_pos hb]
     first
     |exact .inr (.inl ⟨_,_,rfl⟩)
     | (cases z;subst hb;exact⟨ha,by rw[vI];exact hl,vs,_,rv,ha⟩)
     |exact hb
     | (rw[hb];exact hk)
     |cases z
    ·first
     | (rw[if_neg hb]at z;cases z)
     |exact .inl (if_neg hb)
noncomputable def wz (L:List (Str×Option (Addr×Addr))):List (Addr×Str):=L.filterMap λp=>p.2.map λq=>(q.2,pZ p.1)
structure pP (K:Frag)(L:List (Str×Option (Addr×Addr))):Prop where
 names:L=mq.map λx=>(x,PySem.W.tabIn K x)
 apart:((wz L).map (·.1)).Nodup
 none:PySem.W.noTabs K=true
theorem l8 {α β:Type}[BEq α][LawfulBEq α]:∀ {l:List (α×β)}{a:α}{b:β},(l.map (·.1)).Nodup->(a,b)∈l->l.lookup a=some b
 | (c,d)::l,a,b,nd,h=>by
  rw[List.lookup_cons];rcases vP h with e|h
  ·cases e;simp
  ·have ne:a≠c:=λz=>(List.nodup_cons.mp nd).1 (by rw[←z];exact uS ⟨(a,b),h,rfl⟩);rw[show(a == c)=false by simpa using ne];exact l8 (List.nodup_cons.mp nd).2 h
theorem k6 {α β:Type}[BEq α][LawfulBEq α]:∀ {l:List (α×β)}{a:α}{b:β},l.lookup a=some b->(a,b)∈l
 | (c,d)::l,a,b,h=>by
  rw[List.lookup_cons]at h;cases e:a == c with
  |true=>rw[e]at h;cases h;rw[eq_of_beq e];exact mX
  |false=>rw[e]at h;exact mZ _ (k6 h)
theorem pP.tb {K:Frag}{L:List (Str×Option (Addr×Addr))}(F:pP K L){H:Hp}(h:∀b q,(wz L).lookup b=some q->H b=some (.tbl q)):Tb K H:=λx hx c P e=>by
 refine h P (pZ x) (l8 F.apart ?_);rw[F.names];exact List.mem_filterMap.mpr ⟨(x,PySem.W.tabIn K x),uS ⟨x,hx,rfl⟩,by rw[e];rfl⟩
theorem tab_yes {K:Frag}{x:Str}{f c P:Addr}{oc Y1:Value}{od UB:Option Addr}{pq O1:Array (Option Value)}{fd:FuncData}{vs:Array Value}(e1:nsIn K mainGlobals x=some (some (.ref f)))(e2:K.lookup f=some ⟨oc,od,.func fd,pq⟩)(e3:fd.code=.ref c)
  (e4:K.lookup c=some ⟨Y1,UB,.fields vs,O1⟩) (e5:vs[11]? = some (.ref P)):PySem.W.tabIn K x=some (c,P):=by unfold PySem.W.tabIn;simp only[e1,e2,e3,e4,e5]
theorem tabs_fit {K:Frag}{t0 t1 t2 t3:Option (Addr×Addr)}(h0:PySem.W.tabIn K "in_order" = t0)(h1:PySem.W.tabIn K "has_seal" = t1)(h2:PySem.W.tabIn K "is_first_death" = t2)(h3:PySem.W.tabIn K "bases_by" = t3)
  (ap:((wz [("in_order",t0),("has_seal",t1),("is_first_death",t2),("bases_by",t3)]).map (·.1)).Nodup) (nt:PySem.W.noTabs K=true):pP K [("in_order",t0),("has_seal",t1),("is_first_death",t2),("bases_by",t3)] :=
 ⟨by subst h0;subst h1;subst h2;subst h3;rfl,ap,nt⟩
theorem walkD {l:PySem.W.OpenLaw}{q:Program}{CP:List Str}{XP:(Str->Option Value)->Heap->Prop}{YP:World->Heap->Prop}{d:DefRec}{K:Params->Frag}{k:Nat}{x:Str}{f:List D->OB}{L:List (Str×Option (Addr×Addr))}(hn:l.most=some 63)(Ro:d.params.defaults=[])(hr:eN k callerA)
  (hY:∀(w:World)(h:Heap),YP w h->(K w.params).In h) (hT:∀w:World,pP (K w.params) L) (hD:(L.all λp=>p.2.isNone || ((recsOf q).find? λe=>e.name == p.1).isSome)=true)
  (F:∀(w:World)(mg:Str->Option Value)(fa:Addr)(h:Heap),(K w.params).In h->h.Ns mainGlobals mg->mg d.name=some (.ref fa) ->
   ∃fd:FuncData,(∀(s:Shared)(u:Value),BindsTo s fd ⟨[u],[]⟩ [(x,u)])/\∀base:Heap,(K w.params).In base->base.Ns mainGlobals mg->tq l.prog w (K w.params) mg base zR k fa fd [x] (Jc (K w.params) f))
  (ht:∀ns:List Int,ns.length<=63->∃b,f [.lst (ns.map .int)]=some (.bl true,b)):PySem.W.WalkO q CP XP YP l.row.toRowW d [] (λf vs=>PySem.call f vs):=by
 refine Att.xH hn Ro λw s₀ s₁ mg mb fa o pm cd doc a vs ns G Y ho hd jj hmg Ow Hw bJ hg=>?_;have KX:=hY w _ Y;obtain⟨fd,hb,hF⟩:=F w mg fa _ KX G.T.g hmg;refine Dz (wz L) (λb u e=>?_) (hT w).none KX G.T.g G.T.b G.T.builtins G.T.nolimit G.T.bmain hg Ow Hw (vR bJ (by decide)) hr hF hb λH hH hS=>?_
 ·obtain⟨p,hp,e2⟩:=List.mem_filterMap.mp (k6 e);obtain⟨⟨c,P⟩,e3,e4⟩:=oY e2;cases e4
  have UC:=uR hD p hp;rw[e3]at UC;rw[Option.isNone_some,Bool.false_or]at UC;obtain⟨r,Y2⟩:=uU UC;have R4:PySem.W.tabIn (K w.params) p.1=some (c,P):=by
   rw[(hT w).names]at hp;obtain⟨y,_,rfl⟩:=vO hp;exact e3
  obtain⟨h1,h2⟩:=PySem.W.tab_of G.T KX Y2 R4;exact⟨h2,(h1.tab h2).isCodeTable⟩
 ·obtain⟨b,e⟩:=ht ns bJ;exact⟨H,_,_,b,⟨.refl H,(hT w).tb hH⟩,.cons (.lst hS (.flat rfl)) .nil,e,λv H' N x' i' _=>by cases i';rfl⟩
theorem dH.law {P:Program}{w:World}{K:Frag}{mg:Str->Option Value}{x y:Str}{st:Stmt}{N:List Str}{k:Nat}{g:FS}{h:Heap}{fa:Addr}(F:dH K x st)(X:K.In h)(G:h.Ns mainGlobals mg)(UD:mg x=some (.ref fa))(S:FnScope N [y] (aQ st))
  (KG:∀(kV doc pm:Value)(an:Option Addr)(eG ct:Value)(u:Value),bindArgs (fnOf x x (gk st) (cK st) (aQ st) .none kV doc pm an eG ct) ⟨[u],[]⟩=pure [(y,u)])
  (hb:∀(base:Heap),K.In base->base.Ns mainGlobals mg->∀(f:Addr)(eG:Value)(A:Around)(outer:List PySem.Env)(s:Shared)(H:Hp)(E:XK),eN k (A.deeper (envOfC x (aQ st) s.heap.objs.size f eG))->wn (pw zR P w K mg base N x (aQ st) f eG A outer s H E).nox (cK st) g):
  ∃fd:FuncData,(∀(s:Shared)(u:Value),BindsTo s fd ⟨[u],[]⟩ [(y,u)])/\∀base:Heap,K.In base->base.Ns mainGlobals mg->tq P w K mg base zR (k+1) fa fd [y] (Jc K (aM g 1 (N.length - 1))):=by
 obtain⟨f,fd,F1,a⟩:=F;have e:=UD.symm.trans (mg_of X G a);cases e
 refine⟨fd,λs u=>?_,λbase kb nb=>Q0 F1 S (hb base kb nb _)⟩;obtain⟨oc,od,kV,doc,pm,an,eG,ct,pq,rfl,lk,jj⟩:=F1.ex;exact .of_eq (KG kV doc pm an eG ct u)
section
variable {X:Cx}{a b e:Expr}{pos:Pos}{x:Str}{p:Pos}
@[simp] noncomputable def Jj:D->D->OB
 |.lst xs,.lst ys=>if xs.length+ys.length<=sizeLine then some (.lst (xs++ys),true)else none
 |_,_=>none
theorem NB:dI X (binaryOp .Add) (rD X.K Jj):=by
 intro ae s σ H x y v u Q I rx ry q;obtain⟨B,dx,dy,d,bb,sB,ix,iy,ee,q⟩:=q;cases ix<;>try (cases ee;done)
 all_goals (cases iy<;>try (cases ee;done))
 rename_i l vs ds h hl l' ws es h' Er;simp only[Jj]at ee;split at ee
 ·rename_i hz;cases ee
  cases rx
  cases ry
  obtain⟨its,r1,p1,z1⟩:=I.list (sB.seq h);obtain⟨gE,r2,p2,z2⟩:=I.list (sB.seq h');obtain⟨⟨c1,d1,t1,s1⟩,o1,e1,n1,k1⟩:=p1.isList;obtain⟨⟨c2,d2,t2,s2⟩,o2,e2,n2,k2⟩:=p2.isList;dsimp only at e1 k1 e2 k2;subst e1;subst k1;subst e2;subst k2;have hsz:its.toArray.size+gE.toArray.size<=sizeLine:=by
   rw[vH,vH,←r1.length,←r2.length,hl.length,Er.length];exact hz
  have ea:its.toArray++gE.toArray=(its++gE).toArray:=by simp
  refine concat_meets ⟨_,o1,rfl⟩ ⟨_,o2,rfl⟩ noFill_list_add seq_list_add PySem.F.slot_list_add PySem.F.entry_list_add (PySem.F.args_list_add_2 _ _) (list_addW l l' its.toArray gE.toArray n1 n2 d1 d2 s1 s2 hsz) ⟨o1,o2,?_⟩;rw[ea];have xt:=Ext.laid (o:=.lst (vs++ws)) sB I.fresh;have il:=(hl.append Er).mono xt.bn;exact⟨.ref s.heap.objs.size,_,I.lnew (t':=s.toks) (r1.append r2) (by rw[uZ,hl.length,Er.length];exact hz),rfl,q _ _ _ xt (.lst (gX.of aC) il) λ_=>⟨_,_,_,rfl,rfl,I.fresh,aC,il⟩⟩
 ·cases ee
@[simp] noncomputable def sT:D->D->OB
 |.tup xs,.tup ys=>if xs.length+ys.length<=sizeLine/\xs.isEmpty=false then some (.tup (xs++ys),false)else none
 |_,_=>none
theorem Fv:dI X (binaryOp .Add) (rD X.K sT):=by
 refine iX IA λx y H Q q=>?_;obtain⟨B,dx,dy,d,bb,sB,ix,iy,ee,q⟩:=q;cases ix<;>try (cases ee;done)
 all_goals (cases iy<;>try (cases ee;done))
 rename_i l vs ds h hl l' ws es h' Er;simp only[sT]at ee;split at ee
 ·rename_i hz;cases ee
  have l1:=hl.length;have l2:=Er.length;refine⟨l,l',vs,ws,rfl,rfl,bj sB h,bj sB h',λz=>?_,by omega,λz=>?_,λ_ pp hp=>?_⟩
  ·subst z;cases hl
   simp at hz
  ·subst z;cases Er
   rw[uQ]at q;exact q.one sB (.tup h hl)
  ·have xt:=Ext.laid (o:=.tup (vs++ws)) sB hp;exact q _ _ _ xt (.tup (jl.of aC) ((hl.append Er).mono xt.bn)) (by simp)
 ·cases ee
@[simp] noncomputable def Fw:D->D->OB
 |.bl i,.int j=>some (.int ((if i=true then 1 else 0)+j),false)
 |.int i,.bl j=>some (.int (i+b2i j),false)
 |_,_=>none
theorem NC:dI X (binaryOp .Add) (rD X.K Fw):=by
 intro ae s σ H x y v u Q I rx ry q;obtain⟨B,dx,dy,d,bb,sB,ix,iy,ee,q⟩:=q;cases ix<;>try (cases ee;done)
 all_goals (cases iy<;>try (cases ee;done))
 ·simp only[Fw]at ee;cases ee
  cases rx
  obtain⟨t,rfl⟩:=ry;exact IntBool.add_bool_int ⟨.int _,H,I.tok _,⟨_,rfl⟩,q.one sB (.int _)⟩
 ·simp only[Fw]at ee;cases ee
  exact Df ae s σ H _ _ v u Q I rx ry ⟨_,_,rfl,rfl,q.one sB (.int _)⟩
@[simp] noncomputable def bY:D->D->OB
 |.int i,.int j=>some (.int (i+j),false)
 |.str i,.str j=>if i.length+j.length<=sizeLine then some (.str (i++j),false)else none
 |.lst xs,.lst ys=>if xs.length+ys.length<=sizeLine then some (.lst (xs++ys),true)else none
 |.tup xs,.tup ys=>if xs.length+ys.length<=sizeLine/\xs.isEmpty=false then some (.tup (xs++ys),false)else none
 |.bl i,.int j=>some (.int ((if i=true then 1 else 0)+j),false)
 |.int i,.bl j=>some (.int (i+b2i j),false)
 |_,_=>none
theorem br:dI X (binaryOp .Add) (rD X.K bY):=by
 refine iX (r:=rD X.K (E2 B9 (E2 Jj (E2 sT Fw)))) (nL Jf (nL NB (nL Fv NC))) λx y H Q q=>?_;obtain⟨B,dx,dy,d,bb,sB,ix,iy,ee,q⟩:=q;refine⟨B,dx,dy,d,bb,sB,ix,iy,?_,q⟩;cases dx<;>try (cases ee;done)
 all_goals (cases dy<;>try (cases ee;done))
 all_goals (simp[bY]at ee;simp[E2,B9,Jj,sT,Fw,ee])
@[simp] noncomputable def TJ:D->Option Bool
 |.bl b=>some b
 |_=>none
def qj:List D->Option (List Bool)
 |[]=>some []
 |d::ds=>(TJ d).bind λb=>(qj ds).map (b :: ·)
@[simp] theorem Q9:qj []=some []:=rfl
@[simp] theorem D0 (d:D)(ds:List D):qj (d::ds)=(TJ d).bind λb=>(qj ds).map (b :: ·):=rfl
theorem w4 {K:Frag}{B:Hp}:∀ {vs:List V}{ds:List D}{bs:List Bool}{its:List Value},L2.aS vs its->IsL K B vs ds->qj ds=some bs->its=bs.map Value.bool
 |_,_,_,_,.nil,.nil,e=>by cases e;rfl
 |_,_,_,_,.cons r rr,.cons i ii,e=>by
  rw[D0]at e;obtain⟨b,e1,e⟩:=oX e;obtain⟨bs,e2,e⟩:=oY e;subst e;cases i<;>simp only[TJ]at e1<;>try (cases e1;done)
  cases e1
  cases r
  rw[w4 rr ii e2];rfl
@[simp] def ND:List D->OB
 |[.lst ds]=>(qj ds).map λbs=>(.bl (bs.all id),false)
 |_=>none
@[simp] def Fx:List D->OB
 |[.lst ds]=>(qj ds).map λbs=>(.bl (bs.any id),false)
 |_=>none
theorem QA (hc:X.calm=true:=by rfl):bQ X (.builtin "all") (Bz X.K ND):=by
 intro ae s σ H xs us Q I rs q;obtain⟨B,ds,d,bb,sB,i,ee,q⟩:=q;match ds,i,ee with
 |[.lst es],.cons i1 .nil,ee=>
  obtain⟨bs,eb,ee⟩:=oY ee;cases ee
  obtain⟨u1,rfl,r1⟩:=gK rs;cases i1 with
  |@lst l vs _ h hl=>
   cases r1
   obtain⟨its,rv,p1,z1⟩:=I.list (sB.seq h);have ei:=w4 rv hl eb;have eZ:l<s.heap.objs.size:=by obtain⟨_,e0,_⟩:=p1.isList;exact vX e0
   refine call_all_walk (wpAny_pyIter_list p1.isList ⟨_,_,_,_,_,_,λj=>(bs[j]?).getD true,rfl,Walks.list (A:=X.A.in1) (I.ok.hd hc) s.heap.objs.size l (vS eZ) its.toArray,⟨⟨_,vY _ rfl,rfl,rfl⟩,p1.isList.push _⟩,λj v s' Q' E' hP hQ=>?_,λh' tk hk=>?_⟩)
   ·have R5:its[j]? = some v:=by simpa using hP
    rw[ei,vA]at R5;obtain⟨c,e1,e2⟩:=oY R5;subst e2;dsimp only at hQ;rw[e1]at hQ;exact wpAny_truthy_bool hQ
   ·have ea:((List.range its.toArray.size).all λj=>(bs[j]?).getD true)=bs.all id:=by
     rw[vH,ei,vI];exact LSm.range_all bs
    rw[ea];refine⟨.bl _,H,I.kept λc o e0=>?_,rfl,q.one sB (.bl _)⟩;exact hk c o (λhm=>by rw[uT hm]at e0;exact Nat.lt_irrefl _ (vX e0)) (vZ _ e0)
theorem L8 (hc:X.calm=true:=by rfl):bQ X (.builtin "any") (Bz X.K Fx):=by
 intro ae s σ H xs us Q I rs q;obtain⟨B,ds,d,bb,sB,i,ee,q⟩:=q;match ds,i,ee with
 |[.lst es],.cons i1 .nil,ee=>
  obtain⟨bs,eb,ee⟩:=oY ee;cases ee
  obtain⟨u1,rfl,r1⟩:=gK rs;cases i1 with
  |@lst l vs _ h hl=>
   cases r1
   obtain⟨its,rv,p1,z1⟩:=I.list (sB.seq h);have ei:=w4 rv hl eb;have eZ:l<s.heap.objs.size:=by obtain⟨_,e0,_⟩:=p1.isList;exact vX e0
   refine call_any_walk (wpAny_pyIter_list p1.isList ⟨_,_,_,_,_,_,λj=>(bs[j]?).getD false,rfl,Walks.list (A:=X.A.in1) (I.ok.hd hc) s.heap.objs.size l (vS eZ) its.toArray,⟨⟨_,vY _ rfl,rfl,rfl⟩,p1.isList.push _⟩,λj v s' Q' E' hP hQ=>?_,λh' tk hk=>?_⟩)
   ·have R5:its[j]? = some v:=by simpa using hP
    rw[ei,vA]at R5;obtain⟨c,e1,e2⟩:=oY R5;subst e2;dsimp only at hQ;rw[e1]at hQ;exact wpAny_truthy_bool hQ
   ·have ea:((List.range its.toArray.size).any λj=>(bs[j]?).getD false)=bs.any id:=by
     rw[vH,ei,vI];exact LSm.range_any bs
    rw[ea];refine⟨.bl _,H,I.kept λc o e0=>?_,rfl,q.one sB (.bl _)⟩;exact hk c o (λhm=>by rw[uT hm]at e0;exact Nat.lt_irrefl _ (vX e0)) (vZ _ e0)
theorem L9:bootBuiltins "any" = some (.builtin "any"):=by decide +kernel
end
noncomputable def So (z:Str):It:=⟨λi _=>i<z.cps.size,λi H v H'=>H'=H/\∃c,z.cps[i]? = some c/\v=.str ⟨#[c]⟩,λi _=>z.cps.size<=i⟩
theorem ym {P:Program}{w:World}{K:Frag}{tg:Expr}(z:Str)(t:Tok)(it:Addr):Turn P w K tg (So z) [it] it (λi h=>h.IsStrIter it "str_ascii_iterator" z t i) where
 mem:=List.mem_singleton.mpr rfl
 obj:=λi h st b hb=>by
  have eb:=uT hb;subst eb;obtain⟨o,e1,_,d1⟩:=st;exact⟨o,e1,λv zz=>by rw[d1]at zz;cases zz⟩
 keep:=λi h h' st k=>let ⟨o,e1,r⟩:=st;⟨o,k it (List.mem_singleton.mpr rfl) o e1,r⟩
 item:=by
  intro X hP hw hK hc i ae s σ H E I hf st hg;subst hP hw hK;have KH:i<z.cps.size:=hg;obtain⟨f0,f1,f2,f3,f4,f5⟩:=hf it (List.mem_singleton.mpr rfl);refine wpAny_pyNext_ascii_item st (c:=z.cps[i]) (by simp[KH]) λh' kU sb=>?_;obtain⟨o,e1,c1,d1⟩:=id kU;exact⟨_,rfl,pR (s:={ s with heap:=h',toks:=s.toks+1 }) e1 c1 d1 (by decide) ⟨.str ⟨#[z.cps[i]]⟩,H,I.turned (λb o hb e2=>(sb.2 b hb).trans e2) f0 f1 f3 f4 f5,⟨_,rfl⟩,⟨rfl,_,by simp[KH],rfl⟩,kU,λb hb=>(hf b hb).1⟩⟩
 done:=by
  intro X hP hw hK hc i ae s σ H E I hf st hg;subst hP hw hK;have KH:z.cps.size<=i:=hg;obtain⟨f0,f1,f2,f3,f4,f5⟩:=hf it (List.mem_singleton.mpr rfl);exact wpAny_pyNext_ascii_end (I.ok.hd hc) st (by simp;omega) λh' eb=>⟨rfl,I.turned (t':=s.toks) (λb o hb e2=>eb b o hb e2) f0 f1 f3 f4 f5⟩
 self:=λ_ _ _ _ _ st h=>wpAny_pyIter_striter_ascii st h
theorem yn {P:Program}{w:World}{K:Frag}{tg:Expr}(z:Str)(t:Tok)(it:Addr):Turn P w K tg (So z) [it] it (λi h=>h.IsStrIter it "str_iterator" z t i) where
 mem:=List.mem_singleton.mpr rfl
 obj:=λi h st b hb=>by
  have eb:=uT hb;subst eb;obtain⟨o,e1,_,d1⟩:=st;exact⟨o,e1,λv zz=>by rw[d1]at zz;cases zz⟩
 keep:=λi h h' st k=>let ⟨o,e1,r⟩:=st;⟨o,k it (List.mem_singleton.mpr rfl) o e1,r⟩
 item:=by
  intro X hP hw hK hc i ae s σ H E I hf st hg;subst hP hw hK;have KH:i<z.cps.size:=hg;obtain⟨f0,f1,f2,f3,f4,f5⟩:=hf it (List.mem_singleton.mpr rfl);refine wpAny_pyNext_wide_item st (c:=z.cps[i]) (by simp[KH]) λh' kU sb=>?_;obtain⟨o,e1,c1,d1⟩:=id kU;exact⟨_,rfl,pR (s:={ s with heap:=h',toks:=s.toks+1 }) e1 c1 d1 (by decide) ⟨.str ⟨#[z.cps[i]]⟩,H,I.turned (λb o hb e2=>(sb.2 b hb).trans e2) f0 f1 f3 f4 f5,⟨_,rfl⟩,⟨rfl,_,by simp[KH],rfl⟩,kU,λb hb=>(hf b hb).1⟩⟩
 done:=by
  intro X hP hw hK hc i ae s σ H E I hf st hg;subst hP hw hK;have KH:z.cps.size<=i:=hg;obtain⟨f0,f1,f2,f3,f4,f5⟩:=hf it (List.mem_singleton.mpr rfl);exact wpAny_pyNext_wide_end (I.ok.hd hc) st (by simp;omega) λh' eb=>⟨rfl,I.turned (t':=s.toks) (λb o hb e2=>eb b o hb e2) f0 f1 f3 f4 f5⟩
 self:=λ_ _ _ _ _ st h=>wpAny_pyIter_striter_wide st h
section
variable {X:Cx}{a b e:Expr}{pos:Pos}{x:Str}{p:Pos}{tg:Expr}
theorem Fy {l:Expr}{tl:TE}(hl:PE X l tl):PI X tg l (λσ H R=>tl σ H λx H1=>∃z,x=.str z/\R (So z) H1):=by
 intro ae s σ H R I h;refine cu (hl ae s σ H _ I h) λv s1 ⟨x,H1,I1,r1,q1⟩=>?_;obtain⟨z,rfl,q⟩:=q1;obtain⟨t,rfl⟩:=r1;have fp:∀b∈[s1.heap.objs.size],nE X ae H1 b:=λb hb=>by
  rw[uT hb];exact I1.fpOk (vT _) (I1.hok.fresh (vT _))
 cases ha:z.cps.all (· < 128) with
 |true=>exact wpAny_pyIter_ascii ha ⟨_,[s1.heap.objs.size],_,_,H1,rfl,I1.kept (t':=s1.toks) λb o e=>vZ _ e,ym z t _,⟨_,vY _ rfl,rfl,rfl⟩,fp,q⟩
 |false=>exact wpAny_pyIter_wide ha ⟨_,[s1.heap.objs.size],_,_,H1,rfl,I1.kept (t':=s1.toks) λb o e=>vZ _ e,yn z t _,⟨_,vY _ rfl,rfl,rfl⟩,fp,q⟩
noncomputable def BG (z:Str):List D:=z.cps.toList.map λc=>.str ⟨#[c]⟩
theorem Fz {K:Frag}{B:Hp}(z:Str):nI K (So z) B (BG z):=by
 intro i H s;refine⟨λd ed=>?_,λhl=>by unfold BG at hl;show z.cps.size<=i;simpa using hl⟩;unfold BG at ed;rw[vA]at ed;obtain⟨c,ec,rfl⟩:=oY ed;have W1:z.cps[i]? = some c:=by simpa using ec
 refine⟨(Array.getElem?_eq_some_iff.mp W1).1,λv H' hy=>?_⟩;obtain⟨rfl,c',e1,rfl⟩:=hy;rw[W1]at e1;cases e1;exact⟨B,.refl s,.str _⟩
@[simp] def NE:D->Option (List D)
 |.lst ds=>some ds
 |.tup ds=>some ds
 |.str z=>some (BG z)
 |_=>none
@[simp] def cw (f:FE):FA:=λρ=>(f ρ).bind λx=>NE x.1
theorem cB (h:JE X e f):JI X tg e (cw f):=by
 intro ae s σ H R I q;obtain⟨B,ρ,ds,sB,r,e',q⟩:=q;obtain⟨xx,ex,es⟩:=oX e';obtain⟨xd,xb⟩:=xx;cases xd with
 |lst l=>exact BF h ae s σ H R I ⟨B,ρ,ds,sB,r,by unfold Fs;rw[ex];exact es,q⟩
 |tup l=>exact BF h ae s σ H R I ⟨B,ρ,ds,sB,r,by unfold Fs;rw[ex];exact es,q⟩
 |str z=>
  cases es
  refine Fy h ae s σ H R I ⟨B,ρ,_,_,sB,r,ex,λv H1 N1 x1 i1 _=>?_⟩;cases i1
  exact⟨z,rfl,q _ H1 N1 x1 (Fz z)⟩
 |_=>cases es
theorem Jk:E1 X (λx lo hi H Q=>∃z,x=.str z/\z.length<=sizeLine/\Q (.str (Txt.slice z lo hi)) H):=by
 intro ae s σ H x v vl vu lo hi sl Q I rx hs pl pu h;obtain⟨z,rfl,hz,q⟩:=h;obtain⟨t,rfl⟩:=rx;have iF:∀lo hi,Q (.str (Txt.slice z lo hi)) H->(Txt.slice z lo hi).length<=sizeLine/\∀t' k,EP X ae σ Q (.str (Txt.slice z lo hi) t') { s with toks:=k }:=λlo hi q=>
  ⟨vR (Txt.slice_le z _ _) hz,λt' k=>⟨.str _,H,I.tok k,⟨t',rfl⟩,q⟩⟩
 refine⟨"str",_,PySem.F.slot_str_getitem.lookup,typeIs_str _ _ _,?_⟩;cases pl with
 |none=>
  cases pu with
  |none=>exact wpAny_getItem_str_slice (l:=none) (u:=none) (st:=none) hs rfl (post_val_or_str (iF _ _ q))
  |int j tj=>exact wpAny_getItem_str_slice (l:=none) (u:=some (j,tj)) (st:=none) hs rfl (post_val_or_str (iF _ _ q))
 |int i ti=>
  cases pu with
  |none=>exact wpAny_getItem_str_slice (l:=some (i,ti)) (u:=none) (st:=none) hs rfl (post_val_or_str (iF _ _ q))
  |int j tj=>exact wpAny_getItem_str_slice (l:=some (i,ti)) (u:=some (j,tj)) (st:=none) hs rfl (post_val_or_str (iF _ _ q))
theorem D1 {A:Around}{E:Value->Shared->Prop}{s:Shared}{prog:Program}{w:World}{t sl:Addr}{items:Array Value}{vl vu:Value}{lo hi:Option Int}{Q:Value->Shared->Prop}(ht:IsTup s.heap t items)(hs:s.heap.IsSliceOf sl vl vu .none)(pl:IsPart vl lo)(pu:IsPart vu hi)
  (h0:HT.dY items.size 0 lo=0) (h1:HT.dY items.size items.size hi=items.size) (h:Q (.ref t) s):wpAny (model prog w) A (getItem (.ref t) (.ref sl)) Q E s:=by
 obtain⟨os,K7,xy,Ou⟩:=id hs
 have hT:s.TypeIs (.ref sl) "slice":=⟨os,K7,xy⟩
 unfold getItem
 try with_reducible refine wpAny_holding ?_
 first|refine wX (wY ?_)|skip
 refine wX (wpAny_sequenceKey ht.typeIs (by decide) ?_)
 refine wX (wpAny_callSpecial?_slot (name:=Str.ofString "__getitem__") ht.typeIs PyProof.Rows.slot_tuple_getitem (wpAny_call_entry PyProof.Rows.slot_tuple_getitem ht.typeIs entry_tuple_getitem ?_ (args_tuple_getitem _ _)))
 show wpAny _ _ (Builtin.Tuple.tupleItemsOf (.ref t)>>=_) _ _ s
 refine wX (tupleItemsOf_ ht ?_)
 refine wX (wpAny_typeOf hT ?_)
 rw[if_pos (by decide)]
 refine wX (HT.jn hs pl pu ?_)
 have Y3:(((HT.dY items.size 0 lo:Nat):Int) == 0 && (1:Int) == 1 && (HT.dY items.size items.size hi - HT.dY items.size 0 lo) == items.size)=true:=by
  rw[h0,h1];simp
 show wpAny _ _ (if(((HT.dY items.size 0 lo:Nat):Int) == 0 && (1:Int) == 1 && (HT.dY items.size items.size hi - HT.dY items.size 0 lo) == items.size)=true then _ else _) _ _ s
 rw[if_pos Y3]
 refine wX ?_
 unfold Builtin.Tuple.tupleIsExact
 refine wX (wpAny_typeOf ht.typeIs (wY ?_))
 show wpAny _ _ (if((Value.type "tuple") == Value.type "tuple")=true then _ else _) _ _ s
 rw[if_pos (by decide)]
 refine wX (wpAny_rule ?_)
 exact wY ⟨_,rfl,wY h⟩
theorem Jl:E1 X (λx lo hi H Q=>∃a xs,x=.ref a/\jl X.K H a xs/\HT.dY xs.length 0 lo=0/\HT.dY xs.length xs.length hi=xs.length/\Q (.ref a) H):=by
 intro ae s σ H x v vl vu lo hi sl Q I rx hs pl pu h;obtain⟨a,xs,rfl,hx,h0,h1,q⟩:=h;cases rx
 obtain⟨its,r,ht,hz⟩:=I.tuple hx;have bJ:its.toArray.size=xs.length:=by rw[vH];exact r.length.symm
 refine⟨"tuple",_,PyProof.Rows.slot_tuple_getitem.lookup,ht.typeIs,?_⟩;exact D1 ht hs pl pu (by rw[bJ];exact h0) (by rw[bJ];exact h1) ⟨.ref a,H,I,rfl,q⟩
@[simp] def Sq (fa:FE)(fl fh:FO):FE:=λρ=>(fa ρ).bind λx=>(fl ρ).bind λl=>(fh ρ).bind λh=>match x.1 with
 |.lst ds=>some (.lst (sS ds l h),true)
 |.tup ds=>some (.tup (sS ds l h),false)
 |.str z=>if z.length<=sizeLine then some (.str (Txt.slice z l h),false)else none
 |_=>none
theorem A0 {ds:List D}{lo hi:Option Int}(h0:HT.dY ds.length 0 lo=0)(h1:HT.dY ds.length ds.length hi=ds.length):sS ds lo hi=ds:=by
 unfold sS;rw[h0,h1];simp
theorem F0 {lo hi:Option Expr}{p2:Pos}{fa:FE}{fl fh:FO}(ha:JE X e fa)(hl:JO X lo fl)(hh:JO X hi fh):JE X (.Subscript e (.Slice lo hi none p2) pos) (Sq fa fl fh):=by
 refine PE.to (EM (E1.or (E1.or ID MQ) (E1.or Jk Jl)) ha hl hh) λσ H Q q=>?_;obtain⟨B,ρ,d,b,sB,r,e,q⟩:=q;obtain⟨x,ex,e⟩:=oX e;obtain⟨l,el,e⟩:=oX e;obtain⟨h,eh,e⟩:=oX e;refine⟨B,ρ,x.1,x.2,sB,r,ex,λv H1 N1 x1 i1 _=>⟨N1,ρ,l,x1.nh,r.mono x1.bn,el,λH2 h2=>⟨N1,ρ,h,x1.nh.trans h2,r.mono x1.bn,eh,λH3 h3=>?_⟩⟩⟩;have s3:aV N1 H3:=x1.nh.trans (h2.trans h3);have q3:=q.into (x1.trans (.grow x1.nh (h2.trans h3)));obtain⟨xd,xb⟩:=x;dsimp only at e i1;cases i1 with
 |@tup a' vs ds hs hv=>
  cases e
  by_cases hw:HT.dY ds.length 0 l=0/\HT.dY ds.length ds.length h=ds.length
  ·rw[A0 hw.1 hw.2]at q3;exact .inr (.inr ⟨a',vs,rfl,bj s3 hs,by rw[hv.length];exact hw.1,by rw[hv.length];exact hw.2,q3.one s3 (.tup hs hv)⟩)
  ·refine .inl (.inr ⟨a',vs,rfl,bj s3 hs,by rw[hv.length];exact hw,λp hp=>?_⟩);have x4:=Ext.laid (o:=.tup (sM vs l h)) s3 hp;exact q3 _ _ _ x4 (.tup (jl.of aC) ((wy hv).mono x4.bn)) (by simp)
 |@lst a' vs ds hs hv=>
  cases e
  refine .inl (.inl ⟨a',vs,rfl,s3.seq hs,λp hp=>?_⟩);have x4:=Ext.laid (o:=.lst (sM vs l h)) s3 hp;exact q3 _ _ _ x4 (.lst (gX.of aC) ((wy hv).mono x4.bn)) λ_=>⟨p,_,_,rfl,rfl,hp,aC,(wy hv).mono x4.bn⟩
 |str z=>
  dsimp only at e;split at e
  ·rename_i hz;cases e
   exact .inr (.inl ⟨z,rfl,hz,q3.one s3 (.str _)⟩)
  ·cases e
 |_=>cases e
noncomputable def w6:Value->D->Bool
 |.none,.non=>true
 |.bool a,.bl b=>a == b
 |.int i _,.int j=>decide (i=j)
 |.str i _,.str j=>decide (i=j)
 |_,_=>false
def jE:List Value->List D->Bool
 |[],[]=>true
 |u::us,d::ds=>w6 u d && jE us ds
 |_,_=>false
theorem kY {K:Frag}{B:Hp}:∀ {u:Value}{d:D},w6 u d=true->∃v,aU v u/\Is K B v d
 |.none,.non,_=>⟨.non,rfl,.non⟩
 |.bool a,.bl b,h=>by
  have:a=b:=eq_of_beq h;subst this;exact⟨.bl a,rfl,.bl a⟩
 |.int i t,.int j,h=>by
  have:i=j:=of_decide_eq_true h;subst this;exact⟨.int i,⟨t,rfl⟩,.int i⟩
 |.str i t,.str j,h=>by
  have:i=j:=of_decide_eq_true h;subst this;exact⟨.str i,⟨t,rfl⟩,.str i⟩
theorem jF {K:Frag}:∀ {us:List Value}{ds:List D},jE us ds=true->∃vs,L2.aS vs us/\∀B,IsL K B vs ds
 |[],[],_=>⟨[],.nil,λ_=>.nil⟩
 |u::us,d::ds,h=>by
  rw[jE,vC]at h;obtain⟨vs,r,i⟩:=jF (K:=K) h.2;obtain⟨v,r1,_⟩:=kY (K:=K) (B:=λ_=>none) h.1;refine⟨v::vs,.cons r1 r,λB=>?_⟩;obtain⟨v',HA,i'⟩:=kY (K:=K) (B:=B) h.1;have:v'=v:=by have z1:=r1.abs;rw[HA.abs]at z1;exact vK z1
  subst this;exact .cons i' (i B)
theorem const_tup {K:Frag}{y:Str}{a:Addr}{od:Option Addr}{its:Array Value}{n:Nat}{pq:Array (Option Value)}{ds:List D}(e:nsIn K mainGlobals y=some (some (.ref a)))
  (l:K.lookup a=some ⟨.type "tuple",od,.seq its n,pq⟩) (h:(decide (its.size<=1000) && jE its.toList ds)=true):∃u v,nsIn K mainGlobals y=some (some u)/\aU v u/\∀B,Is K B v (.tup ds):=by
 rw[vC]at h;obtain⟨vs,r,i⟩:=jF (K:=K) h.2;exact⟨_,.ref a,e,rfl,λB=>.tup (.inr ⟨_,its,n,l,rfl,rfl,Nat.le_of_lt (Nat.lt_of_le_of_lt (of_decide_eq_true h.1) (by decide)),r⟩) (i B)⟩
end
section
variable {X:Cx}{a b o e:Expr}{pos:Pos}{x:Str}{p:Pos}{tg:Expr}
theorem NF {name:Str}{id:String}{cV cr:Pos}{op:D->D->OB}{fo fe:FE}(slot:Slot "str" name id)(HZ:typeOf (.builtin id)=pure (.type "method_descriptor"))
  (hm:HP X id (λx xs H Q=>∃y,xs=[y]/\rD X.K op x y H Q)) (HB:∀dx dy r,op dx dy=some r->∃z,dx=.str z) (ho:JE X o fo) (he:JE X e fe)
  (fL:attributeBase o name X.env (eval o X.env)=eval o X.env:=by rfl)
  (Bj:((backTo cr (starEach [e] X.env)).all (λx=>!x.1) && (backToKw cr (keywordEach [] X.env)).all (λx=>x.1.isSome)
   && decide ([e].length+([]:List Keyword).length+(if([]:List Keyword).isEmpty then 0 else 1)<30))=true:=by rfl)
  (fM:(cV.endLine == cr.line)=true:=by rfl) (hs:starEach [e] X.env=[(false,eval e X.env)]:=by rfl):
  JE X (.Call (.Attribute o name cV) [e] [] cr) (f2 op fo fe):=by
 refine PE.to (EQ PySem.F.plainAttrs_str slot HZ hm ho (iG he ki hs) fL Bj fM hs rfl) λσ H Q q=>?_;obtain⟨B,ρ,d,bb,sB,r,ee,q⟩:=q;obtain⟨x1,ex,ee⟩:=oX ee;obtain⟨y1,ey,ee⟩:=oX ee;obtain⟨z,hz⟩:=HB _ _ _ ee;refine⟨B,ρ,x1.1,x1.2,sB,r,ex,λv H1 N1 UE i1 _=>?_⟩;rw[hz]at i1;cases i1
 refine⟨show "str" = "str" from rfl,N1,ρ,y1.1,y1.2,UE.nh,r.mono UE.bn,ey,λv2 H2 N2 R6 i2 _=>⟨v2,rfl,N2,.str z,y1.1,d,bb,R6.nh,.str z,i2,by rw[←hz];exact ee,q.into (UE.trans R6)⟩⟩
@[simp] noncomputable def NG:D->Option Str
 |.str z=>some z
 |_=>none
def ia:List D->Option (List Str)
 |[]=>some []
 |d::ds=>(NG d).bind λz=>(ia ds).map (z :: ·)
@[simp] theorem OY:ia []=some []:=rfl
@[simp] theorem A1 (d:D)(ds:List D):ia (d::ds)=(NG d).bind λz=>(ia ds).map (z :: ·):=rfl
@[simp] theorem OZ (zs:List Str):ia (zs.map D.str)=some zs:=by
 induction zs with
 |nil=>rfl
 |cons z zs ih=>simp[ih]
theorem k7 {K:Frag}{B:Hp}:∀ {vs:List V}{ds:List D}{zs:List Str}{its:List Value},L2.aS vs its->IsL K B vs ds->ia ds=some zs->StrsAre its zs
 |_,_,_,_,.nil,.nil,e=>by cases e;exact .nil
 |_,_,_,_,.cons r rr,.cons i ii,e=>by
  rw[A1]at e;obtain⟨z,e1,e⟩:=oX e;obtain⟨zs,e2,e⟩:=oY e;subst e;cases i<;>simp only[NG]at e1<;>try (cases e1;done)
  cases e1
  obtain⟨t,rfl⟩:=r;exact .cons _ t (k7 rr ii e2)
@[simp] def oD:D->D->OB
 |.str sep,.lst ds=>(ia ds).bind λzs=>if(zs.map (·.length)).sum+zs.length*sep.length<=16777216 then some (.str (Txt.join sep zs),false)else none
 |.str sep,.tup ds=>(ia ds).bind λzs=>if(zs.map (·.length)).sum+zs.length*sep.length<=16777216 then some (.str (Txt.join sep zs),false)else none
 |_,_=>none
theorem NH:HP X "str.join" (λx xs H Q=>∃y,xs=[y]/\rD X.K oD x y H Q):=by
 intro ae s σ H x xs v us Q I rx rs h;obtain⟨y,rfl,B,dx,dy,d,bb,sB,ix,iy,ee,q⟩:=h;obtain⟨u1,rfl,r1⟩:=gK rs;cases ix<;>(try (simp[oD]at ee;done))
 obtain⟨t,rfl⟩:=rx;cases iy<;>(try (simp[oD]at ee;done))
 ·rename_i h hl;simp only[oD]at ee;obtain⟨zs,ez,ee⟩:=oX ee;split at ee
  ·rename_i hok;cases ee
   cases r1
   obtain⟨its,rv,p1,z1⟩:=I.tuple (bj sB h);exact join_tuple p1 (by simpa using k7 rv hl ez) hok λt' k=>⟨.str _,H,I.tok k,⟨t',rfl⟩,q.one sB (.str _)⟩
  ·cases ee
 ·rename_i h hl;simp only[oD]at ee;obtain⟨zs,ez,ee⟩:=oX ee;split at ee
  ·rename_i hok;cases ee
   cases r1
   obtain⟨its,rv,p1,z1⟩:=I.list (sB.seq h);exact join_list p1.isList (by simpa using k7 rv hl ez) hok λt' k=>⟨.str _,H,I.tok k,⟨t',rfl⟩,q.one sB (.str _)⟩
  ·cases ee
theorem F3 (dx dy:D)(r:D×Bool)(h:oD dx dy=some r):∃z,dx=.str z:=by
 cases dx<;>first|exact⟨_,rfl⟩|(cases dy<;>simp[oD]at h)
noncomputable def gu:List Nat->List D->Env->Option Env
 |[],[],ρ=>some ρ
 |i::is,d::ds,ρ=>gu is ds (ρ.set i (some (d,false)))
 |_,_,_=>none
@[simp] theorem tS (ρ:Env):gu [] [] ρ=some ρ:=by rw[gu]
@[simp] theorem lL (i:Nat)(is:List Nat)(d:D)(ds:List D)(ρ:Env):gu (i::is) (d::ds) ρ=gu is ds (ρ.set i (some (d,false))):=by rw[gu]
@[simp] theorem QB (d:D)(ds:List D)(ρ:Env):gu [] (d::ds) ρ=none:=by simp only[gu]
@[simp] theorem QC (i:Nat)(is:List Nat)(ρ:Env):gu (i::is) [] ρ=none:=by simp only[gu]
@[simp] def Pa (is:List Nat):FG:=λd ρ=>match d with|.tup ds=>gu is ds ρ|_=>none
def qk:List Nat->M5
 |[]=>PP
 |i::is=>KZ (jQ i) (qk is)
theorem F4:aV (dZ N (own σ ρ)) (dZ N (own (σ.set i (some v)) (ρ.set i (some (d,false))))):=eJ λa u e q=>⟨e,λz=>q (by
 rcases wm z with⟨_,d',p⟩|⟨j,_,d',q1,q2⟩
 ·cases p
 ·exact⟨j,d',q1,q2⟩)⟩
theorem tT {K:Frag}:∀ {is:List Nat}{vs:List V}{ds:List D}{B0 H0 N H:Hp}{σ:St}{ρ ρ':Env}{Q:St->Hp->Prop},eF K B0 H0 N H σ ρ->IsL K (dZ N (own σ ρ)) vs ds->gu is ds ρ=some ρ'->(∀σ',eF K B0 H0 N H σ' ρ'->Q σ' H)->qk is vs σ H Q
 |[],_,_,_,_,_,_,_,_,_,_,s,.nil,e,k=>by
  rw[tS]at e;cases e;exact⟨rfl,k _ s⟩
 |[],_,_,_,_,_,_,_,_,_,_,_,.cons _ _,e,_=>by simp at e
 |_::_,_,_,_,_,_,_,_,_,_,_,_,.nil,e,_=>by simp at e
 |i::is,_,_,_,_,_,_,_,_,_,_,s,.cons h hs,e,k=>by
  rw[lL]at e;exact⟨_,_,rfl,tT (s.bind h) (hs.mono F4) e k⟩
theorem nN:∀ {is:List Nat}{ds:List D}{ρ ρ':Env},gu is ds ρ=some ρ'->ds.length=is.length
 |[],[],_,_,_=>rfl
 |_::_,_::_,_,_,e=>by rw[lL]at e;simp[nN e]
 |[],_::_,_,_,e=>by simp at e
 |_::_,[],_,_,e=>by simp at e
theorem QD {K:Frag}{is:List Nat}:IQ K (Pa is) (M7 K is.length (qk is)):=by
 intro B0 H0 N H σ ρ ρ' v d Q s h e k;cases h with
 |@tup a vs ds ht hl=>
  have e':gu is ds ρ=some ρ':=e;exact⟨a,vs,rfl,bj (bO.trans s.ext.nh) ht,by rw[hl.length];exact nN e',tT s hl e' λσ' s'=>k σ' H ⟨N,s'⟩⟩
 |_=>cases e
theorem tU {K:Frag}{n:Nat}{B H:Hp}{ρ0:Env}{Q:St->Hp->Prop}(cl:∀i,i<n->ρ0[i]? = some none):∀ {is:List Nat}{vs:List V}{ds:List D}{σ:St}{ρ ρ1:Env},(∀i∈is,i<n)->fN K B σ ρ->IsL K B vs ds->gu is ds ρ=some ρ1->ρ.length=σ.length->ρ.length=ρ0.length ->
  (∀σ1,fN K B σ1 ρ1->(∀B',fN K B' σ ρ0->fN K B' σ1 ρ0)->ρ0.length=σ1.length->Q σ1 H)->qk is vs σ H Q
 |[],_,_,_,_,_,_,rp,.nil,e,l1,l2,k=>by
  rw[tS]at e;cases e;exact⟨rfl,k _ rp (λ_ z=>z) (by omega)⟩
 |[],_,_,_,_,_,_,_,.cons _ _,e,_,_,_=>by simp at e
 |_::_,_,_,_,_,_,_,_,.nil,e,_,_,_=>by simp at e
 |i::is,_,_,σ,ρ,_,hn,rp,.cons (v:=v) h hs,e,l1,l2,k=>by
  rw[lL]at e;have hi:=hn i mX;have El:i<σ.length:=by
   have:=(vV (cl i hi)).1;omega
  refine⟨_,_,rfl,tU cl (λj hj=>hn j (mZ _ hj)) ⟨rp.tb,λj d b q=>?_⟩ hs e (by simpa using l1) (by simpa using l2) λσ1 r1 r2 l=>k σ1 r1 (λB' z=>r2 B' ⟨z.tb,λj d b q=>?_⟩) l⟩
  ·rcases bX q with⟨rfl,pp⟩|⟨ne,pp⟩
   ·cases pp
    exact⟨v,by simp[El],h⟩
   ·obtain⟨w,h1,h2⟩:=rp.at' j d b pp;exact⟨w,by rw[vB ne];exact h1,h2⟩
  ·obtain⟨w,h1,h2⟩:=z.at' j d b q;have ne:i≠j:=λz=>by subst z;rw[cl i hi]at q;cases q
   exact⟨w,by rw[vB ne];exact h1,h2⟩
theorem LA {K:Frag}{n:Nat}{is:List Nat}(hn:∀i∈is,i<n):Lj K n (Pa is) (M7 K is.length (qk is)):=by
 intro B H σ ρ ρ1 v d Q cl rep s h e hl k;cases h with
 |@tup a vs ds ht hv=>
  have e':gu is ds ρ=some ρ1:=e;exact⟨a,vs,rfl,bj s ht,by rw[hv.length];exact nN e',tU cl hn rep hv e' hl rfl k⟩
 |_=>cases e
end
section
variable {prog:Program}{w:World}{A:Around}{E:Value->Shared->Prop}{s:Shared}
theorem A2 (st:s.heap.IsTupleIter it l i)(ht:s.heap.IsTuple l items)(hv:items[i]? = some v)
  (k:∀h',h'.IsTupleIter it l (i+1)->Heap.SameBut it s.heap h'->Q v { s with heap:=h' }):wpAny (model prog w) A (Builtin.SmallTypes.nextOf (.ref it)) Q E s:=by
 obtain⟨o1,g1,c1,d1⟩:=id st;obtain⟨o2,g2,_,n2,d2⟩:=ht;unfold Builtin.SmallTypes.nextOf;refine wX (wpAny_callSpecial?_slot (name:=Str.ofString "__next__") st.typeIs PySem.F.slot_tuple_iterator_next (wpAny_call_entry PySem.F.slot_tuple_iterator_next st.typeIs PySem.F.entry_tuple_iterator_next ?_ (PySem.F.args_tuple_iterator_next_1 _)));show wpAny _ _ (field (.ref it) 0>>=_) _ _ _;refine wX (wpAny_field g1 d1 (x:=.ref l) rfl ?_);show wpAny _ _ (if(Value.ref l == Value.none)=true then _ else _) _ _ _;rw[if_neg (λz=>uX z:¬((Value.ref l == Value.none)=true))];show wpAny _ _ (field (.ref it) 1>>=_) _ _ _;refine wX (wpAny_field g1 d1 (x:=.int i 0) rfl ?_);show wpAny _ _ (seqItems? (.ref l)>>=_) _ _ _;refine wX (wpAny_seqItems g2 d2 ?_);simp only[hv,Int.toNat_natCast];refine wX (wpAny_setField g1 d1 (by simp) (wY ⟨v,rfl,wY (k _ ?_ (vW ..))⟩));exact⟨_,Heap.get?_update_self _ g1 (Obj.isFreed_of_fields (Obj.data_mapFields d1 _)),(Obj.cls_mapFields ..).trans c1,by rw[Obj.data_mapFields d1];simp[rawInt]⟩
theorem D2 (hA:A.handled=none)(st:s.heap.IsTupleIter it l i)(ht:s.heap.IsTuple l items)(hv:items[i]? = none)
  (k:∀h' x,Heap.ExtBut it s.heap h'->(∃o,h'.get? x=some o/\o.cls=.type "StopIteration")->E (.ref x) { s with heap:=h' }):wpAny (model prog w) A (Builtin.SmallTypes.nextOf (.ref it)) Q E s:=by
 obtain⟨o1,g1,c1,d1⟩:=id st;obtain⟨o2,g2,_,n2,d2⟩:=ht;unfold Builtin.SmallTypes.nextOf;refine wX (wpAny_callSpecial?_slot (name:=Str.ofString "__next__") st.typeIs PySem.F.slot_tuple_iterator_next (wpAny_call_entry PySem.F.slot_tuple_iterator_next st.typeIs PySem.F.entry_tuple_iterator_next ?_ (PySem.F.args_tuple_iterator_next_1 _)));show wpAny _ _ (field (.ref it) 0>>=_) _ _ _;refine wX (wpAny_field g1 d1 (x:=.ref l) rfl ?_);show wpAny _ _ (if(Value.ref l == Value.none)=true then _ else _) _ _ _;rw[if_neg (λz=>uX z:¬((Value.ref l == Value.none)=true))];show wpAny _ _ (field (.ref it) 1>>=_) _ _ _;refine wX (wpAny_field g1 d1 (x:=.int i 0) rfl ?_);show wpAny _ _ (seqItems? (.ref l)>>=_) _ _ _;refine wX (wpAny_seqItems g2 d2 ?_);simp only[hv,Int.toNat_natCast];refine wX (wpAny_rule (wX (wpAny_setField g1 d1 (by simp) ?_)));show wpAny _ _ (newExc (.type "StopIteration") []>>=_) _ _ _;refine wX ?_;simp only[newTuple,newExc];refine wX (wpAny_newObj_type ?_ (by size_fits));refine wX (m:=firstArgMember _ _) (wpAny_of_eq (a:=Value.none) (by first|(simp only[firstArgMember];rfl)|rfl) ?_);refine wpAny_newObj_type ?_ (by size_fits);simp only[raiseNew];refine wX (wpAny_handled ?_);first|rw[hA]|rw[show A.in1.handled=none from hA]
 exact wX (wY (wpAny_throw (k _ _ (((vW ..).extBut.push _).push _) ⟨_,vY _ rfl,rfl⟩)))
end
def BH:Bool->Heap->Addr->Addr->Nat->Prop
 |true,h,it,a,i=>h.IsListIter it a i
 |false,h,it,a,i=>h.IsTupleIter it a i
def zT:Bool->Heap->Addr->Array Value->Prop
 |true,h,a,items=>h.IsList a items
 |false,h,a,items=>h.IsTuple a items
def A3 (k:Bool)(K:Frag)(H:Hp)(a:Addr)(xs:List V):Prop:=match k with|true=>gX K H a xs|false=>jl K H a xs
theorem BH.ob (st:BH k h it a i):∃o,h.get? it=some o/\∀v,o.data≠.cell v:=by
 cases k<;>(obtain⟨o,g,_,d⟩:=st;exact⟨o,g,λv z=>by rw[d]at z;cases z⟩)
theorem BH.upon (st:BH k h it a i)(g:∀o,h.get? it=some o->h'.get? it=some o):BH k h' it a i:=by
 cases k<;>(obtain⟨o,e,r⟩:=st;exact⟨o,g o e,r⟩)
theorem zT.upon (st:zT k h a items)(g:∀o,h.get? a=some o->h'.get? a=some o):zT k h' a items:=by
 cases k<;>(obtain⟨o,e,r⟩:=st;exact⟨o,g o e,r⟩)
theorem zT.lt (st:zT k h a items):a<h.objs.size:=by
 cases k<;>(obtain⟨o,e,r⟩:=st;exact vX e)
theorem A3.same {k:Bool}{K:Frag}{H H':Hp}{a:Addr}{xs:List V}(h:A3 k K H a xs)(e:aV H H'):A3 k K H' a xs:=by
 cases k
 ·exact bj e h
 ·exact e.seq h
theorem A3.vals (I:Inv X ae σ H s)(h:A3 k X.K H a xs):∃its:List Value,aS xs its/\zT k s.heap a its.toArray/\xs.length<=sizeLine:=by
 cases k
 ·exact I.tuple h
 ·obtain⟨its,r,p,z⟩:=I.list h;exact⟨its,r,p.isList,z⟩
theorem A3.inj (I:Inv X ae σ H s)(h:A3 k X.K H a xs)(h':A3 k X.K H a ys):xs=ys:=by
 cases k
 ·exact I.tuple_inj h h'
 ·exact I.list_inj h h'
section
variable {prog:Program}{w:World}{A:Around}{E:Value->Shared->Prop}{s:Shared}
theorem D3 (st:BH k s.heap it l i)(ht:zT k s.heap l items)(hv:items[i]? = some v)
  (q:∀h',BH k h' it l (i+1)->Heap.SameBut it s.heap h'->Q v { s with heap:=h' }):wpAny (model prog w) A (Builtin.SmallTypes.nextOf (.ref it)) Q E s:=by
 cases k
 ·exact A2 st ht hv q
 ·exact wpAny_nextOf_list_item st ht hv q
theorem yo (hA:A.handled=none)(st:BH k s.heap it l i)(ht:zT k s.heap l items)(hv:items[i]? = none)
  (q:∀h' x,Heap.ExtBut it s.heap h'->(∃o,h'.get? x=some o/\o.cls=.type "StopIteration")->E (.ref x) { s with heap:=h' }):wpAny (model prog w) A (Builtin.SmallTypes.nextOf (.ref it)) Q E s:=by
 cases k
 ·exact D2 hA st ht hv q
 ·exact wpAny_nextOf_list_end hA st ht hv q
end
noncomputable def NI (k:Bool)(l:Addr):Obj:={ cls:=.type (if k=true then "list_iterator" else "tuple_iterator"),data:=.fields #[.ref l,.int 0 0] }
theorem wA (ht:zT k s.heap l items)
  (q:Q (.ref s.heap.objs.size) { s with heap:=s.heap.push (NI k l) }):wpAny (model prog w) A (pyIter (.ref l)) Q E s:=by
 cases k
 ·exact wpAny_pyIter_tuple ht q
 ·exact wpAny_pyIter_list ht q
theorem zT.push (st:zT k h a items)(o:Obj):zT k (h.push o) a items:=st.upon λ_ e=>vZ _ e
theorem pE {X:Cx}{ae:List (Addr×Obj)}{σ:St}{H:Hp}{s:Shared}{h':Heap}{t':Nat}{ch:List Addr}(I:Inv X ae σ H s)(f:∀b∈ch,nE X ae H b)(k:∀b o,b∉ch->s.heap.get? b=some o->h'.get? b=some o):Inv X ae σ H { s with heap:=h',toks:=t' }:=by
 have LS:∀b u,H b=some u->b∉ch:=λb u e z=>by rw[(f b z).1]at e;cases e
 refine I.step (g':=s.gens) (d':=s.drawn) (ch:=ch) (λb hb=>?_) (λb o _ _ hc e _=>k b o hc e) (λb o _ _ hc e _=>⟨o.slots,k b o hc e⟩) (λ_ _ _ _ n=>n)
  (λb o hc e=>⟨o,k b o hc e⟩) (λ_ _ e=>e) (λ_ _ _ e=>e) (λ_ _ e=>e) (λm hm=>?_) (λb u e=>?_) I.bare
 ·obtain⟨_,f1,_,f3,f4,f5⟩:=f b hb;exact⟨f3,f1,f4,f5⟩
 ·obtain⟨o,es,ep,ho,r⟩:=hm;exact⟨o,es,ep,k _ o (λz=>(f _ z).2.1 rfl) ho,r⟩
 ·refine(I.hok b u e).stay (λc v hc q=>k c v ?_ q) (λ_ q=>q) (λ_ _ q=>q) λ_ _ _ q=>q;rcases hc with z|z
  ·rw[z];exact LS b u e
  ·exact LS c _ z
theorem LB {X:Cx}{ae:List (Addr×Obj)}{σ:St}{H:Hp}{s:Shared}{h':Heap}{t':Nat}{ch:List Addr}{a:Addr}{ob:HO}(I:Inv X ae σ H s)(f:∀b∈ch,nE X ae H b)(k:∀b o,b∉ch->s.heap.get? b=some o->h'.get? b=some o)(ha:s.heap.objs.size<=a)
  (new:bN X.prog X.w (upd H a ob) h' a ob):Inv X ae σ (upd H a ob) { s with heap:=h',toks:=t' }:=by
 have hn:H a=none:=I.hok.fresh ha;have LS:∀b u,H b=some u->b∉ch:=λb u e z=>by rw[(f b z).1]at e;cases e
 have na:∀b o,s.heap.get? b=some o->b≠a:=λb o e=>vS (vQ (vX e) ha);refine I.step (g':=s.gens) (d':=s.drawn) (ch:=ch) (λb hb=>?_) (λb o _ _ hc e _=>k b o hc e) (λb o _ _ hc e _=>⟨o.slots,k b o hc e⟩) (λb o _ e n=>by rw[aI (na b o e)];exact n)
  (λb o hc e=>⟨o,k b o hc e⟩) (λb xs e=>by rw[aI (aW e hn)];exact e) (λb o u e=>by rw[aI (aW e hn)];exact e) (λb ps e=>by rw[aI (aW e hn)];exact e) (λm hm=>?_) (λb u e=>?_) I.bare
 ·obtain⟨_,f1,_,f3,f4,f5⟩:=f b hb;exact⟨f3,f1,f4,f5⟩
 ·obtain⟨o,es,ep,ho,r⟩:=hm;exact⟨o,es,ep,k _ o (λz=>(f _ z).2.1 rfl) ho,r⟩
 ·by_cases hb:b=a
  ·subst hb;rw[aC]at e;cases e;exact new
  ·rw[aI hb]at e;refine(I.hok b u e).stay (λc v hc q=>k c v ?_ q) (λc q=>?_) (λc xs q=>?_) λc o xs q=>?_
   ·rcases hc with z|z
    ·rw[z];exact LS b u e
    ·exact LS c _ z
   ·rw[aI (aW q hn)];exact q
   ·rw[aI (aW q hn)];exact q
   ·rw[aI (aW q hn)];exact q
section
variable {X:Cx}{a b e:Expr}{pos:Pos}{p:Pos}
noncomputable def TK (xs ys:List D):List D:=List.zipWith (λx y=>.tup [x,y]) xs ys
@[simp] def TL (fa fb:FE):FA:=λρ=>(fa ρ).bind λx=>(fb ρ).bind λy=>(gM x.1).bind λxs=>(gM y.1).map λys=>TK xs ys
theorem QE {K:Frag}{B:Hp}{v:V}{d:D}{ds:List D}(h:Is K B v d)(e:gM d=some ds):∃k a vs,v=.ref a/\A3 k K B a vs/\IsL K B vs ds:=by
 cases h with
 |tup ht hl=>cases e;exact⟨false,_,_,rfl,ht,hl⟩
 |lst ht hl=>cases e;exact⟨true,_,_,rfl,ht,hl⟩
 |_=>cases e
end
noncomputable def unown1 (ρ:Env)(i:Nat):Env:=match ρ[i]? with
 |some (some (d,true))=>ρ.set i (some (d,false))
 |_=>ρ
theorem eF.unown1 {K:Frag}{B0 H0 N H:Hp}{σ:St}{ρ:Env}(s:eF K B0 H0 N H σ ρ)(i:Nat):eF K B0 H0 N H σ (unown1 ρ i):=by
 unfold DL.unown1;split
 ·rename_i d hd;obtain⟨a,ob,h1,h2,h3,h4⟩:=s.ow i d hd;have get:∀ {j:Nat}{e:D}{b:Bool},(ρ.set i (some (d,false)))[j]? = some (some (e,b))->(i=j/\e=d/\b=false)∨(i≠j/\ρ[j]? = some (some (e,b))):=λq=>by
   rcases bX q with⟨z,p⟩|⟨z,p⟩
   ·cases p;exact .inl ⟨z,rfl,rfl⟩
   ·exact .inr ⟨z,p⟩
  have o:∀c,own σ (ρ.set i (some (d,false))) c->own σ ρ c/\c≠a:=λc ⟨j,e,q1,q2⟩=>by
   rcases get q1 with⟨_,_,z⟩|⟨ne,q⟩
   ·cases z
   ·exact⟨⟨j,e,q,q2⟩,λz=>by subst z;exact ne (s.inj i j _ _ _ hd q h1 q2)⟩
  have c:aV (dZ N (own σ ρ)) (dZ N (own σ (ρ.set i (some (d,false))))):=eJ λb u e q=>⟨e,λz=>q (o b z).1⟩;have na:¬own σ (ρ.set i (some (d,false))) a:=λz=>(o a z).2 rfl;refine⟨s.bh,s.tb,s.ext,by rw[List.length_set];exact s.len,λj e q=>?_,λj e q=>?_,λj k b e f q q' z1 z2=>?_⟩
  ·rcases get q with⟨rfl,rfl,_⟩|⟨_,q⟩
   ·exact⟨_,h1,(h4.mono c).is (by rw[cY na];exact h2)⟩
   ·obtain⟨v,k1,k2⟩:=s.sh j e q;exact⟨v,k1,k2.mono c⟩
  ·rcases get q with⟨_,_,z⟩|⟨_,q⟩
   ·cases z
   ·obtain⟨a',o',k1,k2,k3,k4⟩:=s.ow j e q;exact⟨a',o',k1,k2,k3,k4.mono c⟩
  ·rcases get q with⟨_,_,z⟩|⟨_,q⟩
   ·cases z
   ·rcases get q' with⟨_,_,z⟩|⟨_,q'⟩
    ·cases z
    ·exact s.inj j k b e f q q' z1 z2
 ·exact s
@[simp] noncomputable def TM (is:List Nat)(g:FS):FS:=λρ=>g (is.foldl unown1 ρ)
theorem eF.unowns {K:Frag}{B0 H0 N H:Hp}{σ:St}:∀(is:List Nat){ρ:Env},eF K B0 H0 N H σ ρ->eF K B0 H0 N H σ (is.foldl DL.unown1 ρ)
 |[],_,s=>s
 |i::is,_,s=>eF.unowns is (s.unown1 i)
theorem NJ {K:Frag}{is:List Nat}{g:FS}{E:Ends}{σ:St}{H:Hp}(q:nz K (TM is g) E σ H):nz K g E σ H:=by
 obtain⟨B0,H0,ρ,r,⟨N,s⟩,e,p⟩:=q;exact⟨B0,H0,_,r,⟨N,s.unowns is⟩,e,p⟩
theorem QF {X:Cx}{st:Stmt}{g:FS}(is:List Nat)(h:JS X st g):JS X st (TM is g):=PS.to h λ_ _ _ q=>NJ q
@[simp] noncomputable def LC:FS:=λρ=>some (.ct ρ)
@[simp] noncomputable def TN:FS:=λρ=>some (.bk ρ)
@[simp] noncomputable def TQ:FS:=λ_=>none
section
variable {X:Cx}{pos:Pos}
theorem Jm:JS X (.Continue pos) LC:=PS.to xD λE σ H q=>by
 obtain⟨B0,H0,ρ,r,s,e,p⟩:=q;cases e
 exact p σ H s
end
inductive CRows (K:Frag)(P:Params):List DictEntry->List (Str×D)->Prop where
 |nil:CRows K P [] []
 |tup {x:Str}{t:Tok}{h:Int}{a:Addr}{its:Array Value}{n:Nat}{pq:Array (Option Value)}{ds:List D}{r:List DictEntry}{aK:List (Str×D)}(hh:h=PyData.keyHash P x)
   (l:K.lookup a=some ⟨.type "tuple",none,.seq its n,pq⟩) (f:(decide (its.size<=1000) && jE its.toList ds)=true) (tl:CRows K P r aK):CRows K P (⟨h,.str x t,.ref a⟩::r) ((x,.tup ds)::aK)
 |flat {x:Str}{t:Tok}{h:Int}{u:Value}{d:D}{r:List DictEntry}{aK:List (Str×D)}(hh:h=PyData.keyHash P x) (f:w6 u d=true) (tl:CRows K P r aK):CRows K P (⟨h,.str x t,u⟩::r) ((x,d)::aK)
theorem CRows.lit {K:Frag}{P:Params}:∀ {es:List DictEntry}{aK:List (Str×D)},CRows K P es aK->PySem.W.KeysLit P es
 |_,_,.nil=>trivial
 |_,_,.tup hh _ _ tl=>⟨⟨_,_,rfl,hh⟩,tl.lit⟩
 |_,_,.flat hh _ tl=>⟨⟨_,_,rfl,hh⟩,tl.lit⟩
theorem CRows.find {K:Frag}{P:Params}(y:Str):∀ {es:List DictEntry}{aK:List (Str×D)},CRows K P es aK->match aK.lookup y with
  |none=>es.find? (λe=>Value.isStrOf y e.key)=none
  |some d=>∃e v,es.find? (λe=>Value.isStrOf y e.key)=some e/\aU v e.val/\∀B,Is K B v d
 |_,_,.nil=>rfl
 |_,_,.tup (x:=x) (t:=t) (a:=a) (ds:=ds) hh l f tl=>by
  by_cases e:y=x
  ·subst e;rw[List.lookup_cons_self];rw[vC]at f;obtain⟨vs,r,i⟩:=jF (K:=K) f.2;exact⟨_,.ref a,List.find?_cons_of_pos (by simp[Value.isStrOf]),rfl,λB=>.tup (.inr ⟨_,_,_,l,rfl,rfl,Nat.le_of_lt (Nat.lt_of_le_of_lt (of_decide_eq_true f.1) (by decide)),r⟩) (i B)⟩
  ·have ih:=tl.find y;rw[List.lookup_cons,beq_eq_false_iff_ne.mpr e];have nf:Value.isStrOf y (Value.str x t)=false:=by
    rw[Bool.eq_false_iff];intro z;obtain⟨t',q⟩:=Value.isStrOf_shape z;injection q with q1;exact e q1.symm
   simp only[List.find?_cons,nf];exact ih
 |_,_,.flat (x:=x) (t:=t) (u:=u) (d:=d) hh f tl=>by
  by_cases e:y=x
  ·subst e;rw[List.lookup_cons_self];obtain⟨v,r1,_⟩:=kY (K:=K) (B:=λ_=>none) f;refine⟨_,v,List.find?_cons_of_pos (by simp[Value.isStrOf]),r1,λB=>?_⟩;obtain⟨v',HA,i'⟩:=kY (K:=K) (B:=B) f;have:v'=v:=by have z1:=r1.abs;rw[HA.abs]at z1;exact vK z1
   subst this;exact i'
  ·have ih:=tl.find y;rw[List.lookup_cons,beq_eq_false_iff_ne.mpr e];have nf:Value.isStrOf y (Value.str x t)=false:=by
    rw[Bool.eq_false_iff];intro z;obtain⟨t',q⟩:=Value.isStrOf_shape z;injection q with q1;exact e q1.symm
   simp only[List.find?_cons,nf];exact ih
def tV (K:Frag)(P:Params)(a:Addr)(aK:List (Str×D)):Prop:=∃es n,K.lookup a=some ⟨.type "dict",none,.dict es n,#[]⟩/\CRows K P es.toList aK/\(a == sysModules)=false
theorem const_dict {K:Frag}{P:Params}{y:Str}{a:Addr}{es:Array DictEntry}{n:Nat}{aK:List (Str×D)}(e:nsIn K mainGlobals y=some (some (.ref a)))(l:K.lookup a=some ⟨.type "dict",none,.dict es n,#[]⟩)(r:CRows K P es.toList aK)(s:(a == sysModules)=false):
  ∃a,nsIn K mainGlobals y=some (some (.ref a))/\tV K P a aK:=⟨a,e,es,n,l,r,s⟩
section
variable {X:Cx}{a b e:Expr}{pos:Pos}{x:Str}{p:Pos}
theorem tV.map {ae:List (Addr×Obj)}{σ:St}{H:Hp}{s:Shared}{d:Addr}{aK:List (Str×D)}(I:Inv X ae σ H s)(h:tV X.K X.w.params d aK):∃f:Str->Option Value,s.heap.MapOf (strKind X.prog X.w) d f/\(d == sysModules)=false /\
  ∀y,match aK.lookup y with|none=>f y=none|some dd=>∃u v,f y=some u/\aU v u/\∀B,Is X.K B v dd:=by
 obtain⟨es,n,l,r,sm⟩:=h;refine⟨_,PySem.W.mapOf_K I.kIn l r.lit,sm,λy=>?_⟩;have:=r.find y;have ff:findBy Value.isStrOf es y=(es.toList.find? λe=>Value.isStrOf y e.key).map (·.val):=by
  unfold findBy;obtain⟨es⟩:=es;rw[List.find?_toArray]
 cases hl:aK.lookup y with
 |none=>rw[hl]at this;dsimp only at this ⊢;rw[ff,this];rfl
 |some dd=>
  rw[hl]at this;obtain⟨en,v,e1,e2,e3⟩:=this;exact⟨en.val,v,by rw[ff,e1];rfl,e2,e3⟩
@[simp] noncomputable def X4 (aK:List (Str×D)):D->OB
 |.str y=>(aK.lookup y).map λd=>(d,false)
 |_=>none
@[simp] noncomputable def cIn (aK:List (Str×D)):D->OB
 |.str y=>some (.bl (aK.lookup y).isSome,false)
 |_=>none
@[simp] noncomputable def TR (aK:List (Str×D)):D->OB
 |.str y=>some (.bl (!(aK.lookup y).isSome),false)
 |_=>none
@[simp] noncomputable def gR:List D->OB
 |[.lst ds]=>some (.lst ds,true)
 |[.tup ds]=>some (.lst ds,true)
 |_=>none
@[simp] noncomputable def gw:List D->OB
 |[.lst ds]=>some (.tup ds,false)
 |[.tup ds]=>some (.tup ds,false)
 |_=>none
theorem A4:bQ X (.type "list") (Bz X.K gR):=by
 refine bQ.to wc λxs H Q q=>?_;obtain⟨B,ds,d,bb,sB,i,ee,q⟩:=q;cases i with
 |nil=>simp[gR]at ee
 |cons i1 i2=>
  cases i2 with
  |cons _ _=>cases i1<;>simp[gR]at ee
  |nil=>
   cases i1<;>try (simp[gR]at ee;done)
   ·rename_i l0 vs es h hl;simp only[gR]at ee;cases ee
    refine⟨_,_,rfl,.inr (bj sB h),λl hp=>?_⟩;have xt:=Ext.laid (o:=.lst vs) sB hp;exact q _ _ _ xt (.lst (gX.of aC) (hl.mono xt.bn)) λ_=>⟨_,_,_,rfl,rfl,hp,aC,hl.mono xt.bn⟩
   ·rename_i l0 vs es h hl;simp only[gR]at ee;cases ee
    refine⟨_,_,rfl,.inl (sB.seq h),λl hp=>?_⟩;have xt:=Ext.laid (o:=.lst vs) sB hp;exact q _ _ _ xt (.lst (gX.of aC) (hl.mono xt.bn)) λ_=>⟨_,_,_,rfl,rfl,hp,aC,hl.mono xt.bn⟩
theorem BI:bQ X (.type "tuple") (Bz X.K gw):=by
 refine bQ.to sP λxs H Q q=>?_;obtain⟨B,ds,d,bb,sB,i,ee,q⟩:=q;cases i with
 |nil=>simp[gw]at ee
 |cons i1 i2=>
  cases i2 with
  |cons _ _=>cases i1<;>simp[gw]at ee
  |nil=>
   cases i1<;>try (simp[gw]at ee;done)
   ·rename_i l0 vs es h hl;simp only[gw]at ee;cases ee
    exact⟨_,_,rfl,.inr ⟨bj sB h,q.one sB (.tup h hl)⟩⟩
   ·rename_i l0 vs es h hl;simp only[gw]at ee;cases ee
    refine⟨_,_,rfl,.inl ⟨sB.seq h,λl hp=>?_⟩⟩;have xt:=Ext.laid (o:=.tup vs) sB hp;exact q _ _ _ xt (.tup (jl.of aC) (hl.mono xt.bn)) (by simp)
end
section
variable {X:Cx}{a b e:Expr}{pos:Pos}{x:Str}{p:Pos}
@[simp] def VH (is:List Nat)(f:FE):FS:=λρ=>(f ρ).bind λx=>(gM x.1).bind λds=>(gu is ds (if bz ds=true then ρ else unown ρ)).map .nx
@[simp] def D4 (i:Nat)(fk fv:FE):FS:=λρ=>match ρ[i]? with
 |some (some (.lst ds,true))=>(fv ρ).bind λv=>(fk ρ).bind λk=>match k.1 with
  |.int j=>(zQ ds.length j).bind λn=>if be v.1=true then some (.nx (ρ.set i (some (.lst (ds.set n v.1),true))))else none
  |_=>none
 |_=>none
theorem F5 (hv:JE X e fv)(hk:JE X k fk)(hN:X.N[i]? = some y:=by rfl)(Bl:Ez X.env.scope y:=by first|exact Or.inl rfl|exact Or.inr (Or.inl rfl)|exact Or.inr (Or.inr rfl))(hd:(y == ("__debug__" : Str))=false:=by decide)
  (jj:(y == ("__classdict__" : Str))=false:=by decide)
  (ha:∀v,assign (.Subscript (.Name y py) k pt) X.env v=(do
   let ov ←holding [v] (eval (.Name y py) X.env)
   let iv ←holding [v,ov] (eval k X.env)
   standAt pt
   holding [v,ov,iv] (setItem ov iv v)
   release [v,ov,iv] []):=by intro _;rfl)
  (hs:swapsWithSole [.Subscript (.Name y py) k pt] e pos.line X.env=pure false:=by rfl) (hw:swappedStores [.Subscript (.Name y py) k pt] e X.env=pure none:=by rfl)
  (h1:(assignEach [.Subscript (.Name y py) k pt] X.env).map (·.2)=[assign (.Subscript (.Name y py) k pt) X.env]:=by rfl):JS X (.Assign [.Subscript (.Name y py) k pt] e pos) (D4 i fk fv):=by
 refine PS.to (M9 hv (M8 (kh hN Bl hd jj) hk EN ha) hs hw h1) λE σ H q=>?_;obtain⟨B0,H0,ρ,r,⟨N,s⟩,ee,p⟩:=q;unfold D4 at ee;split at ee
 ·rename_i ds ei;obtain⟨v,ev,ee⟩:=oX ee;obtain⟨kk,ek,ee⟩:=oX ee;obtain⟨kd,kb⟩:=kk;cases kd with
  |int j=>
   dsimp only at ee;obtain⟨n,en,ee⟩:=oX ee;split at ee
   ·rename_i hn;cases ee
    refine⟨N,ρ,v.1,v.2,s.ext.nh,s.rep,ev,λv1 H1 N1 x1 i1 _=>?_⟩;have s1:=s.grow x1;obtain⟨l,vs,Ia,z,h1,h2,h3,h4⟩:=s1.owL i _ ei;cases z
    refine⟨_,h1,N1,ρ,_,_,s1.ext.nh,s1.rep,ek,λkv H2 N2 x2 i2 _=>?_⟩;cases i2
    have s2:=s1.grow x2;obtain⟨l',S8,Ia,z,k1,k2,k3,k4⟩:=s2.owL i _ ei;cases z
    rw[h1]at k1;cases k1;exact⟨l,S8,j,n,rfl,rfl,s2.ext.nh _ _ k2,by rw[k4.length];exact en,p σ _ ⟨_,s2.write ei h1 (IsL.set (s2.flat (i1.mono x2.bn) hn) n k4)⟩⟩
   ·cases ee
  |_=>cases ee
 ·cases ee
@[simp] noncomputable def NK (i:Nat)(g:List D->Option (List D)):FS:=λρ=>match ρ[i]? with
 |some (some (.lst ds,true))=>(g ds).map λes=>.nx (ρ.set i (some (.lst es,true)))
 |_=>none
theorem F6 (hN:X.N[i]? = some y:=by rfl)(hv:Ez X.env.scope y:=by first|exact Or.inl rfl|exact Or.inr (Or.inl rfl)|exact Or.inr (Or.inr rfl))(hd:(y == ("__debug__" : Str))=false:=by decide)
  (jj:(y == ("__classdict__" : Str))=false:=by decide) (fL:attributeBase (.Name y py) "clear" X.env (eval (.Name y py) X.env)=eval (.Name y py) X.env:=by rfl)
  (fM:(cV.endLine == cr.line)=true:=by rfl) (Oy:swapsWith (.Call (.Attribute (.Name y py) "clear" cV) [] [] cr) none pos.line X.env=pure false:=by rfl):
  JS X (.Expr (.Call (.Attribute (.Name y py) "clear" cV) [] [] cr) pos) (NK i λ_=>some []):=by
 refine PS.to (Bp (MU PySem.F.plainAttrs_list PySem.F.slot_list_clear PySem.F.type_list_clear ES (kh hN hv hd jj) fL fM) Oy) λE σ H q=>?_;obtain⟨B0,H0,ρ,r,⟨N,s⟩,ee,p⟩:=q;unfold NK at ee;split at ee
 ·rename_i ds ei;cases ee
  obtain⟨l,vs,Ia,z,h1,h2,h3,h4⟩:=s.owL i _ ei;cases z
  exact⟨_,h1,.inl ⟨rfl,vs,gX.of (s.ext.nh _ _ h2)⟩,l,vs,rfl,rfl,s.ext.nh _ _ h2,p σ _ ⟨_,s.write ei h1 .nil⟩⟩
 ·cases ee
@[simp] def X5 (i:Nat)(f:FE):FS:=λρ=>match ρ[i]? with
 |some (some (.lst ds,true))=>(f ρ).bind λx=>match x.1 with
  |.lst es=>if x.2=true/\bz es=true/\ds.length+es.length<=sizeLine then some (.nx (ρ.set i (some (.lst (ds++es),true))))else none
  |_=>none
 |_=>none
@[simp] noncomputable def A5:List D->OB
 |[.int i]=>some (.int i,false)
 |[.bl b]=>some (.int (if b then 1 else 0),false)
 |_=>none
theorem QG:bQ X (.type "int") (Bz X.K A5):=by
 refine bQ.to Di λxs H Q q=>?_;obtain⟨B,ds,d,bb,sB,i,ee,q⟩:=q;cases i with
 |nil=>simp[A5]at ee
 |cons i1 i2=>
  cases i2 with
  |cons _ _=>cases i1<;>simp[A5]at ee
  |nil=>
   cases i1<;>try (simp[A5]at ee;done)
   ·simp only[A5]at ee;cases ee
    exact .inr ⟨_,rfl,q.one sB (.int _)⟩
   ·simp only[A5]at ee;cases ee
    exact .inl ⟨_,rfl,q.one sB (.int _)⟩
end
open AutoSeq1 (wpAny_loadPart')
set_option maxRecDepth 100000
noncomputable def VI (k:Bool):String:=if k=true then "list" else "tuple"
theorem yp (k:Bool)(l:Addr)(items:Array Value)(n:Nat)(O2:Option Addr)(sl:Array (Option Value)):
  Meets (Builtin.«enumerate.__new__» ⟨[.type "enumerate",.ref l],[]⟩) (λ_ R s=>s.heap.get? l=some { cls:=.type (VI k),dict:=O2,data:=.seq items n,slots:=sl } /\
   R (.ok (.ret (.ref (s.heap.push (NI k l)).objs.size))) { s with heap:=(s.heap.push (NI k l)).push { cls:=.type "enumerate",data:=.fields #[.none,.bool false,.ref s.heap.objs.size,rawInt 0,.none,.none] } }) :=
 .of_wp λprog w A R s hs=>by
  obtain⟨hp,g,d,tk,os⟩:=s;obtain⟨hl,hs⟩:=hs;have HC:=sub_enumerate;have hL:zT k (Shared.heap ⟨hp,g,d,tk,os⟩) l items:=by cases k<;>exact⟨_,hl,rfl,n,rfl⟩
  wp_walk using wpAny_loadPart' hl;refine wpAny_stack_any λst=>wY ?_;split
  ·rename_i c _ _ _ _ _;cases (c == Value.type "enumerate")
   ·wp_walk using wpAny_loadPart' hl,wA hL;exact⟨_,rfl,hs⟩
   ·wp_walk using wpAny_loadPart' hl,wA hL;exact⟨_,rfl,hs⟩
  ·wp_walk using wpAny_loadPart' hl,wA hL;exact⟨_,rfl,hs⟩
section
variable {prog:Program}{w:World}{A:Around}{E:Value->Shared->Prop}{s:Shared}
theorem F7 (hL:zT k s.heap l items)
  (q:∀h',IsEnum h' (s.heap.objs.size+1) s.heap.objs.size 0 .none->BH k h' s.heap.objs.size l 0->(∀b o,s.heap.get? b=some o->h'.get? b=some o)->Q (.ref (s.heap.objs.size+1)) { s with heap:=h' }):
  wpAny (model prog w) A (call (.type "enumerate") [.ref l]) Q E s:=by
 have hh:∃(O2:Option Addr)(sl:Array (Option Value))(n:Nat),s.heap.get? l=some { cls:=.type (VI k),dict:=O2,data:=.seq items n,slots:=sl }:=by
  cases k<;>(obtain⟨⟨c,O2,dt,sl⟩,hl,hc,n,hd⟩:=hL;dsimp only at hc hd;subst hc;subst hd;exact⟨O2,sl,n,hl⟩)
 obtain⟨O2,sl,n,hl⟩:=hh;refine callType_new PySem.F.called_enumerate (by decide) (PySem.F.typeCall_enumerate_1 _) (PySem.F.newCall_enumerate_1 _) (λobj=>PySem.F.args_object_init_2 obj _) PySem.F.entry_enumerate_new (yp k l items n O2 sl) ⟨hl,?_⟩;have n1:(s.heap.push (NI k l)).objs.size=s.heap.objs.size+1:=Heap.size_push ..;have g2:((s.heap.push (NI k l)).push { cls:=.type "enumerate",data:=.fields #[.none,.bool false,.ref s.heap.objs.size,rawInt 0,.none,.none] }).get? (s.heap.push (NI k l)).objs.size=some _:=vY _ rfl;have g1:((s.heap.push (NI k l)).push { cls:=.type "enumerate",data:=.fields #[.none,.bool false,.ref s.heap.objs.size,rawInt 0,.none,.none] }).get? s.heap.objs.size=some _:=vZ _ (vY _ (by cases k<;>rfl))
 rw[n1]at g2;show _/\_;rw[n1];refine⟨⟨_,g2,rfl⟩,q _ g2 ?_ λb o e=>vZ _ (vZ _ e)⟩;cases k<;>exact⟨_,g1,rfl,rfl⟩
theorem NL (hA:A.handled=none)(it l:Addr)(o7:l≠it)(items:Array Value):Draws prog w A it [it,l] items.size (λi v=>items[i]? = some v) (λi h=>BH k h it l i/\zT k h l items) where
 live:=λi h st=>let ⟨o,e,_⟩:=st.1.ob;⟨o,e⟩
 frame:=λi h h' st kk=>⟨st.1.upon λo e=>kk it (by simp) o e,st.2.upon λo e=>kk l (by simp) o e⟩
 item:=λi s Q E hi st q=>D3 st.1 st.2 (v:=items[i]) (by simp[hi]) λh' kU sb=>q _ h' s.toks (by simp[hi]) ⟨kU,st.2.upon λo e=>sb.extBut _ _ o7 e⟩ sb
 done:=λs Q E st q=>yo hA st.1 st.2 (by simp) q
theorem NM (hA:A.handled=none)(it l:Addr)(items:Array Value)(n:Nat)(hn:items[n]? = none):Draws prog w A it [it,l] n (λ_ _=>True) (λi h=>(BH k h it l i/\zT k h l items)/\i=n) where
 live:=λi h st=>let ⟨o,e,_⟩:=st.1.1.ob;⟨o,e⟩
 frame:=λi h h' st kk=>⟨⟨st.1.1.upon λo e=>kk it (by simp) o e,st.1.2.upon λo e=>kk l (by simp) o e⟩,st.2⟩
 item:=λi s Q E hi st q=>absurd st.2 (vS hi)
 done:=λs Q E st q=>yo hA st.1.1 st.1.2 hn q
end
noncomputable def TU (K:Frag)(k:Bool)(a:Addr):It :=
  ⟨λi H=>∃xs x,A3 k K H a xs/\xs[i]? = some x,
   λi H v H'=>∃T x,v=.ref T/\H T=none/\H'=upd H T (.tup [.int i,x])/\∀xs,A3 k K H a xs->xs[i]? = some x,
   λi H=>∃xs,A3 k K H a xs/\xs.length<=i⟩
theorem D5 {P:Program}{w:World}{K:Frag}{es:List Expr}{kt:Nat}{pt:Pos}{k:Bool}{a e it:Addr}(UF:e≠it)(Y4:a≠e)(Y5:a≠it):
  Turn P w K (.Tuple es kt pt) (TU K k a) [e,it] e (λi h=>(∃Ma,IsEnum h e it i Ma)/\BH k h it a i) where
 mem:=by simp
 obj:=λi h st b hb=>by
  obtain⟨⟨Ma,he⟩,t1⟩:=st;simp at hb;rcases hb with rfl|rfl
  ·exact⟨_,he,λv z=>by cases z⟩
  ·exact t1.ob
 keep:=λi h h' st kk=>by
  obtain⟨⟨Ma,he⟩,t1⟩:=st;exact⟨⟨Ma,kk e (by simp) _ he⟩,t1.upon λo q=>kk it (by simp) o q⟩
 item:=by
  intro X hP hw hK hc i ae s σ H E I hf st hg;subst hP hw hK;obtain⟨⟨Ma,he⟩,t1⟩:=st;obtain⟨xs,x,q1,hx⟩:=hg;obtain⟨its,r1,p1,z1⟩:=q1.vals I;obtain⟨u,hu,ru⟩:=r1.get hx;have fresh:H s.heap.objs.size=none:=I.hok.fresh (vT _);have Y6:i<its.toArray.size:=by rw[vH];exact(vV hu).1
  have E7:e≠s.heap.objs.size:=vS (vX he);have SG:it≠s.heap.objs.size:=by obtain⟨o,q,_⟩:=t1.ob;exact vS (vX q)
  refine wpAny_pyNext_enum_itemD (NL (A:=X.A.in1) (I.ok.hd hc) it a Y5 its.toArray) he ⟨t1,p1⟩ Y6 UF (by simp[UF,Y4.symm]) λv h' tk hv ho kU hT hsz hk=>?_;have ev:v=u:=by
   have W2:its[i]? = some v:=by simpa using hv
   rw[hu]at W2;exact(vK W2).symm
  subst ev;refine⟨_,rfl,wpAny_letOwnedTupleGo_enum (s:={ s with heap:=h',toks:=tk+1 }) ho λh2 Pm s2=>?_⟩;have Pn:Heap.SameBut e h' h2:=s2;have kk:∀b o,b∉[e,it]->s.heap.get? b=some o->h2.get? b=some o:=λb o hb q=>Pn.extBut _ _ (λz=>hb (by simp[z])) (hk b o (λz=>hb (by simp[z])) (λz=>hb (by simp[z])) q);have new:bN X.prog X.w (upd H s.heap.objs.size (.tup [.int i,x])) h2 s.heap.objs.size (.tup [.int i,x]):=⟨by show 2<=sizeLine;decide,[.int i tk,v],.cons ⟨tk,rfl⟩ (.cons ru .nil),⟨_,Pn.extBut _ _ E7.symm hT,rfl,_,rfl⟩⟩;refine⟨.ref s.heap.objs.size,upd H s.heap.objs.size (.tup [.int i,x]),LB (s:=s) (t':=tk+1) I hf kk (vT _) new,rfl,⟨_,x,rfl,fresh,rfl,λzs hq=>by rw[A3.inj I hq q1];exact hx⟩,?_,λb hb=>?_⟩
  ·exact⟨⟨_,by have:=Pm;rw[show((i:Int)+1)=((i+1:Nat):Int) by omega]at this;exact this⟩,kU.1.upon λo q=>Pn.extBut _ _ UF.symm q⟩
  ·have o7:b≠s.heap.objs.size:=by
    simp at hb;rcases hb with rfl|rfl
    ·exact E7
    ·exact SG
   rw[aI o7];exact(hf b hb).1
 done:=by
  intro X hP hw hK hc i ae s σ H E I hf st hg;subst hP hw hK;obtain⟨⟨Ma,he⟩,t1⟩:=st;obtain⟨xs,q1,hl⟩:=hg;obtain⟨its,r1,p1,z1⟩:=q1.vals I;have n1:=r1.length;refine wpAny_pyNext_enum_endD (NM (A:=X.A.in1) (I.ok.hd hc) it a its.toArray i (by simp;omega)) he ⟨⟨t1,p1⟩,rfl⟩ λh' hk=>⟨rfl,?_⟩;exact pE (t':=s.toks) I hf λb o hb q=>hk b o (λz=>hb (by simp[z])) q
 self:=λ_ _ _ _ _ st h=>let ⟨⟨_,he⟩,_⟩:=st;wpAny_pyIter_enum he h
section
variable {X:Cx}{a b e:Expr}{pos:Pos}{p:Pos}
theorem yq:bootBuiltins "enumerate" = some (.type "enumerate"):=by decide +kernel
noncomputable def tW (ds:List D):List D:=ds.mapIdx λi d=>.tup [.int i,d]
@[simp] def F8 (fa:FE):FA:=λρ=>(fa ρ).bind λx=>(gM x.1).map tW
theorem Jn {K:Frag}{N:Hp}{k:Bool}{l:Addr}{vs:List V}{ds:List D}(h1:A3 k K N l vs)(i1:IsL K N vs ds):nI K (TU K k l) N (tW ds):=by
 intro i H' sm;have n1:=i1.length;refine⟨λd ed=>?_,λhl=>⟨vs,h1.same sm,?_⟩⟩
 ·unfold tW at ed;rw[List.getElem?_mapIdx]at ed;obtain⟨x,e1,rfl⟩:=oY ed;obtain⟨v,ev,iv⟩:=i1.get e1;refine⟨⟨vs,v,h1.same sm,ev⟩,λr H2 hy=>?_⟩;obtain⟨T,v',rfl,hT,rfl,f1⟩:=hy;have e3:=f1 vs (h1.same sm);rw[ev]at e3;cases e3;have xt:=Ext.laid (o:=.tup [.int i,v]) sm hT;exact⟨_,xt,.tup (jl.of aC) (.cons (.int _) (.cons (iv.mono xt.bn) .nil))⟩
 ·unfold tW at hl;rw[List.length_mapIdx]at hl;omega
theorem Jo {es:List Expr}{kt:Nat}{pt:Pos}{fa:FE}(hm:X.mg "enumerate" = none)(ha:JE X a fa)(hg:Gl X "enumerate":=by rfl)(hs:starEach [a] X.env=[(false,eval a X.env)]:=by rfl):
  JI X (.Tuple es kt pt) (.Call (.Name "enumerate" p) [a] [] pos) (F8 fa):=by
 intro ae s σ H R I q;refine Call_ (iS I hg hm yq (PyProof.Rows.callWith_type1 (cu (ah ha am hs pos ae s σ H (λvs H1=>∃(k:Bool)(l:Addr)(us:List V),vs=[.ref l]/\A3 k X.K H1 l us/\R (TU X.K k l) H1) I ?_) λus s1 ⟨vs,H1,I1,r1,q1⟩=>?_) hs rfl))
 ·obtain⟨B,ρ,ds,sB,r,ee,q⟩:=q;obtain⟨x1,ex,ee⟩:=oX ee;obtain⟨xs,Y7,ee⟩:=oY ee;subst ee;refine⟨B,ρ,[x1.1],sB,r,by simp[af,ai,ex],λvs H1 N1 xt i1=>?_⟩;cases i1 with
  |cons j1 j2=>
   cases j2
   obtain⟨k1,l1,us,rfl,s1,m1⟩:=QE j1 Y7;exact⟨k1,l1,us,rfl,s1.same xt.nh,q _ H1 N1 xt (Jn s1 m1)⟩
 ·obtain⟨k,l,ws,rfl,h1,q⟩:=q1;obtain⟨u1,rfl,UG⟩:=r1.one;cases UG
  obtain⟨its,v1,p1,z1⟩:=h1.vals I1;have Sx:=p1.lt;refine F7 p1 λh' c1 c2 ck=>?_;refine wpAny_pyIter_enum c1 ⟨s1.heap.objs.size+1,[s1.heap.objs.size+1,s1.heap.objs.size],_,_,H1,rfl,I1.kept (t':=s1.toks) ck,
   D5 (Nat.succ_ne_self _) (vS (Nat.lt_succ_of_lt Sx)) (vS Sx),⟨⟨_,c1⟩,c2⟩,λb hb=>?_,q⟩
  have KI:s1.heap.objs.size<=b:=by
   simp at hb;rcases hb with rfl|rfl
   ·exact Nat.le_succ _
   ·exact vT _
  exact I1.fpOk KI (I1.hok.fresh KI)
end
end DL
namespace DL
open PySem PySem.Spec PyProof.Rows
theorem D6 (t:SetTable)(es:Array (Int×Value))(n:Nat):(relayAll t es n).2.1.led=t.led:=by
 unfold relayAll;split
 ·rename_i t' order h;unfold SetTable.relaid SetTable.laid at h;obtain⟨ow,_,h⟩:=oX h;cases h
  dsimp only;split<;>rfl
 ·rfl
theorem yr (t:SetTable)(es:Array (Int×Value))(n:Nat)(hp:t.plain=false):(relayAll t es n).2.1.plain=false:=by
 unfold relayAll;split
 ·rename_i t' order h;unfold SetTable.relaid SetTable.laid at h;obtain⟨ow,_,h⟩:=oX h;cases h
  dsimp only;split
  ·exact hp
  ·rfl
 ·rfl
theorem Jp (t:SetTable)(es:Array (Int×Value))(h:Int)(x:Value):(layNew t es h x).2.1.led=t.led:=by
 unfold layNew;split
 ·dsimp only[SetTable.put,SetTable.orStandIn];repeat' (first|rfl|split)
 ·rfl
structure TabT (w:World)(es:Array (Int×Value))(t:SetTable):Prop where
 fits:t.fits es.size=true
 led:t.led = !w.params.followText "set-order"
 plain:es.size≠0->t.plain=false
def iY (prog:Program)(w:World)(h:Heap)(a:Addr)(ts:List Str):Prop :=
 ∃o es ep t,h.get? a=some o/\o.ExactSet/\o.data=.set es ep t/\ElemsOf (PySem.strKind prog w) es.toList/\(es.toList.map (λe=>strOf e.2)).Perm ts/\ts.Nodup/\ts.length<scanBound/\TabT w es t
noncomputable def jX (ts:List Str)(x:Str):List Str:=if x∈ts then ts else ts++[x]
theorem F9 (ts:List Str)(x:Str):(jX ts x).length<=ts.length+1:=by unfold jX;split<;>simp
theorem yt (h:Value.isStrOf k v=true):strOf v=k:=by obtain⟨t,rfl⟩:=Value.isStrOf_shape h;rfl
section
variable {prog:Program}{w:World}{A:Around}{E:Value->Shared->Prop}{s:Shared}
theorem tX {es:Array (Int×Value)}{ts:List Str}(E7:ElemsOf (PySem.strKind prog w) es.toList)(hp:(es.toList.map (λe=>strOf e.2)).Perm ts)(k:Str):k∈ts ↔ ∃e∈es.toList,(PySem.strKind prog w).is k e.2=true:=by
 rw[←hp.mem_iff,List.mem_map];constructor
 ·rintro⟨e,he,rfl⟩;obtain⟨⟨k',hk,_⟩,_⟩:=E7 e he;have fO:Value.isStrOf k' e.2=true:=hk;refine⟨e,he,?_⟩;show Value.isStrOf (strOf e.2) e.2=true;rw[yt fO];exact fO
 ·rintro⟨e,he,hk⟩;exact⟨e,he,yt hk⟩
theorem tY {h:Heap}{a:Addr}{o:Obj}{es:Array (Int×Value)}{ep:Nat}{t:SetTable}(ho:h.get? a=some o)(hd:o.data=.set es ep t)(E5:Array (Int×Value))(t':SetTable):
  (h.update a (Obj.putSet E5 t')).get? a=some { o with data:=.set E5 (ep+1) t' }:=by
 have:=Heap.get?_update_self (Obj.putSet E5 t') ho (by rw[putSet_of E5 t' hd];rfl);rw[putSet_of E5 t' hd]at this;exact this
theorem yu {g:Bool->Sem Unit}(hg:∀(b:Bool)(s₁:Shared)(Q':Unit->Shared->Prop),Q' () s₁->wpAny (model prog w) A (g b) Q' E s₁)
  {a:Addr}{o:Obj}{es:Array (Int×Value)}{ep:Nat}{t:SetTable}(ho:s.heap.get? a=some o) (KJ:o.ExactSet) (hd:o.data=.set es ep t)
  {nD:Array (Int×Value)}{t2:SetTable}{ts:List Str}(HD:ElemsOf (PySem.strKind prog w) nD.toList) (Po:(nD.toList.map (λe=>strOf e.2)).Perm ts) (nd:ts.Nodup)
  (hb1:ts.length<scanBound) (Y8:t2.fits nD.size=true) (Bm:t2.led = !w.params.followText "set-order") (mf:t2.plain=false) {zN:Bool}{R:Option Bool->Shared->Prop}
  (h:∀h',Heap.SameBut a s.heap h'->iY prog w h' a ts->R (some true) { s with heap:=h' }):
  wpAny (model prog w) A (do
    storeSet a nD t2
    if(!zN && t2.tooFull)=true then do
      g (relayAll t2 nD (SetTable.grown nD.size)).2.2
      storeSet a (relayAll t2 nD (SetTable.grown nD.size)).1 (relayAll t2 nD (SetTable.grown nD.size)).2.1
      pure (some true)
     else pure (some true)) R E s:=by
 have W3:nD.size=ts.length:=by rw[←Po.length_eq,vI,vG]
 refine wX (wpAny_storeSet_of ho hd ?_ (fits_of_scanBound (by rw[W3];exact hb1)));have Pp:=tY ho hd nD t2;have R7:=vW s.heap a (Obj.putSet nD t2);split
 ·have hp:=relayAll_perm t2 nD (SetTable.grown nD.size);have R8:=relayAll_fits t2 nD (SetTable.grown nD.size);have KI:=D6 t2 nD (SetTable.grown nD.size);have UH:=yr t2 nD (SetTable.grown nD.size) mf;generalize hRl:relayAll t2 nD (SetTable.grown nD.size)=Rl at hp R8 KI UH ⊢;obtain⟨SH,t3,W4⟩:=Rl;dsimp only at hp R8 KI UH ⊢;have UI:ElemsOf (PySem.strKind prog w) SH.toList:=HD.perm hp;have hsz:SH.size=nD.size:=by rw[←vG,hp.length_eq,vG]
  refine wX (hg _ _ _ ?_);refine wX (wpAny_storeSet_of Pp rfl ?_ (fits_of_scanBound (by rw[hsz,W3];exact hb1)));have K6:=tY Pp rfl SH t3;exact wY (h _ (R7.trans (vW _ a _)) ⟨_,SH,_,t3,K6,KJ,rfl,UI,(hp.map _).trans Po,nd,hb1,R8,KI.trans Bm,λ_=>UH⟩)
 ·exact wY (h _ R7 ⟨_,nD,_,t2,Pp,KJ,rfl,HD,Po,nd,hb1,Y8,Bm,λ_=>mf⟩)
theorem A6 {a:Addr}{ts:List Str}{k:Str}{tk:Tok}{Q:Bool->Shared->Prop}(hS:iY prog w s.heap a ts)(HE:ts.length+1<scanBound)
  (h:∀b h',Heap.SameBut a s.heap h'->iY prog w h' a (jX ts k)->Q b { s with heap:=h' }):
  wpAny (model prog w) A (setAddHashed a (.str k tk) ((PySem.strKind prog w).hash k)) Q E s:=by
 have hS0:=hS;obtain⟨o,es,ep,t,ho,KJ,hd,E7,xp,nd,hb,hf,KN,mf⟩:=hS;have Em:(PySem.strKind prog w).is k (.str k tk)=true:=strKind_is prog w k tk;have sz:es.size=ts.length:=by rw[←xp.length_eq,vI,vG]
 unfold setAddHashed setAddHashedIn;refine wpAny_holding (wX (wpAny_setState_of ho hd hf ?_));dsimp only;rw[byScan_of (x:=.str k tk) rfl (by rw[sz];exact hb) E7];simp only[↓reduceIte];unfold setAddByScan;refine wX ?_;refine wX (wpAny_rule ?_);refine wX (wpAny_setScan_of Em ho hd hf E7 ?_);cases hr:List.findIdx? (λe=>(PySem.strKind prog w).is k e.2) es.toList with
 |some j=>
  dsimp only;obtain⟨hj,Y9,_⟩:=List.findIdx?_eq_some_iff_getElem.mp hr;have hm:k∈ts:=(tX E7 xp k).mpr ⟨es.toList[j],List.getElem_mem hj,Y9⟩;refine wY (wY ?_);have e:jX ts k=ts:=by unfold jX;rw[if_pos hm]
  exact h false s.heap (Heap.SameBut.refl a s.heap) (by rw[e];exact hS0)
 |none=>
  dsimp only;have hm:k∉ts:=λz=>by
   obtain⟨e,he,hp⟩:=(tX E7 xp k).mp z;have:=List.findIdx?_eq_none_iff.mp hr e he;rw[hp]at this;exact Bool.noConfusion this
  have ea:jX ts k=ts++[k]:=by unfold jX;rw[if_neg hm]
  have YA:∀(b:Bool){s₁:Shared}{Q':Unit->Shared->Prop},Q' () s₁->wpAny (model prog w) A (match b with|true=>rule "set.scan.the-table-gave-way" | false=>pure ()) Q' E s₁ :=
   λb s₁ Q' hq=>by cases b<;>first|exact wY hq|exact wpAny_rule hq
  have gB:=layNew_perm t es ((PySem.strKind prog w).hash k) (.str k tk);have CS:=layNew_fits t es ((PySem.strKind prog w).hash k) (.str k tk);have Mb:=Jp t es ((PySem.strKind prog w).hash k) (.str k tk);generalize hL:layNew t es ((PySem.strKind prog w).hash k) (.str k tk)=L at gB CS Mb ⊢;obtain⟨nD,t1,zN,UJ⟩:=L;dsimp only at gB CS Mb ⊢;rw[Array.toList_push]at gB;have HD:ElemsOf (PySem.strKind prog w) nD.toList:=(E7.push Em rfl).perm gB;have Po:(nD.toList.map (λe=>strOf e.2)).Perm (ts++[k]):=(gB.map _).trans (by rw[uW];exact xp.append_right _);have W5:(ts++[k]).Nodup:=by
   rw[List.nodup_append];refine⟨nd,by simp,λx hx y hy=>?_⟩;rw[List.mem_singleton]at hy;subst hy;exact λz=>hm (z ▸ hx)
  have hb1:(ts++[k]).length<scanBound:=by rw[uZ];exact HE
  refine wX (YA _ ?_);have R9:∀h',Heap.SameBut a s.heap h'->iY prog w h' a (ts++[k])->Q true { s with heap:=h' }:=λh' hsb Et=>h true h' hsb (by rw[ea];exact Et);split
  ·refine wX ?_;rw[hashByValue_scannable 8 (x:=.str k tk) rfl];refine wY ?_;refine yu ?_ ho KJ hd HD Po W5 hb1 ?_ ?_ ?_ ?_
   ·intro b s₁ Q' hq;cases b<;>first|exact wY hq|exact wpAny_rule hq
   ·exact SetTable.fits_plain_off CS
   ·exact Mb.trans KN
   ·rfl
   ·intro h' hsb Et;dsimp only;exact wY (R9 h' hsb Et)
  ·rename_i Pq;refine wX (wY ?_);simp only[↓reduceIte];refine yu ?_ ho KJ hd HD Po W5 hb1 CS (Mb.trans KN) (by simpa using Pq) ?_
   ·intro b s₁ Q' hq;cases b<;>first|exact wY hq|exact wpAny_rule hq
   ·intro h' hsb Et;dsimp only;exact wY (R9 h' hsb Et)
end
noncomputable def iE (ss:List Str):List Str:=ss.foldl jX []
theorem A7 (h:ts.Nodup)(x:Str):(jX ts x).Nodup:=by
 unfold jX;split
 ·exact h
 ·rename_i hm;rw[List.nodup_append];refine⟨h,by simp,λy hy z hz=>?_⟩;rw[List.mem_singleton]at hz;subst hz;exact λe=>hm (e ▸ hy)
theorem yv:y∈jX ts x↔y∈ts∨y=x:=by
 unfold jX;split
 ·rename_i hm;exact⟨.inl,λz=>z.elim id λe=>e ▸ hm⟩
 ·simp
theorem wB (ss:List Str):∀ts:List Str,(ss.foldl jX ts).length<=ts.length+ss.length:=by
 induction ss with
 |nil=>intro ts;simp
 |cons x r ih=>intro ts;rw[List.foldl_cons];have:=ih (jX ts x);have:=F9 ts x;simp only[vE];omega
theorem ql (ss:List Str):(iE ss).length<=ss.length:=by have:=wB ss [];simpa [iE]using this
theorem D7 (ss:List Str)(x:Str):iE (ss++[x])=jX (iE ss) x:=by unfold iE;rw[List.foldl_append];rfl
theorem StrsAre.at:∀ {vs:List Value}{ss:List Str},StrsAre vs ss->∀(i:Nat)(v:Value),vs[i]? = some v->∃x t,v=.str x t/\ss[i]? = some x
 |_,_,.nil,i,v,h=>by simp at h
 |_,_,.cons x t hr,0,v,h=>by simp at h;exact⟨x,t,h.symm,rfl⟩
 |_,_,.cons x t hr,i+1,v,h=>by
  simp only[List.getElem?_cons_succ]at h;exact StrsAre.at hr i v h
theorem iY.at (x:iY prog w h a ts)(k:∀o,h.get? a=some o->h'.get? a=some o):iY prog w h' a ts:=by
 obtain⟨o,es,ep,t,ho,r⟩:=x;exact⟨o,es,ep,t,k o ho,r⟩
section
variable {prog:Program}{w:World}{A:Around}{R:Result->Shared->Prop}{I:Addr}{fp wr:List Addr}{G:Array GenState->Array GenState->Prop}{n:Nat}{P:Nat->Value->Prop}{St:Nat->Shared->Prop}
theorem wC (W:WalksS prog w A.in1 I fp wr G n P St)(S:Addr)(KO:S∉fp)(ss:List Str)(hn:ss.length=n)
  (O3:∀i v,P i v->∃x t,v=.str x t/\ss[i]? = some x) (hb:n+1<scanBound):
  ∀(k i:Nat)(s:Shared),n - i=k->i<=n->St i s->iY prog w s.heap S (iE (ss.take i)) ->
   (∀s',Moved (S::wr) G s s'->iY prog w s'.heap S (iE ss)->R (.ok (.ret .none)) s') ->
   codeAny (model prog w) A (.builtin "set.update.loop" ⟨[.ref S,.ref I],[]⟩) R s:=by
 have W6:S∉wr:=λh=>KO (W.sub _ h);have HC:∀b∈wr,b∈S::wr:=λb hb=>mZ _ hb;intro k;induction k with
 |zero=>
  intro i s hk hi nB hS hR;have KP:i=n:=by omega
  subst KP;refine codeAny_builtin PyProof.Rows.F.entry_set_update_loop ?_;rw[Around.under_plainId PyProof.Rows.F.plain_set_update_loop _];show wpAny _ A.in1 (pyNext (.ref I)>>=_) _ _ s;refine wX (W.done s _ _ nB λs' hm=>?_);show wpAny _ A.in1 (ret Value.none) _ _ s';refine wY (hR s' (hm.mono HC) ?_);rw[List.take_of_length_le (by omega)]at hS;exact hS.at λo e=>hm.heap S _ W6 e
 |succ k ih=>
  intro i s hk hi nB hS hR;have eZ:i<n:=by omega
  refine codeAny_builtin PyProof.Rows.F.entry_set_update_loop ?_;rw[Around.under_plainId PyProof.Rows.F.plain_set_update_loop _];show wpAny _ A.in1 (pyNext (.ref I)>>=_) _ _ s;refine wX (W.item i s _ _ eZ nB λv s' hP hst' hm=>?_);obtain⟨x,t,rfl,hx⟩:=O3 i v hP;have Et:iY prog w s'.heap S (iE (ss.take i)):=hS.at λo e=>hm.heap S _ W6 e;show wpAny _ A.in1 (holding [Value.str x t] (setAdd S (.str x t))>>=_) _ _ s';refine wX (wpAny_holding ?_);unfold setAdd;refine wpAny_holding ?_;refine wX ((PySem.strKind prog w).pyHash (k:=x) (strKind_is prog w x t) ?_);have hl:(iE (ss.take i)).length+1<scanBound:=by have:=ql (ss.take i);rw[List.length_take]at this;omega
  refine A6 (s:={ s' with toks:=s'.toks+1 }) Et hl λb h' hsb Mc=>?_;have YB:iY prog w h' S (iE (ss.take (i+1))):=by
   rw[List.take_add_one,hx,Option.toList_some,D7];exact Mc
  refine wY ⟨plainId_quiet PyProof.Rows.F.plain_set_update_loop _,ih (i+1) _ (by omega) eZ (W.frame _ s' _ _ hst' (Nat.le_succ _) λb hb o e=>?_) YB λE6 hm'' hS''=>?_⟩
  ·rw[hsb.2 b (λh:b=S=>KO (by rw[←h];exact hb))];exact e
  ·refine hR E6 (Moved.trans W.gtrans ((hm.mono HC).then_heap (Nat.le_succ _) λb o hb e=>?_) hm'') hS'';rw[hsb.2 b (λh:b=S=>hb (by rw[h];exact mX))];exact e
end
section
variable {prog:Program}{w:World}{A:Around}{E:Value->Shared->Prop}{s:Shared}
noncomputable abbrev eO (w:World):Obj:={ cls:=.type "set",dict:=none,data:=.set #[] 0 (.fresh 0 0 (!w.params.followText "set-order")) }
theorem yw (a:Value) 
  (h:Q₁ (.ref s.heap.objs.size) { s with heap:=s.heap.push (eO w) }):
  codeAny (model prog w) A (.call (.builtin "set.__new__") ⟨[.type "set",a],[]⟩) (wants Q₁ E) s:=by
 refine codeAny_of_tree ?_;show wpAny _ A.in1 (do checkBuiltinCall "set.__new__" ⟨[.type "set",a],[]⟩;again (.builtin "set.__new__" ⟨[.type "set",a],[]⟩)) _ _ s;refine wX (wpAny_of_eq (PySem.F.newCall_set_1 a) (wY ⟨plainId_quiet PySem.F.plain_set_new _,codeAny_builtin PySem.F.entry_set_new ?_⟩));rw[Around.under_plainId PySem.F.plain_set_new _];unfold Builtin.«set.__new__» Builtin.Frozenset.newClass;have HC:=sub_set_self;obtain⟨hp,g,d,tk,os⟩:=s;dsimp only;wp_walk;refine wpAny_askSetting (wY ?_);dsimp only;simp only[newObj];refine wX (wpAny_alloc (wY ?_));exact wY h
set_option maxHeartbeats 3200000 in
theorem qm 
  (hh:A.handled=none) (hl:s.heap.IsList l items) (hi:StrsAre items.toList ss) (hb:items.size+1<scanBound)
  (h:∀(h':Heap)(tk:Nat),iY prog w h' s.heap.objs.size (iE ss) ->
   (∀b o,b<s.heap.objs.size->s.heap.get? b=some o->h'.get? b=some o)->Q (.ref s.heap.objs.size) { s with heap:=h',toks:=tk }):
  wpAny (model prog w) A (call (.type "set") [.ref l]) Q E s:=by
 obtain⟨c,tl,YC⟩:=PySem.F.called_set.mro;have W7:=PySem.F.called_set.made;have HC:=PySem.F.called_set.sub;refine wpAny_call (codeAny_of_tree ?_);show wpAny _ _ (callAny (.type "set") _) _ _ _;refine wY ⟨Code.quiet_builtin _ (by decide +kernel),codeAny_builtin PySem.F.entry_type_call ?_⟩;rw[Around.under_plain (weight_type_call_type "set" [.ref l] []) rfl];have h1:=PySem.F.called_set.notType;have h2:=PySem.F.called_set.canCreate;have hct:=PySem.F.typeCall_set_1 (.ref l);have bJ:ss.length=items.size:=by have:=hi.strs;rw[←this,vI,vG]
 repeat (any_goals (first|assumption|wp_step))
 refine codeAny_mono (yw (.ref l) (E:=E) (Q₁:=λobj s₁=>obj=.ref s.heap.objs.size/\s₁={ s with heap:=s.heap.push (eO w) }) ⟨rfl,rfl⟩) λr s₁ hr=>?_;cases r with
 |error e=>exact hr
 |ok fl=>
  cases fl with
  |ret obj=>
   obtain⟨rfl,rfl⟩:=hr;have hS:(s.heap.push (eO w)).get? s.heap.objs.size=some (eO w):=vY _ rfl;have hT:Shared.TypeIs { s with heap:=s.heap.push (eO w) } (.ref s.heap.objs.size) "set":=⟨_,hS,rfl⟩;have hli:=PySem.F.called_set.init.lookup;have hbi:=PySem.F.called_set.init.bind (.ref s.heap.objs.size);repeat (any_goals (first|assumption|wp_step))
   refine codeAny_mono (codeAny_call_builtin (R:=wants (λr s₂=>r=.none/\∃h' tk,s₂={ s with heap:=h',toks:=tk } /\
     iY prog w h' s.heap.objs.size (iE ss) /\
     (∀b o,b<s.heap.objs.size->s.heap.get? b=some o->h'.get? b=some o)) E) PySem.F.called_set.init.plain PySem.F.entry_set_init (check_set_init_1 hT ?_)) λr₂ s₂ hr₂=>?_
   ·obtain⟨ol,O4,xq,nl,Pr⟩:=hl;obtain⟨YD,RA,W8,O5⟩:=ol;simp only at xq Pr;subst xq;subst Pr;have UL:(s.heap.push (eO w)).get? l=some { cls:=.type "list",dict:=RA,data:=.seq items nl,slots:=O5 }:=vZ _ O4;have YE:=PySem.F.sub_list_set;have YF:=PySem.F.sub_list_frozenset;have o7:(Value.type "list" == Value.type "dict")=false:=by decide
    have Mb:(s.heap.push (eO w)).IsList l items:=⟨_,UL,rfl,nl,rfl⟩;unfold Builtin.«set.__init__» noKeywords Builtin.Frozenset.updateFrom;generalize hPI:pyIter=PI;wp_walk;subst hPI;refine wpAny_pyIter_list Mb ?_;refine wX (wpAny_runValue ?_);have W9:l<s.heap.objs.size:=vX O4;have YG:A.in1.in1.in1.handled=none:=by simp[hh]
    have UM:l≠(s.heap.push (eO w)).objs.size:=by
     rw[Heap.size_push];exact vS (Nat.lt_succ_of_lt W9)
    have KO:s.heap.objs.size∉[(s.heap.push (eO w)).objs.size,l]:=by
     rw[Heap.size_push];simp only[List.mem_cons,List.mem_singleton,List.not_mem_nil,or_false,not_or];exact⟨vS (Nat.lt_succ_self _),Nat.ne_of_gt W9⟩
    have O3:∀(i:Nat)(v:Value),items[i]? = some v->∃x t,v=.str x t/\ss[i]? = some x:=λi v hv=>
     StrsAre.at hi i v (by rw[Array.getElem?_toList];exact hv)
    refine wC ((Walks.list YG _ l UM items).toS) s.heap.objs.size
     KO ss bJ O3 hb (items.size - 0) 0 _ (by omega) (uN _)
     ⟨⟨_,vY _ rfl,rfl,rfl⟩,(Mb.push _)⟩ ?hS0 ?hR
    case hS0=>
     have UN:((s.heap.push (eO w)).push { cls:=.type "list_iterator",data:=.fields #[.ref l,.int 0 0] }).get? s.heap.objs.size
       = some (eO w):=vZ _ hS
     exact⟨_,#[],0,_,UN,⟨rfl,rfl,rfl⟩,rfl,λe he=>by simp at he,List.Perm.refl _,List.nodup_nil,(by show(0:Nat)<scanBound;decide),rfl,rfl,λz=>absurd rfl z⟩
    case hR=>
     intro s' hm Et
     obtain⟨h',g',d',E8,S5⟩:=s'
     have eg:g'=s.gens:=hm.gens
     have ed:d'=s.drawn:=hm.drawn
     have eo:S5=s.os:=hm.os
     subst eg;subst ed;subst eo
     show wpAny _ _ _ _ _ _
     refine wY ?_
     show wpAny _ _ (ret Value.none) _ _ _
     refine wY ⟨rfl,h',E8,rfl,Et,λb o hb e=>?_⟩
     have hb1:b≠s.heap.objs.size:=vS hb
     have YH:b≠(s.heap.push (eO w)).objs.size:=by
      rw[Heap.size_push];exact vS (Nat.lt_succ_of_lt hb)
     exact hm.heap b o (by simp only[List.mem_cons,List.mem_singleton,List.not_mem_nil,or_false,not_or];exact⟨hb1,YH⟩) (vZ _ (vZ _ e))
   ·cases r₂ with
    |error e=>exact hr₂
    |ok fl₂=>
     cases fl₂ with
     |ret r=>
      obtain⟨rfl,h',tk,rfl,Et,fO⟩:=hr₂;repeat (any_goals (first|assumption|wp_step))
      exact h _ _ Et fO
     |_=>exact hr₂.elim
  |_=>exact hr.elim
end
open Sem (wp)
section
variable {M:Model}{A:Around}{E:Value->Shared->Prop}{s:Shared}
theorem Jq (hn:n≠0)(h:∀k d,k<n->Q k { s with drawn:=d }):wpAny M A (choose src n) Q E s:=by
 intro Γ p hG;unfold choose;rw[Sem.wp_choose];refine⟨hn,?_⟩;have:=h _ (s.drawn.bump src) (Nat.mod_lt (M.w.draws src (s.drawn.get src)) (Nat.pos_of_ne_zero hn));simpa using this
end
theorem m5 {α:Type}:∀(l:List α)(i:Nat),i<l.length->(l.eraseIdx i).length=l.length - 1:=λl i h=>by rw[List.length_eraseIdx,if_pos h]
theorem lM {α:Type}:∀(l:List α)(i:Nat)(x:α),l[i]? = some x->(x::l.eraseIdx i).Perm l
 |[],i,x,h=>by simp at h
 |a::l,0,x,h=>by simp at h;subst h;exact List.Perm.refl _
 |a::l,i+1,x,h=>by
  rw[List.eraseIdx_cons_succ];simp only[List.getElem?_cons_succ]at h;exact(List.Perm.swap a x _).trans ((lM l i x h).cons a)
theorem BJ {α:Type}:∀(n:Nat)(xs:List α)(s:Shared)(Q:List α->Shared->Prop),xs.length=n->(∀ys d,ys.Perm xs->Q ys { s with drawn:=d })->wpAny M A (drawOrder n xs) Q E s
 |0,xs,s,Q,hl,h=>by
  have:xs=[]:=List.eq_nil_of_length_eq_zero hl;subst this;exact wY (h [] s.drawn (List.Perm.refl _))
 |n+1,[],s,Q,hl,h=>by simp at hl
 |n+1,x::r,s,Q,hl,h=>by
  show wpAny M A (choose .order (x::r).length>>=λi=>match (x::r)[i]? with
   |some x'=>(do return x'::(←drawOrder n ((x::r).eraseIdx i)))
   |none=>unsupported "internal:drawOrder") Q E s
  refine wX (Jq (by simp) λk d hk=>?_);obtain⟨y,hy⟩:∃y,(x::r)[k]? = some y:=⟨_,vU hk⟩;rw[hy];refine wX (BJ n _ _ _ (by rw[m5 _ _ hk,hl];rfl) λys d' hp=>wY (h _ _ ((hp.cons y).trans (lM _ _ _ hy))))
theorem BK {α:Type}(next:Nat->Nat):∀(fuel k:Nat)(left:List α)(out:Array α),left.length=fuel->(pickOrder.go next fuel k left out).toList.Perm (out.toList++left)
 |0,k,left,out,hl=>by
  have:left=[]:=List.eq_nil_of_length_eq_zero hl;subst this;unfold pickOrder.go;simp
 |fuel+1,k,left,out,hl=>by
  unfold pickOrder.go;have hk:next k % left.length<left.length:=Nat.mod_lt _ (by omega);obtain⟨y,hy⟩:∃y,left[next k % left.length]? = some y:=⟨_,vU hk⟩;rw[hy];dsimp only;refine(BK next fuel (k+1) _ _ (by rw[m5 _ _ hk];omega)).trans ?_;rw[Array.toList_push,List.append_assoc];exact(lM _ _ _ hy).append_left _
theorem D8 {α:Type}(next:Nat->Nat)(xs:Array α):(pickOrder next xs).toList.Perm xs.toList:=by
 have:=BK next xs.size 0 xs.toList #[] (by simp);simpa [pickOrder]using this
theorem bA:Slot "set_iterator" "__next__" "set_iterator.__next__" :=
 .of (owner:="set_iterator") (n:="__next__") (by rw[typeLookup_type,builtinLookup_eq_fast];kernel_rfl) (by decide +kernel) (by decide +kernel) (by decide +kernel)
  (by first|exact .inl (by decide +kernel)|exact .inr (by decide +kernel)) (by rw[isSubtype_type];kernel_rfl)
theorem fE:entryFor table "set_iterator.__next__" = some Builtin.«set_iterator.__next__»:=entryFor_of_tree (by kernel_rfl)
theorem gm (a:Value):argsOk "set_iterator.__next__" ⟨[a],[]⟩:=by unfold argsOk;kernel_rfl
theorem lA:Slot "set_iterator" "__iter__" "set_iterator.__iter__" :=
 .of (owner:="set_iterator") (n:="__iter__") (by rw[typeLookup_type,builtinLookup_eq_fast];kernel_rfl) (by decide +kernel) (by decide +kernel) (by decide +kernel)
  (by first|exact .inl (by decide +kernel)|exact .inr (by decide +kernel)) (by rw[isSubtype_type];kernel_rfl)
theorem qo:entryFor table "set_iterator.__iter__" = some Builtin.«dict_keyiterator.__iter__» :=
 entryFor_alias (id':="dict_keyiterator.__iter__") (by kernel_rfl) rfl (by decide +kernel) (by kernel_rfl)
theorem sU (a:Value):argsOk "set_iterator.__iter__" ⟨[a],[]⟩:=by unfold argsOk;kernel_rfl
theorem pz:entryFor table "set.__iter__" = some Builtin.«frozenset.__iter__» :=
 entryFor_alias (id':="frozenset.__iter__") (by kernel_rfl) rfl (by decide +kernel) (by kernel_rfl)
noncomputable abbrev lN (fst:Value)(i:Nat)(S:Addr)(n ep:Nat):Obj:={ cls:=.type "set_iterator",data:=.fields #[fst,.int i 0,.ref S,.int n 0,.int ep 0] }
section
variable {prog:Program}{w:World}{A:Around}{E:Value->Shared->Prop}{s:Shared}{it S:Addr}{i ep:Nat}{o:Obj}{es:Array (Int×Value)}{t:SetTable}
theorem dM (ho:s.heap.get? it=some (lN fst i S n ep)):s.TypeIs (.ref it) "set_iterator":=⟨_,ho,rfl⟩
theorem wD {k k':Nat}{x:Value}{Q:Option Value->Shared->Prop}(ho:s.heap.get? it=some (lN (.int k 0) i S es.size ep))
  (hS:s.heap.get? S=some o) (hd:o.data=.set es ep t) (hf:t.fits es.size=true)
  (hN:∀(A':Around)(E':Value->Shared->Prop)(Q':Option (Value×Nat)->Shared->Prop),Q' (some (x,k')) s->wpAny (model prog w) A' (setNext S k i ep) Q' E' s)
  (hQ:∀h',h'.get? it=some (lN (.int k' 0) (i+1) S es.size ep)->Heap.SameBut it s.heap h'->Q (some x) { s with heap:=h' }):
  wpAny (model prog w) A (pyNext (.ref it)) Q E s:=by
 unfold pyNext;refine wX (wpAny_attempt (wpAny_callSpecial?_slot (name:=Str.ofString "__next__") (dM ho) bA
  (wpAny_call_entry bA (dM ho) fE ?_ (gm _))))
 show wpAny _ _ (fieldsOf (.ref it)>>=_) _ _ s;refine wX (wpAny_fieldsOf ho rfl ?_);show wpAny _ _ (setEntries S>>=_) _ _ s;refine wX (wpAny_setEntries_of hS hd hf ?_);rw[if_neg (by simp)];show wpAny _ _ (setNext S _ _ _>>=_) _ _ s;simp only[Int.toNat_natCast];refine wX (hN _ _ _ ?_);dsimp only;refine wX (wpAny_setField_rec ho (by simp) λh1 e1 b1=>?_);refine wX (wpAny_setField_rec e1 (by simp) λh2 e2 b2=>?_);exact wY ⟨x,rfl,wY (hQ h2 (by simpa [rawInt,lN]using e2) (b1.trans b2))⟩
theorem wE {k:Nat}{Q:Option Value->Shared->Prop}(hh:A.handled=none)(ho:s.heap.get? it=some (lN (.int k 0) i S es.size ep))
  (hS:s.heap.get? S=some o) (hd:o.data=.set es ep t) (hf:t.fits es.size=true)
  (hN:∀(A':Around)(E':Value->Shared->Prop)(Q':Option (Value×Nat)->Shared->Prop),Q' none s->wpAny (model prog w) A' (setNext S k i ep) Q' E' s)
  (hQ:∀h',Heap.ExtBut it s.heap h'->Q none { s with heap:=h' }):
  wpAny (model prog w) A (pyNext (.ref it)) Q E s:=by
 unfold pyNext;refine wX (wpAny_attempt (wpAny_callSpecial?_slot (name:=Str.ofString "__next__") (dM ho) bA
  (wpAny_call_entry bA (dM ho) fE ?_ (gm _))))
 show wpAny _ _ (fieldsOf (.ref it)>>=_) _ _ s;refine wX (wpAny_fieldsOf ho rfl ?_);show wpAny _ _ (setEntries S>>=_) _ _ s;refine wX (wpAny_setEntries_of hS hd hf ?_);rw[if_neg (by simp)];show wpAny _ _ (setNext S _ _ _>>=_) _ _ s;simp only[Int.toNat_natCast];refine wX (hN _ _ _ ?_);dsimp only;refine wX (wpAny_setField_rec ho (by simp) λh1 e1 b1=>?_);refine wX ?_;simp only[newExc,newTuple];refine wX (wpAny_newObj_type ?_ (by size_fits));refine wX (m:=firstArgMember _ _) (wpAny_of_eq (a:=Value.none) (by first|rfl|(simp only[firstArgMember];rfl)) ?_);refine wpAny_newObj_type ?_ (by size_fits);simp only[raiseNew];refine wX (wpAny_handled ?_);rw[show A.in1.handled=none from hh];refine wX (wY (wpAny_throw ?_));refine wX (wpAny_isInstance (T:="StopIteration") (b:=true) ⟨_,vY _ rfl,rfl⟩ isSubtype_stop ?_);exact wY (hQ _ ((b1.extBut.push _).push _))
theorem sV {T:Addr}{pl:List Nat}{p:Nat}{x:Int×Value}{nt:Nat}{Q:Option Value->Shared->Prop}(ho:s.heap.get? it=some (lN (.ref T) i S es.size ep))
  (hT:s.heap.get? T=some (seqObj "tuple" (pl.map λ(p:Nat)=>Value.int p 0).toArray nt))
  (hS:s.heap.get? S=some o) (hd:o.data=.set es ep t) (hf:t.fits es.size=true) (hp:pl[i]? = some p) (hx:es[p]? = some x)
  (hQ:∀h',h'.get? it=some (lN (.ref T) (i+1) S es.size ep)->Heap.SameBut it s.heap h'->Q (some x.2) { s with heap:=h' }):
  wpAny (model prog w) A (pyNext (.ref it)) Q E s:=by
 unfold pyNext;refine wX (wpAny_attempt (wpAny_callSpecial?_slot (name:=Str.ofString "__next__") (dM ho) bA
  (wpAny_call_entry bA (dM ho) fE ?_ (gm _))))
 show wpAny _ _ (fieldsOf (.ref it)>>=_) _ _ s;refine wX (wpAny_fieldsOf ho rfl ?_);show wpAny _ _ (setEntries S>>=_) _ _ s;refine wX (wpAny_setEntries_of hS hd hf ?_);rw[if_neg (by simp)];show wpAny _ _ (seqItems? (.ref T)>>=_) _ _ s;refine wX (wpAny_seqItems hT rfl ?_);have e1:(pl.map λ(p:Nat)=>Value.int p 0).toArray[(i:Int).toNat]? = some (.int p 0):=by simp[hp]
 dsimp only;rw[e1];dsimp only;have e2:wpAny (model prog w) A.in1 (setNextDrawn S (p:Int).toNat (ep:Int).toNat) (λy s'=>y=x.2/\s'=s) (λ_ _=>False) s:=by
  unfold setNextDrawn;refine wX (wpAny_setState_of hS hd hf ?_);dsimp only;rw[if_neg (by simp)];simp only[Int.toNat_natCast,hx];exact wY ⟨rfl,rfl⟩
 refine wX (wpAny_mono e2 (λy s' hy=>?_) λ_ _ z=>z.elim);obtain⟨rfl,rfl⟩:=hy;refine wX (wpAny_setField_rec ho (by simp) λh1 e1 b1=>?_);exact wY ⟨_,rfl,wY (hQ h1 (by simpa [rawInt,lN]using e1) b1)⟩
theorem sW {T:Addr}{pl:List Nat}{nt:Nat}{Q:Option Value->Shared->Prop}(hh:A.handled=none)(ho:s.heap.get? it=some (lN (.ref T) i S es.size ep))
  (hT:s.heap.get? T=some (seqObj "tuple" (pl.map λ(p:Nat)=>Value.int p 0).toArray nt))
  (hS:s.heap.get? S=some o) (hd:o.data=.set es ep t) (hf:t.fits es.size=true) (hp:pl[i]? = none)
  (hQ:∀h',Heap.ExtBut it s.heap h'->Q none { s with heap:=h' }):
  wpAny (model prog w) A (pyNext (.ref it)) Q E s:=by
 unfold pyNext;refine wX (wpAny_attempt (wpAny_callSpecial?_slot (name:=Str.ofString "__next__") (dM ho) bA
  (wpAny_call_entry bA (dM ho) fE ?_ (gm _))))
 show wpAny _ _ (fieldsOf (.ref it)>>=_) _ _ s;refine wX (wpAny_fieldsOf ho rfl ?_);show wpAny _ _ (setEntries S>>=_) _ _ s;refine wX (wpAny_setEntries_of hS hd hf ?_);rw[if_neg (by simp)];show wpAny _ _ (seqItems? (.ref T)>>=_) _ _ s;refine wX (wpAny_seqItems hT rfl ?_);have e1:(pl.map λ(p:Nat)=>Value.int p 0).toArray[(i:Int).toNat]? = none:=by simpa using hp
 dsimp only;rw[e1];dsimp only;refine wX (wpAny_setField_rec ho (by simp) λh0 e0 b0=>?_);refine wX (wpAny_setField_rec e0 (by simp) λh1 e1 b1=>?_);refine wX ?_;simp only[newExc,newTuple];refine wX (wpAny_newObj_type ?_ (by size_fits));refine wX (m:=firstArgMember _ _) (wpAny_of_eq (a:=Value.none) (by first|rfl|(simp only[firstArgMember];rfl)) ?_);refine wpAny_newObj_type ?_ (by size_fits);simp only[raiseNew];refine wX (wpAny_handled ?_);rw[show A.in1.handled=none from hh];refine wX (wY (wpAny_throw ?_));refine wX (wpAny_isInstance (T:="StopIteration") (b:=true) ⟨_,vY _ rfl,rfl⟩ isSubtype_stop ?_);exact wY (hQ _ (((b0.trans b1).extBut.push _).push _))
theorem yx (ho:s.heap.get? it=some (lN fst i S n ep))(h:Q (.ref it) s):wpAny (model prog w) A (pyIter (.ref it)) Q E s:=by
 refine wpAny_pyIter_slot (dM ho) lA (wpAny_call_entry lA (dM ho) qo ?_ (sU _));show wpAny _ _ (ret (.ref it)) _ _ s;exact wY ⟨_,rfl,"set_iterator",_,dM ho,bA.lookup,h⟩
end
section
variable {prog:Program}{w:World}{A:Around}{E:Value->Shared->Prop}{s:Shared}{it S:Addr}{i k ep:Nat}{o:Obj}{es:Array (Int×Value)}{t:SetTable}
theorem tZ (hS:s.heap.get? S=some o)(hd:o.data=.set es ep t)(hf:t.fits es.size=true)(hb:w.params.followText "set-order" = true)
  (h:Q (((pickOrder (w.params.setOrder S ep) es)[i]?).map λe=>(e.2,k)) s):wpAny (model prog w) A (setNext S k i ep) Q E s:=by
 unfold setNext;refine wX (wpAny_setState_of hS hd hf ?_);dsimp only;unfold setsByText;refine wX (wX (wpAny_askSetting (wY ?_)));show wpAny _ _ (if w.params.followText "set-order" = true then _ else _) _ _ _;rw[if_pos hb,if_neg (by simp)];unfold setWalk setsByText;refine wX (wX (wpAny_setState_of hS hd hf ?_));dsimp only;refine wX (wX (wpAny_askSetting (wY ?_)));show wpAny _ _ (if w.params.followText "set-order" = true then _ else _) _ _ _;rw[if_pos hb];refine wX (wpAny_askSetting (wY ?_));exact wY h
theorem qp (hS:s.heap.get? S=some o)(hd:o.data=.set es ep t)(hf:t.fits es.size=true)(hb:w.params.followText "set-order" = false)(hl:t.led=true)(hz:es.size<=1)
  (h:Q (match es[SetTable.below t.place k]?,t.place[SetTable.below t.place k]? with
   |some (_,x),some j=>some (x,j+1)
   |_,_=>none) s):wpAny (model prog w) A (setNext S k i ep) Q E s:=by
 unfold setNext;refine wX (wpAny_setState_of hS hd hf ?_);dsimp only;unfold setsByText;refine wX (wX (wpAny_askSetting (wY ?_)));show wpAny _ _ (if w.params.followText "set-order" = true then _ else _) _ _ _;rw[if_neg (by rw[hb];simp)];show wpAny _ _ (if(!t.plain && decide (es.size > 1))=true then _ else _) _ _ _;rw[if_neg (by rw[decide_eq_false (by omega)];simp)];show wpAny _ _ ((if(!t.led && !es.isEmpty)=true then unsupported "set:maker-not-led" else pure ())>>=_) _ _ _;rw[hl,if_neg (by simp)];refine wX (wY ?_);exact wY h
theorem ua (hh:A.handled=none)(hd:o.data=.set es ep t)(hf:t.fits es.size=true)(o7:S≠it)(vs:List Value)(hv:vs.length=es.size)(sl:Nat->Nat)
  (hN:∀i x,vs[i]? = some x->∀(A':Around)(E':Value->Shared->Prop)(s:Shared)(Q':Option (Value×Nat)->Shared->Prop),s.heap.get? S=some o->Q' (some (x,sl (i+1))) s->wpAny (model prog w) A' (setNext S (sl i) i ep) Q' E' s)
  (hE:∀(A':Around)(E':Value->Shared->Prop)(s:Shared)(Q':Option (Value×Nat)->Shared->Prop),s.heap.get? S=some o->Q' none s->wpAny (model prog w) A' (setNext S (sl es.size) es.size ep) Q' E' s):
  Walks prog w A it [it,S] [it] es.size (λi v=>vs[i]? = some v) (λi h=>h.get? it=some (lN (.int (sl i) 0) i S es.size ep)/\h.get? S=some o) where
 sub:=λb hb=>by simp at hb;simp[hb]
 frame:=λ_ _ _ st hk=>⟨hk it (by simp) _ st.1,hk S (by simp) _ st.2⟩
 item:=λi s Q E hi st hQ=>by
  obtain⟨x,hx⟩:∃x,vs[i]? = some x:=⟨_,vU (by omega)⟩;refine wD st.1 st.2 hd hf (λA' E' Q' q=>hN i x hx A' E' s Q' st.2 q) λh' h1 h2=>?_;exact hQ x h' s.toks hx ⟨h1,h2.extBut S _ o7 st.2⟩ λb u hb e=>h2.extBut b u (λz=>hb (by simp[z])) e
 done:=λs Q E st hQ=>wE hh st.1 st.2 hd hf (λA' E' Q' q=>hE A' E' s Q' st.2 q) λh' h1=>hQ h' s.toks λb u hb e=>h1 b u (λz=>hb (by simp[z])) e
 self:=λ_ _ _ _ st hQ=>yx st.1 hQ
theorem A8 {T:Addr}{pl:List Nat}{nt:Nat}(hh:A.handled=none)(hd:o.data=.set es ep t)(hf:t.fits es.size=true)(o7:S≠it)(YI:T≠it)(hp:pl.Perm (List.range es.size)):
  Walks prog w A it [it,S,T] [it] es.size (λi v=>(pl.map λp=>(es.getD p (0,.none)).2)[i]? = some v)
   (λi h=>h.get? it=some (lN (.ref T) i S es.size ep)/\h.get? S=some o/\h.get? T=some (seqObj "tuple" (pl.map λ(p:Nat)=>Value.int p 0).toArray nt)) where
 sub:=λb hb=>by simp at hb;simp[hb]
 frame:=λ_ _ _ st hk=>⟨hk it (by simp) _ st.1,hk S (by simp) _ st.2.1,hk T (by simp) _ st.2.2⟩
 item:=λi s Q E hi st hQ=>by
  have bJ:pl.length=es.size:=by rw[hp.length_eq,List.length_range]
  obtain⟨p,hx⟩:∃p,pl[i]? = some p:=⟨_,vU (by omega)⟩;have SI:p<es.size:=List.mem_range.mp (hp.mem_iff.mp (vL hx));have he:es[p]? = some (es.getD p (0,.none)):=by rw[Array.getD_eq_getD_getElem?,Array.getElem?_eq_getElem SI];rfl
  refine sV st.1 st.2.2 st.2.1 hd hf hx he λh' h1 h2=>?_;exact hQ _ h' s.toks (by simp[hx]) ⟨h1,h2.extBut S _ o7 st.2.1,h2.extBut T _ YI st.2.2⟩ λb u hb e=>h2.extBut b u (λz=>hb (by simp[z])) e
 done:=λs Q E st hQ=>by
  have bJ:pl.length=es.size:=by rw[hp.length_eq,List.length_range]
  exact sW hh st.1 st.2.2 st.2.1 hd hf (List.getElem?_eq_none (by omega)) λh' h1=>hQ h' s.toks λb u hb e=>h1 b u (λz=>hb (by simp[z])) e
 self:=λ_ _ _ _ st hQ=>yx st.1 hQ
end
theorem A9 {α:Type}(es:Array α)(d:α):(List.range es.size).map (λp=>es.getD p d)=es.toList:=by
 apply List.ext_getElem?;intro i;by_cases h:i<es.size
 ·simp[h,Array.getD_eq_getD_getElem?]
 ·simp[h]
section
variable {prog:Program}{w:World}{A:Around}{E:Value->Shared->Prop}{s:Shared}
theorem uc (h:xs=#[j]):SetTable.below xs k=if j<k then 1 else 0:=by
 subst h;by_cases h:j<k
 ·simp[SetTable.below,SetTable.below.go,h]
 ·simp[SetTable.below,SetTable.below.go,h]
theorem FC {S:Addr}{ts:List Str}{Q:Value->Shared->Prop}(hS:iY prog w s.heap S ts)
  (hQ:∀(h':Heap)(d:Drawn)(it:Addr)(vs:List Value)(fp:List Addr)(St:Nat->Heap->Prop),(∀A',A'.handled=none->Walks prog w A' it fp [it] ts.length (λi v=>vs[i]? = some v) St)->St 0 h' ->
   (∀b u,s.heap.get? b=some u->h'.get? b=some u)->s.heap.objs.size<=it->(∀b∈fp,b=S∨s.heap.objs.size<=b)->vs.length=ts.length->(vs.map strOf).Perm ts->(∀v∈vs,∃x t,v=.str x t) ->
   Q (.ref it) { s with heap:=h',drawn:=d }):wpAny (model prog w) A (pyIter (.ref S)) Q E s:=by
 obtain⟨o,es,ep,t,ho,KJ,hd,E7,hp,nd,hb,hf,KN,mf⟩:=hS;have sz:es.size=ts.length:=by rw[←hp.length_eq,vI,vG]
 have O6:S<s.heap.objs.size:=vX ho;have WA:s.TypeIs (.ref S) "set":=⟨_,ho,KJ.1⟩;have HF:∀e∈es.toList,∃x t,e.2=.str x t:=λe he=>by
  obtain⟨⟨k,hk,_⟩,_⟩:=E7 e he;obtain⟨t,q⟩:=Value.isStrOf_shape (show Value.isStrOf k e.2=true from hk);exact⟨k,t,q⟩
 refine wpAny_pyIter_slot WA PySem.F.slot_set_iter (wpAny_call_entry PySem.F.slot_set_iter WA pz ?_ (PySem.F.args_set_iter_1 _));show wpAny _ _ (Builtin.Frozenset.sizeOf S>>=_) _ _ s;unfold Builtin.Frozenset.sizeOf;refine wX (wX (wpAny_setEntries_of ho hd hf (wY ?_)));unfold setDrawn setsByText;refine wX (wX (wpAny_setState_of ho hd hf ?_));dsimp only;refine wX (wX (wpAny_askSetting (wY (wY ?_))));show wpAny _ _ (if(!w.params.followText "set-order" && (!t.plain && decide (es.size > 1)))=true then _ else _) _ _ _;have O7:(es.toList.map (·.2)).map strOf=es.toList.map (λe=>strOf e.2):=by rw[uP];rfl
 by_cases Md:w.params.followText "set-order" = true
 ·rw[if_neg (by rw[Md];simp)];refine wX (wY ?_);refine wX (wpAny_setEpoch_of ho hd hf ?_);have pp:=D8 (w.params.setOrder S ep) es;have bJ:((pickOrder (w.params.setOrder S ep) es).toList.map (·.2)).length=es.size:=by rw[vI,pp.length_eq,vG]
  refine wX (wpAny_newObj_type (wY ⟨_,rfl,"set_iterator",_,⟨_,vY _ rfl,rfl⟩,bA.lookup,?_⟩));refine hQ _ s.drawn s.heap.objs.size ((pickOrder (w.params.setOrder S ep) es).toList.map (·.2)) [s.heap.objs.size,S] (λi h=>h.get? s.heap.objs.size=some (lN (.int ((λ_=>0:Nat->Nat) i:Nat) 0) i S es.size ep)/\h.get? S=some o) (λA' hA=>?_) ?_ (λb u e=>vZ _ e) (vT _) (λb hb=>?_) (bJ.trans sz) ?_ ?_
  ·rw[←sz];exact ua hA hd hf (vS O6) _ bJ (λ_=>0) (λi x hx A' E' s Q' h1 h2=>tZ h1 hd hf Md (by
    rw[vA,Array.getElem?_toList]at hx;obtain⟨e,he,rfl⟩:=oY hx;rw[he];exact h2)) (λA' E' s Q' h1 h2=>tZ h1 hd hf Md (by
    rw[Array.getElem?_eq_none (by rw[←vG,pp.length_eq,vG];exact vT _)];exact h2))
  ·exact⟨vY _ rfl,vZ _ ho⟩
  ·simp only[List.mem_cons,List.not_mem_nil,or_false]at hb;rcases hb with rfl|rfl
   ·exact .inr (vT _)
   ·exact .inl rfl
  ·refine List.Perm.trans ?_ hp;rw[←O7];exact(pp.map _).map _
  ·intro v hv;obtain⟨e,he,rfl⟩:=vO hv;exact HF e (pp.mem_iff.mp he)
 ·rw[Bool.not_eq_true]at Md;have hl:t.led=true:=by rw[KN,Md];rfl
  by_cases h1:es.size<=1
  ·rw[if_neg (by rw[decide_eq_false (by omega)];simp)];refine wX (wY ?_);refine wX (wpAny_setEpoch_of ho hd hf ?_);refine wX (wpAny_newObj_type (wY ⟨_,rfl,"set_iterator",_,⟨_,vY _ rfl,rfl⟩,bA.lookup,?_⟩));have hpz:t.place.size=es.size:=by
    simp only[SetTable.fits,vC,beq_iff_eq,decide_eq_true_eq]at hf;exact hf.1
   refine hQ _ s.drawn s.heap.objs.size (es.toList.map (·.2)) [s.heap.objs.size,S] (λi h=>h.get? s.heap.objs.size=some (lN (.int ((λi=>if i=0 then 0 else t.place.getD 0 0+1:Nat->Nat) i:Nat) 0) i S es.size ep)/\h.get? S=some o) (λA' hA=>?_) ?_ (λb u e=>vZ _ e) (vT _) (λb hb=>?_) (by rw[vI,vG,sz]) (by rw[O7];exact hp) ?_
   ·rw[←sz];refine ua hA hd hf (vS O6) _ (by simp) (λi=>if i=0 then 0 else t.place.getD 0 0+1) (λi x hx A' E' s Q' q1 q2=>qp q1 hd hf Md hl h1 ?_) (λA' E' s Q' q1 q2=>qp q1 hd hf Md hl h1 ?_)
    ·have hi:i<es.size:=by have:=(vV hx).1;simpa using this
     have SJ:i=0:=by omega
     subst SJ;obtain⟨j,hj⟩:∃j,t.place=#[j]:=Array.size_eq_one_iff.mp (by omega);rw[if_pos rfl,uc hj,if_neg (by omega)];rw[vA,Array.getElem?_toList]at hx;obtain⟨e,he,rfl⟩:=oY hx;rw[he];simp only[hj]at q2 ⊢;simpa using q2
    ·by_cases h0:es.size=0
     ·have UO:t.place=#[]:=Array.eq_empty_of_size_eq_zero (by omega);have YJ:es=#[]:=Array.eq_empty_of_size_eq_zero h0;rw[UO,YJ];simpa using q2
     ·obtain⟨j,hj⟩:∃j,t.place=#[j]:=Array.size_eq_one_iff.mp (by omega);rw[if_neg h0,uc hj];have:t.place.getD 0 0=j:=by rw[hj];rfl
      rw[this,if_pos (by omega),Array.getElem?_eq_none (by omega)];exact q2
   ·exact⟨vY _ rfl,vZ _ ho⟩
   ·simp only[List.mem_cons,List.not_mem_nil,or_false]at hb;rcases hb with rfl|rfl
    ·exact .inr (vT _)
    ·exact .inl rfl
   ·intro v hv;obtain⟨e,he,rfl⟩:=vO hv;exact HF e he
  ·have UO:t.plain=false:=mf (by omega);rw[if_pos (by rw[Md,UO,decide_eq_true (by omega)];rfl)];refine wX (BJ es.size (List.range es.size) _ _ (by simp) λpl d pp=>?_);refine wX (wpAny_newTuple ?_ (by rw[vI,pp.length_eq,List.length_range,sz];exact fits_of_scanBound hb));refine wX (wpAny_setEpoch_of (vZ _ ho) hd hf ?_);refine wX (wpAny_newObj_type (wY ⟨_,rfl,"set_iterator",_,⟨_,vY _ rfl,rfl⟩,bA.lookup,?_⟩));have hsz:(s.heap.push (seqObj "tuple" (pl.map λ(p:Nat)=>Value.int p 0).toArray 0)).objs.size=s.heap.objs.size+1:=size_push' _ _;have gB:((pl.map λp=>(es.getD p (0,.none)).2)).Perm (es.toList.map (·.2)):=by
    have:=(pp.map λp=>es.getD p (0,Value.none)).map (·.2);rw[A9]at this;rw[uP]at this;exact this
   refine hQ _ d _ (pl.map λp=>(es.getD p (0,.none)).2) [(s.heap.push (seqObj "tuple" (pl.map λ(p:Nat)=>Value.int p 0).toArray 0)).objs.size,S,s.heap.objs.size] (λi h=>h.get? (s.heap.push (seqObj "tuple" (pl.map λ(p:Nat)=>Value.int p 0).toArray 0)).objs.size=some (lN (.ref s.heap.objs.size) i S es.size ep)/\h.get? S=some o/\h.get? s.heap.objs.size=some (seqObj "tuple" (pl.map λ(p:Nat)=>Value.int p 0).toArray 0)) (λA' hA=>?_) ?_ (λb u e=>vZ _ (vZ _ e)) ?_ (λb hb=>?_) ?_ ?_ ?_
   ·rw[←sz];exact A8 (nt:=0) hA hd hf (by show S≠(s.heap.push _).objs.size;rw[size_push'];exact vS (Nat.lt_succ_of_lt O6)) (by show s.heap.objs.size≠(s.heap.push _).objs.size;rw[size_push'];exact vS (Nat.lt_succ_self _)) pp
   ·exact⟨vY _ rfl,vZ _ (vZ _ ho),vZ _ (vY _ rfl)⟩
   ·show s.heap.objs.size<=(s.heap.push _).objs.size;rw[size_push'];omega
   ·simp only[List.mem_cons,List.not_mem_nil,or_false]at hb;rcases hb with rfl|rfl|rfl
    ·refine .inr ?_;show s.heap.objs.size<=(s.heap.push _).objs.size;rw[size_push'];omega
    ·exact .inl rfl
    ·exact .inr (vT _)
   ·rw[gB.length_eq,vI,vG,sz]
   ·exact((gB.map strOf).trans (by rw[O7])).trans hp
   ·intro v hv;obtain⟨e,he,rfl⟩:=vO (gB.mem_iff.mp hv);exact HF e he
end
theorem D9 (h:ItemsOf (λi v=>vs[i]? = some v) lx vs.length):lx.toList=vs:=by
 apply List.ext_getElem?;intro i;by_cases hi:i<lx.size
 ·have e:lx[i]? = some lx[i]:=Array.getElem?_eq_getElem hi;rw[Array.getElem?_toList,e,h.2 i _ e]
 ·rw[List.getElem?_eq_none (by rw[vG];omega),List.getElem?_eq_none (by rw[←h.1];omega)]
section
variable {prog:Program}{w:World}{A:Around}{E:Value->Shared->Prop}{s:Shared}
theorem yy (hh:A.handled=none)(hS:iY prog w s.heap S ts)
  (hQ:∀s' vs,(∀b u,s.heap.get? b=some u->s'.heap.get? b=some u)->s'.gens=s.gens->s'.os=s.os->vs.length=ts.length->(vs.map strOf).Perm ts->(∀v∈vs,∃x t,v=.str x t)->Q vs s'):
  wpAny (model prog w) A (collect (.ref S)) Q E s:=by
 have HZ:∀(s1:Shared),iY prog w s1.heap S ts->s1.TypeIs (.ref S) "set":=λs1 h=>by
  obtain⟨o,_,_,_,ho,KJ,_⟩:=h;exact⟨o,ho,KJ.1⟩
 have eZ:S<s.heap.objs.size:=by obtain⟨o,_,_,_,ho,_⟩:=hS;exact vX ho
 have RB:ts.length<scanBound:=by obtain⟨_,_,_,_,_,_,_,_,_,_,h,_⟩:=hS;exact h
 unfold collect;refine wX (wpAny_runValue (codeAny_builtin PySem.F.entry_proto_collect ?_));rw[Around.under_plainId PySem.F.plain_proto_collect _];show wpAny _ A.in1 (newList []>>=λl=>again (.builtin "list.__iadd__" ⟨[l,.ref S],[]⟩)) _ _ s;refine wX (wpAny_newObj_type ?_);refine wY ⟨plainId_quiet PySem.F.plain_list_iadd _,codeAny_builtin PySem.F.entry_list_iadd ?_⟩;rw[Around.under_plainId PySem.F.plain_list_iadd _];show wpAny _ A.in1 (Builtin.List.listExtendWith (.ref s.heap.objs.size) (.ref S) (.ref s.heap.objs.size)) _ _ _;unfold Builtin.List.listExtendWith;have UP:iY prog w (s.heap.push { cls:=.type "list",data:=.seq ([]:List Value).toArray }) S ts:=hS.at λo e=>vZ _ e;refine wX (wpAny_typeOf (HZ _ UP) ?_);have E9:s.heap.objs.size≠S:=Nat.ne_of_gt eZ;have h1:Builtin.List.listSameRef (.ref s.heap.objs.size) (.ref S)=false:=by simp[Builtin.List.listSameRef,E9]
 have h2:(Value.type "set" == Value.type "list")=false:=by decide
 have h3:(Value.type "set" == Value.type "tuple")=false:=by decide
 simp only[h1,h2,h3,Bool.or_false,uV,if_false];refine wX (FC (s:={ s with heap:=s.heap.push { cls:=.type "list",data:=.seq ([]:List Value).toArray } }) UP λh' d it vs fp St W nB hk zY hfp CQ gB HB=>?_);have Mc:iY prog w h' S ts:=UP.at λo e=>hk _ _ e;refine wX (wpAny_holding ?_);unfold Builtin.List.listLengthHint;refine wX (wpAny_specialOf (HZ _ Mc) PySem.F.slot_set_len.lookup ?_);wp_delta;refine wX (wpAny_isInstance (HZ _ Mc) sub_set_self ?_);show wpAny _ A.in1 (typeOf (Value.ref S)>>=_) _ _ _;refine wX (wpAny_typeOf (HZ _ Mc) ?_);refine wY ?_;rw[if_pos (by decide)];refine wX (wpAny_rule ?_);refine wX ?_;have RC:(s.heap.push { cls:=.type "list",data:=.seq ([]:List Value).toArray }).objs.size=s.heap.objs.size+1:=size_push' _ _;have WB:h'.get? s.heap.objs.size=some { cls:=.type "list",data:=.seq ([]:List Value).toArray }:=hk _ _ (vY _ rfl);show wpAny _ A.in1 (updateSeq s.heap.objs.size (·.push .none)>>=λ_=>updateSeq s.heap.objs.size (·.pop)) _ _ _;refine wX (wpAny_updateSeq WB rfl ?_);have WC:=Heap.get?_update_self (Obj.mapSeq (·.push Value.none)) WB rfl;refine wpAny_updateSeq WC rfl ?_;have YK:=Heap.get?_update_self (Obj.mapSeq (·.pop)) WC rfl;have KO:s.heap.objs.size∉fp:=λhm=>by
  rcases hfp _ hm with z|z
  ·exact E9 z
  ·rw[RC]at z;exact absurd z (Nat.not_succ_le_self _)
 have O8:∀b u,b≠s.heap.objs.size->h'.get? b=some u ->
   ((h'.update s.heap.objs.size (Obj.mapSeq (·.push Value.none))).update s.heap.objs.size (Obj.mapSeq (·.pop))).get? b=some u :=
  λb u hb e=>(Heap.get?_update_other _ _ (Ne.symm hb)).trans ((Heap.get?_update_other _ _ (Ne.symm hb)).trans e)
 have W0:=W A.in1 hh;refine wY ⟨plainId_quiet PySem.F.plain_extend_loop _,codeAny_extend_loopS W0.toS (fits_of_scanBound RB) _ KO _ ts.length 0 _ _ _ rfl (uN _)
  (W0.frame 0 _ _ nB λb hb u e=>O8 b u (λz=>KO (z ▸ hb)) e) YK (ItemsOf.nil _) λs' xr c' hm hL' sJ=>?_⟩
 show wpAny _ A (load s.heap.objs.size>>=_) _ _ s';refine wX (wpAny_load hL' ?_);rw[←CQ]at sJ;refine wY ?_;show Q xr.toList s';rw[D9 sJ];refine hQ s' vs (λb u e=>hm.heap b u (λhb=>?_) (O8 b u (vS (vX e)) (hk _ _ (vZ _ e)))) hm.gens hm.os CQ gB HB;have hl:=vX e;simp only[List.mem_cons,List.not_mem_nil,or_false]at hb;rcases hb with rfl|rfl
 ·exact absurd hl (Nat.lt_irrefl _)
 ·rw[RC]at zY;exact absurd (vQ hl (Nat.le_of_succ_le zY)) (Nat.lt_irrefl _)
theorem AA (hh:A.handled=none)(hS:iY prog w s.heap S ts)(Eu:ts.length<64)
  (hQ:∀(s1:Shared)(h':Heap)(a:Addr)(out:Array Value)(n:Nat)(Ps:List Str),(∀b u,s.heap.get? b=some u->s1.heap.get? b=some u)->s1.os=s.os->s1.gens=s.gens->(∀b u,s1.heap.get? b=some u->h'.get? b=some u)->s1.heap.objs.size<=a->h'.get? a=some (seqObj "list" out n) ->
   StrsAre out.toList Ps->Ps.Perm ts->sortedS Ps=true->Q (.ref a) { s1 with heap:=h' }):
  wpAny (model prog w) A (call (.builtin "sorted") [.ref S]) Q E s:=by
 refine Calls.call_function_entry kind_sorted plain_sorted entry_sorted (args_sorted1 _) ?_;unfold Builtin.«sorted»;refine wX (m:=checkCount "sorted" 1 1 _) (wY ?_);refine wX (yy (A:=A.in1) (by exact hh) hS λs1 vs hk hg K7 CQ gB HB=>?_);have nB:StrsAre vs (vs.map strOf):=strsAre_map vs HB;refine wX (wpAny_newList ?_ (by rw[CQ,sizeLine_eq];omega));have K0:(s1.heap.push (seqObj "list" vs.toArray 0)).get? s1.heap.objs.size=some (seqObj "list" vs.toArray 0):=vY _ rfl;show wpAny _ _ _ _ _ { s1 with heap:=s1.heap.push (seqObj "list" vs.toArray 0) };refine wX (wpAny_holding (wpAny_call_entry slot_list_sort ⟨_,K0,rfl⟩ entry_list_sort (list_sort_treeK strKind_oneLt K0 nB.keysOf (λv₁ v₂ aD e=>keyKind_strs (by rw[←e];exact nB)) (by rw[CQ];exact Eu) λkU a1 a2=>⟨_,rfl,?_⟩) (args_list_sort _)));obtain⟨Ps,b1,b2,b3⟩:=sorted_out_str nB a1 a2;obtain⟨e,he⟩:=sortedHeap_at (out:=(arrOf kU).map (·.2)) K0;refine wY ⟨_,rfl,hQ s1 _ _ _ e Ps hk K7 hg (λb u q=>?_) (vT _) he b1 (b2.trans gB) b3⟩;have hl:=vX q;rw[sortedHeap_old (vS hl) (by rw[size_push'];exact Nat.lt_succ_of_lt hl)];exact vZ _ q
end
end DL
namespace DL
open PySem PySem.Spec PyProof.Rows L2
def wF (a b:Str):Prop:=¬b.cps.toList<a.cps.toList
theorem BL:ltCps b.cps.toList a.cps.toList=false↔wF a b:=by rw[ltCps_eq,decide_eq_false_iff_not];rfl
theorem ud (h:wF a b)(k:wF b c):wF a c:=by
 unfold wF at *;exact List.not_lt.mpr (List.le_trans (List.not_lt.mp h) (List.not_lt.mp k))
theorem FD (h:wF a b)(k:wF b a):a=b:=by
 have e:a.cps.toList=b.cps.toList:=List.le_antisymm (List.not_lt.mp h) (List.not_lt.mp k);obtain⟨a⟩:=a;obtain⟨b⟩:=b;have:a=b:=Array.toList_inj.mp e;rw[this]
noncomputable def AB (x:Str):List Str->List Str
 |[]=>[x]
 |y::r=>if ltCps y.cps.toList x.cps.toList then y::AB x r else x::y::r
noncomputable def lB (l:List Str):List Str:=l.foldr AB []
theorem nO (x:Str):∀l,(AB x l).Perm (x::l)
 |[]=>List.Perm.refl _
 |y::r=>by
  unfold AB;split
  ·exact((nO x r).cons y).trans (List.Perm.swap x y r)
  ·exact List.Perm.refl _
theorem fZ:∀l,(lB l).Perm l
 |[]=>List.Perm.refl _
 |x::l=>(nO x (lB l)).trans ((fZ l).cons x)
theorem ue (x:Str):∀l,l.Pairwise wF->(AB x l).Pairwise wF
 |[],_=>by simp[AB]
 |y::r,h=>by
  obtain⟨h1,h2⟩:=List.pairwise_cons.mp h;unfold AB;split
  ·rename_i hl;refine List.pairwise_cons.mpr ⟨λz hz=>?_,ue x r h2⟩;rcases vP ((nO x r).mem_iff.mp hz)with rfl|hz
   ·rw[ltCps_eq,decide_eq_true_eq]at hl;exact λk=>List.lt_irrefl _ (List.lt_trans hl k)
   ·exact h1 z hz
  ·rename_i hl;rw[Bool.not_eq_true]at hl;have Pt:wF x y:=BL.mp hl;refine List.pairwise_cons.mpr ⟨λz hz=>?_,h⟩;rcases vP hz with rfl|hz
   ·exact Pt
   ·exact ud Pt (h1 z hz)
theorem qq:∀l,(lB l).Pairwise wF
 |[]=>List.Pairwise.nil
 |x::l=>ue x _ (qq l)
theorem oE:∀(l:List Str)(p:Str),risingS p l=true->(p::l).Pairwise wF
 |[],p,_=>List.pairwise_singleton _ _
 |x::r,p,h=>by
  have h':(!ltCps x.cps.toList p.cps.toList && risingS x r)=true:=h;rw[vC]at h';have WD:wF p x:=BL.mp (by simpa using h'.1);have ih:=oE r x h'.2;refine List.pairwise_cons.mpr ⟨λz hz=>?_,ih⟩;rcases vP hz with rfl|hz
  ·exact WD
  ·exact ud WD ((List.pairwise_cons.mp ih).1 z hz)
theorem yz:∀(l:List Str),sortedS l=true->l.Pairwise wF
 |[],_=>List.Pairwise.nil
 |x::r,h=>oE r x h
theorem y0 (a:Str):wF a a:=List.lt_irrefl _
theorem qr:∀(l1 l2:List Str),l1.Perm l2->l1.Pairwise wF->l2.Pairwise wF->l1=l2
 |[],l2,p,_,_=>(List.nil_perm.mp p).symm
 |x::r1,[],p,_,_=>absurd p.length_eq (by simp)
 |x::r1,y::r2,p,h1,h2=>by
  have Pt:wF x y:=by
   rcases vP (p.mem_iff.mpr (mX ..))with z|z
   ·rw[z];exact y0 _
   ·exact(List.pairwise_cons.mp h1).1 y z
  have UQ:wF y x:=by
   rcases vP (p.mem_iff.mp (mX ..))with z|z
   ·rw[z];exact y0 _
   ·exact(List.pairwise_cons.mp h2).1 x z
  have e:=FD Pt UQ;subst e;rw[qr r1 r2 (List.Perm.cons_inv p) (List.pairwise_cons.mp h1).2 (List.pairwise_cons.mp h2).2]
theorem DA (p:l'.Perm l)(h:sortedS l'=true):l'=lB l:=qr _ _ (p.trans (fZ l).symm) (yz _ h) (qq l)
section
variable {X:Cx}
noncomputable def FF (X:Cx)(S:Addr)(ts:List Str):HO:=.ext λh=>iY X.prog X.w h S ts
theorem nQ (I:Inv X ae σ H s)(k:∀b u,s.heap.get? b=some u->s1.heap.get? b=some u)(ho:s1.os=s.os)(hg:s1.gens=s.gens):Inv X ae σ H s1:=by
 have I1:=I.step (g':=s.gens) (d':=s1.drawn) (t':=s1.toks) (h':=s1.heap) (H':=H) (ch:=[]) (λ_ z=>nomatch z) (λb o _ _ _ e _=>k b o e) (λb o _ _ _ e _=>⟨o.slots,k b o e⟩) (λ_ _ _ _ n=>n)
  (λb o _ e=>⟨o,k b o e⟩) (λ_ _ e=>e) (λ_ _ _ e=>e) (λ_ _ e=>e) (λm hm=>?_) (I.hok.kept k) I.bare
 ·obtain⟨h1,g1,d1,t1,o1⟩:=s1;cases ho;cases hg
  exact I1
 ·obtain⟨o,es,ep,ho,r⟩:=hm;exact⟨o,es,ep,k _ o ho,r⟩
theorem y4 (hc:X.calm=true):bQ X (.type "set") (λxs H Q=>∃p ys ss,xs=[.ref p]/\gX X.K H p ys/\(∀its,aS ys its->StrsAre its ss)/\ss.length<4000/\∀S,H S=none->Q (.ref S) (upd H S (FF X S (iE ss)))):=by
 intro ae s σ H xs us Q I r h;obtain⟨p,ys,ss,rfl,hq,hs,Eu,q⟩:=h;obtain⟨u,rfl,rx⟩:=gK r;cases rx
 obtain⟨its,r',pl,hz⟩:=I.list hq;have nB:=hs its r';have bJ:its.length=ss.length:=by rw[←nB.strs,vI]
 refine qm (I.ok.hd hc) pl.isList (by simpa using nB) (by simp only[vH];unfold scanBound;omega) λh' tk hS hk=>?_;refine⟨.ref s.heap.objs.size,_,I.laid (t':=tk) (λb u e=>hk b u (vX e) e) (vT _) ?_,rfl,q _ (I.hok.fresh (vT _))⟩;refine⟨hS,?_,λh1 h2 z k=>z.at k⟩;obtain⟨o,_,_,_,ho,_⟩:=hS;exact⟨o,ho⟩
theorem p0 (hc:X.calm=true):bQ X (.builtin "sorted") (λxs H Q=>∃S ts,xs=[.ref S]/\H S=some (FF X S ts)/\ts.length<64/\∀l,H l=none->Q (.ref l) (upd H l (.lst ((lB ts).map .str)))):=by
 intro ae s σ H xs us Q I r h;obtain⟨S,ts,rfl,hS,Eu,q⟩:=h;obtain⟨u,rfl,rx⟩:=gK r;cases rx
 have hT:iY X.prog X.w s.heap S ts:=(I.hok S _ hS).1;refine AA (I.ok.hd hc) hT Eu λs1 h' a out n Ps k1 ho hg k2 hp he nB gB sL=>?_;have e:=DA gB sL;subst e;have I1:=nQ I k1 ho hg;have hv:∀ {its:List Value}{zs:List Str},StrsAre its zs->aS (zs.map V.str) its:=λz=>by
  induction z with
  |nil=>exact .nil
  |cons x t _ ih=>exact .cons ⟨t,rfl⟩ ih
 refine⟨.ref a,_,I1.laid (t':=s1.toks) k2 hp (show bN X.prog X.w _ h' _ (.lst _)from ⟨?_,out.toList,n,hv nB,he⟩),rfl,q _ (I1.hok.fresh hp)⟩;rw[vI,(fZ ts).length_eq,sizeLine_eq];omega
end
@[simp] def gz:D->OB
 |.lst ds=>(ia ds).bind λss=>if ss.length<64 then some (.lst ((lB (iE ss)).map .str),true)else none
 |_=>none
@[simp] def Sr:D->OB
 |.lst ds=>(ia ds).bind λss=>if ss.length<4000 then some (.int ((iE ss).length:Nat),false)else none
 |_=>none
theorem y6:bootBuiltins "sorted" = some (.builtin "sorted"):=by decide +kernel
theorem QH:bootBuiltins "set" = some (.type "set"):=by decide +kernel
theorem qt {K:Frag}{N:Hp}:∀(zs:List Str),IsL K N (zs.map V.str) (zs.map D.str)
 |[]=>.nil
 |z::zs=>.cons (.str z) (qt zs)
section
variable {X:Cx}{e:Expr}{pos pos2 p p2:Pos}
theorem qu (hc:X.calm=true)(m1:X.mg "sorted" = none)(m2:X.mg "set" = none)(he:JE X e f)(g1:Gl X "sorted":=by rfl)(g2:Gl X "set":=by rfl)
  (h1:starEach [e] X.env=(false,eval e X.env)::starEach [] X.env:=by rfl):JE X (.Call (.Name "sorted" p) [.Call (.Name "set" p2) [e] [] pos2] [] pos) (f1 gz f):=by
 refine PE.to (xF (p0 hc) g1 m1 y6 (iG (tI (y4 hc) g2 m2 QH (iG he ki h1) (he:=h1)) ki)) λσ H Q q=>?_;obtain⟨B,ρ,d',bb,sB,r,ee,q⟩:=q;obtain⟨x1,ex,ee⟩:=oX ee;refine⟨B,ρ,x1.1,x1.2,sB,r,ex,λv H1 N1 xt i1 fr=>?_⟩;obtain⟨xd,xb⟩:=x1;cases i1<;>try (simp[gz]at ee;done)
 rename_i l0 vs ds h hl;simp only[gz]at ee;obtain⟨ss,ez,ee⟩:=oX ee;split at ee
 ·rename_i Eu;cases ee
  refine⟨_,_,ss,rfl,xt.nh.seq h,λits r'=>k7 r' hl ez,by omega,λS hS=>⟨S,_,rfl,aC,Nat.lt_of_le_of_lt (ql ss) Eu,λl Er=>?_⟩⟩;have x2:=Ext.laid (o:=FF X S (iE ss)) xt.nh hS;have x3:=Ext.laid (o:=.lst ((lB (iE ss)).map V.str)) x2.nh Er;have UR:H l=none:=((xt.trans x2).hh).free Er;exact q _ _ _ ((xt.trans x2).trans x3) (.lst (gX.of aC) (qt _)) λ_=>⟨_,_,_,rfl,rfl,UR,aC,qt _⟩
 ·cases ee
end
end DL
namespace DL
open PySem PySem.Spec PySem.W PyProof.Rows
inductive Run (n:Nat)(lt:Nat->Nat->Bool){α:Type}:KasT α->α->Prop where
 |ret (a:α):Run n lt (.ret a) a
 |ask {i j:Nat}{k:Bool->KasT α}{a:α}(hi:i<n) (hj:j<n) (h:Run n lt (k (lt i j)) a):Run n lt (.ask i j k) a
theorem Run.bind {n:Nat}{lt:Nat->Nat->Bool}{α β:Type}{t:KasT α}{f:α->KasT β}{a:α}{b:β}(h:Run n lt t a)(k:Run n lt (f a) b):Run n lt (t.bind f) b:=by
 induction h with
 |ret a=>exact k
 |ask hi hj _ ih=>exact .ask hi hj (ih k)
theorem Run.wp {n:Nat}{lt:Nat->Nat->Bool}{α:Type}{WE:Nat->Nat->(Bool->Shared->Prop)->Shared->Prop}{Q:α->Shared->Prop}{t:KasT α}{a:α}(J:Shared->Prop)
  (hc:∀i j C s,i<n->j<n->J s->(∀s',J s'->C (lt i j) s')->WE i j C s) (h:Run n lt t a):∀ {s:Shared},J s->(∀s',J s'->Q a s')->t.kasWp WE Q s:=by
 induction h with
 |ret a=>intro s hJ hQ;exact hQ s hJ
 |ask hi hj _ ih=>intro s hJ hQ;exact hc _ _ _ _ hi hj hJ λs' hJ'=>ih hJ' hQ
section
variable {n:Nat}{rk:Nat->Int}
noncomputable abbrev qw (rk:Nat->Int)(i j:Nat):Bool:=decide (rk i<rk j)
noncomputable def cx (rk:Nat->Int)(p:Array Nat)(k:Nat):Int:=rk (p.getD k 0)
structure pB (n:Nat)(p:Array Nat):Prop where
 size:p.size=n
 perm:p.toList.Perm (List.range n)
theorem pB.lt {p:Array Nat}(h:pB n p){k:Nat}(hk:k<n):p.getD k 0<n:=by
 have fO:k<p.size:=by rw[h.size];exact hk
 have:p.getD k 0=p[k]:=by rw[Array.getD_eq_getD_getElem?,Array.getElem?_eq_getElem fO];rfl
 rw[this];exact List.mem_range.mp (h.perm.mem_iff.mp (by simp))
theorem pB.rev {p:Array Nat}(h:pB n p)(i j:Nat):pB n (kas_rev p i j) :=
 ⟨(mirror_size _ _ _ _).trans h.size,(Array.perm_iff_toList_perm.mp (mirror_perm p i j _)).trans h.perm⟩
theorem pB.bub {p:Array Nat}(h:pB n p)(k d:Nat):pB n (bubble p k d) :=
 ⟨(bubble_size _ _ _).trans h.size,(Array.perm_iff_toList_perm.mp (bubble_perm p k d)).trans h.perm⟩
theorem wG {p:Array Nat}{i j:Nat}(hj:j<=p.size)(k:Nat):cx rk (kas_rev p i j) k=if i<=k/\k<j then cx rk p (i+j - 1 - k)else cx rk p k:=by
 unfold cx kas_rev;rw[Array.getD_eq_getD_getElem?,getElem?_mirror_all hj];split<;>rw[Array.getD_eq_getD_getElem?]
theorem FH {p:Array Nat}{src d:Nat}(hs:src<p.size)(hd:d<=src)(k:Nat):cx rk (bubble p src d) k=if k=src - d then cx rk p src else if src - d<k/\k<=src then cx rk p (k - 1)else cx rk p k:=by
 unfold cx;simp only[Array.getD_eq_getD_getElem?];rw[getElem?_bubble hs d hd];repeat' split
 all_goals rfl
def Up (rk:Nat->Int)(p:Array Nat)(m:Nat):Prop:=∀i j,i<=j->j<m->cx rk p i<=cx rk p j
def wH (rk:Nat->Int)(p:Array Nat)(m:Nat):Prop:=∀i j,i<=j->j<m->cx rk p j<=cx rk p i
theorem NN (p:Array Nat):Up rk p 1:=λi j h1 h2=>by
 have:i=j:=by omega
 subst this;exact Int.le_refl _
theorem wI {p:Array Nat}(h:pB n p){r:Nat}(hr:r<=n):∀(f m:Nat),r - m=f->1<=m->m<=r->Up rk p m->∃m',Run n (qw rk) (kas_asc p f m) m'/\m<=m'/\m'<=r/\Up rk p m'/\(m'<r->cx rk p m'<cx rk p (m' - 1))
 |0,m,hf,h1,hm,hu=>⟨m,.ret m,vT _,hm,hu,λz=>by omega⟩
 |f+1,m,hf,h1,hm,hu=>by
  have a1:=h.lt (k:=m) (by omega);have a2:=h.lt (k:=m - 1) (by omega);by_cases hc:cx rk p m<cx rk p (m - 1)
  ·refine⟨m,.ask a1 a2 ?_,vT _,hm,hu,λ_=>hc⟩;have:qw rk (p.getD m 0) (p.getD (m - 1) 0)=true:=decide_eq_true hc;rw[this,if_pos rfl];exact .ret m
  ·have KQ:Up rk p (m+1):=λi j CT hj=>by
    by_cases e:j=m
    ·subst e;by_cases e2:i=j
     ·subst e2;exact Int.le_refl _
     ·have:=hu i (j - 1) (by omega) (by omega);omega
    ·exact hu i j CT (by omega)
   obtain⟨m',q1,q2,q3,q4,q5⟩:=wI h hr f (m+1) (by omega) (by omega) (by omega) KQ;refine⟨m',.ask a1 a2 ?_,by omega,q3,q4,q5⟩;have:qw rk (p.getD m 0) (p.getD (m - 1) 0)=false:=decide_eq_false hc;rw[this,if_neg uX];exact q1
def Jr (rk:Nat->Int)(p:Array Nat)(m q:Nat):Prop:=q+1<=m/\∀k,m - (q+1)<=k->k<m->cx rk p k=cx rk p (m - 1)
theorem y7 {p:Array Nat}{m q:Nat}(hs:m<=p.size)(hf:Jr rk p m q)(k:Nat):cx rk (kas_rev p (m - (q+1)) m) k=cx rk p k:=by
 rw[wG hs];split
 ·rename_i hk;have h0:=hf.1;rw[hf.2 k hk.1 hk.2,hf.2 _ (by omega) (by omega)]
 ·rfl
theorem BM {p p':Array Nat}{m:Nat}(e:∀k,cx rk p' k=cx rk p k)(h:wH rk p m):wH rk p' m:=λi j h1 h2=>by rw[e,e];exact h i j h1 h2
theorem qx (p:Array Nat){m:Nat}(h:1<=m):Jr rk p m 0:=⟨h,λk h1 h2=>by
 have:k=m - 1:=by omega
 rw[this]⟩
theorem m6 {r:Nat}(hr:r<=n):∀(f:Nat)(p:Array Nat)(m q:Nat),pB n p->r - m=f->1<=m->m<=r->wH rk p m->Jr rk p m q->∃p' m' q',Run n (qw rk) (kas_desc f p m q) (p',m',q')/\pB n p'/\m<=m'/\m'<=r/\wH rk p' m'/\Jr rk p' m' q'
 |0,p,m,q,h,hf,h1,hm,hd,hq=>⟨p,m,q,.ret _,h,vT _,hm,hd,hq⟩
 |f+1,p,m,q,h,hf,h1,hm,hd,hq=>by
  have a1:=h.lt (k:=m) (by omega);have a2:=h.lt (k:=m - 1) (by omega);have step:∀p':Array Nat,(∀k,cx rk p' k=cx rk p k)->cx rk p m<=cx rk p (m - 1)->wH rk p' (m+1):=λp' e KI i j CT hj=>by
   rw[e,e];by_cases z:j=m
   ·subst z;by_cases z2:i=j
    ·subst z2;exact Int.le_refl _
    ·have:=hd i (j - 1) (by omega) (by omega);omega
   ·exact hd i j CT (by omega)
  by_cases hc:cx rk p m<cx rk p (m - 1)
  ·have xq:qw rk (p.getD m 0) (p.getD (m - 1) 0)=true:=decide_eq_true hc;by_cases hq0:q > 0
   ·have e:=y7 (p:=p) (by rw[h.size];omega) hq;obtain⟨p',m',q',g1,g2,g3,g4,g5,g6⟩:=m6 hr f (kas_rev p (m - (q+1)) m) (m+1) 0 (h.rev _ _) (by omega) (by omega) (by omega) (step _ e (by omega)) (qx _ (by omega));refine⟨p',m',q',.ask a1 a2 ?_,g2,by omega,g4,g5,g6⟩;rw[xq,if_pos rfl,if_pos hq0];exact g1
   ·obtain⟨p',m',q',g1,g2,g3,g4,g5,g6⟩:=m6 hr f p (m+1) 0 h (by omega) (by omega) (by omega) (step _ (λ_=>rfl) (by omega)) (qx _ (by omega));refine⟨p',m',q',.ask a1 a2 ?_,g2,by omega,g4,g5,g6⟩;rw[xq,if_pos rfl,if_neg hq0];exact g1
  ·have xq:qw rk (p.getD m 0) (p.getD (m - 1) 0)=false:=decide_eq_false hc;by_cases zW:cx rk p (m - 1)<cx rk p m
   ·have O9:qw rk (p.getD (m - 1) 0) (p.getD m 0)=true:=decide_eq_true zW;refine⟨p,m,q,.ask a1 a2 ?_,h,vT _,hm,hd,hq⟩;rw[xq,if_neg uX];refine .ask a2 a1 ?_;rw[O9,if_pos rfl];exact .ret _
   ·have O9:qw rk (p.getD (m - 1) 0) (p.getD m 0)=false:=decide_eq_false zW;have he:cx rk p m=cx rk p (m - 1):=by omega
    obtain⟨p',m',q',g1,g2,g3,g4,g5,g6⟩:=m6 hr f p (m+1) (q+1) h (by omega) (by omega) (by omega) (step _ (λ_=>rfl) (by omega)) ⟨by have:=hq.1;omega,λk k1 k2=>by
     rw[Nat.add_sub_cancel];by_cases z:k=m
     ·rw[z]
     ·rw[hq.2 k (by omega) (by omega),he]⟩
    refine⟨p',m',q',.ask a1 a2 ?_,g2,by omega,g4,g5,g6⟩;rw[xq,if_neg uX];refine .ask a2 a1 ?_;rw[O9,if_neg uX];exact g1
theorem y8 {r:Nat}(hr:r<=n){p:Array Nat}(h:pB n p){m:Nat}(h1:1<=m)(hm:m<=r)(hd:wH rk p m):∃m' p',Run n (qw rk) (kas_tail3 m r p) (m',p')/\pB n p'/\1<=m'/\m'<=r/\Up rk p' m':=by
 have hu:Up rk (kas_rev p 0 m) m:=λi j CT hj=>by
  rw[wG (by rw[h.size];omega),wG (by rw[h.size];omega),if_pos (by omega),if_pos (by omega)];exact hd _ _ (by omega) (by omega)
 obtain⟨m',q1,q2,q3,q4,_⟩:=wI (h.rev 0 m) hr (r - m) m rfl h1 hm hu;exact⟨m',_,q1.bind (.ret _),h.rev 0 m,by omega,q3,q4⟩
theorem y9 {r:Nat}(hr:r<=n){p:Array Nat}(h:pB n p){m:Nat}(hm:m+1<=r)(hd:wH rk p (m+1)):∃m' p',Run n (qw rk) (kas_descPart m r p) (m',p')/\pB n p'/\1<=m'/\m'<=r/\Up rk p' m':=by
 obtain⟨p1,m1,q1,g1,g2,g3,g4,g5,g6⟩:=m6 hr (r - (m+1)) p (m+1) 0 h rfl (by omega) hm hd (qx _ (by omega));by_cases hq:q1 > 0
 ·obtain⟨m',p',k1,k2,k3,k4,k5⟩:=y8 hr (g2.rev (m1 - (q1+1)) m1) (m:=m1) (by omega) g4 (BM (y7 (by rw[g2.size];omega) g6) g5);exact⟨m',p',g1.bind (by dsimp only;rw[if_pos hq];exact k1),k2,k3,k4,k5⟩
 ·obtain⟨m',p',k1,k2,k3,k4,k5⟩:=y8 hr g2 (m:=m1) (by omega) g4 g5;exact⟨m',p',g1.bind (by dsimp only;rw[if_neg hq];exact k1),k2,k3,k4,k5⟩
theorem DB {p:Array Nat}(h:pB n p)(hn:1<=n):∃m' p',Run n (qw rk) (kas_count n p) (m',p')/\pB n p'/\1<=m'/\m'<=n/\Up rk p' m':=by
 obtain⟨m,q1,q2,q3,q4,q5⟩:=wI h (vT n) (n - 1) 1 rfl (vT 1) hn (NN (rk:=rk) p);by_cases e:m=n
 ·exact⟨m,p,q1.bind (by rw[if_pos (by simp[e])];exact .ret _),h,q2,q3,q4⟩
 ·have eZ:=q5 (by omega);have e1:¬(m == n)=true:=by simp[e]
  by_cases Pu:m > 1
  ·by_cases hc:cx rk p 0<cx rk p (m - 1)
   ·refine⟨m,p,q1.bind ?_,h,q2,q3,q4⟩;rw[if_neg e1,if_pos Pu];refine .ask (h.lt (by omega)) (h.lt (by omega)) ?_;have:qw rk (p.getD 0 0) (p.getD (m - 1) 0)=true:=decide_eq_true hc;rw[this,if_pos rfl];exact .ret _
   ·have ly:∀k,k<m->cx rk p k=cx rk p 0:=λk hk=>by
     have z1:=q4 0 k (by omega) hk;have z2:=q4 k (m - 1) (by omega) (by omega);omega
    have er:∀k,cx rk (kas_rev p 0 m) k=cx rk p k:=λk=>by
     rw[wG (by rw[h.size];omega)];split
     ·rename_i z;rw[ly _ (by omega),ly k z.2]
     ·rfl
    have hd:wH rk p (m+1):=λi j CT hj=>by
     by_cases z:j=m
     ·subst z;by_cases z2:i=j
      ·subst z2;exact Int.le_refl _
      ·rw[ly i (by omega)];rw[ly (j - 1) (by omega)]at eZ;omega
     ·rw[ly i (by omega),ly j (by omega)];exact Int.le_refl _
    obtain⟨m',p',k1,k2,k3,k4,k5⟩:=y9 (vT n) (h.rev 0 m) (m:=m) (by omega) (BM er hd);refine⟨m',p',q1.bind ?_,k2,k3,k4,k5⟩;rw[if_neg e1,if_pos Pu];refine .ask (h.lt (by omega)) (h.lt (by omega)) ?_;have:qw rk (p.getD 0 0) (p.getD (m - 1) 0)=false:=decide_eq_false hc;rw[this,if_neg uX];exact k1
  ·have em:m=1:=by omega
   subst em;have hd:wH rk p 2:=λi j CT hj=>by
    by_cases z2:i=j
    ·subst z2;exact Int.le_refl _
    ·have:i=0:=by omega
     have:j=1:=by omega
     subst_vars;have:=eZ;simp at this;omega
   obtain⟨m',p',k1,k2,k3,k4,k5⟩:=y9 (vT n) h (m:=1) (by omega) hd;refine⟨m',p',q1.bind ?_,k2,k3,k4,k5⟩;rw[if_neg e1,if_neg Pu];exact k1
theorem nR {p:Array Nat}(h:pB n p){k:Nat}(hk:k<n)(hu:Up rk p k):∀(f l r:Nat),r - l<=f->l<=r->r<=k->(∀i,i<l->cx rk p i<=cx rk p k)->(∀i,r<=i->i<k->cx rk p k<cx rk p i) ->
  ∃l',Run n (qw rk) (kas_place p k f l r) l'/\l'<=k/\(∀i,i<l'->cx rk p i<=cx rk p k)/\(∀i,l'<=i->i<k->cx rk p k<cx rk p i)
 |0,l,r,hf,hl,hr,h1,h2=>⟨l,.ret l,by omega,h1,λi a b=>h2 i (by omega) b⟩
 |f+1,l,r,hf,hl,hr,h1,h2=>by
  by_cases hge:l ≥ r
  ·refine⟨l,?_,by omega,h1,λi a b=>h2 i (by omega) b⟩;unfold kas_place;rw[if_pos hge];exact .ret l
  ·by_cases hc:cx rk p k<cx rk p ((l+r) / 2)
   ·obtain⟨l',q1,q2,q3,q4⟩:=nR h hk hu f l ((l+r) / 2) (by omega) (by omega) (by omega) h1 λi a b=>by
     have:=hu ((l+r) / 2) i a b;omega
    refine⟨l',?_,q2,q3,q4⟩;unfold kas_place;rw[if_neg hge];refine .ask (h.lt (by omega)) (h.lt (by omega)) ?_;have:qw rk (p.getD k 0) (p.getD ((l+r) / 2) 0)=true:=decide_eq_true hc;rw[this,if_pos rfl];exact q1
   ·obtain⟨l',q1,q2,q3,q4⟩:=nR h hk hu f ((l+r) / 2+1) r (by omega) (by omega) hr (λi a=>by
     have:=hu i ((l+r) / 2) (by omega) (by omega);omega) h2
    refine⟨l',?_,q2,q3,q4⟩;unfold kas_place;rw[if_neg hge];refine .ask (h.lt (by omega)) (h.lt (by omega)) ?_;have:qw rk (p.getD k 0) (p.getD ((l+r) / 2) 0)=false:=decide_eq_false hc;rw[this,if_neg uX];exact q1
theorem BN:∀(f:Nat)(p:Array Nat)(k:Nat),pB n p->n - k=f->k<=n->Up rk p k->∃p',Run n (qw rk) (kas_bin f p k) p'/\pB n p'/\Up rk p' n
 |0,p,k,h,hf,hk,hu=>⟨p,.ret p,h,(show k=n by omega) ▸ hu⟩
 |f+1,p,k,h,hf,hk,hu=>by
  have fO:k<n:=by omega
  obtain⟨l,q1,q2,q3,q4⟩:=nR h fO hu k 0 k (by omega) (by omega) (vT _) (λi z=>by omega) (λi a b=>by omega);have hsz:k<p.size:=by rw[h.size];exact fO
  have KQ:Up rk (bubble p k (k - l)) (k+1):=λi j CT hj=>by
   rw[FH hsz (by omega),FH hsz (by omega)];have e:k - (k - l)=l:=by omega
   rw[e];by_cases i1:i=l
   ·rw[if_pos i1];by_cases j1:j=l
    ·rw[if_pos j1];exact Int.le_refl _
    ·rw[if_neg j1,if_pos (by omega)];have:=q4 (j - 1) (by omega) (by omega);omega
   ·rw[if_neg i1];by_cases i2:l<i/\i<=k
    ·rw[if_pos i2,if_neg (by omega),if_pos (by omega)];exact hu _ _ (by omega) (by omega)
    ·rw[if_neg i2];by_cases j1:j=l
     ·rw[if_pos j1];exact q3 i (by omega)
     ·rw[if_neg j1];by_cases j2:l<j/\j<=k
      ·rw[if_pos j2];exact hu _ _ (by omega) (by omega)
      ·rw[if_neg j2];exact hu _ _ CT (by omega)
  obtain⟨p',k1,k2,k3⟩:=BN f (bubble p k (k - l)) (k+1) (h.bub _ _) (by omega) (by omega) KQ;exact⟨p',q1.bind k1,k2,k3⟩
theorem FI (hn:1<=n):∃p,Run n (qw rk) (kas_sort n) p/\pB n p/\Up rk p n:=by
 have h0:pB n (List.toArray (List.range n)):=⟨by simp,by simp⟩;obtain⟨m,p,q1,q2,q3,q4,q5⟩:=DB (rk:=rk) h0 hn;by_cases e:m<n
 ·have YM:max m 1=m:=by omega
  obtain⟨p',k1,k2,k3⟩:=BN (n - max m 1) p (max m 1) q2 rfl (by omega) (by rw[YM];exact q5);exact⟨p',q1.bind (by dsimp only;rw[if_pos e];exact k1),k2,k3⟩
 ·have:m=n:=by omega
  subst this;exact⟨p,q1.bind (by dsimp only;rw[if_neg e];exact .ret _),q2,q5⟩
end
theorem kZ {a b c:List Int}(h:a<b)(k:b<c):a<c:=List.lt_trans h k
theorem DC {a b c:List Int}(h:¬b<a)(k:¬c<b):¬c<a:=List.not_lt.mpr (List.le_trans (List.not_lt.mp h) (List.not_lt.mp k))
theorem FJ {a b:List Int}(h:¬b<a)(k:¬a<b):a=b:=List.le_antisymm (List.not_lt.mp h) (List.not_lt.mp k)
section
variable {α:Type}(f:α->List Int)
def HU (a b:α):Prop:=¬f b<f a
noncomputable def nU (x:α):List α->List α
 |[]=>[x]
 |y::r=>if f y<f x then y::nU x r else x::y::r
noncomputable def eD (l:List α):List α:=l.foldr (nU f) []
theorem nV (x:α):∀l,(nU f x l).Perm (x::l)
 |[]=>List.Perm.refl _
 |y::r=>by
  unfold nU;split
  ·exact((nV x r).cons y).trans (List.Perm.swap x y r)
  ·exact List.Perm.refl _
theorem b8:∀l,(eD f l).Perm l
 |[]=>List.Perm.refl _
 |x::l=>(nV f x (eD f l)).trans ((b8 l).cons x)
theorem ug (x:α):∀l,l.Pairwise (HU f)->(nU f x l).Pairwise (HU f)
 |[],_=>by simp[nU]
 |y::r,h=>by
  obtain⟨h1,h2⟩:=List.pairwise_cons.mp h;unfold nU;split
  ·rename_i hl;refine List.pairwise_cons.mpr ⟨λz hz=>?_,ug x r h2⟩;rcases vP ((nV f x r).mem_iff.mp hz)with rfl|hz
   ·exact λk=>List.lt_irrefl _ (kZ hl k)
   ·exact h1 z hz
  ·rename_i hl;refine List.pairwise_cons.mpr ⟨λz hz=>?_,h⟩;rcases vP hz with rfl|hz
   ·exact hl
   ·exact DC hl (h1 z hz)
theorem ib:∀l,(eD f l).Pairwise (HU f)
 |[]=>List.Pairwise.nil
 |x::l=>ug f x _ (ib l)
theorem uh:∀(l1 l2:List α),(∀x∈l1,∀y∈l1,f x=f y->x=y)->l1.Perm l2->l1.Pairwise (HU f)->l2.Pairwise (HU f)->l1=l2
 |[],l2,_,p,_,_=>(List.nil_perm.mp p).symm
 |x::r1,[],_,p,_,_=>absurd p.length_eq (by simp)
 |x::r1,y::r2,hi,p,h1,h2=>by
  have hy:y∈x::r1:=p.mem_iff.mpr (mX ..);have Pt:HU f x y:=by
   rcases vP hy with z|z
   ·rw[z];exact List.lt_irrefl _
   ·exact(List.pairwise_cons.mp h1).1 y z
  have UQ:HU f y x:=by
   rcases vP (p.mem_iff.mp (mX ..))with z|z
   ·rw[z];exact List.lt_irrefl _
   ·exact(List.pairwise_cons.mp h2).1 x z
  have e:x=y:=hi x (mX ..) y hy (FJ Pt UQ);subst e;rw[uh r1 r2 (λa ha b hb=>hi a (mZ _ ha) b (mZ _ hb)) (List.Perm.cons_inv p) (List.pairwise_cons.mp h1).2 (List.pairwise_cons.mp h2).2]
theorem k8 (hi:∀x∈l,∀y∈l,f x=f y->x=y)(p:l'.Perm l)(h:l'.Pairwise (HU f)):l'=eD f l :=
 uh f _ _ (λx hx y hy=>hi x (p.mem_iff.mp hx) y (p.mem_iff.mp hy)) (p.trans (b8 f l).symm) h (ib f l)
end
theorem lO {α:Type}{p q:α->Bool}(h:∀x,p x=true->q x=true):∀l:List α,(l.filter p).length<=(l.filter q).length
 |[]=>vT _
 |x::l=>by
  have ih:=lO h l;rw[List.filter_cons,List.filter_cons];by_cases z:p x=true
  ·rw[if_pos z,if_pos (h x z)];simp only[vE];omega
  ·rw[if_neg z];split
   ·simp only[vE];omega
   ·exact ih
noncomputable def m7 (cs:List (List Int))(c:List Int):Int:=((cs.filter λx=>decide (x<c)).length:Nat)
theorem Js {cs:List (List Int)}{a b:List Int}(h:¬b<a):m7 cs a<=m7 cs b:=by
 unfold m7;refine Int.ofNat_le.mpr (lO (λx hx=>?_) cs);rw[decide_eq_true_eq]at hx ⊢;rcases List.le_iff_lt_or_eq.mp (List.not_lt.mp h)with z|z
 ·exact kZ hx z
 ·rw[←z];exact hx
theorem BO {cs:List (List Int)}{a b:List Int}(ha:a∈cs)(h:a<b):m7 cs a<m7 cs b:=by
 unfold m7;apply Int.ofNat_lt.mpr;induction cs with
 |nil=>simp at ha
 |cons c cs ih=>
  have key:∀l:List (List Int),(l.filter λx=>decide (x<a)).length<=(l.filter λx=>decide (x<b)).length:=λl=>
   lO (λx hx=>by rw[decide_eq_true_eq]at hx ⊢;exact kZ hx h) l
  rw[List.filter_cons,List.filter_cons];rcases vP ha with rfl|ha
  ·rw[if_neg (by simp[List.lt_irrefl]),if_pos (by simpa using h)];have:=key cs;simp only[vE];omega
  ·have:=ih ha;by_cases z:c<a
   ·rw[if_pos (by simpa using z),if_pos (by simpa using kZ z h)];simp only[vE];omega
   ·rw[if_neg (by simpa using z)];split
    ·simp only[vE];omega
    ·exact this
theorem yA (ha:a∈cs):decide (m7 cs a<m7 cs b)=decide (a<b):=by
 by_cases h:a<b
 ·rw[decide_eq_true h,decide_eq_true (BO ha h)]
 ·rw[decide_eq_false h,decide_eq_false];have:=Js (cs:=cs) h;omega
inductive At where
 |i (n:Int)
 |s (z:Str)
noncomputable def NO:At->List Int
 |.i n=>[n]
 |.s z=>z.cps.toList.map (λ(c:Nat)=>(c:Int)+1)++[0]
noncomputable def cO (xs:List At):List Int:=xs.flatMap NO
noncomputable def ba:List At->List At->Option Bool
 |[],ys=>some (!ys.isEmpty)
 |_::_,[]=>some false
 |.i a::xs,.i b::ys=>if a=b then ba xs ys else some (decide (a<b))
 |.s a::xs,.s b::ys=>if a=b then ba xs ys else some (decide (a.cps.toList<b.cps.toList))
 |_::_,_::_=>none
theorem wJ:∀(a b:List Nat)(r r':List Int),(a.map (λ(c:Nat)=>(c:Int)+1)++0::r)<(b.map (λ(c:Nat)=>(c:Int)+1)++0::r')↔a<b∨(a=b/\r<r')
 |[],[],r,r'=>by simp[List.cons_lt_cons_iff]
 |[],y::b,r,r'=>by simp[List.cons_lt_cons_iff]
 |x::a,[],r,r'=>by simp[List.cons_lt_cons_iff];omega
 |x::a,y::b,r,r'=>by
  rw[uY,uY,List.cons_append,List.cons_append,List.cons_lt_cons_iff,wJ a b r r',List.cons_lt_cons_iff];constructor
  ·rintro (h|⟨h,k|⟨k1,k2⟩⟩)
   ·exact .inl (.inl (by omega))
   ·exact .inl (.inr ⟨by omega,k⟩)
   ·exact .inr ⟨by rw[k1,show x=y by omega],k2⟩
  ·rintro ((h|⟨h,k⟩)|⟨h,k⟩)
   ·exact .inl (by omega)
   ·exact .inr ⟨by omega,.inl k⟩
   ·injection h with h1 h2;exact .inr ⟨by omega,.inr ⟨h2,k⟩⟩
theorem jq (x:At)(xs:List At):cO (x::xs)=NO x++cO xs:=by unfold cO;rw[uO]
theorem NP (x:At):NO x≠[]:=by cases x<;>simp[NO]
theorem BP {a b:Str}:a.cps.toList=b.cps.toList↔a=b:=by
 constructor
 ·intro h;obtain⟨a⟩:=a;obtain⟨b⟩:=b;have:a=b:=Array.toList_inj.mp h;rw[this]
 ·rintro rfl;rfl
theorem wK:∀(xs ys:List At)(b:Bool),ba xs ys=some b->b=decide (cO xs<cO ys)
 |[],[],b,h=>by simp[ba]at h;subst h;simp[cO]
 |[],y::ys,b,h=>by
  simp[ba]at h;subst h;rw[jq];cases e:NO y with
  |nil=>exact absurd e (NP y)
  |cons c cs=>simp[cO]
 |x::xs,[],b,h=>by simp[ba]at h;subst h;simp[cO]
 |.i a::xs,.i c::ys,b,h=>by
  rw[ba]at h;rw[jq,jq];show b=decide (a::cO xs<c::cO ys);split at h
  ·rename_i e;subst e;rw[wK xs ys b h];exact decide_eq_decide.mpr (by rw[List.cons_lt_cons_iff];simp)
  ·rename_i e;cases h
   exact decide_eq_decide.mpr (by rw[List.cons_lt_cons_iff];simp[e])
 |.s a::xs,.s c::ys,b,h=>by
  rw[ba]at h;rw[jq,jq];have e0:∀(z:Str)(r:List Int),NO (.s z)++r=z.cps.toList.map (λ(c:Nat)=>(c:Int)+1)++0::r:=λz r=>by simp[NO]
  rw[e0,e0];split at h
  ·rename_i e;subst e;rw[wK xs ys b h];exact decide_eq_decide.mpr (by rw[wJ];exact⟨λz=>.inr ⟨rfl,z⟩,λz=>z.elim (λq=>absurd q (List.lt_irrefl _)) (·.2)⟩)
  ·rename_i e;cases h
   exact decide_eq_decide.mpr (by rw[wJ,BP];exact⟨.inl,λz=>z.elim id λq=>absurd q.1 e⟩)
 |.i _::_,.s _::_,b,h=>by simp[ba]at h
 |.s _::_,.i _::_,b,h=>by simp[ba]at h
theorem AD:∀(xs ys:List At),ba xs ys=some false->ba ys xs=some false->xs=ys
 |[],[],_,_=>rfl
 |[],y::ys,h,_=>by simp[ba]at h
 |x::xs,[],_,h=>by simp[ba]at h
 |.i a::xs,.i c::ys,h,k=>by
  rw[ba]at h k;by_cases e:a=c
  ·subst e;rw[if_pos rfl]at h k;rw[AD xs ys h k]
  ·rw[if_neg e]at h;rw[if_neg (Ne.symm e)]at k;simp at h k;omega
 |.s a::xs,.s c::ys,h,k=>by
  rw[ba]at h k;by_cases e:a=c
  ·subst e;rw[if_pos rfl]at h k;rw[AD xs ys h k]
  ·rw[if_neg e]at h;rw[if_neg (Ne.symm e)]at k;simp only[Option.some.injEq,decide_eq_false_iff_not]at h k;exact absurd (BP.mp (List.le_antisymm (List.not_lt.mp k) (List.not_lt.mp h))) e
 |.i _::_,.s _::_,h,_=>by simp[ba]at h
 |.s _::_,.i _::_,h,_=>by simp[ba]at h
noncomputable def eE (ks:List (List At)):Bool:=ks.all λx=>ks.all λy=>(ba x y).isSome
theorem gZ (h:eE ks=true)(hx:x∈ks)(hy:y∈ks):ba x y=some (decide (cO x<cO y)):=by
 have:=uR (uR h x hx) y hy;obtain⟨b,e⟩:=uU this;rw[e,wK _ _ _ e]
theorem nW (h:eE ks=true)(hx:x∈ks)(hy:y∈ks)(e:cO x=cO y):x=y:=by
 refine AD _ _ ?_ ?_
 ·rw[gZ h hx hy,e,decide_eq_false (List.lt_irrefl _)]
 ·rw[gZ h hy hx,e,decide_eq_false (List.lt_irrefl _)]
def zU:At->Value->Prop
 |.i n,v=>∃t,v=.int n t
 |.s z,v=>∃t,v=.str z t
def ie (h:Heap)(xs:List At)(v:Value):Prop:=∃a o its n,v=.ref a/\h.get? a=some o/\o.cls=.type "tuple"/\o.data=.seq its n/\Paired zU xs its.toList
noncomputable def fF (ks:List (List At)):Bool:=ks.all (λx=>match x with|.i _::_=>true|_=>false) || ks.all (λx=>match x with|.s _::_=>true|_=>false)
section
variable {prog:Program}{w:World}{A:Around}{E:Value->Shared->Prop}{s:Shared}
theorem qy:∀(xs ys:List At)(its gE:List Value)(i:Nat),Paired zU xs its->Paired zU ys gE->ba xs ys=some b->iF=decide (xs.length<ys.length)->Q b s->KatLex prog w A true iF Q (its.zip gE) i s
 |[],ys,_,gE,i,.nil,r2,h,hf,q=>by
  rw[List.zip_nil_left];refine kat_nil ?_;cases ys with
  |nil=>simp[ba]at h;subst h;rw[hf];exact q
  |cons y ys=>simp[ba]at h;subst h;rw[hf];simpa using q
 |x::xs,[],_,_,i,_,.nil,h,hf,q=>by
  rw[List.zip_nil_right];refine kat_nil ?_;simp[ba]at h;subst h;rw[hf];simpa using q
 |.i a::xs,.i c::ys,_,_,i,.cons r1 HA,.cons r2 r2',h,hf,q=>by
  obtain⟨t,rfl⟩:=r1;obtain⟨u,rfl⟩:=r2;rw[List.zip_cons_cons];refine kat_cons (wpAny_eqBool_int ?_);rw[ba]at h;by_cases e:a=c
  ·rw[if_pos e]at h;rw[show(a == c)=true by simp[e]];exact kat_yes (qy xs ys _ _ (i+1) HA r2' h (by rw[hf];simp) q)
  ·rw[if_neg e]at h;cases h
   rw[show(a == c)=false by simp[e]];refine kat_no ?_;cases hb:(true && i == 0) with
   |true=>exact oneLt_int q
   |false=>exact kat_one _ _ (PyProof.Rows.lt_int q)
 |.s a::xs,.s c::ys,_,_,i,.cons r1 HA,.cons r2 r2',h,hf,q=>by
  obtain⟨t,rfl⟩:=r1;obtain⟨u,rfl⟩:=r2;rw[List.zip_cons_cons];refine kat_cons (wpAny_eqBool_str ?_);rw[ba]at h;by_cases e:a=c
  ·rw[if_pos e]at h;rw[decide_eq_true e];exact kat_yes (qy xs ys _ _ (i+1) HA r2' h (by rw[hf];simp) q)
  ·rw[if_neg e]at h;cases h
   rw[decide_eq_false e];refine kat_no ?_;cases hb:(true && i == 0) with
   |true=>exact oneLt_str q
   |false=>exact kat_one _ _ (PySem.P.lt_str q)
 |.i _::_,.s _::_,_,_,_,_,_,h,_,_=>by simp[ba]at h
 |.s _::_,.i _::_,_,_,_,_,_,h,_,_=>by simp[ba]at h
theorem ga {α β:Type}{F:α->β->Prop}:∀ {l₁:List α}{l₂:List β},Paired F l₁ l₂->l₁.length=l₂.length
 |_,_,.nil=>rfl
 |_,_,.cons _ t=>by simp[ga t]
theorem NQ {Q:Bool->Shared->Prop}{xs ys:List At}{x y:Value}{b:Bool}(hx:ie s.heap xs x)(hy:ie s.heap ys y)(h:ba xs ys=some b)(q:Q b s):wpAny (model prog w) A (keyLt' (tuples' true) x y) Q E s:=by
 obtain⟨a,o,its,n,rfl,ho,_,hd,r⟩:=hx;obtain⟨a',o',its',n',rfl,sD,_,Bi,r'⟩:=hy;refine kat_lt ho hd sD Bi (qy xs ys _ _ 0 r r' h ?_ q);rw[←vG,←vG,ga r,ga r']
theorem oF:∀ {ks:List (List At)}{vs:List Value},Paired (ie h) ks vs->(∀k∈ks,k≠[])->∃fs,KatTups h vs fs/\fs.length=ks.length/\∀v∈fs,∃k r,(k::r)∈ks/\zU k v
 |_,_,.nil,_=>⟨[],trivial,rfl,by simp⟩
 |k::ks,_,.cons x t,o7=>by
  obtain⟨fs,h1,h2,h3⟩:=oF t λz hz=>o7 z (mZ _ hz);obtain⟨a,o,its,n,rfl,ho,hc,hd,r⟩:=x;cases r':its.toList with
  |nil=>
   rw[r']at r;cases r
   exact absurd rfl (o7 [] (mX ..))
  |cons v vs=>
   rw[r']at r;obtain⟨p,r1⟩:∃p,its[0]? = some v:=⟨(),by rw[←Array.getElem?_toList,r'];rfl⟩;cases r with
   |cons q qs=>
    rename_i k0 kr;refine⟨v::fs,KatTups.cons ho hc hd r1 h1,by simp[h2],λu hu=>?_⟩;rcases vP hu with rfl|hu
    ·exact⟨k0,kr,mX ..,q⟩
    ·obtain⟨k1,r1,m1,m2⟩:=h3 u hu;exact⟨k1,r1,mZ _ m1,m2⟩
theorem FK (hp:Paired (ie s.heap) ks vs)(hf:fF ks=true)(hn:0<ks.length)(q:Q (tuples' true) s):wpAny (model prog w) A (keyKind' vs.toArray) Q E s:=by
 have o7:∀k∈ks,k≠[]:=λk hk z=>by
  subst z;unfold fF at hf;rw[Bool.or_eq_true]at hf;rcases hf with hf|hf
  ·have:=uR hf [] hk;simp at this
  ·have:=uR hf [] hk;simp at this
 obtain⟨fs,h1,h2,h3⟩:=oF hp o7;unfold fF at hf;rw[Bool.or_eq_true]at hf;rcases hf with hf|hf
 ·refine kat_kind (T:=.type "int") h1 (by omega) (λv hv=>?_) (by decide) q;obtain⟨k,r,m,z⟩:=h3 v hv;have:=uR hf _ m;cases k with
  |i n=>obtain⟨t,rfl⟩:=z;exact .now
  |s z'=>simp at this
 ·refine kat_kind (T:=.type "str") h1 (by omega) (λv hv=>?_) (by decide) q;obtain⟨k,r,m,z⟩:=h3 v hv;have:=uR hf _ m;cases k with
  |s z'=>obtain⟨t,rfl⟩:=z;exact .now
  |i n=>simp at this
end
section
variable {prog:Program}{w:World}{A:Around}{E:Value->Shared->Prop}{s:Shared}
theorem eV {α β:Type}{F:α->β->Prop}(d:α)(e:β):∀ {l₁:List α}{l₂:List β},Paired F l₁ l₂->∀ {i:Nat},i<l₁.length->F (l₁.getD i d) (l₂.getD i e)
 |_,_,.cons r t,0,_=>r
 |_,_,.cons r t,i+1,h=>by
  simp only[List.getD_cons_succ];exact eV d e t (by simpa using h)
 |_,_,.nil,i,h=>by simp at h
def HV (ks:List (List At))(i:Nat):Int:=m7 (ks.map cO) (cO (ks.getD i []))
theorem Jt {ks:List (List At)}{vs:List Value}(hc:eE ks=true)(hp:Paired (ie s.heap) ks vs):∀(i j:Nat)(C:Bool->Shared->Prop)(s1:Shared),i<ks.length->j<ks.length->s1=s->(∀s',s'=s->C (qw (HV ks) i j) s')->kas_ask prog w A (tuples' true) vs i j C s1:=by
 intro i j C s1 hi hj e hC;subst e;unfold kas_ask;have mi:ks.getD i []∈ks:=by rw[vF,vU hi];exact List.getElem_mem hi
 have mj:ks.getD j []∈ks:=by rw[vF,vU hj];exact List.getElem_mem hj
 refine NQ (eV [] Value.none hp hi) (eV [] Value.none hp hj) (gZ hc mi mj) ?_;have:=hC s1 rfl;unfold qw HV at this;rw[yA (uS ⟨_,mi,rfl⟩)]at this;exact this
end
end DL
namespace DL
open PySem PySem.Spec PySem.W PyProof.Rows L2
noncomputable def LD:D->Option At
 |.int n=>some (.i n)
 |.str z=>some (.s z)
 |_=>none
def eW:List D->Option (List At)
 |[]=>some []
 |d::ds=>(LD d).bind λa=>(eW ds).map (a :: ·)
def yB:D->Option (List At)
 |.tup es=>eW es
 |_=>none
def dE:List D->Option (List (List At))
 |[]=>some []
 |d::ds=>(yB d).bind λa=>(dE ds).map (a :: ·)
noncomputable def LF:List D->Option (List Int)
 |[]=>some []
 |.int n::ds=>(LF ds).map (n :: ·)
 |_::_=>none
def qz (ns:List Int):List Int:=eD (λn=>[n]) ns
theorem la:∀ {ds:List D}{ks:List (List At)},dE ds=some ks->ks.length=ds.length
 |[],_,h=>by simp only[dE]at h;cases h;rfl
 |d::ds,_,h=>by
  simp only[dE]at h;obtain⟨a,h1,h⟩:=oX h;obtain⟨r,h2,h⟩:=oY h;subst h;simp[la h2]
theorem ui:∀ {ds:List D}{ks:List (List At)},dE ds=some ks->∀ {i:Nat},i<ds.length->yB (ds.getD i .non)=some (ks.getD i [])
 |[],_,h,i,hi=>by simp at hi
 |d::ds,_,h,0,hi=>by
  simp only[dE]at h;obtain⟨a,h1,h⟩:=oX h;obtain⟨r,h2,h⟩:=oY h;subst h;exact h1
 |d::ds,_,h,i+1,hi=>by
  simp only[dE]at h;obtain⟨a,h1,h⟩:=oX h;obtain⟨r,h2,h⟩:=oY h;subst h;simp only[List.getD_cons_succ];exact ui h2 (by simpa using hi)
section
variable {X:Cx}
theorem yC {K:Frag}{B:Hp}:∀ {vs:List V}{es:List D}{k:List At}{its:List Value},aS vs its->IsL K B vs es->eW es=some k->Paired zU k its
 |_,_,_,_,.nil,.nil,h=>by simp only[eW]at h;cases h;exact .nil
 |_,_,_,_,.cons r rr,.cons i ii,h=>by
  simp only[eW]at h;obtain⟨a,h1,h⟩:=oX h;obtain⟨t,h2,h⟩:=oY h;subst h;refine .cons ?_ (yC rr ii h2);cases i<;>simp only[LD]at h1<;>cases h1
  ·exact r
  ·exact r
theorem pF {ae:List (Addr×Obj)}{σ:St}{H:Hp}{s:Shared}(I:Inv X ae σ H s):∀ {ys:List V}{ds:List D}{ks:List (List At)}{its:List Value},aS ys its->IsL X.K H ys ds->dE ds=some ks->Paired (ie s.heap) ks its
 |_,_,_,_,.nil,.nil,h=>by simp only[dE]at h;cases h;exact .nil
 |_,_,_,_,.cons r rr,.cons i ii,h=>by
  simp only[dE]at h;obtain⟨a,h1,h⟩:=oX h;obtain⟨t,h2,h⟩:=oY h;subst h;refine .cons ?_ (pF I rr ii h2);cases i<;>simp only[yB]at h1<;>try (cases h1;done)
  rename_i hq hl;cases r
  obtain⟨its',r',⟨o,ho,hc,n,hd⟩,_⟩:=I.tuple hq;exact⟨_,o,_,n,rfl,ho,hc,hd,by simpa using yC r' hl h1⟩
theorem BQ {K:Frag}{B:Hp}:∀ {vs:List V}{ds:List D},IsL K B vs ds->∀ {i:Nat},i<ds.length->Is K B (vs.getD i .non) (ds.getD i .non)
 |_,_,.cons h _,0,_=>h
 |_,_,.cons _ t,i+1,hi=>by
  simp only[List.getD_cons_succ];exact BQ t (by simpa using hi)
 |_,_,.nil,i,hi=>by simp at hi
theorem yD:∀ {vs:List V}{us:List Value},aS vs us->∀ {i:Nat},i<vs.length->aU (vs.getD i .non) (us.getD i Value.none)
 |_,_,.cons h _,0,_=>h
 |_,_,.cons _ t,i+1,hi=>by
  simp only[List.getD_cons_succ];exact yD t (by simpa using hi)
 |_,_,.nil,i,hi=>by simp at hi
theorem yE {K:Frag}{B:Hp}{vs:List V}{ds:List D}(h:IsL K B vs ds):∀(l:List Nat),(∀i∈l,i<ds.length)->IsL K B (l.map λi=>vs.getD i .non) (l.map λi=>ds.getD i .non)
 |[],_=>.nil
 |i::l,hl=>.cons (BQ h (hl i (mX ..))) (yE h l λj hj=>hl j (mZ _ hj))
theorem uj (h:aS vs us):∀(l:List Nat),(∀i∈l,i<vs.length)->aS (l.map λi=>vs.getD i .non) (l.map λi=>us.getD i Value.none)
 |[],_=>.nil
 |i::l,hl=>.cons (yD h (hl i (mX ..))) (uj h l λj hj=>hl j (mZ _ hj))
end
section
variable {X:Cx}
theorem jo:∀ {its:List Value}{zs:List Int},IntsAre its zs->aS (zs.map V.int) its
 |_,_,.nil=>.nil
 |_,_,.cons x t r=>.cons ⟨t,rfl⟩ (jo r)
theorem q8 {K:Frag}{N:Hp}:∀(zs:List Int),IsL K N (zs.map V.int) (zs.map D.int)
 |[]=>.nil
 |z::zs=>.cons (.int z) (q8 zs)
theorem FL (p:l'.Perm l)(h:l'.Pairwise (·<=·)):l'=qz l:=by
 refine k8 _ (λx _ y _ e=>by injection e) p (h.imp λ{a b} hab=>?_);unfold HU;intro z;rw[List.cons_lt_cons_iff]at z;rcases z with z|⟨_,z⟩
 ·omega
 ·exact List.lt_irrefl _ z
end
end DL
namespace DL
open PySem PySem.Spec PyProof.Rows L2
section
variable {X:Cx}{pos:Pos}
@[simp] def X6 (i:Nat)(f:FE):FS:=λρ=>match ρ[i]? with
 |some (some (.lst ds,true))=>(f ρ).bind λx=>(LF ds).bind λns=>match x.1 with
  |.int n=>if ns.findIdx (· == n)<ns.length then some (.nx (ρ.set i (some (.lst ((ns.eraseIdx (ns.findIdx (· == n))).map .int),true))))else none
  |_=>none
 |_=>none
end
section
variable {prog:Program}{w:World}{A:Around}{E:Value->Shared->Prop}{s:Shared}
theorem AE {a:Addr}{o:Obj}{its:Array Value}{n:Nat}{x:Value}{e:Value->Bool}{j:Nat}{P:PySem.Fin->Shared->Prop}(ho:s.heap.get? a=some o)(hd:o.data=.seq its n)
  (he:∀y∈its,MeetsSeq.EqGives y x (e y)) (hj:j<its.size) (zY:e its[j]=true) (Hu:∀m (hm:m<its.size),m<j->e its[m]=false)
  (h:P (.done (.ret (.int j s.toks))) { s with toks:=s.toks+1 }):wpAny (model prog w) A (Builtin.«tuple.index» ⟨[.ref a,x],[]⟩) P E s:=by
 show wpAny _ _ (Builtin.Tuple.tupleItemsOf (.ref a)>>=_) _ _ s;refine wX (wpAny_tupleItemsOf ho hd ?_);dsimp only;refine wX (wY (wX (wY (wX ?_))));rw[Std.Legacy.Range.forIn_eq_forIn_range'];refine wpAny_forIn_list _
  (λaD r s'=>r.1=none/\s'=s/\∃i,i<=j/\aD=List.range' i (its.size - i))
  _ ?_ ?_ _ _ ⟨rfl,rfl,0,uN _,?_⟩
 ·rintro k aD r s' ⟨hr,rfl,i,hi,hz⟩;have eZ:i<its.size:=by omega
  obtain⟨m,hm⟩:∃m,its.size - i=m+1:=⟨its.size - i - 1,by omega⟩;rw[hm,List.range'_succ]at hz;injection hz with z1 z2;have z1:=z1.symm;subst z1;subst z2;have hg:its[i]? = some its[i]:=by simp[eZ]
  simp only[hg];refine wX (he _ (Array.getElem_mem eZ) prog w _ _ _ _ ?_);by_cases CT:i=j
  ·subst CT;rw[zY];simp only[if_true];refine wX ?_;show wpAny _ _ (mkInt (i:Int)>>=λv=>ret v) _ _ _;exact wX (wpAny_mkInt (wY (wY (wY h))))
  ·rw[Hu i eZ (by omega)];simp only[uV,if_false];exact wY ⟨rfl,rfl,i+1,by omega,by rw[show its.size - (i+1)=m by omega]⟩
 ·rintro⟨r1,r2⟩ s' ⟨hr,rfl,i,hi,hz⟩;exfalso;have:(List.range' i (its.size - i)).length=0:=by rw[←hz];rfl
  rw[List.length_range']at this;omega
 ·simp
end
theorem CRows.findT {K:Frag}{P:Params}(y:Str){ds:List D}:∀ {es:List DictEntry}{aK:List (Str×D)},CRows K P es aK->aK.lookup y=some (.tup ds) ->
  ∃e a its n pq,es.find? (λe=>Value.isStrOf y e.key)=some e/\e.val=.ref a/\K.lookup a=some ⟨.type "tuple",none,.seq its n,pq⟩/\jE its.toList ds=true
 |_,_,.nil,h=>by simp at h
 |_,_,.tup (x:=x) (t:=t) (a:=a) (ds:=Ia) hh l f tl,h=>by
  by_cases e:y=x
  ·subst e;rw[List.lookup_cons_self]at h;cases h
   rw[vC]at f;exact⟨_,a,_,_,_,List.find?_cons_of_pos (by simp[Value.isStrOf]),rfl,l,f.2⟩
  ·rw[List.lookup_cons,beq_eq_false_iff_ne.mpr e]at h;have nf:Value.isStrOf y (Value.str x t)=false:=by
    rw[Bool.eq_false_iff];intro z;obtain⟨t',q⟩:=Value.isStrOf_shape z;injection q with q1;exact e q1.symm
   simp only[List.find?_cons,nf];exact tl.findT y h
 |_,_,.flat (x:=x) (t:=t) (u:=u) (d:=d) hh f tl,h=>by
  by_cases e:y=x
  ·subst e;rw[List.lookup_cons_self]at h;cases h
   cases u<;>simp[w6]at f
  ·rw[List.lookup_cons,beq_eq_false_iff_ne.mpr e]at h;have nf:Value.isStrOf y (Value.str x t)=false:=by
    rw[Bool.eq_false_iff];intro z;obtain⟨t',q⟩:=Value.isStrOf_shape z;injection q with q1;exact e q1.symm
   simp only[List.find?_cons,nf];exact tl.findT y h
section
variable {X:Cx}{b e:Expr}{pos:Pos}{x:Str}{p:Pos}
def TV (K:Frag):V->List V->Hp->VK->Prop:=λx xs H Q=>∃(a:Addr)(o:Obj)(its:Array Value)(n:Nat)(zs:List Str)(y:Str),x=.ref a/\xs=[.str y]/\K.lookup a=some o/\o.cls=.type "tuple"/\o.data=.seq its n/\StrsAre its.toList zs/\zs.findIdx (· == y)<zs.length/\Q (.int (zs.findIdx (· == y):Nat)) H
noncomputable def LG (y:Str):Value->Bool
 |.str z _=>z == y
 |_=>false
theorem BR:∀ {its:List Value}{zs:List Str},StrsAre its zs->∀(i:Nat)(hi:i<its.length),∃(h:i<zs.length)(t:Tok),its[i]=.str zs[i] t
 |_,_,.cons z t h,0,_=>⟨by simp,t,rfl⟩
 |_,_,.cons z t h,i+1,hi=>by
  obtain⟨h',t',e⟩:=BR h i (by simpa using hi);exact⟨by simpa using h',t',by simpa using e⟩
 |_,_,.nil,i,hi=>by simp at hi
theorem yF:∀ {its:List Value}{zs:List Str},StrsAre its zs->its.length=zs.length
 |_,_,.nil=>rfl
 |_,_,.cons _ _ h=>by rw[vE,vE,yF h]
theorem FM:HP X "tuple.index" (TV X.K):=by
 intro ae s σ H x xs v us Q I rx rv h;obtain⟨a,o,its,n,zs,y,rfl,rfl,lk,hc,hd,hz,hk,q⟩:=h;cases rx
 obtain⟨u,rfl,⟨t,rfl⟩⟩:=rv.one;have ho:=I.kIn a o lk;have hl:=yF hz;rw[vG]at hl;have at':∀(i:Nat)(hi:i<its.size),∃(h:i<zs.length)(t:Tok),its[i]=.str zs[i] t:=λi hi=>by
  obtain⟨h',t',e⟩:=BR hz i (by simpa using hi);exact⟨h',t',by simpa using e⟩
 refine wpAny_call_entry PySem.F.slot_tuple_index ⟨o,ho,hc⟩ PySem.F.entry_tuple_index (AE (e:=LG y) (j:=zs.findIdx (· == y)) ho hd (λz hm=>?_) (by omega) ?_ (λm hm eZ=>?_) ⟨_,rfl,.int (zs.findIdx (· == y):Nat),H,I.tok _,⟨_,rfl⟩,q⟩) (PySem.F.args_tuple_index_2 _ _)
 ·obtain⟨i,hi,rfl⟩:=Array.mem_iff_getElem.mp hm;obtain⟨_,t',e'⟩:=at' i hi;rw[e'];exact eqGives_str _ _ _ _
 ·obtain⟨_,t',e'⟩:=at' (zs.findIdx (· == y)) (by omega);rw[e'];exact List.findIdx_getElem (p:=(· == y)) (w:=hk)
 ·obtain⟨_,t',e'⟩:=at' m hm;rw[e'];have:=List.not_of_lt_findIdx (p:=(· == y)) (xs:=zs) eZ;simpa [LG]using this
@[simp] def p6 (aK:List (Str×D)):D->D->OB
 |.str y,.str z=>match aK.lookup y with
  |some (.tup ds)=>(ia ds).bind λzs=>if zs.findIdx (· == z)<zs.length then some (.int (zs.findIdx (· == z):Nat),false)else none
  |_=>none
 |_,_=>none
theorem Ju {aK:List (Str×D)}{f g:FE}{cV cr:Pos}(h:∃d,X.mg x=some (.ref d)/\tV X.K X.w.params d aK)(hb:JE X b f)(he:JE X e g)(hg:Gl X x:=by rfl)(tu:(x == ("__debug__" : Str))=false:=by decide)(hs:vx b:=by intro _ _;rfl)
  (fL:attributeBase (.Subscript (.Name x p) b pos) "index" X.env (eval (.Subscript (.Name x p) b pos) X.env)=eval (.Subscript (.Name x p) b pos) X.env:=by rfl)
  (Bj:((backTo cr (starEach [e] X.env)).all (λx=>!x.1) && (backToKw cr (keywordEach [] X.env)).all (λx=>x.1.isSome)
   && decide ([e].length+([]:List Keyword).length+(if([]:List Keyword).isEmpty then 0 else 1)<30))=true:=by rfl)
  (fM:(cV.endLine == cr.line)=true:=by rfl) (nB:starEach [e] X.env=[(false,eval e X.env)]:=by rfl):
  JE X (.Call (.Attribute (.Subscript (.Name x p) b pos) "index" cV) [e] [] cr) (f2 (p6 aK) f g):=by
 obtain⟨d,hm,cd⟩:=h;have ix:HN X (λx y H Q=>∃z ds,x=.ref d/\y=.str z/\aK.lookup z=some (.tup ds)/\∀a its n pq,X.K.lookup a=some ⟨.type "tuple",none,.seq its n,pq⟩->jE its.toList ds=true->Q (.ref a) H):=by
  intro value slice ae s σ H x y v u Q I rx ry q hs;obtain⟨z,ds,rfl,rfl,el,q⟩:=q;cases rx
  obtain⟨t,rfl⟩:=ry;obtain⟨es,n,l,r,sm⟩:=cd;have hM:=PySem.W.mapOf_K (prog:=X.prog) (w:=X.w) I.kIn l r.lit;obtain⟨en,a,its,n',pq,e1,e2,e3,e4⟩:=r.findT z el;have ff:findBy Value.isStrOf es z=some (.ref a):=by
   unfold findBy;obtain⟨es⟩:=es;rw[List.find?_toArray,e1,←e2];rfl
  exact tail_any hM.typeIs slot_dict_getitem.lookup (wpAny_getItem_of (strKind_is X.prog X.w z t) hM ff ⟨.ref a,H,I.tok _,rfl,q a _ _ _ e3 e4⟩) hs
 refine PE.to (EQ (T:="tuple") PySem.F.plainAttrs_tuple PySem.F.slot_tuple_index PySem.F.type_tuple_index FM (Lf ix (Bo (v:=.ref d) hg hm rfl tu) hb hs) (iG he ki nB) fL Bj fM nB rfl) λσ H Q q=>?_;obtain⟨B,ρ,d',bb,sB,r,ee,q⟩:=q;obtain⟨x1,ex,ee⟩:=oX ee;obtain⟨y1,ey,ee⟩:=oX ee;obtain⟨xd,xb⟩:=x1;obtain⟨yd,yb⟩:=y1;cases xd with
 |str z=>
  cases yd with
  |str y=>
   refine⟨B,ρ,_,xb,sB,r,ex,λv H1 N1 xt i1 _=>?_⟩;cases i1
   simp only[p6]at ee;split at ee
   ·rename_i ds el;obtain⟨zs,ez,ee⟩:=oX ee;split at ee
    ·rename_i hk;cases ee
     refine⟨z,ds,rfl,rfl,el,λa its n pq l fl=>⟨.inr (.inl ⟨rfl,_,l,rfl,rfl⟩),N1,ρ,_,yb,xt.nh,r.mono xt.bn,ey,λv2 H2 N2 R6 i2 _=>?_⟩⟩;cases i2
     obtain⟨vs,rv,iv⟩:=jF (K:=X.K) fl;exact⟨a,_,its,n,zs,y,rfl,rfl,l,rfl,rfl,k7 rv (iv N2) ez,hk,(q.into (xt.trans R6)).one R6.nh (.int _)⟩
    ·cases ee
   ·cases ee
  |_=>simp[p6]at ee
 |_=>simp[p6]at ee
end
open PySem.W (tabIn tabObj CodeHd kla_fn kla_obj kla_eval kla_makeFunction kla_makeFunctionHit kla_callFunE kla_codeExpr envX)
def QI (K:Frag)(c P:Addr):Prop:=∃o vs Ev tf vn tg Pw Ew tt,K.lookup c=some o/\o.cls=.type "code"/\o.data=.fields vs/\vs[11]? = some (.ref P)/\vs.getD 11 .none=.ref P/\vs.getD 18 .none=.str Ev tf /\
 vs.getD 7 .none=.int vn tg/\vs.getD 9 .none=.bool Pw/\vs.getD 10 .none=.int Ew tt/\c≠P
def AF (K:Frag)(x:Str):Prop:=∃c P,tabIn K x=some (c,P)/\QI K c P
def FN (H:Hp)(f:Addr)(q:Str)(params:Arguments)(body:Expr)(scope:Scope)(cl:List (Str×Addr)):Prop :=
 ∃pm c CU u oc u' vs t,H f=some (.frz (kla_obj "<lambda>" q params body scope cl pm c CU) u)/\H c=some (.frz oc u')/\oc.data=.fields vs/\vs[1]? = some (.str q t)
theorem FN.mono (h:FN H f q params body scope cl)(e:aV H H'):FN H' f q params body scope cl :=
 let ⟨pm,c,CU,u,oc,u',vs,t,h1,h2,h3,h4⟩:=h;⟨pm,c,CU,u,oc,u',vs,t,e _ _ h1,e _ _ h2,h3,h4⟩
theorem lam_mk {K:Frag}{x:Str}{f c P:Addr}{oc:Value}{od UB:Option Addr}{pq O1:Array (Option Value)}{fd:FuncData}{vs:Array Value}{Ev:Str}{tf tg tt:Tok}{vn Ew:Int}{Pw:Bool}(e1:nsIn K mainGlobals x=some (some (.ref f)))(e2:K.lookup f=some ⟨oc,od,.func fd,pq⟩)
  (e3:fd.code=.ref c) (e4:K.lookup c=some ⟨.type "code",UB,.fields vs,O1⟩) (e5:vs[11]? = some (.ref P)) (e6:vs.getD 11 .none=.ref P) (e7:vs.getD 18 .none=.str Ev tf) (e8:vs.getD 7 .none=.int vn tg) (e9:vs.getD 9 .none=.bool Pw) (YN:vs.getD 10 .none=.int Ew tt) (WG:(c == P)=false):AF K x :=
 ⟨c,P,tab_yes e1 e2 e3 e4 e5,_,vs,Ev,tf,vn,tg,Pw,Ew,tt,e4,rfl,rfl,e5,e6,e7,e8,e9,YN,λz=>by rw[z]at WG;simp at WG⟩
theorem AG (l:List Value)(h:TriplesOk l)(e:codeAmong pos (l++[rawInt a,rawInt b,c])=some cv):codeAmong pos l=some cv∨cv=c:=by
 fun_induction TriplesOk l with
 |case1=>
  simp only[List.nil_append,rawInt,codeAmong]at e;split at e
  ·cases e;exact .inr rfl
  ·cases e
 |case2 a' t b' u x aD ih=>
  simp only[List.cons_append,codeAmong]at e ⊢;split at e
  ·rename_i hc;rw[if_pos hc];exact .inl e
  ·rename_i hc;rw[if_neg hc];exact ih h e
 |case3 l h1 h2=>exact h.elim
section
variable {X:Cx}{ae:List (Addr×Obj)}{σ:St}{H:Hp}{s:Shared}
theorem FP 
  (hx:x∈mq) (L:AF X.K x) (hc:∀c P,tabIn X.K x=some (c,P)->X.env.code=.ref c) (hq:X.env.qual ++ "<lambda>" = pZ x) (OA:defaultsOf params X.env=([],[])) (xq:closureFor scope X.env=pure cl)
  (I:Inv X ae σ H s) (tb:Tb X.K H) (k:∀f H' s',Inv X ae σ H' s'->aV H H'->FN H' f (pZ x) params body scope cl->Q (.ref f) s'):
  wq X (eval (.Lambda params body scope pos) X.env) Q E s:=by
 refine kla_eval OA ?_;rw[hq];obtain⟨c,P,ht,o,vs,Ev,tf,vn,tg,Pw,Ew,tt,lk,ck⟩:=L;have Me:=hc c P ht;have hP:=tb x hx c P ht;obtain⟨ps,e,tr,co⟩:=I.hok P _ hP;have C:CodeHd s.heap c P:=⟨o,vs,Ev,tf,vn,tg,Pw,Ew,tt,I.kIn c o lk,ck⟩;have hg:s.heap.Ns mainGlobals X.mg:=I.mod.glob.keeps I.bk;have nP:∀b,H b=none->b≠P:=λb n z=>by rw[z,hP]at n;cases n
 have YO:mainGlobals≠P:=by
  obtain⟨og,_,_,eg,_⟩:=I.mod.glob;exact nP _ (I.bs _ _ eg).2
 have hb:s.heap.BuiltinsAt X.mg P:=by
  obtain⟨bm,ob,b1,b2,b3,b4,b5,b6⟩:=I.mod.bmain;refine⟨bm,ob,b1,b2,λz=>?_,nP _ (I.bs _ _ b3).2,I.bk _ _ b3,b4,b5,b6⟩;obtain⟨og,es,ep,eg,dg,_⟩:=I.mod.glob;rw[z,eg]at b3;cases b3;rw[dg]at b6;cases b6
 cases hf:codeAmong pos ps.toList with
 |some cv=>
  obtain⟨c',oc,u,ws,t,rfl,hH,hd,hv⟩:=co pos cv hf;refine kla_makeFunctionHit (mg:=X.mg) xq I.ok.glob hg Me C e tr hf hb λCU h' tk hk hsz=>?_;have hn:H h'.objs.size=none:=I.hok.fresh hsz;have sm:aV H (upd H h'.objs.size (.frz (kla_obj "<lambda>" (pZ x) params body scope cl ((X.mg "__name__").getD .none) c' CU) (.own h'.objs.size))):=λb u q=>by rw[aI (aW q hn)];exact q
  refine k _ _ _ (I.laid (t':=tk) (λb u q=>vZ _ (hk b u q)) hsz (show bN X.prog X.w _ _ _ (.frz _ (.own h'.objs.size))from ⟨vY _ rfl,_,vY _ rfl⟩)) sm ?_;exact⟨_,c',CU,_,oc,u,ws,t,aC,sm _ _ hH,hd,hv⟩
 |none=>
  refine kla_makeFunction (mg:=X.mg) xq I.ok.glob hg Me C e tr hf YO hb λc' CU h' tk hx' hge eZ hrec US=>?_;obtain⟨c2,oc,ws,t,e2,K2,hd,hv⟩:=hrec;cases e2
  have RD:H c'=none:=I.hok.fresh hge;have hsz:s.heap.objs.size<=h'.objs.size:=vR hge (Nat.le_of_lt eZ);have YQ:H h'.objs.size=none:=I.hok.fresh hsz;have YR:c'≠h'.objs.size:=vS eZ;let fo:Obj:=kla_obj "<lambda>" (pZ x) params body scope cl ((X.mg "__name__").getD .none) c' CU;let H1:Hp:=upd (upd H c' (.frz oc (.own c'))) h'.objs.size (.frz fo (.own h'.objs.size));have sm:aV H H1:=λb u q=>by
   show upd _ _ _ b=_;rw[aI (aW q YQ),aI (aW q RD)];exact q
  have UT:H1 c'=some (.frz oc (.own c')):=by show upd _ _ _ c'=_;rw[aI YR,aC]
  have keep:∀b u,b≠P->s.heap.get? b=some u->(h'.push fo).get? b=some u:=λb u n q=>vZ _ (hx' b u n q);have lt:∀b u,s.heap.get? b=some u->b≠c'/\b≠h'.objs.size:=λb u q=>⟨vS (vQ (vX q) hge),vS (vQ (vX q) hsz)⟩;have RE:(h'.push fo).get? P=some (tabObj (ps++#[rawInt pos.line,rawInt pos.col,.ref c'])):=vZ _ US;refine k _ H1 _ (I.un (t':=tk) (h':=h'.push fo) ⟨λb u q n _ _=>keep b u (nP b n) q,λb u q n _ _=>⟨u.slots,keep b u (nP b n) q⟩,λb u q n _=>?_,λb u q _=>?_,λb xs q=>sm _ _ q,λb ob u q=>sm _ _ q,λb u q=>sm _ _ q⟩ λb u q=>?_) sm ⟨_,c',CU,_,oc,_,ws,t,aC,UT,hd,hv⟩
  ·show upd _ _ _ b=_;rw[aI (lt b u q).2,aI (lt b u q).1];exact n
  ·by_cases z:b=P
   ·subst z;exact⟨_,RE⟩
   ·exact⟨u,keep b u z q⟩
  ·by_cases z1:b=h'.objs.size
   ·subst z1;have q':some (HO.frz fo (.own h'.objs.size))=some u:=by rw[←q];exact aC.symm
    cases q'
    exact⟨vY _ rfl,_,vY _ rfl⟩
   ·by_cases z2:b=c'
    ·subst z2;rw[UT]at q;cases q;exact⟨vZ _ K2,_,vZ _ K2⟩
    ·have q':H b=some u:=by
      have:H1 b=H b:=by show upd _ _ _ b=_;rw[aI z1,aI z2]
      rw[←this];exact q
     by_cases z3:b=P
     ·subst z3;rw[hP]at q';cases q';refine⟨_,RE,?_,λzL cv' ea=>?_⟩
      ·rw[Array.toList_append];exact TriplesOk_snoc _ _ _ _ tr
      ·rw[Array.toList_append]at ea;rcases AG _ tr ea with ea|rfl
       ·obtain⟨c3,YS,u3,YT,t3,y1,y2,y3⟩:=co zL cv' ea;exact⟨c3,YS,u3,YT,t3,y1,sm _ _ y2,y3⟩
       ·exact⟨c',oc,_,ws,t,rfl,UT,hd,hv⟩
     ·refine(I.hok b u q').stay (λd v Bi r=>keep d v ?_ r) (λd r=>sm _ _ r) (λd xs r=>sm _ _ r) λd ob v r=>sm _ _ r;rcases Bi with rfl|r
      ·exact z3
      ·intro z;rw[z,hP]at r;cases r
end
section
variable {P:Program}{w:World}{K:Frag}{mg:Str->Option Value}{base:Heap}
theorem dH.fnL {x:Str}{st:Stmt}{N ps:List Str}{k:Nat}{g:FS}{h:Heap}(F:dH K x st)(X:K.In h)(G:h.Ns mainGlobals mg)(S:FnScope N ps (aQ st))
  (KG:∀(kV doc pm:Value)(an:Option Addr)(eG ct:Value)(us:List Value),us.length=ps.length->bindArgs (fnOf x x (gk st) (cK st) (aQ st) .none kV doc pm an eG ct) ⟨us,[]⟩=pure (ps.zip us))
  (hb:∀(f:Addr)(eG:Value)(A:Around)(outer:List PySem.Env)(s:Shared)(H:Hp)(E:XK),(∀c P,tabIn K x=some (c,P)->eG=.ref c)->eN k (A.deeper (envOfC x (aQ st) s.heap.objs.size f eG))->wn (pw zR P w K mg base N x (aQ st) f eG A outer s H E).nox (cK st) g):
  Fn P w K mg base (k+1) x (aM g ps.length (N.length - ps.length)):=by
 obtain⟨f,fd,F1,a⟩:=F;have F2:=F1;obtain⟨oc,od,kV,doc,pm,an,eG,ct,pq,rfl,lk,jj⟩:=F2.ex;have hc:∀c P,tabIn K x=some (c,P)->eG=.ref c:=λc P e=>by
  unfold tabIn at e;simp only[a,lk]at e;split at e
  ·rename_i c' _;split at e
   ·split at e
    ·cases e;rfl
    ·cases e
   ·cases e
  ·cases e
 have len:∀vs H Q E,Jc K (aM g ps.length (N.length - ps.length)) vs H Q E->vs.length=ps.length:=λvs H Q E h=>by
  obtain⟨B,ds,d,b,sB,i,e,q⟩:=h;unfold aM at e;split at e
  ·rename_i hl;rw[i.length];exact hl
  ·cases e
 refine⟨f,_,ps,Le lk jj S len λA outer s H vs Q E hr h=>⟨_,t8.nox (hb f eG A outer s H E hc hr),?_⟩,mg_of X G a,F1.kp,F1.binds KG⟩;have bJ:=len vs H Q E h;obtain⟨B,ds,d,b,sB,i,e,q⟩:=h;unfold aM at e;rw[if_pos (by rw[←i.length];exact bJ)]at e;have s0:=xR (N:=N) sB.1 sB.2 i;rw[bJ]at s0;split at e
 ·rename_i d' b' eg;cases e
  exact⟨B,H,_,_,⟨B,s0⟩,eg,λv H' N' x' i' f'=>q v H' N' x' i' f'⟩
 ·rename_i ρ' eg;cases e
  exact⟨B,H,_,_,⟨B,s0⟩,eg,λσ' H' ⟨N',s'⟩=>q .non H' N' s'.ext .non (by simp)⟩
 ·cases e
end
inductive lH (X:Cx)(N':List Str)(scope:Scope)(cl:List (Str×Addr)):Nat->List Nat->Prop where
 |nil {j:Nat}(h:N'.length=j):lH X N' scope cl j []
 |cons {j i:Nat}{r:List Nat}{x:Str}(h1:N'[j]? = some x) (h2:X.N[i]? = some x) (h3:X.env.kindOf x=some .cell∨X.env.kindOf x=some .free)
   (h4:scope.names.lookup x=some .free) (h5:cl.lookup x=X.env.cells.lookup x) (t:lH X N' scope cl (j+1) r):lH X N' scope cl j (i::r)
theorem lH.len:∀ {j:Nat}{cap:List Nat},lH X N' scope cl j cap->N'.length=j+cap.length
 |_,_,.nil h=>by rw[h];rfl
 |j,i::r,.cons _ _ _ _ _ t=>by rw[t.len,vE];omega
theorem lH.get:∀ {j:Nat}{cap:List Nat}{k i:Nat},lH X N' scope cl j cap->cap[k]? = some i->∃x,N'[j+k]? = some x/\X.N[i]? = some x/\(X.env.kindOf x=some .cell∨X.env.kindOf x=some .free) /\
  scope.names.lookup x=some .free/\cl.lookup x=X.env.cells.lookup x
 |_,_,_,_,.nil _,e=>by simp at e
 |j,_,0,_,.cons h1 h2 h3 h4 h5 _,e=>by simp at e;subst e;exact⟨_,h1,h2,h3,h4,h5⟩
 |j,_,k+1,i,.cons _ _ _ _ _ t,e=>by
  obtain⟨x,q,r⟩:=t.get (k:=k) (i:=i) (by simpa using e);exact⟨x,by rw[show j+(k+1)=j+1+k by omega];exact q,r⟩
noncomputable abbrev yG (X:Cx)(N':List Str)(scope:Scope)(cl:List (Str×Addr))(q:Str)(A:Around)(f c:Addr)(s:Shared)(H:Hp):Cx :=
 { X with A:=A.deeper (envX q scope s.heap.objs.size f (.ref c) cl),N:=N',s₀:=s,H₀:=H,env:=envX q scope s.heap.objs.size f (.ref c) cl,outer:=X.stack,stack:=envX q scope s.heap.objs.size f (.ref c) cl::X.stack,ex:=[],fn:=λ_=>false,calm:=true,pn:=[],xe:=λ_ _=>False }
structure LamSc (X:Cx)(scope:Scope)(cl:List (Str×Addr))(y:Str):Prop where
 clos:closureFor scope X.env=pure cl
 nocell:∀z∈scope.names,z.2≠.cell
 kind:scope.kind=.function
 co:scope.isCoroutine=false
 gen:scope.isGenerator=false
 par:scope.names.lookup y=some .local
 sub:∀x c,cl.lookup x=some c->X.env.cells.lookup x=some c
 has:∀x,scope.names.lookup x=some .free->∃c,cl.lookup x=some c
theorem BS (h1:∀z∈scope.names,z.2≠.cell)(h2:scope.kind=.function)(h3:scope.isCoroutine=false)(SK:scope.isGenerator=false)(hp:scope.names.lookup y=some .local)
  (Pl:(scope.names.all λz=>!(z.2 == NameKind.free) || (X.env.cells.lookup z.1).isSome)=true):LamSc X scope (dJ scope.names X.env.cells []) y:=by
 have h4:∀z∈scope.names,z.2=.free->(X.env.cells.lookup z.1).isSome=true:=λz hz e=>by
  have:=uR Pl z hz;rw[e]at this;simpa using this
 exact⟨tO scope.names [] h4,h1,h2,h3,SK,hp,λx c e=>mv scope.names [] (λy d q=>by cases q) e,λx h=>by
  have:=mw (x:=x) scope.names [] (fW h) (h4 _ (fW h) rfl);exact uU this⟩
section
variable {X:Cx}{ae:List (Addr×Obj)}{σ:St}{H:Hp}{s:Shared}{A:Around}{N':List Str}{scope:Scope}{cl:List (Str×Addr)}{q y:Str}{cap:List Nat}
theorem Jv (S:LamSc X scope cl y)(N0:N'[0]? = some y)(cp:lH X N' scope cl 1 cap)(I:Inv X ae σ H s)(hA:A.frames=some X.stack)(hh:A.handled=none)(r:aU v u)
  (LY:h₁.Ns s.heap.objs.size (λx=>[(y,u)].reverse.lookup x)) (hk:∀b o,s.heap.get? b=some o->h₁.get? b=some o):
  Inv (yG X N' scope cl q A f c s H) [] (some v::sR 0 cap σ) H { s with heap:=h₁,toks:=tk }:=by
 have K5:∀b:Addr,b∉(yG X N' scope cl q A f c s H).ex:=λb z=>absurd (show b∈([]:List Addr)from z) (by simp);refine⟨⟨I.ok.mod,S.kind,rfl,rfl,vT _,λx z d e1 e2=>I.ok.inj x z d (S.sub _ _ e1) (S.sub _ _ e2),λx hx=>?_,(λx d e=>by cases e),λ_=>hh,Around.frames_deeper hA,.inr ⟨rfl,rfl⟩,λb z=>absurd z (K5 b),I.bs,vR I.ok.bsz I.sz,λb _ _=>K5 b,λb z=>absurd z (K5 b),I.stack,I.stkFree⟩,
  rfl,I.bare,Un.kept hk,⟨_,LY,λi x v' e1 e2 e3=>?_⟩,λx d e=>?_,I.hok.fresh (vT _),λx d e=>I.freeC x d (S.sub _ _ e),λp hp=>absurd (show p∈([]:List (Addr×Obj))from hp) (by simp),I.hok.kept hk,?_⟩
 ·have hx':scope.names.lookup x=some .cell∨scope.names.lookup x=some .free:=hx;rcases hx' with hx'|hx'
  ·exact absurd rfl (S.nocell _ (fW hx'))
  ·exact S.has x hx'
 ·cases i with
  |zero=>
   have LW:N'[0]? = some x:=e1;rw[N0]at LW;cases LW;have UU:some v=some v':=by simpa using e2
   cases UU
   exact⟨u,r,.inl ⟨S.par,by simp⟩⟩
  |succ k=>
   have UU:(sR 0 cap σ)[k]? = some (some v'):=by simpa using e2
   obtain⟨k',i',fO,g1,g2⟩:=wt UU;have:k=k':=by omega
   subst this;obtain⟨x',n1,n2,n3,n4,n5⟩:=cp.get g1;have:x'=x:=by
    have LW:N'[k+1]? = some x:=e1;rw[show 1+k=k+1 by omega]at n1;rw[n1]at LW;exact vK LW
   subst this;have YU:σ[i']? = some (some v'):=by
    cases z:σ[i']? with
    |none=>rw[z]at g2;cases g2
    |some w=>rw[z]at g2;cases w with
     |none=>cases g2
     |some w=>cases g2;rfl
   obtain⟨m,_,hl⟩:=I.loc;obtain⟨u',ru,lk⟩:=hl i' x' v' n2 YU (by
    rcases n3 with n3|n3
    ·exact .inr (.inl n3)
    ·exact .inr (.inr n3))
   refine⟨u',ru,.inr ⟨.inr n4,?_⟩⟩;rcases lk with⟨l1,_⟩|⟨_,d,l2,l3⟩
   ·rcases n3 with n3|n3<;>(rw[l1]at n3;cases n3)
   ·obtain⟨ob,ho,hd⟩:=l3;exact⟨d,by show cl.lookup x'=_;rw[n5];exact l2,ob,hk _ _ ho,hd⟩
 ·obtain⟨w,ob,ho,hd⟩:=I.cell x d (S.sub _ _ e);exact⟨w,ob,hk _ _ ho,hd⟩
 ·have:=cp.len;show(some v::sR 0 cap σ).length=N'.length;unfold sR;rw[this];simp;omega
theorem Jw (S:LamSc X scope cl y)(N0:N'[0]? = some y)(cp:lH X N' scope cl 1 cap)(I:Inv X ae σ H s)
  (hA:A.frames=some X.stack) (hh:A.handled=none) (HE:A.depth<recursionLimit) (lv:FN H f q params body scope cl)
  (zM:∀pm c CU u,bindArgs (kla_fn "<lambda>" q params body scope cl pm (.ref c) CU) ⟨[u],[]⟩=pure [(y,u)])
  (hb:∀(f c:Addr)(s:Shared)(H:Hp),JE (yG X N' scope cl q A f c s H) body fb)
  (rep:fN X.K B σ ρ) (sB:aV B H) (r:aU v u) (i:Is X.K B v d) (e:fb (some (d,false)::dL 0 cap ρ)=some (d',b')) (qf:Fin X.K B H d' b' Q):
  wpAny (model X.prog X.w) A (call (.ref f) [u]) (EP X ae σ Q) (λ_ _=>False) s:=by
 obtain⟨pm,c,CU,uf,oc,u',ws,t,hf,hc,hd,hv⟩:=lv;have ho:=(I.hok f _ hf).1;have K2:=(I.hok c _ hc).1;refine wpAny_call (codeAny_mono (R:=λr s'=>CR zR X.stack X.prog X.w H s Q (λ_ _ _=>False) r s') ?_ λr s' hq=>?_)
 ·refine kla_callFunE HE ho rfl S.co S.gen rfl ⟨c,oc,ws,t,rfl,K2,hd,hv⟩ ?_;rw[zM];refine wY (wpAny_newFunctionEnv S.nocell (λz hz=>by rw[uT hz];exact S.par) (λh₁ LY hsb=>⟨I.nolimit.fresh _ hsb,?_⟩) S.kind);have RF:∀b o,s.heap.get? b=some o->h₁.get? b=some o:=λb o e=>hsb.extBut b o (vS (vX e)) (vZ _ e);have J:=Jv (f:=f) (c:=c) (q:=q) (tk:=s.toks+1) S N0 cp I hA hh r LY RF;refine kla_codeExpr (wpAny_mono (hb f c s H [] _ _ H Q J ⟨B,_,d',b',sB,⟨rep.tb,λj e0 b0 z=>?_⟩,e,qf⟩) (λw s' hw=>?_) λ_ _ z=>z.elim)
  ·cases j with
   |zero=>
    have z':some (d,false)=some (e0,b0):=by simpa using z
    cases z'
    exact⟨v,rfl,i⟩
   |succ j=>
    obtain⟨w,h1,h2⟩:=(rep.caps (nT:=0) (cap:=cap)).at' j e0 b0 (by simpa using z);exact⟨w,by simpa using h1,h2⟩
  ·obtain⟨v',H',J',rv,qv⟩:=hw;exact⟨v',H',J'.os,J'.bare,J'.base,J'.hok,rv,qv⟩
 ·cases r with
  |error e=>exact False.elim hq
  |ok fl=>
   cases fl with
   |ret w=>exact I.after hq
   |next=>exact False.elim hq
   |brk=>exact False.elim hq
   |cont=>exact False.elim hq
end
end DL
namespace DL
open PySem PySem.Spec PySem.W PyProof.Rows L2
section
variable {X:Cx}{ae:List (Addr×Obj)}{σ:St}{H:Hp}{s:Shared}{h':Heap}{t':Nat}
theorem nX (I:Inv X ((p,o)::ae) σ H s):∀x c,X.env.cells.lookup x=some c->c≠p:=λx c e z=>by
 have pf:=I.pin (p,o) (mY _ mX);obtain⟨v,ob,ho,hd⟩:=I.cell x c e;rw[z,pf.1]at ho;cases ho;exact pf.2.2.2.2 v hd
theorem k9 (I:Inv X (p::ae) σ H s):Inv X ae σ H s:=I.pins_of λq hq=>I.pin q (mY _ (mZ _ hq))
theorem ig (I:Inv X ((p,o)::ae) σ H s)(h0:X.s₀.heap.objs.size<=p)(hp:∀q∈X.pn++ae,q.1≠p)(k:∀b u,b≠p->s.heap.get? b=some u->h'.get? b=some u)(e':h'.get? p=some o')(nc:∀v,o'.data≠.cell v):
  Inv X ((p,o')::ae) σ H { s with heap:=h',toks:=t' }:=by
 have pf:=I.pin (p,o) (mY _ mX);have J:=(k9 I).turned (t':=t') k pf.2.1 pf.2.2.1 (.inr h0) (nX I) hp;refine J.pins_of λq hq=>?_;rcases vP hq with rfl|hq
 ·exact⟨e',pf.2.1,pf.2.2.1,pf.2.2.2.1,nc⟩
 ·exact J.pin q (mY _ hq)
theorem pG (I:Inv X ae σ H s)(k:∀b u,s.heap.get? b=some u->h'.get? b=some u)(hs:s.heap.objs.size<=p)(e':h'.get? p=some o)(nc:∀v,o.data≠.cell v):Inv X ((p,o)::ae) σ H { s with heap:=h',toks:=t' }:=by
 have J:=I.kept (t':=t') k;refine J.pins_of λq hq=>?_;rcases vP hq with rfl|hq
 ·exact⟨e',I.hok.fresh hs,Nat.ne_of_gt (vQ I.lt hs),I.nofs hs,nc⟩
 ·exact J.pin q (mY _ hq)
theorem Jx (I:Inv X ((p,o)::ae) σ H s)(h0:X.s₀.heap.objs.size<=p)(hp:∀q∈X.pn++ae,q.1≠p)(k:∀b u,b≠p->s.heap.get? b=some u->h'.get? b=some u)(eo:∃u,h'.get? p=some u)
  (new:bN X.prog X.w (upd H p ob) h' p ob):Inv X ae σ (upd H p ob) { s with heap:=h',toks:=t' }:=by
 have pf:=I.pin (p,o) (mY _ mX);have hn:=pf.2.1;have hn:H p=none:=hn;have cs:=nX I;refine(k9 I).step (g':=s.gens) (d':=s.drawn) (ch:=[p]) (λb hb=>?_) (λb u _ _ hc e _=>k b u (λz=>hc (by simp[z])) e) (λb u _ _ hc e _=>⟨u.slots,k b u (λz=>hc (by simp[z])) e⟩) (λb u hc _ n=>by rw[aI (λz=>hc (by simp[z]))];exact n)
  (λb u hc e=>⟨u,k b u (λz=>hc (by simp[z])) e⟩) (λb xs e=>by rw[aI (aW e hn)];exact e) (λb u w e=>by rw[aI (aW e hn)];exact e) (λb q e=>by rw[aI (aW e hn)];exact e) (λm hm=>?_) (λb u e=>?_) I.bare
 ·have z:b=p:=by simpa using hb
  subst z;exact⟨.inr h0,pf.2.2.1,cs,hp⟩
 ·obtain⟨ol,es,ep,ho,r⟩:=hm;exact⟨ol,es,ep,k _ ol (λz=>pf.2.2.1 z.symm) ho,r⟩
 ·by_cases z:b=p
  ·subst z;rw[aC]at e;cases e;exact new
  ·rw[aI z]at e;refine(I.hok b u e).stay (λc v hc q=>k c v ?_ q) (λc q=>?_) (λc xs q=>?_) λc w xs q=>?_
   ·rcases hc with rfl|hc
    ·exact z
    ·exact aW hc hn
   ·rw[aI (aW q hn)];exact q
   ·rw[aI (aW q hn)];exact q
   ·rw[aI (aW q hn)];exact q
end
def BU (X:Cx)(A:Around)(σ:St)(qv:Value)(B H1:Hp)(kf:D->Option D):Prop :=
 ∀(ae:List (Addr×Obj))(s:Shared)(H N:Hp)(v:V)(u:Value)(d d':D),Inv X ae σ H s->aV H1 H->aV B N->aV N H->Is X.K N v d->aU v u->kf d=some d' ->
  wpAny (model X.prog X.w) A (call qv [u]) (EP X ae σ λv' H'=>∃N',Ext N N' H H'/\Is X.K N' v' d') (λ_ _=>False) s
def JK (X:Cx)(A:Around)(e:Expr)(kf:Env->D->Option D):Prop:=∀(ae:List (Addr×Obj))(s:Shared)(σ:St)(H B:Hp)(ρ:Env)(Q:Value->Shared->Prop)(E:Value->Shared->Prop),Inv X ae σ H s->aV B H->fN X.K B σ ρ ->
 (∀qa H1 s1,Inv X ae σ H1 s1->aV H H1->BU X A σ (.ref qa) B H1 (kf ρ)->Q (.ref qa) s1)->wq X (eval e X.env) Q E s
section
variable {X:Cx}{A:Around}
@[simp] def qA (cap:List Nat)(fb:FE):Env->D->Option D:=λρ d=>(fb (some (d,false)::dL 0 cap ρ)).map (·.1)
theorem wL (hx:x∈mq)(L:AF X.K x)(hc:∀c P,tabIn X.K x=some (c,P)->X.env.code=.ref c)(hq:X.env.qual ++ "<lambda>" = pZ x)
  (OA:defaultsOf params X.env=([],[])) (S:LamSc X scope (dJ scope.names X.env.cells []) y) (N0:N'[0]? = some y) (cp:lH X N' scope (dJ scope.names X.env.cells []) 1 cap) (hA:A.frames=X.A.frames) (hr:eN (k+1) A)
  (zM:∀pm c CU u,bindArgs (kla_fn "<lambda>" (pZ x) params body scope (dJ scope.names X.env.cells []) pm (.ref c) CU) ⟨[u],[]⟩=pure [(y,u)])
  (hb:∀(f c:Addr)(s:Shared)(H:Hp),eN k (yG X N' scope (dJ scope.names X.env.cells []) (pZ x) A f c s H).A->JE (yG X N' scope (dJ scope.names X.env.cells []) (pZ x) A f c s H) body fb):JK X A (.Lambda params body scope pos) (qA cap fb):=by
 intro ae s σ H B ρ Q E I sB rep kk;refine FP hx L hc hq OA S.clos I (rep.tb.mono sB) λf H1 s1 I1 sm lv=>kk f H1 s1 I1 sm ?_;intro Hn s' H' N v u d d' I' m1 m2 m3 iv r e;simp only[qA]at e;obtain⟨⟨d2,b2⟩,e1,e2⟩:=oY e;cases e2
 exact Jw S N0 cp I' (hA.trans I'.ok.frames) hr.hd hr.depth (lv.mono m1) zM (λf c s H=>hb f c s H (hr.deeper _)) (rep.mono m2) m3 r iv e1 λv' H2 N2 x2 i2 _=>⟨N2,x2,i2⟩
@[simp] noncomputable def sX (g:List D->OB):Env->D->Option D:=λ_ d=>(g [d]).map (·.1)
theorem BV (F:Fn X.prog X.w X.K X.mg X.base k x g)(hr:eN k A)(hA:A.frames=X.A.frames)(hg:Gl X x:=by rfl)(tu:(x == ("__debug__" : Str))=false:=by decide):JK X A (.Name x p) (sX g):=by
 intro ae s σ H B ρ Q E I sB rep kk;obtain⟨ad,fd,ps,F1,hm,hk,hb⟩:=F.ex;refine vq I hg hm ?_ tu;refine kk ad H s I (.refl H) ?_;intro Hn s' H' N v u d d' I' m1 m2 m3 iv r e;simp only[sX]at e;obtain⟨⟨d2,b2⟩,e1,e2⟩:=oY e;cases e2
 have sp:Jc X.K g [v] H' (λv' H2=>∃N',Ext N N' H' H2/\Is X.K N' v' d2) (λ_ _ _=>False):=⟨N,[d],d2,b2,⟨m3,rep.tb.mono m2⟩,.cons iv .nil,e1,λv' H2 N2 x2 i2 _=>⟨N2,x2,i2⟩⟩;have hl:[u].length=ps.length:=by have:=F1.len _ _ _ _ sp;simpa using this
 have e0:=I'.env0;have bb:=hb s' [u] I'.kIn (by simpa using hl);rw[uQ]at bb;refine wpAny_call (codeAny_mono (F1.run A X.stack s' H' ⟨[u],[]⟩ [u] [v] _ (λ_ _ _=>False) hr ⟨hA.trans e0.frames,e0.mod,e0.bs,e0.bsz,e0.funs,e0.frf,e0.hok,e0.bare⟩ bb (.cons r .nil) sp) λr s' hq=>?_);cases r with
 |error e=>exact False.elim hq
 |ok fl=>
  cases fl with
  |ret w=>exact I'.after hq
  |next=>exact False.elim hq
  |brk=>exact False.elim hq
  |cont=>exact False.elim hq
end
noncomputable def jr (f:D->Option D):List D->Option (List D)
 |[]=>some []
 |d::ds=>(f d).bind λx=>(jr f ds).map (x :: ·)
theorem kB:∀ {ds ks:List D},jr f ds=some ks->ks.length=ds.length
 |[],_,h=>by simp only[jr]at h;cases h;rfl
 |d::ds,_,h=>by
  simp only[jr]at h;obtain⟨a,h1,h⟩:=oX h;obtain⟨r,h2,h⟩:=oY h;subst h;simp[kB h2]
theorem qB:∀ {ds ks:List D},jr f ds=some ks->∀ {i:Nat}{d:D},ds[i]? = some d->∃k,ks[i]? = some k/\f d=some k
 |[],_,h,i,d,e=>by simp at e
 |d::ds,_,h,0,e,q=>by
  simp only[jr]at h;obtain⟨a,h1,h⟩:=oX h;obtain⟨r,h2,h⟩:=oY h;subst h;simp at q;subst q;exact⟨a,by simp,h1⟩
 |d::ds,_,h,i+1,e,q=>by
  simp only[jr]at h;obtain⟨a,h1,h⟩:=oX h;obtain⟨r,h2,h⟩:=oY h;subst h;obtain⟨k,z1,z2⟩:=qB h2 (i:=i) (d:=e) (by simpa using q);exact⟨k,by simpa using z1,z2⟩
structure KK (X:Cx)(A:Around)(kd:List D->Option (List (List At)))(ok:List (List At)->Bool):Prop where
 len:∀ {ds:List D}{ks:List (List At)},kd ds=some ks->ks.length=ds.length
 ask:∀ {ae:List (Addr×Obj)}{σ:St}{H:Hp}{s:Shared}(_:Inv X ae σ H s) {ys:List V}{ds:List D}{ks:List (List At)}{its:List Value},aS ys its->IsL X.K H ys ds->kd ds=some ks->ok ks=true->eE ks=true ->
  (0<ks.length->∀ {E:Value->Shared->Prop}{Q:SortKind->Shared->Prop},Q (tuples' true) s->wpAny (model X.prog X.w) A (keyKind' its.toArray) Q E s) /\
  ∀(i j:Nat)(C:Bool->Shared->Prop)(s1:Shared),i<ks.length->j<ks.length->s1=s->(∀s',s'=s->C (qw (HV ks) i j) s')->kas_ask X.prog X.w A (tuples' true) its i j C s1
theorem FQ:KK X A dE fF:=⟨la,λI _ _ _ _ r i e hf hc=>have hp:=pF I r i e;⟨λhn _ _ q=>FK hp hf hn q,Jt hc hp⟩⟩
section
variable {X:Cx}{ae:List (Addr×Obj)}{σ:St}{s:Shared}
theorem ul (r:aU x u):∀ {vs:List V}{us:List Value},aS vs us->aS (vs++[x]) (us++[u])
 |_,_,.nil=>.cons r .nil
 |_,_,.cons h t=>.cons h (ul r t)
theorem dr:∀v,(Obj.mk c od (.seq its n) sl).data≠.cell v:=λv z=>by cases z
theorem AH 
  (I:Inv X ((a,seqObj "list" its.toArray n)::ae) σ H s) (h0:X.s₀.heap.objs.size<=a) (hp:∀q∈X.pn++ae,q.1≠a) (Ib:BU X A σ qv B H kf) (rv:aS vs its) (iv:IsL X.K B vs ds) (sB:aV B H)
  (M:KK X A kd ok) (em:jr kf ds=some gP) (ek:kd gP=some ks) (hc:eE ks=true) (hf:ok ks=true) (Eu:its.length<64)
  (h:∀(p:Array Nat)(s':Shared)(H' N:Hp),pB its.length p->Up (HV ks) p its.length->Inv X ae σ (upd H' a (.lst (p.toList.map λi=>vs.getD i .non))) s'->Ext B N H H'->H' a=none->P (.done (.ret .none)) s'):
  wpAny (model X.prog X.w) A (ksk_tree a qv false) P E s:=by
 have pa:=I.pin (a,seqObj "list" its.toArray n) (mY _ mX)
 have CQ:vs.length=its.length:=rv.length
 have Pr:ds.length=vs.length:=iv.length.symm
 have YV:gP.length=ds.length:=kB em
 have WH:ks.length=gP.length:=M.len ek
 have hz:its.length<=sizeLine:=by rw[sizeLine_eq];omega
 have hna:H a=none:=pa.2.1
 obtain⟨e1,Pp⟩:∃e1,(s.heap.update a (Obj.mapSeq λ_=>(#[]:Array Value))).get? a=some (seqObj "list" #[] e1):=⟨_,get?_update_seq pa.1 λ_=>#[]⟩
 have u1:=vW s.heap a (Obj.mapSeq λ_=>(#[]:Array Value))
 have I1:Inv X ((a,seqObj "list" #[] e1)::ae) σ H { s with heap:=s.heap.update a (Obj.mapSeq λ_=>(#[]:Array Value)) }:=ig (t':=s.toks) I h0 hp (λb u n q=>(u1.2 b n).trans q) Pp dr
 let h2:Heap:=(s.heap.update a (Obj.mapSeq λ_=>(#[]:Array Value))).push (seqObj "tuple" its.toArray 0)
 have I2:Inv X ((a,seqObj "list" #[] e1)::ae) σ H { s with heap:=h2 }:=I1.kept (t':=s.toks) λb u q=>vZ _ q
 let kS:Addr:=h2.objs.size
 have I3:Inv X ((kS,seqObj "list" #[] 0)::(a,seqObj "list" #[] e1)::ae) σ H { s with heap:=h2.push (seqObj "list" #[] 0) }:=pG (s:={ s with heap:=h2 }) (t':=s.toks) I2 (λb u q=>vZ _ q) (vT _) (vY _ rfl) dr
 have k0:X.s₀.heap.objs.size<=kS:=I2.sz
 have kp:∀q∈X.pn++((a,seqObj "list" #[] e1)::ae),q.1≠kS:=λq hq=>vS (vX (I2.pin q hq).1)
 have kna:kS≠a:=λz=>kp (a,seqObj "list" #[] e1) (mY _ mX) z.symm
 unfold ksk_tree
 refine wX (listItems_at pa.1 rfl ?_)
 refine wX (listUpdate_at pa.1 rfl ?_ (by simpa using hz) (uN _))
 refine wX (seqEpoch_at Pp rfl ?_)
 refine wX (wpAny_newTuple ?_ (by show its.length<=sizeLine;exact hz))
 refine wX (wpAny_newList ?_ (uN _))
 refine wpAny_holding ?_
 show wpAny (model X.prog X.w) A (ksk_rest a qv false its.toArray e1 (.ref kS)) P E { s with heap:=h2.push (seqObj "list" #[] 0) }
 unfold ksk_rest
 refine wX (wpAny_rule ?_)
 rw[List.forIn_toArray]
 refine wX (ksk_fold (λi s'=>∃(H' N:Hp)(kA:Array Value)(e:Nat)(aK:List V),Inv X ((kS,seqObj "list" kA e)::(a,seqObj "list" #[] e1)::ae) σ H' s'/\Ext B N H H'/\aS aK kA.toList/\IsL X.K N aK (gP.take i)) its 0 _
  ⟨H,B,#[],0,[],I3,.refl sB,.nil,by simpa using IsL.nil⟩ ?step ?done)
 case step=>
  rintro j u s' hu ⟨H',N,kA,e,aK,J,x1,rk,ik⟩
  simp only[Nat.zero_add]at ik ⊢
  have hj:j<its.length:=(vV hu).1
  obtain⟨d,hd⟩:∃d,ds[j]? = some d:=⟨_,vU (by omega)⟩
  obtain⟨v,hv,Mf⟩:=iv.get hd
  obtain⟨kd,SM,UV⟩:=qB em hd
  obtain⟨u',KQ,ru⟩:=rv.get hv
  rw[hu]at KQ;cases KQ
  have kl:kA.size=j:=by
   have z1:=rk.length
   have z2:=ik.length
   rw[List.length_take]at z2
   rw[vG]at z1
   exact z1.symm.trans (z2.trans (Nat.min_eq_left (by omega)))
  refine wX (wpAny_attempt (wpAny_mono (Ib _ s' H' N v u d kd J x1.hh x1.bn x1.nh (Mf.mono x1.bn) ru UV) (λw E6 hw=>?_) λ_ _ hF=>hF.elim))
  obtain⟨v',YW,J',YX,N',x2,i2⟩:=hw
  have pk:=J'.pin (kS,seqObj "list" kA e) (mY _ mX)
  obtain⟨c2,zW⟩:∃c2,(E6.heap.update kS (Obj.mapSeq (·.push w))).get? kS=some (seqObj "list" (kA.push w) c2):=⟨_,get?_update_seq pk.1 (·.push w)⟩
  have u2:=vW E6.heap kS (Obj.mapSeq (·.push w))
  refine wX (listUpdate_at pk.1 rfl ?_ (by rw[sizeLine_eq];omega) (vR (Nat.le_of_eq (Array.size_push ..)) (by rw[sizeLine_eq];omega)))
  refine wY ⟨rfl,YW,N',kA.push w,c2,aK++[v'],ig (t':=E6.toks) J' k0 kp (λb q n z=>(u2.2 b n).trans z) zW dr,x1.trans x2,?_,?_⟩
  ·rw[Array.toList_push];exact ul YX rk
  ·rw[List.take_add_one,SM];exact(ik.mono x2.bn).append (.cons i2 .nil)
 case done=>
  rintro s' ⟨H',N,kA,e,aK,J,x1,rk,ik⟩
  have WI:IsL X.K N aK gP:=by
   have z:gP.take (0+its.length)=gP:=List.take_of_length_le (by omega)
   rw[z]at ik;exact ik
  have pk:=J.pin (kS,seqObj "list" kA e) (mY _ mX)
  have YY:=J.pin (a,seqObj "list" #[] e1) (mY _ (mZ _ mX))
  have Ri:H' a=none:=YY.2.1
  have kz:kA.toList.length=its.length:=by rw[←rk.length,WI.length];omega
  have WJ:kA.size=its.length:=by rw[←vG];exact kz
  refine wX (listItems_at pk.1 rfl ?_)
  have WK:=M.ask J rk (WI.mono x1.nh) ek hf hc
  -- the end of the sort,for a permutation p
  have RG:∀(st:SortSt)(p:Array Nat),arrOf st=p.map (kas_item (kA.toList.toArray.zip its.toArray))->failedOf st=none->pB its.length p->Up (HV ks) p its.length ->
    wpAny (model X.prog X.w) A (ksk_tail a false e1 (.ref kS) st) P E s':=λst p ea ef ap up=>by
   have eo:(arrOf st).map (·.2)=List.toArray (p.toList.map λi=>its.getD i Value.none):=kat_snds kz ea
   have KP:∀i∈p.toList,i<vs.length:=λi hi=>by
    have:=List.mem_range.mp (ap.perm.mem_iff.mp hi)
    omega
   obtain⟨c3,YZ⟩:∃c3,(s'.heap.update kS (Obj.mapSeq λ_=>(#[]:Array Value))).get? kS=some (seqObj "list" #[] c3):=⟨_,get?_update_seq pk.1 λ_=>#[]⟩
   have u3:=vW s'.heap kS (Obj.mapSeq λ_=>(#[]:Array Value))
   have J3:=k9 (ig (t':=s'.toks) J k0 kp (λb q n z=>(u3.2 b n).trans z) YZ dr)
   have UW:=J3.pin (a,seqObj "list" #[] e1) (mY _ mX)
   obtain⟨c4,WL⟩:∃c4,((s'.heap.update kS (Obj.mapSeq λ_=>(#[]:Array Value))).update a (Obj.mapSeq λ_=>(arrOf st).map (·.2))).get? a=some (seqObj "list" ((arrOf st).map (·.2)) c4):=⟨_,get?_update_seq UW.1 λ_=>(arrOf st).map (·.2)⟩
   have u4:=vW (s'.heap.update kS (Obj.mapSeq λ_=>(#[]:Array Value))) a (Obj.mapSeq λ_=>(arrOf st).map (·.2))
   have so:((arrOf st).map (·.2)).size=its.length:=by rw[eo];simp only[vH,vI,vG,ap.size]
   unfold ksk_tail
   try dsimp only
   refine wX (listUpdate_at pk.1 rfl ?_ (by rw[WJ,sizeLine_eq];omega) (uN _))
   refine wX (wpAny_letGo ?_)
   refine wX (seqEpoch_at UW.1 rfl ?_)
   refine wX (listUpdate_at UW.1 rfl ?_ (uN _) (by simp only[uV,if_false];rw[so,sizeLine_eq];omega))
   rw[ef]
   simp only[bne_self_eq_false,uV,if_false]
   refine wY (h p _ H' N ap up (Jx (s:={ s' with heap:=s'.heap.update kS (Obj.mapSeq λ_=>(#[]:Array Value)) }) (t':=s'.toks) J3 h0 hp (λb q n z=>(u4.2 b n).trans z) ⟨_,WL⟩ ?_) x1 Ri)
   refine⟨by rw[vI,vG,ap.size];exact hz,p.toList.map λi=>its.getD i Value.none,c4,uj rv p.toList KP,?_⟩
   rw[←eo];exact WL
  unfold ksk_end
  try dsimp only
  simp only[uV,if_false]
  have Za:kA=kA.toList.toArray:=by simp
  by_cases Hy:its.toArray.size<2
  ·rw[if_pos Hy,if_pos Hy]
   refine wX (wY ?_)
   rw[StateT.run_pure]
   refine wX (wY ?_)
   have WM:its.length<2:=by simpa using Hy
   refine RG _ (List.toArray (List.range its.length)) ?_ rfl ⟨by simp,by simp⟩ ?_
   ·show kA.zip its.toArray=_
    have:=kas_range (kA.toList.toArray.zip its.toArray)
    rw[show(kA.toList.toArray.zip its.toArray).size=its.length by simp[WJ]]at this
    rw[this]
   ·intro i j CT hj
    have:i=j:=by omega
    subst this;exact Int.le_refl _
  ·rw[if_neg Hy,if_neg Hy]
   have UX:2<=its.length:=by simp at Hy;omega
   rw[Za]
   refine wX (WK.1 (by omega) ?_)
   obtain⟨p,r1,r2,r3⟩:=FI (n:=its.length) (rk:=HV ks) (by omega)
   refine wX (wpAny_mono (kat_run (E:=E) (ks:=kA.toList) (vs:=its) (κ:=tuples' true) (s:=s') (Q:=λkU s2=>s2=s'/\arrOf kU=p.map (kas_item (kA.toList.toArray.zip its.toArray))/\failedOf kU=none)
    (G:=λp' s2=>p'=p/\s2=s') kz UX Eu (λp' kU s2 _ e2 e3 e4=>by
     obtain⟨rfl,rfl⟩:=e4
     exact⟨rfl,e2,e3⟩) (Run.wp (λs2=>s2=s') (λi j C s2 hi hj e hC=>WK.2 i j C s2 (by omega) (by omega) e hC) r1 rfl λs2 e=>⟨rfl,e⟩)) (λr s2 hr=>?_) λ_ _ z=>z)
   obtain⟨⟨⟩,kU⟩:=r
   obtain⟨rfl,e2,e3⟩:=hr
   exact RG kU p e2 e3 r2 r3
end
theorem yH {α β:Type}{f:α->β}:∀ {l:List α},(l.map f).Nodup->l.Nodup
 |[],_=>List.nodup_nil
 |a::l,h=>by
  rw[uY,List.nodup_cons]at h;exact List.nodup_cons.mpr ⟨λz=>h.1 (uS ⟨a,z,rfl⟩),yH h.2⟩
def js (ks:List (List At))(ds:List D):List D:=(eD (λp:List At×D=>cO p.1) (ks.zip ds)).map (·.2)
theorem FR {α β:Type}(d:α)(e:β):∀ {l₁:List α}{l₂:List β},l₁.length=l₂.length->(List.range l₂.length).map (λi=>(l₁.getD i d,l₂.getD i e))=l₁.zip l₂:=λ{l₁ l₂} h=>by
 apply List.ext_getElem?;intro i;by_cases hi:i<l₂.length
 ·have LX:i<l₁.length:=by omega
  have:=(List.getElem?_zip_eq_some (z:=(l₁[i],l₂[i]))).mpr ⟨vU LX,vU hi⟩;rw[this];simp[hi,LX]
 ·simp[hi,h]
theorem Jy {α β:Type}{l₁:List α}{l₂:List β}(nd:l₁.Nodup){a:α}{b c:β}(h1:(a,b)∈l₁.zip l₂)(h2:(a,c)∈l₁.zip l₂):b=c:=by
 obtain⟨i,hi⟩:=List.mem_iff_getElem?.mp h1;obtain⟨j,hj⟩:=List.mem_iff_getElem?.mp h2;obtain⟨i1,i2⟩:=List.getElem?_zip_eq_some.mp hi;obtain⟨j1,j2⟩:=List.getElem?_zip_eq_some.mp hj;obtain⟨li,ei⟩:=vV i1;obtain⟨lj,ej⟩:=vV j1;have:i=j:=(List.getElem_inj nd).mp (ei.trans ej.symm);subst this;rw[i2]at j2;exact vK j2
theorem AI {ds:List D}{ks:List (List At)}{p:Array Nat}(hl:ks.length=ds.length)(hc:eE ks=true)(nd:ks.Nodup)(ap:pB ds.length p)(up:Up (HV ks) p ds.length):p.toList.map (λi=>ds.getD i .non)=js ks ds:=by
 unfold js;have e:p.toList.map (λi=>(ks.getD i [],ds.getD i .non))=eD (λp:List At×D=>cO p.1) (ks.zip ds):=by
  apply k8
  ·intro x hx y hy e;have mx:=(List.of_mem_zip hx).1;have my:=(List.of_mem_zip hy).1;have:=nW hc mx my e;obtain⟨k1,d1⟩:=x;obtain⟨k2,d2⟩:=y;have z:k1=k2:=this;subst z;rw[Jy nd hx hy]
  ·have:=ap.perm.map (λi=>(ks.getD i [],ds.getD i D.non));rw[FR [] D.non hl]at this;exact this
  ·rw[List.pairwise_iff_getElem];intro i j hi hj CT;have hsz:=ap.size;have LX:i<p.size:=by simpa using hi
   have Zb:j<p.size:=by simpa using hj
   have:=up i j (Nat.le_of_lt CT) (by omega);unfold cx HV at this;have gi:p.getD i 0=p[i]:=by rw[Array.getD_eq_getD_getElem?,Array.getElem?_eq_getElem LX];rfl
   have gj:p.getD j 0=p[j]:=by rw[Array.getD_eq_getD_getElem?,Array.getElem?_eq_getElem Zb];rfl
   have lj:=ap.lt (k:=j) (by omega);have mj:ks.getD (p.getD j 0) []∈ks:=by
    have h':p.getD j 0<ks.length:=by omega
    rw[vF,vU h'];exact List.getElem_mem h'
   have nl:¬cO (ks.getD (p.getD j 0) [])<cO (ks.getD (p.getD i 0) []):=λz=>by
    have:=BO (cs:=ks.map cO) (uS ⟨_,mj,rfl⟩) z;omega
   simp only[List.getElem_map,Array.getElem_toList];unfold HU;rw[←gi,←gj];exact nl
 rw[←e,uP];rfl
@[simp] def wM (kd:List D->Option (List (List At)))(ok:List (List At)->Bool)(f:FE)(kf:Env->D->Option D):FE:=λρ=>(f ρ).bind λx=>match x.1 with
 |.lst ds=>(jr (kf ρ) ds).bind λgP=>(kd gP).bind λks=>if ks.length<64/\eE ks=true/\ok ks=true/\(ks.map cO).Nodup then some (.lst (js ks ds),true)else none
 |_=>none
@[simp] abbrev qC:FE->(Env->D->Option D)->FE:=wM dE fF
section
variable {X:Cx}{e ke:Expr}{p pos kp:Pos}
theorem FU {kd:List D->Option (List (List At))}{ok:List (List At)->Bool}(M:KK X X.A.in1.in1 kd ok){f:FE}{kf:Env->D->Option D}(hm:X.mg "sorted" = none)(he:JE X e f)(hk:JK X X.A.in1.in1 ke kf)(hg:Gl X "sorted":=by rfl)
  (UY:starEach [e] X.env=[(false,eval e X.env)]:=by rfl) (UZ:backTo pos (starEach [e] X.env)=(false,eval e X.env)::backTo pos (starEach [] X.env):=by rfl) (mf:(backTo pos (starEach [e] X.env)).any (·.1)=false:=by rfl)
  (ly:(backToKw pos (keywordEach [⟨some "key",ke,kp⟩] X.env)).all (·.1.isSome)=true:=by rfl) (Va:(backToKw pos (keywordEach [⟨some "key",ke,kp⟩] X.env)).any (·.1.isNone)=false:=by rfl)
  (Vb:(backToKw pos (keywordEach [⟨some "key",ke,kp⟩] X.env)).filterMap (·.1)=[("key" : Str)]:=by rfl):
  JE X (.Call (.Name "sorted" p) [e] [⟨some "key",ke,kp⟩] pos) (wM kd ok f kf):=by
 intro ae s σ H Q I h;obtain⟨B,ρ,d,b,sB,rep,ee,q⟩:=h;obtain⟨⟨xd,xb⟩,ex,ee⟩:=oX ee;cases xd<;>try (cases ee;done)
 rename_i ds;obtain⟨gP,em,ee⟩:=oX ee;obtain⟨ks,ek,ee⟩:=oX ee;split at ee
 ·rename_i hh;obtain⟨Eu,hc,hf,nd⟩:=hh;cases ee
  refine wpAny_Call_Name_kw (iS I hg hm (u:=.builtin "sorted") rfl ?_);refine callWith_kw (cu ((iG he ki UY) pos ae s σ H (λvs H1=>∃v N,vs=[v]/\Ext B N H H1/\Is X.K N v (.lst ds)) I ⟨B,ρ,_,_,sB,rep,ex,λv H1 N x1 i1 _=>⟨v,N,rfl,x1,i1⟩⟩) λus s1 hA=>?_) UZ mf ly Va;obtain⟨Zc,H1,I1,r1,v,N,rfl,x1,i1⟩:=hA;obtain⟨u,rfl,ru⟩:=gK r1;refine kws_cons (hk ae s1 σ H1 N ρ _ _ I1 x1.nh (rep.mono x1.bn) λqa H2 s2 I2 m2 Ib=>kws_nil ?_);rw[Vb];show wpAny _ _ (call (.builtin "sorted") [u] [(("key" : Str),.ref qa)]) _ _ _;cases i1
  rename_i l vs hq il;cases ru
  have sN:aV N H2:=x1.nh.trans m2;obtain⟨its,rv,pl,hz⟩:=I2.list (sN.seq hq);have CQ:vs.length=its.length:=rv.length;have Pr:ds.length=vs.length:=il.length.symm;have YV:gP.length=ds.length:=kB em;have WH:ks.length=gP.length:=M.len ek;have Vc:its.length<64:=by omega
  refine call_function_entry_kw kind_sorted plain_sorted entry_sorted (ksk_s1 _ _) ?_;unfold Builtin.«sorted»;refine wX (m:=checkCount "sorted" 1 1 _) (wY (wX (collect_list pl.isList (wX (wpAny_newList ?_ (by rw[sizeLine_eq];omega))) (by rw[sizeLine_eq];omega))));let h1:Heap:=(s2.heap.push (seqObj "list" #[] 0)).update s2.heap.objs.size (Obj.mapSeq (· ++ its.toArray));have hsz:h1.objs.size=s2.heap.objs.size+1:=by show(Heap.update _ _ _).objs.size=_;rw[Heap.size_update,size_push']
  have RH:∀b o,s2.heap.get? b=some o->h1.get? b=some o:=λb o q=>(Heap.get?_update_ne _ _ _ _ (vS (vX q))).trans (vZ _ q);have I3:Inv X ((h1.objs.size,seqObj "list" its.toArray 0)::ae) σ H2 { s2 with heap:=h1.push (seqObj "list" its.toArray 0) } :=
   pG (t':=s2.toks) I2 (λb u q=>vZ _ (RH b u q)) (by rw[hsz];exact Nat.le_succ _) (vY _ rfl) dr
  have p3:=I3.pin (h1.objs.size,seqObj "list" its.toArray 0) (mY _ mX);show wpAny (model X.prog X.w) X.A.in1 (holding [.ref h1.objs.size] (call (.builtin "list.sort") [.ref h1.objs.size] [(("key" : Str),.ref qa)])>>=_) _ _ { s2 with heap:=h1.push (seqObj "list" its.toArray 0) };refine wX (wpAny_holding (wpAny_call_entry_kw slot_list_sort ⟨_,p3.1,rfl⟩ entry_list_sort ?_ (ksk_l1 _ _)));show wpAny (model X.prog X.w) X.A.in1.in1 (Builtin.«list.sort» ⟨[.ref h1.objs.size],[(Str.ofString "key",.ref qa)]⟩) _ _ _;rw[ksk_t1];refine AH I3 (vR I2.sz (by rw[hsz];exact Nat.le_succ _)) (λq hq=>by rw[hsz];exact vS (Nat.lt_succ_of_lt (vX (I2.pin q hq).1))) Ib rv il sN M em ek hc hf Vc λpm s' H' N' ap up J x3 hn=>⟨_,rfl,wY ⟨_,rfl,?_⟩⟩;have mf:its.length=ds.length:=by omega
  rw[mf]at ap up;have er:=AI (by omega) hc (yH nd) ap up;have KP:∀i∈pm.toList,i<ds.length:=λi hi=>List.mem_range.mp (ap.perm.mem_iff.mp hi);have ip:=yE (il.mono x3.bn) pm.toList KP;rw[er]at ip;have x4:Ext B N' H H':=(x1.trans (.grow x1.nh m2)).trans x3;have hN:N' h1.objs.size=none:=x3.nh.free hn;have x5:=x4.trans (Ext.laid (o:=.lst (pm.toList.map λi=>vs.getD i .non)) x3.nh hn);exact⟨.ref h1.objs.size,_,J,rfl,q _ _ _ x5 (.lst (gX.of aC) (ip.mono (Ext.laid (o:=.lst (pm.toList.map λi=>vs.getD i .non)) x3.nh hn).bn)) λ_=>⟨_,_,_,rfl,rfl,x4.hh.free hn,aC,ip.mono (Ext.laid (o:=.lst (pm.toList.map λi=>vs.getD i .non)) x3.nh hn).bn⟩⟩
 ·cases ee
end
noncomputable def X7 {f:String->CmpOp->Builtin}(_:f "__lt__" .Lt=Builtin.«tuple.__lt__»):=f
noncomputable def VJ:String->CmpOp->Builtin:=X7 rfl
section
variable {prog:Program}{w:World}{A:Around}{E:Value->Shared->Prop}{s:Shared}{op:CmpOp}
theorem ie.type (h:ie s.heap xs v):s.TypeIs v "tuple":=by
 obtain⟨a,o,its,n,rfl,ho,hc,_⟩:=h;exact⟨o,ho,hc⟩
inductive GeW (prog:Program)(w:World)(A:Around)(s:Shared)(op:CmpOp)(iF r:Bool):List (Value×Value)->Prop
 |nil (h:iF=r):GeW prog w A s op iF r []
 |eq {u v:Value}{l:List (Value×Value)}(h:SeqAt.EqAt A s u v true) (t:GeW prog w A s op iF r l):GeW prog w A s op iF r ((u,v)::l)
 |ne {u v:Value}{l:List (Value×Value)}(h:SeqAt.EqAt A s u v false) (t:∀(Q E:Value->Shared->Prop),Q (.bool r) s->wpAny (model prog w) A (richCompare op u v) Q E s):GeW prog w A s op iF r ((u,v)::l)
theorem Jz {nm:String}(Zd:s.TypeIs (.ref b) "tuple")(U4:s.heap.get? a=some oa)(Ze:oa.data=.seq its na)(Zf:s.heap.get? b=some ob)(tu:ob.data=.seq gE nb)
  (W:GeW prog w A s op iF r (its.toList.zip gE.toList)) (hz:Builtin.Tuple.tupleCompareSizes op its.size gE.size=.bool iF) (RI:op=.Lt∨op=.Gt∨op=.GtE) (q:P (.done (.ret (.bool r))) s):wpAny (model prog w) A (VJ nm op ⟨[.ref a,.ref b],[]⟩) P E s:=by
 show wpAny _ _ (isInstance (.ref _) (.type "tuple")>>=_) _ _ s;refine wX (wpAny_isInstance Zd isSubtype_tuple_tuple ?_);simp only[Bool.not_true,uV,if_false];refine wX (wpAny_tupleItemsOf U4 Ze ?_);refine wX (wpAny_tupleItemsOf Zf tu ?_);refine wX ?_;refine wpAny_forIn_list _ (λaD z s'=>z.1=none/\s'=s/\GeW prog w A s op iF r aD) _ ?_ ?_ _ _ ⟨rfl,rfl,W⟩
 ·rintro⟨u,v⟩ aD z s' ⟨hz,rfl,W⟩;cases W with
  |eq h t=>
   refine wX (h _ _ _ _ ?_);simp only[Bool.not_true,uV,if_false];exact wY ⟨rfl,rfl,t⟩
  |ne h t=>
   refine wX (h _ _ _ _ ?_);simp only[Bool.not_false,if_true];have t:=t (λv E6=>v=.bool r/\E6=s') E ⟨rfl,rfl⟩;rcases RI with rfl|rfl|rfl<;>exact wX (wpAny_rule (wX (wpAny_mono t (λv E6 hv=>by obtain⟨rfl,rfl⟩:=hv;exact wX (wY (wY (wY q)))) λ_ _ z=>z)))
 ·rintro⟨z1,z2⟩ s' ⟨WN,rfl,W⟩;simp only at WN;subst WN;refine wY ?_;cases W with
  |nil h=>
   show P (.done (.ret (Builtin.Tuple.tupleCompareSizes op its.size gE.size))) s';rw[hz,h];exact q
structure CmR (prog:Program)(w:World)(A:Around)(s:Shared)(op:CmpOp)(R:List At->List At->Bool->Prop)(fl:Nat->Nat->Bool):Prop where
 ei:∀ {a xs ys r},R (.i a::xs) (.i a::ys) r->R xs ys r
 es:∀ {a xs ys r},R (.s a::xs) (.s a::ys) r->R xs ys r
 ni:∀ {a c xs ys r},a≠c->R (.i a::xs) (.i c::ys) r->∀t u (Q E:Value->Shared->Prop),Q (.bool r) s->wpAny (model prog w) A (richCompare op (.int a t) (.int c u)) Q E s
 ns:∀ {a c xs ys r},a≠c->R (.s a::xs) (.s c::ys) r->∀t u (Q E:Value->Shared->Prop),Q (.bool r) s->wpAny (model prog w) A (richCompare op (.str a t) (.str c u)) Q E s
 mx:∀ {a c xs ys r},¬R (.i a::xs) (.s c::ys) r/\¬R (.s c::xs) (.i a::ys) r
 en:∀ {xs r},(R [] xs r->fl 0 xs.length=r)/\(R xs [] r->fl xs.length 0=r)
 fs:∀ {m n},fl (m+1) (n+1)=fl m n
theorem qD (C:CmR prog w A s op R fl):∀(xs ys:List At)(its gE:List Value),Paired zU xs its->Paired zU ys gE->R xs ys r->GeW prog w A s op (fl xs.length ys.length) r (its.zip gE)
 |[],_,_,_,.nil,_,h=>.nil (C.en.1 h)
 |_::_,[],_,_,.cons _ _,.nil,h=>.nil (C.en.2 h)
 |.i _::_,.s _::_,_,_,_,_,h=>absurd h C.mx.1
 |.s _::_,.i _::_,_,_,_,_,h=>absurd h C.mx.2
 |.i a::xs,.i c::ys,_,_,.cons r1 HA,.cons r2 r2',h=>by
  obtain⟨t,rfl⟩:=r1;obtain⟨u,rfl⟩:=r2;have he:=SeqAt.EqAt.int_int (A:=A) (s:=s) a t c u;rw[List.zip_cons_cons,vE,vE,C.fs];by_cases e:a=c
  ·subst e;rw[show(a == a)=true by simp]at he;exact .eq he (qD C xs ys _ _ HA r2' (C.ei h))
  ·rw[show(a == c)=false by simp[e]]at he;exact .ne he (C.ni e h t u)
 |.s a::xs,.s c::ys,_,_,.cons r1 HA,.cons r2 r2',h=>by
  obtain⟨t,rfl⟩:=r1;obtain⟨u,rfl⟩:=r2;have he:=SeqAt.EqAt.str_str (A:=A) (s:=s) a t c u;rw[List.zip_cons_cons,vE,vE,C.fs];by_cases e:a=c
  ·subst e;rw[show(a == a)=true by simp]at he;exact .eq he (qD C xs ys _ _ HA r2' (C.es h))
  ·rw[show(a == c)=false by simp[e]]at he;exact .ne he (C.ns e h t u)
theorem QJ:CmR prog w A s .Lt (λxs ys r=>ba xs ys=some r) (λm n=>decide (m<n)) where
 ei h:=by rwa [ba,if_pos rfl]at h
 es h:=by rwa [ba,if_pos rfl]at h
 ni e h _ _ _ _ q:=by rw[ba,if_neg e]at h;cases h;exact PyProof.Rows.lt_int q
 ns e h _ _ _ _ q:=by rw[ba,if_neg e]at h;cases h;exact PySem.P.lt_str q
 mx:=by simp[ba]
 en:=λ{xs}=>by cases xs<;>simp[ba]
 fs:=by simp
theorem QK:CmR prog w A s .Gt (λxs ys r=>ba ys xs=some r) (λm n=>decide (n<m)) where
 ei h:=by rwa [ba,if_pos rfl]at h
 es h:=by rwa [ba,if_pos rfl]at h
 ni e h _ _ _ _ q:=by rw[ba,if_neg (Ne.symm e)]at h;cases h;exact PyProof.Rows.gt_int q
 ns e h _ _ _ _ q:=by rw[ba,if_neg (Ne.symm e)]at h;cases h;exact PySem.P.gt_str q
 mx:=by simp[ba]
 en:=λ{xs}=>by cases xs<;>simp[ba]
 fs:=by simp
theorem FV (hx:ie s.heap xs (.ref a)):∃o its n,s.heap.get? a=some o/\o.data=.seq its n/\Paired zU xs its.toList/\xs.length=its.size:=by
 obtain⟨a',o,its,n,e,ho,hc,hd,p⟩:=hx;cases e
 exact⟨o,its,n,ho,hd,p,by rw[←vG];exact ga p⟩
theorem LH {nm:String}(C:CmR prog w A s op R fl)(hz:∀m n,Builtin.Tuple.tupleCompareSizes op m n=.bool (fl m n))(RI:op=.Lt∨op=.Gt∨op=.GtE)(hx:ie s.heap xs (.ref a))(hy:ie s.heap ys (.ref b))(h:R xs ys r)(q:P (.done (.ret (.bool r))) s):wpAny (model prog w) A (VJ nm op ⟨[.ref a,.ref b],[]⟩) P E s:=by
 have hb:=hy.type;obtain⟨_,_,_,ho,hd,p,l1⟩:=FV hx;obtain⟨_,_,_,sD,Bi,p',l2⟩:=FV hy;exact Jz hb ho hd sD Bi (qD C _ _ _ _ p p' h) (by rw[l1,l2];exact hz _ _) RI q
theorem FW (hx:ie s.heap xs x)(hy:ie s.heap ys y)(h:ba xs ys=some r)(hu:A.units<cLine)(q:Q (.bool r) s):wpAny (model prog w) A (richCompare .Lt x y) Q E s:=by
 have tx:=hx.type;have ty:=hy.type;obtain⟨a,_,_,_,rfl,_⟩:=id hx;obtain⟨b,_,_,_,rfl,_⟩:=id hy;exact wpAny_richCompare_same_room (op:=.Lt) tx ty PySem.F.slot_tuple_lt (wpAny_call_entry PySem.F.slot_tuple_lt tx PySem.F.entry_tuple_lt (LH QJ (λ_ _=>rfl) (.inl rfl) hx hy h ⟨_,rfl,(λe=>nomatch e),q⟩) (PySem.F.args_tuple_lt_2 _ _)) hu
theorem QL (hx:ie s.heap xs x)(hy:ie s.heap ys y)(h:ba ys xs=some r)(hu:A.units<cLine)(q:Q (.bool r) s):wpAny (model prog w) A (richCompare .Gt x y) Q E s:=by
 have tx:=hx.type;have ty:=hy.type;obtain⟨a,_,_,_,rfl,_⟩:=id hx;obtain⟨b,_,_,_,rfl,_⟩:=id hy;exact wpAny_richCompare_same_room (op:=.Gt) tx ty PySem.F.slot_tuple_gt (wpAny_call_entry PySem.F.slot_tuple_gt tx PySem.F.entry_tuple_gt (LH QK (λ_ _=>rfl) (.inr (.inl rfl)) hx hy h ⟨_,rfl,(λe=>nomatch e),q⟩) (PySem.F.args_tuple_gt_2 _ _)) hu
end
def m8:List At×D->List (List At×D)->D
 |b,[]=>b.2
 |b,x::r=>if ba b.1 x.1=some true then m8 x r else m8 b r
def lC:List At×D->List (List At×D)->D
 |b,[]=>b.2
 |b,x::r=>if ba x.1 b.1=some true then lC x r else lC b r
noncomputable def X8 {f:String->CmpOp->Builtin}(_:f "max" .Gt=Builtin.«max.loop»):=f
noncomputable def X9:String->CmpOp->Builtin:=X8 rfl
noncomputable def XA {f:String->Builtin}(_:f "max" = Builtin.«max»):=f
noncomputable def XB:String->Builtin:=XA rfl
structure MM (nm lp:String)(ns:Str)(op:CmpOp)(lt:List At->List At->Option Bool)(go:List At×D->List (List At×D)->D):Prop where
 hn:(toString nm++toString ".loop" : String)=lp
 en:entryFor table lp=some (X9 nm op)
 pl:plainId lp=true
 k2:builtinKind nm=none
 p2:plainId nm=true
 e2:entryFor table nm=some (XB nm)
 ka:∀a v:Value,argsOk nm ⟨[a],[(Str.ofString "key",v)]⟩
 bt:bootBuiltins ns=some (.builtin nm)
 n1:ns ≠ "__name__"
 n2:(ns == ("__debug__" : Str))=false
 g0:∀b,go b []=b.2
 g1:∀b x r,go b (x::r)=if lt b.1 x.1=some true then go x r else go b r
 cg:∀ {ks:List (List At)},eE ks=true->∀ {a b},a∈ks->b∈ks->∃r,lt a b=some r
 rc:∀ {prog:Program}{w:World}{A:Around}{E:Value->Shared->Prop}{s:Shared}{xs ys:List At}{x y:Value}{r:Bool}{Q:Value->Shared->Prop},ie s.heap xs x->ie s.heap ys y->lt ys xs=some r->A.units<cLine->Q (.bool r) s->wpAny (model prog w) A (richCompare op x y) Q E s
theorem VL:MM "max" "max.loop" "max" .Gt ba m8 :=
 ⟨by decide,PySem.F.entry_max_loop,PySem.F.plain_max_loop,PySem.F.kind_max,PySem.F.plain_max,PySem.F.entry_max,λ_ _=>by unfold argsOk;kernel_rfl,rfl,by decide,by decide,λ_=>rfl,λ_ _ _=>rfl,λh _ _ a b=>⟨_,gZ h a b⟩,QL⟩
theorem TW:MM "min" "min.loop" "min" .Lt (λa b=>ba b a) lC :=
 ⟨by decide,PySem.F.entry_min_loop,PySem.F.plain_min_loop,PySem.F.kind_min,PySem.F.plain_min,PySem.F.entry_min,λ_ _=>by unfold argsOk;kernel_rfl,rfl,by decide,by decide,λ_=>rfl,λ_ _ _=>rfl,λh _ _ a b=>⟨_,gZ h b a⟩,FW⟩
section
variable {X:Cx}{ae:List (Addr×Obj)}{σ:St}
theorem AJ (J:Inv X ((a1,o1)::(a2,o2)::ae) σ H' s'):Inv X ((a2,o2)::(a1,o1)::ae) σ H' s' :=
 J.pins_of λq hq=>J.pin q (by
  rcases vP hq with rfl|hq
  ·exact mY _ (mZ _ mX)
  ·rcases vP hq with rfl|hq
   ·exact mY _ mX
   ·exact mY _ (mZ _ (mZ _ hq)))
theorem qE (hp:∀q∈X.pn++ae,q.1≠a)(h:S≠a):∀q∈X.pn++((S,o)::ae),q.1≠a:=λq hq=>by
 rcases List.mem_append.mp hq with hq|hq
 ·exact hp q (List.mem_append_left _ hq)
 ·rcases vP hq with rfl|hq
  ·exact h
  ·exact hp q (mY _ hq)
theorem pH (I:Inv X ae σ H s)(r:aU v u)(i:Is X.K H v d)(e:yB d=some k):ie s.heap k u:=by
 have:=pF I (ys:=[v]) (ds:=[d]) (ks:=[k]) (its:=[u]) (.cons r .nil) (.cons i .nil) (by simp only[dE,e];rfl);cases this;assumption
inductive MK (X:Cx)(ae:List (Addr×Obj))(σ:St)(S It l:Addr)(o:Obj)(j:Nat)(N H:Hp)(y:List At×D)(u ku:Value)(s:Shared):Prop
 |mk (H2 N2:Hp) (v kv:V) (kd:D) (oI:Obj) (J:Inv X ((S,o)::(It,oI)::ae) σ H2 s) (zY:s.heap.IsListIter It l (j+1)) (x:Ext N N2 H H2) (ru:aU v u) (iv:Is X.K N2 v y.2) (rk:aU kv ku) (ik:Is X.K N2 kv kd) (ek:yB kd=some y.1)
theorem FX {E:Value->Shared->Prop}{It:Addr}(hh:X.A.handled=none)(Ib:BU X X.A.in1 σ (.ref qa) B H1 kf)(hq:gX X.K B l vs)(iv:IsL X.K B vs ds)(em:jr kf ds=some gP)(ek:dE gP=some ks)(I0:X.s₀.heap.objs.size<=It)(OC:∀q∈X.pn++((S,o)::ae),q.1≠It)
  (OD:l≠It) (hz:(ks.zip ds)[j]? = some y) (I:Inv X ((S,o)::(It,oI)::ae) σ H s) (zY:s.heap.IsListIter It l j) (x1:Ext B N H1 H):
  wpAny (model X.prog X.w) X.A.in1 (pyNext (.ref It)) (λr s1=>∃u,r=some u/\wpAny (model X.prog X.w) X.A.in1 (call (.ref qa) [u]) (MK X ae σ S It l o j N H y u) (λ_ _=>False) s1) E s:=by
 obtain⟨its,rv,pl,_⟩:=I.list ((x1.bn.trans x1.nh).seq hq);obtain⟨hk,hd⟩:=List.getElem?_zip_eq_some.mp hz;obtain⟨v,hv,Mf⟩:=iv.get hd;obtain⟨kd,SM,UV⟩:=qB em hd;obtain⟨u,hu,ru⟩:=rv.get hv;have Px:yB kd=some y.1:=by
  have:=ui ek (i:=j) (vV SM).1;rw[vF,SM,vF,hk]at this;exact this
 refine(Walks.list (prog:=X.prog) (w:=X.w) (A:=X.A.in1) hh It l OD its.toArray).item j _ _ _ (by simpa using(vV hu).1) ⟨zY,pl.isList⟩ λu' h' E8 hP hst' fO=>?_;have KQ:its[j]? = some u':=by simpa using hP
 rw[hu]at KQ;cases KQ;obtain⟨Mg,Vd,K2,WO⟩:=id hst'.1;exact⟨u,rfl,cu (Ib _ _ H N v u y.2 kd (AJ (ig (t':=E8) (AJ I) I0 OC (λb o n e=>fO b o (by simpa using n) e) Vd (λv z=>by rw[WO]at z;cases z))) x1.hh x1.bn x1.nh (Mf.mono x1.bn) ru UV) λku s2 ⟨kv,H2,J4,rk,N2,x2,ik⟩=>
  ⟨H2,N2,v,kv,kd,Mg,J4,⟨Mg,(J4.pin (It,Mg) (mY _ (mZ _ mX))).1,K2,WO⟩,x2,ru,Mf.mono (x1.bn.trans x2.bn),rk,ik,Px⟩⟩
theorem J0 {nm lp:String}{ns:Str}{op:CmpOp}{lt:List At->List At->Option Bool}{go:List At×D->List (List At×D)->D}(M:MM nm lp ns op lt go){qv:Value}{l S It:Addr}{vs:List V}{ds gP:List D}{ks:List (List At)}{B H1:Hp}{kf:D->Option D}{d0:D}{R:Result->Shared->Prop}(hh:X.A.handled=none)(hu:X.A.in1.units<cLine)(Ib:BU X X.A.in1 σ qv B H1 kf)(Zg:∃a,qv=.ref a)(hq:gX X.K B l vs)(iv:IsL X.K B vs ds)
  (em:jr kf ds=some gP) (ek:dE gP=some ks) (hc:eE ks=true) (S0:X.s₀.heap.objs.size<=S) (I0:X.s₀.heap.objs.size<=It) (RJ:∀q∈X.pn++ae,q.1≠S) (OC:∀q∈X.pn++ae,q.1≠It) (E9:S≠It) (SN:S≠l) (OD:l≠It)
  (hR:∀(s':Shared)(H' N:Hp)(v:V)(u:Value),Inv X ae σ H' s'->Ext B N H1 H'->aU v u->Is X.K N v d0->R (.ok (.ret u)) s'):
  ∀(r j:Nat)(s:Shared)(H N:Hp)(ub Ex:Value)(vb RK:V)(db RL:D)(kb:List At)(c:Nat)(oI:Obj),vs.length - j=r->j<=vs.length->Inv X ((S,seqObj "list" #[ub,Ex] c)::(It,oI)::ae) σ H s->s.heap.IsListIter It l j->Ext B N H1 H ->
   aU vb ub->Is X.K N vb db->aU RK Ex->Is X.K N RK RL->yB RL=some kb->kb∈ks->go (kb,db) ((ks.zip ds).drop j)=d0 ->
   codeAny (model X.prog X.w) X.A (.builtin lp ⟨[.ref It,qv,.ref S],[]⟩) R s:=by
 obtain⟨qa,rfl⟩:=Zg;intro r;induction r with
 |zero=>
  intro j s H N ub Ex vb RK db RL kb c oI hr hj I zY x1 r1 i1 r2 i2 ekb mk hd;have pS:=I.pin (S,seqObj "list" #[ub,Ex] c) (mY _ mX);have sB:aV B H:=x1.bn.trans x1.nh;obtain⟨its,rv,pl,_⟩:=I.list (sB.seq hq);have hl:=pl.isList;have W:=Walks.list (prog:=X.prog) (w:=X.w) (A:=X.A.in1) hh It l OD its.toArray;have hsz:its.toArray.size=its.length:=vH ..;have CQ:vs.length=its.length:=rv.length;have Pr:ds.length=its.length:=by rw[←iv.length];exact rv.length
  have WP:ks.length=ds.length:=by rw[la ek,kB em]
  have Bi:db=d0:=by
   rw[List.drop_of_length_le (by rw[List.length_zip];omega)]at hd;rw[M.g0]at hd;exact hd
  subst Bi;refine codeAny_builtin M.en ?_;rw[Around.under_plainId M.pl _];show wpAny _ X.A.in1 (seqItems? (.ref S)>>=_) _ _ _;refine wX (wpAny_seqItems pS.1 rfl ?_);show wpAny _ X.A.in1 (tryCatch (pyNext (.ref It)) _>>=_) _ _ _;refine wX (wpAny_tryCatch (W.done _ _ _ ⟨by rw[hsz,show its.length=j by omega];exact zY,hl⟩ λh' E8 fO=>?_));have J1:Inv X ((It,oI)::(S,seqObj "list" #[ub,Ex] c)::ae) σ H s:=AJ I;have Ve:∀q∈X.pn++((S,seqObj "list" #[ub,Ex] c)::ae),q.1≠It:=qE OC E9;have J2:Inv X ((S,seqObj "list" #[ub,Ex] c)::ae) σ H { s with heap:=h',toks:=E8 } :=
   (k9 J1).turned (t':=E8) (λb o n e=>fO b o (by simpa using n) e) (J1.pin (It,oI) (mY _ mX)).2.1 (J1.pin (It,oI) (mY _ mX)).2.2.1 (.inr I0) (nX J1) Ve
  have WQ:=J2.pin (S,seqObj "list" #[ub,Ex] c) (mY _ mX);obtain⟨c2,zW⟩:∃c2,(h'.update S (Obj.mapSeq λ_=>(#[]:Array Value))).get? S=some (seqObj "list" #[] c2):=⟨_,get?_update_seq WQ.1 λ_=>#[]⟩;have u2:=vW h' S (Obj.mapSeq λ_=>(#[]:Array Value));show wpAny _ X.A.in1 (updateSeq S (λ_=>#[])>>=_) _ _ _;refine wX ?_;refine wpAny_updateSeq WQ.1 rfl (wX (wpAny_letGo (wY ?_)));exact hR _ H N vb ub (k9 (ig (t':=E8) J2 S0 RJ (λb o n e=>(u2.2 b n).trans e) zW dr)) x1 r1 i1
 |succ r ih=>
  intro j s H N ub Ex vb RK db RL kb c oI hr hj I zY x1 r1 i1 r2 i2 ekb mk hd;have eZ:j<(ks.zip ds).length:=by rw[List.length_zip,la ek,kB em,←iv.length];omega
  have pS:=I.pin (S,seqObj "list" #[ub,Ex] c) (mY _ mX);have hz:=vU eZ;rw[List.drop_eq_getElem_cons eZ,M.g1]at hd;generalize (ks.zip ds)[j]=y at hz hd;have hm:y.1∈ks:=vL (List.getElem?_zip_eq_some.mp hz).1;obtain⟨r,Vf⟩:=M.cg hc mk hm;refine codeAny_builtin M.en ?_;rw[Around.under_plainId M.pl _];show wpAny _ X.A.in1 (seqItems? (.ref S)>>=_) _ _ _;refine wX (wpAny_seqItems pS.1 rfl ?_);show wpAny _ X.A.in1 (tryCatch (pyNext (.ref It)) _>>=_) _ _ _;refine wX (wpAny_tryCatch (cu (FX hh Ib hq iv em ek I0 (qE OC E9) OD hz I zY x1) λ_ s1 ⟨u,e,h1⟩=>?_));subst e;show wpAny _ X.A.in1 (tryCatch (holding [u] (call (.ref qa) [u])) _>>=_) _ _ _;refine wX (wpAny_tryCatch (wpAny_holding (wpAny_mono h1 (λku s2 ⟨H2,N2,v,kv,kd,Mg,J4,Bn,x2,ru,Mf,rk,ik,Px⟩=>?_) λ_ _ z=>z.elim)));have t1:=pH J4 rk (ik.mono x2.nh) Px;have t2:=pH J4 r2 (i2.mono (x2.bn.trans x2.nh)) ekb;show wpAny _ X.A.in1 (tryCatch (holding [u,ku] (richCompare op ku Ex>>=_)) _>>=_) _ _ _;refine wX (wpAny_tryCatch (wpAny_holding (wX (M.rc t1 t2 Vf hu ?_))));refine wX (wpAny_holding (wpAny_truthy_bool ?_));refine wX (wpAny_letGo (wY ?_));cases r with
  |true=>
   rw[if_pos Vf]at hd;have u2:=vW s2.heap S (Obj.mapSeq λ_=>#[u,ku]);simp only[if_true];have RM:=J4.pin (S,seqObj "list" #[ub,Ex] c) (mY _ mX);refine wX (wpAny_updateSeq RM.1 rfl (wX (wpAny_letGo ?_)));rw[M.hn];obtain⟨o,g1,g2⟩:=Bn;exact wY ⟨plainId_quiet M.pl _,ih (j+1) _ H2 N2 u ku v kv y.2 kd y.1 _ Mg (by omega) (by omega) (ig (t':=s2.toks) J4 S0 (qE RJ E9.symm) (λb o n e=>(u2.2 b n).trans e) (get?_update_seq RM.1 λ_=>#[u,ku]) dr) ⟨o,(u2.2 It E9.symm).trans g1,g2⟩ (x1.trans x2) ru Mf rk ik Px hm hd⟩
  |false=>
   rw[if_neg (by rw[Vf];simp)]at hd;simp only[uV,if_false];refine wX (wpAny_letGo ?_);rw[M.hn];exact wY ⟨plainId_quiet M.pl _,ih (j+1) _ H2 N2 ub Ex vb RK db RL kb c Mg (by omega) (by omega) J4 Bn (x1.trans x2) r1 (i1.mono x2.bn) r2 (i2.mono x2.bn) ekb mk hd⟩
end
@[simp] def NR (go:List At×D->List (List At×D)->D)(f:FE)(kf:Env->D->Option D):FE:=λρ=>(f ρ).bind λx=>match x.1 with
 |.lst ds=>(jr (kf ρ) ds).bind λgP=>(dE gP).bind λks=>if eE ks=true then match ks.zip ds with
  |[]=>none
  |y::r=>some (go y r,false)
  else none
 |_=>none
@[simp] def um:=NR m8
@[simp] def uo:=NR lC
section
variable {X:Cx}{e ke:Expr}{p pos kp:Pos}
theorem yI {nm lp:String}{ns:Str}{op:CmpOp}{lt:List At->List At->Option Bool}{go:List At×D->List (List At×D)->D}(M:MM nm lp ns op lt go){f:FE}{kf:Env->D->Option D}{k:Nat}(hm:X.mg ns=none)(he:JE X e f)(hk:JK X X.A.in1 ke kf)(hr:eN k X.A)(hg:Gl X ns:=by rfl)
  (UY:starEach [e] X.env=[(false,eval e X.env)]:=by rfl) (UZ:backTo pos (starEach [e] X.env)=(false,eval e X.env)::backTo pos (starEach [] X.env):=by rfl) (mf:(backTo pos (starEach [e] X.env)).any (·.1)=false:=by rfl)
  (ly:(backToKw pos (keywordEach [⟨some "key",ke,kp⟩] X.env)).all (·.1.isSome)=true:=by rfl) (Va:(backToKw pos (keywordEach [⟨some "key",ke,kp⟩] X.env)).any (·.1.isNone)=false:=by rfl)
  (Vb:(backToKw pos (keywordEach [⟨some "key",ke,kp⟩] X.env)).filterMap (·.1)=[("key" : Str)]:=by rfl):
  JE X (.Call (.Name ns p) [e] [⟨some "key",ke,kp⟩] pos) (NR go f kf):=by
 intro ae s σ H Q I h;obtain⟨B,ρ,d,b,sB,rep,ee,q⟩:=h;obtain⟨⟨xd,xb⟩,ex,ee⟩:=oX ee;cases xd<;>try (cases ee;done)
 rename_i ds;obtain⟨gP,em,ee⟩:=oX ee;obtain⟨ks,ek,ee⟩:=oX ee;split at ee
 ·rename_i hc;split at ee
  ·cases ee
  ·rename_i y aD ez;cases ee
   refine wpAny_Call_Name_kw (iS I hg hm M.bt ?_ M.n1 M.n2);refine callWith_kw (cu ((iG he ki UY) pos ae s σ H (λvs H1=>∃v N,vs=[v]/\Ext B N H H1/\Is X.K N v (.lst ds)) I ⟨B,ρ,_,_,sB,rep,ex,λv H1 N x1 i1 _=>⟨v,N,rfl,x1,i1⟩⟩) λus s1 hA=>?_) UZ mf ly Va;obtain⟨Zc,H1,I1,r1,v,N,rfl,x1,i1⟩:=hA;obtain⟨u,rfl,ru⟩:=gK r1;refine kws_cons (hk ae s1 σ H1 N ρ _ _ I1 x1.nh (rep.mono x1.bn) λqa H2 s2 I2 m2 Ib=>kws_nil ?_);rw[Vb];show wpAny _ _ (call (.builtin nm) [u] [(("key" : Str),.ref qa)]) _ _ _;cases i1
   rename_i l vs hq il;cases ru
   have sN:aV N H2:=x1.nh.trans m2;obtain⟨its,rv,pl,hz⟩:=I2.list (sN.seq hq);have RN:l<s2.heap.objs.size:=by
    obtain⟨ol,O4,_⟩:=pl.isList;exact vX O4
   have z0:(ks.zip ds)[0]? = some y:=by rw[ez];rfl
   have Zh:=vL (List.getElem?_zip_eq_some.mp z0).1;refine kmk_tree M.k2 M.p2 M.e2 (M.ka _ _) ?_;show wpAny _ X.A.in1 (Builtin.Builtins.bindParams nm ["key","default"] 0 ⟨[],[(Str.ofString "key",.ref qa)]⟩>>=_) _ _ s2;refine wX (wpAny_of_eq (show Builtin.Builtins.bindParams nm ["key","default"] 0 ⟨[],[(Str.ofString "key",.ref qa)]⟩=pure [some (.ref qa),none]from rfl) ?_);refine wX (wY ?_);refine wX (wpAny_pyIter_list pl.isList ?_);refine wX (wpAny_newList ?_ (uN _));rw[M.hn];let It:Addr:=s2.heap.objs.size;let oI:Obj:={ cls:=.type "list_iterator",data:=.fields #[.ref l,.int 0 0] };let S:Addr:=(s2.heap.push oI).objs.size;have hS:S=s2.heap.objs.size+1:=size_push' ..;have E9:S≠It:=by rw[hS];exact Nat.ne_of_gt (Nat.lt_succ_self _)
   have J1:Inv X ((It,oI)::ae) σ H2 { s2 with heap:=s2.heap.push oI }:=pG (t':=s2.toks) I2 (λb u q=>vZ _ q) (vT _) (vY _ rfl) (λv z=>by cases z);have J2:Inv X ((S,seqObj "list" #[] 0)::(It,oI)::ae) σ H2 { s2 with heap:=(s2.heap.push oI).push (seqObj "list" #[] 0) }:=pG (s:={ s2 with heap:=s2.heap.push oI }) (t':=s2.toks) J1 (λb u q=>vZ _ q) (vT _) (vY _ rfl) dr;have I0:X.s₀.heap.objs.size<=It:=I2.sz;have S0:X.s₀.heap.objs.size<=S:=by rw[hS];exact Nat.le_succ_of_le I2.sz
   have OC:∀q∈X.pn++ae,q.1≠It:=λq hq=>vS (vX (I2.pin q hq).1);have RJ:∀q∈X.pn++ae,q.1≠S:=λq hq=>by rw[hS];exact vS (Nat.lt_succ_of_lt (vX (I2.pin q hq).1))
   have OD:l≠It:=vS RN;have SN:S≠l:=by rw[hS];exact Nat.ne_of_gt (Nat.lt_succ_of_lt RN)
   have hh:X.A.handled=none:=hr.hd;have hu:X.A.in1.units<cLine:=by have:=hr.un;show X.A.units+1<cLine;omega
   have pS:=J2.pin (S,seqObj "list" #[] 0) (mY _ mX);have pI:=J2.pin (It,oI) (mY _ (mZ _ mX));refine wY ⟨plainId_quiet M.pl _,?_⟩;refine codeAny_builtin M.en ?_;rw[Around.under_plainId M.pl _];show wpAny _ X.A.in1 (seqItems? (.ref S)>>=_) _ _ { s2 with heap:=(s2.heap.push oI).push (seqObj "list" #[] 0) };refine wX (wpAny_seqItems pS.1 rfl ?_);show wpAny _ X.A.in1 (tryCatch (pyNext (.ref It)) _>>=_) _ _ _;refine wX (wpAny_tryCatch (cu (FX hh Ib hq il em ek I0 (qE OC E9) OD z0 J2 ⟨oI,pI.1,rfl,rfl⟩ (.refl sN)) λ_ s1 ⟨u,e,h1⟩=>?_));subst e;show wpAny _ X.A.in1 (tryCatch (holding [u] (call (.ref qa) [u])) _>>=_) _ _ _;refine wX (wpAny_tryCatch (wpAny_holding (wpAny_mono h1 (λku s3 ⟨H3,N3,v,kv,kd,Mg,J4,⟨o,g1,g2⟩,x3,ru,Mf,rk,ik,Px⟩=>?_) λ_ _ z=>z.elim)));have RM:=J4.pin (S,seqObj "list" #[] 0) (mY _ mX);have u2:=vW s3.heap S (Obj.mapSeq λ_=>#[u,ku]);show wpAny _ X.A.in1 (updateSeq S (λ_=>#[u,ku])>>=_) _ _ _;refine wX (wpAny_updateSeq RM.1 rfl ?_);rw[M.hn];have Vg:1<=vs.length:=by
    have:=congrArg List.length ez;rw[List.length_zip,vE,←il.length]at this;omega
   exact wY ⟨plainId_quiet M.pl _,J0 M (S:=S) (It:=It) hh hu Ib ⟨qa,rfl⟩ hq il em ek hc S0 I0 RJ OC E9 SN OD (λs' H' N' v' u' J' x' r' i'=>⟨v',H',J',r',q _ _ _ ((x1.trans (.grow x1.nh m2)).trans x') i' (by simp)⟩) _ 1 _ H3 N3 u ku v kv y.2 kd y.1 _ Mg rfl Vg
    (ig (t':=s3.toks) J4 S0 (qE RJ E9.symm) (λb o n e=>(u2.2 b n).trans e) (get?_update_seq RM.1 λ_=>#[u,ku]) dr) ⟨o,(u2.2 It E9.symm).trans g1,g2⟩ x3 ru Mf rk ik Px Zh (by rw[ez];rfl)⟩
 ·cases ee
end
section
variable {X:Cx}
@[simp] def Mt:D->D->OB
 |.tup xs,.tup ys=>(eW xs).bind λas=>(eW ys).bind λbs=>(ba as bs).map λr=>(.bl r,false)
 |_,_=>none
@[simp] def Xw:D->D->OB
 |.tup xs,.tup ys=>(eW xs).bind λas=>(eW ys).bind λbs=>(ba bs as).map λr=>(.bl r,false)
 |_,_=>none
theorem QM (hu:X.A.units+40<cLine):dI X (compareOp .Lt) (rD X.K Mt):=by
 intro ae s σ H x y v u Q I rx ry q;obtain⟨B,dx,dy,d,b,sB,ix,iy,e,q⟩:=q;cases dx<;>try (simp[Mt]at e;done)
 cases dy<;>try (simp[Mt]at e;done)
 simp only[Mt]at e;obtain⟨as,e1,e⟩:=oX e;obtain⟨bs,e2,e⟩:=oX e;obtain⟨r,e3,e⟩:=oY e;cases e
 show wpAny _ _ (richCompare .Lt v u) _ _ _;exact FW (pH I rx (ix.mono sB) e1) (pH I ry (iy.mono sB) e2) e3 (by omega) ⟨.bl r,H,I,rfl,q.one sB (.bl r)⟩
end
section
variable {X:Cx}{a b:Expr}{p pos:Pos}
@[simp] def Ss (f g:FE):FA:=λρ=>(f ρ).bind λx=>(g ρ).bind λy=>match x.1,y.1 with
 |.int i,.int j=>if -1000<=i/\i<=1000/\-1000<=j/\j<=1000 then some (fY i (j - i).toNat)else none
 |_,_=>none
end
@[simp] def VM:List D->OB
 |[.tup xs,.tup ys]=>(eW xs).bind λas=>(eW ys).bind λbs=>(ba as bs).map λr=>(if r=true then .tup ys else .tup xs,false)
 |_=>none
end DL
namespace DL
open PySem PySem.Spec PyProof.Rows L2
section
variable {X:Cx}
noncomputable def uq:D->D->OB
 |.tup xs,.tup ys=>if xs.isEmpty=true then some (.tup ys,false)else none
 |_,_=>none
theorem J5:dI X (binaryOp .Add) (rD X.K uq):=by
 intro ae s σ H x y v u Q I rx ry q;obtain⟨B,dx,dy,d,bb,sB,ix,iy,ee,q⟩:=q;cases ix<;>try (cases ee;done)
 cases iy<;>try (cases ee;done)
 rename_i l vs ds h hl l' ws es h' Er;simp only[uq]at ee;split at ee
 ·rename_i hz;cases ee
  cases rx
  cases ry
  obtain⟨its,r1,p1,_⟩:=I.tuple (bj sB h);obtain⟨Rm,r2,p2,_⟩:=I.tuple (bj sB h');have he:its.toArray.isEmpty=true:=by
   have e1:=hl.length;have e2:=r1.length;have e3:=List.isEmpty_iff.mp hz;rw[e3]at e1;cases its with
   |nil=>rfl
   |cons a b=>rw[e1]at e2;simp at e2
  obtain⟨⟨cls,dd,data,sl⟩,ho,hc,n,hd⟩:=id p1;obtain⟨⟨Uw,Ot,data2,S6⟩,K6,zW,n2,Rk⟩:=id p2;dsimp only at hc hd zW Rk;subst hc;subst hd;subst zW;subst Rk;exact concat_meets ⟨_,ho,rfl⟩ ⟨_,K6,rfl⟩ noFill_tuple_add seq_tuple_add PySem.F.slot_tuple_add PySem.F.entry_tuple_add (PySem.F.args_tuple_add_2 _ _)
   (tuple_addW0 l l' its.toArray Rm.toArray n n2 dd Ot sl S6 he) ⟨ho,K6,⟨.ref l',H,I,rfl,q.one sB (.tup h' Er)⟩⟩
 ·cases ee
@[simp] noncomputable def BW:D->D->OB
 |.tup xs,.tup ys=>if xs.length+ys.length<=sizeLine then some (.tup (xs++ys),false)else none
 |_,_=>none
theorem J6 (xs ys:List D)(z:xs.length+ys.length<=sizeLine):E2 sT uq (.tup xs) (.tup ys)=some (.tup (xs++ys),false):=by
 cases xs with
 |nil=>
  have:sT (.tup []) (.tup ys)=none:=if_neg (λh=>by cases h.2);show(match sT (.tup []) (.tup ys) with|some z=>some z|none=>uq (.tup []) (.tup ys))=_;rw[this];rfl
 |cons a l=>
  have:sT (.tup (a::l)) (.tup ys)=some (.tup (a::l++ys),false):=if_pos ⟨z,rfl⟩;show(match sT (.tup (a::l)) (.tup ys) with|some z=>some z|none=>uq (.tup (a::l)) (.tup ys))=_;rw[this]
theorem FY:dI X (binaryOp .Add) (rD X.K BW):=by
 refine iX (r:=rD X.K (E2 sT uq)) (nL Fv J5) λx y H Q q=>?_;obtain⟨B,dx,dy,d,bb,sB,ix,iy,ee,q⟩:=q;refine⟨B,dx,dy,d,bb,sB,ix,iy,?_,q⟩;cases ix<;>try (cases ee;done)
 cases iy<;>try (cases ee;done)
 rename_i l vs ds h hl l' ws es h' Er;simp only[BW]at ee;split at ee
 ·rename_i hz;rw[J6 _ _ hz];exact ee
 ·cases ee
end
section
variable {X:Cx}
@[simp] def Su:List D->OB
 |[d,.tup [.ty n,.ty m]]=>if Q7 d=true then none else if n = "list"/\m = "tuple" then some (.bl (kx d == "list" || kx d == "tuple"),false)else none
 |_=>none
end
@[simp] noncomputable def kE:D->Option cz
 |.int i=>some (.inl i)
 |.str x=>some (.inr x)
 |_=>none
theorem oG {K:Frag}{B:Hp}{v:V}{d:D}{k:cz}(i:Is K B v d)(e:kE d=some k):v=kV k:=by
 cases i<;>simp only[kE]at e<;>cases e<;>rfl
noncomputable def bS {κ:Type}[DecidableEq κ]:List κ->List D->κ->Option D
 |k'::ks,d::ds,k=>if k'=k then some d else bS ks ds k
 |_,_,_=>none
theorem qF {κ:Type}[DecidableEq κ]{K:Frag}{B:Hp}(k:κ):∀ {ks:List κ}{vs:List V}{ds:List D},ks.length=vs.length->IsL K B vs ds ->
  (∃v d,jW (ks.zip vs) k=some v/\bS ks ds k=some d/\Is K B v d)∨(jW (ks.zip vs) k=none/\bS ks ds k=none)
 |[],vs,ds,_,_=>.inr ⟨by cases vs<;>rfl,by cases ds<;>rfl⟩
 |k'::ks,[],_,h,_=>by simp at h
 |k'::ks,v::vs,_,h,.cons i is=>by
  rw[List.zip_cons_cons];unfold bS;by_cases e:k'=k
  ·rw[if_pos e];exact .inl ⟨v,_,mn (p:=(k',v)) e,rfl,i⟩
  ·rw[if_neg e,mo (p:=(k',v)) e];exact qF k (by simpa using h) is
section
variable {X:Cx}{o e i:Expr}{pos:Pos}
@[simp] def FZ:D->D->OB
 |.dk ks vs,y=>(kE y).map λk=>((bS ks vs k).getD .non,false)
 |_,_=>none
theorem Ga {cV cr:Pos}{fo fe:FE}(hu:X.A.units+1<cLine)(ho:JE X o fo)(he:JE X e fe)(m:M1 X o "get" cV e cr):JE X (.Call (.Attribute o "get" cV) [e] [] cr) (f2 FZ fo fe):=by
 refine PE.to (xL hu ho he m) λσ H Q q=>?_;obtain⟨B,ρ,d,bb,sB,r,ee,q⟩:=q;obtain⟨x,ex,ee⟩:=oX ee;obtain⟨y,ey,ee⟩:=oX ee;refine⟨B,ρ,x.1,x.2,sB,r,ex,λv H1 N1 x1 i1 ff=>?_⟩;obtain⟨xd,xb⟩:=x;cases i1 with
 |@dk a ks vs ds ob h hl hs=>
  simp only[FZ]at ee;obtain⟨k,hk,ee⟩:=oY ee;cases ee
  refine⟨a,rfl,.inl ⟨_,_,.inl (x1.nh _ _ h)⟩,N1,ρ,y.1,y.2,x1.nh,r.mono x1.bn,ey,λv2 H2 N2 x2 i2 _=>?_⟩;have hv:=oG i2 hk;subst hv;refine⟨jW (ks.zip vs) k,.inl ⟨_,k,_,.inl (x2.nh _ _ (x2.bn _ _ h)),rfl,rfl⟩,?_⟩;have KR:=hs.mono x2.bn;rcases qF k hl KR with⟨v,d',e1,e2,i3⟩|⟨e1,e2⟩
  ·rw[e1];rw[e2]at q;exact(q.into (x1.trans x2)).one x2.nh i3
  ·rw[e1];rw[e2]at q;exact(q.into (x1.trans x2)).one x2.nh .non
 |_=>simp[FZ]at ee
@[simp] def NS:D->D->OB
 |.dk ks vs,y=>(kE y).bind λk=>(bS ks vs k).map λd=>(d,false)
 |_,_=>none
theorem Gb {fo fi:FE}(hu:X.A.units+1<cLine)(ho:JE X o fo)(hi:JE X i fi)(hs:MY i):JE X (.Subscript o i pos) (f2 NS fo fi):=by
 refine PE.to (II hu ho hi hs) λσ H Q q=>?_;obtain⟨B,ρ,d,bb,sB,r,ee,q⟩:=q;obtain⟨x,ex,ee⟩:=oX ee;obtain⟨y,ey,ee⟩:=oX ee;refine⟨B,ρ,x.1,x.2,sB,r,ex,λv H1 N1 x1 i1 ff=>?_⟩;obtain⟨xd,xb⟩:=x;cases i1 with
 |@dk a ks vs ds ob h hl hs'=>
  simp only[NS]at ee;obtain⟨k,hk,ee⟩:=oX ee;obtain⟨d0,hd,ee⟩:=oY ee;cases ee
  refine⟨N1,ρ,y.1,y.2,x1.nh,r.mono x1.bn,ey,λv2 H2 N2 x2 i2 _=>?_⟩;have hv:=oG i2 hk;subst hv;rcases qF k hl (hs'.mono x2.bn)with⟨v,d',e1,e2,i3⟩|⟨_,e2⟩
  ·rw[hd]at e2;cases e2
   exact⟨a,v,rfl,.inl ⟨_,k,_,.inl (x2.nh _ _ (x2.bn _ _ h)),rfl,e1.symm⟩,(q.into (x1.trans x2)).one x2.nh i3⟩
  ·rw[hd]at e2;cases e2
 |_=>simp[NS]at ee
@[simp] def Sv:D->D->OB
 |y,.dk ks vs=>(kE y).map λk=>(.bl (bS ks vs k).isSome,false)
 |_,_=>none
@[simp] def qG:D->D->OB
 |y,.dk ks vs=>(kE y).map λk=>(.bl (!(bS ks vs k).isSome),false)
 |_,_=>none
theorem ur {κ:Type}[DecidableEq κ]{K:Frag}{B:Hp}{k:κ}{ks:List κ}{vs:List V}{ds:List D}(hl:ks.length=vs.length)(hs:IsL K B vs ds):(jW (ks.zip vs) k).isSome=(bS ks ds k).isSome:=by
 rcases qF k hl hs with⟨v,d,e1,e2,_⟩|⟨e1,e2⟩
 ·rw[e1,e2];rfl
 ·rw[e1,e2];rfl
theorem DD {fi fo:FE}(hu:X.A.units+1<cLine)(hi:JE X i fi)(ho:JE X o fo)(hm:behindInMarks .NotIn o=false:=by first|exact jk _ (by decide) (by decide)|rfl):JT X (.Compare i [.NotIn] [o] pos) (bd (f2 qG fi fo)):=by
 refine PT.to (Mv (Dr hu hi ho) hm) λσ H Q q=>?_;obtain⟨B,ρ,d,bb,sB,r,ee,q⟩:=Aq q;obtain⟨y,ey,ee⟩:=oX ee;obtain⟨x,ex,ee⟩:=oX ee;refine⟨B,ρ,y.1,y.2,sB,r,ey,λv2 H1 N1 x1 i2 _=>⟨N1,ρ,x.1,x.2,x1.nh,r.mono x1.bn,ex,λv H2 N2 x2 i1 ff=>?_⟩⟩;obtain⟨xd,xb⟩:=x;cases i1 with
 |@dk a ks vs ds ob h hl hs=>
  simp only[qG]at ee;obtain⟨k,hk,ee⟩:=oY ee;cases ee
  have hv:=oG i2 hk;subst hv;refine⟨a,jW (ks.zip vs) k,rfl,.inl ⟨_,k,_,.inl (x2.nh _ _ h),rfl,rfl⟩,?_⟩;rw[ur hl hs];exact(q.into (x1.trans x2)).one x2.nh (.bl _)
 |_=>simp[qG]at ee
end
noncomputable def dF {κ:Type}[DecidableEq κ](ks:List κ)(k:κ):List κ:=if k∈ks then ks else ks++[k]
noncomputable def dG {κ α:Type}[DecidableEq κ](ks:List κ)(xs:List α)(k:κ)(x:α):List α:=if k∈ks then List.zipWith (λk' x'=>if k'=k then x else x') ks xs else xs++[x]
theorem BX {κ:Type}[DecidableEq κ](k:κ):∀ {ks:List κ}{vs:List V},ks.length=vs.length->((ks.zip vs).any λkv=>decide (kv.1=k))=decide (k∈ks)
 |[],_,_=>by simp
 |k'::ks,[],h=>by simp at h
 |k'::ks,v::vs,h=>by
  have ih:=BX k (ks:=ks) (vs:=vs) (by simpa using h);rw[List.zip_cons_cons,List.any_cons,ih];by_cases e:k'=k
  ·simp[e]
  ·have e':¬k=k':=λz=>e z.symm;simp[e,e']
theorem BY {κ:Type}[DecidableEq κ](k:κ)(v:V):∀(ks:List κ)(vs:List V),(ks.zip vs).map (λkv=>if kv.1=k then (kv.1,v)else kv)=ks.zip (List.zipWith (λk' x'=>if k'=k then v else x') ks vs)
 |[],_=>by simp
 |_::_,[]=>by simp
 |k'::ks,w::vs=>by
  rw[List.zip_cons_cons,uY,BY k v ks vs,List.zipWith_cons_cons,List.zip_cons_cons];by_cases e:k'=k
  ·simp[e]
  ·simp[e]
theorem pJ {κ:Type}[DecidableEq κ]{ks:List κ}{vs:List V}(hl:ks.length=vs.length)(k:κ)(v:V):mm (ks.zip vs) k v=(dF ks k).zip (dG ks vs k v):=by
 unfold mm dF dG;rw[BX k hl];by_cases h:k∈ks
 ·rw[if_pos (decide_eq_true h),if_pos h,if_pos h,BY]
 ·rw[if_neg (by simpa using h),if_neg h,if_neg h,List.zip_append hl];rfl
theorem m9 {κ α:Type}[DecidableEq κ]{ks:List κ}{xs:List α}(hl:ks.length=xs.length)(k:κ)(x:α):(dF ks k).length=(dG ks xs k x).length:=by
 unfold dF dG;split<;>simp[hl]
theorem IsL.zipWith {κ:Type}[DecidableEq κ]{K:Frag}{B:Hp}{k:κ}{v:V}{d:D}(i:Is K B v d):∀ {ks:List κ}{vs:List V}{ds:List D},IsL K B vs ds->IsL K B (List.zipWith (λk' x'=>if k'=k then v else x') ks vs) (List.zipWith (λk' x'=>if k'=k then d else x') ks ds)
 |[],_,_,_=>by simpa using IsL.nil
 |_::_,_,_,.nil=>by simpa using IsL.nil
 |k'::ks,_,_,.cons h t=>by
  rw[List.zipWith_cons_cons,List.zipWith_cons_cons];refine .cons ?_ (IsL.zipWith i t);by_cases e:k'=k
  ·rw[if_pos e,if_pos e];exact i
  ·rw[if_neg e,if_neg e];exact h
theorem IsL.put {κ:Type}[DecidableEq κ]{K:Frag}{B:Hp}{k:κ}{v:V}{d:D}(i:Is K B v d){ks:List κ}{vs:List V}{ds:List D}(h:IsL K B vs ds):IsL K B (dG ks vs k v) (dG ks ds k d):=by
 unfold dG;split
 ·exact h.zipWith i
 ·exact h.append (.cons i .nil)
section
variable {K:Frag}{E:Ends}{σ:St}{H:Hp}
noncomputable def BZ (i:Nat):FS:=λρ=>some (.nx (ρ.set i (some (.dk [] [],true))))
noncomputable def Gc (i:Nat):FS:=λρ=>some (.nx (ρ.set i (some (.dt [] [],true))))
theorem eF.newBox (s:eF K B0 H0 N H σ ρ)(i:Nat)(hp:H p=none)(hb:∀C,Bx K C ob dd):eF K B0 H0 (upd N p ob) (upd H p ob) (σ.set i (some (.ref p))) (ρ.set i (some (dd,true))):=by
 have x:=Ext.laid (o:=ob) s.ext.nh hp;have s1:=s.grow x;have WR:N p=none:=s.ext.nh.free hp;have RI:¬own σ ρ p:=λz=>by obtain⟨ws,⟨q,_⟩,_⟩:=s.owned z;rw[WR]at q;cases q
 have c:aV (dZ N (own σ ρ)) (dZ (upd N p ob) (λb=>own σ ρ b∨b=p)):=eJ λb u e q=>⟨x.bn _ _ e,λz=>z.elim q λz=>by subst z;rw[WR]at e;cases e⟩;refine s1.bindOwn aC (s.ext.hh.free hp) (λj e q z=>RI ⟨j,e,q,z⟩) (λj e _ q=>?_) (λj e _ q=>?_) (hb _)
 ·obtain⟨w,h1,h2⟩:=s.sh j e q;exact⟨w,h1,h2.mono c⟩
 ·obtain⟨a',o',h1,h2,_,h4⟩:=s.ow j e q;exact⟨a',o',h1,x.bn _ _ h2,h4.mono c⟩
theorem Gd (q:nz K (BZ i) E σ H):Aa EV (jQ i) E σ H:=by
 obtain⟨B0,H0,ρ,r,⟨N,s⟩,e,p⟩:=q;cases e
 exact λa ob ha=>p _ _ ⟨_,s.newBox i ha λ_=>.dk (ks:=[]) (vs:=[]) rfl .nil⟩
theorem Ge (q:nz K (Gc i) E σ H):Aa EW (jQ i) E σ H:=by
 obtain⟨B0,H0,ρ,r,⟨N,s⟩,e,p⟩:=q;cases e
 exact λa ha=>p _ _ ⟨_,s.newBox i ha λ_=>.dt (ks:=[]) (vs:=[]) rfl .nil⟩
def yJ (i:Nat)(fk fv:FE):FS:=λρ=>match ρ[i]? with
 |some (some (.dk ks vs,true))=>(fv ρ).bind λv=>(fk ρ).bind λk=>(kE k.1).bind λkk=>if be v.1=true/\ks.length<sizeLine then some (.nx (ρ.set i (some (.dk (dF ks kk) (dG ks vs kk v.1),true))))else none
 |_=>none
theorem Gf {i:Nat}{fk fv:FE}(q:nz K (yJ i fk fv) E σ H):Bw (EA i) (tD K fk) (tD K fv) E σ H:=by
 obtain⟨B0,H0,ρ,r,⟨N,s⟩,e,p⟩:=q;unfold yJ at e;split at e
 ·rename_i ks ds ei;obtain⟨v,ev,e⟩:=oX e;obtain⟨k,ek,e⟩:=oX e;obtain⟨kk,hk,e⟩:=oX e;split at e
  ·rename_i hx;cases e
   refine⟨N,ρ,v.1,v.2,s.ext.nh,s.rep,ev,λv1 H1 N1 x1 i1 _=>?_⟩;have s1:=s.grow x1;obtain⟨a,o,h1,h2,h3,h4⟩:=s1.ow i _ ei;refine⟨.ref a,h1,N1,ρ,k.1,k.2,s1.ext.nh,s1.rep,ek,λv2 H2 N2 x2 i2 _=>?_⟩;have s2:=s1.grow x2;have hv:=oG i2 hk;subst hv;obtain⟨a',o',k1,k2,k3,k4⟩:=s2.ow i _ ei;rw[h1]at k1;cases k1
   cases k4 with
   |@dk ks vs ds hl h5 ob=>
    refine⟨a,rfl,.inl ⟨_,kk,_,s2.ext.nh _ _ k2,rfl,?_,λU3=>?_⟩⟩
    ·rw[List.length_zip];omega
    ·rw[pJ hl];exact p σ _ ⟨_,s2.writeB ei h1 (.dk (m9 hl _ _) (h5.put (s2.flat (i1.mono x2.bn) hx.1)))⟩
  ·cases e
 ·cases e
end
section
variable {X:Cx}{pos:Pos}{e k:Expr}
theorem Ca (hN:X.N.Nodup)(hi:X.N[i]? = some x:=by rfl)(hx:HL X.env.scope x:=by first|exact Or.inl rfl|exact Or.inr rfl)(hs:swapsWith (.Dict [] [] dp) (some (.Name x p)) pos.line X.env=pure false:=by rfl)
  (hf:X.fn x=true∨X.env.scope.names.lookup x=some .local:=by first|exact .inl rfl|exact .inr rfl):JS X (.Assign [.Name x p] (.Dict [] [] dp) pos) (BZ i):=PS.to (vv hN hi hx EX hs hf) λ_ _ _ q=>Gd q
theorem J7 (hN:X.N.Nodup)(hi:X.N[i]? = some x:=by rfl)(hx:HL X.env.scope x:=by first|exact Or.inl rfl|exact Or.inr rfl)(hs:swapsWith (.Dict [] [] dp) (some (.Name x p)) pos.line X.env=pure false:=by rfl)
  (hf:X.fn x=true∨X.env.scope.names.lookup x=some .local:=by first|exact .inl rfl|exact .inr rfl):JS X (.Assign [.Name x p] (.Dict [] [] dp) pos) (Gc i):=PS.to (vv hN hi hx EY hs hf) λ_ _ _ q=>Ge q
theorem J8 (hu:X.A.units+1<cLine)(hv:JE X e fv)(hk:JE X k fk)(hN:X.N[i]? = some y:=by rfl)(Bl:Ez X.env.scope y:=by first|exact Or.inl rfl|exact Or.inr (Or.inl rfl)|exact Or.inr (Or.inr rfl))(hd:(y == ("__debug__" : Str))=false:=by decide)
  (jj:(y == ("__classdict__" : Str))=false:=by decide) (hs:swapsWith e (some (.Subscript (.Name y py) k pt)) pos.line X.env=pure false:=by rfl):JS X (.Assign [.Subscript (.Name y py) k pt] e pos) (yJ i fk fv) :=
 PS.to (wj hu (kh hN Bl hd jj) hk hv hs) λ_ _ _ q=>Gf q
end
section
variable {prog:Program}{w:World}{A:Around}{E:Value->Shared->Prop}{s:Shared}
abbrev NT (h:Heap)(z TI TO T0:Addr)(f:Bool):Prop:=h.get? z=some { cls:=.type "zip",dict:=none,data:=.fields #[rawInt T0,.bool f,.bool false,.ref TI,.ref TO],slots:=#[] }
end
def VN (k1 k2:Bool)(z TI TO i1 i2 l1 l2 S:Addr)(i:Nat)(h:Heap):Prop :=
 IsPair h TI (.ref i1) (.ref i2)/\BH k1 h i1 l1 i/\BH k2 h i2 l2 i/\((IsZip h z TI TO .none/\∃a b,IsPair h TO a b)∨∃T0 f oT oO,NT h z TI TO T0 f/\h.get? T0=some oT/\T0∉[z,TI,TO,i1,i2]/\T0≠S/\h.get? TO=some oO)
section
variable {prog:Program}{w:World}{A:Around}{E:Value->Shared->Prop}{s:Shared}{k1 k2:Bool}{z TI TO i1 i2 l1 l2 S:Addr}{j:Nat}{xs ys:Array Value}
theorem VN.ty (st:VN k1 k2 z TI TO i1 i2 l1 l2 S j h):∃o,h.get? z=some o/\o.cls=.type "zip":=by
 obtain⟨_,_,_,a4⟩:=st;rcases a4 with⟨b1,_⟩|⟨T0,f,oT,oO,b1,_⟩
 ·exact⟨_,b1,rfl⟩
 ·exact⟨_,b1,rfl⟩
end
theorem qH (h:H a=none):aV H (upd H a o):=λb u e=>by rw[aI (aW e h)];exact e
@[simp] def fLZ (fa fb:FE):FE:=λρ=>(TL fa fb ρ).map λds=>(.lst ds,true)
end DL
namespace DL
open PySem PySem.Spec PyProof.Rows
theorem wN:typeLookup (.type "list") "keys" = pure none:=by rw[typeLookup_type,builtinLookup_eq_fast];kernel_rfl
theorem DE 
  (hx:s.heap.get? a=some { cls:=.type "list",dict:=none,data:=.seq xs k,slots:=sl }) (hA:A.handled=none)
  (h:∀h' tk,(∀b o,s.heap.get? b=some o->h'.get? b=some o)->Q none { s with heap:=h',toks:=tk }):
  wpAny (model prog w) A (getAttr? (.ref a) "keys") Q E s:=by
 obtain⟨hp,g,d,tk,os⟩:=s;have hT:∀E8,(⟨hp,g,d,E8,os⟩:Shared).TypeIs (.ref a) "list":=λ_=>⟨_,hx,rfl⟩;have f1:=sub_AttributeError;have f3:=PySem.F.slot_list_getattribute.lookup;have f4:=PySem.F.slot_list_getattribute.bind (.ref a);have f5:=am_list_getattr_none;unfold getAttr? getAttrBy? getAttrBy;repeat (any_goals (first|assumption|exact hT _|((with_reducible show wpAny _ _ (call (Value.builtin "list.__getattribute__") _ _) _ _ _);refine call_meets PySem.F.slot_list_getattribute (hT _) am_entry_list_getattribute (PySem.F.args_list_getattribute_2 _ _) (meets_getattribute_miss_list a xs k sl "keys" _ wN (by decide) (by decide)) ⟨hx,hA,λh' E8 e hx'=>?_⟩)|wp_step))
 obtain⟨t',u',he⟩:=hx'.there;show wpAny _ _ (getattributeRaised _ _ _ _ _ _ _) _ _ _;unfold getattributeRaised;repeat (any_goals (first|assumption|wp_step))
 exact h _ _ hx'.of.keeps
end DL
namespace DL
open PySem PySem.Spec PyProof.Rows L2
def iZ:List D->Option (List (cz×D))
 |[]=>some []
 |.tup [k,v]::r=>(kE k).bind λkk=>(iZ r).map λl=>(kk,v)::l
 |_=>none
noncomputable def qI (a:List cz×List D)(p:cz×D):List cz×List D:=(dF a.1 p.1,dG a.1 a.2 p.1 p.2)
noncomputable def bT (l:List (cz×D)):List cz×List D:=l.foldl qI ([],[])
theorem qJ (l:List (cz×D))(p:cz×D):bT (l++[p])=qI (bT l) p:=by unfold bT;rw[List.foldl_append];rfl
theorem qK:∀ {ds:List D}{l:List (cz×D)},iZ ds=some l->l.length=ds.length
 |[],l,h=>by simp[iZ]at h;subst h;rfl
 |d::r,l,h=>by
  unfold iZ at h;split at h
  ·rename_i h0;cases h0
  ·rename_i k v r' h0;cases h0
   obtain⟨kk,_,h⟩:=oX h;obtain⟨l',h1,rfl⟩:=oY h;simp[qK h1]
  ·cases h
theorem qL:∀ {ds:List D}{l:List (cz×D)}{i:Nat}{d:D},iZ ds=some l->ds[i]? = some d->∃k v kk,d=.tup [k,v]/\kE k=some kk/\l[i]? = some (kk,v)
 |[],l,i,d,_,h=>by simp at h
 |d0::r,l,i,d,h,hi=>by
  unfold iZ at h;split at h
  ·rename_i h0;cases h0
  ·rename_i k v r' h0;cases h0
   obtain⟨kk,h2,h⟩:=oX h;obtain⟨l',h1,rfl⟩:=oY h;cases i with
   |zero=>simp at hi;subst hi;exact⟨k,v,kk,rfl,h2,rfl⟩
   |succ i=>simp only[List.getElem?_cons_succ]at hi ⊢;exact qL h1 hi
  ·cases h
theorem Gg (l:List (cz×D)):∀a:List cz×List D,a.1.length=a.2.length->(l.foldl qI a).1.length=(l.foldl qI a).2.length/\(l.foldl qI a).1.length<=a.1.length+l.length:=by
 induction l with
 |nil=>intro a h;exact⟨h,vT _⟩
 |cons p l ih=>
  intro a h;have h1:(qI a p).1.length<=a.1.length+1:=by
   show(dF _ _).length<=_;unfold dF;split<;>simp
  have:=ih (qI a p) (m9 h _ _);rw[List.foldl_cons,vE];exact⟨this.1,by omega⟩
theorem DF (l:List (cz×D)):(bT l).1.length=(bT l).2.length/\(bT l).1.length<=l.length:=by
 have:=Gg l ([],[]) rfl;exact⟨this.1,vR this.2 (by simp)⟩
theorem ut:entryFor table "dict.update.loop" = some Builtin.«dict.update.loop»:=entryFor_of_tree (by kernel_rfl)
theorem lb:plainId "dict.update.loop" = true:=by decide +kernel
section
variable {X:Cx}{ae:List (Addr×Obj)}{σ:St}{B H0:Hp}{A:Around}{R:Result->Shared->Prop}{it l d:Addr}{us:List V}{ds:List D}{gP:List (cz×D)}
theorem AK (hA:A.handled=none)(nl:l≠it)(nd:d≠it)(hl:gX X.K B l us)(il:IsL X.K B us ds)(hp:iZ ds=some gP)
  (hR:∀Hc N vs ob s',Inv X ae σ (upd Hc d (.dK ((bT gP).1.zip vs) ob)) s'->Hc d=none->Ext B N H0 Hc->(bT gP).1.length=vs.length->IsL X.K N vs (bT gP).2->R (.ok (.ret .none)) s'):
  ∀(k i:Nat)(tk:Nat)(s:Shared)(Hc N:Hp)(vs:List V)(ob:Obj),ds.length - i=k->i<=ds.length->Inv X ae σ (upd Hc d (.dK ((bT (gP.take i)).1.zip vs) ob)) s->Hc d=none->Ext B N H0 Hc->nE X ae (upd Hc d (.dK ((bT (gP.take i)).1.zip vs) ob)) it ->
   s.heap.IsListIter it l i->(bT (gP.take i)).1.length=vs.length->IsL X.K N vs (bT (gP.take i)).2 ->
   codeAny (model X.prog X.w) A (.builtin "dict.update.loop" ⟨[.ref d,.ref it,.int i tk,.none],[]⟩) R s:=by
 have n1:=il.length;have n2:=qK hp;intro k;induction k with
 |zero=>
  intro i tk s Hc N vs ob hk hi I hc xt fp st hz hv;have KP:i=ds.length:=by omega
  have sm:aV B (upd Hc d (.dK ((bT (gP.take i)).1.zip vs) ob)):=(xt.bn.trans xt.nh).trans (qH hc);obtain⟨its,r1,p1,z1⟩:=I.list (sm.seq hl);have e1:=r1.length;refine codeAny_builtin ut ?_;rw[Around.under_plainId lb _];show wpAny _ A.in1 (pyNext (.ref it)>>=_) _ _ s;refine wX (wpAny_pyNext_list_end (A:=A.in1) hA st p1.isList (by simp;omega) λh' fO=>?_);show wpAny _ _ (Builtin.Dict.addKeywords d []>>=_) _ _ _;refine wX (wY (wY ?_));have I1:=pE (t':=s.toks) (h':=h') (ch:=[it]) I (λb hb=>by rw[uT hb];exact fp) λb o hb e=>fO b o (λq=>hb (by simp[q])) e;rw[KP,←n2,List.take_length]at I1 hz hv;exact hR Hc N vs ob _ I1 hc xt hz hv
 |succ k ih=>
  intro i tk s Hc N vs ob hk hi I hc xt fp st hz hv;have eZ:i<ds.length:=by omega
  have sm:aV B (upd Hc d (.dK ((bT (gP.take i)).1.zip vs) ob)):=(xt.bn.trans xt.nh).trans (qH hc);obtain⟨its,r1,p1,z1⟩:=I.list (sm.seq hl);obtain⟨kd,vd,kk,ed,ek,el⟩:=qL hp (vU eZ);obtain⟨x,hx,ix⟩:=il.get (vU eZ);rw[ed]at ix;cases ix with
  |@tup T xs _ hT hxs=>
   cases hxs with
   |cons ik r=>
    cases r with
    |cons iv r=>
     cases r
     rename_i xk xv;have Zi:=oG ik ek;subst Zi;obtain⟨u,hu,ru⟩:=r1.get hx;cases (show u=Value.ref T from ru)
     refine codeAny_builtin ut ?_;rw[Around.under_plainId lb _];show wpAny _ A.in1 (pyNext (.ref it)>>=_) _ _ s;refine wX (wpAny_pyNext_list_item (A:=A.in1) st p1.isList (x:=.ref T) (by simpa using hu) λh' kU hs=>?_);have I1:=pE (t':=s.toks) (h':=h') (ch:=[it]) I (λb hb=>by rw[uT hb];exact fp) λb o hb e=>hs.extBut b o (λq=>hb (by simp[q])) e;obtain⟨ps,r2,p2,z2⟩:=I1.tuple (bj sm hT);obtain⟨uk,uv,rfl,rk,rv⟩:=r2.two;have Zj:Shared.TypeIs { s with heap:=h' } (.ref T) "tuple":=by obtain⟨o,e,c,_⟩:=p2;exact⟨o,e,c⟩
     dsimp only;refine wX (wpAny_holding (wX (wpAny_tryCatch ?_)));unfold Builtin.Dict.pairItems;refine wX (wpAny_typeOf Zj ?_);obtain⟨oT,eT,cT,nT,dT⟩:=p2;rw[if_pos (by decide)];refine wX (wpAny_seqItems eT dT (wY ?_));show wpAny _ _ (holding [uk,uv] (dictSet d uk uv)) _ _ _;obtain⟨zz,WM,Zk,pv,dd⟩:=pW I1.hok (a:=d) aC;have Zl:Zk.length<=sizeLine:=by rw[←pv.length];exact zz
     have nk:((bT (gP.take i)).1.zip vs).length<sizeLine:=by
      have a1:=(DF (gP.take i)).2;have a2:=z1;rw[List.length_take]at a1;rw[List.length_zip];omega
     refine wpAny_holding (wpAny_dictSet_pairs (hsz:=Zl) (pU rk) dd λh2 Ot KR=>?_);have Bm:(mm ((bT (gP.take i)).1.zip vs) kk xv).length<=sizeLine:=by have:=km ((bT (gP.take i)).1.zip vs) kk xv;omega
     obtain⟨WS,Pm⟩:∃q,h2.get? d=some q:=let ⟨q,_,_,hq,_⟩:=Ot;⟨q,hq⟩;have I2:=wg (t':=s.toks+1) I1 (a:=d) (ob:=.dK (mm ((bT (gP.take i)).1.zip vs) kk xv) WS) (by rw[aC];exact True.intro) KR ⟨_,Pm⟩ (ET Bm WM (pv.put kk rv) Ot Pm);rw[Ie,pJ hz]at I2;have et:gP.take (i+1)=gP.take i++[(kk,vd)]:=by rw[List.take_add_one,el];rfl
     have WT:(bT (gP.take (i+1))).1=dF (bT (gP.take i)).1 kk:=by rw[et,qJ];rfl
     have Zm:(bT (gP.take (i+1))).2=dG (bT (gP.take i)).1 (bT (gP.take i)).2 kk vd:=by rw[et,qJ];rfl
     refine wY ⟨plainId_quiet lb _,?_⟩;refine ih (i+1) 0 _ Hc N (dG (bT (gP.take i)).1 vs kk xv) WS (by omega) eZ (by rw[WT];exact I2) hc xt ?_ ?_ ?_ ?_
     ·obtain⟨f0,f1⟩:=fp;refine⟨?_,f1⟩;rw[aI nd.symm]at f0 ⊢;exact f0
     ·exact kU.at λo e=>(KR.2 it nd.symm).trans e
     ·rw[WT];exact m9 hz _ _
     ·rw[Zm];exact hv.put (iv.mono xt.bn)
end
@[simp] def jG:List D->OB
 |[.lst ds]=>(iZ ds).map λgP=>(.dk (bT gP).1 (bT gP).2,false)
 |_=>none
theorem NU:bootBuiltins "dict" = some (.type "dict"):=by decide +kernel
section
variable {X:Cx}
theorem NV (OE:X.calm=true):bQ X (.type "dict") (Bz X.K jG):=by
 intro ae s σ H xs us Q I r h;obtain⟨B,dds,d0,bb,sB,i0,ee,q⟩:=h;cases i0 with
 |nil=>simp[jG]at ee
 |cons i1 i2=>
  cases i2 with
  |cons _ _=>cases i1<;>simp[jG]at ee
  |nil=>
   cases i1<;>try (simp[jG]at ee;done)
   rename_i l ws ds hl il;simp only[jG]at ee;obtain⟨gP,hp,ee⟩:=oY ee;cases ee
   obtain⟨u,rfl,rx⟩:=gK r;cases rx
   have hA:X.A.handled=none:=I.ok.hd OE;refine callType_codes (Q₁:=λobj s₁=>obj=.ref s.heap.objs.size/\s₁={ s with heap:=s.heap.push { cls:=.type "dict",data:=.dict #[] } }) PySem.F.kt_called_dict (PySem.F.kt_typeCall_dict_1 _) PySem.F.entry_dict_init (kt_code_dict_new _ ⟨rfl,rfl⟩) ?_;rintro obj s₁ ⟨rfl,rfl⟩;have I1:Inv X ae σ (upd H s.heap.objs.size (.dK [] { cls:=.type "dict",data:=.dict #[] })) { s with heap:=s.heap.push { cls:=.type "dict",data:=.dict #[] } }:=I.laid (t':=s.toks) (λb o e=>vZ _ e) (vT _) (xK s.heap I.big);have WU:H s.heap.objs.size=none:=I.fresh;have hT:Shared.TypeIs { s with heap:=s.heap.push { cls:=.type "dict",data:=.dict #[] } } (.ref s.heap.objs.size) "dict":=⟨_,vY _ rfl,rfl⟩;refine⟨hT,PySem.F.args_dict_init_2 _ _,?_⟩;unfold Builtin.«dict.__init__»;refine wX ?_;unfold Builtin.Dict.selfAndRest;refine wX (wpAny_notOrdered_dict hT ?_);show wpAny _ _ (pure (s.heap.objs.size,[Value.ref l])) _ _ _;refine wY ?_;show wpAny _ _ (Builtin.Dict.updateFrom "dict.__init__" s.heap.objs.size (.ref l) [] .none) _ _ _;unfold Builtin.Dict.updateFrom;have sm:aV B (upd H s.heap.objs.size (.dK [] { cls:=.type "dict",data:=.dict #[] })):=sB.trans (qH WU);obtain⟨its,r1,p1,z1⟩:=I1.list (sm.seq hl);have pl:=p1.isList;obtain⟨ol,nl,SO,cl,WV,dl⟩:=p1;have Zn:Shared.TypeIs { s with heap:=s.heap.push { cls:=.type "dict",data:=.dict #[] } } (.ref l) "list":=⟨ol,SO,cl⟩;refine wX (wpAny_typeOf Zn ?_);rw[if_pos (by decide)];obtain⟨oc,od,oo,os⟩:=ol;simp only at cl WV dl;subst cl WV dl;refine wX (DE SO (by exact hA) λh' tk hk=>?_);dsimp only[Option.isNone_none];rw[if_pos rfl];have I2:Inv X ae σ (upd H s.heap.objs.size (.dK [] { cls:=.type "dict",data:=.dict #[] })) { s with heap:=h',toks:=tk }:=I1.kept (t':=tk) hk;refine wX (wpAny_rule ?_);refine wX (wpAny_pyIter_list (items:=its.toArray) ⟨_,hk _ _ SO,rfl,nl,rfl⟩ ?_);have I3:Inv X ae σ (upd H s.heap.objs.size (.dK [] { cls:=.type "dict",data:=.dict #[] })) { s with heap:=h'.push { cls:=.type "list_iterator",data:=.fields #[.ref l,.int 0 0] },toks:=tk }:=I2.kept (t':=tk) λb o e=>vZ _ e;have ld:s.heap.objs.size<h'.objs.size:=vX (hk _ _ (vY _ rfl));have ll:l<h'.objs.size:=vX (hk _ _ SO);refine wY ⟨plainId_quiet lb _,AK (A:=X.A.in1) (B:=B) (H0:=H) (l:=l) (d:=s.heap.objs.size) (it:=h'.objs.size) hA (vS ll) (vS ld) hl il hp (λHc N vs ob s' I' K1 xt hz hv=>?_) _ 0 0 _ H B [] _ rfl (uN _) I3 WU (Ext.refl sB) (I2.fpOk (vT _) (I2.hok.fresh (vT _))) ⟨_,vY _ rfl,rfl,rfl⟩ rfl .nil⟩;refine⟨rfl,.ref s.heap.objs.size,_,I',rfl,?_⟩;have x3:=xt.trans (Ext.laid (o:=.dK ((bT gP).1.zip vs) ob) xt.nh K1);exact q _ _ _ x3 (.dk aC hz (hv.mono (Ext.laid (o:=.dK ((bT gP).1.zip vs) ob) xt.nh K1).bn)) (by simp)
end
@[simp] noncomputable def VO:FE:=λ_=>none
@[simp] noncomputable def VP:FA:=λ_=>none
theorem J9 (h:n+40<cLine):n+1<cLine:=by omega
@[simp] noncomputable def NW:D->D->OB
 |.lst ds,.int k=>if 0<=k/\ds.length*k.toNat<=1000/\k<=1000 then some (.lst (List.replicate k.toNat ds).flatten,true)else none
 |_,_=>none
@[simp] def DG (fa fb:FE):FE:=λρ=>(fa ρ).bind λx=>if x.2=true then (fb ρ).bind λy=>NW x.1 y.1 else none
theorem IsL.rep {K:Frag}{H:Hp}{vs:List V}{ds:List D}(h:IsL K H vs ds):∀k:Nat,IsL K H (List.replicate k vs).flatten (List.replicate k ds).flatten
 |0=>.nil
 |k+1=>by rw[List.replicate_succ,List.replicate_succ,List.flatten_cons,List.flatten_cons];exact h.append (IsL.rep h k)
section
variable {X:Cx}{a b:Expr}{pos:Pos}
theorem Gh {fa fb:FE}(ha:JE X a fa)(hb:JE X b fb):JE X (.BinOp a .Mult b pos) (DG fa fb):=by
 refine PE.to (La MW ha hb) λσ H Q q=>?_;obtain⟨B,ρ,d,bb,sB,r,ee,q⟩:=q;obtain⟨x,ex,ee⟩:=oX ee;split at ee
 ·rename_i hx;obtain⟨⟨yd,yb⟩,ey,ee⟩:=oX ee;refine⟨B,ρ,x.1,x.2,sB,r,ex,λv H1 N1 x1 i1 fr=>⟨N1,ρ,yd,yb,x1.nh,r.mono x1.bn,ey,λu H2 N2 x2 i2 R8=>?_⟩⟩;obtain⟨a0,vs,ds,rfl,e1,h0,h1,il⟩:=fr hx;rw[e1]at ee;clear R8;cases i2<;>try (simp[NW]at ee;done)
  rename_i k;simp only[NW]at ee;split at ee
  ·rename_i hk;cases ee
   have hl:=il.length;refine⟨a0,k,vs,rfl,rfl,x2.nh _ _ (x2.bn _ _ h1),by omega,by omega,by rw[hl];exact vR hk.2.1 (by decide:(1000:Nat)<=sizeLine),λp hp=>?_⟩;have x3:=Ext.laid (o:=.lst (List.replicate k.toNat vs).flatten) x2.nh hp;have WW:=((il.mono x2.bn).mono x3.bn).rep k.toNat;exact q _ _ _ ((x1.trans x2).trans x3) (.lst (gX.of aC) WW) λ_=>⟨_,_,_,rfl,rfl,(x1.trans x2).hh.free hp,aC,WW⟩
  ·cases ee
 ·cases ee
end
def iK:List D->Option (List cz)
 |[]=>some []
 |d::ds=>(kE d).bind λk=>(iK ds).map (k :: ·)
theorem AL {K:Frag}{B:Hp}:∀ {vs:List V}{ds:List D}{ks:List cz},IsL K B vs ds->iK ds=some ks->vs=ks.map kV
 |_,_,ks,.nil,e=>by simp[iK]at e;subst e;rfl
 |_,_,ks,.cons i is,e=>by
  simp only[iK]at e;obtain⟨k,h1,e⟩:=oX e;obtain⟨r,h2,rfl⟩:=oY e;rw[oG i h1,AL is h2];rfl
@[simp] def Gi (fo:FE)(fa:FA):FE:=λρ=>(fo ρ).bind λx=>(fa ρ).bind λds=>match x.1 with
 |.dt kss vs=>if ds.length<=sizeLine then (iK ds).map λk=>((bS kss vs k).getD .non,false)else none
 |_=>none
section
variable {X:Cx}{o:Expr}{es:List Expr}{pos:Pos}
theorem Gj {cV cr En:Pos}{x1:Nat}{fo:FE}{fa:FA}(hu:X.A.units+1<cLine)(ho:JE X o fo)(ha:JA X es fa)(m:M1 X o "get" cV (.Tuple es x1 En) cr):JE X (.Call (.Attribute o "get" cV) [.Tuple es x1 En] [] cr) (Gi fo fa):=by
 refine PE.to (xL hu ho (Af ha) m) λσ H Q q=>?_;obtain⟨B,ρ,d,bb,sB,r,ee,q⟩:=q;obtain⟨x,ex,ee⟩:=oX ee;obtain⟨ds,ey,ee⟩:=oX ee;refine⟨B,ρ,x.1,x.2,sB,r,ex,λv H1 N1 x1 i1 ff=>?_⟩;obtain⟨xd,xb⟩:=x;cases i1 with
 |@dt a ks vs Eo h hl hs=>
  simp only at ee;split at ee
  ·rename_i hz;obtain⟨k,hk,ee⟩:=oY ee;cases ee
   refine⟨a,rfl,.inr ⟨_,.inl (x1.nh _ _ h)⟩,N1,ρ,ds,x1.nh,r.mono x1.bn,ey,λus H2 N2 x2 i2=>?_⟩;have hv:=AL i2 hk;have Zo:us.length<=sizeLine:=by rw[i2.length];exact hz
   refine⟨Zo,λp hp=>?_⟩;have x3:=Ext.laid (o:=.tup us) x2.nh hp;have Zp:N2 a=some (.dT (ks.zip vs)):=x2.bn _ _ h;refine⟨jW (ks.zip vs) k,.inr ⟨_,k,p,.inl (x3.nh _ _ (x3.bn _ _ Zp)),rfl,by rw[aC,hv],rfl⟩,?_⟩;have KR:=(hs.mono x2.bn).mono x3.bn;rcases qF k hl KR with⟨v,d',e1,e2,i3⟩|⟨e1,e2⟩
   ·rw[e1];rw[e2]at q;exact(q.into ((x1.trans x2).trans x3)).one x3.nh i3
   ·rw[e1];rw[e2]at q;exact(q.into ((x1.trans x2).trans x3)).one x3.nh .non
  ·cases ee
 |_=>simp at ee
end
section
variable {K:Frag}{E:Ends}{σ:St}{H:Hp}
def uu (i:Nat)(fk:FA)(fv:FE):FS:=λρ=>match ρ[i]? with
 |some (some (.dt ks vs,true))=>(fv ρ).bind λv=>(fk ρ).bind λkd=>(iK kd).bind λkk=>if be v.1=true/\ks.length<sizeLine/\kd.length<=sizeLine then some (.nx (ρ.set i (some (.dt (dF ks kk) (dG ks vs kk v.1),true))))else none
 |_=>none
theorem Gk {i:Nat}{fk:FA}{fv:FE}(q:nz K (uu i fk fv) E σ H):Bw (EA i) (Qf (OR K fk)) (tD K fv) E σ H:=by
 obtain⟨B0,H0,ρ,r,⟨N,s⟩,e,p⟩:=q;unfold uu at e;split at e
 ·rename_i ks ds ei;obtain⟨v,ev,e⟩:=oX e;obtain⟨kd,ek,e⟩:=oX e;obtain⟨kk,hk,e⟩:=oX e;split at e
  ·rename_i hx;cases e
   refine⟨N,ρ,v.1,v.2,s.ext.nh,s.rep,ev,λv1 H1 N1 x1 i1 _=>?_⟩;have s1:=s.grow x1;obtain⟨a,o,h1,h2,h3,h4⟩:=s1.ow i _ ei;refine⟨.ref a,h1,N1,ρ,kd,s1.ext.nh,s1.rep,ek,λus H2 N2 x2 i2=>?_⟩;have s2:=s1.grow x2;have hv:=AL i2 hk;refine⟨by rw[i2.length];exact hx.2.2,λpp hp=>?_⟩;have x3:=Ext.laid (o:=.tup us) s2.ext.nh hp;have s3:=s2.grow x3;obtain⟨a',o',k1,k2,k3,k4⟩:=s3.ow i _ ei;rw[h1]at k1;cases k1
   cases k4 with
   |@dt ks vs ds hl h5=>
    refine⟨a,rfl,.inr ⟨_,kk,pp,s3.ext.nh _ _ k2,rfl,by rw[aC,hv],?_,?_⟩⟩
    ·rw[List.length_zip];omega
    ·rw[pJ hl];exact p σ _ ⟨_,s3.writeB ei h1 (.dt (m9 hl _ _) (h5.put (s3.flat ((i1.mono x2.bn).mono x3.bn) hx.1)))⟩
  ·cases e
 ·cases e
end
section
variable {X:Cx}{pos:Pos}{e:Expr}{es:List Expr}
theorem JB (hu:X.A.units+1<cLine)(hv:JE X e fv)(hk:JA X es fk)(hN:X.N[i]? = some y:=by rfl)(Bl:Ez X.env.scope y:=by first|exact Or.inl rfl|exact Or.inr (Or.inl rfl)|exact Or.inr (Or.inr rfl))(hd:(y == ("__debug__" : Str))=false:=by decide)
  (jj:(y == ("__classdict__" : Str))=false:=by decide) (hs:swapsWith e (some (.Subscript (.Name y py) (.Tuple es x1 En) pt)) pos.line X.env=pure false:=by rfl):JS X (.Assign [.Subscript (.Name y py) (.Tuple es x1 En) pt] e pos) (uu i fk fv) :=
 PS.to (wj hu (kh hN Bl hd jj) (Af hk) hv hs) λ_ _ _ q=>Gk q
end
end DL
namespace L2
open PySem PySem.Spec PyProof.Rows
noncomputable def JD (lo c:Int)(n:Nat):It:=⟨λi _=>i<n,λi H x H'=>H'=H/\x=.int (lo+i*c),λi _=>n<=i⟩
theorem yK {P:Program}{w:World}{K:Frag}{tg:Expr}(it:Addr)(lo c:Int)(n:Nat):Turn P w K tg (JD lo c n) [it] it (λi h=>IsRangeIter h it (lo+(i:Nat)*c) ((n:Int) - (i:Nat)) c) where
 mem:=by simp
 obj:=λi h st b hb=>by
  have e:b=it:=by simpa using hb
  subst e;exact⟨_,st,λv z=>by
   have z':Data.fields _=Data.cell v:=z;cases z'⟩
 keep:=λi h h' st k=>k it (by simp) _ st
 item:=by
  intro X hP hw hK hc i ae s σ H E I hf st hg;subst hP hw hK;obtain⟨f0,f1,f2,f3,f4,f5⟩:=hf it (by simp);have W:=Walks.range (prog:=X.prog) (w:=X.w) (I.ok.hd hc) it lo c n;refine W.item i s _ _ hg st λv h' tk hv kU kk=>?_;obtain⟨t,rfl⟩:=hv;have I1:Inv X ae σ H { s with heap:=h',toks:=tk }:=I.turned (λb o hb e=>kk b o (by simpa using hb) e) f0 f1 f3 f4 f5;exact⟨_,rfl,pR (s:={ s with heap:=h',toks:=tk }) (n:="range_iterator") kU rfl rfl (by decide) ⟨.int (lo+i*c),H,I1,⟨t,rfl⟩,⟨rfl,rfl⟩,kU,λb hb=>(hf b hb).1⟩⟩
 done:=by
  intro X hP hw hK hc i ae s σ H E I hf st hg;subst hP hw hK;obtain⟨f0,f1,f2,f3,f4,f5⟩:=hf it (by simp);exact wpAny_pyNext_range_end (I.ok.hd hc) st (by have:n<=i:=hg;omega) λh' eb=>⟨rfl,I.turned (t':=s.toks) (λb o hb e=>eb b o hb e) f0 f1 f3 f4 f5⟩
 self:=λ_ _ _ _ _ st h=>wpAny_pyIter_rangeiter st h
section
variable {X:Cx}{tg:Expr}
theorem yL (ha : -1000<=a/\a<=1000/\-1000<=b/\b<=1000)(hc:c=1∨c=2∨c=3∨c = -1):Builtin.Range.small a b c=true/\0<=Builtin.Range.rangeSize a b c:=by
 unfold Builtin.Range.small Builtin.Range.rangeSize Builtin.Range.rangeFitsLong;rcases hc with rfl|rfl|rfl|rfl
 all_goals
  simp only[vC,Bool.or_eq_true,decide_eq_true_eq,beq_iff_eq,show(1:Int) > 0 by decide,show(2:Int) > 0 by decide,show(3:Int) > 0 by decide,show ¬(-1:Int) > 0 by decide,show -(-1:Int)=1 by decide,if_true,if_false]
  split<;>omega
theorem DH {ae:List (Addr×Obj)}{σ:St}{H:Hp}{s:Shared}{R:It->Hp->Prop}{E:Value->Shared->Prop}{lo hi c:Int}{t u v:Tok}{tk:Nat}(I:Inv X ae σ H s)(h1 : -1000<=lo/\lo<=1000/\-1000<=hi/\hi<=1000)(h2:c=1∨c=2∨c=3∨c = -1)
  (q:R (JD lo c (Builtin.Range.rangeSize lo hi c).toNat) H):wq X (pyIter (.ref s.heap.objs.size)) (Tj X ae σ tg R) E { s with heap:=s.heap.push { cls:=.type "range",data:=.fields #[.int lo t,.int hi u,.int c v] },toks:=tk }:=by
 obtain⟨hs,hz⟩:=yL h1 h2;refine wpAny_pyIter_range (IsRange.new ..) hs ?_;have I1:Inv X ae σ H { s with heap:=s.heap.push { cls:=.type "range",data:=.fields #[.int lo t,.int hi u,.int c v] },toks:=tk }:=I.kept λb o e=>vZ _ e;refine⟨(s.heap.push { cls:=.type "range",data:=.fields #[.int lo t,.int hi u,.int c v] }).objs.size,[(s.heap.push { cls:=.type "range",data:=.fields #[.int lo t,.int hi u,.int c v] }).objs.size],_,_,H,rfl,
  I1.kept (t':=tk) λb o e=>vZ _ e,yK _ lo c (Builtin.Range.rangeSize lo hi c).toNat,?_,λb hb=>?_,q⟩
 ·have e1:lo+((0:Nat):Int)*c=lo:=by simp
  have e2:(((Builtin.Range.rangeSize lo hi c).toNat:Nat):Int) - ((0:Nat):Int)=Builtin.Range.rangeSize lo hi c:=by omega
  show IsRangeIter _ _ (lo+((0:Nat):Int)*c) ((((Builtin.Range.rangeSize lo hi c).toNat:Nat):Int) - ((0:Nat):Int)) c;rw[e1,e2];exact vY _ rfl
 ·have e:b=(s.heap.push { cls:=.type "range",data:=.fields #[.int lo t,.int hi u,.int c v] }).objs.size:=by simpa using hb
  subst e;exact I1.fpOk (vT _) (I1.hok.fresh (vT _))
def QN (ta:TA):TI:=λσ H R=>ta σ H λvs H1=>∃i j c:Int,vs=[.int i,.int j,.int c]/\((-1000<=i/\i<=1000/\-1000<=j/\j<=1000)/\(c=1∨c=2∨c=3∨c = -1))/\R (JD i c (Builtin.Range.rangeSize i j c).toNat) H1
theorem DI (hg:Gl X "range")(hm:X.mg "range" = none)(ha:PA X [a,b,c] ta)(hs:starEach [a,b,c] X.env=(false,eval a X.env)::starEach [b,c] X.env)(SQ:starEach [b,c] X.env=[(false,eval b X.env),(false,eval c X.env)]):
  PI X tg (.Call (.Name "range" p) [a,b,c] [] pos) (QN ta):=by
 intro ae s σ H R I h;refine Call_ (iS I hg hm boot_range (PyProof.Rows.callWith_type1 (cu (ha pos ae s σ H _ I h) λus s1 ⟨vs,H1,I1,r1,q1⟩=>?_) hs (by rw[SQ];rfl)));obtain⟨i,j,c,e,⟨q1,q2⟩,q⟩:=q1;subst e;cases r1 with
 |cons r rr=>
  cases rr with
  |cons r' rr=>
   cases rr with
   |cons r'' rr=>
    cases rr
    obtain⟨t,rfl⟩:=r;obtain⟨t',rfl⟩:=r';obtain⟨t'',rfl⟩:=r'';exact call_range_3 (by omega) (DH I1 q1 q2 q) (Or.inl (PyProof.noPylong_small (by omega)))
end
end L2
namespace DL
open PySem PySem.Spec PySem.W PyProof.Rows L2
section
variable {X:Cx}{a b c:Expr}{p pos:Pos}
noncomputable def nY (lo c:Int)(n:Nat):List D:=(List.range n).map λ(k:Nat)=>.int (lo+(k:Int)*c)
theorem DJ {K:Frag}{B:Hp}(lo c:Int)(n:Nat):nI K (JD lo c n) B (nY lo c n):=by
 intro i H s;unfold nY;refine⟨λd ed=>?_,λhl=>by rw[vI,List.length_range]at hl;exact hl⟩;rw[vA]at ed;obtain⟨k,ek,ed⟩:=oY ed;have hk:=vV ek;obtain⟨eZ,hk⟩:=hk;rw[List.length_range]at eZ;rw[List.getElem_range]at hk;subst hk;subst ed;refine⟨eZ,λx H' hy=>?_⟩;obtain⟨rfl,rfl⟩:=hy;exact⟨B,.refl s,.int _⟩
@[simp] def Cb (f g h:FE):FA:=λρ=>(f ρ).bind λx=>(g ρ).bind λy=>(h ρ).bind λz=>match x.1,y.1,z.1 with
 |.int i,.int j,.int c=>if(-1000<=i/\i<=1000/\-1000<=j/\j<=1000)/\(c=1∨c=2∨c=3∨c = -1)then some (nY i c (Builtin.Range.rangeSize i j c).toNat)else none
 |_,_,_=>none
theorem DK (hm:X.mg "range" = none)(ja:JE X a f)(jb:JE X b g)(jc:JE X c h)(hg:Gl X "range":=by rfl)(hs:starEach [a,b,c] X.env=(false,eval a X.env)::starEach [b,c] X.env:=by rfl)(SQ:starEach [b,c] X.env=[(false,eval b X.env),(false,eval c X.env)]:=by rfl)(KR:starEach [c] X.env=[(false,eval c X.env)]:=by rfl):PI X tg (.Call (.Name "range" p) [a,b,c] [] pos) (Qu X.K (Cb f g h)):=by
 refine PI.to (DI hg hm (ah ja (ah jb (ah jc am KR) (by rw[SQ,KR])) hs) hs SQ) λσ H R q=>?_;obtain⟨B,ρ,ds,sB,r,e',q⟩:=q;obtain⟨⟨x,xb⟩,ex,e'⟩:=oX e';obtain⟨⟨y,yb⟩,ey,e'⟩:=oX e';obtain⟨⟨z,zb⟩,ez,e'⟩:=oX e';match x,y,z,ex,ey,ez,e' with
 |.int i,.int j,.int k,ex,ey,ez,e'=>
  dsimp only at e';split at e'
  ·rename_i hj;cases e'
   refine⟨B,ρ,[.int i,.int j,.int k],sB,r,by simp[af,ai,ex,ey,ez],λvs H1 N1 x1 i1=>?_⟩;cases i1 with
   |cons i1 i2=>
    cases i1
    cases i2 with
    |cons i2 i3=>
     cases i2
     cases i3 with
     |cons i3 i4=>
      cases i3;cases i4
      exact⟨i,j,k,rfl,hj,q _ H1 N1 x1 λ_=>DJ i k _⟩
  ·cases e'
end
end DL
namespace L2
open PySem PySem.Spec PyProof.Rows
noncomputable def TX (a:Addr)(aK:List (cz×V))(ob:Obj):It:=⟨λi H=>H a=some (.dK aK ob)/\i<aK.length,λi H x H'=>H'=H/\∃k,aK[i]? = some (k,x),λi H=>H a=some (.dK aK ob)/\aK.length<=i⟩
theorem KV.get {aK:List (cz×V)}{vs:List (cz×Value)}(r:KV aK vs){i:Nat}{k:cz}{x:V}(h:aK[i]? = some (k,x)):∃u,vs[i]? = some (k,u)/\aU x u:=by
 unfold KV at r;induction r generalizing i with
 |nil=>simp at h
 |@cons p q ps qs hq t ih=>
  cases i with
  |zero=>
   cases (show p=(k,x)from vK h)
   obtain⟨q1,q2⟩:=q;exact⟨q2,by rw[show k=q1 from hq.1];rfl,hq.2⟩
  |succ i=>exact ih h
theorem QO (h:(cm P w).is k u=true):aU (kV k) u:=by
 cases k with
 |inl i=>exact Value.isInt_shape h
 |inr z=>exact Value.isStrOf_shape h
section
variable {P:Program}{w:World}{H:Hp}{h:Heap}{a:Addr}
theorem qM (ok:lu P w H h)(e:H a=some (.dK aK ob))(hd:ob.data=.dict es ep):∃vs,KV aK vs/\h.DictAt (cm P w) a vs ep:=by
 obtain⟨_,_,vs,r,o,E5,Ph,h1,h2,h3,h4⟩:=pW ok e;rw[An ok e]at h1;cases h1
 rw[hd]at h3;cases h3
 exact⟨vs,r,ob,es,An ok e,h2,hd,h4⟩
theorem wO (ok:lu P w H h)(e:H a=some (.dK aK ob)):∃es ep,ob.data=.dict es ep:=by
 obtain⟨_,_,vs,r,o,E5,Ph,h1,h2,h3,h4⟩:=pW ok e;rw[An ok e]at h1;cases h1
 exact⟨E5,Ph,h3⟩
end
theorem DM {P:Program}{w:World}{K:Frag}{tg:Expr}(a it:Addr)(aK:List (cz×V))(ob:Obj){es:Array DictEntry}{ep:Nat}(hd:ob.data=.dict es ep):Turn P w K tg (TX a aK ob) [it] it (λi h=>h.IsValIter it a i aK.length ep) where
 mem:=by simp
 obj:=λi h st b hb=>by
  have e:b=it:=by simpa using hb
  subst e;obtain⟨o,e,c,d⟩:=st;exact⟨o,e,λv z=>by rw[d]at z;cases z⟩
 keep:=λi h h' st k=>st.at λo e=>k it (by simp) o e
 item:=by
  intro X hP hw hK hc i ae s σ H E I hf st hg;subst hP hw hK;obtain⟨hH,eZ⟩:=hg;obtain⟨vs,r,m⟩:=qM I.hok hH hd;obtain⟨f0,f1,f2,f3,f4,f5⟩:=hf it (by simp);have hl:vs.length=aK.length:=(Paired.length r).symm;obtain⟨u,hu,ru⟩:=r.get (k:=aK[i].1) (x:=aK[i].2) (vU eZ);refine wpAny_pyNext_values_item (by rw[hl];exact st) m hu λh' kU sb=>?_;rw[hl]at kU;have I1:Inv X ae σ H { s with heap:=h' }:=I.turned (t':=s.toks) (λb o hb e=>(sb.2 b hb).trans e) f0 f1 f3 f4 f5;obtain⟨o,e,c,d⟩:=id kU;exact⟨u,rfl,pR (s:={ s with heap:=h' }) e c d (by decide) ⟨aK[i].2,H,I1,ru,⟨rfl,aK[i].1,vU eZ⟩,kU,λb hb=>(hf b hb).1⟩⟩
 done:=by
  intro X hP hw hK hc i ae s σ H E I hf st hg;subst hP hw hK;obtain⟨hH,KI⟩:=hg;obtain⟨vs,r,m⟩:=qM I.hok hH hd;obtain⟨f0,f1,f2,f3,f4,f5⟩:=hf it (by simp);have hl:vs.length=aK.length:=(Paired.length r).symm;exact wpAny_pyNext_values_end (I.ok.hd hc) (by rw[hl];exact st) m (List.getElem?_eq_none (by omega)) λh' eb=>⟨rfl,I.turned (t':=s.toks) (λb o hb e=>eb b o hb e) f0 f1 f3 f4 f5⟩
 self:=λ_ _ _ _ _ st h=>wpAny_pyIter_valiter st h
section
variable {X:Cx}{tg:Expr}
def QP (td:TE):TI:=λσ H R=>td σ H λx H1=>∃a aK ob,x=.ref a/\H1 a=some (.dK aK ob)/\R (TX a aK ob) H1
theorem JF {o:Expr}{td:TE}{cV cr:Pos}(ho:PE X o td)(fL:attributeBase o "values" X.env (eval o X.env)=eval o X.env:=by rfl)(fM:(cV.endLine == cr.line)=true:=by rfl):PI X tg (.Call (.Attribute o "values" cV) [] [] cr) (QP td):=by
 intro ae s σ H R I h;refine wpAny_Call_method0_late fL fM (cu (ho ae s σ H _ I h) λv s1 ⟨x,H1,I1,r1,a,aK,ob,ex,hH,q⟩=>?_);subst ex;obtain⟨h1,h2⟩:=we I1 r1 (T:="dict") (.inr (.inr (.inl ⟨rfl,.inl ⟨aK,ob,hH⟩⟩)));cases r1
 obtain⟨es,ep,hd⟩:=wO I1.hok hH;obtain⟨vs,r,m⟩:=qM I1.hok hH hd;have hl:vs.length=aK.length:=(Paired.length r).symm;refine⟨"dict","dict.values",PySem.F.plainAttrs_dict,PySem.F.slot_dict_values,PySem.F.type_dict_values,h1,h2,Calls.callWith_builtin rfl (PySem.evalArgs_none ?_)⟩;refine call_meetsIn PySem.F.slot_dict_values h1 PySem.F.entry_dict_values (PySem.F.args_dict_values_1 _) (meets_dict_values (cm X.prog X.w) a (pW I1.hok hH).2.1) ⟨⟨vs,m.dictOf⟩,?_⟩;have I2:Inv X ae σ H1 { s1 with heap:=s1.heap.push { cls:=.type "dict_values",data:=.fields #[.ref a] } }:=I1.kept (t':=s1.toks) λb o e=>vZ _ e;refine wpAny_pyIter_values (v:=s1.heap.objs.size) ⟨_,vY _ rfl,rfl,rfl⟩ (m.keep λb o e=>vZ _ e) ?_;rw[hl];refine⟨(s1.heap.push { cls:=.type "dict_values",data:=.fields #[.ref a] }).objs.size,[(s1.heap.push { cls:=.type "dict_values",data:=.fields #[.ref a] }).objs.size],_,_,H1,rfl,I2.kept (t':=s1.toks) λb o e=>vZ _ e,DM a _ aK ob hd,⟨_,vY _ rfl,rfl,rfl⟩,λb hb=>?_,q⟩;have e:b=(s1.heap.push { cls:=.type "dict_values",data:=.fields #[.ref a] }).objs.size:=by simpa using hb
 subst e;exact I2.fpOk (vT _) (I2.hok.fresh (vT _))
end
end L2
namespace DL
open PySem PySem.Spec PySem.W PyProof.Rows L2
noncomputable def kD:cz->D
 |.inl i=>.int i
 |.inr z=>.str z
theorem QQ {K:Frag}{B:Hp}(k:cz):Is K B (kV k) (kD k):=by
 cases k with
 |inl i=>exact .int i
 |inr z=>exact .str z
section
variable {K:Frag}{B:Hp}
theorem JG {a:Addr}{ks:List cz}{vs:List V}{ds:List D}{ob:Obj}(h:B a=some (.dK (ks.zip vs) ob))(hl:ks.length=vs.length)(hs:IsL K B vs ds):nI K (TX a (ks.zip vs) ob) B ds:=by
 intro i H s;have hz:(ks.zip vs).length=vs.length:=by rw[List.length_zip];omega
 refine⟨λd ed=>?_,λbJ=>⟨s _ _ h,by rw[hz,hs.length];exact bJ⟩⟩;obtain⟨v,ev,iv⟩:=hs.get ed;have eZ:i<vs.length:=(vV ev).1;refine⟨⟨s _ _ h,by rw[hz];exact eZ⟩,λy H3 hy=>?_⟩;obtain⟨rfl,k,e⟩:=hy;have:=(List.getElem?_zip_eq_some.mp e).2;rw[ev]at this;cases this
 exact⟨B,.refl s,iv⟩
end
section
variable {X:Cx}{e:Expr}{tg:Expr}
@[simp] noncomputable def qN (f:FE):FA:=λρ=>(f ρ).bind λx=>match x.1 with|.dk _ ds=>some ds|_=>none
@[simp] noncomputable def TY (f:FE):FA:=λρ=>(f ρ).bind λx=>match x.1 with|.dk ks _=>some (ks.map kD)|_=>none
theorem Cc (h:JE X e f)(fL:attributeBase e "values" X.env (eval e X.env)=eval e X.env:=by rfl)(fM:(cV.endLine == cr.line)=true:=by rfl):JI X tg (.Call (.Attribute e "values" cV) [] [] cr) (qN f):=by
 intro ae s σ H R I q;obtain⟨B,ρ,ds,sB,r,e',q⟩:=q;obtain⟨⟨xd,xb⟩,ex,es⟩:=oX e';cases xd<;>try (cases es;done)
 cases es
 refine JF h fL fM ae s σ H R I ⟨B,ρ,_,_,sB,r,ex,λv H1 N1 x1 i1 _=>?_⟩;cases i1 with
 |@dk a ks vs ds ob hd hl hs=>exact⟨a,_,ob,rfl,x1.nh _ _ hd,q _ H1 N1 x1 (JG hd hl hs)⟩
end
end DL
namespace DL
open PySem PySem.Spec PyProof.Rows L2
@[simp] abbrev cW (i:Nat)(j:Int):FE:=f2 bC (aj i) (fC (.int j))
theorem aZ (F:Fn X.prog X.w X.K X.mg X.base k x f)(hr:eN j X.A)(ha:JA X (e::es) fa)(hj:k<=j:=by decide)(hg:Gl X x:=by rfl)(tu:(x == ("__debug__" : Str))=false:=by decide)(he:starEach (e::es) X.env=(false,eval e X.env)::starEach es X.env:=by rfl)(mf:(backTo pos (starEach es X.env)).any (·.1)=false:=by rfl):JE X (.Call (.Name x p) (e::es) [] pos) (fA f fa):=B3 F (hr.mono hj) ha hg tu he mf
theorem QR (h1:∀y∈scope.names,y.2≠.cell:=by decide +kernel)(h2:scope.kind=.function:=by rfl)(h3:∀y∈scope.names,y.2=.local->scope.names.lookup y.1=some .local:=by decide +kernel)(Pl:(scope.names.all λy=>!(y.2 == NameKind.free) || (X.env.cells.lookup y.1).isSome)=true:=by rfl):CompSc X scope (dJ scope.names X.env.cells []):=Ni h1 h2 h3 Pl
theorem VQ (h1:N'[j]? = some x)(h2:X.N[i]? = some x)(t:nw X N' scope (dJ scope.names X.env.cells []) (j+1) r)(h3:X.env.kindOf x=some .cell∨X.env.kindOf x=some .free:=by exact Or.inl rfl)(h4:(relabel scope X.env).names.lookup x=some .cell∨(relabel scope X.env).names.lookup x=some .free:=by exact Or.inl rfl)(hf:(x,NameKind.free)∈scope.names:=by decide +kernel)(hc:(X.env.cells.lookup x).isSome=true:=by rfl):nw X N' scope (dJ scope.names X.env.cells []) j (i::r):=.cons h1 h2 h3 h4 (pC hf hc) t
end DL
namespace DL
open PySem PySem.Spec PySem.W PyProof.Rows L2
noncomputable def nZ:At->D
 |.i n=>.int n
 |.s z=>.str z
section
variable {prog:Program}{w:World}{A:Around}{E:Value->Shared->Prop}{s:Shared}
theorem QS (hx:zU x u)(hy:zU y v):SeqAt.EqAt A s u v (bB (nZ x) (nZ y)):=by
 cases x with
 |i a=>
  obtain⟨t,rfl⟩:=hx;cases y with
  |i c=>obtain⟨t',rfl⟩:=hy;simp only[nZ,bB];exact SeqAt.EqAt.int_int _ _ _ _
  |s c=>obtain⟨t',rfl⟩:=hy;simp only[nZ,bB];exact SeqAt.EqAt.int_str _ _ _ _
 |s a=>
  obtain⟨t,rfl⟩:=hx;cases y with
  |i c=>obtain⟨t',rfl⟩:=hy;simp only[nZ,bB];exact SeqAt.EqAt.str_int _ _ _ _
  |s c=>obtain⟨t',rfl⟩:=hy;simp only[nZ,bB];exact SeqAt.EqAt.str_str _ _ _ _
theorem Ce:∀ {xs ys:List At}{vs:List Value},Paired zU xs vs->Paired zU ys vs->xs=ys
 |_,_,_,.nil,.nil=>rfl
 |x::xs,y::ys,_,.cons p ps,.cons q qs=>by
  rw[Ce ps qs];congr 1;cases x with
  |i a=>
   obtain⟨t,rfl⟩:=p;cases y with
   |i c=>obtain⟨t',e⟩:=q;cases e;rfl
   |s c=>obtain⟨t',e⟩:=q;cases e
  |s a=>
   obtain⟨t,rfl⟩:=p;cases y with
   |i c=>obtain⟨t',e⟩:=q;cases e
   |s c=>obtain⟨t',e⟩:=q;cases e;rfl
theorem NX (x y:At):bB (nZ x) (nZ y)=true↔x=y:=by
 cases x<;>cases y<;>simp[nZ]
theorem pK:∀xs ys:List At,dq (xs.map nZ) (ys.map nZ)=true↔xs=ys
 |[],[]=>by simp[dq]
 |[],_::_=>by simp[dq]
 |_::_,[]=>by simp[dq]
 |x::xs,y::ys=>by
  rw[uY,uY,dq,vC,NX,pK xs ys];simp
theorem NY (hx:ie s.heap xs x)(hy:ie s.heap ys y)(hu:A.units<cLine):SeqAt.EqAt A s x y (dq (xs.map nZ) (ys.map nZ)):=by
 obtain⟨a,o,its,n,rfl,ho,hc,hd,r⟩:=hx;obtain⟨b,o',gE,m,rfl,sD,K1,Bi,r'⟩:=hy;by_cases hab:a=b
 ·subst hab;rw[ho]at sD;cases sD;rw[hd]at Bi;cases Bi;rw[Ce r r',(pK ys ys).mpr rfl];exact SeqAt.EqAt.same _
 ·have t1:s.heap.IsTuple a its:=⟨o,ho,hc,n,hd⟩;have t2:s.heap.IsTuple b gE:=⟨o',sD,K1,m,Bi⟩;have l1:xs.length=its.size:=by rw[←vG];exact ga r
  have l2:ys.length=gE.size:=by rw[←vG];exact ga r'
  have he:∀j (h1:j<its.size) (h2:j<gE.size),SeqAt.EqAt A.in1 s its[j] gE[j] (bB ((xs.map nZ).getD j .non) ((ys.map nZ).getD j .non)):=λj h1 h2=>by
   have p:=eV (.i 0) Value.none r (i:=j) (by omega);have q:=eV (.i 0) Value.none r' (i:=j) (by omega);have e1:its.toList.getD j Value.none=its[j]:=by rw[vF,Array.getElem?_toList,Array.getElem?_eq_getElem h1];rfl
   have e2:gE.toList.getD j Value.none=gE[j]:=by rw[vF,Array.getElem?_toList,Array.getElem?_eq_getElem h2];rfl
   rw[e1]at p;rw[e2]at q;have e3:(xs.map nZ).getD j .non=nZ (xs.getD j (.i 0)):=by simp[vF,show j<xs.length by omega]
   have e4:(ys.map nZ).getD j .non=nZ (ys.getD j (.i 0)):=by simp[vF,show j<ys.length by omega]
   rw[e3,e4];exact QS p q
  have rc:=SeqAt.RcAt.tuples t1 t2 hu he;have R0:((List.range (min its.size gE.size)).all (λj=>bB ((xs.map nZ).getD j .non) ((ys.map nZ).getD j .non)) && its.size == gE.size)=dq (xs.map nZ) (ys.map nZ):=by
   rw[←l1,←l2];by_cases hl:xs.length=ys.length
   ·rw[←hl,Nat.min_self,beq_self_eq_true,Bool.and_true];have:=jB (λj=>bB ((xs.map nZ).getD j .non) ((ys.map nZ).getD j .non)) (xs:=xs.map nZ) (ys:=ys.map nZ) (by simpa using hl) λj x y e1 e2=>wx j x y e1 e2;rwa [vI]at this
   ·rw[ww (by simpa using hl),beq_eq_false_iff_ne.mpr hl,Bool.and_false]
  rw[R0]at rc;exact SeqAt.EqAt.of_refs hab rc
theorem DN (xs:List At):ba xs xs=some false:=by
 induction xs with
 |nil=>rfl
 |cons x xs ih=>cases x<;>rw[ba,if_pos rfl,ih]
theorem Gm (hx:ie s.heap xs x)(hy:ie s.heap ys y)(h:ba (.i n::xs) (.i m::ys)=some b)(hu:A.units<cLine)(q:Q b s)(hn:zU (.i n) u)(hm:zU (.i m) v):KatLex prog w A true false Q [(u,v),(x,y)] 0 s:=by
 obtain⟨t,rfl⟩:=hn;obtain⟨t',rfl⟩:=hm;refine kat_cons (wpAny_eqBool_int ?_);rw[ba]at h;by_cases e:n=m
 ·rw[if_pos e]at h;rw[show(n == m)=true by simp[e]];refine kat_yes (kat_cons (NY hx hy hu _ _ _ _ ?_));by_cases e2:xs=ys
  ·rw[(pK xs ys).mpr e2];rw[e2,DN]at h;cases h
   exact kat_yes (kat_nil q)
  ·rw[Bool.eq_false_iff.mpr λz=>e2 ((pK xs ys).mp z)];refine kat_no (kat_one _ _ ?_);show wpAny _ _ (richCompare .Lt x y) _ _ _;exact FW (Q:=W.BoolBack Q) hx hy h hu (by first|exact q|exact⟨b,rfl,q⟩)
 ·rw[if_neg e]at h;cases h
  rw[show(n == m)=false by simp[e]];exact kat_no (oneLt_int q)
end
def DO (h:Heap)(xs:List At)(v:Value):Prop:=∃n k a o its m u x,xs=.i n::k/\v=.ref a/\h.get? a=some o/\o.cls=.type "tuple"/\o.data=.seq its m/\its.toList=[u,x]/\zU (.i n) u/\ie h k x
section
variable {prog:Program}{w:World}{A:Around}{E:Value->Shared->Prop}{s:Shared}
theorem JH (hx:DO s.heap xs x)(hy:DO s.heap ys y)(h:ba xs ys=some b)(hu:A.units<cLine)(q:Q b s):wpAny (model prog w) A (keyLt' (tuples' true) x y) Q E s:=by
 obtain⟨n,k,a,o,its,m,u,x',rfl,rfl,ho,_,hd,ei,an,tx⟩:=hx;obtain⟨n',k',a',o',its',m',u',y',rfl,rfl,sD,_,Bi,WX,Zq,ty⟩:=hy;refine kat_lt ho hd sD Bi ?_;rw[ei,WX];have hf:decide (its.size<its'.size)=false:=by
  rw[←vG,←vG,ei,WX];rfl
 rw[hf];exact Gm tx ty h hu q an Zq
theorem oH:∀ {ks:List (List At)}{vs:List Value},Paired (DO h) ks vs->∃fs,KatTups h vs fs/\fs.length=ks.length/\∀v∈fs,∃n,zU (.i n) v
 |_,_,.nil=>⟨[],trivial,rfl,by simp⟩
 |k::ks,_,.cons x t=>by
  obtain⟨fs,h1,h2,h3⟩:=oH t;obtain⟨n,k,a,o,its,m,u,x',rfl,rfl,ho,hc,hd,ei,an,_⟩:=x;refine⟨u::fs,KatTups.cons ho hc hd (by rw[←Array.getElem?_toList,ei];rfl) h1,by simp[h2],λv hv=>?_⟩;rcases vP hv with rfl|hv
  ·exact⟨n,an⟩
  ·exact h3 v hv
theorem DP (hp:Paired (DO s.heap) ks vs)(hn:0<ks.length)(q:Q (tuples' true) s):wpAny (model prog w) A (keyKind' vs.toArray) Q E s:=by
 obtain⟨fs,h1,h2,h3⟩:=oH hp;refine kat_kind (T:=.type "int") h1 (by omega) (λv hv=>?_) (by decide) q;obtain⟨n,t,rfl⟩:=h3 v hv;exact .now
theorem Gn (hc:eE ks=true)(hu:A.units<cLine)(hp:Paired (DO s.heap) ks vs):∀(i j:Nat)(C:Bool->Shared->Prop)(s1:Shared),i<ks.length->j<ks.length->s1=s->(∀s',s'=s->C (qw (HV ks) i j) s')->kas_ask prog w A (tuples' true) vs i j C s1:=by
 intro i j C s1 hi hj e hC;subst e;unfold kas_ask;have mi:ks.getD i []∈ks:=by rw[vF,vU hi];exact List.getElem_mem hi
 have mj:ks.getD j []∈ks:=by rw[vF,vU hj];exact List.getElem_mem hj
 refine JH (eV [] Value.none hp hi) (eV [] Value.none hp hj) (gZ hc mi mj) hu ?_;have:=hC s1 rfl;unfold qw HV at this;rw[yA (uS ⟨_,mi,rfl⟩)]at this;exact this
end
def NZ:D->Option (List At)
 |.tup [.int n,.tup es]=>(eW es).map (.i n :: ·)
 |_=>none
def jt:List D->Option (List (List At))
 |[]=>some []
 |d::ds=>(NZ d).bind λa=>(jt ds).map (a :: ·)
theorem uw:∀ {ds:List D}{ks:List (List At)},jt ds=some ks->ks.length=ds.length
 |[],_,h=>by simp only[jt]at h;cases h;rfl
 |d::ds,_,h=>by
  simp only[jt]at h;obtain⟨a,h1,h⟩:=oX h;obtain⟨r,h2,h⟩:=oY h;subst h;simp[uw h2]
theorem yM (I:Inv X ae σ H s):∀ {ys:List V}{ds:List D}{ks:List (List At)}{its:List Value},aS ys its->IsL X.K H ys ds->jt ds=some ks->Paired (DO s.heap) ks its
 |_,_,_,_,.nil,.nil,h=>by simp only[jt]at h;cases h;exact .nil
 |_,_,_,_,.cons r rr,.cons i ii,h=>by
  simp only[jt]at h;obtain⟨a,h1,h⟩:=oX h;obtain⟨t,h2,h⟩:=oY h;subst h;refine .cons ?_ (yM I rr ii h2);unfold NZ at h1;split at h1
  ·rename_i n es;obtain⟨k,Vh,rfl⟩:=oY h1;cases i with
   |tup hq hl=>
    cases r
    obtain⟨its',r',⟨o,ho,hc,m,hd⟩,_⟩:=I.tuple hq;cases hl with
    |cons i1 hl=>
     cases hl with
     |cons i2 hl=>
      cases hl
      cases r' with
      |cons r1 r'=>
       cases r' with
       |cons r2 r'=>
        cases r'
        cases i1
        have hk:dE [D.tup es]=some [k]:=by show(eW es).bind _=_;rw[Vh];rfl
        have ht:=pF I (.cons r2 .nil) (.cons i2 .nil) hk;cases ht with
        |cons ht _=>exact⟨n,k,_,o,_,m,_,_,rfl,rfl,ho,hc,hd,rfl,r1,ht⟩
  ·cases h1
theorem JJ (hu:A.units<cLine):KK X A jt λ_=>true:=⟨uw,λI _ _ _ _ r i e _ hc=>have hp:=yM I r i e;⟨λhn _ _ q=>DP hp hn q,Gn hc hu hp⟩⟩
theorem Go (hu:X.A.units+40<cLine):KK X X.A.in1.in1 jt λ_=>true:=JJ (show X.A.units+1+1<cLine by omega)
@[simp] abbrev AM:FE->(Env->D->Option D)->FE:=wM jt λ_=>true
end DL
namespace DL
open PySem PySem.Spec PyProof.Rows L2
def QT:Nat->(List Value->Prop)->Prop
 |0,P=>P []
 |n+1,P=>∀a,QT n λl=>P (a::l)
theorem Oa:∀n P,QT n P->∀us:List Value,us.length=n->P us
 |0,_,h,[],_=>h
 |n+1,_,h,a::us,e=>Oa n _ (h a) us (Nat.succ.inj e)
section
variable {P:Program}{w:World}{K:Frag}{mg:Str->Option Value}{base:Heap}
def KC (K:Frag)(mg:Str->Option Value)(x:Str)(c:D):Prop:=∃u v,mg x=some u/\aU v u/\∀B,Is K B v c
def KD (w:World)(K:Frag)(mg:Str->Option Value)(x:Str)(c:List (Str×D)):Prop:=∃d,mg x=some (.ref d)/\tV K w.params d c
theorem kc_of {x:Str}{c:D}{h:Heap}(X:K.In h)(G:h.Ns mainGlobals mg)(k:∃u v,nsIn K mainGlobals x=some (some u)/\aU v u/\∀B,Is K B v c):KC K mg x c:=let ⟨u,v,e,r⟩:=k;⟨u,v,mg_of X G e,r⟩
theorem kd_of {x:Str}{c:List (Str×D)}{h:Heap}(X:K.In h)(G:h.Ns mainGlobals mg)(k:∃d,nsIn K mainGlobals x=some (some (.ref d))/\tV K w.params d c):KD w K mg x c:=let ⟨d,e,r⟩:=k;⟨d,mg_of X G e,r⟩
theorem dH.fqL {x:Str}{st:Stmt}{k:Nat}{F':List D->OB}(F:dH K x st)(B:∃h,K.In h/\h.Ns mainGlobals mg)(g:FS)(N:List Str)(n:Nat)
  (hb:∀ {f:Addr}{eG:Value}{A:Around}{outer:List PySem.Env}{s:Shared}{H:Hp}{E:XK},N.Nodup->eN k (A.deeper (envOfC x (aQ st) s.heap.objs.size f eG))->(A.deeper (envOfC x (aQ st) s.heap.objs.size f eG)).units+40<cLine->(∀c P,PySem.W.tabIn K x=some (c,P)->eG=.ref c)->wn (pw zR P w K mg base N x (aQ st) f eG A outer s H E).nox (cK st) g)
  (S:FnScope N (N.take n) (aQ st):=by refine⟨rfl,rfl,rfl,?_,rfl,?_,?_⟩<;>decide +kernel)
  (KG:∀(kV doc pm:Value)(an:Option Addr)(eG ct:Value)(us:List Value),us.length=(N.take n).length->bindArgs (fnOf x x (gk st) (cK st) (aQ st) .none kV doc pm an eG ct) ⟨us,[]⟩=pure ((N.take n).zip us):=by
   exact λ_ _ _ _ _ _=>Oa _ _ (by(repeat intro);rfl))
  (e:aM g (N.take n).length (N.length - (N.take n).length)=F':=by rfl):
  Fn P w K mg base (k+1) x F':=let ⟨_,X,G⟩:=B;e ▸ F.fnL X G S KG λ_ _ _ _ _ _ _ hc hr=>hb S.nd hr (Dx hr) hc
theorem dH.fq {x:Str}{st:Stmt}{k:Nat}{F':List D->OB}(F:dH K x st)(B:∃h,K.In h/\h.Ns mainGlobals mg)(g:FS)(N:List Str)(n:Nat)
  (hb:∀ {f:Addr}{eG:Value}{A:Around}{outer:List PySem.Env}{s:Shared}{H:Hp}{E:XK},N.Nodup->eN k (A.deeper (envOfC x (aQ st) s.heap.objs.size f eG))->(A.deeper (envOfC x (aQ st) s.heap.objs.size f eG)).units+40<cLine->wn (pw zR P w K mg base N x (aQ st) f eG A outer s H E).nox (cK st) g)
  (S:FnScope N (N.take n) (aQ st):=by refine⟨rfl,rfl,rfl,?_,rfl,?_,?_⟩<;>decide +kernel)
  (KG:∀(kV doc pm:Value)(an:Option Addr)(eG ct:Value)(us:List Value),us.length=(N.take n).length->bindArgs (fnOf x x (gk st) (cK st) (aQ st) .none kV doc pm an eG ct) ⟨us,[]⟩=pure ((N.take n).zip us):=by
   exact λ_ _ _ _ _ _=>Oa _ _ (by(repeat intro);rfl))
  (e:aM g (N.take n).length (N.length - (N.take n).length)=F':=by rfl):
  Fn P w K mg base (k+1) x F':=F.fqL B g N n (λn r u _=>hb n r u) S KG e
end
section
variable {X:Cx}{x:Str}{pos:Pos}
theorem Gp (i:Nat)(hN:X.N.Nodup)(hi:X.N[i]? = some x:=by rfl)(hx:HL X.env.scope x:=by first|exact Or.inl rfl|exact Or.inr rfl)(hf:X.fn x=true∨X.env.scope.names.lookup x=some .local:=by first|exact .inl rfl|exact .inr rfl):PG X (.Name x pos) (jQ i):=Bq hN hi hx hf
theorem Pb {fp}(i:Nat)(hN:N'.Nodup:=by decide +kernel)(hi:(iV X N' scope cl C s H fp).N[i]? = some x:=by rfl)(hx:HL (iV X N' scope cl C s H fp).env.scope x:=by exact Or.inl rfl)(hf:(iV X N' scope cl C s H fp).fn x=true∨(iV X N' scope cl C s H fp).env.scope.names.lookup x=some .local:=by first|exact .inl rfl|exact .inr rfl):PG (iV X N' scope cl C s H fp) (.Name x pos) (jQ i):=Bq hN hi hx hf
theorem iL (N':List Str)(hi:JI X tg di fi)(hc:∀ {C s H fp},JC (iV X N' scope (dJ scope.names X.env.cells []) C s H fp) sI fc)(he:∀ {C s H fp},JE (iV X N' scope (dJ scope.names X.env.cells []) C s H fp) tz fe)
  (Hz:Lj X.K nT pO g:=by first|exact xP (by decide)|exact LA (by decide)) (hg:∀ {C s H fp},PG (iV X N' scope (dJ scope.names X.env.cells []) C s H fp) tg g:=by intros;first|exact Pb 0|exact zZ rfl (jm (Pb 0) (jm (Pb 1) vt)))
  (cp:nw X N' scope (dJ scope.names X.env.cells []) nT cap:=by repeat first|exact .nil rfl|refine VQ rfl rfl ?_)
  (S:CompSc X scope (dJ scope.names X.env.cells []):=by exact QR) (jV:X.calm=true:=by rfl)
  (hs:∀x,foldedSetIterable di X.env x=pure x:=by intro _;rfl):
  JE X (.ListComp tz [⟨tg,di,sI,0⟩] scope pos) (bR fi nT cap pO fc fe):=IU jV S cp hi (λ_ _ _ _=>hg) Hz (λ_ _ _ _=>hc) (λ_ _ _ _=>he) hs
theorem mB (N':List Str)(hN:X.N.Nodup)(hi:JI X tg di fi)(hc:∀ {C s H fp},JC (iV X N' scope (dJ scope.names X.env.cells []) C s H fp) sI fc)(he:∀ {C s H fp},JE (iV X N' scope (dJ scope.names X.env.cells []) C s H fp) tz fe)
  (Hz:Lj X.K nT pO g:=by first|exact xP (by decide)|exact LA (by decide)) (hg:∀ {C s H fp},PG (iV X N' scope (dJ scope.names X.env.cells []) C s H fp) tg g:=by intros;first|exact Pb 0|exact zZ rfl (jm (Pb 0) (jm (Pb 1) vt)))
  (cp:nw X N' scope (dJ scope.names X.env.cells []) nT cap:=by repeat first|exact .nil rfl|refine VQ rfl rfl ?_)
  (LX:X.N[i]? = some y:=by rfl) (hy:X.env.kindOf y=some .local:=by rfl)
  (Oy:swapsWith (.ListComp tz [⟨tg,di,sI,0⟩] scope pos) (some (.Name y py)) spos.line X.env=pure true:=by rfl)
  (S:CompSc X scope (dJ scope.names X.env.cells []):=by exact QR) (jV:X.calm=true:=by rfl)
  (hs:∀x,foldedSetIterable di X.env x=pure x:=by intro _;rfl):
  JS X (.Assign [.Name y py] (.ListComp tz [⟨tg,di,sI,0⟩] scope pos) spos) (aN i (bR fi nT cap pO fc fe)):=IV jV hN LX hy Oy S cp hi (λ_ _ _ _=>hg) Hz (λ_ _ _ _=>hc) (λ_ _ _ _=>he) hs
theorem yN (hi:JI X tg di fi)(hg:PG X tg t)(ht:IQ X.K pO t)(hb:wn X body g)(hp:PassesOwn (model X.prog X.w) X.A X.env X.xe:=by exact PassesOwn.never)(hc:X.calm=true:=by rfl)
  (hs:∀x,foldedSetIterable di X.env x=pure x:=by intro _;rfl):JS X (.For tg di body [] pos) (sQ fi pO g):=Np hp hc hi hg ht hb hs
theorem yO (hi:PI X tg di (Qu X.K fi))(hg:PG X tg t)(ht:IQ X.K pO t)(hb:wn X body g)(hp:PassesOwn (model X.prog X.w) X.A X.env X.xe:=by exact PassesOwn.never)(hc:X.calm=true:=by rfl)
  (hs:∀x,foldedSetIterable di X.env x=pure x:=by intro _;rfl):JS X (.For tg di body [] pos) (l7 fi pO g):=Jb hp hc hi hg ht hb hs
end
end DL
namespace DL
open PySem PySem.Spec PySem.W PyProof.Rows L2
section
variable {X:Cx}
@[simp] def nGe:D->D->OB
 |.tup [.int n,.tup xs],.tup [.int m,.tup ys]=>(eW xs).bind λas=>(eW ys).bind λbs=>(ba (.i n::as) (.i m::bs)).map λr=>(.bl (!r),false)
 |_,_=>none
end
theorem qO:entryFor table "dict_itemiterator.__iter__" = some Builtin.«dict_keyiterator.__iter__»:=entryFor_alias (id':="dict_keyiterator.__iter__") (by kernel_rfl) rfl (by decide +kernel) (by kernel_rfl)
theorem wP (he:IsItemIter s.heap it d i n ep ok ov)(h:Q (.ref it) s):wpAny (model prog w) A (pyIter (.ref it)) Q E s:=by
 have hT:s.TypeIs (.ref it) "dict_itemiterator":=⟨_,he,rfl⟩;refine wpAny_pyIter_slot hT PySem.F.slot_dict_itemiterator_iter (wpAny_call_entry PySem.F.slot_dict_itemiterator_iter hT qO ?_ (PySem.F.args_dict_itemiterator_iter_1 _));show wpAny _ _ (ret (.ref it)) _ _ s;exact wY ⟨_,rfl,"dict_itemiterator",_,hT,PySem.F.slot_dict_itemiterator_next.lookup,h⟩
noncomputable def TZ (a:Addr)(aK:List (cz×V))(ob:Obj):It:=⟨λi H=>H a=some (.dK aK ob)/\i<aK.length,λi H y H'=>∃T k v,y=.ref T/\H T=none/\H'=upd H T (.tup [kV k,v])/\aK[i]? = some (k,v),λi H=>H a=some (.dK aK ob)/\aK.length<=i⟩
theorem AN {P:Program}{w:World}{K:Frag}{es:List Expr}{kt:Nat}{pt:Pos}(a it:Addr)(aK:List (cz×V))(ob:Obj){ds:Array DictEntry}{ep:Nat}(hd:ob.data=.dict ds ep):Turn P w K (.Tuple es kt pt) (TZ a aK ob) [it] it (λi h=>∃ok ov,IsItemIter h it a i aK.length ep ok ov) where
 mem:=by simp
 obj:=λi h st b hb=>by
  have e:b=it:=by simpa using hb
  subst e;obtain⟨ok,ov,e⟩:=st;exact⟨_,e,λv z=>by cases z⟩
 keep:=λi h h' st k=>let ⟨ok,ov,e⟩:=st;⟨ok,ov,k it (by simp) _ e⟩
 item:=by
  intro X hP hw hK hc i ae s σ H E I hf st hg;subst hP hw hK;obtain⟨ok,ov,he⟩:=st;obtain⟨hH,eZ⟩:=hg;obtain⟨vs,r,m⟩:=qM I.hok hH hd;have hl:vs.length=aK.length:=(Paired.length r).symm;obtain⟨u,hu,ru⟩:=r.get (k:=aK[i].1) (x:=aK[i].2) (vU eZ);have fresh:H s.heap.objs.size=none:=I.hok.fresh (vT _);have SG:it≠s.heap.objs.size:=vS (vX he);refine wpAny_pyNext_items_item (by rw[hl];exact he) m hu λkey h' Em ho hT hsz hk=>?_;rw[hl]at ho;refine⟨_,rfl,wpAny_letOwnedTupleGo_items (s:={ s with heap:=h' }) ho λh2 Pm s2=>?_⟩;have Pn:Heap.SameBut it h' h2:=s2;have kk:∀b o,b∉[it]->s.heap.get? b=some o->h2.get? b=some o:=λb o hb q=>Pn.extBut _ _ (λz=>hb (by simp[z])) (hk b o (λz=>hb (by simp[z])) q);have new:bN X.prog X.w (upd H s.heap.objs.size (.tup [kV aK[i].1,aK[i].2])) h2 s.heap.objs.size (.tup [kV aK[i].1,aK[i].2]):=⟨by show 2<=sizeLine;decide,[key,u],.cons (QO Em) (.cons ru .nil),⟨_,Pn.extBut _ _ SG.symm hT,rfl,_,rfl⟩⟩;refine⟨.ref s.heap.objs.size,upd H s.heap.objs.size (.tup [kV aK[i].1,aK[i].2]),LB (s:=s) (t':=s.toks) I hf kk (vT _) new,rfl,⟨_,aK[i].1,aK[i].2,rfl,fresh,rfl,vU eZ⟩,⟨_,_,Pm⟩,λb hb=>?_⟩;have o7:b≠s.heap.objs.size:=by
   have e:b=it:=by simpa using hb
   rw[e];exact SG
  rw[aI o7];exact(hf b hb).1
 done:=by
  intro X hP hw hK hc i ae s σ H E I hf st hg;subst hP hw hK;obtain⟨ok,ov,he⟩:=st;obtain⟨hH,KI⟩:=hg;obtain⟨vs,r,m⟩:=qM I.hok hH hd;have hl:vs.length=aK.length:=(Paired.length r).symm;exact wpAny_pyNext_items_end (I.ok.hd hc) (by rw[hl];exact he) m (List.getElem?_eq_none (by omega)) λh' hk=>⟨rfl,pE (t':=s.toks) I hf λb o hb q=>hk b o (λz=>hb (by simp[z])) q⟩
 self:=λ_ _ _ _ _ st h=>let ⟨_,_,he⟩:=st;wP he h
section
variable {X:Cx}{es:List Expr}{kt:Nat}{pt:Pos}{e:Expr}
def Ua (td:TE):TI:=λσ H R=>td σ H λx H1=>∃a aK ob,x=.ref a/\H1 a=some (.dK aK ob)/\R (TZ a aK ob) H1
theorem Gq {o:Expr}{td:TE}{cV cr:Pos}(ho:PE X o td)(fL:attributeBase o "items" X.env (eval o X.env)=eval o X.env:=by rfl)(fM:(cV.endLine == cr.line)=true:=by rfl):PI X (.Tuple es kt pt) (.Call (.Attribute o "items" cV) [] [] cr) (Ua td):=by
 intro ae s σ H R I h;refine wpAny_Call_method0_late fL fM (cu (ho ae s σ H _ I h) λv s1 ⟨x,H1,I1,r1,a,aK,ob,ex,hH,q⟩=>?_);subst ex;obtain⟨h1,h2⟩:=we I1 r1 (T:="dict") (.inr (.inr (.inl ⟨rfl,.inl ⟨aK,ob,hH⟩⟩)));cases r1
 obtain⟨es,ep,hd⟩:=wO I1.hok hH;obtain⟨vs,r,m⟩:=qM I1.hok hH hd;have hl:vs.length=aK.length:=(Paired.length r).symm;refine⟨"dict","dict.items",PySem.F.plainAttrs_dict,PySem.F.slot_dict_items,PySem.F.type_dict_items,h1,h2,Calls.callWith_builtin rfl (PySem.evalArgs_none ?_)⟩;refine call_meetsIn PySem.F.slot_dict_items h1 PySem.F.entry_dict_items (PySem.F.args_dict_items_1 _) (meets_dict_items (cm X.prog X.w) a (pW I1.hok hH).2.1) ⟨⟨vs,m.dictOf⟩,?_⟩;have I2:Inv X ae σ H1 { s1 with heap:=s1.heap.push { cls:=.type "dict_items",data:=.fields #[.ref a] } }:=I1.kept (t':=s1.toks) λb o e=>vZ _ e;refine wpAny_pyIter_items (v:=s1.heap.objs.size) ⟨_,vY _ rfl,rfl,rfl⟩ (m.keep λb o e=>vZ _ e) ?_;rw[hl];refine⟨(s1.heap.push { cls:=.type "dict_items",data:=.fields #[.ref a] }).objs.size,[(s1.heap.push { cls:=.type "dict_items",data:=.fields #[.ref a] }).objs.size],_,_,H1,rfl,I2.kept (t':=s1.toks) λb o e=>vZ _ e,AN a _ aK ob hd,⟨_,_,vY _ rfl⟩,λb hb=>?_,q⟩;have e:b=(s1.heap.push { cls:=.type "dict_items",data:=.fields #[.ref a] }).objs.size:=by simpa using hb
 subst e;exact I2.fpOk (vT _) (I2.hok.fresh (vT _))
noncomputable def lP (ks:List cz)(ds:List D):List D:=(ks.zip ds).map λx=>.tup [kD x.1,x.2]
theorem Gr {K:Frag}{B:Hp}{a:Addr}{ks:List cz}{vs:List V}{ds:List D}{ob:Obj}(h:B a=some (.dK (ks.zip vs) ob))(hl:ks.length=vs.length)(hs:IsL K B vs ds):nI K (TZ a (ks.zip vs) ob) B (lP ks ds):=by
 intro i H s;have hz:(ks.zip vs).length=vs.length:=by rw[List.length_zip];omega
 have hn:=hs.length;refine⟨λd ed=>?_,λbJ=>⟨s _ _ h,by unfold lP at bJ;rw[vI,List.length_zip]at bJ;omega⟩⟩;unfold lP at ed;rw[vA]at ed;obtain⟨⟨k0,d0⟩,ek,rfl⟩:=oY ed;obtain⟨e1,e2⟩:=List.getElem?_zip_eq_some.mp ek;obtain⟨v,ev,iv⟩:=hs.get e2;have eZ:i<vs.length:=(vV ev).1;refine⟨⟨s _ _ h,by rw[hz];exact eZ⟩,λy H3 hy=>?_⟩;obtain⟨T,k,v',rfl,hT,rfl,e⟩:=hy;obtain⟨g1,g2⟩:=List.getElem?_zip_eq_some.mp e;rw[e1]at g1;cases g1;rw[ev]at g2;cases g2;have xt:=Ext.laid (o:=.tup [kV k0,v']) s hT;exact⟨_,xt,.tup (jl.of aC) (.cons (QQ _) (.cons (iv.mono xt.bn) .nil))⟩
@[simp] def Cf (f:FE):FA:=λρ=>(f ρ).bind λx=>match x.1 with|.dk ks ds=>some (lP ks ds)|_=>none
theorem Gs (h:JE X e f)(fL:attributeBase e "items" X.env (eval e X.env)=eval e X.env:=by rfl)(fM:(cV.endLine == cr.line)=true:=by rfl):JI X (.Tuple es kt pt) (.Call (.Attribute e "items" cV) [] [] cr) (Cf f):=by
 intro ae s σ H R I q;obtain⟨B,ρ,ds,sB,r,e',q⟩:=q;obtain⟨⟨xd,xb⟩,ex,es⟩:=oX e';cases xd<;>try (cases es;done)
 cases es
 refine Gq h fL fM ae s σ H R I ⟨B,ρ,_,_,sB,r,ex,λv H1 N1 x1 i1 _=>?_⟩;cases i1 with
 |@dk a ks vs ds ob hd hl hs=>exact⟨a,_,ob,rfl,x1.nh _ _ hd,q _ H1 N1 x1 (Gr hd hl hs)⟩
end
section
variable {K:Frag}{E:Ends}{σ:St}{H:Hp}
def qP (i:Nat)(fk fv:FE):FS:=λρ=>match ρ[i]? with
 |some (some (.dk ks vs,true))=>(fv (mr ρ)).bind λv=>(fk ρ).bind λk=>(kE k.1).bind λkk=>if ks.length<sizeLine then some (.nx (ρ.set i (some (.dk (dF ks kk) (dG ks vs kk v.1),true))))else none
 |_=>none
theorem DQ (q:nz K (qP i fk fv) E σ H):Bw (EA i) (tD K fk) (tD K fv) E σ H:=by
 obtain⟨B0,H0,ρ,r,⟨N,s⟩,e,p⟩:=q;unfold qP at e;split at e
 ·rename_i ks ds ei;obtain⟨v,ev,e⟩:=oX e;obtain⟨k,ek,e⟩:=oX e;obtain⟨kk,hk,e⟩:=oX e;split at e
  ·rename_i hx;cases e
   refine⟨dZ N (own σ ρ),mr ρ,v.1,v.2,bO.trans s.ext.nh,s.repH,ev,λv1 H1 N1 x1 i1 _=>?_⟩;obtain⟨s1,c⟩:=s.growH x1;obtain⟨a,o,h1,h2,h3,h4⟩:=s1.ow i _ ei;refine⟨.ref a,h1,_,ρ,k.1,k.2,s1.ext.nh,s1.rep,ek,λv2 H2 N2 x2 i2 _=>?_⟩;have s2:=s1.grow x2;have hv:=oG i2 hk;subst hv;obtain⟨a',o',k1,k2,k3,k4⟩:=s2.ow i _ ei;rw[h1]at k1;cases k1
   cases k4 with
   |@dk ks vs ds hl h5 ob=>
    refine⟨a,rfl,.inl ⟨_,kk,_,s2.ext.nh _ _ k2,rfl,?_,λU3=>?_⟩⟩
    ·rw[List.length_zip];omega
    ·rw[pJ hl];exact p σ _ ⟨_,s2.writeB ei h1 (.dk (m9 hl _ _) (h5.put ((i1.mono c).mono (eJ λa o e q=>⟨x2.bn a o e,q⟩))))⟩
  ·cases e
 ·cases e
end
section
variable {X:Cx}{pos:Pos}{e k:Expr}
theorem Gu (hu:X.A.units+1<cLine)(hv:JE X e fv)(hk:JE X k fk)(hN:X.N[i]? = some y:=by rfl)(Bl:Ez X.env.scope y:=by first|exact Or.inl rfl|exact Or.inr (Or.inl rfl)|exact Or.inr (Or.inr rfl))(hd:(y == ("__debug__" : Str))=false:=by decide)
  (jj:(y == ("__classdict__" : Str))=false:=by decide) (hs:swapsWith e (some (.Subscript (.Name y py) k pt)) pos.line X.env=pure false:=by rfl):JS X (.Assign [.Subscript (.Name y py) k pt] e pos) (qP i fk fv) :=
 PS.to (wj hu (kh hN Bl hd jj) hk hv hs) λ_ _ _ q=>DQ q
end
section
variable {prog:Program}{w:World}{A:Around}{E:Value->Shared->Prop}{s:Shared}
theorem Cg:∀(vs:List Value)(ns:List Int),vs.length=ns.length->(∀(i:Nat)(v:Value),vs[i]? = some v->∃(m:Int)(t:Tok),ns[i]? = some m/\v=Value.int m t)->IntsAre vs ns
 |[],[],_,_=>.nil
 |v::vs,n::ns,h,k=>by
  obtain⟨m,t,e,rfl⟩:=k 0 v rfl;cases (show some n=some m from e)
  exact .cons n t (Cg vs ns (by simpa using h) λi v hv=>k (i+1) v hv)
theorem yP (hh:A.handled=none)(lo:(a == sysModules)=false)(hm:s.heap.DictAt (cm prog w) a aK ep)(hk:aK.map (·.1)=ns.map .inl)(Eu:ns.length<64)
  (hQ:∀(h1 h':Heap)(tk:Nat)(b:Addr)(out:Array Value)(n:Nat)(Py:List Int),(∀c u,s.heap.get? c=some u->h1.get? c=some u)->(∀c u,h1.get? c=some u->h'.get? c=some u)->h1.objs.size<=b->h'.get? b=some (seqObj "list" out n) ->
   IntsAre out.toList Py->Py.Perm ns->Py.Pairwise (·<=·)->Q (.ref b) { s with heap:=h',toks:=tk }):
  wpAny (model prog w) A (call (.builtin "sorted") [.ref a]) Q E s:=by
 refine Calls.call_function_entry kind_sorted plain_sorted entry_sorted (args_sorted1 _) ?_;unfold Builtin.«sorted»;refine wX (m:=checkCount "sorted" 1 1 _) (wY ?_);have WP:aK.length=ns.length:=by have:=congrArg List.length hk;simpa using this
 refine wX (kdu_collect (A:=A.in1) (kdl_dict lo) (by exact hh) hm (by rw[sizeLine_eq];omega) λh1 tk lx hkeep sJ=>?_);have CQ:lx.toList.length=ns.length:=by rw[vG,sJ.1,WP]
 have nB:IntsAre lx.toList ns:=Cg lx.toList ns CQ λi v hv=>by
  obtain⟨k,x,e1,e2⟩:=sJ.2 i v (by simpa using hv);have e3:(aK.map (·.1))[i]? = some k:=by rw[vA,e1];rfl
  rw[hk,vA]at e3;obtain⟨m,e4,rfl⟩:=oY e3;obtain⟨t,rfl⟩:=Value.isInt_shape (k:=m) (v:=v) e2;exact⟨m,t,e4,rfl⟩
 refine wX (wpAny_newList ?_ (by rw[CQ,sizeLine_eq];omega));have K0:(h1.push (seqObj "list" lx.toList.toArray 0)).get? h1.objs.size=some (seqObj "list" lx.toList.toArray 0):=vY _ rfl;show wpAny _ _ _ _ _ { s with heap:=h1.push (seqObj "list" lx.toList.toArray 0),toks:=tk };refine wX (wpAny_holding (wpAny_call_entry slot_list_sort ⟨_,K0,rfl⟩ entry_list_sort (list_sort_tree K0 nB (by rw[CQ];exact Eu) λout Py a1 a2 a3=>⟨_,rfl,?_⟩) (args_list_sort _)));obtain⟨n,he⟩:=sortedHeap_at (out:=out) K0;refine wY ⟨_,rfl,hQ h1 _ _ _ out n Py hkeep (λb u q=>?_) (vT _) he a1 a2 a3⟩;have hl:=vX q;rw[sortedHeap_old (vS hl) (by rw[size_push'];exact Nat.lt_succ_of_lt hl)];exact vZ _ q
end
noncomputable def ux:List cz->Option (List Int)
 |[]=>some []
 |.inl n::ks=>(ux ks).map (n :: ·)
 |.inr _::_=>none
theorem yQ:∀ {ks:List cz}{ns:List Int},ux ks=some ns->ks=ns.map .inl
 |[],_,h=>by cases h;rfl
 |.inl n::ks,_,h=>by
  obtain⟨r,h1,rfl⟩:=oY h;rw[yQ h1];rfl
 |.inr _::_,_,h=>by cases h
theorem JL {aK:List (cz×V)}{vs:List (cz×Value)}(r:KV aK vs):vs.map (·.1)=aK.map (·.1):=by
 unfold KV at r;induction r with
 |nil=>rfl
 |cons h t ih=>rw[uY,uY,ih,h.1]
@[simp] def ju:List D->OB
 |[.dk ks _]=>(ux ks).bind λns=>if ns.length<64 then some (.lst ((qz ns).map .int),true)else none
 |_=>none
section
variable {X:Cx}
theorem DR (hc:X.calm=true):bQ X (.builtin "sorted") (Bz X.K ju):=by
 intro ae s σ H xs us Q I r h;obtain⟨B,dl,d,bb,sB,i,ee,q⟩:=h;cases i with
 |nil=>simp[ju]at ee
 |cons i1 i2=>
  cases i2 with
  |cons _ _=>cases i1<;>simp[ju]at ee
  |nil=>
   cases i1 with
   |@dk a ks vs ds ob hd hl hs=>
    obtain⟨u,rfl,rx⟩:=gK r;cases rx
    simp only[ju]at ee;obtain⟨ns,en,ee⟩:=oX ee;split at ee
    ·rename_i Eu;cases ee
     have hH:=sB _ _ hd;obtain⟨es,ep,Zr⟩:=wO I.hok hH;obtain⟨S8,r',m⟩:=qM I.hok hH Zr;have Zs:S8.map (·.1)=ns.map .inl:=by rw[JL r',List.map_fst_zip (by omega),yQ en]
     refine yP (I.ok.hd hc) (pW I.hok hH).2.1 m Zs Eu λh1 h' tk b out n Py k1 k2 hb he nB gB sL=>?_;have e:=FL gB sL;subst e;have I1:Inv X ae σ H { s with heap:=h1,toks:=tk }:=nQ I k1 rfl rfl;have hf:H b=none:=I1.hok.fresh hb;have xt:=Ext.laid (o:=.lst ((qz ns).map V.int)) sB hf;exact⟨.ref b,_,I1.laid (t':=tk) k2 hb (show bN X.prog X.w _ h' _ (.lst ((qz ns).map V.int))from ⟨by rw[vI];unfold qz;rw[(b8 _ ns).length_eq,sizeLine_eq];omega,out.toList,n,jo nB,he⟩),rfl,q _ _ _ xt (.lst (gX.of aC) (q8 _)) λ_=>⟨_,_,_,rfl,rfl,hf,aC,q8 _⟩⟩
    ·cases ee
   |_=>simp[ju]at ee
theorem Ob (hu:X.A.units+1<cLine)(hi:JE X i fi)(ho:JE X o fo)(hm:behindInMarks .In o=false:=by first|exact jk _ (by decide) (by decide)|rfl):JE X (.Compare i [.In] [o] pos) (f2 Sv fi fo):=by
 refine PE.to (Mu (MZ hu hi ho) hm) λσ H Q q=>?_;obtain⟨B,ρ,d,bb,sB,r,ee,q⟩:=q;obtain⟨y,ey,ee⟩:=oX ee;obtain⟨x,ex,ee⟩:=oX ee;refine⟨B,ρ,y.1,y.2,sB,r,ey,λv2 H1 N1 x1 i2 _=>⟨N1,ρ,x.1,x.2,x1.nh,r.mono x1.bn,ex,λv H2 N2 x2 i1 ff=>?_⟩⟩;obtain⟨xd,xb⟩:=x;cases i1 with
 |@dk a ks vs ds ob h hl hs=>
  simp only[Sv]at ee;obtain⟨k,hk,ee⟩:=oY ee;cases ee
  have hv:=oG i2 hk;subst hv;refine⟨a,jW (ks.zip vs) k,rfl,.inl ⟨_,k,_,.inl (x2.nh _ _ h),rfl,rfl⟩,?_⟩;rw[ur hl hs];exact(q.into (x1.trans x2)).one x2.nh (.bl _)
 |_=>simp[Sv]at ee
end
end DL
namespace DL
open PySem PySem.Spec PyProof.Rows L2
@[simp] abbrev fV (i:Nat)(g:FA):FA:=af (aj i) g
@[simp] abbrev fI (n:Int):FE:=fC (.int n)
@[simp] abbrev fS (s:PySem.Str):FE:=fC (.str s)
section
variable {X:Cx}{es:List Expr}{g:FA}{pos:Pos}
theorem aF {x:Str}{p:Pos}(i:Nat)(hr:JA X es g)(hN:X.N[i]? = some x:=by rfl)(hv:Ez X.env.scope x:=by first|exact Or.inl rfl|exact Or.inr (Or.inl rfl)|exact Or.inr (Or.inr rfl))(hd:(x == ("__debug__" : Str))=false:=by decide)(jj:(x == ("__classdict__" : Str))=false:=by decide)
  (hs:starEach (.Name x p::es) X.env=(false,eval (.Name x p) X.env)::starEach es X.env:=by rfl):JA X (.Name x p::es) (fV i g):=ah (ag i hN hv hd jj) hr hs
theorem bU {i:Int}{j:Nat}(hr:JA X es g):JA X (.Constant (.int i) j pos::es) (af (fC (.int i)) g):=ah av hr
theorem a8 (F:Fn X.prog X.w X.K X.mg X.base k x f)(hr:eN j X.A)(ha:JA X (e::es) g:=by repeat first|exact am|refine aF _ ?_|refine ah aA ?_)(hj:k<=j:=by decide)(hg:Gl X x:=by rfl)(tu:(x == ("__debug__" : Str))=false:=by decide)(he:starEach (e::es) X.env=(false,eval e X.env)::starEach es X.env:=by rfl)(mf:(backTo pos (starEach es X.env)).any (·.1)=false:=by rfl):JE X (.Call (.Name x p) (e::es) [] pos) (fA f g):=B3 F (hr.mono hj) ha hg tu he mf
theorem bc (he:JE X e f):wn X [.Return (some e) pos] (aR f):=bq (Fk he)
theorem cj {c:Expr}{fc:FT}(hc:JT X c fc)(he:JE X e f):JS X (.If c [.Return (some e) p] [] pos) (eB fc (aR f) bg):=fg hc (bq (Fk he)) fD
theorem bD (i:Nat)(hN:X.N[i]? = some x:=by rfl)(hv:Ez X.env.scope x:=by first|exact Or.inl rfl|exact Or.inr (Or.inl rfl)|exact Or.inr (Or.inr rfl))(hd:(x == ("__debug__" : Str))=false:=by decide)(jj:(x == ("__classdict__" : Str))=false:=by decide):JE X (.Subscript (.Name x p) (.Constant (.int n) j q) pos) (cW i n):=aO (ag i hN hv hd jj) av
end
theorem AO:typeLookup (.type "list_reverseiterator") "__len__" = pure none:=by rw[typeLookup_type,builtinLookup_eq_fast];kernel_rfl
theorem JM:typeLookup (.type "list_reverseiterator") "__length_hint__" = pure (some (.builtin "list_reverseiterator.__length_hint__")):=by rw[typeLookup_type,builtinLookup_eq_fast];kernel_rfl
theorem AQ:bootBuiltins "reversed" = some (.type "reversed"):=by decide +kernel
section
variable {prog:Program}{w:World}{A:Around}{E:Value->Shared->Prop}{s:Shared}{l it:Addr}{items:Array Value}
theorem Gv {Q:Bool->Shared->Prop}(hT:s.TypeIs (.ref it) "list_reverseiterator")(h:Q false s):wpAny (model prog w) A (Builtin.List.listLengthHint (.ref it)) Q E s:=by
 unfold Builtin.List.listLengthHint;refine wX (wpAny_specialOf hT AO ?_);show wpAny _ A (specialOf (Value.ref it) (Str.ofString "__length_hint__")>>=_) _ _ _;refine wX (wpAny_specialOf hT JM ?_);generalize hid:("list_reverseiterator.__length_hint__" : String)=id0;wp_delta;rw[show splitId id0=some ("list_reverseiterator","__length_hint__")from by subst hid;decide +kernel];subst hid;refine wX (wpAny_isInstance (b:=true) hT (by rw[isSubtype_type];kernel_rfl) ?_);exact wY h
theorem sY (hh:A.handled=none)(o7:l≠it)(zY:s.heap.IsRevIter it l ((items.size:Int) - 1))(hl:s.heap.IsList l items)(hn:items.size<=sizeLine)
  (hQ:∀s' xr c',(∀b o,b≠it->s.heap.get? b=some o->s'.heap.get? b=some o)->s'.gens=s.gens->s'.os=s.os->s'.heap.get? s.heap.objs.size=some (seqObj "list" xr c')->xr.toList=items.toList.reverse->Q (.ref s.heap.objs.size) s'):
  wpAny (model prog w) A (call (.type "list") [.ref it]) Q E s:=by
 have nS:∀ {b o},s.heap.get? b=some o->b≠s.heap.objs.size:=λe=>vS (vX e);have SJ:it≠s.heap.objs.size:=by obtain⟨o,e,_⟩:=id zY;exact nS e
 have UR:l≠s.heap.objs.size:=by obtain⟨o,e,_⟩:=id hl;exact nS e
 refine callType_codes (Q₁:=λobj s₁=>obj=.ref s.heap.objs.size/\s₁={ s with heap:=s.heap.push { cls:=.type "list",data:=.seq #[] } }) PySem.F.called_list (PySem.F.typeCall_list_1 _) PySem.F.entry_list_init
  (code_list_new _ ⟨rfl,rfl⟩) λobj s₁ h₁=>?_
 obtain⟨rfl,rfl⟩:=h₁;have hS:(s.heap.push { cls:=.type "list",data:=.seq #[] }).get? s.heap.objs.size=some { cls:=.type "list",data:=.seq ([]:List Value).toArray }:=vY _ rfl;refine⟨⟨_,hS,rfl⟩,PySem.F.args_list_init_2 _ _,?_⟩;show wpAny _ _ (do let Ma ←Builtin.List.listItems (.ref s.heap.objs.size);Builtin.List.listUpdate (.ref s.heap.objs.size) (λ_=>#[]);letGo Ma.toList.reverse;Builtin.List.listExtendWith (.ref s.heap.objs.size) (.ref it) .none) _ _ _;refine wX ?_;unfold Builtin.List.listItems;refine wX (wpAny_seqItems hS rfl (wY ?_));show wpAny _ _ (updateSeq s.heap.objs.size (λ_=>#[])>>=λ_=>letGo (#[]:Array Value).toList.reverse>>=λ_=>Builtin.List.listExtendWith (.ref s.heap.objs.size) (.ref it) .none) _ _ _;refine wX (wpAny_updateSeq hS rfl ?_);have Mc:=Heap.get?_update_self (Obj.mapSeq (λ_=>(#[]:Array Value))) hS rfl;have O8:∀b o,s.heap.get? b=some o->((s.heap.push { cls:=.type "list",data:=.seq #[] }).update s.heap.objs.size (Obj.mapSeq (λ_=>(#[]:Array Value)))).get? b=some o:=λb o e=>(Heap.get?_update_other _ _ (Ne.symm (nS e))).trans (vZ _ e);refine wX (wpAny_letGo ?_);generalize (s.heap.push { cls:=.type "list",data:=.seq #[] }).update s.heap.objs.size (Obj.mapSeq (λ_=>(#[]:Array Value)))=g at Mc O8 ⊢;have Bn:g.IsRevIter it l ((items.size:Int) - 1):=zY.at λo e=>O8 _ _ e;have Bm:g.IsList l items:=hl.at λo e=>O8 _ _ e;have W:=Walks.listRev (prog:=prog) (w:=w) (A:=A.in1.in1) hh it l o7 items;have KO:s.heap.objs.size∉[it,l]:=by simp only[List.mem_cons,List.not_mem_nil,or_false,not_or];exact⟨SJ.symm,UR.symm⟩
 unfold Builtin.List.listExtendWith;refine wX (wpAny_typeOf (T:="list_reverseiterator") (show Shared.TypeIs { s with heap:=g } _ _ from Heap.IsRevIter.typeIs (s:={ s with heap:=g }) Bn) ?_);rw[if_neg (by simp[Builtin.List.listSameRef,SJ.symm])];refine wX (wpAny_pyIter_revIter Bn ?_);refine wX (wpAny_holding (Gv (Heap.IsRevIter.typeIs (s:={ s with heap:=g }) Bn) ?_));rw[if_neg (by decide)];refine wY ⟨plainId_quiet PySem.F.plain_extend_loop _,codeAny_extend_loopS W.toS hn _ KO _ items.size 0 _ _ _ rfl (uN _) ⟨uN _,by rw[show(items.size:Int) - 1 - ((0:Nat):Int)=(items.size:Int) - 1 by omega];exact Bn,Bm⟩ Mc (ItemsOf.nil _) λs' xr c' hm Et sJ=>?_⟩;refine⟨rfl,hQ s' xr c' (λb o hb e=>hm.heap b o (λz=>?_) (O8 b o e)) hm.gens hm.os Et ?_⟩
 ·simp only[List.mem_cons,List.not_mem_nil,or_false]at z;rcases z with z|z
  ·exact nS e z
  ·exact hb z
 ·apply List.ext_getElem?;intro i;by_cases hi:i<items.size
  ·obtain⟨v,hv⟩:∃v,xr[i]? = some v:=⟨_,Array.getElem?_eq_getElem (by rw[sJ.1];exact hi)⟩;rw[Array.getElem?_toList,hv,List.getElem?_reverse (by simpa using hi)];have:=sJ.2 i v hv;simp only[vG,Array.getElem?_toList];exact this.symm
  ·rw[List.getElem?_eq_none (by rw[vG,sJ.1];omega),List.getElem?_eq_none (by simp;omega)]
end
@[simp] noncomputable def JN:D->OB
 |.lst ds=>some (.lst ds.reverse,true)
 |_=>none
theorem aS.rev (h:aS vs us):aS vs.reverse us.reverse:=by
 induction h with
 |nil=>exact .nil
 |cons r _ ih=>rw[List.reverse_cons,List.reverse_cons];exact ih.append (.cons r .nil)
theorem IsL.rev {K:Frag}{B:Hp}{vs:List V}:∀ {ds:List D},IsL K B vs ds->IsL K B vs.reverse ds.reverse:=by
 induction vs with
 |nil=>intro ds h;cases h;exact .nil
 |cons v vs ih=>intro ds h;cases h with|cons h t=>rw[List.reverse_cons,List.reverse_cons];exact(ih t).append (.cons h .nil)
section
variable {X:Cx}{e:Expr}{pos p pos2 p2:Pos}
theorem AR (OE:X.calm=true)(hl:X.mg "list" = none)(hm:X.mg "reversed" = none)(he:JE X e f)(Zt:Gl X "list":=by rfl)(hg:Gl X "reversed":=by rfl)
  (hs:starEach [e] X.env=[(false,eval e X.env)]:=by rfl)
  (WY:starEach [.Call (.Name "reversed" p2) [e] [] pos2] X.env=[(false,eval (.Call (.Name "reversed" p2) [e] [] pos2) X.env)]:=by rfl):
  JE X (.Call (.Name "list" p) [.Call (.Name "reversed" p2) [e] [] pos2] [] pos) (f1 JN f):=by
 intro ae s σ H Q I q;obtain⟨B,ρ,d,bb,sB,r,ee,iF⟩:=q;obtain⟨⟨xd,xb⟩,ex,ee⟩:=oX ee;cases xd<;>try (cases ee;done)
 rename_i ds;cases ee
 refine wpAny_Call_Name_kw (iS I Zt hl qh ?_ (by decide) (by decide));refine PyProof.Rows.callWith_type1 ?_ (by rw[WY];rfl) rfl;rw[WY];show wpAny _ _ (spliced ((false,eval (.Call (.Name "reversed" p2) [e] [] pos2) X.env)::backTo pos [])) _ _ s;refine Calls.spliced_cons ?_;refine wpAny_Call_Name_kw (iS I hg hm AQ ?_ (by decide) (by decide));refine PyProof.Rows.callWith_type1 (cu (ah he am hs pos2 ae s σ H (λvs H1=>∃N1,Ext B N1 H H1/\IsL X.K N1 vs [.lst ds]) I ⟨B,ρ,[.lst ds],sB,r,by simp[af,ai,ex],λvs H1 N1 xt i1=>⟨N1,xt,i1⟩⟩) λus s1 ⟨vs,H1,I1,r1,N1,xt,il⟩=>?_) (by rw[hs];rfl) rfl;cases il with
 |cons j1 j2=>
  cases j2
  cases j1
  rename_i l ws h m1;obtain⟨u1,rfl,UG⟩:=gK r1;cases UG
  obtain⟨its,v1,pl,z1⟩:=I1.list (xt.nh.seq h);have eZ:l<s1.heap.objs.size:=by obtain⟨o,e0,_⟩:=pl.isList;exact vX e0
  refine call_reversed_list pl.isList ?_;refine Calls.spliced_nil ?_;have hsz:(s1.heap.push (revObj l ((its.toArray.size:Int) - 1))).objs.size=s1.heap.objs.size+1:=size_push' _ _;refine sY (s:={ s1 with heap:=s1.heap.push (revObj l ((its.toArray.size:Int) - 1)) }) (I1.ok.hd OE) (vS eZ) ⟨_,vY _ rfl,rfl,rfl⟩ (pl.isList.push _) (by rw[vH,←v1.length];exact z1) λs' xr c' hk KH sD hS sJ=>?_;have k1:∀b o,s1.heap.get? b=some o->s'.heap.get? b=some o:=λb o e0=>hk b o (vS (vX e0)) (vZ _ e0);have hp:H1 (s1.heap.objs.size+1)=none:=I1.hok.fresh (Nat.le_succ _);rw[hsz]at hS ⊢;have I2:=nQ (s1:={ s1 with drawn:=s'.drawn }) I1 (λ_ _ e=>e) rfl rfl;have x2:=Ext.laid (o:=.lst ws.reverse) xt.nh hp;obtain⟨h',g',d',E8,S5⟩:=s';cases KH;cases sD
  have il:=(IsL.rev m1).mono x2.bn;refine⟨.ref (s1.heap.objs.size+1),_,I2.laid (t':=E8) k1 (Nat.le_succ _) (show bN X.prog X.w _ h' _ (.lst ws.reverse)from ⟨by rw[List.length_reverse];exact z1,xr.toList,c',?_,hS⟩),rfl,iF _ _ _ (xt.trans x2) (.lst (gX.of aC) il) λ_=>⟨_,_,_,rfl,rfl,xt.hh.free hp,aC,il⟩⟩;rw[sJ];exact aS.rev v1
end
end DL
namespace DL
open PySem L2
theorem ij (I:Nat->Env->Prop)(ds:List D)(ρ0:Env)(h0:I 0 ρ0)
  (step:∀i d ρ,ds[i]? = some d->I i ρ->∃ρ1 ρ',tg d ρ=some ρ1/\(g ρ1=some (.nx ρ')∨g ρ1=some (.ct ρ'))/\I (i+1) ρ'):
  ∃ρ',iU tg g ds ρ0=some (.nx ρ')/\I ds.length ρ':=by
 have key:∀(es:List D)(i:Nat)(ρ:Env),ds.drop i=es->i+es.length=ds.length->I i ρ->∃ρ',iU tg g es ρ=some (.nx ρ')/\I ds.length ρ':=by
  intro es;induction es with
  |nil=>intro i ρ e hl h;refine⟨ρ,by rw[Fe],?_⟩;rw[←hl];exact h
  |cons d es ih=>
   intro i ρ e hl h;have hd:ds[i]? = some d:=by
    have:(ds.drop i)[0]? = some d:=by rw[e];rfl
    rwa [List.getElem?_drop,Nat.add_zero]at this
   obtain⟨ρ1,ρ',h1,h2,h3⟩:=step i d ρ hd h;have he:ds.drop (i+1)=es:=by rw[←List.drop_drop,e];rfl
   obtain⟨ρ2,k1,k2⟩:=ih (i+1) ρ' he (by simp at hl;omega) h3;refine⟨ρ2,?_,k2⟩;rw[Dt,h1];rcases h2 with h2|h2<;>simp only[vJ,h2]<;>exact k1
 exact key ds 0 ρ0 (by simp) (by simp) h0
theorem mC (n:Nat)(I:Nat->Env->Prop)(ρ0:Env)(h0:I 0 ρ0)
  (step:∀(i:Nat) ρ,i<n->I i ρ->∃ρ1 ρ',tg (.int (i:Int)) ρ=some ρ1/\(g ρ1=some (.nx ρ')∨g ρ1=some (.ct ρ'))/\I (i+1) ρ'):
  ∃ρ',iU tg g (fY 0 n) ρ0=some (.nx ρ')/\I n ρ':=by
 have hl:(fY 0 n).length=n:=by simp[fY]
 obtain⟨ρ',h1,h2⟩:=ij (tg:=tg) (g:=g) I (fY 0 n) ρ0 h0 λi d ρ hd h=>by
  unfold fY at hd;rw[vA]at hd;obtain⟨k,hk,hd⟩:=oY hd;obtain⟨eZ,hk⟩:=vV hk;rw[List.length_range]at eZ;rw[List.getElem_range]at hk;subst hk;rw[Int.zero_add]at hd;subst hd;exact step i ρ eZ h
 rw[hl]at h2;exact⟨ρ',h1,h2⟩
theorem kF {α:Type}{xs:List α}{j:Nat}(h:j<xs.length):lI xs (j:Int)=some xs[j]:=IB (by simp[h])
theorem wQ {α:Type}{xs:List α}{i:Int}(h0:0<=i)(h:i.toNat<xs.length):lI xs i=some xs[i.toNat]:=by
 have:=kF h;rwa [Int.toNat_of_nonneg h0]at this
@[simp] theorem oJ (xs:List Int):bz (xs.map D.int)=true:=by
 induction xs with
 |nil=>simp
 |cons x xs ih=>simp[ih]
@[simp] theorem HW (n:Nat)(xs:List Int):(xs.map D.int).all (aq n)=true:=by
 induction xs with
 |nil=>simp
 |cons x xs ih=>simpa using ih
@[simp] theorem JP (xs:List Int):(xs.map D.int).all fR=true:=by
 induction xs with
 |nil=>simp
 |cons x xs ih=>simpa using ih
theorem DS (n:Nat):fY 0 n=((List.range n).map λ(k:Nat)=>(k:Int)).map D.int:=by
 unfold fY;rw[uP];apply List.map_congr_left;intro k _;simp
mutual
def mD:D->D->Bool
 |.non,.non=>true
 |.bl a,.bl b=>a == b
 |.int a,.int b=>decide (a=b)
 |.str a,.str b=>decide (a=b)
 |.ty a,.ty b=>decide (a=b)
 |.tup xs,.tup ys=>qQ xs ys
 |.lst xs,.lst ys=>qQ xs ys
 |_,_=>false
def qQ:List D->List D->Bool
 |[],[]=>true
 |x::xs,y::ys=>mD x y && qQ xs ys
 |_,_=>false
end
mutual
theorem Ch:∀ {x y:D},mD x y=true->x=y
 |.non,.non,_=>rfl
 |.bl a,.bl b,h=>by simp[mD]at h;rw[h]
 |.int a,.int b,h=>by simp[mD]at h;rw[h]
 |.str a,.str b,h=>by simp[mD]at h;rw[h]
 |.ty a,.ty b,h=>by simp[mD]at h;rw[h]
 |.tup xs,.tup ys,h=>by rw[mD]at h;rw[qR h]
 |.lst xs,.lst ys,h=>by rw[mD]at h;rw[qR h]
theorem qR:∀ {xs ys:List D},qQ xs ys=true->xs=ys
 |[],[],_=>rfl
 |x::xs,y::ys,h=>by
  rw[qQ,vC]at h;rw[Ch h.1,qR h.2]
end
def Sw (r:OB)(d:D)(b:Bool):Bool:=match r with
 |some (e,c)=>mD e d && c == b
 |none=>false
theorem Gw (h:Sw r d b=true):r=some (d,b):=by
 unfold Sw at h;split at h
 ·rw[vC]at h;rw[Ch h.1,eq_of_beq h.2]
 ·cases h
section
variable {f:FE}{c:FT}{g g' h:FS}{ρ ρ':Env}{i:Nat}{d:D}{b:Bool}{r:Option Res}{ds:List D}
theorem aw (hl:ds.length=n)(e:g (ds.map (λd=>some (d,false))++List.replicate k none)=some (.rt d b)):aM g n k ds=some (d,b):=by
 unfold aM;rw[if_pos hl,e]
theorem uy (n:be d=true):setE ρ i d b=ρ.set i (some (d,false)):=by unfold setE;rw[if_pos n]
theorem yR (n:bz ds=true):setE ρ i (.lst ds) true=ρ.set i (some (.lst ds,true)):=by
 unfold setE;rw[if_neg (by simp),if_pos ⟨rfl,by simpa using n⟩]
theorem JQ (n:be d=false)(m:b=false∨xM d=false):setE ρ i d b=(unown ρ).set i (some (d,false)):=by
 unfold setE;have hz:¬(b=true/\xM d=true):=λz=>by
  rcases m with m|m
  ·rw[m]at z;exact absurd z.1 (by decide)
  ·rw[m]at z;exact absurd z.2 (by decide)
 rw[if_neg (by simp[n]),if_neg hz]
theorem Gx (e:f ρ=some (d,b))(k:h (setE ρ i d b)=r):a7 (aN i f) h ρ=r:=by simp[e];exact k
theorem Gy (e:f ρ=some (d,b))(n:be d=true)(k:h (ρ.set i (some (d,false)))=r):a7 (aN i f) h ρ=r:=Gx e (by rw[uy n];exact k)
theorem cy (e:f ρ=some (.lst ds,true))(n:bz ds=true)(k:h (ρ.set i (some (.lst ds,true)))=r):a7 (aN i f) h ρ=r:=Gx e (by rw[yR n];exact k)
theorem JR (e:f ρ=some (d,b))(n:be d=false)(m:b=false∨xM d=false)(k:h ((unown ρ).set i (some (d,false)))=r):a7 (aN i f) h ρ=r:=Gx e (by rw[JQ n m];exact k)
theorem dn (e:g ρ=some (.nx ρ'))(k:h ρ'=r):a7 g h ρ=r:=by unfold a7;rw[e];exact k
theorem Ub (e:g ρ=some (.rt d b)):a7 g h ρ=some (.rt d b):=by unfold a7;rw[e]
theorem Uc (e:g ρ=some (.ct ρ')):a7 g h ρ=some (.ct ρ'):=by unfold a7;rw[e]
theorem lw (e:c ρ=some true)(k:g ρ=r):eB c g g' ρ=r:=by unfold eB;rw[e];exact k
theorem jY (e:c ρ=some false)(k:g' ρ=r):eB c g g' ρ=r:=by unfold eB;rw[e];exact k
theorem QU (e:c ρ=some x)(kt:x=true->g ρ=r)(kf:x=false->g' ρ=r):eB c g g' ρ=r:=by
 cases x with
 |true=>exact lw e (kt rfl)
 |false=>exact jY e (kf rfl)
theorem b9 (e:c ρ=some true)(k:g ρ=some (.rt d b)):a7 (eB c g g') h ρ=some (.rt d b):=Ub (lw e k)
theorem a9 (e:c ρ=some false)(k:h ρ=r):a7 (eB c g bg) h ρ=r:=dn (jY e rfl) k
theorem ay (e:f ρ=some (d,b)):aR f ρ=some (.rt d b):=by simp[e]
theorem pL (e:ρ[i]? = some (some (d,b)))(hb:Li d=false:=by rfl):jS i ρ=some (.rt d b):=by simp only[jS,e,hb];simp
theorem mE (e:f ρ=some (d,b))(n:be d=true):aN i f ρ=some (.nx (ρ.set i (some (d,false)))):=by
 show(f ρ).map _=_;rw[e,Option.map_some,uy n]
theorem wR (e:f ρ=some (.lst ds,true))(n:bz ds=true):aN i f ρ=some (.nx (ρ.set i (some (.lst ds,true)))):=by
 show(f ρ).map _=_;rw[e,Option.map_some,yR n]
theorem jH (e:ρ[i]? = some (some (.lst ds,true)))(ef:f ρ=some (d,b))(n:be d=true)(l:ds.length<sizeLine):iT i f ρ=some (.nx (ρ.set i (some (.lst (ds++[d]),true)))):=by
 simp[e,ef,n,l]
theorem Ci (e:ρ[i]? = some (some (.lst ds,true)))(ef:f ρ=some (d,b))(n:be d=true)(l:ds.length<sizeLine)(k:h (ρ.set i (some (.lst (ds++[d]),true)))=r):a7 (iT i f) h ρ=r:=dn (jH e ef n l) k
theorem kG (e:fi ρ=some ds)(k:iU tg g ds ρ=some (.nx ρ')):l7 fi tg g ρ=some (.nx ρ'):=by unfold l7;rw[e];exact k
theorem mF (e:fi (mr ρ)=some ds)(k:iU tg g ds ρ=some (.nx ρ')):sQ fi tg g ρ=some (.nx ρ'):=by unfold sQ;rw[e];exact k
theorem jv {f:FE}{j:Nat}(e:f ρ=some (.int j,b))(hj:j<=1000):gH f ρ=some (fY 0 j):=by
 unfold gH;rw[e];simp only[];rw[if_pos (by omega)];simp
theorem Oc (e:f ρ=some (.bl x,b)):bd f ρ=some x:=by unfold bd;rw[e]
theorem Cj (e:fa ρ=some ds)(k:F ds=x):fA F fa ρ=x:=by unfold fA;rw[e,vJ];exact k
theorem yS {f1 g1:D->D->OB}{fa fb fc:FE}{x y z:D}{b1 b2 b3 b4 p q:Bool}(ea:fa ρ=some (x,b1))(eb:fb ρ=some (y,b2))(ec:fc ρ=some (z,b3))(e1:f1 x y=some (.bl p,b4))(e2:p=true->g1 y z=some (.bl q,false)):nJ f1 g1 fa fb fc ρ=some (.bl (p && q),false):=by
 unfold nJ;rw[ea,eb,ec];simp only[vJ,e1];cases p
 ·rfl
 ·exact e2 rfl
theorem dC {f1 f2:FE}{p q b1:Bool}(e1:f1 ρ=some (.bl p,b1))(e2:p=true->f2 ρ=some (.bl q,false)):jA f1 f2 ρ=some (.bl (p && q),false):=by
 unfold jA;rw[e1];cases p
 ·rfl
 ·exact e2 rfl
theorem qS {f1 f2:FE}{p q b1:Bool}(e1:f1 ρ=some (.bl p,b1))(e2:p=false->f2 ρ=some (.bl q,false)):Nk f1 f2 ρ=some (.bl (p || q),false):=by
 unfold Nk;rw[e1];cases p
 ·exact e2 rfl
 ·rfl
theorem JU {f1:FE}{p b1:Bool}(e1:f1 ρ=some (.bl p,b1)):Ar f1 ρ=some (.bl (!p),false):=by
 unfold Ar;rw[e1]
theorem aE (e1:f ρ=some (d,b))(e2:fr ρ=some xs):af f fr ρ=some (d::xs):=by
 unfold af;rw[e1,vJ,e2,vJ]
theorem gS (e1:fa ρ=some (x,b1))(e2:fb ρ=some (y,b2))(e3:op x y=z):f2 op fa fb ρ=z:=by
 unfold f2;rw[e1,vJ,e2,vJ];exact e3
theorem fG (e1:c1 ρ=some p)(e2:p=true->c2 ρ=some q):fu c1 c2 ρ=some (p && q):=by
 unfold fu;rw[e1];cases p
 ·rfl
 ·exact e2 rfl
theorem c7 (e1:c1 ρ=some p)(e2:p=false->c2 ρ=some q):gQ c1 c2 ρ=some (p || q):=by
 unfold gQ;rw[e1];cases p
 ·exact e2 rfl
 ·rfl
theorem bZ (e1:c1 ρ=some p):eI c1 ρ=some (!p):=by
 unfold eI;rw[e1];rfl
end
theorem Sx (a c:Nat):decide ([a]<[c])=decide (a<c):=by
 congr 1;rw[List.cons_lt_cons_iff];simp
@[simp] theorem Sy (a c:Nat):BB (.str ⟨#[a]⟩) (.str ⟨#[c]⟩)=some (.bl (decide (a<=c)),false):=by
 unfold BB;show some (D.bl (!decide ([c]<[a])),false)=_;rw[Sx];congr 3;by_cases h:c<a
 ·rw[decide_eq_true h,decide_eq_false (by omega)];rfl
 ·rw[decide_eq_false h,decide_eq_true (by omega)];rfl
theorem bE (h:n<=100000):n<sizeLine:=Nat.lt_of_le_of_lt h (by decide)
theorem dN (h:n<=100000):n<=sizeLine:=Nat.le_of_lt (bE h)
theorem gN {α:Type}(l:List α)(g:α->D)(p:α->Bool)(h:α->D)(e:fi ρ=some (l.map g))(hl:l.length<=100000)
  (k:∀x∈l,∃ρ1,tg (g x) (dL nT cap ρ)=some ρ1/\c ρ1=some (p x)/\(p x=true->∃b,fe ρ1=some (h x,b))):bR fi nT cap tg c fe ρ=some (.lst ((l.filter p).map h),true):=by
 have key:∀l':List α,(∀x∈l',x∈l)->gL tg c fe (dL nT cap ρ) (l'.map g)=some ((l'.filter p).map h):=by
  intro l';induction l' with
  |nil=>intro _;simp
  |cons x l' ih=>
   intro hm;obtain⟨ρ1,h1,h2,h3⟩:=k x (hm x mX);have ih:=ih λy hy=>hm y (mZ _ hy);rw[uY,Ap,h1,vJ,h2,vJ];cases hp:p x with
   |false=>simp[hp,ih]
   |true=>
    obtain⟨b,h4⟩:=h3 hp;simp[hp,ih,h4]
 unfold bR;rw[e,vJ,if_pos (dN (by simpa using hl)),key l λ_ h=>h,Option.map_some]
theorem oK {α:Type}(l:List α)(g:α->D)(h:α->D)(e:fi ρ=some (l.map g))(hl:l.length<=100000)
  (k:∀x∈l,∃ρ1,tg (g x) (dL nT cap ρ)=some ρ1/\∃b,fe ρ1=some (h x,b)):bR fi nT cap tg hW fe ρ=some (.lst (l.map h),true):=by
 have:=gN (c:=hW) (fe:=fe) l g (λ_=>true) h e hl λx hx=>by
  obtain⟨ρ1,h1,h2⟩:=k x hx;exact⟨ρ1,h1,rfl,λ_=>h2⟩
 rw[List.filter_eq_self.mpr λ_ _=>rfl]at this;exact this
@[simp] theorem qT {α:Type}(f:α->Bool)(l:List α):qj (l.map λx=>.bl (f x))=some (l.map f):=by
 induction l with
 |nil=>rfl
 |cons x l ih=>simp[ih]
theorem Aj (h0:0<=i)(h:i.toNat<z.cps.size)(hz:z.length<=100000):bC (.str z) (.int i)=some (.str ⟨#[z.cps.toList.getD i.toNat 0]⟩,false):=by
 have hh:i.toNat<z.cps.toList.length:=by simpa using h
 simp only[bC];rw[if_pos (dN hz),wQ h0 hh];simp[List.getD,h]
theorem AS (h0:0<=i)(h:i.toNat<ds.length):bC (.lst ds) (.int i)=some (ds.getD i.toNat .non,false):=by
 simp only[bC];rw[wQ h0 h];simp[List.getD,h]
theorem vy (h0:0<=i)(h:i.toNat<ds.length):bC (.tup ds) (.int i)=some (ds.getD i.toNat .non,false):=by
 simp only[bC];rw[wQ h0 h];simp[List.getD,h]
theorem wS {xs:List Int}{i:Int}(h0:0<=i)(h:i.toNat<xs.length):bC (.lst (xs.map .int)) (.int i)=some (.int (xs.getD i.toNat 0),false):=by
 rw[AS h0 (by simpa using h)];simp[List.getD,h]
theorem mod_lt {x m:Int}(hm:0<m):0<=x % m/\x % m<m:=⟨Int.emod_nonneg _ (by omega),Int.emod_lt_of_pos _ hm⟩
theorem JV:gp [.lst ds]=some (.int ds.length,false):=rfl
theorem wT:dz (.int i) (.int j)=some (.bl (decide (i=j)),false):=by simp
theorem Od:oC (.bl i) (.bl j)=some (.bl (!(i == j)),false):=by simp
theorem bv (x y:D)(e1:fa ρ=some (x,false))(e2:fb ρ=some (y,false))(e3:op x y=z):f2 op fa fb ρ=z:=gS e1 e2 e3
theorem cN (e:f ρ=some (.bl x,false)):bd f ρ=some x:=Oc e
theorem cn (e1:f ρ=some (d,false))(e2:fr ρ=some xs):af f fr ρ=some (d::xs):=aE e1 e2
theorem aJ (ds:List D)(e:fa ρ=some ds)(k:F ds=x):fA F fa ρ=x:=Cj e k
theorem fP (d:D)(e:f ρ=some (d,false))(n:be d=true)(k:h (ρ.set i (some (d,false)))=r):a7 (aN i f) h ρ=r:=Gy e n k
@[simp] noncomputable abbrev rkE (ab:List D)(aa:Int)(t:Env):Env:=some (.tup ab,false)::some (.int aa,false)::t
@[simp] noncomputable abbrev eR (ns:List Int)(zs:List Str)(ms:Int)(dm:List Str)(R:List D)(a b:OB)(t:Env):Env:=some (.lst (ns.map .int),false)::some (.lst (zs.map .str),false)::some (.int ms,false)::a::some (.lst (dm.map .str),true)::some (.lst R,true)::b::t
end DL
namespace Lw
open PySem DL
noncomputable def yT:D:=(.tup [(.str "paper"),(.str "like"),(.str "copy")])
noncomputable def gT:List (PySem.Str×D):=[(("root" : Str),(.tup [(.str "office"),(.str "matters"),(.str "further"),(.str "rule")])),(("named" : Str),(.tup [(.str "day"),(.str "office"),(.str "person")])),(("chosen" : Str),(.tup [(.str "day"),(.str "by"),(.str "office"),(.str "person"),(.str "since")])),(("heir" : Str),(.tup [(.str "day"),(.str "by"),(.str "office"),(.str "person")])),(("death" : Str),(.tup [(.str "day"),(.str "person")])),(("lost" : Str),(.tup [(.str "day"),(.str "person")])),(("found" : Str),(.tup [(.str "day"),(.str "person")])),(("leave" : Str),(.tup [(.str "day"),(.str "by"),(.str "person"),(.str "matters"),(.str "stretch"),(.str "further")])),(("paper" : Str),(.tup [(.str "day"),(.str "by"),(.str "matters"),(.str "stretch"),(.str "whom"),(.str "pieces")])),(("like" : Str),(.tup [(.str "day"),(.str "by"),(.str "matters"),(.str "stretch"),(.str "whom"),(.str "of"),(.str "changes")])),(("copy" : Str),(.tup [(.str "day"),(.str "by"),(.str "of")])),(("call" : Str),(.tup [(.str "day"),(.str "by"),(.str "of")]))]
noncomputable def im:D:=(.tup [(.str "chosen"),(.str "heir"),(.str "leave"),(.str "paper"),(.str "like"),(.str "copy"),(.str "call")])
def uz:FS :=
  (aR (f2 bC (cW 0 1) (fI 0)))
def aL:=aM uz 1 0
def u0:FS :=
  (aR (f2 bC (cW 0 1) (f2 bY (fI 1) (f2 (p6 gT) (fA aL (fV 0 ai)) (aj 1)))))
def au:=aM u0 2 0
def yU:FS :=
  (a7 (eB (bd (f2 dz (fA aL (fV 0 ai)) (fS "root"))) (aR (fC .non)) bg)
  (aR (fA au (fV 0 (af (fS "day") ai)))))
def aP:=aM yU 1 0
def Ck:FS :=
  (aR (bR (F8 (aj 0)) 2 [1] (Pa [0,1]) (bd (f2 BB (cW 1 0) (aj 2))) (aj 0)))
def cF:=aM Ck 2 0
def Gz:FS :=
  (aR (fA aY (af (fA aP (af (f2 bC (aj 0) (aj 1)) ai)) (fV 1 ai))))
def eX:=aM Gz 2 0
def qU:FS :=
  (a7 (aN 2 (bR (cw (fA cF (fV 0 (fV 1 ai)))) 1 [0] (dD 0) (bd (f2 kq (fA aP (af (f2 bC (aj 1) (aj 0)) ai)) (fC .non))) (aj 0)))
  (aR (qC (aj 2) (qA [0] (fA eX (fV 1 (fV 0 ai)))))))
def dO:=aM qU 2 1
def oM:FS :=
  (aR (fA aY (af (cW 0 0) (af (cW 0 2) (af (cW 0 4) ai)))))
def g7:=aM oM 1 0
def Cm:FS :=
  (a7 (aN 2 (bR (cw (fA cF (fV 0 (fV 1 ai)))) 1 [0] (dD 0) hW (f2 bC (aj 1) (aj 0))))
  (aR (fA jG (af (bR (cw (aj 2)) 1 [] (dD 0) (bd (f2 dz (fA aL (fV 0 ai)) (fS "root"))) (fA aY (af (fA au (fV 0 (af (fS "office") ai))) (fV 0 ai)))) ai))))
def gn:=aM Cm 2 1
def qV:FS :=
  (aR (jA (nJ BB N6 (fI 0) (aj 2) (fA gp (fV 0 ai))) (f2 BB (f2 bC (f2 bC (aj 0) (aj 2)) (fI 0)) (aj 1))))
def cC:=aM qV 3 0
def Cn:FS :=
  (aR (jA (f2 Az (fA aL (fV 0 ai)) (aj 1)) (jA (f2 dz (fA au (fV 0 (af (fS "person") ai))) (aj 2)) (f2 BB (fA aP (fV 0 ai)) (aj 3)))))
def pM:=aM Cn 4 0
def u5:FS :=
  (aR (bR (cw (fA cF (fV 0 (fV 1 ai)))) 1 [2,3,4,0] (dD 0) (bd (fA pM (af (f2 bC (aj 4) (aj 0)) (fV 1 (fV 2 (fV 3 ai)))))) (aj 0)))
def hU:=aM u5 5 0
def Co:FS :=
  (aR (f2 dz (fA gp (af (fA hU (fV 0 (fV 1 (af (fA aY (af (fS "death") ai)) (fV 2 (fV 3 ai)))))) ai)) (fI 0)))
def mG:=aM Co 4 0
def qW:FS :=
  (a7 (aN 4 (fA hU (fV 0 (fV 1 (af (fA aY (af (fS "lost") (af (fS "found") ai))) (fV 2 (fV 3 ai)))))))
  (a7 (eB (bd (f2 dz (fA gp (fV 4 ai)) (fI 0))) (aR (fC (.bl true))) bg)
  (aR (f2 dz (fA aL (af (f2 bC (aj 0) (um (aj 4) (qA [0] (fA eX (fV 1 (fV 0 ai)))))) ai)) (fS "found")))))
def lQ:=aM qW 4 1
def qX:FS :=
  (a7 (eB (gQ (eI (bd (fA cC (fV 0 (fV 1 (fV 2 ai)))))) (bd (f2 eS (fA aL (af (f2 bC (aj 0) (aj 2)) ai)) (fC im)))) (aR (fC (.bl false))) bg)
  (a7 (aN 3 (fA au (af (f2 bC (aj 0) (aj 2)) (af (fS "by") ai))))
  (a7 (aN 4 (fA aP (af (f2 bC (aj 0) (aj 2)) ai)))
  (aR (jA (fA mG (fV 0 (fV 1 (fV 3 (fV 4 ai))))) (fA lQ (fV 0 (fV 1 (fV 3 (fV 4 ai))))))))))
def gb:=aM qX 3 2
def u6:FS :=
  (aR (jA (f2 BB (cW 1 0) (aj 0)) (Nk (f2 E3 (cW 1 1) (fC .non)) (f2 N6 (aj 0) (cW 1 1)))))
def jw:=aM u6 2 0
def qY:FS :=
  (aR (fA jw (fV 1 (af (fA aY (af (cW 0 2) (af (cW 0 3) ai))) ai))))
def cP:=aM qY 2 0
def qZ:FS :=
  (aR (fA aY (af (cW 0 2) (af (cW 0 4) ai))))
def du:=aM qZ 1 0
def ra:FS :=
  (a7 (eB (bd (f2 dz (aj 1) (fS "last"))) (aR (f2 bC (um (aj 0) (sX du)) (fI 1))) bg)
  (aR (f2 bC (uo (aj 0) (sX du)) (fI 1))))
def lR:=aM ra 2 0
def oN:FS :=
  (a7 (aN 3 (bR (cw (aj 0)) 1 [2,1] (dD 0) (fu (bd (f2 dz (cW 0 0) (fA au (fV 2 (af (fS "office") ai))))) (bd (fA cP (fV 0 (fV 1 ai))))) (aj 0)))
  (a7 (aN 4 (f1 gz (bR (cw (aj 3)) 1 [] (dD 0) hW (cW 0 1))))
  (a7 (eB (bd (f2 dz (fA gp (fV 4 ai)) (fI 0))) (aR (fA aY (af (fS "none") ai))) bg)
  (a7 (eB (fu (bd (f2 HR (fA gp (fV 4 ai)) (fI 1))) (bd (f2 dz (fA au (fV 1 (af (fS "rule") ai))) (fS "open")))) (aR (fA aY (af (fS "parted") (fV 4 ai)))) bg)
  (a7 (aN 5 (fA lR (fV 3 (af (fA au (fV 1 (af (fS "rule") ai))) ai))))
  (a7 (aN 6 (uo (bR (cw (aj 3)) 1 [5] (dD 0) (bd (f2 dz (cW 0 1) (aj 1))) (aj 0)) (sX du)))
  (aR (fA aY (af (fS "one") (fV 5 (af (cW 6 4) ai)))))))))))
def dP:=aM oN 3 4
def mH:FS :=
  (aR (f2 dz (Sq (fA dP (fV 0 (fV 1 (fV 3 ai)))) Fm (B8 (fI 2))) (fA aY (af (fS "one") (fV 2 ai)))))
def cL:=aM mH 4 0
def jx:FS :=
  (a7 (aN 3 (f2 bC (aj 0) (aj 2)))
  (a7 (aN 4 (fA hU (fV 0 (fV 1 (af (fA aY (af (fS "death") ai)) (af (fA au (fV 3 (af (fS "person") ai))) (af (fA aP (fV 3 ai)) ai)))))))
  (aR (f2 dz (uo (aj 4) (qA [0] (fA eX (fV 1 (fV 0 ai))))) (aj 2)))))
def gd:=aM jx 3 2
def yV:FS :=
  (a7 (aN 4 (f2 bC (aj 0) (aj 3)))
  (a7 (eB (bd (f2 dz (fA aL (fV 4 ai)) (fS "death"))) (aR (fA gd (fV 0 (fV 1 (fV 3 ai))))) bg)
  (a7 (eB (bd (f2 eS (fA aL (fV 4 ai)) (fA aY (af (fS "named") (af (fS "chosen") (af (fS "heir") ai)))))) (aR (fC (.bl false))) bg)
  (a7 (aN 5 (f2 FZ (fA gn (fV 0 (fV 1 ai))) (fA au (fV 4 (af (fS "office") ai)))))
  (a7 (eB (bd (f2 E3 (aj 5) (fC .non))) (aR (fC (.bl false))) bg)
  (a7 (eB (bd (f2 dz (fA aL (fV 4 ai)) (fS "named"))) (aR (fC (.bl true))) bg)
  (aR (jA (fA gb (fV 0 (fV 1 (fV 3 ai)))) (fA cL (fV 2 (fV 5 (af (fA au (fV 4 (af (fS "by") ai))) (af (fA aP (fV 4 ai)) ai)))))))))))))
def mI:=aM yV 4 2
def oP:FS :=
  (aR (fA aY (af (fA au (fV 0 (af (fS "office") ai))) (af (fA au (fV 0 (af (fS "person") ai))) (fV 1 (af (fC .non) (fV 2 ai)))))))
def g8:=aM oP 3 0
def rb:FS :=
  (eB (gQ (bd (f2 eS (cW 5 0) (aj 1))) (gQ (bd (f2 oC (cW 5 1) (aj 2))) (eI (gQ (bd (fA cP (fV 5 (fV 3 ai)))) (bd (f2 HR (cW 5 2) (aj 3))))))) (iT 4 (aj 5)) (eB (bd (f2 N6 (cW 5 2) (aj 3))) (iT 4 (fA aY (af (cW 5 0) (fV 2 (af (cW 5 2) (fV 3 (af (cW 5 4) ai))))))) bg))
def Cp:FS :=
  (a7 (aN 4 (fA bF ai))
  (a7 (sQ (cw (aj 0)) (dD 5) rb)
  (jS 4)))
def pN:=aM Cp 4 2
def kH:FS :=
  (a7 (aN 3 (fA au (fV 1 (af (fS "since") ai))))
  (a7 (aN 4 (fA pN (fV 0 (af (fA bF (af (fA au (fV 1 (af (fS "office") ai))) ai)) (af (fA au (fV 1 (af (fS "by") ai))) (fV 3 ai))))))
  (aR (f2 bY (aj 4) (fA bF (af (fA g8 (fV 1 (fV 3 (fV 2 ai)))) ai))))))
def io:=aM kH 3 2
def gU:FS :=
  (a7 (aN 9 (Gi (aj 3) (fV 8 (fV 5 ai))))
  (eB (fu (bd (f2 kq (aj 9) (fC .non))) (bd (fA mG (fV 0 (fV 1 (fV 9 (fV 6 ai))))))) (iT 7 (fA aY (fV 8 (fV 9 (fV 6 (af (fC .non) (fV 4 ai))))))) bg))
def oQ:FS :=
  (a7 (aN 5 (fA au (af (f2 bC (aj 0) (aj 4)) (af (fS "person") ai))))
  (a7 (aN 6 (fA aP (af (f2 bC (aj 0) (aj 4)) ai)))
  (a7 (aN 7 (fA bF ai))
  (a7 (TM [5,6] (sQ (cw (f1 gz (bR (cw (aj 2)) 1 [5,6] (dD 0) (fu (bd (f2 dz (cW 0 1) (aj 1))) (bd (fA cP (fV 0 (fV 2 ai))))) (cW 0 0)))) (dD 8) gU))
  (jS 7)))))
def kI:=aM oQ 5 5
def lD:FS :=
  (a7 (aN 5 (bR (cw (aj 2)) 1 [] (dD 0) hW (cW 0 0)))
  (a7 (aN 6 (fA pN (fV 2 (fV 5 (af (fA au (af (f2 bC (aj 0) (aj 4)) (af (fS "person") ai))) (af (fA aP (af (f2 bC (aj 0) (aj 4)) ai)) ai))))))
  (aR (f2 bY (aj 6) (fA kI (fV 0 (fV 1 (fV 2 (fV 3 (fV 4 ai))))))))))
def jd:=aM lD 5 2
def lf:FS :=
  (a7 (aN 5 (f2 bC (aj 0) (aj 4)))
  (a7 (eB (eI (bd (fA mI (fV 0 (fV 1 (fV 2 (fV 4 ai))))))) LC bg)
  (eB (bd (f2 dz (fA aL (fV 5 ai)) (fS "named"))) (aN 2 (f2 bY (aj 2) (fA bF (af (fA g8 (fV 5 (af (fA aP (fV 5 ai)) (fV 4 ai)))) ai)))) (eB (bd (f2 dz (fA aL (fV 5 ai)) (fS "chosen"))) (aN 2 (fA io (fV 2 (fV 5 (fV 4 ai))))) (eB (bd (f2 dz (fA aL (fV 5 ai)) (fS "heir"))) (uu 3 (af (fA au (fV 5 (af (fS "office") ai))) (af (fA au (fV 5 (af (fS "by") ai))) ai)) (fA au (fV 5 (af (fS "person") ai)))) (aN 2 (fA jd (fV 0 (fV 1 (fV 2 (fV 3 (fV 4 ai))))))))))))
def yW:FS :=
  (a7 (aN 2 (fA bF ai))
  (a7 (Gc 3)
  (a7 (sQ (cw (fA dO (fV 0 (fV 1 ai)))) (dD 4) lf)
  (aR (qC (aj 2) (sX g7))))))
def mJ:=aM yW 2 4
def re:FS :=
  (aR (jA (fA cC (fV 0 (fV 1 (fV 2 ai)))) (f2 Az (fA aL (af (f2 bC (aj 0) (aj 2)) ai)) (fC yT))))
def eY:=aM re 3 0
def rf:FS :=
  (aR (jA (fA cC (fV 0 (fV 1 (fV 2 ai)))) (f2 dz (fA aL (af (f2 bC (aj 0) (aj 2)) ai)) (fS "leave"))))
def ge:=aM rf 3 0
def rg:FS :=
  (aR (Nk (fA ge (fV 0 (fV 1 (fV 2 ai)))) (fA eY (fV 0 (fV 1 (fV 2 ai))))))
def dQ:=aM rg 3 0
def rh:FS :=
  (aR (f2 dz (f2 Qv (aj 0) (aj 1)) (aj 1)))
def iq:=aM rh 2 0
def oR:FS :=
  (a7 (eB (eI (bd (fA iq (af (fA au (fV 1 (af (fS "matters") ai))) (af (fA au (fV 0 (af (fS "matters") ai))) ai))))) (aR (fS "matters")) bg)
  (a7 (eB (fu (bd (f2 dz (fA aL (fV 0 ai)) (fS "leave"))) (bd (f2 T9 (fA au (fV 0 (af (fS "further") ai))) (fA au (fV 1 (af (fS "further") ai)))))) (aR (fS "further")) bg)
  (aR (fC .non))))
def iM:=aM oR 2 0
def mK:FS :=
  (a7 (eB (eI (bd (fA cL (fV 0 (fV 2 (af (fA au (fV 1 (af (fS "by") ai))) (af (fA aP (fV 1 ai)) ai))))))) (aR (fS "holder")) bg)
  (aR (fA iM (fV 1 (fV 2 ai)))))
def gV:=aM mK 3 0
def kJ:FS :=
  (a7 (aN 4 (f2 bC (aj 0) (aj 3)))
  (a7 (aN 5 (bR (qN (fA gn (fV 0 (fV 1 ai)))) 1 [2,4] (dD 0) (bd (f2 E3 (fA gV (fV 1 (fV 2 (fV 0 ai)))) (fC .non))) (aj 0)))
  (aR (bR (cw (aj 5)) 1 [2,4] (dD 0) hW (fA aY (af (fS "office") (af (fA au (fV 0 (af (fS "office") ai))) (af (f2 bC (fA dP (fV 1 (fV 0 (af (fA aP (fV 2 ai)) ai)))) (fI 2)) ai))))))))
def ir:=aM kJ 4 2
def lE:FS :=
  (a7 (eB (bd (f2 E3 (aj 1) (fC .non))) (aR (fC (.bl true))) bg)
  (aR (jA (f2 kq (aj 0) (fC .non)) (f2 BB (aj 0) (aj 1)))))
def je:=aM lE 2 0
def oS:FS :=
  (aR (jA (f2 BB (cW 1 0) (cW 0 0)) (fA je (af (cW 0 1) (af (cW 1 1) ai)))))
def iN:=aM oS 2 0
def rj:FS :=
  (aR (f2 Mt (fA eX (fV 0 (fV 1 ai))) (fA eX (fV 0 (fV 2 ai)))))
def gf:=aM rj 3 0
def oU:FS :=
  (a7 (aN 3 (f2 bC (aj 0) (aj 1)))
  (a7 (aN 4 (fA au (af (f2 bC (aj 0) (aj 2)) (af (fS "stretch") ai))))
  (a7 (eB (eI (bd (fA gf (fV 0 (fV 2 (fV 1 ai)))))) (aR (fS "order")) bg)
  (a7 (eB (gQ (eI (bd (fA jw (af (fA aP (fV 3 ai)) (fV 4 ai))))) (eI (bd (fA iN (af (fA au (fV 3 (af (fS "stretch") ai))) (fV 4 ai)))))) (aR (fS "days")) bg)
  (aR (fA iM (fV 3 (af (f2 bC (aj 0) (aj 2)) ai))))))))
def iO:=aM oU 3 2
def oV:FS :=
  (a7 (aN 3 (bR (cw (fA cF (fV 0 (fV 1 ai)))) 1 [0,1] (dD 0) (bd (fA ge (fV 1 (fV 2 (fV 0 ai))))) (aj 0)))
  (aR (bR (cw (aj 3)) 1 [2,0] (dD 0) (bd (f2 dz (fA au (af (f2 bC (aj 2) (aj 0)) (af (fS "person") ai))) (aj 1))) (aj 0))))
def kK:=aM oV 3 1
def lF:FS :=
  (a7 (aN 3 (fA kK (fV 0 (fV 1 (af (fA au (af (f2 bC (aj 0) (aj 2)) (af (fS "by") ai))) ai)))))
  (aR (bR (cw (aj 3)) 1 [0,2] (dD 0) (bd (f2 E3 (fA iO (fV 1 (fV 2 (fV 0 ai)))) (fC .non))) (fA aY (af (fS "leave") (fV 0 ai))))))
def jf:=aM lF 3 1
def mL:FS :=
  (a7 (aN 3 (fA au (af (f2 bC (aj 0) (aj 2)) (af (fS "of") ai))))
  (a7 (eB (fu (bd (fA eY (fV 0 (fV 1 (fV 3 ai))))) (bd (fA gf (fV 0 (fV 3 (fV 2 ai)))))) (aR (fA bF (af (fA aY (af (fS "copy") (fV 3 ai))) ai))) bg)
  (aR (fA bF ai))))
def jI:=aM mL 3 1
def rm:FS :=
  (a7 (eB (eI (bd (fA dQ (fV 0 (fV 1 (fV 3 ai)))))) (aR (fA bF ai)) bg)
  (a7 (eB (bd (f2 dz (fA aL (af (f2 bC (aj 0) (aj 3)) ai)) (fS "copy"))) (aR (fA jI (fV 0 (fV 1 (fV 3 ai))))) bg)
  (a7 (aN 4 (f2 bY (fA ir (fV 0 (fV 1 (fV 2 (fV 3 ai))))) (fA jf (fV 0 (fV 1 (fV 3 ai))))))
  (aR (AM (aj 4) (qA [] (fA aY (af (f2 bC (aj 0) (f1 lK (fI 1))) (fV 0 ai)))))))))
def dR:=aM rm 4 1
def rq:FS :=
  (a7 (aN 5 (f2 bC (aj 0) (aj 4)))
  (a7 (aN 6 (fA au (af (f2 bC (aj 0) (aj 3)) (af (fS "by") ai))))
  (a7 (eB (bd (f2 dz (aj 6) (fA au (fV 5 (af (fS "by") ai))))) (aR (fC (.bl true))) bg)
  (a7 (eB (bd (f2 dz (fA aL (fV 5 ai)) (fS "copy"))) (aR (fC (.bl false))) bg)
  (a7 (aN 7 (bR (qN (fA gn (fV 0 (fV 1 ai)))) 1 [5] (dD 0) (bd (fA iq (af (fA au (fV 0 (af (fS "matters") ai))) (af (fA au (fV 1 (af (fS "matters") ai))) ai)))) (aj 0)))
  (aR (fA Fx (af (bR (cw (aj 7)) 1 [2,6,0,3] (dD 0) hW (fA cL (fV 1 (fV 0 (fV 2 (af (fA aP (af (f2 bC (aj 3) (aj 4)) ai)) ai)))))) ai))))))))
def lS:=aM rq 5 3
def rz:FS :=
  (a7 (aN 6 (f2 bC (aj 0) (aj 3)))
  (a7 (eB (gQ (bd (f2 oC (fA aL (fV 6 ai)) (fS "call"))) (gQ (bd (f2 oC (fA au (fV 6 (af (fS "of") ai))) (aj 4))) (bd (f2 HR (fA aP (fV 6 ai)) (aj 5))))) (aR (fC (.bl false))) bg)
  (aR (jA (fA gb (fV 0 (fV 1 (fV 3 ai)))) (fA lS (fV 0 (fV 1 (fV 2 (fV 3 (fV 4 ai))))))))))
def jJ:=aM rz 6 1
def r0:FS :=
  (a7 (eB (eI (bd (fA dQ (fV 0 (fV 1 (fV 3 ai)))))) (aR (fA bF ai)) bg)
  (aR (bR (cw (fA cF (fV 0 (fV 1 ai)))) 1 [0,1,2,3,4] (dD 0) (bd (fA jJ (fV 1 (fV 2 (fV 3 (fV 0 (fV 4 (fV 5 ai)))))))) (aj 0))))
def lU:=aM r0 5 0
def yX:FS :=
  (a7 (eB (gQ (eI (bd (fA gb (fV 0 (fV 1 (fV 3 ai)))))) (bd (f2 HR (fA aP (af (f2 bC (aj 0) (aj 3)) ai)) (aj 4)))) (aR (fC (.bl false))) bg)
  (aR (f2 dz (fA gp (af (fA lU (fV 0 (fV 1 (fV 2 (fV 3 (fV 4 ai)))))) ai)) (fI 0))))
def mM:=aM yX 5 0
def yY:FS :=
  (eB (fu (bd (fA dQ (fV 0 (fV 1 (fV 5 ai))))) (bd (fA mM (fV 0 (fV 1 (fV 3 (fV 5 (fV 2 ai)))))))) (qP 4 (aj 5) (fA dR (fV 0 (fV 1 (fV 3 (fV 5 ai)))))) bg)
def Cq:FS :=
  (a7 (xN 3 (fA mJ (fV 0 (fV 1 ai))))
  (a7 (BZ 4)
  (a7 (sQ (cw (fA dO (fV 0 (fV 1 ai)))) (dD 5) yY)
  (jS 4))))
def mN:=aM Cq 3 3
def Cr:FS :=
  (aR (Nk (f2 dz (cW 0 0) (fS "office")) (f2 Sv (cW 0 1) (aj 1))))
def jK:=aM Cr 2 0
def yZ:FS :=
  (eB (bd (fA Fx (af (bR (cw (aj 3)) 1 [1] (dD 0) hW (fA jK (fV 0 (fV 1 ai)))) ai))) (yJ 1 (aj 2) (fC (.bl true))) bg)
def Cs:FS :=
  (a7 (BZ 1)
  (a7 (sQ (Cf (aj 0)) (Pa [2,3]) yZ)
  (jS 1)))
def lg:=aM Cs 1 3
def r6:FS :=
  (aR (fA ju (af (fA lg (af (fA mN (fV 0 (fV 1 (fV 2 ai)))) ai)) ai)))
def lV:=aM r6 3 0
def kL:FS :=
  (aR (f2 bC (bR (cw (aj 0)) 1 [1] (dD 0) (bd (fA jK (fV 0 (fV 1 ai)))) (aj 0)) (fI 0)))
def da:=aM kL 2 0
def kM:FS :=
  (a7 (iT 6 (cW 7 1))
  (aN 7 (fA da (af (f2 NS (aj 4) (cW 7 1)) (fV 5 ai)))))
def Ct:FS :=
  (a7 (aN 4 (fA mN (fV 0 (fV 1 (fV 2 ai)))))
  (a7 (aN 5 (fA lg (fV 4 ai)))
  (a7 (eB (bd (f2 qG (aj 3) (aj 5))) (aR (fC .non)) bg)
  (a7 (aN 6 (fA bF (fV 3 ai)))
  (a7 (aN 7 (fA da (af (f2 NS (aj 4) (aj 3)) (fV 5 ai))))
  (a7 (fU (bd (f2 oC (cW 7 0) (fS "office"))) kM 1000)
  (a7 (iT 6 (cW 7 2))
  (aR (f1 JN (aj 6))))))))))
def mO:=aM Ct 4 4
def za:FS :=
  (a7 (aN 2 (fI 5))
  (a7 (eB (bd (f2 HR (fA gp (fV 0 ai)) (fI 0))) (aN 2 (f2 bC (aj 0) (f2 bI (aj 1) (fA gp (fV 0 ai))))) bg)
  (a7 (aN 2 (f2 bI (f2 gs (f2 bY (f2 bY (f2 bI (aj 2) (fI 2147483629)) (f2 gs (fI 6151) (aj 1))) (fI 1)) (fI 48271)) (fI 2147483647)))
  (aR (f2 bI (f2 gs (aj 2) (f2 bY (f2 bY (f2 bI (aj 2) (fI 65519)) (aj 1)) (fI 2))) (fI 2147483629))))))
def dc:=aM za 2 1
def lW:FS :=
  (a7 (aN 6 (fA gR (fV 2 ai)))
  (a7 (D4 6 (aj 3) (f2 bC (aj 1) (f2 bI (f2 bY (f2 cU (aj 0) (fI 64)) (f2 gs (fI 3) (aj 5))) (fI 26))))
  (iT 4 (f2 oD (fS "") (aj 6)))))
def uA:FS :=
  (a7 (aN 1 (fS "abcdefghijklmnopqrstuvwxyz"))
  (a7 (aN 2 (bR (gH (f2 bY (fI 1) (f2 bI (aj 0) (fI 8)))) 1 [1,0] (dD 0) hW (f2 bC (aj 1) (f2 bI (f2 cU (aj 2) (f2 bY (fI 3) (f2 gs (fI 4) (aj 0)))) (fI 26)))))
  (a7 (aN 3 (f2 bI (f2 cU (aj 0) (fI 8)) (fA gp (fV 2 ai))))
  (a7 (aN 4 (fA bF ai))
  (a7 (l7 (gH (fI 7)) (dD 5) lW)
  (a7 (eB (bd (f2 dz (f2 bI (f2 cU (aj 0) (fI 1000)) (fI 8)) (fI 1))) (D4 4 (fI 5) (cW 4 0)) bg)
  (jS 4)))))))
def oe:=aM uA 1 6
def oW:FS :=
  (a7 (aN 3 (fA bF (af (fA aY (af (fI 0) (af (fC .non) ai))) (af (fA aY (fV 1 (af (fC .non) ai))) (af (fA aY (fV 1 (af (f2 bY (aj 1) (f2 gs (fI 3) (aj 2))) ai))) (af (fA aY (af (fI 0) (af (f2 bY (aj 1) (f2 gs (fI 2) (aj 2))) ai))) (af (fA aY (af (fI 0) (af (f2 gs (fI 9) (aj 2)) ai))) ai)))))))
  (a7 (aN 3 (f2 bY (aj 3) (fA bF (af (fA aY (af (f2 bY (aj 1) (aj 2)) (af (f2 bY (aj 1) (f2 gs (fI 4) (aj 2))) ai))) (af (fA aY (af (f2 cU (aj 1) (fI 2)) (af (f2 bY (aj 1) (f2 gs (fI 6) (aj 2))) ai))) (af (fA aY (af (fI 0) (af (fC .non) ai))) ai))))))
  (aR (f2 bC (aj 3) (f2 bI (aj 0) (fI 8))))))
def g9:=aM oW 3 1
def zc:FS :=
  (a7 (aN 7 (f2 bY (f2 bY (DG (fA bF (af (fS "leave") ai)) (fI 5)) (DG (fA bF (af (fS "paper") ai)) (fI 2))) (fA bF (af (fS "like") (af (fS "copy") (af (fS "copy") (af (fS "call") (af (fS "call") ai))))))))
  (a7 (aN 7 (f2 bY (aj 7) (fA bF (af (fS "named") (af (fS "death") (af (fS "lost") (af (fS "found") (af (fS "chosen") (af (fS "heir") ai)))))))))
  (a7 (aN 8 (f2 bC (aj 7) (f2 bI (aj 1) (fI 18))))
  (a7 (aN 9 (f2 bC (aj 5) (f2 nM (f1 lK (fI 1)) (f2 bI (f2 cU (aj 1) (fI 18)) (fA Jh (af (fI 3) (af (fA gp (fV 5 ai)) ai)))))))
  (a7 (eB (bd (f2 dz (f2 bI (f2 cU (aj 1) (fI 54)) (fI 6)) (fI 1))) (aN 9 (f2 bC (aj 3) (f2 bI (f2 cU (aj 1) (fI 324)) (fI 5)))) bg)
  (a7 (aN 10 (f2 bC (aj 3) (f2 bI (f2 cU (aj 1) (fI 1620)) (fI 5))))
  (a7 (aN 11 (fA Jg (af (fI 0) (af (f2 nM (f2 nM (aj 0) (fI 1)) (f2 bI (aj 2) (fI 4))) ai))))
  (a7 (eB (bd (f2 dz (f2 bI (f2 cU (aj 2) (fI 4)) (fI 8)) (fI 1))) (aN 11 (f2 bI (f2 cU (aj 2) (fI 32)) (fI 60))) bg)
  (a7 (eB (bd (f2 dz (aj 8) (fS "leave"))) (a7 (aN 12 (f2 bC (fA bF (af (fI 3) (af (fI 1) (af (fI 7) (af (fI 2) (af (fI 255) (af (fI 5) (af (fI 1) (af (fI 3) ai))))))))) (f2 bI (f2 cU (aj 1) (fI 8100)) (fI 8))))
  (a7 (aN 13 (f2 bI (f2 cU (aj 2) (fI 256)) (f2 bC (fA bF (af (fI 5) (af (fI 5) (af (fI 5) (af (fI 10) ai))))) (f2 bI (f2 cU (aj 2) (fI 2560)) (fI 4)))))
  (aR (fA aY (fV 8 (fV 4 (fV 9 (fV 10 (fV 12 (af (fA g9 (af (f2 cU (aj 2) (fI 32)) (fV 4 (fV 6 ai)))) (fV 13 ai))))))))))) bg)
  (a7 (eB (gQ (bd (f2 dz (aj 8) (fS "paper"))) (bd (f2 dz (aj 8) (fS "like")))) (a7 (aN 12 (f2 bC (fA bF (af (fI 1) (af (fI 1) (af (fI 3) (af (fI 2) (af (fI 4) (af (fI 5) (af (fI 128) (af (fI 7) ai))))))))) (f2 bI (f2 cU (aj 1) (fI 8100)) (fI 8))))
  (a7 (aN 14 (fA aY (fV 8 (fV 4 (fV 9 (fV 12 (af (fA g9 (af (f2 cU (aj 2) (fI 32)) (fV 4 (fV 6 ai)))) (af (f2 bC (fA bF (af (fC .non) (fV 10 ai))) (f2 bI (f2 cU (aj 2) (fI 256)) (fI 2))) ai))))))))
  (a7 (eB (bd (f2 dz (aj 8) (fS "like"))) (aR (f2 BW (aj 14) (fA aY (fV 11 (af (fA aY (af (fA aY (af (fI 0) (fV 10 ai))) ai)) ai))))) bg)
  (aR (f2 BW (aj 14) (fA aY (af (fA aY (fV 10 ai)) ai))))))) bg)
  (a7 (eB (bd (f2 Az (aj 8) (fA aY (af (fS "copy") (af (fS "call") ai))))) (aR (fA aY (fV 8 (fV 4 (fV 9 (fV 11 ai)))))) bg)
  (a7 (eB (bd (f2 dz (aj 8) (fS "named"))) (aR (fA aY (fV 8 (fV 4 (af (f2 bC (aj 3) (f2 bY (fI 5) (f2 bI (aj 2) (fI 2)))) (fV 10 ai)))))) bg)
  (a7 (eB (bd (f2 dz (aj 8) (fS "chosen"))) (aR (fA aY (fV 8 (fV 4 (fV 9 (af (f2 bC (aj 3) (f2 bY (fI 5) (f2 bI (aj 2) (fI 2)))) (fV 10 (af (f2 bY (aj 4) (f2 gs (f2 bI (f2 cU (aj 2) (fI 32)) (fI 3)) (aj 6))) ai)))))))) bg)
  (a7 (eB (bd (f2 dz (aj 8) (fS "heir"))) (aR (fA aY (fV 8 (fV 4 (fV 9 (af (f2 bC (aj 3) (f2 bY (fI 5) (f2 bI (aj 2) (fI 2)))) (fV 10 ai))))))) bg)
  (aR (fA aY (fV 8 (fV 4 (fV 9 ai)))))))))))))))))))
def rA:=aM zc 7 8
def oh:FS :=
  (a7 (aN 8 (f2 bC (fA bF (af (fS "open") (af (fS "first") (af (fS "last") ai)))) (f2 bI (f2 cU (aj 4) (f2 bY (fI 64) (f2 gs (fI 9) (aj 7)))) (fI 3))))
  (a7 (aN 9 (f2 bC (fA bF (af (fI 7) (af (fI 255) (af (fI 3) (af (fI 15) ai))))) (f2 bI (f2 cU (aj 4) (f2 bY (fI 2) (f2 gs (fI 8) (aj 7)))) (fI 4))))
  (a7 (aN 10 (f2 gs (f2 gs (fA A5 (af (f2 dz (f2 bI (f2 cU (aj 4) (f2 bY (fI 512) (aj 7))) (fI 8)) (fI 1)) ai)) (fI 4)) (aj 2)))
  (a7 (aN 11 (f2 bI (f2 cU (aj 4) (f2 bY (fI 1024) (f2 gs (fI 5) (aj 7)))) (f2 bC (fA bF (af (fI 5) (af (fI 5) (af (fI 10) ai)))) (f2 bI (f2 cU (aj 4) (f2 bY (fI 31) (aj 7))) (fI 3)))))
  (a7 (iT 5 (fA aY (fV 10 (af (fA aY (af (fS "root") (af (f2 bC (aj 1) (f2 bY (fI 5) (aj 7))) (fV 9 (fV 11 (fV 8 ai)))))) ai))))
  (a7 (iT 5 (fA aY (af (fI 0) (af (fA aY (af (fS "named") (af (fI 0) (af (f2 bC (aj 1) (f2 bY (fI 5) (aj 7))) (af (f2 bC (aj 1) (aj 7)) ai))))) ai))))
  (iT 6 (f2 bC (aj 1) (aj 7)))))))))
def oi:FS :=
  (a7 (aN 12 (fA dc (fV 0 (af (f2 bY (fI 5) (aj 7)) ai))))
  (a7 (aN 13 (f2 gs (f2 bY (f2 cU (aj 7) (fI 2)) (f2 bI (f2 cU (aj 12) (fI 7)) (fI 3))) (aj 2)))
  (a7 (aN 14 (fA rA (af (fA gp (fV 5 ai)) (af (fA dc (fV 0 (af (f2 bY (fI 30) (aj 7)) ai))) (af (fA dc (fV 0 (af (f2 bY (fI 60) (aj 7)) ai))) (fV 1 (fV 13 (fV 6 (fV 2 ai)))))))))
  (a7 (eB (bd (f2 Az (cW 14 0) (fA aY (af (fS "leave") (af (fS "named") ai))))) (iT 6 (cW 14 3)) bg)
  (a7 (eB (bd (f2 dz (cW 14 0) (fS "chosen"))) (iT 6 (cW 14 4)) bg)
  (iT 5 (fA aY (af (f2 bY (aj 13) (f2 gs (f2 bC (fA bF (af (fI 0) (af (fI 0) (af (fI 0) (af (fI 0) (af (fI 1) (af (fI 4) ai))))))) (f2 bI (f2 cU (aj 12) (fI 21)) (fI 6))) (aj 2))) (fV 14 ai)))))))))
def zd:FS :=
  (a7 (aN 4 (fA dc (fV 0 (af (fI 1) ai))))
  (a7 (aN 5 (fA bF ai))
  (a7 (aN 6 (fA bF ai))
  (a7 (l7 (gH (f2 bY (fI 1) (f2 bI (aj 4) (fI 2)))) (dD 7) oh)
  (a7 (l7 (gH (f2 bY (fI 3) (f2 bI (fA dc (fV 0 (af (fI 2) ai))) (aj 3)))) (dD 7) oi)
  (aR (fA gw (fV 5 ai))))))))
def rB:=aM zd 4 11
def Cu:FS :=
  (aR (fA dR (fV 0 (fV 1 (af (fA mJ (fV 0 (fV 1 ai))) (fV 2 ai))))))
def lh:=aM Cu 3 0
def rC:FS :=
  (a7 (aN 6 (bR (cw (fA lh (fV 0 (fV 1 (af (f2 bC (aj 4) (aj 5)) ai))))) 1 [2] (dD 0) (gQ (bd (f2 dz (cW 0 0) (fS "office"))) (bd (f2 Az (f2 bC (aj 0) (f1 lK (fI 1))) (aj 1)))) (aj 0)))
  (eB (gQ (bd (f2 dz (aj 6) (fA bF ai))) (gQ (bd (f2 oC (f2 bC (cW 6 0) (f1 lK (fI 1))) (f2 bC (aj 4) (f2 nM (aj 5) (fI 1))))) (bd (f2 oC (f2 dz (f2 bC (cW 6 0) (fI 0)) (fS "office")) (f2 dz (aj 5) (fI 1)))))) (aR (fC (.bl false))) bg))
def uB:FS :=
  (a7 (eB (gQ (eI (bd (fA c9 (fV 4 (af (fC (.ty "list")) ai))))) (gQ (bd (f2 N6 (fA gp (fV 4 ai)) (fI 2))) (bd (f2 oC (f2 bC (aj 4) (f1 lK (fI 1))) (aj 3))))) (aR (fC (.bl false))) bg)
  (a7 (eB (eI (bd (fA ND (af (bR (cw (aj 4)) 1 [] (dD 0) hW (jA (fA c9 (fV 0 (af (fC (.ty "int")) ai))) (Ar (fA c9 (fV 0 (af (fC (.ty "bool")) ai)))))) ai)))) (aR (fC (.bl false))) bg)
  (a7 (l7 (Cb (f2 nM (fA gp (fV 4 ai)) (fI 1)) (fI 0) (f1 lK (fI 1))) (dD 5) rC)
  (aR (fC (.bl true))))))
def oj:=aM uB 5 2
def G0:FS :=
  (a7 (aN 9 (fA mO (fV 5 (fV 4 (fV 6 (fV 8 ai))))))
  (eB (bd (f2 eS (aj 8) (aj 7))) (eB (bd (f2 kq (aj 9) (fC .non))) (aR (fC (.bl false))) bg) (eB (eI (bd (fA oj (fV 3 (fV 4 (fV 7 (fV 8 (fV 9 ai)))))))) (aR (fC (.bl false))) (a7 (aN 10 (fA gR (fV 9 ai)))
  (a7 (NK 9 λ_=>some [])
  (eB (bd (f2 oC (fA mO (fV 5 (fV 4 (fV 6 (fV 8 ai))))) (aj 10))) (aR (fC (.bl false))) bg))))))
def LI:FS :=
  (a7 (aN 1 (fA oe (af (fA dc (fV 0 (af (fI 0) ai))) ai)))
  (a7 (aN 2 (f2 bC (fA bF (af (fI 1) (af (fI 1) (af (fI 500) ai)))) (f2 bI (fA dc (fV 0 (af (fI 3) ai))) (fI 3))))
  (a7 (aN 3 (fA rB (fV 0 (fV 1 (fV 2 (af (fI 18) ai))))))
  (a7 (aN 4 (f2 bC (fA bF (af (fI 9999) (af (f2 gs (f2 bI (f2 cU (fA dc (fV 0 (af (fI 3) ai))) (fI 3)) (fI 13)) (aj 2)) ai))) (f2 cU (f2 bI (fA dc (fV 0 (af (fI 4) ai))) (fI 3)) (fI 2))))
  (a7 (aN 5 (fA gw (af (fA gR (fV 3 ai)) ai)))
  (a7 (aN 6 (f2 bC (fA bF (af (fI 9999) (af (f2 gs (f2 bI (f2 cU (fA dc (fV 0 (af (fI 90) ai))) (fI 2)) (fI 13)) (aj 2)) ai))) (f2 bI (fA dc (fV 0 (af (fI 90) ai))) (fI 2))))
  (a7 (aN 7 (fA lV (fV 3 (fV 4 (fV 6 ai)))))
  (a7 (l7 (gH (fA gp (fV 3 ai))) (dD 8) G0)
  (aR (f2 dz (aj 5) (aj 3)))))))))))
def F_law:=aM LI 1 10
end Lw
namespace DL
open PySem L2
theorem jL:∀(n m:Nat)(d:D),n<=m->aq n d=true->aq m d=true
 |n,m,.non,_,_=>by simp
 |n,m,.bl _,_,_=>by simp
 |n,m,.int _,_,_=>by simp
 |n,m,.str _,_,_=>by simp
 |n,m,.ty _,_,h=>by cases n<;>simp[aq]at h
 |n,m,.dk _ _,_,h=>by simp at h
 |n,m,.dt _ _,_,h=>by simp at h
 |0,m,.tup _,_,h=>by simp[aq]at h
 |0,m,.lst _,_,h=>by simp[aq]at h
 |n+1,0,_,h,_=>by omega
 |n+1,m+1,.tup ds,hl,h=>by
  simp only[aq,List.all_eq_true]at h ⊢;exact λd hd=>jL n m d (by omega) (h d hd)
 |n+1,m+1,.lst ds,hl,h=>by
  simp only[aq,List.all_eq_true]at h ⊢;exact λd hd=>jL n m d (by omega) (h d hd)
theorem om:∀(ds:List D),(∀d∈ds,bB d d=true)->dq ds ds=true
 |[],_=>by simp only[dq]
 |d::ds,h=>by
  simp only[dq,h d mX,Bool.true_and];exact om ds λe he=>h e (mZ _ he)
theorem mP:∀(n:Nat)(d:D),aq n d=true->bB d d=true
 |n,.non,_=>by simp
 |n,.bl _,_=>by simp
 |n,.int _,_=>by simp
 |n,.str _,_=>by simp
 |n,.ty _,h=>by cases n<;>simp[aq]at h
 |n,.dk _ _,h=>by simp at h
 |n,.dt _ _,h=>by simp at h
 |0,.tup _,h=>by simp[aq]at h
 |0,.lst _,h=>by simp[aq]at h
 |n+1,.tup ds,h=>by
  simp only[aq,List.all_eq_true]at h;simp only[bB];exact om ds λd hd=>mP n d (h d hd)
 |n+1,.lst ds,h=>by
  simp only[aq,List.all_eq_true]at h;simp only[bB];exact om ds λd hd=>mP n d (h d hd)
theorem G1 (h:aq 40 d=true):dz d d=some (.bl true,false):=by unfold dz;rw[if_pos ⟨h,h⟩,mP 40 d h]
end DL
namespace DL
@[simp] noncomputable abbrev sF (d:D):OB:=some (d,false)
@[simp] noncomputable abbrev lT (ds:List D):OB:=some (.lst ds,true)
theorem dj {r:OB}{d:D}{b:Bool}(h:Sw r d b=true:=by decide +kernel):r=some (d,b):=Gw h
theorem Ud {r:OB}{d:D}{b:Bool}(h:Sw r d b=true:=by rfl):r=some (d,b):=Gw h
theorem cQ {p q:Prop}[Decidable p](h:p)(n:decide p=false:=by decide +kernel):q:=absurd h (of_decide_eq_false n)
end DL
namespace Lw
open PySem DL L2
theorem E4 (d:D)(r:List D):lI (d::r) 0=some d:=by have:=kF (xs:=d::r) (j:=0) (by simp);simpa using this
theorem HX (d e:D)(r:List D):lI (d::e::r) 1=some e:=by have:=kF (xs:=d::e::r) (j:=1) (by simp);simpa using this
theorem VR (d e f:D)(r:List D):lI (d::e::f::r) 2=some f:=by have:=kF (xs:=d::e::f::r) (j:=2) (by simp);simpa using this
noncomputable def cX (k:Str):Bool:=decide (k = "death") || decide (k = "lost") || decide (k = "found")
noncomputable def dS (k:Str):Bool:=decide (k = "chosen") || decide (k = "heir") || decide (k = "leave") || decide (k = "paper") || decide (k = "like") || decide (k = "copy") || decide (k = "call")
structure DeedP (kind:Str)(aD:List D):Prop where
 flat:bz aD=true
 plain:aD.all (aq 5)=true
 three:cX kind=true->∃(day:Int)(p:Str),aD=[.int day,.str p]
 slg:dS kind=true->∃(day:Int)(p:Str)(r:List D),aD=.int day::.str p::r
noncomputable def row (h:Int)(kind:Str)(aD:List D):D:=.tup [.int h,.tup (.str kind::aD)]
def mQ (r:D):Prop:=∃h kind aD,r=row h kind aD/\DeedP kind aD
theorem mQ.flat (h:mQ r):be r=true:=by obtain⟨a,k,aD,rfl,dp⟩:=h;simp[row,dp.flat]
theorem mQ.plain (h:mQ r):aq 39 r=true:=by
 obtain⟨a,k,aD,rfl,dp⟩:=h;refine jL 7 39 _ (by decide) ?_;have:=dp.plain;simp only[row,aq,List.all_cons,List.all_nil,Bool.and_true,Bool.true_and];exact this
theorem bP (h:∀d∈ds,be d=true):bz ds=true:=by
 induction ds with
 |nil=>rfl
 |cons d r ih=>simp[h d (by simp),ih λe he=>h e (by simp[he])]
theorem dU (zs:List Str):bz (zs.map D.str)=true:=by
 induction zs with
 |nil=>rfl
 |cons a l ih=>simp[ih]
theorem JX (h:∀r∈ab,mQ r):dz (.tup ab) (.tup ab)=sF (.bl true):=by
 refine G1 ?_;simp only[aq,List.all_eq_true];exact λr hr=>(h r hr).plain
noncomputable def bi:D->Int
 |.tup (.int h::_)=>h
 |_=>0
noncomputable def kindOf:D->Str
 |.tup [_,.tup (.str k::_)]=>k
 |_=>("" : Str)
noncomputable def aG:D->Int
 |.tup [_,.tup (_::.int d::_)]=>d
 |_=>0
noncomputable def uC (p:Str)(day:Int):List D->Bool
 |[.int d,.str q]=>decide (q=p) && decide (d<=day)
 |_=>false
def told (ws:List Str)(p:Str)(day:Int):D->Bool
 |.tup [_,.tup (.str kind::aD)]=>decide (kind∈ws) && uC p day aD
 |_=>false
theorem iP (h:Int)(kind:Str)(aD:List D):aL [row h kind aD]=sF (.str kind):=aw rfl (ay (by simp[row,HX,E4]))
theorem kO (h:cX k=true):k = "death" ∨ k = "lost" ∨ k = "found":=by
 unfold cX at h;simp only[Bool.or_eq_true,decide_eq_true_eq]at h;rcases h with (h|h)|h
 ·exact .inl h
 ·exact .inr (.inl h)
 ·exact .inr (.inr h)
theorem lX (h:dS k=true):k = "chosen" ∨ k = "heir" ∨ k = "leave" ∨ k = "paper" ∨ k = "like" ∨ k = "copy" ∨ k = "call":=by
 unfold dS at h;simp only[Bool.or_eq_true,decide_eq_true_eq]at h;rcases h with (((((h|h)|h)|h)|h)|h)|h
 ·exact .inl h
 ·exact .inr (.inl h)
 ·exact .inr (.inr (.inl h))
 ·exact .inr (.inr (.inr (.inl h)))
 ·exact .inr (.inr (.inr (.inr (.inl h))))
 ·exact .inr (.inr (.inr (.inr (.inr (.inl h)))))
 ·exact .inr (.inr (.inr (.inr (.inr (.inr h)))))
theorem JY (h:cX k=true∨dS k=true):p6 gT (.str k) (.str "day")=sF (.int 0):=by
 rcases h with h|h
 ·rcases kO h with rfl|rfl|rfl<;>exact dj
 ·rcases lX h with rfl|rfl|rfl|rfl|rfl|rfl|rfl<;>exact dj
theorem AT (h:cX k=true):p6 gT (.str k) (.str "person")=sF (.int 1):=by
 rcases kO h with rfl|rfl|rfl<;>exact dj
theorem G2 (h:cX k=true∨dS k=true):dz (.str k) (.str "root")=sF (.bl false):=by
 rcases h with h|h
 ·rcases kO h with rfl|rfl|rfl<;>exact dj
 ·rcases lX h with rfl|rfl|rfl|rfl|rfl|rfl|rfl<;>exact dj
theorem bo {h:Int}{k:Str}{aD:List D}{part:Str}{i:Nat}{d:D}(hi:p6 gT (.str k) (.str part)=sF (.int i))(hd:aD[i]? = some d):au [row h k aD,.str part]=some (d,false):=by
 refine aw rfl (ay ?_);refine bv (.tup (.str k::aD)) (.int (1+i)) (by simp[row,HX]) (bv (.int 1) (.int i) rfl (bv (.str k) (.str part) (aJ [row h k aD] rfl (iP _ _ _)) rfl hi) (by simp)) ?_;have eZ:i<aD.length:=(vV hd).1;have:lI (.str k::aD) (1+(i:Int))=some d:=by
  have:=kF (xs:=(.str k:D)::aD) (j:=i+1) (by simp;omega);rw[show(1+(i:Int))=((i+1:Nat):Int) by omega,this];simp only[List.getElem_cons_succ];rw[vU eZ]at hd;exact hd
 simp[this]
theorem jy {h:Int}{k:Str}{aD:List D}{d:Int}{r:List D}(hk:cX k=true∨dS k=true)(hr:aD=.int d::r):aP [row h k aD]=sF (.int d):=by
 subst hr;refine aw rfl (a9 (cN (bv (.str k) (.str "root") (aJ [row h k (.int d::r)] rfl (iP _ _ _)) rfl (G2 hk))) (ay (aJ [row h k (.int d::r),.str "day"] rfl (bo (i:=0) (JY hk) rfl))))
theorem rE (k:Str)(ws:List Str):HS (.str k) (ws.map .str)=decide (k∈ws):=by
 induction ws with
 |nil=>simp[HS]
 |cons w ws ih=>
  have:HS (.str k) ((w::ws).map .str)=(bB (.str w) (.str k) || HS (.str k) (ws.map .str)):=rfl;rw[this,ih,oB];by_cases e:w=k
  ·simp[e]
  ·have e':¬k=w:=λz=>e z.symm;simp[e,e']
theorem oq (ws:List Str):(ws.map D.str).all fR=true:=by
 induction ws with
 |nil=>rfl
 |cons w ws ih=>simp[fR]
theorem jz (k:Str)(ws:List Str):Az (.str k) (.tup (ws.map .str))=sF (.bl (decide (k∈ws))):=by
 simp only[Az,gM,vJ,rE];rw[if_pos ⟨rfl,oq ws⟩]
theorem G3 (hr:mQ r)(ws:List Str)(hw:∀w∈ws,cX w=true)(p:Str)(day:Int):pM [r,.tup (ws.map .str),.str p,.int day]=sF (.bl (told ws p day r)):=by
 obtain⟨h,kind,aD,rfl,dp⟩:=hr;have KP:f2 Az (fA aL (fV 0 ai)) (aj 1) [some (row h kind aD,false),sF (.tup (ws.map .str)),sF (.str p),sF (.int day)]=sF (.bl (decide (kind∈ws))) :=
  bv (.str kind) (.tup (ws.map .str)) (aJ [row h kind aD] rfl (iP _ _ _)) rfl (jz kind ws)
 have ht:told ws p day (row h kind aD)=(decide (kind∈ws) && uC p day aD):=rfl;rw[ht];refine aw rfl (ay (dC (b1:=false) KP λhk=>?_));have h3:=hw kind (of_decide_eq_true hk);obtain⟨d,q,rfl⟩:=dp.three h3;show jA _ _ _=sF (.bl (decide (q=p) && decide (d<=day)));refine dC (b1:=false) ?_ λ_=>?_
 ·exact bv (.str q) (.str p) (aJ [row h kind [.int d,.str q],.str "person"] rfl (bo (i:=1) (AT h3) rfl)) rfl (by simp)
 ·exact bv (.int d) (.int day) (aJ [row h kind [.int d,.str q]] rfl (jy (.inl h3) rfl)) rfl (by simp)
theorem G4 (ds:List D):tW ds=ds.zipIdx.map λx=>.tup [.int x.2,x.1]:=by
 unfold tW;apply List.ext_getElem?;intro i;simp[List.getElem?_mapIdx,List.getElem?_zipIdx];cases ds[i]?<;>simp
noncomputable def ak (ab:List D)(aa:Int):List (D×Nat):=ab.zipIdx.filter λx=>decide (bi x.1<=aa)
theorem kP (ab:List D)(hr:∀r∈ab,mQ r)(hl:ab.length<=1000)(aa:Int):cF [.tup ab,.int aa]=lT ((ak ab aa).map λx=>.int x.2):=by
 have hc:=gN (fi:=F8 (aj 0)) (nT:=2) (cap:=[1]) (tg:=Pa [0,1]) (c:=bd (f2 BB (cW 1 0) (aj 2))) (fe:=aj 0) (ρ:=[sF (.tup ab),sF (.int aa)]) ab.zipIdx (λx=>.tup [.int x.2,x.1]) (λx=>decide (bi x.1<=aa)) (λx=>.int x.2)
  (by simp[G4]) (by simp;omega) λx hx=>by
   obtain⟨h,kind,aD,e,_⟩:=hr x.1 (List.fst_mem_of_mem_zipIdx hx);refine⟨_,rfl,cN ?_,λ_=>⟨false,by simp[dL]⟩⟩;simp[dL,e,row,E4,bi]
 exact aw rfl (ay hc)
def p7 (ab:List D)(aa:Int)(ws:List Str)(p:Str)(day:Int):List (D×Nat):=(ak ab aa).filter λx=>told ws p day x.1
theorem Cv (h:x∈p7 ab aa ws p day):ab[x.2]? = some x.1/\told ws p day x.1=true:=by
 obtain⟨h1,h2⟩:=vN h;exact⟨(List.mk_mem_zipIdx_iff_getElem? (x:=x.1) (i:=x.2)).mp (vN h1).1,h2⟩
theorem cH {ab:List D}{i:Nat}{r:D}(h:ab[i]? = some r):lI ab (i:Int)=some r:=by
 obtain⟨eZ,e⟩:=vV h;rw[kF eZ,e]
theorem JZ (ab:List D)(aa:Int)(ws:List Str)(p:Str)(day:Int):(p7 ab aa ws p day).length<=ab.length:=by
 have h1:=vM (λx:D×Nat=>told ws p day x.1) (ak ab aa);have h2:=vM (λx:D×Nat=>decide (bi x.1<=aa)) ab.zipIdx;rw[List.length_zipIdx]at h2;exact vR h1 h2
theorem wU (ab:List D)(hr:∀r∈ab,mQ r)(hl:ab.length<=1000)(aa:Int)(ws:List Str)(hw:∀w∈ws,cX w=true)(p:Str)(day:Int):
  hU [.tup ab,.int aa,.tup (ws.map .str),.str p,.int day]=lT ((p7 ab aa ws p day).map λx=>.int x.2):=by
 have hc:=gN (fi:=cw (fA cF (fV 0 (fV 1 ai)))) (nT:=1) (cap:=[2,3,4,0]) (tg:=dD 0) (c:=bd (fA pM (af (f2 bC (aj 4) (aj 0)) (fV 1 (fV 2 (fV 3 ai)))))) (fe:=aj 0)
  (ρ:=[sF (.tup ab),sF (.int aa),sF (.tup (ws.map .str)),sF (.str p),sF (.int day)]) (ak ab aa) (λx=>.int x.2) (λx=>told ws p day x.1) (λx=>.int x.2)
  (by
   show(fA cF (fV 0 (fV 1 ai)) _).bind _=_;rw[aJ [.tup ab,.int aa] rfl (kP ab hr hl aa)];rfl) (by have:=vM (λx:D×Nat=>decide (bi x.1<=aa)) ab.zipIdx;rw[List.length_zipIdx]at this;exact vR this (by omega)) λx hx=>by
   have hg:ab[x.2]? = some x.1:=(List.mk_mem_zipIdx_iff_getElem? (x:=x.1) (i:=x.2)).mp (vN hx).1;refine⟨_,rfl,cN (aJ [x.1,.tup (ws.map .str),.str p,.int day] ?_ (G3 (hr _ (vL hg)) ws hw p day)),λ_=>⟨false,by simp[dL]⟩⟩;have ha:=cH hg;simp[dL,ha]
 exact aw rfl (ay hc)
def kA (x:D×Nat):List At:=[.i (aG x.1),.i x.2]
def cA (a b:D×Nat):Bool:=decide (aG a.1<aG b.1∨(aG a.1=aG b.1/\(a.2:Int)<b.2))
def gI:D×Nat->List (D×Nat)->D×Nat
 |b,[]=>b
 |b,x::r=>if cA b x=true then gI x r else gI b r
def LJ:List (D×Nat)->Option (D×Nat)
 |[]=>none
 |x::r=>some (gI x r)
theorem Oe (a b c d:Int):ba [.i a,.i b] [.i c,.i d]=some (decide (a<c∨(a=c/\b<d))):=by
 rw[ba];by_cases h:a=c
 ·rw[if_pos h,ba];by_cases h2:b=d
  ·rw[if_pos h2,ba];simp[h,h2]
  ·rw[if_neg h2];simp[h]
 ·rw[if_neg h];simp[h]
theorem AU (a b:D×Nat):ba (kA a) (kA b)=some (cA a b):=Oe _ _ _ _
theorem wV (l:List (D×Nat)):eE (l.map kA)=true:=by
 unfold eE;simp[List.all_eq_true,AU]
theorem ot:∀(r:List (D×Nat))(b:D×Nat),m8 (kA b,.int b.2) (r.map λx=>(kA x,D.int x.2))=.int (gI b r).2
 |[],b=>rfl
 |x::r,b=>by
  rw[uY,m8,gI];show(if ba (kA b) (kA x)=some true then _ else _)=_;rw[AU];by_cases h:cA b x=true
  ·rw[if_pos h,if_pos (by rw[h])];exact ot r x
  ·rw[if_neg h,if_neg (by simpa using h)];exact ot r b
theorem rF:∀(r:List (D×Nat))(b:D×Nat),gI b r∈b::r
 |[],b=>by simp[gI]
 |x::r,b=>by
  rw[gI];split
  ·exact mZ _ (rF r x)
  ·rcases vP (rF r b)with h|h
   ·rw[h];exact mX
   ·exact mZ _ (mZ _ h)
theorem iu {α:Type}{f:D->Option D}{g h:α->D}:∀(l:List α),(∀x∈l,f (g x)=some (h x))->jr f (l.map g)=some (l.map h)
 |[],_=>rfl
 |x::l,hx=>by
  rw[uY,jr,hx x mX,vJ,iu l λy hy=>hx y (mZ _ hy)];rfl
theorem hV {α:Type}{g:α->D}{h:α->List At}:∀(l:List α),(∀x∈l,yB (g x)=some (h x))->dE (l.map g)=some (l.map h)
 |[],_=>rfl
 |x::l,hx=>by
  rw[uY,dE,hx x mX,vJ,hV l λy hy=>hx y (mZ _ hy)];rfl
noncomputable def mR:List Str:=[("lost" : Str),"found"]
theorem oZ:∀w∈mR,cX w=true:=by
 intro w hw;rcases vP hw with rfl|hw
 ·decide +kernel
 ·rcases vP hw with rfl|hw
  ·decide +kernel
  ·cases hw
def ze (ab:List D)(aa:Int)(p:Str)(day:Int):Bool:=match LJ (p7 ab aa mR p day) with
 |none=>true
 |some b=>decide (kindOf b.1 = "found")
theorem rG (hw:∀w∈ws,cX w=true)(hr:mQ r)(ht:told ws p day r=true):∃h k d,r=row h k [.int d,.str p]/\cX k=true/\k∈ws/\d<=day:=by
 obtain⟨h,kind,aD,rfl,dp⟩:=hr;have R4:(decide (kind∈ws) && uC p day aD)=true:=ht;rw[vC]at R4;have hm:=of_decide_eq_true R4.1;obtain⟨d,q,rfl⟩:=dp.three (hw _ hm);have hq:(decide (q=p) && decide (d<=day))=true:=R4.2;rw[vC]at hq;have:=of_decide_eq_true hq.1;subst this;exact⟨h,kind,d,rfl,hw _ hm,hm,of_decide_eq_true hq.2⟩
theorem Cw {ab:List D}{i:Nat}{h d:Int}{k p:Str}(hg:ab[i]? = some (row h k [.int d,.str p]))(h3:cX k=true):eX [.tup ab,.int i]=sF (.tup [.int d,.int i]):=by
 have ha:=cH hg;refine aw rfl (ay (aJ [.int d,.int i] (aE (d:=.int d) (b:=false) (aJ [row h k [.int d,.str p]] (by simp[ha]) (jy (.inl h3) rfl)) rfl) (by simp[sizeLine])))
theorem Ka (ab:List D)(hr:∀r∈ab,mQ r)(hl:ab.length<=1000)(aa:Int)(p:Str)(day:Int):lQ [.tup ab,.int aa,.str p,.int day]=sF (.bl (ze ab aa p day)):=by
 have ht:=wU ab hr hl aa mR oZ p day;have Zu:=JZ ab aa mR p day;have key:∀x∈p7 ab aa mR p day,∃h k d,ab[x.2]? = some (row h k [.int d,.str p])/\x.1=row h k [.int d,.str p]/\cX k=true:=λx hx=>by
  obtain⟨hg,Vi⟩:=Cv hx;obtain⟨h,k,d,e,h3,_⟩:=rG oZ (hr _ (vL hg)) Vi;exact⟨h,k,d,by rw[hg,e],e,h3⟩
 unfold ze;generalize hsel:p7 ab aa mR p day=sel at ht key Zu ⊢;have KU:fA hU (fV 0 (fV 1 (af (fA aY (af (fS "lost") (af (fS "found") ai))) (fV 2 (fV 3 ai))))) [sF (.tup ab),sF (.int aa),sF (.str p),sF (.int day),none]=lT (sel.map λx=>.int x.2) :=
  aJ [.tup ab,.int aa,.tup (mR.map .str),.str p,.int day] (by simp[mR,sizeLine]) ht
 have SR:bz (sel.map λx=>D.int x.2)=true:=bP λd hd=>by obtain⟨x,_,rfl⟩:=vO hd;rfl
 cases sel with
 |nil=>exact aw rfl (cy KU SR (b9 (cN (by simp)) (ay rfl)))
 |cons x r=>
  refine aw rfl (cy KU SR (a9 (cN (by simp;omega)) (ay ?_)));obtain⟨h,k,d,hg,e,h3⟩:=key (gI x r) (rF r x);have hb:kindOf (gI x r).1=k:=by rw[e];rfl
  show _=some (D.bl (decide (kindOf (gI x r).1 = "found")),false);rw[hb];refine bv (.str k) (.str "found") (aJ [row h k [.int d,.str p]] (aE (d:=row h k [.int d,.str p]) (b:=false) (bv (.tup ab) (.int (gI x r).2) rfl ?_ (by simp[cH hg])) rfl) (iP _ _ _)) rfl (by simp);have hm:∀ρ:DL.Env,ρ[0]? = some (sF (.tup ab))->jr (qA [0] (fA eX (fV 1 (fV 0 ai))) ρ) ((x::r).map λx=>D.int x.2)=some ((x::r).map λx=>.tup [.int (aG x.1),.int x.2]):=λρ h0=>
   iu (x::r) λy hy=>by
    obtain⟨h,k,d,hg,e,h3⟩:=key y hy;have hd:aG y.1=d:=by rw[e];rfl
    rw[hd];show(fA eX _ _).map _=_;rw[aJ [.tup ab,.int y.2] (by simp[dL,h0]) (Cw hg h3)];rfl
  have hk:dE ((x::r).map λx=>D.tup [.int (aG x.1),.int x.2])=some ((x::r).map kA):=hV (x::r) λy _=>rfl;have hz:((x::r).map kA).zip ((x::r).map λx=>D.int x.2)=(kA x,.int x.2)::r.map λx=>(kA x,D.int x.2):=by
   rw[List.zip_map'];rfl
  show(um (aj 4) _ _)=_;unfold um NR;show((some (D.lst ((x::r).map λx=>D.int x.2),false)).bind _)=_;simp only[vJ];rw[hm _ rfl];simp only[vJ];rw[hk];simp only[vJ];rw[if_pos (wV _),hz];simp only[ot]
noncomputable def dW:List Str:=[("death" : Str)]
theorem jM:∀w∈dW,cX w=true:=by
 intro w hw;rcases vP hw with rfl|hw
 ·decide +kernel
 ·cases hw
def ou (ab:List D)(aa:Int)(p:Str)(day:Int):Bool:=(p7 ab aa dW p day).isEmpty
theorem zf (ab:List D)(hr:∀r∈ab,mQ r)(hl:ab.length<=1000)(aa:Int)(p:Str)(day:Int):mG [.tup ab,.int aa,.str p,.int day]=sF (.bl (ou ab aa p day)):=by
 have ht:=wU ab hr hl aa dW jM p day;unfold ou;generalize p7 ab aa dW p day=sel at ht ⊢;refine aw rfl (ay (bv (.int ((sel.map λx=>D.int x.2).length:Nat)) (.int 0) ?_ rfl ?_))
 ·exact aJ [.lst (sel.map λx=>.int x.2)] (aE (d:=.lst (sel.map λx=>.int x.2)) (b:=true) (aJ [.tup ab,.int aa,.tup (dW.map .str),.str p,.int day] (by simp[sizeLine,dW]) ht) rfl) JV
 ·rw[wT];cases sel<;>simp
  omega
noncomputable def de:D->Str
 |.tup [_,.tup (_::_::.str p::_)]=>p
 |_=>("" : Str)
noncomputable def zg:List Str:=[("chosen" : Str),"heir","leave","paper","like","copy","call"]
theorem rH (k:Str):dS k=decide (k∈zg):=by
 unfold dS zg;simp[List.mem_cons,Bool.or_assoc]
theorem AV:im=.tup (zg.map .str):=rfl
theorem pb (k:Str)(ws:List Str):eS (.str k) (.tup (ws.map .str))=sF (.bl (!decide (k∈ws))):=by
 simp only[eS,gM,vJ,rE];rw[if_pos ⟨rfl,oq ws⟩]
theorem G5 (h:dS k=true):p6 gT (.str k) (.str "by")=sF (.int 1):=by
 rcases lX h with rfl|rfl|rfl|rfl|rfl|rfl|rfl<;>exact dj
def jg (ab:List D)(aa:Int)(r:D):Bool:=(decide (bi r<=aa) && dS (kindOf r)) && (ou ab aa (de r) (aG r) && ze ab aa (de r) (aG r))
theorem kQ {ab:List D}{i:Nat}{h:Int}{kind:Str}{aD:List D}(hg:ab[i]? = some (row h kind aD))(aa:Int):cC [.tup ab,.int aa,.int i]=sF (.bl (decide (h<=aa))):=by
 have eZ:i<ab.length:=(vV hg).1;have ha:=cH hg;refine aw rfl (ay ?_);have:=dC (f1:=nJ BB N6 (fI 0) (aj 2) (fA gp (fV 0 ai))) (f2:=f2 BB (f2 bC (f2 bC (aj 0) (aj 2)) (fI 0)) (aj 1)) (ρ:=[sF (.tup ab),sF (.int aa),sF (.int i)]) (p:=true) (q:=decide (h<=aa)) (b1:=false)
  (by
   refine(yS (x:=.int 0) (y:=.int i) (z:=.int ab.length) (b1:=false) (b2:=false) (b3:=false) (b4:=false) (p:=true) (q:=true) rfl rfl (by simp) (by simp) λ_=>?_).trans rfl;simp;omega) λ_=>by simp[ha,row,E4]
 exact this
theorem rJ (ab:List D)(hr:∀r∈ab,mQ r)(hl:ab.length<=1000)(aa:Int){i:Nat}{r:D}(hg:ab[i]? = some r):gb [.tup ab,.int aa,.int i]=sF (.bl (jg ab aa r)):=by
 obtain⟨h,kind,aD,rfl,dp⟩:=hr r (vL hg);have hk:=kQ hg aa;have ha:=cH hg;have RO:∀(ρ:DL.Env),f2 bC (aj 0) (aj 2) ρ=some (row h kind aD,false)->fA aL (af (f2 bC (aj 0) (aj 2)) ai) ρ=sF (.str kind):=λρ e=>aJ [row h kind aD] (aE e rfl) (iP _ _ _);have HG:f2 bC (aj 0) (aj 2) [sF (.tup ab),sF (.int aa),sF (.int i),none,none]=some (row h kind aD,false):=by simp[ha]
 have hc:(gQ (eI (bd (fA cC (fV 0 (fV 1 (fV 2 ai)))))) (bd (f2 eS (fA aL (af (f2 bC (aj 0) (aj 2)) ai)) (fC im)))) [sF (.tup ab),sF (.int aa),sF (.int i),none,none]=some (!decide (h<=aa) || !dS kind):=by
  refine c7 (bZ (cN (aJ [.tup ab,.int aa,.int i] rfl hk))) λ_=>cN (bv (.str kind) im (RO _ HG) rfl ?_);rw[AV,rH];exact pb kind zg
 have hs:jg ab aa (row h kind aD)=((decide (h<=aa) && dS kind) && (ou ab aa (de (row h kind aD)) (aG (row h kind aD)) && ze ab aa (de (row h kind aD)) (aG (row h kind aD)))):=rfl;cases hb:(decide (h<=aa) && dS kind) with
 |false=>
  rw[hs,hb];refine aw rfl (b9 (hc.trans ?_) (ay rfl));rw[←Bool.not_and,hb];rfl
 |true=>
  rw[hs,hb];rw[vC]at hb;obtain⟨day,p,r',rfl⟩:=dp.slg hb.2;show _=some (D.bl (true && (ou ab aa p day && ze ab aa p day)),false);rw[Bool.true_and];refine aw rfl (a9 (hc.trans (by rw[hb.1,hb.2];rfl)) (fP (.str p) (aJ [row h kind (.int day::.str p::r'),.str "by"] (aE HG rfl) (bo (i:=1) (G5 hb.2) rfl)) rfl (fP (.int day) (aJ [row h kind (.int day::.str p::r')] (aE (d:=row h kind (.int day::.str p::r')) (b:=false) (by simp[ha]) rfl) (jy (.inr hb.2) rfl)) rfl (ay ?_))));exact dC (b1:=false) (aJ [.tup ab,.int aa,.str p,.int day] (by simp) (zf ab hr hl aa p day)) λ_=>aJ [.tup ab,.int aa,.str p,.int day] (by simp) (Ka ab hr hl aa p day)
inductive Cd:Str->List D->Prop
 |root (o r:Str) (m f:Int):Cd ("root" : Str) [.str o,.int m,.int f,.str r]
 |named (d:Int) (o p:Str):Cd ("named" : Str) [.int d,.str o,.str p]
 |chosen (d:Int) (b o p:Str) (s:Int):Cd ("chosen" : Str) [.int d,.str b,.str o,.str p,.int s]
 |heir (d:Int) (b o p:Str):Cd ("heir" : Str) [.int d,.str b,.str o,.str p]
 |three (k:Str) (hk:k = "death" ∨ k = "lost" ∨ k = "found") (d:Int) (p:Str):Cd k [.int d,.str p]
 |other (k:Str) (hk:k = "leave" ∨ k = "paper" ∨ k = "like" ∨ k = "copy" ∨ k = "call") (d:Int) (b:Str) (r:List D) (hf:bz r=true) (hp:r.all (aq 5)=true):Cd k (.int d::.str b::r)
theorem Cd.deed (h:Cd k r):DeedP k r:=by
 cases h with
 |root o rl m f=>exact⟨rfl,by simp,λh=>cQ h,λh=>cQ h⟩
 |named d o p=>exact⟨rfl,by simp,λh=>cQ h,λh=>cQ h⟩
 |chosen d b o p s=>exact⟨rfl,by simp,λh=>cQ h,λ_=>⟨d,b,_,rfl⟩⟩
 |heir d b o p=>exact⟨rfl,by simp,λh=>cQ h,λ_=>⟨d,b,_,rfl⟩⟩
 |three k hk d p=>exact⟨rfl,by simp,λ_=>⟨d,p,rfl⟩,λh=>by rcases hk with rfl|rfl|rfl<;>exact cQ h⟩
 |other k hk d b r hf hp=>exact⟨by simp[hf],by simp only[List.all_cons,hp,aq,Bool.and_true],λh=>by rcases hk with rfl|rfl|rfl|rfl|rfl<;>exact cQ h,λ_=>⟨d,b,r,rfl⟩⟩
def wW (r:D):Prop:=∃h k aD,r=row h k aD/\Cd k aD
theorem wW.rp (h:wW r):mQ r:=by obtain⟨a,k,aD,rfl,d⟩:=h;exact⟨a,k,aD,rfl,d.deed⟩
def bf (r:D):Bool:=decide (kindOf r = "root")
theorem Cd.day (h:Cd k r)(hk:k ≠ "root"):∃d q,r=.int d::q:=by
 cases h with
 |root=>exact absurd rfl hk
 |named d=>exact⟨d,_,rfl⟩
 |chosen d=>exact⟨d,_,rfl⟩
 |heir d=>exact⟨d,_,rfl⟩
 |three _ _ d=>exact⟨d,_,rfl⟩
 |other _ _ d=>exact⟨d,_,rfl⟩
theorem Cd.day_idx (h:Cd k r)(hk:k ≠ "root"):p6 gT (.str k) (.str "day")=sF (.int 0):=by
 cases h with
 |root=>exact absurd rfl hk
 |named=>exact dj
 |chosen=>exact dj
 |heir=>exact dj
 |three _ hh=>rcases hh with rfl|rfl|rfl<;>exact dj
 |other _ hh=>rcases hh with rfl|rfl|rfl|rfl|rfl<;>exact dj
theorem bM (e:f ρ=some (.str a,bb))(h:decide (a=b)=x):bd (f2 dz f (fS b)) ρ=some x:=cN (gS (x:=.str a) (y:=.str b) (b1:=bb) (b2:=false) e rfl (by rw[←h];simp))
def sZ (r:D):D:=if bf r=true then .non else .int (aG r)
theorem jh (g:wW r):aL [r]=sF (.str (kindOf r)):=by
 obtain⟨h,k,aD,rfl,_⟩:=g;exact iP h k aD
theorem rK (g:wW r):aP [r]=some (sZ r,false):=by
 obtain⟨h,k,aD,rfl,d⟩:=g;unfold sZ;by_cases hk:k = "root"
 ·have:bf (row h k aD)=true:=decide_eq_true hk;rw[if_pos this];exact aw rfl (b9 (bM (a:=k) (bb:=false) (aJ [row h k aD] rfl (iP _ _ _)) (decide_eq_true hk)) (ay rfl))
 ·have:bf (row h k aD)=false:=decide_eq_false hk;rw[if_neg (by rw[this];decide)];obtain⟨dd,q,rfl⟩:=d.day hk;exact aw rfl (a9 (bM (a:=k) (bb:=false) (aJ [row h k (.int dd::q)] rfl (iP _ _ _)) (decide_eq_false hk)) (ay (aJ [row h k (.int dd::q),.str "day"] rfl (bo (i:=0) (d.day_idx hk) rfl))))
def gA (ab:List D):Prop:=ab.length<=60/\∀r∈ab,wW r
theorem gA.rp (g:gA ab):∀r∈ab,mQ r:=λr hr=>(g.2 r hr).rp
theorem gA.le (g:gA ab):ab.length<=1000:=vR g.1 (by decide)
theorem bu (h:x∈ak ab aa):ab[x.2]? = some x.1:=by
 obtain⟨h1,_⟩:=vN h;exact List.mem_zipIdx_iff_getElem?.mp h1
theorem cq (ab:List D)(aa:Int):(ak ab aa).length<=ab.length:=by
 have:=vM (λx:D×Nat=>decide (bi x.1<=aa)) ab.zipIdx;rw[List.length_zipIdx]at this;exact this
theorem eC (ab:List D)(aa:Int):((ak ab aa).map (·.2)).Nodup:=by
 have h1:(ab.zipIdx.map (·.2)).Nodup:=by rw[List.zipIdx_map_snd];exact List.nodup_range'
 exact List.Nodup.sublist (List.Sublist.map _ (List.filter_sublist)) h1
def df (ab:List D)(aa:Int):List (D×Nat):=(ak ab aa).filter λx=>!bf x.1
def QV (ab:List D)(aa:Int):List (D×Nat):=eD (λx=>cO (kA x)) (df ab aa)
theorem G6 (h:cO (kA a)=cO (kA b)):a.2=b.2:=by
 have h:[aG a.1,(a.2:Int)]=[aG b.1,(b.2:Int)]:=h;injection h with _ h;injection h with h;omega
theorem Kb (ha:a∈ak ab aa)(hb:b∈ak ab aa)(h:a.2=b.2):a=b:=by
 have h1:=bu ha;have h2:=bu hb;rw[h,h2]at h1;exact Prod.ext (vK h1).symm h
theorem pe (g:gA ab)(aa:Int):dO [.tup ab,.int aa]=lT ((QV ab aa).map λx=>.int x.2):=by
 have hl:=g.1;have RN:=cq ab aa;have HG:∀x∈ak ab aa,lI ab (x.2:Int)=some x.1/\wW x.1:=λx hx=>⟨cH (bu hx),g.2 _ (vL (bu hx))⟩;have hc:=gN (fi:=cw (fA cF (fV 0 (fV 1 ai)))) (nT:=1) (cap:=[0]) (tg:=dD 0) (c:=bd (f2 kq (fA aP (af (f2 bC (aj 1) (aj 0)) ai)) (fC .non))) (fe:=aj 0) (ρ:=[sF (.tup ab),sF (.int aa),none]) (ak ab aa) (λx=>.int x.2) (λx=>!bf x.1) (λx=>.int x.2)
  (by
   show(fA cF (fV 0 (fV 1 ai)) _).bind _=_;rw[aJ [.tup ab,.int aa] rfl (kP ab g.rp g.le aa)];rfl) (by omega) λx hx=>by
   obtain⟨ha,gx⟩:=HG x hx;refine⟨_,rfl,cN (bv (sZ x.1) .non (aJ [x.1] (by simp[dL,ha]) (rK gx)) rfl ?_),λ_=>⟨false,by simp[dL]⟩⟩;unfold sZ;cases bf x.1<;>simp[Dy]
 have K1:bR (cw (fA cF (fV 0 (fV 1 ai)))) 1 [0] (dD 0) (bd (f2 kq (fA aP (af (f2 bC (aj 1) (aj 0)) ai)) (fC .non))) (aj 0) [sF (.tup ab),sF (.int aa),none]=lT ((df ab aa).map λx=>.int x.2):=hc;have vp:bz ((df ab aa).map λx=>D.int x.2)=true:=bP λd hd=>by obtain⟨x,_,rfl⟩:=vO hd;rfl
 have Pr:(df ab aa).length<=60:=vR (vM _ _) (by omega);have o8:∀x∈df ab aa,x∈ak ab aa/\bf x.1=false:=λx hx=>by
  obtain⟨h1,h2⟩:=vN hx;exact⟨h1,by simpa using h2⟩
 have hm:∀ρ:DL.Env,ρ[0]? = some (sF (.tup ab))->jr (qA [0] (fA eX (fV 1 (fV 0 ai))) ρ) ((df ab aa).map λx=>.int x.2)=some ((df ab aa).map λx=>.tup [.int (aG x.1),.int x.2]):=λρ h0=>
  iu (df ab aa) λx hx=>by
   obtain⟨h1,h2⟩:=o8 x hx;obtain⟨ha,gx⟩:=HG x h1;have hd:=rK gx;unfold sZ at hd;rw[h2,if_neg (by decide)]at hd;have hr:eX [.tup ab,.int x.2]=sF (.tup [.int (aG x.1),.int x.2]):=aw rfl (ay (aJ [.int (aG x.1),.int x.2] (aE (d:=.int (aG x.1)) (b:=false) (aJ [x.1] (by simp[ha]) hd) rfl) (by simp[sizeLine])));show(fA eX _ _).map _=_;rw[aJ [.tup ab,.int x.2] (by simp[dL,h0]) hr];rfl
 have hk:dE ((df ab aa).map λx=>D.tup [.int (aG x.1),.int x.2])=some ((df ab aa).map kA):=hV _ λx _=>rfl;have hz:((df ab aa).map kA).zip ((df ab aa).map λx=>D.int x.2)=(df ab aa).map λx=>(kA x,D.int x.2):=by rw[List.zip_map']
 have KW:((df ab aa).map (·.2)).Nodup:=List.Nodup.sublist (List.Sublist.map _ (List.filter_sublist)) (eC ab aa);have j7:((df ab aa).map kA).length<64/\eE ((df ab aa).map kA)=true/\fF ((df ab aa).map kA)=true/\(((df ab aa).map kA).map cO).Nodup:=by
  refine⟨by rw[vI];omega,wV _,?_,?_⟩
  ·unfold fF;rw[Bool.or_eq_true];left;simp[List.all_eq_true,kA]
  ·rw[uP];exact List.Pairwise.map _ (λa b h e=>h (G6 e)) (List.pairwise_map.mp KW)
 refine aw rfl (cy K1 vp (ay ?_));show(qC (aj 2) _ _)=_;unfold qC;show((some (D.lst ((df ab aa).map λx=>D.int x.2),false)).bind _)=_;simp only[vJ];rw[hm _ rfl];simp only[vJ];rw[hk];simp only[vJ];rw[if_pos j7];unfold js;rw[hz];have key:((QV ab aa).map λx=>(kA x,D.int x.2))=eD (λp:List At×D=>cO p.1) ((df ab aa).map λx=>(kA x,D.int x.2)):=by
  refine k8 _ (λx hx y hy e=>?_) ((b8 _ _).map _) ?_
  ·obtain⟨a,ha,rfl⟩:=vO hx;obtain⟨b,hb,rfl⟩:=vO hy;rw[Kb (o8 a ha).1 (o8 b hb).1 (G6 e)]
  ·exact List.pairwise_map.mpr (ib _ _)
 rw[←key,uP];rfl
structure Cl where
 o:Str
 p:Str
 s:Int
 u:Option Int
 n:Nat
noncomputable def uD:Option Int->D
 |none=>.non
 |some x=>.int x
def aT (c:Cl):D:=.tup [.str c.o,.str c.p,.int c.s,uD c.u,.int c.n]
theorem Cy (u:Option Int):be (uD u)=true:=by cases u<;>rfl
theorem mS (c:Cl):be (aT c)=true:=by simp[aT,Cy]
theorem j0 (cs:List Cl):bz (cs.map aT)=true:=bP λd hd=>by obtain⟨c,_,rfl⟩:=vO hd;exact mS c
noncomputable def iw (c:Cl)(day:Int):Bool:=decide (c.s<=day) && (match c.u with|none=>true|some x=>decide (day<x))
theorem XC (d e f g:D)(r:List D):lI (d::e::f::g::r) 3=some g:=by have:=kF (xs:=d::e::f::g::r) (j:=3) (by simp);simpa using this
theorem XD (d e f g h:D)(r:List D):lI (d::e::f::g::h::r) 4=some h:=by have:=kF (xs:=d::e::f::g::h::r) (j:=4) (by simp);simpa using this
theorem QW (c:Cl):bC (aT c) (.int 0)=sF (.str c.o):=by simp[aT,E4]
theorem Pc (c:Cl):bC (aT c) (.int 1)=sF (.str c.p):=by simp[aT,HX]
theorem Sz (c:Cl):bC (aT c) (.int 2)=sF (.int c.s):=by simp[aT,VR]
theorem XE (c:Cl):bC (aT c) (.int 3)=some (uD c.u,false):=by simp[aT,XC]
theorem S1 (c:Cl):bC (aT c) (.int 4)=sF (.int c.n):=by simp[aT,XD]
theorem cD (ds:List D)(h:ds.length<=100):aY ds=sF (.tup ds):=if_pos (dN (by omega))
theorem gJ (ds:List D)(h:ds.length<=100):bF ds=lT ds:=if_pos (dN (by omega))
theorem Cz (s day:Int)(u:Option Int):jw [.int day,.tup [.int s,uD u]]=sF (.bl (decide (s<=day) && (match u with|none=>true|some x=>decide (day<x)))):=by
 refine aw rfl (ay (dC (b1:=false) (by simp[E4]) λ_=>?_));cases u with
 |none=>exact qS (p:=true) (q:=true) (b1:=false) (by simp[HX,uD]) (by simp)
 |some x=>exact qS (p:=false) (q:=decide (day<x)) (b1:=false) (by simp[HX,uD]) λ_=>by simp[HX,uD]
theorem rL (c:Cl)(day:Int):cP [aT c,.int day]=sF (.bl (iw c day)) :=
 aw rfl (ay (aJ [.int day,.tup [.int c.s,uD c.u]] (cn rfl (cn (aJ [.int c.s,uD c.u] (aE (bv (aT c) (.int 2) rfl rfl (Sz c)) (aE (bv (aT c) (.int 3) rfl rfl (XE c)) rfl)) (cD _ (by simp))) rfl)) (Cz c.s day c.u)))
theorem zh (c:Cl):du [aT c]=sF (.tup [.int c.s,.int c.n]) :=
 aw rfl (ay (aJ [.int c.s,.int c.n] (aE (bv (aT c) (.int 2) rfl rfl (Sz c)) (aE (bv (aT c) (.int 4) rfl rfl (S1 c)) rfl)) (cD _ (by simp))))
theorem wZ (c:Cl):g7 [aT c]=sF (.tup [.str c.o,.int c.s,.int c.n]) :=
 aw rfl (ay (aJ [.str c.o,.int c.s,.int c.n] (aE (bv (aT c) (.int 0) rfl rfl (QW c)) (aE (bv (aT c) (.int 2) rfl rfl (Sz c)) (aE (bv (aT c) (.int 4) rfl rfl (S1 c)) rfl))) (cD _ (by simp))))
noncomputable def kS (c:Cl):List At:=[.i c.s,.i c.n]
def mT:Cl->List Cl->Cl
 |b,[]=>b
 |b,x::r=>if ba (kS x) (kS b)=some true then mT x r else mT b r
def tm:Cl->List Cl->Cl
 |b,[]=>b
 |b,x::r=>if ba (kS b) (kS x)=some true then tm x r else tm b r
theorem rM:∀(r:List Cl)(b:Cl),lC (kS b,aT b) (r.map λx=>(kS x,aT x))=aT (mT b r)
 |[],b=>rfl
 |x::r,b=>by
  rw[uY,lC,mT];split
  ·exact rM r x
  ·exact rM r b
theorem rN:∀(r:List Cl)(b:Cl),m8 (kS b,aT b) (r.map λx=>(kS x,aT x))=aT (tm b r)
 |[],b=>rfl
 |x::r,b=>by
  rw[uY,m8,tm];split
  ·exact rN r x
  ·exact rN r b
theorem C0 (cs:List Cl):eE (cs.map kS)=true:=by
 unfold eE;simp[List.all_eq_true,kS,Oe]
theorem rO (ρ:DL.Env)(cs:List Cl):jr (sX du ρ) (cs.map aT)=some (cs.map λc=>.tup [.int c.s,.int c.n]):=iu cs λc _=>by
 show(du [aT c]).map _=_;rw[zh];rfl
theorem ph (cs:List Cl):dE (cs.map λc=>D.tup [.int c.s,.int c.n])=some (cs.map kS):=hV cs λc _=>rfl
theorem G7 (e:f ρ=some (.lst ((b::r).map aT),bb)):uo f (sX du) ρ=some (aT (mT b r),false):=by
 unfold uo NR;rw[e,vJ];dsimp only;rw[rO,vJ,ph,vJ,if_pos (C0 _)];have:((b::r).map kS).zip ((b::r).map aT)=(kS b,aT b)::r.map λx=>(kS x,aT x):=by rw[List.zip_map'];rfl
 rw[this];show some (lC _ _,false)=_;rw[rM]
theorem Of (e:f ρ=some (.lst ((b::r).map aT),bb)):um f (sX du) ρ=some (aT (tm b r),false):=by
 unfold um NR;rw[e,vJ];dsimp only;rw[rO,vJ,ph,vJ,if_pos (C0 _)];have:((b::r).map kS).zip ((b::r).map aT)=(kS b,aT b)::r.map λx=>(kS x,aT x):=by rw[List.zip_map'];rfl
 rw[this];show some (m8 _ _,false)=_;rw[rN]
def iz (rl:Str)(b:Cl)(r:List Cl):Cl:=if rl = "last" then tm b r else mT b r
theorem G8 (rl:Str)(b:Cl)(r:List Cl):lR [.lst ((b::r).map aT),.str rl]=sF (.str (iz rl b r).p):=by
 unfold iz;by_cases h:rl = "last"
 ·rw[if_pos h];exact aw rfl (b9 (bM (a:=rl) (bb:=false) rfl (decide_eq_true h)) (ay (bv (aT (tm b r)) (.int 1) (Of (bb:=false) rfl) rfl (Pc _))))
 ·rw[if_neg h];exact aw rfl (a9 (bM (a:=rl) (bb:=false) rfl (decide_eq_false h)) (ay (bv (aT (mT b r)) (.int 1) (G7 (bb:=false) rfl) rfl (Pc _))))
theorem rP:∀(r:List Cl)(b:Cl),mT b r∈b::r
 |[],b=>by simp[mT]
 |x::r,b=>by
  rw[mT];split
  ·exact mZ _ (rP r x)
  ·rcases vP (rP r b)with h|h
   ·rw[h];exact mX
   ·exact mZ _ (mZ _ h)
theorem rQ:∀(r:List Cl)(b:Cl),tm b r∈b::r
 |[],b=>by simp[tm]
 |x::r,b=>by
  rw[tm];split
  ·exact mZ _ (rQ r x)
  ·rcases vP (rQ r b)with h|h
   ·rw[h];exact mX
   ·exact mZ _ (mZ _ h)
theorem DT (rl:Str)(b:Cl)(r:List Cl):iz rl b r∈b::r:=by
 unfold iz;split
 ·exact rQ r b
 ·exact rP r b
noncomputable def Pd (cs:List Cl)(o:Str)(day:Int):List Cl:=cs.filter λc=>decide (c.o=o) && iw c day
def lY (cs:List Cl):List Str:=lB (iE (cs.map (·.p)))
def QX:List Cl->Nat
 |[]=>0
 |b::r=>(mT b r).n
def pi (rl:Str):List Cl->D
 |[]=>.tup [.str "none"]
 |b::r=>if 1<(lY (b::r)).length/\rl = "open" then .tup [.str "parted",.lst ((lY (b::r)).map .str)]
  else .tup [.str "one",.str (iz rl b r).p,.int (QX ((b::r).filter λc=>decide (c.p=(iz rl b r).p)))]
def jT (cs:List Cl)(o rl:Str)(day:Int):D:=pi rl (Pd cs o day)
theorem Kc {z:Str}:iE (z::zs)≠[]:=by
 have:∀(ss:List Str)(ts:List Str),z∈ts->z∈ss.foldl jX ts:=λss=>by
  induction ss with
  |nil=>intro ts h;exact h
  |cons a l ih=>intro ts h;exact ih _ (yv.mpr (.inl h))
 have h:=this zs (jX [] z) (yv.mpr (.inr rfl));intro e;unfold iE at e;rw[List.foldl_cons]at e;rw[e]at h;cases h
theorem kR:au [row h ("root" : Str) [.str o,.int m,.int f,.str rl],.str "office"]=sF (.str o):=bo (i:=0) dj rfl
theorem DU:au [row h ("root" : Str) [.str o,.int m,.int f,.str rl],.str "rule"]=sF (.str rl):=bo (i:=3) dj rfl
theorem rR (zs:List Str):ia (zs.map .str)=some zs:=by
 induction zs with
 |nil=>rfl
 |cons z zs ih=>simp[ih]
theorem mU (cs:List Cl)(hl:cs.length<=60)(day:Int):dP [.lst (cs.map aT),row h ("root" : Str) [.str o,.int m,.int f,.str rl],.int day]=some (jT cs o rl day,false):=by
 let rt:D:=row h ("root" : Str) [.str o,.int m,.int f,.str rl];have h1:=gN (fi:=cw (aj 0)) (nT:=1) (cap:=[2,1]) (tg:=dD 0) (c:=fu (bd (f2 dz (cW 0 0) (fA au (fV 2 (af (fS "office") ai))))) (bd (fA cP (fV 0 (fV 1 ai))))) (fe:=aj 0)
  (ρ:=[sF (.lst (cs.map aT)),some (rt,false),sF (.int day),none,none,none,none]) cs aT (λc=>decide (c.o=o) && iw c day) aT (by simp) (by omega) λc hc=>by
   refine⟨_,rfl,fG (cN (bv (.str c.o) (.str o) (bv (aT c) (.int 0) (by simp[dL]) rfl (QW c)) (aJ [rt,.str "office"] (by simp[dL]) kR) (by simp))) λ_=>cN (aJ [aT c,.int day] (by simp[dL]) (rL c day)),λ_=>⟨false,by simp[dL]⟩⟩
 have S7:bR (cw (aj 0)) 1 [2,1] (dD 0) (fu (bd (f2 dz (cW 0 0) (fA au (fV 2 (af (fS "office") ai))))) (bd (fA cP (fV 0 (fV 1 ai))))) (aj 0) [sF (.lst (cs.map aT)),some (rt,false),sF (.int day),none,none,none,none]=lT ((Pd cs o day).map aT):=h1;have SS:(Pd cs o day).length<=60:=vR (vM _ _) hl;unfold jT;generalize Pd cs o day=al at S7 SS;have h2:∀ρ:DL.Env,ρ[3]? = some (lT (al.map aT))->f1 gz (bR (cw (aj 3)) 1 [] (dD 0) hW (cW 0 1)) ρ=lT ((lY al).map .str):=λρ h3=>by
  have hc:=oK (fi:=cw (aj 3)) (nT:=1) (cap:=[]) (tg:=dD 0) (fe:=cW 0 1) (ρ:=ρ) al aT (λc=>.str c.p) (by simp[h3]) (by omega) λc hc=>⟨_,rfl,false,bv (aT c) (.int 1) (by simp[dL]) rfl (Pc c)⟩;have e2:al.map (λc=>D.str c.p)=(al.map (·.p)).map .str:=by rw[uP];rfl
  rw[e2]at hc;unfold f1;rw[hc,vJ];show(ia ((al.map (·.p)).map .str)).bind _=_;rw[rR,vJ,if_pos (by rw[vI];omega)];rfl
 have mf:bz ((lY al).map D.str)=true:=dU _;refine aw rfl (cy (ds:=al.map aT) S7 (j0 al) (cy (ds:=(lY al).map .str) (h2 _ rfl) mf ?_));cases al with
 |nil=>exact b9 (cN (by simp[lY,iE,lB])) (ay (aJ [.str "none"] rfl (cD _ (by simp))))
 |cons b r=>
  have o7:(lY (b::r)).length≠0:=by
   unfold lY;rw[(fZ _).length_eq];intro e;exact Kc (List.length_eq_zero_iff.mp e)
  refine a9 (cN (by simp[o7])) ?_;have HH:∀ρ:DL.Env,ρ[1]? = some (some (rt,false))->fA au (fV 1 (af (fS "rule") ai)) ρ=sF (.str rl):=λρ q1=>aJ [rt,.str "rule"] (by simp[q1]) DU;by_cases hp:1<(lY (b::r)).length/\rl = "open"
  ·have:pi rl (b::r)=.tup [.str "parted",.lst ((lY (b::r)).map .str)]:=by rw[pi,if_pos hp]
   rw[this];exact b9 (fG (p:=true) (q:=true) (cN (by simp;omega)) λ_=>bM (bb:=false) (HH _ rfl) (decide_eq_true hp.2)) (ay (aJ [.str "parted",.lst ((lY (b::r)).map .str)] (by simp) (cD _ (by simp))))
  ·have:pi rl (b::r)=.tup [.str "one",.str (iz rl b r).p,.int (QX ((b::r).filter λc=>decide (c.p=(iz rl b r).p)))]:=by rw[pi,if_neg hp]
   rw[this];have j7:fu (bd (f2 HR (fA gp (fV 4 ai)) (fI 1))) (bd (f2 dz (fA au (fV 1 (af (fS "rule") ai))) (fS "open"))) [sF (.lst (cs.map aT)),some (rt,false),sF (.int day),lT ((b::r).map aT),lT ((lY (b::r)).map .str),none,none]=some false:=by
    by_cases h5:1<(lY (b::r)).length
    ·exact fG (p:=true) (q:=false) (cN (by simp;omega)) λ_=>bM (bb:=false) (HH _ rfl) (decide_eq_false λe=>hp ⟨h5,e⟩)
    ·exact fG (p:=false) (q:=false) (cN (by simp;omega)) (by simp)
   have o8:=DT rl b r;let ch:=iz rl b r;have h6:=gN (fi:=cw (aj 3)) (nT:=1) (cap:=[5]) (tg:=dD 0) (c:=bd (f2 dz (cW 0 1) (aj 1))) (fe:=aj 0) (ρ:=[sF (.lst (cs.map aT)),some (rt,false),sF (.int day),lT ((b::r).map aT),lT ((lY (b::r)).map .str),sF (.str ch.p),none]) (b::r) aT (λc=>decide (c.p=ch.p)) aT (by simp) (by omega) λc hc=>⟨_,rfl,cN (bv (.str c.p) (.str ch.p) (bv (aT c) (.int 1) (by simp[dL]) rfl (Pc c)) (by simp[dL]) (by simp)),λ_=>⟨false,by simp[dL]⟩⟩;obtain⟨b2,r2,hf⟩:∃b2 r2,(b::r).filter (λc=>decide (c.p=ch.p))=b2::r2:=by
    cases hq:(b::r).filter (λc=>decide (c.p=ch.p)) with
    |nil=>
     have:=List.filter_eq_nil_iff.mp hq _ o8;simp[ch]at this
    |cons b2 r2=>exact⟨b2,r2,rfl⟩
   rw[hf]at h6 ⊢;refine a9 j7 (fP (.str ch.p) (aJ [.lst ((b::r).map aT),.str rl] (cn (by simp) (aE (HH _ rfl) rfl)) (G8 rl b r)) rfl (fP (aT (mT b2 r2)) (G7 (bb:=true) h6) (mS _) (ay (aJ [.str "one",.str ch.p,.int (mT b2 r2).n] (cn rfl (cn rfl (aE (bv (aT (mT b2 r2)) (.int 4) rfl rfl (S1 _)) rfl))) (cD _ (by simp))))))
def LK:D->D
 |.tup ds=>.tup (sS ds none (some 2))
 |d=>d
def iQ (cs:List Cl)(o rl p:Str)(day:Int):Bool:=bB (LK (jT cs o rl day)) (.tup [.str "one",.str p])
theorem AW (n:Nat)(zs:List Str):(zs.map D.str).all (aq n)=true:=by
 induction zs with
 |nil=>rfl
 |cons a l ih=>simp
theorem DV (rl:Str)(al:List Cl):∃ds,pi rl al=.tup ds/\ds.all (aq 5)=true:=by
 cases al with
 |nil=>exact⟨_,rfl,by simp⟩
 |cons b r=>
  rw[pi];split
  ·exact⟨_,rfl,by simp only[List.all_cons,List.all_nil,aq,Bool.and_true,Bool.true_and];exact AW _ _⟩
  ·exact⟨_,rfl,by simp⟩
theorem G9 (h:ds.all (aq 5)=true):(sS ds lo hi).all (aq 5)=true:=by
 rw[List.all_eq_true]at h ⊢;exact λd hd=>h d (List.mem_of_mem_drop (List.mem_of_mem_take hd))
theorem uE (h:ds.all (aq 5)=true):aq 40 (.tup ds)=true:=jL 6 40 _ (by decide) (by simpa only[aq]using h)
theorem xa (cs:List Cl)(hl:cs.length<=60)(p:Str)(day:Int):cL [.lst (cs.map aT),row h ("root" : Str) [.str o,.int m,.int f,.str rl],.str p,.int day]=sF (.bl (iQ cs o rl p day)):=by
 have hb:=mU cs hl (h:=h) (o:=o) (rl:=rl) (m:=m) (f:=f) day;obtain⟨ds,e,hd⟩:=DV rl (Pd cs o day);have e':jT cs o rl day=.tup ds:=e;refine aw rfl (ay (bv (LK (jT cs o rl day)) (.tup [.str "one",.str p]) ?_ (by simp[sizeLine]) ?_))
 ·have hc:=Cj (F:=dP) (fa:=fV 0 (fV 1 (fV 3 ai))) (ρ:=[sF (.lst (cs.map aT)),some (row h ("root" : Str) [.str o,.int m,.int f,.str rl],false),sF (.str p),sF (.int day)]) (ds:=[.lst (cs.map aT),row h ("root" : Str) [.str o,.int m,.int f,.str rl],.int day]) rfl hb;rw[e']at hc ⊢;show Sq (fA dP (fV 0 (fV 1 (fV 3 ai)))) Fm (B8 (fI 2)) _=_;unfold Sq;rw[show(List.map (λd=>some (d,false)) [D.lst (cs.map aT),row h ("root" : Str) [.str o,.int m,.int f,.str rl],.str p,.int day]++List.replicate 0 none:DL.Env)=[sF (.lst (cs.map aT)),some (row h ("root" : Str) [.str o,.int m,.int f,.str rl],false),sF (.str p),sF (.int day)]from rfl,hc];rfl
 ·unfold iQ dz;rw[if_pos];rw[e'];exact⟨uE (G9 hd),uE (by simp)⟩
noncomputable def az (j:Nat):D->Str
 |.tup [_,.tup (_::aD)]=>match aD[j]? with
  |some (.str s)=>s
  |_=>("" : Str)
 |_=>("" : Str)
noncomputable def gO (j:Nat):D->Int
 |.tup [_,.tup (_::aD)]=>match aD[j]? with
  |some (.int s)=>s
  |_=>0
 |_=>0
theorem Cd.root_of (h:Cd ("root" : Str) r):∃o rl,∃m f:Int,r=[.str o,.int m,.int f,.str rl]:=by
 generalize hk:("root" : Str)=k at h;cases h with
 |root o rl m f=>exact⟨o,rl,m,f,rfl⟩
 |named=>exact cQ hk
 |chosen=>exact cQ hk
 |heir=>exact cQ hk
 |three _ hh=>rcases hh with rfl|rfl|rfl<;>exact cQ hk
 |other _ hh=>rcases hh with rfl|rfl|rfl|rfl|rfl<;>exact cQ hk
theorem uF {κ α:Type}[DecidableEq κ]{ks:List κ}{k:κ}{x y:α}:∀ {xs:List α},y∈dG ks xs k x->y=x∨y∈xs:=by
 intro xs h;unfold dG at h;split at h
 ·rename_i hk0;clear hk0;induction ks generalizing xs with
  |nil=>simp at h
  |cons a ks ih=>
   cases xs with
   |nil=>simp at h
   |cons b xs=>
    rw[List.zipWith_cons_cons,List.mem_cons]at h;rcases h with h|h
    ·split at h
     ·exact .inl h
     ·exact .inr (by rw[h];exact mX)
    ·rcases ih h with h|h
     ·exact .inl h
     ·exact .inr (mZ _ h)
 ·rcases List.mem_append.mp h with h|h
  ·exact .inr h
  ·exact .inl (uT h)
theorem uG:∀(l:List (cz×D))(a:List cz×List D)(y:D),y∈(l.foldl qI a).2->y∈a.2∨∃p∈l,p.2=y
 |[],a,y,h=>.inl h
 |p::l,a,y,h=>by
  rw[List.foldl_cons]at h;rcases uG l _ y h with h|⟨q,hq,e⟩
  ·rcases uF (show y∈dG a.1 a.2 p.1 p.2 from h)with h|h
   ·exact .inr ⟨p,mX,h.symm⟩
   ·exact .inl h
  ·exact .inr ⟨q,mZ _ hq,e⟩
theorem uH {α:Type}(f:α->Str)(g:α->D):∀(l:List α),iZ (l.map λx=>D.tup [.str (f x),g x])=some (l.map λx=>(.inr (f x),g x))
 |[]=>rfl
 |x::l=>by
  rw[uY,iZ,uH f g l];rfl
theorem rS {κ:Type}[DecidableEq κ]:∀ {ks:List κ}{vs:List D}{k:κ}{v:D},bS ks vs k=some v->v∈vs
 |k'::ks,d::ds,k,v,h=>by
  unfold bS at h;split at h
  ·cases h;exact mX
  ·exact mZ _ (rS h)
 |[],_,_,_,h=>by simp[bS]at h
 |_::_,[],_,_,h=>by simp[bS]at h
noncomputable def mV (KL:List (D×Nat)):List (cz×D):=(KL.filter λx=>bf x.1).map λx=>(.inr (az 0 x.1),x.1)
def C1 (KL:List (D×Nat))(o:Str):Option D:=bS (bT (mV KL)).1 (bT (mV KL)).2 (.inr o)
theorem rT (g:wW r)(h:bf r=true):∃a o rl,∃m f:Int,r=row a ("root" : Str) [.str o,.int m,.int f,.str rl]:=by
 obtain⟨a,k,aD,rfl,d⟩:=g;have hk:k = "root":=of_decide_eq_true h;subst hk;obtain⟨o,rl,m,f,rfl⟩:=d.root_of;exact⟨a,o,rl,m,f,rfl⟩
theorem dA (g:gA ab)(hx:x∈ak ab aa):lI ab (x.2:Int)=some x.1/\wW x.1:=⟨cH (bu hx),g.2 _ (vL (bu hx))⟩
theorem zi (g:gA ab)(h:C1 (ak ab aa) o=some v):∃a o2 rl,∃m f:Int,v=row a ("root" : Str) [.str o2,.int m,.int f,.str rl]:=by
 have hv:=rS h;rcases uG _ ([],[]) v hv with h|⟨p,hp,e⟩
 ·cases h
 ·obtain⟨x,hx,rfl⟩:=vO hp;obtain⟨h1,h2⟩:=vN hx;rw[←e];exact rT (dA g h1).2 h2
theorem rV (g:gA ab)(aa:Int):gn [.tup ab,.int aa]=sF (.dk (bT (mV (ak ab aa))).1 (bT (mV (ak ab aa))).2):=by
 have hl:=cq ab aa;have Bm:=g.1;have h1:=oK (fi:=cw (fA cF (fV 0 (fV 1 ai)))) (nT:=1) (cap:=[0]) (tg:=dD 0) (fe:=f2 bC (aj 1) (aj 0)) (ρ:=[sF (.tup ab),sF (.int aa),none]) (ak ab aa) (λx=>.int x.2) Prod.fst
  (by
   show(fA cF (fV 0 (fV 1 ai)) _).bind _=_;rw[aJ [.tup ab,.int aa] rfl (kP ab g.rp g.le aa)];rfl) (by omega) λx hx=>by
   have ha:=(dA g hx).1;exact⟨_,rfl,false,by simp[dL,ha]⟩
 have hn:bz ((ak ab aa).map Prod.fst)=true:=bP λd hd=>by
  obtain⟨x,hx,rfl⟩:=vO hd;exact(dA g hx).2.rp.flat
 have h2:=gN (fi:=cw (aj 2)) (nT:=1) (cap:=[]) (tg:=dD 0) (c:=bd (f2 dz (fA aL (fV 0 ai)) (fS "root"))) (fe:=fA aY (af (fA au (fV 0 (af (fS "office") ai))) (fV 0 ai)))
  (ρ:=[sF (.tup ab),sF (.int aa),lT ((ak ab aa).map Prod.fst)]) (ak ab aa) Prod.fst (λx=>bf x.1) (λx=>.tup [.str (az 0 x.1),x.1]) (by simp) (by omega) λx hx=>by
   have gr:=(dA g hx).2;refine⟨_,rfl,bM (a:=kindOf x.1) (bb:=false) (aJ [x.1] rfl (jh gr)) rfl,λhp=>⟨false,?_⟩⟩;obtain⟨a,o,rl,m,f,e⟩:=rT gr hp;refine aJ [.str (az 0 x.1),x.1] (cn (aJ [x.1,.str "office"] rfl ?_) rfl) (cD _ (by simp));rw[e];exact kR
 refine aw rfl (cy (ds:=(ak ab aa).map Prod.fst) h1 hn (ay (aJ [.lst (((ak ab aa).filter λx:D×Nat=>bf x.1).map λx:D×Nat=>D.tup [.str (az 0 x.1),x.1])] (aE h2 rfl) ?_)));rw[jG,uH (λx:D×Nat=>az 0 x.1) Prod.fst];rfl
def p8:D×Nat->List (D×Nat)->D×Nat
 |b,[]=>b
 |b,x::r=>if ba (kA x) (kA b)=some true then p8 x r else p8 b r
theorem xc:∀(r:List (D×Nat))(b:D×Nat),lC (kA b,.int b.2) (r.map λx=>(kA x,D.int x.2))=.int (p8 b r).2
 |[],b=>rfl
 |x::r,b=>by
  rw[uY,lC,p8];split
  ·exact xc r x
  ·exact xc r b
def i6 (KL:List (D×Nat))(p:Str)(day:Int)(i:Nat):Bool:=match KL.filter (λx=>told dW p day x.1) with
 |[]=>false
 |b::r=>decide ((p8 b r).2=i)
theorem GA (g:gA ab)(aa:Int)(hx:x∈ak ab aa)(e:x.1=row a ("death" : Str) [.int d,.str p]):gd [.tup ab,.int aa,.int x.2]=sF (.bl (i6 (ak ab aa) p d x.2)):=by
 have ha:=(dA g hx).1;have gx:=(dA g hx).2;have ht:=wU ab g.rp g.le aa dW jM p d;have zO:au [x.1,.str "person"]=sF (.str p):=by rw[e];exact bo (i:=1) dj rfl
 have xu:aP [x.1]=sF (.int d):=by rw[e];exact jy (.inl (by decide +kernel)) rfl
 have o8:x∈p7 ab aa dW p d:=List.mem_filter.mpr ⟨hx,by rw[e];simp[told,row,dW,uC]⟩;have Zv:i6 (ak ab aa) p d x.2=match p7 ab aa dW p d with|[]=>false|b::r=>decide ((p8 b r).2=x.2):=rfl
 have key:∀y∈p7 ab aa dW p d,∃h k dd,ab[y.2]? = some (row h k [.int dd,.str p])/\y.1=row h k [.int dd,.str p]/\cX k=true:=λy hy=>by
  obtain⟨hg,Vi⟩:=Cv hy;obtain⟨h,k,dd,e2,h3,_⟩:=rG jM (g.rp _ (vL hg)) Vi;exact⟨h,k,dd,by rw[hg,e2],e2,h3⟩
 rw[Zv];cases hs:p7 ab aa dW p d with
 |nil=>rw[hs]at o8;cases o8
 |cons b r=>
  rw[hs]at ht key;have hm:∀ρ:DL.Env,ρ[0]? = some (sF (.tup ab))->jr (qA [0] (fA eX (fV 1 (fV 0 ai))) ρ) ((b::r).map λy=>.int y.2)=some ((b::r).map λy=>.tup [.int (aG y.1),.int y.2]):=λρ h0=>
   iu (b::r) λy hy=>by
    obtain⟨h,k,dd,hg,e2,h3⟩:=key y hy;show(fA eX _ _).map _=_;rw[aJ [.tup ab,.int y.2] (by simp[dL,h0]) (Cw hg h3),e2];rfl
  have hk:dE ((b::r).map λy=>D.tup [.int (aG y.1),.int y.2])=some ((b::r).map kA):=hV _ λy _=>rfl;have hz:((b::r).map kA).zip ((b::r).map λy=>D.int y.2)=(kA b,D.int b.2)::r.map λy=>(kA y,D.int y.2):=by rw[List.zip_map'];rfl
  have vp:bz ((b::r).map λy=>D.int y.2)=true:=bP λd hd=>by obtain⟨y,_,rfl⟩:=vO hd;rfl
  refine aw rfl (fP x.1 (by simp[ha]) gx.rp.flat (cy (ds:=(b::r).map λy=>.int y.2) (aJ [.tup ab,.int aa,.tup (dW.map .str),.str p,.int d] (cn rfl (cn rfl (cn (aJ [.str "death"] rfl (cD _ (by simp))) (aE (aJ [x.1,.str "person"] rfl zO) (aE (aJ [x.1] rfl xu) rfl))))) ht) vp (ay (bv (.int (p8 b r).2) (.int x.2) ?_ rfl ?_))))
  ·unfold uo NR;show((some (D.lst ((b::r).map λy=>D.int y.2),false)).bind _)=_;rw[vJ];dsimp only;rw[hm _ rfl,vJ,hk,vJ,if_pos (wV _),hz];show some (lC _ _,false)=_;rw[xc]
  ·rw[wT];congr 3;apply decide_eq_decide.mpr;omega
abbrev KL:=List (D×Nat)
noncomputable def rW (K:KL)(p:Str)(day:Int):Bool:=(K.filter λx=>told dW p day x.1).isEmpty
def QY (K:KL)(p:Str)(day:Int):Bool:=match LJ (K.filter λx=>told mR p day x.1) with
 |none=>true
 |some x=>decide (kindOf x.1 = "found")
def xf (K:KL)(r:D):Bool:=dS (kindOf r) && (rW K (de r) (aG r) && QY K (de r) (aG r))
def GB (r:D):Str:=if kindOf r = "named" then az 1 r else az 2 r
noncomputable def xg:List Str:=[("named" : Str),"chosen","heir"]
def cM (K:KL)(so:List Cl)(x:D×Nat):Bool :=
 if kindOf x.1 = "death" then i6 K (az 1 x.1) (aG x.1) x.2
 else if kindOf x.1∈xg then match C1 K (GB x.1) with
  |none=>false
  |some v=>if kindOf x.1 = "named" then true else xf K x.1 && iQ so (az 0 v) (az 3 v) (az 1 x.1) (aG x.1)
 else false
theorem Kd (ab:List D)(aa:Int)(p:Str)(day:Int):ou ab aa p day=rW (ak ab aa) p day:=rfl
theorem Ke (h:bi r<=aa):jg ab aa r=xf (ak ab aa) r:=by
 unfold jg xf;rw[decide_eq_true h,Bool.true_and];rfl
theorem DW (g:gA ab)(aa:Int)(so:List Cl)(sL:so.length<=60)(hx:x∈ak ab aa)(Pz:bf x.1=false):mI [.tup ab,.int aa,.lst (so.map aT),.int x.2]=sF (.bl (cM (ak ab aa) so x)):=by
 obtain⟨ha,gx⟩:=dA g hx;have hh:bi x.1<=aa:=of_decide_eq_true (vN hx).2;have hf:be x.1=true:=gx.rp.flat;have hw:∀ρ:DL.Env,ρ[4]? = some (some (x.1,false))->fA aL (fV 4 ai) ρ=sF (.str (kindOf x.1)):=λρ h4=>aJ [x.1] (by simp[h4]) (jh gx);have SU:∀ρ:DL.Env,ρ[4]? = some (some (x.1,false))->bd (f2 eS (fA aL (fV 4 ai)) (fA aY (af (fS "named") (af (fS "chosen") (af (fS "heir") ai))))) ρ=some (!decide (kindOf x.1∈xg)):=λρ h4=>
  cN (bv (.str (kindOf x.1)) (.tup (xg.map .str)) (hw ρ h4) (by simp[sizeLine,xg]) (pb _ _))
 by_cases hd:kindOf x.1 = "death"
 ·obtain⟨a,k,aD,e,d⟩:=gx;have hk:k = "death":=by rw[e]at hd;exact hd
  subst hk;obtain⟨dd,p,rfl⟩:=d.deed.three (by decide +kernel);have hc:cM (ak ab aa) so x=i6 (ak ab aa) p dd x.2:=by
   unfold cM;rw[if_pos hd,e];rfl
  rw[hc];exact aw rfl (fP x.1 (by simp[ha]) hf (b9 (bM (bb:=false) (hw _ rfl) (decide_eq_true hd)) (ay (aJ [.tup ab,.int aa,.int x.2] rfl (GA g aa hx e)))))
 ·by_cases h3:kindOf x.1∈xg
  ·have OF:au [x.1,.str "office"]=sF (.str (GB x.1)):=by
    obtain⟨a,k,aD,e,d⟩:=gx;rw[e]at h3 hd Pz ⊢;replace h3:k∈xg:=h3;clear hd Pz;cases d with
    |root=>exact cQ h3
    |named d o p=>exact bo (i:=1) dj rfl
    |chosen d b o p s=>exact bo (i:=2) dj rfl
    |heir d b o p=>exact bo (i:=2) dj rfl
    |three _ hk=>rcases hk with rfl|rfl|rfl<;>exact cQ h3
    |other _ hk=>rcases hk with rfl|rfl|rfl|rfl|rfl<;>exact cQ h3
   have e5:∀ρ:DL.Env,ρ[0]? = some (sF (.tup ab))->ρ[1]? = some (sF (.int aa))->ρ[4]? = some (some (x.1,false))->f2 FZ (fA gn (fV 0 (fV 1 ai))) (fA au (fV 4 (af (fS "office") ai))) ρ=some ((C1 (ak ab aa) (GB x.1)).getD .non,false):=λρ q0 q1 q4=>
    bv (.dk (bT (mV (ak ab aa))).1 (bT (mV (ak ab aa))).2) (.str (GB x.1)) (aJ [.tup ab,.int aa] (by simp[q0,q1]) (rV g aa)) (aJ [x.1,.str "office"] (by simp[q4]) OF) rfl
   cases hr:C1 (ak ab aa) (GB x.1) with
   |none=>
    rw[hr]at e5;have hc:cM (ak ab aa) so x=false:=by unfold cM;rw[if_neg hd,if_pos h3,hr]
    rw[hc];exact aw rfl (fP x.1 (by simp[ha]) hf (a9 (bM (bb:=false) (hw _ rfl) (decide_eq_false hd)) (a9 (by rw[SU _ rfl,decide_eq_true h3];rfl) (fP .non (e5 _ rfl rfl rfl) rfl (b9 (cN (bv .non .non rfl rfl (by simp))) (ay rfl))))))
   |some v=>
    rw[hr]at e5;obtain⟨va,vo,vrl,vm,vf,ev⟩:=zi g hr;have Xa:be v=true:=by rw[ev];rfl
    have Xb:E3 v .non=sF (.bl false):=by rw[ev];simp[row]
    by_cases hn:kindOf x.1 = "named"
    ·have hc:cM (ak ab aa) so x=true:=by unfold cM;rw[if_neg hd,if_pos h3,hr];dsimp only;rw[if_pos hn]
     rw[hc];exact aw rfl (fP x.1 (by simp[ha]) hf (a9 (bM (bb:=false) (hw _ rfl) (decide_eq_false hd)) (a9 (by rw[SU _ rfl,decide_eq_true h3];rfl) (fP v (e5 _ rfl rfl rfl) Xa (a9 (cN (bv v .non rfl rfl Xb)) (b9 (bM (bb:=false) (hw _ rfl) (decide_eq_true hn)) (ay rfl)))))))
    ·have hc:cM (ak ab aa) so x=(xf (ak ab aa) x.1 && iQ so (az 0 v) (az 3 v) (az 1 x.1) (aG x.1)):=by unfold cM;rw[if_neg hd,if_pos h3,hr];dsimp only;rw[if_neg hn]
     have Xc:au [x.1,.str "by"]=sF (.str (az 1 x.1))/\aP [x.1]=sF (.int (aG x.1)):=by
      refine⟨?_,by rw[rK gx];unfold sZ;rw[Pz];rfl⟩;obtain⟨a,k,aD,e,d⟩:=gx;rw[e]at h3 hn ⊢;replace h3:k∈xg:=h3;cases d with
      |root=>exact cQ h3
      |named=>exact absurd rfl hn
      |chosen d b o p s=>exact bo (i:=1) dj rfl
      |heir d b o p=>exact bo (i:=1) dj rfl
      |three _ hk=>rcases hk with rfl|rfl|rfl<;>exact cQ h3
      |other _ hk=>rcases hk with rfl|rfl|rfl|rfl|rfl<;>exact cQ h3
     have hs:=rJ ab g.rp g.le aa (bu hx);rw[Ke hh]at hs;have HI:cL [.lst (so.map aT),v,.str (az 1 x.1),.int (aG x.1)]=sF (.bl (iQ so (az 0 v) (az 3 v) (az 1 x.1) (aG x.1))):=by
      rw[ev];exact xa so sL _ _
     rw[hc];refine aw rfl (fP x.1 (by simp[ha]) hf (a9 (bM (bb:=false) (hw _ rfl) (decide_eq_false hd)) (a9 (by rw[SU _ rfl,decide_eq_true h3];rfl) (fP v (e5 _ rfl rfl rfl) Xa (a9 (cN (bv v .non rfl rfl Xb)) (a9 (bM (bb:=false) (hw _ rfl) (decide_eq_false hn)) (ay ?_)))))));exact dC (b1:=false) (aJ [.tup ab,.int aa,.int x.2] rfl hs) λ_=>aJ [.lst (so.map aT),v,.str (az 1 x.1),.int (aG x.1)] (cn rfl (cn rfl (aE (aJ [x.1,.str "by"] rfl Xc.1) (aE (aJ [x.1] rfl Xc.2) rfl)))) HI
  ·have hc:cM (ak ab aa) so x=false:=by unfold cM;rw[if_neg hd,if_neg h3]
   rw[hc];exact aw rfl (fP x.1 (by simp[ha]) hf (a9 (bM (bb:=false) (hw _ rfl) (decide_eq_false hd)) (b9 (by rw[SU _ rfl,decide_eq_false h3];rfl) (ay rfl))))
def gg (dm:List Str)(p:Str)(day:Int)(c:Cl):List Cl :=
 if(!decide (c.o∈dm) || (!decide (c.p=p) || !(iw c day || decide (day<c.s))))=true then [c]else if c.s<day then [⟨c.o,p,c.s,some day,c.n⟩]else []
noncomputable def bW (so:List Cl)(dm:List Str)(p:Str)(day:Int):List Cl:=so.flatMap (gg dm p day)
theorem gh (dm:List Str)(p:Str)(day:Int):∀so:List Cl,(bW so dm p day).length<=so.length
 |[]=>vT _
 |c::so=>by
  unfold bW;rw[uO,uZ,vE];have h1:=gh dm p day so;have h2:(gg dm p day c).length<=1:=by
   unfold gg;split
   ·simp
   ·split<;>simp
  unfold bW at h1;omega
theorem AX (k:Str)(ws:List Str):eS (.str k) (.lst (ws.map .str))=sF (.bl (!decide (k∈ws))):=by
 simp only[eS,gM,vJ,rE];rw[if_pos ⟨rfl,oq ws⟩]
theorem zj (so:List Cl)(sL:so.length<=60)(dm:List Str)(p:Str)(day:Int):pN [.lst (so.map aT),.lst (dm.map .str),.str p,.int day]=lT ((bW so dm p day).map aT):=by
 obtain⟨ρ',e,v5,rfl⟩:=ij (tg:=dD 5) (g:=rb) (λj ρ=>∃v5:OB,ρ=[sF (.lst (so.map aT)),sF (.lst (dm.map .str)),sF (.str p),sF (.int day),lT ((bW (so.take j) dm p day).map aT),v5]) (so.map aT)
  [sF (.lst (so.map aT)),sF (.lst (dm.map .str)),sF (.str p),sF (.int day),lT [],none] ⟨none,rfl⟩ (by
   rintro j d ρ hd ⟨v5,rfl⟩;rw[vA]at hd;obtain⟨c,hc,rfl⟩:=oY hd;have hj:j<so.length:=(vV hc).1;have et:bW (so.take (j+1)) dm p day=bW (so.take j) dm p day++gg dm p day c:=by
    unfold bW;rw[List.take_add_one,hc,Option.toList_some,List.flatMap_append,uO,List.flatMap_nil,uQ]
   have bJ:(bW (so.take j) dm p day).length<=60:=vR (gh dm p day _) (by rw[List.length_take];omega);let ρ1:DL.Env:=[sF (.lst (so.map aT)),sF (.lst (dm.map .str)),sF (.str p),sF (.int day),lT ((bW (so.take j) dm p day).map aT),some (aT c,false)];have q0:cW 5 0 ρ1=sF (.str c.o):=bv (aT c) (.int 0) rfl rfl (QW c);have q1:cW 5 1 ρ1=sF (.str c.p):=bv (aT c) (.int 1) rfl rfl (Pc c);have q2:cW 5 2 ρ1=sF (.int c.s):=bv (aT c) (.int 2) rfl rfl (Sz c);have q4:cW 5 4 ρ1=sF (.int c.n):=bv (aT c) (.int 4) rfl rfl (S1 c);have j7:gQ (bd (f2 eS (cW 5 0) (aj 1))) (gQ (bd (f2 oC (cW 5 1) (aj 2))) (eI (gQ (bd (fA cP (fV 5 (fV 3 ai)))) (bd (f2 HR (cW 5 2) (aj 3)))))) ρ1=some (!decide (c.o∈dm) || (!decide (c.p=p) || !(iw c day || decide (day<c.s)))) :=
    c7 (cN (bv (.str c.o) (.lst (dm.map .str)) q0 rfl (AX _ _))) λ_=>c7 (cN (bv (.str c.p) (.str p) q1 rfl (by simp))) λ_=>bZ (c7 (cN (aJ [aT c,.int day] rfl (rL c day))) λ_=>cN (bv (.int c.s) (.int day) q2 rfl (by simp)))
   by_cases h1:(!decide (c.o∈dm) || (!decide (c.p=p) || !(iw c day || decide (day<c.s))))=true
   ·have eo:gg dm p day c=[c]:=by unfold gg;rw[if_pos h1]
    rw[h1]at j7;refine⟨_,_,rfl,.inl (lw j7 (jH (ds:=(bW (so.take j) dm p day).map aT) (d:=aT c) (b:=false) rfl rfl (mS c) (bE (by simp;omega)))),some (aT c,false),?_⟩;rw[et,eo,uW];rfl
   ·rw[Bool.not_eq_true]at h1;rw[h1]at j7;by_cases h2:c.s<day
    ·have eo:gg dm p day c=[⟨c.o,p,c.s,some day,c.n⟩]:=by unfold gg;rw[if_neg (by rw[h1];decide),if_pos h2]
     refine⟨_,_,rfl,.inl (jY j7 (lw (cN (bv (.int c.s) (.int day) q2 rfl (by simp[h2]))) (jH (ds:=(bW (so.take j) dm p day).map aT) (d:=aT ⟨c.o,p,c.s,some day,c.n⟩) (b:=false) rfl (aJ [.str c.o,.str p,.int c.s,.int day,.int c.n] (aE q0 (cn rfl (aE q2 (cn rfl (aE q4 rfl))))) (cD _ (by simp))) (mS _) (bE (by simp;omega))))),some (aT c,false),?_⟩;rw[et,eo,uW];rfl
    ·have eo:gg dm p day c=[]:=by unfold gg;rw[if_neg (by rw[h1];decide),if_neg h2]
     refine⟨_,_,rfl,.inl (jY j7 (jY (cN (bv (.int c.s) (.int day) q2 rfl (by simp;omega))) rfl)),some (aT c,false),?_⟩;rw[et,eo,uQ];rfl)
 have e':iU (dD 5) rb (so.map aT) [sF (.lst (so.map aT)),sF (.lst (dm.map .str)),sF (.str p),sF (.int day),lT [],none]=some (.nx [sF (.lst (so.map aT)),sF (.lst (dm.map .str)),sF (.str p),sF (.int day),lT ((bW so dm p day).map aT),v5]):=by
  rw[e];have:so.take (so.map aT).length=so:=by rw[vI,List.take_length]
  rw[this]
 exact aw rfl (cy (ds:=[]) (by simp[sizeLine]) rfl (dn (mF (ds:=so.map aT) (by simp[mr]) e') (pL rfl)))
theorem LL (ho:au [r,.str "office"]=sF (.str o))(hp:au [r,.str "person"]=sF (.str p))(s:Int)(n:Nat):g8 [r,.int s,.int n]=some (aT ⟨o,p,s,none,n⟩,false) :=
 aw rfl (ay (aJ [.str o,.str p,.int s,.non,.int n] (aE (aJ [r,.str "office"] rfl ho) (aE (aJ [r,.str "person"] rfl hp) rfl)) (cD _ (by simp))))
theorem DX (so:List Cl)(sL:so.length<=60)(n:Nat):io [.lst (so.map aT),row a ("chosen" : Str) [.int d,.str b,.str o,.str p,.int s],.int n]=lT ((bW so [o] b s++[(⟨o,p,s,none,n⟩:Cl)]).map aT):=by
 let r:D:=row a ("chosen" : Str) [.int d,.str b,.str o,.str p,.int s];have ho:au [r,.str "office"]=sF (.str o):=bo (i:=2) dj rfl;have hp:au [r,.str "person"]=sF (.str p):=bo (i:=3) dj rfl;have hb:au [r,.str "by"]=sF (.str b):=bo (i:=1) dj rfl;have hs:au [r,.str "since"]=sF (.int s):=bo (i:=4) dj rfl;have hl:=gh [o] b s so;refine aw rfl (fP (.int s) (aJ [r,.str "since"] rfl hs) rfl (cy (ds:=(bW so [o] b s).map aT) (aJ [.lst (so.map aT),.lst ([o].map .str),.str b,.int s] (cn rfl (aE (b:=true) (aJ [.str o] (aE (aJ [r,.str "office"] rfl ho) rfl) (gJ _ (by simp))) (aE (aJ [r,.str "by"] rfl hb) rfl))) (zj so sL [o] b s)) (j0 _) (ay ?_)));refine gS (x:=.lst ((bW so [o] b s).map aT)) (y:=.lst [aT ⟨o,p,s,none,n⟩]) (b1:=false) (b2:=true) rfl (aJ [aT ⟨o,p,s,none,n⟩] (aE (aJ [r,.int s,.int n] rfl (LL ho hp s n)) rfl) (gJ _ (by simp))) ?_;rw[uW];exact if_pos (dN (by rw[vI,List.length_singleton];omega))
noncomputable def zk (hk:List (List cz))(hv:List D)(o p:Str):Option Str:=match bS hk hv [.inr o,.inr p] with
 |some (.str h)=>some h
 |_=>none
def dX (K:KL)(hk:List (List cz))(hv:List D)(p:Str)(day:Int)(n:Nat)(o:Str):List Cl:=match zk hk hv o p with
 |some h=>if rW K h day=true then [⟨o,h,day,none,n⟩]else []
 |none=>[]
def dw (so:List Cl)(p:Str)(day:Int):List Str:=lB (iE ((so.filter λc=>decide (c.p=p) && iw c day).map (·.o)))
def rX (K:KL)(so:List Cl)(hk:List (List cz))(hv:List D)(p:Str)(day:Int)(n:Nat):List Cl:=(dw so p day).flatMap (dX K hk hv p day n)
theorem lZ (K:KL)(hk:List (List cz))(hv:List D)(p:Str)(day:Int)(n:Nat)(o:Str):(dX K hk hv p day n o).length<=1:=by
 unfold dX;split
 ·split<;>simp
 ·simp
theorem rY {α β:Type}(f:α->List β)(h:∀a,(f a).length<=1):∀l:List α,(l.flatMap f).length<=l.length
 |[]=>vT _
 |a::l=>by
  rw[uO,uZ,vE];have:=h a;have:=rY f h l;omega
theorem zl (so:List Cl)(p:Str)(day:Int):(dw so p day).length<=so.length:=by
 unfold dw;rw[(fZ _).length_eq];refine vR (ql _) ?_;rw[vI];exact vM _ _
theorem xh (g:gA ab)(aa:Int)(so:List Cl)(sL:so.length<=60)(hk:List (List cz))(hv:List D)(Vj:∀v∈hv,∃s,v=.str s)(hx:x∈ak ab aa)(e:x.1=row a ("death" : Str) [.int d,.str p]):
  kI [.tup ab,.int aa,.lst (so.map aT),.dt hk hv,.int x.2]=lT ((rX (ak ab aa) so hk hv p d x.2).map aT):=by
 have ha:=(dA g hx).1;have zO:au [x.1,.str "person"]=sF (.str p):=by rw[e];exact bo (i:=1) dj rfl
 have xu:aP [x.1]=sF (.int d):=by rw[e];exact jy (.inl (by decide +kernel)) rfl
 have Xd:=zl so p d;have RP:∀(o:Str)(l:List Cl)(v9:OB),l.length<=60->gU [sF (.tup ab),sF (.int aa),sF (.lst (so.map aT)),sF (.dt hk hv),sF (.int x.2),sF (.str p),sF (.int d),lT (l.map aT),sF (.str o),v9]=some (.nx [sF (.tup ab),sF (.int aa),sF (.lst (so.map aT)),sF (.dt hk hv),sF (.int x.2),sF (.str p),sF (.int d),lT ((l++dX (ak ab aa) hk hv p d x.2 o).map aT),sF (.str o),some ((bS hk hv [.inr o,.inr p]).getD .non,false)]):=λo l v9 hl=>by
  have eg:Gi (aj 3) (fV 8 (fV 5 ai)) [sF (.tup ab),sF (.int aa),sF (.lst (so.map aT)),sF (.dt hk hv),sF (.int x.2),sF (.str p),sF (.int d),lT (l.map aT),sF (.str o),v9]=some ((bS hk hv [.inr o,.inr p]).getD .non,false):=by
   simp[iK,sizeLine]
  cases hlk:bS hk hv [.inr o,.inr p] with
  |none=>
   rw[hlk]at eg;have ei:dX (ak ab aa) hk hv p d x.2 o=[]:=by unfold dX zk;rw[hlk]
   rw[ei,uQ];exact fP .non eg rfl (jY (fG (p:=false) (q:=false) (cN (by simp)) (by simp)) rfl)
  |some v=>
   obtain⟨h,rfl⟩:=Vj v (rS hlk);rw[hlk]at eg;have RQ:=zf ab g.rp g.le aa h d;rw[Kd]at RQ;have RS:∀ρ:DL.Env,ρ[0]? = some (sF (.tup ab))->ρ[1]? = some (sF (.int aa))->ρ[6]? = some (sF (.int d))->ρ[9]? = some (sF (.str h))->fu (bd (f2 kq (aj 9) (fC .non))) (bd (fA mG (fV 0 (fV 1 (fV 9 (fV 6 ai)))))) ρ=some (true && rW (ak ab aa) h d):=λρ q0 q1 q6 q9=>
    fG (cN (by simp[q9])) λ_=>cN (aJ [.tup ab,.int aa,.str h,.int d] (by simp[q0,q1,q6,q9]) RQ)
   cases Bm:rW (ak ab aa) h d with
   |false=>
    have ei:dX (ak ab aa) hk hv p d x.2 o=[]:=by unfold dX zk;rw[hlk];dsimp only;rw[Bm];rfl
    rw[ei,uQ];exact fP (.str h) eg rfl (jY (by rw[RS _ rfl rfl rfl rfl,Bm];rfl) rfl)
   |true=>
    have ei:dX (ak ab aa) hk hv p d x.2 o=[⟨o,h,d,none,x.2⟩]:=by unfold dX zk;rw[hlk];dsimp only;rw[Bm];rfl
    rw[ei,uW];exact fP (.str h) eg rfl (lw (by rw[RS _ rfl rfl rfl rfl,Bm];rfl) (jH (ds:=l.map aT) (d:=aT ⟨o,h,d,none,x.2⟩) (b:=false) rfl (aJ [.str o,.str h,.int d,.non,.int x.2] rfl (cD _ (by simp))) rfl (bE (by simp;omega))))
 obtain⟨ρ',el,v8,v9,rfl⟩:=ij (tg:=dD 8) (g:=gU) (λj ρ=>∃v8 v9:OB,ρ=[sF (.tup ab),sF (.int aa),sF (.lst (so.map aT)),sF (.dt hk hv),sF (.int x.2),sF (.str p),sF (.int d),lT ((((dw so p d).take j).flatMap (dX (ak ab aa) hk hv p d x.2)).map aT),v8,v9]) ((dw so p d).map .str)
  [sF (.tup ab),sF (.int aa),sF (.lst (so.map aT)),sF (.dt hk hv),sF (.int x.2),sF (.str p),sF (.int d),lT [],none,none] ⟨none,none,rfl⟩ (by
   rintro j dd ρ hd ⟨v8,v9,rfl⟩;rw[vA]at hd;obtain⟨o,ho,rfl⟩:=oY hd;have hl:(((dw so p d).take j).flatMap (dX (ak ab aa) hk hv p d x.2)).length<=60:=vR (rY _ (lZ _ _ _ _ _ _) _) (by rw[List.length_take];omega);refine⟨_,_,rfl,.inl (RP o _ v9 hl),sF (.str o),some ((bS hk hv [.inr o,.inr p]).getD .non,false),?_⟩;rw[List.take_add_one,ho,Option.toList_some,List.flatMap_append,uO,List.flatMap_nil,uQ])
 have e':iU (dD 8) gU ((dw so p d).map .str) [sF (.tup ab),sF (.int aa),sF (.lst (so.map aT)),sF (.dt hk hv),sF (.int x.2),sF (.str p),sF (.int d),lT [],none,none]=some (.nx [sF (.tup ab),sF (.int aa),sF (.lst (so.map aT)),sF (.dt hk hv),sF (.int x.2),sF (.str p),sF (.int d),lT ((rX (ak ab aa) so hk hv p d x.2).map aT),v8,v9]):=by
  rw[el];have:(dw so p d).take ((dw so p d).map D.str).length=dw so p d:=by rw[vI,List.take_length]
  rw[this];rfl
 have KU:∀ρ:DL.Env,ρ[2]? = some (sF (.lst (so.map aT)))->ρ[5]? = some (sF (.str p))->ρ[6]? = some (sF (.int d))->cw (f1 gz (bR (cw (aj 2)) 1 [5,6] (dD 0) (fu (bd (f2 dz (cW 0 1) (aj 1))) (bd (fA cP (fV 0 (fV 2 ai))))) (cW 0 0))) ρ=some ((dw so p d).map .str):=λρ q2 q5 q6=>by
  have hc:=gN (fi:=cw (aj 2)) (nT:=1) (cap:=[5,6]) (tg:=dD 0) (c:=fu (bd (f2 dz (cW 0 1) (aj 1))) (bd (fA cP (fV 0 (fV 2 ai))))) (fe:=cW 0 0) (ρ:=ρ) so aT (λc=>decide (c.p=p) && iw c d) (λc=>.str c.o) (by simp[q2]) (by omega) λc hc=>
   ⟨_,rfl,fG (cN (bv (.str c.p) (.str p) (bv (aT c) (.int 1) (by simp[dL]) rfl (Pc c)) (by simp[dL,q5]) (by simp))) λ_=>cN (aJ [aT c,.int d] (by simp[dL,q6]) (rL c d)),λ_=>⟨false,bv (aT c) (.int 0) (by simp[dL]) rfl (QW c)⟩⟩
  have e2:(so.filter λc=>decide (c.p=p) && iw c d).map (λc=>D.str c.o)=((so.filter λc=>decide (c.p=p) && iw c d).map (·.o)).map .str:=by rw[uP];rfl
  rw[e2]at hc;show(f1 gz _ ρ).bind _=_;unfold f1;rw[hc,vJ];have Zw:((so.filter λc=>decide (c.p=p) && iw c d).map (·.o)).length<64:=by rw[vI];exact Nat.lt_of_le_of_lt (vM _ _) (by omega)
  show((ia _).bind _).bind _=_;rw[rR,vJ,if_pos Zw];rfl
 refine aw rfl (fP (.str p) (aJ [x.1,.str "person"] (by simp[ha]) zO) rfl (fP (.int d) (aJ [x.1] (by simp[ha]) xu) rfl (cy (ds:=[]) (by simp[sizeLine]) rfl (dn (ρ':=[sF (.tup ab),sF (.int aa),sF (.lst (so.map aT)),sF (.dt hk hv),sF (.int x.2),sF (.str p),sF (.int d),lT ((rX (ak ab aa) so hk hv p d x.2).map aT),v8,v9]) ?_ (pL rfl)))));exact mF (ρ:=[sF (.tup ab),sF (.int aa),sF (.lst (so.map aT)),sF (.dt hk hv),sF (.int x.2),sF (.str p),sF (.int d),lT [],none,none]) (KU _ rfl rfl rfl) e'
theorem GC (g:gA ab)(aa:Int)(so:List Cl)(sL:so.length<=60)(hk:List (List cz))(hv:List D)(Vj:∀v∈hv,∃s,v=.str s)(hx:x∈ak ab aa)(e:x.1=row a ("death" : Str) [.int d,.str p]):
  jd [.tup ab,.int aa,.lst (so.map aT),.dt hk hv,.int x.2]=lT ((bW so (so.map Cl.o) p d++rX (ak ab aa) so hk hv p d x.2).map aT):=by
 have ha:=(dA g hx).1;have zO:au [x.1,.str "person"]=sF (.str p):=by rw[e];exact bo (i:=1) dj rfl
 have xu:aP [x.1]=sF (.int d):=by rw[e];exact jy (.inl (by decide +kernel)) rfl
 have h1:=oK (fi:=cw (aj 2)) (nT:=1) (cap:=[]) (tg:=dD 0) (fe:=cW 0 0) (ρ:=[sF (.tup ab),sF (.int aa),sF (.lst (so.map aT)),sF (.dt hk hv),sF (.int x.2),none,none]) so aT (λc=>.str c.o) (by simp) (by omega) λc hc=>⟨_,rfl,false,bv (aT c) (.int 0) (by simp[dL]) rfl (QW c)⟩;have e2:so.map (λc=>D.str c.o)=(so.map Cl.o).map .str:=by rw[uP];rfl
 rw[e2]at h1;have Mb:=gh (so.map Cl.o) p d so;have Bm:(rX (ak ab aa) so hk hv p d x.2).length<=60:=vR (rY _ (lZ _ _ _ _ _ _) _) (vR (zl so p d) sL);refine aw rfl (cy (ds:=(so.map Cl.o).map .str) h1 (dU _) (cy (ds:=(bW so (so.map Cl.o) p d).map aT) (aJ [.lst (so.map aT),.lst ((so.map Cl.o).map .str),.str p,.int d] (cn rfl (cn rfl (cn (aJ [x.1,.str "person"] (by simp[ha]) zO) (cn (aJ [x.1] (by simp[ha]) xu) rfl)))) (zj so sL _ p d)) (j0 _) (ay ?_)));refine gS (x:=.lst ((bW so (so.map Cl.o) p d).map aT)) (y:=.lst ((rX (ak ab aa) so hk hv p d x.2).map aT)) (b1:=false) (b2:=true) rfl (aJ [.tup ab,.int aa,.lst (so.map aT),.dt hk hv,.int x.2] rfl (xh g aa so sL hk hv Vj hx e)) ?_;rw[uW];exact if_pos (dN (by rw[vI,vI];omega))
abbrev Pe:=List Cl×List (List cz)×List D
def eK (K:KL)(st:Pe)(x:D×Nat):Pe :=
 if cM K st.1 x=true then
  if kindOf x.1 = "named" then (st.1++[⟨az 1 x.1,az 2 x.1,aG x.1,none,x.2⟩],st.2)
  else if kindOf x.1 = "chosen" then (bW st.1 [az 2 x.1] (az 1 x.1) (gO 4 x.1)++[⟨az 2 x.1,az 3 x.1,gO 4 x.1,none,x.2⟩],st.2)
  else if kindOf x.1 = "heir" then (st.1,dF st.2.1 [.inr (az 2 x.1),.inr (az 1 x.1)],dG st.2.1 st.2.2 [.inr (az 2 x.1),.inr (az 1 x.1)] (.str (az 3 x.1)))
  else (bW st.1 (st.1.map Cl.o) (az 1 x.1) (aG x.1)++rX K st.1 st.2.1 st.2.2 (az 1 x.1) (aG x.1) x.2,st.2)
 else st
def cR (K:KL):KL:=eD (λx=>cO (kA x)) (K.filter λx=>!bf x.1)
noncomputable def mW (K:KL)(l:KL):Pe:=l.foldl (eK K) ([],[],[])
noncomputable def kC (c:Cl):List At:=[.s c.o,.i c.s,.i c.n]
def bp (K:KL):List Cl:=eD (λc=>cO (kC c)) (mW K (cR K)).1
noncomputable def AY:List cz->Str
 |[_,.inr p]=>p
 |_=>("" : Str)
noncomputable def Kf (dd:List Str)(ks:List (List cz)):Nat:=(ks.filter λk=>decide (AY k∉dd)).length
structure zP (K l:KL)(dd:List Str)(st:Pe):Prop where
 len:st.1.length+Kf dd st.2.1<=l.length
 ded:∀q∈dd,∃y∈l,i6 K q (aG y.1) y.2=true
 nod:(st.1.map λc=>(c.o,c.n)).Nodup
 num:∀c∈st.1,c.n∈l.map (·.2)
 hs:∀v∈st.2.2,∃s,v=D.str s
 hk:st.2.1.length<=l.length
theorem C2 (h:told ws p d r=true):aG r<=d/\∀d',aG r<=d'->told ws p d' r=true:=by
 unfold told at h;split at h
 ·rename_i k aD;rw[vC]at h;obtain⟨h1,h2⟩:=h;unfold uC at h2;split at h2
  ·rename_i dd q;rw[vC]at h2;refine⟨of_decide_eq_true h2.2,λd' hd=>?_⟩;unfold told;rw[vC];refine⟨h1,?_⟩;unfold uC;rw[vC];exact⟨h2.1,decide_eq_true hd⟩
  ·cases h2
 ·cases h
theorem rZ:∀(r:KL)(b:D×Nat),p8 b r∈b::r/\∀y∈b::r,cA y (p8 b r)=false
 |[],b=>⟨by simp[p8],λy hy=>by rw[uT hy];simp[p8,cA]⟩
 |x::r,b=>by
  rw[p8,AU];by_cases h:cA x b=true
  ·rw[if_pos (by rw[h])];obtain⟨h1,h2⟩:=rZ r x;refine⟨mZ _ h1,λy hy=>?_⟩;rcases vP hy with rfl|hy
   ·have:=h2 x mX;unfold cA at *;simp at *;omega
   ·exact h2 y hy
  ·rw[if_neg (by simpa using h)];obtain⟨h1,h2⟩:=rZ r b;refine⟨?_,λy hy=>?_⟩
   ·rcases vP h1 with e|e
    ·rw[e];exact mX
    ·exact mZ _ (mZ _ e)
   ·rcases vP hy with rfl|hy
    ·exact h2 _ mX
    ·rcases vP hy with rfl|hy
     ·have:=h2 b mX;unfold cA at *;simp at *;omega
     ·exact h2 y (mZ _ hy)
theorem sd (h:i6 K p d i=true):∃m∈K,told dW p d m.1=true/\m.2=i/\∀y∈K,told dW p d y.1=true->cA y m=false:=by
 unfold i6 at h;split at h
 ·cases h
 ·rename_i b r e;obtain⟨h1,h2⟩:=rZ r b;rw[←e]at h1 h2;obtain⟨h3,h4⟩:=vN h1;exact⟨_,h3,h4,of_decide_eq_true h,λy hy ht=>h2 y (List.mem_filter.mpr ⟨hy,ht⟩)⟩
theorem AZ (h1:i6 K p d1 i1=true)(h2:i6 K p d2 i2=true):i1=i2:=by
 obtain⟨m1,k1,t1,e1,q1⟩:=sd h1;obtain⟨m2,k2,t2,e2,q2⟩:=sd h2;have a1:=C2 t1;have a2:=C2 t2;by_cases hd:d1<=d2
 ·have z1:=q2 m1 k1 (a1.2 d2 (by omega));have hm:aG m2.1<=aG m1.1:=by unfold cA at z1;simp at z1;omega
  have z2:=q1 m2 k2 (a2.2 d1 (by omega));unfold cA at z1 z2;simp at z1 z2;omega
 ·have z1:=q1 m2 k2 (a2.2 d1 (by omega));have hm:aG m1.1<=aG m2.1:=by unfold cA at z1;simp at z1;omega
  have z2:=q2 m1 k1 (a1.2 d2 (by omega));unfold cA at z1 z2;simp at z1 z2;omega
theorem zm {κ:Type}[DecidableEq κ]:∀ {ks:List κ}{vs:List D}{k:κ}{v:D},bS ks vs k=some v->k∈ks
 |k'::ks,d::ds,k,v,h=>by
  unfold bS at h;split at h
  ·rename_i e;rw[←e];exact mX
  ·exact mZ _ (zm h)
 |[],_,_,_,h=>by simp[bS]at h
 |_::_,[],_,_,h=>by simp[bS]at h
theorem se (p:Str)(dd:List Str)(hp:p∉dd):∀ks:List (List cz),Kf dd ks=Kf (p::dd) ks+(ks.filter λk=>decide (AY k=p)).length
 |[]=>rfl
 |k::ks=>by
  have ih:=se p dd hp ks;unfold Kf at ih ⊢;by_cases e:AY k=p
  ·rw[List.filter_cons_of_pos (by simpa [e]using hp),List.filter_cons_of_neg (by simp[e]),List.filter_cons_of_pos (by simp[e]),vE,vE];omega
  ·by_cases h:AY k∈dd
   ·rw[List.filter_cons_of_neg (by simp[h]),List.filter_cons_of_neg (by simp[h]),List.filter_cons_of_neg (by simp[e])];exact ih
   ·rw[List.filter_cons_of_pos (by simp[h]),List.filter_cons_of_pos (by simp[h,e]),List.filter_cons_of_neg (by simp[e]),vE,vE];omega
theorem lm (dm:List Str)(p:Str)(day:Int):∀so:List Cl,((bW so dm p day).map λc=>(c.o,c.n)).Sublist (so.map λc=>(c.o,c.n))
 |[]=>List.Sublist.slnil
 |c::so=>by
  have ih:=lm dm p day so;unfold bW at ih ⊢;rw[uO,uW,uY];have:((gg dm p day c).map λc=>(c.o,c.n))=[(c.o,c.n)]∨((gg dm p day c).map λc=>(c.o,c.n))=[]:=by
   unfold gg;split
   ·exact .inl rfl
   ·split
    ·exact .inl rfl
    ·exact .inr rfl
  rcases this with h|h
  ·rw[h];exact ih.cons₂ _
  ·rw[h];exact ih.cons _
theorem ln (h:c∈bW so dm p day):∃c'∈so,c'.o=c.o/\c'.n=c.n:=by
 have:=(lm dm p day so).subset (uS ⟨c,h,rfl⟩);obtain⟨c',h1,h2⟩:=vO this;injection h2 with h3 h4;exact⟨c',h1,h3,h4⟩
theorem j3:∀(ss ts:List Str),ts.Nodup->(ss.foldl jX ts).Nodup
 |[],_,h=>h
 |s::ss,ts,h=>j3 ss _ (A7 h s)
theorem sf (so:List Cl)(p:Str)(day:Int):(dw so p day).Nodup:=(fZ _).nodup_iff.mpr (j3 _ [] List.nodup_nil)
theorem zn (K:KL)(hk:List (List cz))(hv:List D)(p:Str)(day:Int)(n:Nat):∀os:List Str,((os.flatMap (dX K hk hv p day n)).map λc=>(c.o,c.n)).Sublist (os.map λo=>(o,n))
 |[]=>List.Sublist.slnil
 |o::os=>by
  have ih:=zn K hk hv p day n os;rw[uO,uW,uY];have:((dX K hk hv p day n o).map λc=>(c.o,c.n))=[(o,n)]∨((dX K hk hv p day n o).map λc=>(c.o,c.n))=[]:=by
   unfold dX;split
   ·split
    ·exact .inl rfl
    ·exact .inr rfl
   ·exact .inr rfl
  rcases this with h|h
  ·rw[h];exact ih.cons₂ _
  ·rw[h];exact ih.cons _
theorem uI {α:Type}[DecidableEq α]:∀(l m:List α),l.Nodup->(∀x∈l,x∈m)->l.length<=m.length
 |[],_,_,_=>uN _
 |x::l,m,h,s=>by
  rw[List.nodup_cons]at h;have hx:=s x mX;have:=uI l (m.erase x) h.2 λy hy=>(List.mem_erase_of_ne (a:=y) (b:=x) (λe=>h.1 (by rw[←e];exact hy))).mpr (s y (mZ _ hy));rw[List.length_erase_of_mem hx]at this;have:0<m.length:=List.length_pos_of_mem hx;rw[vE];omega
theorem uJ {α β:Type}(f:α->List β)(q:α->Bool)(h:∀a,(f a).length<=1/\(q a=false->f a=[])):∀l:List α,(l.flatMap f).length<=(l.filter q).length
 |[]=>vT _
 |a::l=>by
  have ih:=uJ f q h l;rw[uO,uZ];cases hq:q a with
  |true=>rw[List.filter_cons_of_pos hq,vE];have:=(h a).1;omega
  |false=>rw[List.filter_cons_of_neg (by rw[hq];decide),(h a).2 hq];simpa using ih
theorem Kg (K:KL)(so:List Cl)(hk:List (List cz))(hv:List D)(p:Str)(day:Int)(n:Nat):(rX K so hk hv p day n).length<=(hk.filter λk=>decide (AY k=p)).length:=by
 refine vR (uJ _ (λo=>(bS hk hv [.inr o,.inr p]).isSome) (λo=>⟨lZ _ _ _ _ _ _ _,λh=>?_⟩) _) ?_
 ·have hl:bS hk hv [.inr o,.inr p]=none:=by simpa using h
  unfold dX zk;rw[hl]
 ·have KW:(((dw so p day).filter λo=>(bS hk hv [.inr o,.inr p]).isSome).map λo=>([.inr o,.inr p]:List cz)).Nodup:=List.Pairwise.map _ (λa b hab e=>hab (by injection e with e _;injection e)) ((sf so p day).filter _);have:=uI _ (hk.filter λk=>decide (AY k=p)) KW λk hm=>by
   obtain⟨o,ho,rfl⟩:=vO hm;obtain⟨v,hv⟩:=uU (vN ho).2;exact List.mem_filter.mpr ⟨zm hv,decide_eq_true rfl⟩
  rwa [vI]at this
theorem zP.step {K l:KL}{dd:List Str}{st:Pe}(h:zP K l dd st){x:D×Nat}(hx:x.2∉l.map (·.2)):∃K9,zP K (l++[x]) K9 (eK K st x):=by
 have up:∀ {n:Nat},n∈l.map (·.2)->n∈(l++[x]).map (·.2):=λh=>by rw[uW];exact List.mem_append_left _ h
 have me:x.2∈(l++[x]).map (·.2):=by simp
 have ll:(l++[x]).length=l.length+1:=by simp
 have RT:∀q∈dd,∃y∈l++[x],i6 K q (aG y.1) y.2=true:=λq hq=>by
  obtain⟨y,h1,h2⟩:=h.ded q hq;exact⟨y,List.mem_append_left _ h1,h2⟩
 have wk:zP K (l++[x]) dd st:=⟨by have:=h.len;omega,RT,h.nod,λc hc=>up (h.num c hc),h.hs,by have:=h.hk;omega⟩;have bJ:=h.len;unfold eK;split
 ·rename_i hcount;split
  ·refine⟨dd,by simp;omega,RT,?_,λc hc=>?_,h.hs,by rw[ll];exact Nat.le_succ_of_le h.hk⟩
   ·rw[uW,List.nodup_append];refine⟨h.nod,by simp,λa ha b hb e=>?_⟩;obtain⟨c,hc,rfl⟩:=vO ha;simp at hb;subst hb;injection e with _ e2;exact hx (e2 ▸ h.num c hc)
   ·rcases List.mem_append.mp hc with hc|hc
    ·exact up (h.num c hc)
    ·rw[uT hc];exact me
  ·split
   ·have hl:=gh [az 2 x.1] (az 1 x.1) (gO 4 x.1) st.1;refine⟨dd,by simp;omega,RT,?_,λc hc=>?_,h.hs,by rw[ll];exact Nat.le_succ_of_le h.hk⟩
    ·rw[uW,List.nodup_append];refine⟨h.nod.sublist (lm _ _ _ _),by simp,λa ha b hb e=>?_⟩;obtain⟨c,hc,rfl⟩:=vO ha;simp at hb;subst hb;injection e with _ e2;obtain⟨c',h1,_,h3⟩:=ln hc;exact hx (e2 ▸ h3 ▸ h.num c' h1)
    ·rcases List.mem_append.mp hc with hc|hc
     ·obtain⟨c',h1,_,h3⟩:=ln hc;rw[←h3];exact up (h.num c' h1)
     ·rw[uT hc];exact me
   ·split
    ·have hp:∀k:List cz,Kf dd (dF st.2.1 k)<=Kf dd st.2.1+1/\(dF st.2.1 k).length<=st.2.1.length+1:=λk=>by
      unfold dF;split
      ·omega
      ·have:([k].filter λk=>decide (AY k∉dd)).length<=1:=vM _ _;unfold Kf;rw[List.filter_append,uZ,uZ,List.length_singleton];omega
     refine⟨dd,?_,RT,wk.nod,wk.num,λv hv=>?_,?_⟩
     ·have:=(hp [.inr (az 2 x.1),.inr (az 1 x.1)]).1;rw[ll];show st.1.length+Kf dd (dF st.2.1 [.inr (az 2 x.1),.inr (az 1 x.1)])<=_;omega
     ·rcases uF hv with hv|hv
      ·exact⟨_,hv⟩
      ·exact h.hs v hv
     ·have:=(hp [.inr (az 2 x.1),.inr (az 1 x.1)]).2;have:=h.hk;rw[ll];show(dF _ _).length<=_;omega
    ·rename_i n1 n2 n3;have hd:kindOf x.1 = "death":=by
      unfold cM at hcount;by_cases hd:kindOf x.1 = "death"
      ·exact hd
      ·rw[if_neg hd,if_neg (by simp[xg,n1,n2,n3])]at hcount;cases hcount
     have hf:i6 K (az 1 x.1) (aG x.1) x.2=true:=by unfold cM at hcount;rwa [if_pos hd]at hcount
     have Pq:az 1 x.1∉dd:=λhm=>by
      obtain⟨y,h1,h2⟩:=h.ded _ hm;exact hx (by rw[←AZ h2 hf];exact uS ⟨y,h1,rfl⟩)
     have hl:=gh (st.1.map Cl.o) (az 1 x.1) (aG x.1) st.1;have hio:=Kg K st.1 st.2.1 st.2.2 (az 1 x.1) (aG x.1) x.2;have WH:=se (az 1 x.1) dd Pq st.2.1;have Xe:=zn K st.2.1 st.2.2 (az 1 x.1) (aG x.1) x.2 (dw st.1 (az 1 x.1) (aG x.1));have Xf:∀c∈rX K st.1 st.2.1 st.2.2 (az 1 x.1) (aG x.1) x.2,c.o∈dw st.1 (az 1 x.1) (aG x.1)/\c.n=x.2:=λc hc=>by
      have:=Xe.subset (uS ⟨c,hc,rfl⟩);obtain⟨o,h1,h2⟩:=vO this;injection h2 with h3 h4;exact⟨h3 ▸ h1,h4.symm⟩
     refine⟨az 1 x.1::dd,?_,λq hq=>?_,?_,λc hc=>?_,h.hs,by rw[ll];exact Nat.le_succ_of_le h.hk⟩
     ·rw[ll];show(bW st.1 (st.1.map Cl.o) (az 1 x.1) (aG x.1)++rX K st.1 st.2.1 st.2.2 (az 1 x.1) (aG x.1) x.2).length+Kf _ st.2.1<=_;rw[uZ];omega
     ·rcases vP hq with rfl|hq
      ·exact⟨x,by simp,hf⟩
      ·exact RT q hq
     ·rw[uW,List.nodup_append];refine⟨h.nod.sublist (lm _ _ _ _),List.Nodup.sublist Xe (List.Pairwise.map _ (λa b hab e=>hab (by injection e)) (sf _ _ _)),λa ha b hb e=>?_⟩;obtain⟨c,hc,rfl⟩:=vO ha;obtain⟨c2,zW,rfl⟩:=vO hb;injection e with _ e2;obtain⟨c',h1,_,h3⟩:=ln hc;exact hx ((Xf c2 zW).2 ▸ e2 ▸ h3 ▸ h.num c' h1)
     ·rcases List.mem_append.mp hc with hc|hc
      ·obtain⟨c',h1,_,h3⟩:=ln hc;rw[←h3];exact up (h.num c' h1)
      ·rw[(Xf c hc).2];exact me
 ·exact⟨dd,wk⟩
theorem Kh (e:ρ[i]? = some (some (.dt ks vs,true)))(ev:fv ρ=some (d,b))(ek:fk ρ=some kd)(hk:iK kd=some kk)(hf:be d=true)(h1:ks.length<=1000)(h2:kd.length<=1000):uu i fk fv ρ=some (.nx (ρ.set i (some (.dt (dF ks kk) (dG ks vs kk d),true)))):=by
 unfold uu;rw[e];dsimp only;rw[ev,vJ,ek,vJ,hk,vJ,if_pos ⟨hf,bE (by omega),dN (by omega)⟩]
theorem Ue (a b:Cl):(ba (kC a) (kC b)).isSome=true:=by
 unfold kC;rw[ba];split
 ·rw[ba];split
  ·rw[ba];split
   ·rw[ba];rfl
   ·rfl
  ·rfl
 ·rfl
theorem C3 (cs:List Cl):eE (cs.map kC)=true:=by
 unfold eE;simp[List.all_eq_true,Ue]
theorem uK {α β:Type}(f:α->β):∀ {l:List α},(l.map f).Nodup->∀ {a b:α},a∈l->b∈l->f a=f b->a=b
 |[],_,_,_,ha,_,_=>by cases ha
 |c::l,h,a,b,ha,hb,e=>by
  rw[uY,List.nodup_cons]at h;rcases vP ha with ea|ha1
  ·rcases vP hb with eb|hb1
   ·rw[ea,eb]
   ·exact absurd (uS ⟨b,hb1,by rw[←e,ea]⟩) h.1
  ·rcases vP hb with eb|hb1
   ·exact absurd (uS ⟨a,ha1,by rw[e,eb]⟩) h.1
   ·exact uK f h.2 ha1 hb1 e
theorem GD {cs:List Cl}{a b:Cl}(ha:a∈cs)(hb:b∈cs)(e:cO (kC a)=cO (kC b)):(a.o,a.n)=(b.o,b.n):=by
 have h:=nW (C3 cs) (uS ⟨a,ha,rfl⟩) (uS ⟨b,hb,rfl⟩) e;unfold kC at h;injection h with h1 h2;injection h1 with h1;injection h2 with _ h3;injection h3 with h3 _;injection h3 with h3;rw[h1,show a.n=b.n by omega]
theorem Ki (g:gA ab)(aa:Int)(h:zP (ak ab aa) l dd st)(hj:l.length<=60)(hx:x∈ak ab aa)(Pz:bf x.1=false)(v5:OB):
  ∃w5,(lf [sF (.tup ab),sF (.int aa),lT (st.1.map aT),some (.dt st.2.1 st.2.2,true),sF (.int x.2),v5]=some (.nx [sF (.tup ab),sF (.int aa),lT ((eK (ak ab aa) st x).1.map aT),some (.dt (eK (ak ab aa) st x).2.1 (eK (ak ab aa) st x).2.2,true),sF (.int x.2),w5])
   ∨ lf [sF (.tup ab),sF (.int aa),lT (st.1.map aT),some (.dt st.2.1 st.2.2,true),sF (.int x.2),v5]=some (.ct [sF (.tup ab),sF (.int aa),lT ((eK (ak ab aa) st x).1.map aT),some (.dt (eK (ak ab aa) st x).2.1 (eK (ak ab aa) st x).2.2,true),sF (.int x.2),w5])):=by
 obtain⟨ha,gx⟩:=dA g hx;have sL:st.1.length<=60:=by have:=h.len;omega
 have hf:be x.1=true:=gx.rp.flat;have ec:=DW g aa st.1 sL hx Pz;have CV:eI (bd (fA mI (fV 0 (fV 1 (fV 2 (fV 4 ai)))))) [sF (.tup ab),sF (.int aa),lT (st.1.map aT),some (.dt st.2.1 st.2.2,true),sF (.int x.2),some (x.1,false)]=some (!cM (ak ab aa) st.1 x) :=
  bZ (cN (aJ [.tup ab,.int aa,.lst (st.1.map aT),.int x.2] (by simp) ec))
 have hw:fA aL (fV 5 ai) [sF (.tup ab),sF (.int aa),lT (st.1.map aT),some (.dt st.2.1 st.2.2,true),sF (.int x.2),some (x.1,false)]=sF (.str (kindOf x.1)):=aJ [x.1] rfl (jh gx);refine⟨some (x.1,false),?_⟩;cases hc:cM (ak ab aa) st.1 x with
 |false=>
  rw[hc]at CV;have es:eK (ak ab aa) st x=st:=by unfold eK;rw[hc];rfl
  rw[es];exact .inr (fP x.1 (by simp[ha]) hf (Uc (lw CV rfl)))
 |true=>
  rw[hc]at CV;left;refine fP x.1 (by simp[ha]) hf (dn (jY CV rfl) ?_);by_cases hn:kindOf x.1 = "named"
  ·have es:eK (ak ab aa) st x=(st.1++[⟨az 1 x.1,az 2 x.1,aG x.1,none,x.2⟩],st.2):=by unfold eK;rw[hc,if_pos rfl,if_pos hn]
   rw[es];refine lw (bM (bb:=false) hw (decide_eq_true hn)) ?_;have P0:au [x.1,.str "office"]=sF (.str (az 1 x.1))/\au [x.1,.str "person"]=sF (.str (az 2 x.1)):=by
    obtain⟨a,k,aD,e,d⟩:=gx;rw[e]at hn ⊢;replace hn:k = "named":=hn;cases d with
    |named d o p=>exact⟨bo (i:=1) dj rfl,bo (i:=2) dj rfl⟩
    |root=>exact cQ hn
    |chosen=>exact cQ hn
    |heir=>exact cQ hn
    |three _ hk=>rcases hk with rfl|rfl|rfl<;>exact cQ hn
    |other _ hk=>rcases hk with rfl|rfl|rfl|rfl|rfl<;>exact cQ hn
   have xu:aP [x.1]=sF (.int (aG x.1)):=by rw[rK gx];unfold sZ;rw[Pz];rfl
   have e2:f2 bY (aj 2) (fA bF (af (fA g8 (fV 5 (af (fA aP (fV 5 ai)) (fV 4 ai)))) ai)) [sF (.tup ab),sF (.int aa),lT (st.1.map aT),some (.dt st.2.1 st.2.2,true),sF (.int x.2),some (x.1,false)]=lT (st.1.map aT++[aT ⟨az 1 x.1,az 2 x.1,aG x.1,none,x.2⟩]):=by
    refine gS (x:=.lst (st.1.map aT)) (y:=.lst [aT ⟨az 1 x.1,az 2 x.1,aG x.1,none,x.2⟩]) (b1:=false) (b2:=true) rfl ?_ (if_pos (dN (by rw[vI,List.length_singleton];omega)));exact aJ [aT ⟨az 1 x.1,az 2 x.1,aG x.1,none,x.2⟩] (aE (aJ [x.1,.int (aG x.1),.int x.2] (cn rfl (cn (aJ [x.1] rfl xu) rfl)) (LL P0.1 P0.2 _ _)) rfl) (gJ _ (by simp))
   have:=wR (i:=2) e2 (by have hq:=j0 (st.1++[(⟨az 1 x.1,az 2 x.1,aG x.1,none,x.2⟩:Cl)]);rwa [uW]at hq);rw[uW];exact this
  ·refine jY (bM (bb:=false) hw (decide_eq_false hn)) ?_;by_cases pA:kindOf x.1 = "chosen"
   ·have es:eK (ak ab aa) st x=(bW st.1 [az 2 x.1] (az 1 x.1) (gO 4 x.1)++[⟨az 2 x.1,az 3 x.1,gO 4 x.1,none,x.2⟩],st.2):=by unfold eK;rw[hc,if_pos rfl,if_neg hn,if_pos pA]
    rw[es];refine lw (bM (bb:=false) hw (decide_eq_true pA)) (wR (i:=2) (aJ [.lst (st.1.map aT),x.1,.int x.2] rfl ?_) (j0 _));obtain⟨a,k,aD,e,d⟩:=gx;rw[e]at pA ⊢;replace pA:k = "chosen":=pA;cases d with
    |chosen d b o p s=>exact DX st.1 sL x.2
    |root=>exact cQ pA
    |named=>exact cQ pA
    |heir=>exact cQ pA
    |three _ hk=>rcases hk with rfl|rfl|rfl<;>exact cQ pA
    |other _ hk=>rcases hk with rfl|rfl|rfl|rfl|rfl<;>exact cQ pA
   ·refine jY (bM (bb:=false) hw (decide_eq_false pA)) ?_;by_cases hh:kindOf x.1 = "heir"
    ·have es:eK (ak ab aa) st x=(st.1,dF st.2.1 [.inr (az 2 x.1),.inr (az 1 x.1)],dG st.2.1 st.2.2 [.inr (az 2 x.1),.inr (az 1 x.1)] (.str (az 3 x.1))):=by unfold eK;rw[hc,if_pos rfl,if_neg hn,if_neg pA,if_pos hh]
     rw[es];have P0:au [x.1,.str "office"]=sF (.str (az 2 x.1))/\au [x.1,.str "by"]=sF (.str (az 1 x.1))/\au [x.1,.str "person"]=sF (.str (az 3 x.1)):=by
      obtain⟨a,k,aD,e,d⟩:=gx;rw[e]at hh ⊢;replace hh:k = "heir":=hh;cases d with
      |heir d b o p=>exact⟨bo (i:=2) dj rfl,bo (i:=1) dj rfl,bo (i:=3) dj rfl⟩
      |root=>exact cQ hh
      |named=>exact cQ hh
      |chosen=>exact cQ hh
      |three _ hk=>rcases hk with rfl|rfl|rfl<;>exact cQ hh
      |other _ hk=>rcases hk with rfl|rfl|rfl|rfl|rfl<;>exact cQ hh
     exact lw (bM (bb:=false) hw (decide_eq_true hh)) (Kh (ks:=st.2.1) (vs:=st.2.2) (kd:=[.str (az 2 x.1),.str (az 1 x.1)]) (b:=false) rfl (aJ [x.1,.str "person"] rfl P0.2.2) (aE (aJ [x.1,.str "office"] rfl P0.1) (aE (aJ [x.1,.str "by"] rfl P0.2.1) rfl)) rfl rfl (by have:=h.hk;omega) (by simp))
    ·refine jY (bM (bb:=false) hw (decide_eq_false hh)) ?_;have es:eK (ak ab aa) st x=(bW st.1 (st.1.map Cl.o) (az 1 x.1) (aG x.1)++rX (ak ab aa) st.1 st.2.1 st.2.2 (az 1 x.1) (aG x.1) x.2,st.2):=by unfold eK;rw[hc,if_pos rfl,if_neg hn,if_neg pA,if_neg hh]
     rw[es];have hd:kindOf x.1 = "death":=by
      unfold cM at hc;by_cases hd:kindOf x.1 = "death"
      ·exact hd
      ·rw[if_neg hd,if_neg (by simp[xg,hn,pA,hh])]at hc;cases hc
     refine wR (i:=2) (aJ [.tup ab,.int aa,.lst (st.1.map aT),.dt st.2.1 st.2.2,.int x.2] (by simp) ?_) (j0 _);obtain⟨a,k,aD,e,d⟩:=gx;have hk:k = "death":=by rw[e]at hd;exact hd
     subst hk;obtain⟨dd,p,rfl⟩:=d.deed.three (by decide +kernel);have:=GC g aa st.1 sL st.2.1 st.2.2 h.hs hx e;rw[this,e];rfl
theorem C4 (K:KL):∀(l l0:KL)(st:Pe)(dd:List Str),zP K l0 dd st->((l0++l).map (·.2)).Nodup->∃K9,zP K (l0++l) K9 (l.foldl (eK K) st)
 |[],l0,st,dd,h,_=>⟨dd,by rw[uQ];exact h⟩
 |x::l,l0,st,dd,h,hn=>by
  have hx:x.2∉l0.map (·.2):=λhm=>by
   rw[uW,List.nodup_append]at hn;exact hn.2.2 _ hm x.2 (by simp) rfl
  obtain⟨K9,h'⟩:=h.step hx;have e:l0++x::l=(l0++[x])++l:=by simp
  rw[e]at hn ⊢;exact C4 K l _ _ _ h' hn
theorem C5 (K l:KL)(h:(l.map (·.2)).Nodup):∃dd,zP K l dd (mW K l):=by
 have:=C4 K l [] ([],[],[]) [] ⟨uN _,by simp,by simp,by simp,by simp,uN _⟩ h;exact this
theorem lq (h:(K.map (·.2)).Nodup):((cR K).map (·.2)).Nodup:=((b8 _ _).map _).nodup_iff.mpr (List.Nodup.sublist (List.Sublist.map _ List.filter_sublist) h)
theorem uL {ab:List D}(g:gA ab)(aa:Int)(bJ:(cR (ak ab aa)).length<=60):mJ [.tup ab,.int aa]=lT ((bp (ak ab aa)).map aT)/\(bp (ak ab aa)).length<=60:=by
 have eL:dO [.tup ab,.int aa]=lT ((cR (ak ab aa)).map λx=>.int x.2):=pe g aa;generalize hK:ak ab aa=K at bJ eL ⊢;have o8:∀x∈cR K,x∈K/\bf x.1=false:=λx hx=>by
  obtain⟨h1,h2⟩:=vN ((b8 _ _).mem_iff.mp hx);exact⟨h1,by simpa using h2⟩
 have KW:((cR K).map (·.2)).Nodup:=lq (by rw[←hK];exact eC ab aa);obtain⟨ρ',e,v4,v5,rfl⟩:=ij (tg:=dD 4) (g:=lf) (λj ρ=>∃v4 v5:OB,ρ=[sF (.tup ab),sF (.int aa),lT ((mW K ((cR K).take j)).1.map aT),some (.dt (mW K ((cR K).take j)).2.1 (mW K ((cR K).take j)).2.2,true),v4,v5]) ((cR K).map λx=>.int x.2)
  [sF (.tup ab),sF (.int aa),lT [],some (.dt [] [],true),none,none] ⟨none,none,rfl⟩ (by
   rintro j d ρ hd ⟨v4,v5,rfl⟩;rw[vA]at hd;obtain⟨x,hx,rfl⟩:=oY hd;have hjl:j<(cR K).length:=(vV hx).1;have et:(cR K).take (j+1)=(cR K).take j++[x]:=by rw[List.take_add_one,hx];rfl
   have ef:mW K ((cR K).take (j+1))=eK K (mW K ((cR K).take j)) x:=by rw[et];unfold mW;rw[List.foldl_append];rfl
   obtain⟨SV,Zx⟩:=o8 x (vL hx);obtain⟨dd,h⟩:=C5 K ((cR K).take j) (List.Nodup.sublist (List.Sublist.map _ (List.take_sublist _ _)) KW);rw[←hK]at h;have nB:=Ki g aa h (by rw[hK,List.length_take];omega) (x:=x) (by rw[hK];exact SV) Zx v5;rw[hK]at nB;obtain⟨w5,nB⟩:=nB;exact⟨_,_,rfl,nB,sF (.int x.2),w5,by rw[ef]⟩)
 have ly:(cR K).take ((cR K).map λx=>D.int x.2).length=cR K:=by rw[vI,List.take_length]
 rw[ly]at e;obtain⟨dd,sL⟩:=C5 K (cR K) KW;generalize xy:(mW K (cR K))=st at e sL;have xq:st.1.length<=60:=by have:=sL.len;omega
 have Xg:bp K=eD (λc=>cO (kC c)) st.1:=by unfold bp;rw[xy]
 have hm:∀ρ:DL.Env,jr (sX g7 ρ) (st.1.map aT)=some (st.1.map λc=>.tup [.str c.o,.int c.s,.int c.n]):=λρ=>iu st.1 λc _=>by
  show(g7 [aT c]).map _=_;rw[wZ];rfl
 have hk:dE (st.1.map λc=>D.tup [.str c.o,.int c.s,.int c.n])=some (st.1.map kC):=hV st.1 λc _=>rfl;have j7:(st.1.map kC).length<64/\eE (st.1.map kC)=true/\fF (st.1.map kC)=true/\((st.1.map kC).map cO).Nodup:=by
  refine⟨by rw[vI];omega,C3 _,?_,?_⟩
  ·unfold fF;rw[Bool.or_eq_true];right;simp[List.all_eq_true,kC]
  ·rw[uP];have h1:st.1.Pairwise λa b=>(a.o,a.n)≠(b.o,b.n):=List.pairwise_map.mp sL.nod;have h2:st.1.Pairwise λa b=>cO (kC a)≠cO (kC b):=by
    refine List.Pairwise.imp_of_mem ?_ h1;intro a b ha hb o7 e;exact o7 (GD ha hb e)
   exact List.pairwise_map.mpr h2
 have hz:(st.1.map kC).zip (st.1.map aT)=st.1.map λc=>(kC c,aT c):=by rw[List.zip_map']
 have key:((bp K).map λc=>(kC c,aT c))=eD (λp:List At×D=>cO p.1) (st.1.map λc=>(kC c,aT c)):=by
  rw[Xg];refine k8 _ (λx hx y hy e=>?_) ((b8 _ _).map _) ?_
  ·obtain⟨a,ha,rfl⟩:=vO hx;obtain⟨b,hb,rfl⟩:=vO hy;rw[uK (λc:Cl=>(c.o,c.n)) sL.nod ha hb (GD ha hb e)]
  ·exact List.pairwise_map.mpr (ib _ _)
 refine⟨aw rfl (cy (ds:=[]) (by simp[sizeLine]) rfl (dn (ρ':=[sF (.tup ab),sF (.int aa),lT [],some (.dt [] [],true),none,none]) rfl (dn (mF (ds:=(cR K).map λx=>.int x.2) ?_ e) (ay ?_)))),by rw[Xg,(b8 _ _).length_eq];exact xq⟩
 ·show(fA dO (fV 0 (fV 1 ai)) _).bind _=_;rw[aJ [.tup ab,.int aa] rfl eL];rfl
 ·unfold qC;show((some (D.lst (st.1.map aT),false)).bind _)=_;simp only[vJ];rw[hm];simp only[vJ];rw[hk];simp only[vJ];rw[if_pos j7];unfold js;rw[hz,←key,uP];rfl
end Lw
namespace Lw
open PySem PySem.Spec DL L2
theorem zo (ns:List Int)(k:Nat)(x:Int):∃c:Int,(a7 (aN 2 (f2 bI (f2 gs (f2 bY (f2 bY (f2 bI (aj 2) (fI 2147483629)) (f2 gs (fI 6151) (aj 1))) (fI 1)) (fI 48271)) (fI 2147483647)))
  (aR (f2 bI (f2 gs (aj 2) (f2 bY (f2 bY (f2 bI (aj 2) (fI 65519)) (aj 1)) (fI 2))) (fI 2147483629)))) [sF (.lst (ns.map .int)),sF (.int k),sF (.int x)]=some (.rt (.int c) false)/\0<=c:=by
 obtain⟨y,hy⟩:∃y,((x % 2147483629+6151*k+1)*48271) % 2147483647=y:=⟨_,rfl⟩;have hb:0<=y/\y<2147483647:=by rw[←hy];exact mod_lt (by decide)
 have hc : -18446744073709551616<y/\y<18446744073709551616:=by omega
 exact⟨(y*(y % 65519+k+2)) % 2147483629,fP (.int y) (by simp[hy]) rfl (ay (by simp[hc])),(mod_lt (by decide)).1⟩
theorem gW (ns:List Int)(k:Nat):∃c:Int,dc [.lst (ns.map .int),.int k]=sF (.int c)/\0<=c:=by
 by_cases h:ns.length=0
 ·have e:ns=[]:=List.length_eq_zero_iff.mp h;subst e;obtain⟨c,h1,h2⟩:=zo [] k 5;exact⟨c,aw rfl (fP (.int 5) rfl rfl (a9 (cN (by simp)) h1)),h2⟩
 ·have hm:=mod_lt (x:=(k:Int)) (m:=ns.length) (by omega);obtain⟨c,h1,h2⟩:=zo ns k (ns.getD ((k:Int) % ns.length).toNat 0);refine⟨c,aw rfl (fP (.int 5) rfl rfl (dn (lw (cN (by simp;omega)) (mE (d:=.int (ns.getD ((k:Int) % ns.length).toNat 0)) (b:=false) ?_ rfl)) h1)),h2⟩;refine bv (.lst (ns.map .int)) (.int ((k:Int) % ns.length)) rfl ?_ (wS hm.1 (by omega));refine bv (.int k) (.int ns.length) rfl (by simp) ?_;have o7:¬ns=[]:=λe=>h (by rw[e];rfl);simp[bI,o7]
theorem GF {ρ:DL.Env}{i n:Nat}{ds:List D}{fk fv:FE}{d:D}{b b':Bool}(e:ρ[i]? = some (lT ds))(ev:fv ρ=some (d,b))(ek:fk ρ=some (.int n,b'))(hn:n<ds.length)(hf:be d=true):D4 i fk fv ρ=some (.nx (ρ.set i (lT (ds.set n d)))):=by
 have hx:zQ ds.length (n:Int)=some n:=by
  unfold zQ;rw[if_pos (by omega)];simp[hn]
 simp only[D4,e,ev,ek,vJ,hx,if_pos hf]
theorem C6:∀(zs:List Str),(∀z∈zs,z.length=1)->(zs.map (·.length)).sum=zs.length
 |[],_=>rfl
 |z::zs,h=>by
  rw[uY,List.sum_cons,C6 zs λy hy=>h y (mZ _ hy),h z mX,vE];omega
theorem C7 (x:Int):0<=x % 26/\x % 26<26:=mod_lt (by decide)
noncomputable def ng:PySem.Str:="abcdefghijklmnopqrstuvwxyz"
theorem DY:ng.cps.size=26:=by decide +kernel
def QZ (x:Int):Str:=⟨#[ng.cps.toList.getD (x % 26).toNat 0]⟩
theorem GG (x:Int):bC (.str ng) (.int (x % 26))=sF (.str (QZ x)):=DL.Aj (C7 x).1 (by rw[DY];have:=C7 x;omega) (by decide +kernel)
theorem zp:∀(zs:List Str)(y:Str),(Str.join ("" : Str) (y::zs)).cps.toList=(y::zs).flatMap λz=>z.cps.toList
 |[],y=>by rw[uO,List.flatMap_nil,uQ];rfl
 |z::r,y=>by
  have e3:∀a b:Str,(a++b).cps.toList=a.cps.toList++b.cps.toList:=λa b=>by show(a.cps++b.cps).toList=_;simp
  show(y++("" : Str)++Str.join ("" : Str) (z::r)).cps.toList=_;rw[e3,e3,zp r z,show("" : Str).cps.toList=[]from rfl,uQ];rfl
theorem GH (h:zs≠[]):(Txt.join ("" : Str) zs).cps.toList=zs.flatMap λz=>z.cps.toList:=by
 cases zs with
 |nil=>exact absurd rfl h
 |cons y zs=>
  unfold Txt.join;rw[StrLaws.glued_eq_join];exact zp zs y
theorem nj (x y:Nat):∀(bs:List Str)(a:Nat),a<bs.length->(∀z∈bs,∃c,z.cps.toList=[c])->((bs.set a ⟨#[x]⟩).flatMap λz=>z.cps.toList)=((bs.set a ⟨#[y]⟩).flatMap λz=>z.cps.toList)->x=y
 |b::bs,0,_,_,h=>by
  rw[List.set_cons_zero,List.set_cons_zero,uO,uO]at h;exact(List.cons.inj h).1
 |b::bs,a+1,hl,hb,h=>by
  rw[List.set_cons_succ,List.set_cons_succ,uO,uO]at h;exact nj x y bs a (by simpa using hl) (λz hz=>hb z (mZ _ hz)) (List.append_cancel_left h)
theorem GI:∀i j:Fin 26,ng.cps.toList.getD i.val 0=ng.cps.toList.getD j.val 0->i=j:=by decide +kernel
def zq (bs:List Str)(a:Nat)(c:Int)(i:Nat):Str:=Txt.join ("" : Str) (bs.set a (QZ (c / 64+3*(i:Int))))
theorem LM {bs:List Str}{a:Nat}{c:Int}{i j:Nat}(ha:a<bs.length)(hb:∀z∈bs,∃c,z.cps.toList=[c])(CT:(3*(i:Int) - 3*(j:Int)) % 26≠0):zq bs a c i≠zq bs a c j:=by
 intro e;have e:=congrArg (λs:Str=>s.cps.toList) e;unfold zq at e;have o7:∀x,bs.set a x≠[]:=λx z=>by have:=congrArg List.length z;rw[List.length_set,List.length_nil]at this;omega
 simp only[GH (o7 _)]at e;have:=nj _ _ bs a ha hb e;have h1:=C7 (c / 64+3*(i:Int));have h2:=C7 (c / 64+3*(j:Int));have:=GI ⟨((c / 64+3*(i:Int)) % 26).toNat,by omega⟩ ⟨((c / 64+3*(j:Int)) % 26).toNat,by omega⟩ this;have:=congrArg Fin.val this;simp only at this;omega
theorem GJ (c:Int)(hc:0<=c):∃zs:List Str,oe [.int c]=lT (zs.map .str)/\zs.length=7/\∀x y,zs[5]? = some x->zs[6]? = some y->x≠y:=by
 have h8:=mod_lt (x:=c) (m:=8) (by decide);obtain⟨n,hn⟩:∃n:Nat,1+c % 8=n:=⟨(1+c % 8).toNat,by omega⟩;have SW:1<=n:=by omega
 have hn8:n<=8:=by omega
 let bs:List Str:=(List.range n).map λ(k:Nat)=>QZ (c / (3+4*k));have P1:bs.length=n:=by simp[bs]
 have hb:=oK (fi:=gH (f2 bY (fI 1) (f2 bI (aj 0) (fI 8)))) (nT:=1) (cap:=[1,0]) (tg:=dD 0) (fe:=f2 bC (aj 1) (f2 bI (f2 cU (aj 2) (f2 bY (fI 3) (f2 gs (fI 4) (aj 0)))) (fI 26)))
  (ρ:=[sF (.int c),sF (.str ng),none,none,none,none,none]) (List.range n) (λ(k:Nat)=>.int k) (λ(k:Nat)=>.str (QZ (c / (3+4*k))))
  (by rw[jv (j:=n) (b:=false) (by simp;omega) (by omega),DS];simp) (by simp;omega) λk hk=>by
   have hk:=List.mem_range.mp hk;refine⟨_,rfl,false,bv (.str ng) (.int (c / (3+4*k) % 26)) (by simp[dL]) ?_ (GG _)⟩;have h1:(0:Int)<3+4*k:=by omega
   have h2:(3:Int)+4*k<1073741824:=by omega
   simp[dL,h1,h2]
 have Vk:bR (gH (f2 bY (fI 1) (f2 bI (aj 0) (fI 8)))) 1 [1,0] (dD 0) hW (f2 bC (aj 1) (f2 bI (f2 cU (aj 2) (f2 bY (fI 3) (f2 gs (fI 4) (aj 0)))) (fI 26))) [sF (.int c),sF (.str ng),none,none,none,none,none]=lT (bs.map .str):=by
  rw[hb];simp[bs]
 have Xh:=mod_lt (x:=c / 8) (m:=n) (by omega);obtain⟨a,ha⟩:∃a:Nat,c / 8 % n=a:=⟨(c / 8 % n).toNat,by omega⟩;obtain⟨zs,v5,v6,e,hz,OG⟩:∃(zs:List Str)(v5 v6:OB),iU (dD 5) lW (fY 0 7) [sF (.int c),sF (.str ng),lT (bs.map .str),sF (.int (c / 8 % n)),lT [],none,none]=some (.nx [sF (.int c),sF (.str ng),lT (bs.map .str),sF (.int (c / 8 % n)),lT (zs.map .str),v5,v6])/\zs.length=7/\zs=(List.range 7).map (zq bs a c):=by
  obtain⟨ρ',e,zs,v5,v6,rfl,hz,OG⟩:=mC (tg:=dD 5) (g:=lW) 7 (λi ρ=>∃(zs:List Str)(v5 v6:OB),ρ=[sF (.int c),sF (.str ng),lT (bs.map .str),sF (.int (c / 8 % n)),lT (zs.map .str),v5,v6]/\zs.length=i/\zs=(List.range i).map (zq bs a c))
   [sF (.int c),sF (.str ng),lT (bs.map .str),sF (.int (c / 8 % n)),lT [],none,none] ⟨[],none,none,rfl,rfl,rfl⟩ (by
    rintro i ρ hi ⟨zs,v5,v6,rfl,hz,OG⟩;let l:=QZ (c / 64+3*i);let nm:=bs.set a l;have h1:∀z∈nm,z.length=1:=λz hz=>by
     rcases List.mem_or_eq_of_mem_set hz with h|h
     ·obtain⟨k,_,rfl⟩:=vO h;rfl
     ·rw[h];rfl
    have SR:nm.length=n:=by simp[nm,P1]
    refine⟨_,_,rfl,.inl (cy (ds:=bs.map .str) (by simp) (dU _) (dn (GF (n:=a) (ds:=bs.map .str) (d:=.str l) (b:=false) (b':=false) rfl ?_ ?_ (by simp[P1];omega) rfl) (jH (ds:=zs.map .str) (d:=.str (Txt.join ("" : Str) nm)) (b:=false) rfl ?_ rfl (bE (by simp;omega))))),zs++[Txt.join ("" : Str) nm],sF (.int i),lT (nm.map .str),?_,by simp[hz],by rw[OG,List.range_succ,uW];rfl⟩
    ·exact bv (.str ng) (.int ((c / 64+3*i) % 26)) rfl (by simp) (GG _)
    ·simp[ha]
    ·refine bv (.str "") (.lst (nm.map .str)) rfl (by simp[nm]) ?_;show(ia (nm.map .str)).bind _=_;rw[rR];have:=C6 nm h1;have h0:("" : Str).length=0:=rfl;show(if _ then _ else _)=_;rw[if_pos (by rw[this,h0,SR];omega)]
    ·simp[nm])
  exact⟨zs,v5,v6,e,hz,OG⟩
 have hsz:(bs.length:Int)=n:=by omega
 refine⟨if c / 1000 % 8=1 then zs.set 5 (zs.getD 0 ⟨#[]⟩)else zs,?_,by split<;>simp[hz],?_⟩
 refine aw rfl (fP (.str ng) rfl rfl (cy (ds:=bs.map .str) Vk (dU _) (fP (.int (c / 8 % n)) ?_ rfl (cy (ds:=[]) (by simp[sizeLine]) (by simp) (dn (kG (jv (j:=7) (b:=false) rfl (by decide)) e) ?_)))))
 ·have:(bs.length:Int)≠0:=by omega
  refine bv (.int (c / 8)) (.int n) (by simp) (by simp[P1]) ?_;have h1:(0:Int)<n:=by omega
  show(if decide ((0:Int)<n)=true then _ else _)=_;rw[if_pos (decide_eq_true h1)]
 ·by_cases h:c / 1000 % 8=1
  ·rw[if_pos h];have h5:5<(zs.map D.str).length:=by simp[hz]
   obtain⟨z0,zr,rfl⟩:∃z0 zr,zs=z0::zr:=by cases zs with|nil=>simp at hz|cons a b=>exact⟨a,b,rfl⟩
   refine dn (lw (cN (by simp[h])) (GF (n:=5) (ds:=(z0::zr).map .str) (d:=.str z0) (b:=false) (b':=false) rfl ?_ rfl h5 rfl)) (pL ?_)
   ·exact bv (.lst ((z0::zr).map .str)) (.int 0) rfl rfl (by simp[E4])
   ·simp
  ·rw[if_neg h];exact a9 (cN (by simp[h])) (pL rfl)
 ·have SS:a<bs.length:=by omega
  have Xi:∀z∈bs,∃c,z.cps.toList=[c]:=λz hz=>by obtain⟨k,_,rfl⟩:=vO hz;exact⟨_,rfl⟩
  intro x y hx hy;have h0:zs[0]? = some (zq bs a c 0):=by rw[OG];rfl
  have h5:zs[5]? = some (zq bs a c 5):=by rw[OG];rfl
  have h6:zs[6]? = some (zq bs a c 6):=by rw[OG];rfl
  split at hx
  ·rename_i hc8;rw[if_pos hc8,vB (by decide),h6]at hy;rw[List.getElem?_set_self (by omega),vF,h0]at hx;cases hx;cases hy
   exact LM SS Xi (by decide)
  ·rename_i hc8;rw[if_neg hc8,h6]at hy;rw[h5]at hx;cases hx;cases hy
   exact LM SS Xi (by decide)
def iD (x:Int×Option Int):D:=.tup [.int x.1,uD x.2]
theorem j4 (x:Int×Option Int):be (iD x)=true:=by simp[iD,Cy]
theorem uM (x:Int×Option Int):aq 5 (iD x)=true:=by obtain⟨s,u⟩:=x;cases u<;>simp[iD,uD]
theorem Ba (a d m:Int):∃x,g9 [.int a,.int d,.int m]=some (iD x,false):=by
 have h8:=mod_lt (x:=a) (m:=8) (by decide);let L1:List (Int×Option Int):=[(0,none),(d,none),(d,some (d+3*m)),(0,some (d+2*m)),(0,some (9*m))];let L2:List (Int×Option Int):=[(d+m,some (d+4*m)),(d / 2,some (d+6*m)),(0,none)];have vp:∀L:List (Int×Option Int),bz (L.map iD)=true:=λL=>bP λd hd=>by obtain⟨x,_,rfl⟩:=vO hd;exact j4 x
 have hi:(a % 8).toNat<((L1++L2).map iD).length:=by show _<8;omega
 refine⟨(L1++L2).getD (a % 8).toNat (0,none),aw rfl (cy (ds:=L1.map iD) (by simp[L1,iD,uD,sizeLine]) (vp _) (cy (ds:=(L1++L2).map iD) ?_ (vp _) (ay (bv (.lst ((L1++L2).map iD)) (.int (a % 8)) rfl (by simp) ((AS h8.1 hi).trans ?_)))))⟩
 ·refine gS (x:=.lst (L1.map iD)) (y:=.lst (L2.map iD)) (b1:=false) (b2:=true) rfl (by simp[L2,iD,uD,sizeLine]) ?_;simp[L1,L2,sizeLine]
 ·rw[vF,vA,vF];rw[vI]at hi;rw[vU hi];rfl
theorem kT {zs:List Str}{i:Int}(h1 : -(zs.length:Int)<=i)(h2:i<zs.length):∃z∈zs,bC (.lst (zs.map .str)) (.int i)=sF (.str z):=by
 obtain⟨j,hj,hl⟩:∃j,zQ (zs.map D.str).length i=some j/\j<zs.length:=by
  unfold zQ;rw[vI];by_cases h0:0<=i
  ·rw[if_pos h0,if_pos h2];exact⟨_,rfl,by omega⟩
  ·rw[if_neg h0,if_pos (by omega)];exact⟨_,rfl,by omega⟩
 refine⟨zs[j],List.getElem_mem hl,?_⟩;have:lI (zs.map D.str) i=some (.str zs[j]):=by unfold lI;rw[hj,vJ,vA,vU hl];rfl
 simp[this]
noncomputable def MR:List Nat:=[7,255,3,15]
noncomputable def MS:List Nat:=[1,2,3,4,5,7,128,255]
inductive Dd:Str->List D->Prop
 |root (o r:Str) (m:Nat) (hm:m∈MR) (f:Int):Dd ("root" : Str) [.str o,.int m,.int f,.str r]
 |named (d:Int) (o p:Str):Dd ("named" : Str) [.int d,.str o,.str p]
 |chosen (d:Int) (b o p:Str) (s:Int):Dd ("chosen" : Str) [.int d,.str b,.str o,.str p,.int s]
 |heir (d:Int) (b o p:Str):Dd ("heir" : Str) [.int d,.str b,.str o,.str p]
 |three (k:Str) (hk:k = "death" ∨ k = "lost" ∨ k = "found") (d:Int) (p:Str):Dd k [.int d,.str p]
 |leave (d:Int) (b p:Str) (m:Nat) (hm:m∈MS) (x:Int×Option Int) (f:Int):Dd ("leave" : Str) [.int d,.str b,.str p,.int m,iD x,.int f]
 |paper (k:Str) (hk:k = "paper" ∨ k = "like") (d:Int) (b:Str) (m:Nat) (hm:m∈MS) (x:Int×Option Int) (r:List D) (hf:bz r=true) (hp:r.all (aq 5)=true):Dd k (.int d::.str b::.int m::iD x::r)
 |copy (k:Str) (hk:k = "copy" ∨ k = "call") (d:Int) (b:Str) (n:Nat):Dd k [.int d,.str b,.int n]
theorem Dd.cd (h:Dd k r):Cd k r:=by
 cases h with
 |root o r m hm f=>exact .root _ _ _ _
 |named d o p=>exact .named _ _ _
 |chosen d b o p s=>exact .chosen _ _ _ _ _
 |heir d b o p=>exact .heir _ _ _ _
 |three k hk d p=>exact .three _ hk _ _
 |leave d b p m hm x f=>exact .other _ (.inl rfl) _ _ _ (by simp[j4]) (by simp only[List.all_cons,List.all_nil,uM,aq,Bool.and_true])
 |paper k hk d b m hm x r hf hp=>exact .other _ (hk.elim (λh=>.inr (.inl h)) λh=>.inr (.inr (.inl h))) _ _ _ (by simp[hf,j4]) (by simp only[List.all_cons,hp,uM,aq,Bool.and_true])
 |copy k hk d b n=>exact .other _ (hk.elim (λh=>.inr (.inr (.inr (.inl h)))) λh=>.inr (.inr (.inr (.inr h)))) _ _ _ rfl (by simp)
theorem Dd.had3 (h:Dd k r)(hk:k = "leave" ∨ k = "named"):∃p,r[2]? = some (.str p):=by
 have hk:k∈[("leave" : Str),"named"]:=by simpa using hk
 cases h with
 |named d o p=>exact⟨p,rfl⟩
 |leave d b p=>exact⟨p,rfl⟩
 |root=>exact cQ hk
 |chosen=>exact cQ hk
 |heir=>exact cQ hk
 |three k fO=>rcases fO with rfl|rfl|rfl<;>exact cQ hk
 |paper k fO=>rcases fO with rfl|rfl<;>exact cQ hk
 |copy k fO=>rcases fO with rfl|rfl<;>exact cQ hk
theorem Dd.had4 (h:Dd k r)(hk:k = "chosen"):∃p,r[3]? = some (.str p):=by
 cases h with
 |chosen d b o p=>exact⟨p,rfl⟩
 |root=>exact cQ hk
 |named=>exact cQ hk
 |leave=>exact cQ hk
 |heir=>exact cQ hk
 |three k fO=>rcases fO with rfl|rfl|rfl<;>exact cQ hk
 |paper k fO=>rcases fO with rfl|rfl<;>exact cQ hk
 |copy k fO=>rcases fO with rfl|rfl<;>exact cQ hk
theorem Dd.flat (h:Dd k r):bz r=true:=h.cd.deed.flat
noncomputable def fH:List Str:=[("leave" : Str),"leave","leave","leave","leave","paper","paper","like","copy","copy","call","call","named","death","lost","found","chosen","heir"]
theorem DZ (h:w∈fH):w = "leave" ∨ w = "paper" ∨ w = "like" ∨ w = "copy" ∨ w = "call" ∨ w = "named" ∨ w = "death" ∨ w = "lost" ∨ w = "found" ∨ w = "chosen" ∨ w = "heir":=by
 simp only[fH,List.mem_cons,List.not_mem_nil,or_false]at h;rcases h with rfl|rfl|rfl|rfl|rfl|rfl|rfl|rfl|rfl|rfl|rfl|rfl|rfl|rfl|rfl|rfl|rfl|rfl<;>simp
theorem GK (many c o day m:Int)(zs iC:List Str)(hz:zs.length=7)(hh:iC≠[]):
  ∃(w o9 p:Str)(Mh:Nat),w∈fH/\∀(h:FS)(r:Option Res),h [sF (.int many),sF (.int c),sF (.int o),sF (.lst (zs.map .str)),sF (.int day),sF (.lst (iC.map .str)),sF (.int m),lT (fH.map .str),sF (.str w),sF (.str o9),sF (.str p),sF (.int Mh),none,none,none]=r ->
   (a7 (aN 7 (f2 bY (f2 bY (DG (fA bF (af (fS "leave") ai)) (fI 5)) (DG (fA bF (af (fS "paper") ai)) (fI 2))) (fA bF (af (fS "like") (af (fS "copy") (af (fS "copy") (af (fS "call") (af (fS "call") ai)))))))) (a7 (aN 7 (f2 bY (aj 7) (fA bF (af (fS "named") (af (fS "death") (af (fS "lost") (af (fS "found") (af (fS "chosen") (af (fS "heir") ai))))))))) (a7 (aN 8 (f2 bC (aj 7) (f2 bI (aj 1) (fI 18)))) (a7 (aN 9 (f2 bC (aj 5) (f2 nM (f1 lK (fI 1)) (f2 bI (f2 cU (aj 1) (fI 18)) (fA Jh (af (fI 3) (af (fA gp (fV 5 ai)) ai))))))) (a7 (eB (bd (f2 dz (f2 bI (f2 cU (aj 1) (fI 54)) (fI 6)) (fI 1))) (aN 9 (f2 bC (aj 3) (f2 bI (f2 cU (aj 1) (fI 324)) (fI 5)))) bg) (a7 (aN 10 (f2 bC (aj 3) (f2 bI (f2 cU (aj 1) (fI 1620)) (fI 5)))) (a7 (aN 11 (fA Jg (af (fI 0) (af (f2 nM (f2 nM (aj 0) (fI 1)) (f2 bI (aj 2) (fI 4))) ai)))) (a7 (eB (bd (f2 dz (f2 bI (f2 cU (aj 2) (fI 4)) (fI 8)) (fI 1))) (aN 11 (f2 bI (f2 cU (aj 2) (fI 32)) (fI 60))) bg) h)))))))) [sF (.int many),sF (.int c),sF (.int o),sF (.lst (zs.map .str)),sF (.int day),sF (.lst (iC.map .str)),sF (.int m),none,none,none,none,none,none,none,none]=r:=by
 have h18:=mod_lt (x:=c) (m:=18) (by decide);obtain⟨w,hw,ew⟩:=kT (zs:=fH) (i:=c % 18) (by simp[fH];omega) (by simp[fH];omega);obtain⟨n,hn,SW,hn3⟩:∃n:Int,(if(iC.length:Int)<3 then (iC.length:Int)else 3)=n/\0<n/\n<=iC.length:=by
  have:0<iC.length:=List.length_pos_iff.mpr hh;split
  ·exact⟨_,rfl,by omega,by omega⟩
  ·exact⟨_,rfl,by omega,by omega⟩
 have hmn:=mod_lt (x:=c / 18) (m:=n) SW;obtain⟨b0,_,Zy⟩:=kT (zs:=iC) (i:=-1 - c / 18 % n) (by omega) (by omega);have h5:=mod_lt (x:=c / 324) (m:=5) (by decide);obtain⟨b1,_,Zz⟩:=kT (zs:=zs) (i:=c / 324 % 5) (by omega) (by omega);have h5':=mod_lt (x:=c / 1620) (m:=5) (by decide);obtain⟨p,_,ep⟩:=kT (zs:=zs) (i:=c / 1620 % 5) (by omega) (by omega);have h60:=mod_lt (x:=o / 32) (m:=60) (by decide);obtain⟨f0,Z0⟩:∃f0:Nat,(if many - 1 - o % 4 > 0 then many - 1 - o % 4 else 0)=(f0:Int):=by
  split
  ·exact⟨(many - 1 - o % 4).toNat,by omega⟩
  ·exact⟨0,rfl⟩
 obtain⟨f1,Z1⟩:∃f1:Nat,o / 32 % 60=(f1:Int):=⟨(o / 32 % 60).toNat,by omega⟩;refine⟨w,if c / 54 % 6=1 then b1 else b0,p,if o / 4 % 8=1 then f1 else f0,hw,λh r hr=>?_⟩;refine cy (ds:=(fH.take 12).map .str) ?_ (dU _) (cy (ds:=fH.map .str) ?_ (dU _) (fP (.str w) (bv (.lst (fH.map .str)) (.int (c % 18)) rfl (by simp) ew) rfl (fP (.str b0) ?_ rfl (dn (ρ':=[sF (.int many),sF (.int c),sF (.int o),sF (.lst (zs.map .str)),sF (.int day),sF (.lst (iC.map .str)),sF (.int m),lT (fH.map .str),sF (.str w),sF (.str (if c / 54 % 6=1 then b1 else b0)),none,none,none,none,none]) ?_ (fP (.str p) ?_ rfl (fP (.int f0) ?_ rfl (dn ?_ hr)))))))
 ·have e1:∀(s:Str)(k:Nat),k<=100->DG (fA bF (af (fS s) ai)) (fC (.int k)) [sF (.int many),sF (.int c),sF (.int o),sF (.lst (zs.map .str)),sF (.int day),sF (.lst (iC.map .str)),sF (.int m),none,none,none,none,none,none,none,none]=lT (List.replicate k (.str s)):=λs k hk=>by
   have h1:(k:Int)<=1000:=by omega
   have h2:k<=1000:=by omega
   have h3:∀n:Nat,(List.replicate n [D.str s]).flatten=List.replicate n (.str s):=λn=>by
    induction n with
    |zero=>rfl
    |succ n ih=>rw[List.replicate_succ,List.flatten_cons,ih,List.replicate_succ];rfl
   simp[sizeLine,h1,h2,h3]
  have z:∀n:Nat,n<=100->n<=sizeLine:=λn h=>dN (by omega);refine gS (x:=.lst ((fH.take 7).map .str)) (y:=.lst (((fH.drop 7).take 5).map .str)) (b1:=true) (b2:=true) (gS (x:=.lst ((fH.take 5).map .str)) (y:=.lst (List.replicate 2 (.str "paper"))) (b1:=true) (b2:=true) (e1 _ 5 (by decide)) (e1 _ 2 (by decide)) ?_) (aJ (((fH.drop 7).take 5).map .str) rfl (gJ _ (by simp[fH]))) ?_
  ·refine(if_pos (c:=7<=sizeLine) (e:=none) (z 7 (by decide))).trans ?_;rfl
  ·refine(if_pos (c:=12<=sizeLine) (e:=none) (z 12 (by decide))).trans ?_;rfl
 ·refine gS (x:=.lst ((fH.take 12).map .str)) (y:=.lst ((fH.drop 12).map .str)) (b1:=false) (b2:=true) rfl (aJ ((fH.drop 12).map .str) rfl (gJ _ (by decide))) ?_;refine(if_pos (c:=18<=sizeLine) (e:=none) (dN (by decide))).trans ?_;rfl
 ·refine bv (.lst (iC.map .str)) (.int (-1 - c / 18 % n)) rfl ?_ Zy;refine bv (.int (-1)) (.int (c / 18 % n)) rfl ?_ rfl;refine bv (.int (c / 18)) (.int n) (by simp) (by simp[hn]) ?_;show(if decide ((0:Int)<n)=true then _ else _)=_;rw[if_pos (decide_eq_true SW)]
 ·by_cases hx:c / 54 % 6=1
  ·rw[if_pos hx];exact lw (cN (by simp[hx])) (mE (d:=.str b1) (b:=false) (bv (.lst (zs.map .str)) (.int (c / 324 % 5)) rfl (by simp) Zz) rfl)
  ·rw[if_neg hx];exact jY (cN (by simp[hx])) rfl
 ·exact bv (.lst (zs.map .str)) (.int (c / 1620 % 5)) rfl (by simp) ep
 ·show some (D.int (if many - 1 - o % 4 > 0 then many - 1 - o % 4 else 0),false)=_;rw[Z0]
 ·by_cases hx:o / 4 % 8=1
  ·simp only[if_pos hx];exact lw (cN (by simp[hx])) (mE (d:=.int f1) (b:=false) (by simp[Z1]) rfl)
  ·simp only[if_neg hx];exact jY (cN (by simp[hx])) rfl
theorem nn {ns:List Int}{i:Int}(h1:0<=i)(h2:i<ns.length):∃m∈ns,bC (.lst (ns.map .int)) (.int i)=sF (.int m):=by
 have h:i.toNat<ns.length:=by omega
 refine⟨ns.getD i.toNat 0,?_,wS h1 h⟩;rw[vF,vU h];exact List.getElem_mem h
theorem oy (h : -1000<=a/\a<=1000):Nn (.int a) (.int b)=sF (.int (a*b)):=by
 have : -18446744073709551616<a/\a<18446744073709551616:=by omega
 simp[this]
theorem dh (e:ρ[i]? = some (sF (.str a)))(h:decide (a=b)=false:=by decide +kernel):bd (f2 dz (aj i) (fS b)) ρ=some false:=bM (a:=a) (bb:=false) (by simp[e]) h
theorem Bb (e:ρ[i]? = some (sF (.str a)))(h:decide (a=b)=true:=by decide +kernel):bd (f2 dz (aj i) (fS b)) ρ=some true:=bM (a:=a) (bb:=false) (by simp[e]) h
theorem zu (x:Bool)(e:ρ[i]? = some (sF (.str a)))(h:decide (a∈[b,c])=x:=by decide +kernel):bd (f2 Az (aj i) (fA aY (af (fS b) (af (fS c) ai)))) ρ=some x:=cN (bv (.str a) (.tup ([b,c].map .str)) (by simp[e]) (by simp[sizeLine]) (by rw[jz,h]))
theorem LN {l:List Int}{x:Int}(h:x∈l)(hl:l.all (λy=>decide (0<=y/\y.toNat∈MS))=true):∃m:Nat,x=m/\m∈MS:=by
 have:=of_decide_eq_true (uR hl x h);exact⟨x.toNat,by omega,this.2⟩
theorem Kj (many c o day m:Int)(zs iC:List Str)(hz:zs.length=7)(hh:iC≠[]):
  ∃k r,rA [.int many,.int c,.int o,.lst (zs.map .str),.int day,.lst (iC.map .str),.int m]=sF (.tup (.str k::r))/\Dd k r/\k ≠ "root":=by
 obtain⟨w,o9,p,Mh,hw,pre⟩:=GK many c o day m zs iC hz hh;obtain⟨s,es⟩:=Ba (o / 32) day m;have h8:=mod_lt (x:=c / 8100) (m:=8) (by decide);obtain⟨m1i,Vl,Z2⟩:=nn (ns:=[3,1,7,2,255,5,1,3]) (i:=c / 8100 % 8) h8.1 h8.2;obtain⟨m2i,Vm,Xj⟩:=nn (ns:=[1,1,3,2,4,5,128,7]) (i:=c / 8100 % 8) h8.1 h8.2;obtain⟨m1,rfl,Pu⟩:=LN Vl (by decide);obtain⟨m2,rfl,SX⟩:=LN Vm (by decide);have h4:=mod_lt (x:=o / 2560) (m:=4) (by decide);obtain⟨dv,Vn,ed⟩:=nn (ns:=[5,5,5,10]) (i:=o / 2560 % 4) h4.1 h4.2;have Vo:0<dv:=by simp only[List.mem_cons,List.not_mem_nil,or_false]at Vn;omega
 have h2:=mod_lt (x:=o / 256) (m:=2) (by decide);obtain⟨wv,Z3,SY,Xk⟩:∃wv,bC (.lst [.non,.str p]) (.int (o / 256 % 2))=some (wv,false)/\be wv=true/\aq 5 wv=true:=by
  rcases (show o / 256 % 2=0∨o / 256 % 2=1 by omega)with h|h
  ·rw[h];exact⟨.non,by simp[E4],rfl,by simp⟩
  ·rw[h];exact⟨.str p,by simp[HX],rfl,by simp⟩
 have Hy:=mod_lt (x:=o) (m:=2) (by decide);have Pl:=mod_lt (x:=o) (m:=2) (by decide);obtain⟨off,_,eo⟩:=kT (zs:=zs) (i:=5+o % 2) (by omega) (by omega);obtain⟨RU,_,Z4⟩:=kT (zs:=zs) (i:=5+o % 2) (by omega) (by omega);have h3o:=mod_lt (x:=o / 32) (m:=3) (by decide);have Vp:∀(ρ:DL.Env),ρ[2]? = some (sF (.int o))->ρ[4]? = some (sF (.int day))->ρ[6]? = some (sF (.int m))->fA g9 (af (f2 cU (aj 2) (fI 32)) (fV 4 (fV 6 ai))) ρ=some (iD s,false):=λρ q1 q2 q3=>
  aJ [.int (o / 32),.int day,.int m] (by simp[q1,q2,q3]) es
 have RV:∀(ρ:DL.Env),ρ[2]? = some (sF (.int o))->ρ[3]? = some (sF (.lst (zs.map .str)))->f2 bC (aj 3) (f2 bY (fI 5) (f2 bI (aj 2) (fI 2))) ρ=sF (.str off):=λρ q1 q2=>bv (.lst (zs.map .str)) (.int (5+o % 2)) (by simp[q2]) (by simp[q1]) eo;have Vq:∀(ns:List Int)(M:Nat)(ρ:DL.Env)(fl:FE),fl ρ=lT (ns.map .int)->ρ[1]? = some (sF (.int c))->bC (.lst (ns.map .int)) (.int (c / 8100 % 8))=sF (.int M)->f2 bC fl (f2 bI (f2 cU (aj 1) (fI 8100)) (fI 8)) ρ=sF (.int M):=λns M ρ fl e1 q e=>gS (x:=.lst (ns.map .int)) (y:=.int (c / 8100 % 8)) (b1:=true) (b2:=false) e1 (by simp[q]) e;have Xl:∀(ρ:DL.Env),ρ[2]? = some (sF (.int o))->ρ[10]? = some (sF (.str p))->f2 bC (fA bF (af (fC .non) (fV 10 ai))) (f2 bI (f2 cU (aj 2) (fI 256)) (fI 2)) ρ=some (wv,false):=λρ q1 q2=>gS (x:=.lst [.non,.str p]) (y:=.int (o / 256 % 2)) (b1:=true) (b2:=false) (by simp[sizeLine,q2]) (by simp[q1]) Z3;rcases DZ hw with rfl|rfl|rfl|rfl|rfl|rfl|rfl|rfl|rfl|rfl|rfl
 ·refine⟨_,[.int day,.str o9,.str p,.int m1,iD s,.int (o / 256 % dv)],aw rfl (pre _ _ ?_),.leave _ _ _ _ Pu _ _,by decide +kernel⟩;refine b9 (Bb rfl) (fP (.int m1) (Vq [3,1,7,2,255,5,1,3] _ _ _ (by simp[sizeLine]) rfl Z2) rfl (fP (.int (o / 256 % dv)) ?_ rfl (ay (aJ [.str "leave",.int day,.str o9,.str p,.int m1,iD s,.int (o / 256 % dv)] (cn rfl (cn rfl (cn rfl (cn rfl (cn rfl (aE (Vp _ rfl rfl rfl) (cn rfl rfl))))))) (cD _ (by simp))))));refine bv (.int (o / 256)) (.int dv) (by simp) (gS (x:=.lst (([5,5,5,10]:List Int).map .int)) (y:=.int (o / 2560 % 4)) (b1:=true) (b2:=false) (by simp[sizeLine]) (by simp) ed) ?_;show(if decide ((0:Int)<dv)=true then _ else _)=_;rw[if_pos (decide_eq_true Vo)]
 ·refine⟨_,[.int day,.str o9,.int m2,iD s,wv,.tup [.str p]],aw rfl (pre _ _ ?_),.paper _ (.inl rfl) _ _ _ SX _ _ (by simp[SY]) (by simp[Xk]),by decide +kernel⟩;exact a9 (dh rfl) (b9 (c7 (p:=true) (q:=false) (Bb rfl) λ_=>dh rfl) (fP (.int m2) (Vq [1,1,3,2,4,5,128,7] _ _ _ (by simp[sizeLine]) rfl Xj) rfl (fP (.tup [.str "paper",.int day,.str o9,.int m2,iD s,wv]) (aJ [.str "paper",.int day,.str o9,.int m2,iD s,wv] (cn rfl (cn rfl (cn rfl (cn rfl (aE (Vp _ rfl rfl rfl) (aE (Xl _ rfl rfl) rfl)))))) (cD _ (by simp))) (by simp[j4,SY]) (a9 (dh rfl) (ay (bv (.tup [.str "paper",.int day,.str o9,.int m2,iD s,wv]) (.tup [.tup [.str p]]) rfl (by simp[sizeLine]) (by simp[sizeLine])))))))
 ·refine⟨_,[.int day,.str o9,.int m2,iD s,wv,.int Mh,.tup [.tup [.int 0,.str p]]],aw rfl (pre _ _ ?_),.paper _ (.inr rfl) _ _ _ SX _ _ (by simp[SY]) (by simp[Xk]),by decide +kernel⟩;exact a9 (dh rfl) (b9 (c7 (p:=false) (q:=true) (dh rfl) λ_=>Bb rfl) (fP (.int m2) (Vq [1,1,3,2,4,5,128,7] _ _ _ (by simp[sizeLine]) rfl Xj) rfl (fP (.tup [.str "like",.int day,.str o9,.int m2,iD s,wv]) (aJ [.str "like",.int day,.str o9,.int m2,iD s,wv] (cn rfl (cn rfl (cn rfl (cn rfl (aE (Vp _ rfl rfl rfl) (aE (Xl _ rfl rfl) rfl)))))) (cD _ (by simp))) (by simp[j4,SY]) (b9 (Bb rfl) (ay (bv (.tup [.str "like",.int day,.str o9,.int m2,iD s,wv]) (.tup [.int Mh,.tup [.tup [.int 0,.str p]]]) rfl (by simp[sizeLine]) (by simp[sizeLine])))))))
 ·exact⟨_,[.int day,.str o9,.int Mh],aw rfl (pre _ _ (a9 (dh rfl) (a9 (c7 (p:=false) (q:=false) (dh rfl) λ_=>dh rfl) (b9 (zu true rfl) (ay (aJ [.str "copy",.int day,.str o9,.int Mh] rfl (cD _ (by simp)))))))),.copy _ (.inl rfl) _ _ _,by decide +kernel⟩
 ·exact⟨_,[.int day,.str o9,.int Mh],aw rfl (pre _ _ (a9 (dh rfl) (a9 (c7 (p:=false) (q:=false) (dh rfl) λ_=>dh rfl) (b9 (zu true rfl) (ay (aJ [.str "call",.int day,.str o9,.int Mh] rfl (cD _ (by simp)))))))),.copy _ (.inr rfl) _ _ _,by decide +kernel⟩
 ·exact⟨_,[.int day,.str off,.str p],aw rfl (pre _ _ (a9 (dh rfl) (a9 (c7 (p:=false) (q:=false) (dh rfl) λ_=>dh rfl) (a9 (zu false rfl) (b9 (Bb rfl) (ay (aJ [.str "named",.int day,.str off,.str p] (cn rfl (cn rfl (aE (RV _ rfl rfl) (cn rfl rfl)))) (cD _ (by simp))))))))),.named _ _ _,by decide +kernel⟩
 ·exact⟨_,[.int day,.str o9],aw rfl (pre _ _ (a9 (dh rfl) (a9 (c7 (p:=false) (q:=false) (dh rfl) λ_=>dh rfl) (a9 (zu false rfl) (a9 (dh rfl) (a9 (dh rfl) (a9 (dh rfl) (ay (aJ [.str "death",.int day,.str o9] rfl (cD _ (by simp))))))))))),.three _ (.inl rfl) _ _,by decide +kernel⟩
 ·exact⟨_,[.int day,.str o9],aw rfl (pre _ _ (a9 (dh rfl) (a9 (c7 (p:=false) (q:=false) (dh rfl) λ_=>dh rfl) (a9 (zu false rfl) (a9 (dh rfl) (a9 (dh rfl) (a9 (dh rfl) (ay (aJ [.str "lost",.int day,.str o9] rfl (cD _ (by simp))))))))))),.three _ (.inr (.inl rfl)) _ _,by decide +kernel⟩
 ·exact⟨_,[.int day,.str o9],aw rfl (pre _ _ (a9 (dh rfl) (a9 (c7 (p:=false) (q:=false) (dh rfl) λ_=>dh rfl) (a9 (zu false rfl) (a9 (dh rfl) (a9 (dh rfl) (a9 (dh rfl) (ay (aJ [.str "found",.int day,.str o9] rfl (cD _ (by simp))))))))))),.three _ (.inr (.inr rfl)) _ _,by decide +kernel⟩
 ·refine⟨_,[.int day,.str o9,.str RU,.str p,.int (day+o / 32 % 3*m)],aw rfl (pre _ _ (a9 (dh rfl) (a9 (c7 (p:=false) (q:=false) (dh rfl) λ_=>dh rfl) (a9 (zu false rfl) (a9 (dh rfl) (b9 (Bb rfl) (ay (aJ [.str "chosen",.int day,.str o9,.str RU,.str p,.int (day+o / 32 % 3*m)] ?_ (cD _ (by simp)))))))))),.chosen _ _ _ _ _,by decide +kernel⟩;exact cn rfl (cn rfl (cn rfl (aE (bv (.lst (zs.map .str)) (.int (5+o % 2)) rfl (by simp) Z4) (cn rfl (cn (bv (.int day) (.int (o / 32 % 3*m)) rfl (bv (.int (o / 32 % 3)) (.int m) (by simp) rfl (oy (by omega))) rfl) rfl)))))
 ·exact⟨_,[.int day,.str o9,.str off,.str p],aw rfl (pre _ _ (a9 (dh rfl) (a9 (c7 (p:=false) (q:=false) (dh rfl) λ_=>dh rfl) (a9 (zu false rfl) (a9 (dh rfl) (a9 (dh rfl) (b9 (Bb rfl) (ay (aJ [.str "heir",.int day,.str o9,.str off,.str p] (cn rfl (cn rfl (cn rfl (aE (RV _ rfl rfl) (cn rfl rfl))))) (cD _ (by simp))))))))))),.heir _ _ _ _,by decide +kernel⟩
def ce (r:D):Prop:=∃h k aD,r=row h k aD/\Dd k aD
theorem ce.c (g:ce r):wW r:=by obtain⟨h,k,aD,e,d⟩:=g;exact⟨h,k,aD,e,d.cd⟩
theorem ce.flat (g:ce r):be r=true:=g.c.rp.flat
theorem Ra (c1 m most:Int)(xs zs iC:List Str)(ns:List Int)(ab:List D)(hz:zs.length=7)(i:Nat)(hi:i<2)(hr:ab.length<=100)(hh:iC.length<=100)(v8 v9 xw HJ:OB):
  ∃r1 r2 p w8 w9 Vr Vs,(ce r1/\bf r1=true/\zs[5+i]? = some (az 0 r1))/\(ce r2/\bf r2=false)/\oh [sF (.lst (ns.map .int)),sF (.lst (zs.map .str)),sF (.int m),sF (.int most),sF (.int c1),lT ab,lT (iC.map .str),sF (.int i),v8,v9,xw,HJ,none,none,none]
   = some (.nx [sF (.lst (ns.map .int)),sF (.lst (zs.map .str)),sF (.int m),sF (.int most),sF (.int c1),lT (ab++[r1]++[r2]),lT ((iC++[p]).map .str),sF (.int i),w8,w9,Vr,Vs,none,none,none]):=by
 have h3:=mod_lt (x:=c1 / (64+9*i)) (m:=3) (by decide);obtain⟨rl,_,Z5⟩:=kT (zs:=[("open" : Str),"first","last"]) (i:=c1 / (64+9*i) % 3) (by simp;omega) (by simp;omega);have h4:=mod_lt (x:=c1 / (2+8*i)) (m:=4) (by decide);obtain⟨Z6,RW,Vt⟩:=nn (ns:=[7,255,3,15]) (i:=c1 / (2+8*i) % 4) h4.1 h4.2;obtain⟨mt,Vu,Z7⟩:∃mt:Nat,Z6=mt/\mt∈MR:=by
  simp only[List.mem_cons,List.not_mem_nil,or_false]at RW;rcases RW with rfl|rfl|rfl|rfl<;>first|exact⟨7,rfl,by decide⟩|exact⟨255,rfl,by decide⟩|exact⟨3,rfl,by decide⟩|exact⟨15,rfl,by decide⟩
 have Xm:=Vt;rw[Vu]at Xm;have SK:=mod_lt (x:=c1 / (31+i)) (m:=3) (by decide);obtain⟨dv,Vn,ed⟩:=nn (ns:=[5,5,10]) (i:=c1 / (31+i) % 3) SK.1 SK.2;have Vo:0<dv:=by simp only[List.mem_cons,List.not_mem_nil,or_false]at Vn;omega
 obtain⟨of,Vv,Xn⟩:∃of,zs[5+i]? = some of/\bC (.lst (zs.map .str)) (.int (5+i))=sF (.str of):=by
  have hl:5+i<zs.length:=by omega
  refine⟨zs[5+i],vU hl,?_⟩;have Bm:((5:Int)+i).toNat<(zs.map D.str).length:=by rw[vI];omega
  rw[DL.AS (by omega) Bm,show((5:Int)+i).toNat=5+i by omega,vF,vA,vU hl];rfl
 obtain⟨pn,_,Xo⟩:=kT (zs:=zs) (i:=i) (by omega) (by omega);have Z8:(0:Int)<64+9*i/\(64:Int)+9*i<1073741824:=by omega
 have b2:(0:Int)<2+8*i/\(2:Int)+8*i<1073741824:=by omega
 have Vw:(0:Int)<512+i/\(512:Int)+i<1073741824:=by omega
 have RX:(0:Int)<1024+5*i/\(1024:Int)+5*i<1073741824:=by omega
 have Z9:(0:Int)<31+i/\(31:Int)+i<1073741824:=by omega
 let t:Int:=if c1 / (512+i) % 8=1 then 1 else 0;have ht:0<=t/\t<=1:=by show 0<=(if _ then (1:Int)else 0)/\(if _ then (1:Int)else 0)<=1;split<;>omega
 refine⟨row (t*4*m) ("root" : Str) [.str of,.int mt,.int (c1 / (1024+5*i) % dv),.str rl],row 0 ("named" : Str) [.int 0,.str of,.str pn],pn,sF (.str rl),sF (.int mt),sF (.int (t*4*m)),sF (.int (c1 / (1024+5*i) % dv)),⟨⟨_,_,_,rfl,.root _ _ _ Z7 _⟩,decide_eq_true rfl,Vv⟩,⟨⟨_,_,_,rfl,.named _ _ _⟩,show decide (("named" : Str) = "root")=false by decide +kernel⟩,?_⟩;refine fP (.str rl) ?_ rfl (fP (.int mt) ?_ rfl (fP (.int (t*4*m)) ?_ rfl (fP (.int (c1 / (1024+5*i) % dv)) ?_ rfl (Ci (ds:=ab) (d:=row (t*4*m) ("root" : Str) [.str of,.int mt,.int (c1 / (1024+5*i) % dv),.str rl]) (b:=false) rfl ?_ rfl (bE (by omega)) (Ci (ds:=ab++[row (t*4*m) ("root" : Str) [.str of,.int mt,.int (c1 / (1024+5*i) % dv),.str rl]]) (d:=row 0 ("named" : Str) [.int 0,.str of,.str pn]) (b:=false) rfl ?_ rfl (bE (by simp;omega)) ((jH (ds:=iC.map .str) (d:=.str pn) (b:=false) rfl ?_ rfl (bE (by simp;omega))).trans ?_))))))
 ·exact gS (x:=.lst (([("open" : Str),"first","last"]:List Str).map .str)) (y:=.int (c1 / (64+9*i) % 3)) (b1:=true) (b2:=false) (by simp[sizeLine]) (by simp[Z8]) Z5
 ·exact gS (x:=.lst (([7,255,3,15]:List Int).map .int)) (y:=.int (c1 / (2+8*i) % 4)) (b1:=true) (b2:=false) (by simp[sizeLine]) (by simp[b2]) Xm
 ·refine bv (.int (t*4)) (.int m) (bv (.int t) (.int 4) ?_ rfl (by simp)) rfl (oy (by omega));refine aJ [.bl (decide (c1 / (512+i) % 8=1))] (cn (bv (.int (c1 / (512+i) % 8)) (.int 1) (by simp[Vw]) rfl (by simp)) rfl) ?_;simp[t]
 ·refine bv (.int (c1 / (1024+5*i))) (.int dv) (by simp[RX]) (gS (x:=.lst (([5,5,10]:List Int).map .int)) (y:=.int (c1 / (31+i) % 3)) (b1:=true) (b2:=false) (by simp[sizeLine]) (by simp[Z9]) ed) ?_;show(if decide ((0:Int)<dv)=true then _ else _)=_;rw[if_pos (decide_eq_true Vo)]
 ·refine aJ [.int (t*4*m),.tup [.str "root",.str of,.int mt,.int (c1 / (1024+5*i) % dv),.str rl]] (cn rfl (cn (aJ [.str "root",.str of,.int mt,.int (c1 / (1024+5*i) % dv),.str rl] (cn rfl (aE (bv (.lst (zs.map .str)) (.int (5+i)) rfl (by simp) Xn) (cn rfl (cn rfl (cn rfl rfl))))) (cD _ (by simp))) rfl)) (cD _ (by simp))
 ·refine aJ [.int 0,.tup [.str "named",.int 0,.str of,.str pn]] (cn rfl (cn (aJ [.str "named",.int 0,.str of,.str pn] (cn rfl (cn rfl (aE (bv (.lst (zs.map .str)) (.int (5+i)) rfl (by simp) Xn) (aE (bv (.lst (zs.map .str)) (.int i) rfl rfl Xo) rfl)))) (cD _ (by simp))) rfl)) (cD _ (by simp))
 ·exact bv (.lst (zs.map .str)) (.int i) rfl rfl Xo
 ·simp
noncomputable def lG (ab:List D):List Str:=(ab.filter bf).map (az 0)
theorem oz (ab:List D)(r:D):lG (ab++[r])=lG ab++if bf r=true then [az 0 r]else []:=by
 unfold lG;rw[List.filter_append,uW,List.filter_cons];split
 ·rename_i h;rfl
 ·rename_i h;rfl
theorem Rb (c1 m most:Int)(zs iC:List Str)(ns:List Int)(ab:List D)(hz:zs.length=7)(i:Nat)(hi:i<100)(hr:ab.length<=200)(hh:iC≠[])(hh2:iC.length<=200)(v8 v9 xw HJ RY RZ Sa:OB):
  ∃r1 sK Ta Tc Td,(ce r1/\bf r1=false)/\sK≠[]/\sK.length<=iC.length+1/\oi [sF (.lst (ns.map .int)),sF (.lst (zs.map .str)),sF (.int m),sF (.int most),sF (.int c1),lT ab,lT (iC.map .str),sF (.int i),v8,v9,xw,HJ,RY,RZ,Sa]
   = some (.nx [sF (.lst (ns.map .int)),sF (.lst (zs.map .str)),sF (.int m),sF (.int most),sF (.int c1),lT (ab++[r1]),lT (sK.map .str),sF (.int i),v8,v9,xw,HJ,Ta,Tc,Td]):=by
 obtain⟨ca,ZA,ca0⟩:=gW ns (5+i);obtain⟨cb,ZB,cb0⟩:=gW ns (30+i);obtain⟨cc,ZC,cc0⟩:=gW ns (60+i);have h3:=mod_lt (x:=ca / 7) (m:=3) (by decide);obtain⟨day,xu⟩:∃day:Int,((i:Int) / 2+ca / 7 % 3)*m=day:=⟨_,rfl⟩;obtain⟨k,r,ed,hD,Vh⟩:=Kj ab.length cb cc day m zs iC hz hh;have ZD:=λh=>hD.had3 h;have ZE:=λh=>hD.had4 h;have h6:=mod_lt (x:=ca / 21) (m:=6) (by decide);obtain⟨tv,ZF,ZG⟩:=nn (ns:=[0,0,0,0,1,4]) (i:=ca / 21 % 6) h6.1 h6.2;have US : -1000<=tv/\tv<=1000:=by simp only[List.mem_cons,List.not_mem_nil,or_false]at ZF;omega
 have Ro:be (.tup (.str k::r))=true:=by simp[hD.flat]
 have e4:∀(ρ:DL.Env),ρ[14]? = some (sF (.tup (.str k::r)))->cW 14 0 ρ=sF (.str k):=λρ h=>bv (.tup (.str k::r)) (.int 0) (by simp[h]) rfl (by simp[E4]);have e1:∀(b:Bool),decide (k = "leave" ∨ k = "named")=b->bd (f2 Az (cW 14 0) (fA aY (af (fS "leave") (af (fS "named") ai)))) [sF (.lst (ns.map .int)),sF (.lst (zs.map .str)),sF (.int m),sF (.int most),sF (.int c1),lT ab,lT (iC.map .str),sF (.int i),v8,v9,xw,HJ,sF (.int ca),sF (.int day),sF (.tup (.str k::r))]=some b:=λb hb=>cN (bv (.str k) (.tup (([("leave" : Str),"named"]:List Str).map .str)) (e4 _ rfl) (by simp[sizeLine]) (by rw[jz,←hb];simp));have at_:∀(j:Nat)(p:Str),r[j]? = some (.str p)->∀ρ:DL.Env,ρ[14]? = some (sF (.tup (.str k::r)))->f2 bC (aj 14) (fC (.int ((j+1:Nat):Int))) ρ=sF (.str p):=λj p hp ρ hρ=>by
  have hl:j<r.length:=(vV hp).1;refine bv (.tup (.str k::r)) (.int ((j+1:Nat):Int)) (by simp[hρ]) rfl ?_;rw[DL.vy (by omega) (by simp;omega),show((j+1:Nat):Int).toNat=j+1 by omega,vF];show some ((r[j]?).getD .non,false)=_;rw[hp];rfl
 obtain⟨sK,Vx,Sb,ZH⟩:∃sK:List Str,sK≠[]/\sK.length<=iC.length+1/\∀(h:FS)(rr:Option Res),h [sF (.lst (ns.map .int)),sF (.lst (zs.map .str)),sF (.int m),sF (.int most),sF (.int c1),lT ab,lT (sK.map .str),sF (.int i),v8,v9,xw,HJ,sF (.int ca),sF (.int day),sF (.tup (.str k::r))]=rr->a7 (eB (bd (f2 Az (cW 14 0) (fA aY (af (fS "leave") (af (fS "named") ai))))) (iT 6 (cW 14 3)) bg) (a7 (eB (bd (f2 dz (cW 14 0) (fS "chosen"))) (iT 6 (cW 14 4)) bg) h) [sF (.lst (ns.map .int)),sF (.lst (zs.map .str)),sF (.int m),sF (.int most),sF (.int c1),lT ab,lT (iC.map .str),sF (.int i),v8,v9,xw,HJ,sF (.int ca),sF (.int day),sF (.tup (.str k::r))]=rr:=by
  by_cases hx:k = "leave" ∨ k = "named"
  ·obtain⟨p,hp⟩:=ZD hx;have RD:k ≠ "chosen":=by rcases hx with rfl|rfl<;>decide +kernel
   refine⟨iC++[p],by simp,by simp,λh rr hr=>dn (lw (e1 true (decide_eq_true hx)) (jH (ds:=iC.map .str) (d:=.str p) (b:=false) rfl (at_ 2 p hp _ rfl) rfl (bE (by simp;omega)))) (a9 (bM (a:=k) (bb:=false) (e4 _ rfl) (decide_eq_false RD)) ?_)⟩;rw[uW]at hr;exact hr
  ·by_cases hy:k = "chosen"
   ·obtain⟨p,hp⟩:=ZE hy;refine⟨iC++[p],by simp,by simp,λh rr hr=>a9 (e1 false (decide_eq_false hx)) (dn (lw (bM (a:=k) (bb:=false) (e4 _ rfl) (decide_eq_true hy)) (jH (ds:=iC.map .str) (d:=.str p) (b:=false) rfl (at_ 3 p hp _ rfl) rfl (bE (by simp;omega)))) ?_)⟩;rw[uW]at hr;exact hr
   ·exact⟨iC,hh,by omega,λh rr hr=>a9 (e1 false (decide_eq_false hx)) (a9 (bM (a:=k) (bb:=false) (e4 _ rfl) (decide_eq_false hy)) hr)⟩
 refine⟨row (day+tv*m) k r,sK,sF (.int ca),sF (.int day),sF (.tup (.str k::r)),⟨⟨_,_,_,rfl,hD⟩,decide_eq_false Vh⟩,Vx,Sb,?_⟩;refine fP (.int ca) (aJ [.lst (ns.map .int),.int ((5+i:Nat):Int)] (by simp) ZA) rfl (fP (.int day) ?_ rfl (fP (.tup (.str k::r)) ?_ Ro (ZH _ _ ((jH (ds:=ab) (d:=row (day+tv*m) k r) (b:=false) rfl ?_ (by simp[row,hD.flat]) (bE (by omega))).trans ?_))))
 ·refine bv (.int ((i:Int) / 2+ca / 7 % 3)) (.int m) (by simp) rfl ?_;rw[←xu];exact oy (by omega)
 ·refine aJ [.int ab.length,.int cb,.int cc,.lst (zs.map .str),.int day,.lst (iC.map .str),.int m] (cn (by simp) (aE (aJ [.lst (ns.map .int),.int ((30+i:Nat):Int)] (by simp) ZB) (aE (aJ [.lst (ns.map .int),.int ((60+i:Nat):Int)] (by simp) ZC) (cn rfl (cn rfl (cn rfl (cn rfl rfl))))))) ed
 ·refine aJ [.int (day+tv*m),.tup (.str k::r)] (cn (bv (.int day) (.int (tv*m)) rfl (bv (.int tv) (.int m) (gS (x:=.lst (([0,0,0,0,1,4]:List Int).map .int)) (y:=.int (ca / 21 % 6)) (b1:=true) (b2:=false) (by simp[sizeLine]) (by simp) ZG) rfl (oy US)) rfl) (cn rfl rfl)) (cD _ (by simp))
 ·simp
theorem Kk (ns:List Int)(zs:List Str)(hz:zs.length=7)(m:Int):∃ab:List D,rB [.lst (ns.map .int),.lst (zs.map .str),.int m,.int 18]=sF (.tup ab)/\(∀r∈ab,ce r)/\ab.length<=24/\lG ab=(zs.drop 5).take (lG ab).length:=by
 obtain⟨c1,e1,h1⟩:=gW ns 1;obtain⟨c2,e2,h2⟩:=gW ns 2;have Pu:=mod_lt (x:=c1) (m:=2) (by decide);have SX:=mod_lt (x:=c2) (m:=18) (by decide);obtain⟨n1,SW⟩:∃n1:Nat,1+c1 % 2=n1:=⟨(1+c1 % 2).toNat,by omega⟩;obtain⟨n2,Vy⟩:∃n2:Nat,3+c2 % 18=n2:=⟨(3+c2 % 18).toNat,by omega⟩;obtain⟨ρ1,f1,Mi,Sc,u7,u8,u9,Vz,V0,rfl,g1,l1,k1,o1⟩:=mC (tg:=dD 7) (g:=oh) n1 (λi ρ=>∃(ab:List D)(iC:List Str)(v7 v8 v9 xw HJ:OB),ρ=[sF (.lst (ns.map .int)),sF (.lst (zs.map .str)),sF (.int m),sF (.int 18),sF (.int c1),lT ab,lT (iC.map .str),v7,v8,v9,xw,HJ,none,none,none]/\(∀r∈ab,ce r)/\ab.length=2*i/\iC.length=i/\lG ab=(zs.drop 5).take i)
  [sF (.lst (ns.map .int)),sF (.lst (zs.map .str)),sF (.int m),sF (.int 18),sF (.int c1),lT [],lT [],none,none,none,none,none,none,none,none] ⟨[],[],none,none,none,none,none,rfl,by simp,rfl,rfl,rfl⟩ (by
   rintro i ρ hi ⟨ab,iC,v7,v8,v9,xw,HJ,rfl,g,l,k,o⟩;obtain⟨r1,r2,p,w8,w9,Vr,Vs,q1,q2,e⟩:=Ra c1 m 18 [] zs iC ns ab hz i (by omega) (by omega) (by omega) v8 v9 xw HJ;refine⟨_,_,rfl,.inl e,ab++[r1]++[r2],iC++[p],_,w8,w9,Vr,Vs,rfl,?_,by simp;omega,by simp[k],by rw[oz,oz,if_pos q1.2.1,if_neg (by rw[q2.2];decide),uQ,o,List.take_add_one,List.getElem?_drop,q1.2.2];rfl⟩;intro r hr;simp only[List.mem_append,List.mem_singleton]at hr;rcases hr with (hr|rfl)|rfl
   ·exact g r hr
   ·exact q1.1
   ·exact q2.1)
 obtain⟨ρ2,ZI,Mj,ZJ,w7,Ta,Tc,Td,rfl,g2,l2,k2,k3,o2⟩:=mC (tg:=dD 7) (g:=oi) n2 (λi ρ=>∃(ab:List D)(iC:List Str)(v7 RY RZ Sa:OB),ρ=[sF (.lst (ns.map .int)),sF (.lst (zs.map .str)),sF (.int m),sF (.int 18),sF (.int c1),lT ab,lT (iC.map .str),v7,u8,u9,Vz,V0,RY,RZ,Sa]/\(∀r∈ab,ce r)/\ab.length=2*n1+i/\iC≠[]/\iC.length<=n1+i/\lG ab=(zs.drop 5).take n1)
  [sF (.lst (ns.map .int)),sF (.lst (zs.map .str)),sF (.int m),sF (.int 18),sF (.int c1),lT Mi,lT (Sc.map .str),u7,u8,u9,Vz,V0,none,none,none] ⟨Mi,Sc,u7,none,none,none,rfl,g1,by omega,λe=>by rw[e]at k1;simp at k1;omega,by omega,o1⟩ (by
   rintro i ρ hi ⟨ab,iC,v7,RY,RZ,Sa,rfl,g,l,k,k',o⟩;obtain⟨r1,sK,Ta,Tc,Td,q1,q2,q3,e⟩:=Rb c1 m 18 zs iC ns ab hz i (by omega) (by omega) k (by omega) u8 u9 Vz V0 RY RZ Sa;refine⟨_,_,rfl,.inl e,ab++[r1],sK,_,Ta,Tc,Td,rfl,?_,by simp;omega,q2,by omega,by rw[oz,if_neg (by rw[q1.2];decide),uQ,o]⟩;intro r hr;simp only[List.mem_append,List.mem_singleton]at hr;rcases hr with hr|rfl
   ·exact g r hr
   ·exact q1.1)
 refine⟨Mj,aw rfl (fP (.int c1) (aJ [.lst (ns.map .int),.int ((1:Nat):Int)] (by simp) e1) rfl (cy (ds:=[]) (by simp[sizeLine]) rfl (cy (ds:=[]) (by simp[sizeLine]) rfl (dn (kG (jv (j:=n1) (b:=false) (by simp;omega) (by omega)) f1) (dn (kG (jv (j:=n2) (b:=false) ?_ (by omega)) ZI) (ay (by simp))))))),g2,by omega,?_⟩
 ·refine bv (.int 3) (.int (c2 % 18)) rfl (bv (.int c2) (.int 18) (aJ [.lst (ns.map .int),.int ((2:Nat):Int)] (by simp) e2) rfl (by simp)) ?_;rw[←Vy];rfl
 ·have hl:(lG Mj).length<=n1:=by rw[o2,List.length_take];omega
  rw[o2,List.length_take];congr 1;rw[List.length_drop];omega
theorem vc (a b:Nat):iq [.int a,.int b]=sF (.bl (decide (a &&& b=b))):=by
 have:Builtin.bitAnd (a:Int) (b:Int)=((a &&& b:Nat):Int):=by simp[Builtin.bitAnd]
 simp[iq,rh,this];omega
def ji (r:D):Nat:=(if kindOf r = "root" then gO 1 r else if kindOf r = "leave" then gO 3 r else gO 2 r).toNat
theorem fJ (a:Int)(k:Str)(aD:List D):kindOf (row a k aD)=k:=rfl
noncomputable def eM:List Str:=[("leave" : Str),"paper","like"]
theorem sg (g:ce r)(h:bf r=true):∃a o rl,∃m:Nat,∃f:Int,r=row a ("root" : Str) [.str o,.int m,.int f,.str rl]/\m∈MR/\ji r=m:=by
 obtain⟨a,k,aD,rfl,d⟩:=g;have hk:k = "root":=of_decide_eq_true h;clear h;cases d with
 |root o rl m hm f=>exact⟨a,o,rl,m,f,rfl,hm,by unfold ji;rw[fJ,if_pos rfl];rfl⟩
 |named=>exact cQ hk
 |chosen=>exact cQ hk
 |heir=>exact cQ hk
 |three k fO=>rcases fO with rfl|rfl|rfl<;>exact cQ hk
 |leave=>exact cQ hk
 |paper k fO=>rcases fO with rfl|rfl<;>exact cQ hk
 |copy k fO=>rcases fO with rfl|rfl<;>exact cQ hk
theorem C8 (g:ce r)(h:bf r=true):au [r,.str "matters"]=sF (.int (ji r)):=by
 obtain⟨a,o,rl,m,f,rfl,_,e⟩:=sg g h;rw[e];exact bo (i:=1) dj rfl
theorem Og {a:Int}{k:Str}{aD:List D}(d:Dd k aD)(h:k∈eM):ji (row a k aD)∈MS/\(∃i:Nat,p6 gT (.str k) (.str "matters")=sF (.int i)/\aD[i]? = some (.int (ji (row a k aD))))/\(D.str k::aD).getD (3+if k = "leave" then 1 else 0) .non=.int (ji (row a k aD))/\(3+if k = "leave" then 1 else 0)<(D.str k::aD).length:=by
 cases d with
 |leave d b p m hm x f=>
  have e:ji (row a ("leave" : Str) [.int d,.str b,.str p,.int m,iD x,.int f])=m:=by unfold ji;rw[fJ,if_neg (by decide +kernel),if_pos rfl];rfl
  rw[e];refine⟨hm,⟨3,dj,rfl⟩,?_,?_⟩
  ·rw[if_pos rfl];rfl
  ·rw[if_pos rfl];simp
 |paper k hk d b m hm x r hf hp=>
  have hl:k ≠ "leave":=by rcases hk with rfl|rfl<;>decide +kernel
  have hr:k ≠ "root":=by rcases hk with rfl|rfl<;>decide +kernel
  have e:ji (row a k (.int d::.str b::.int m::iD x::r))=m:=by unfold ji;rw[fJ,if_neg hr,if_neg hl];rfl
  rw[e];refine⟨hm,⟨2,by rcases hk with rfl|rfl<;>exact dj,rfl⟩,?_,?_⟩
  ·rw[if_neg hl];rfl
  ·rw[if_neg hl];simp
 |root=>exact cQ h
 |named=>exact cQ h
 |chosen=>exact cQ h
 |heir=>exact cQ h
 |three k fO=>rcases fO with rfl|rfl|rfl<;>exact cQ h
 |copy k fO=>rcases fO with rfl|rfl<;>exact cQ h
theorem xi (g:ce r)(h:kindOf r∈eM):au [r,.str "matters"]=sF (.int (ji r)):=by
 obtain⟨a,k,aD,rfl,d⟩:=g;obtain⟨_,⟨i,h1,h2⟩,_⟩:=Og (a:=a) d h;exact bo h1 h2
noncomputable def c8:List Str:=[("leave" : Str),"paper","like","copy"]
theorem jN (h:k∈c8∨k = "call"):dS k=true:=by
 rw[rH];refine decide_eq_true ?_;rcases h with h|rfl
 ·have:∀k∈c8,k∈zg:=by decide +kernel
  exact this k h
 ·decide +kernel
theorem Kl {k:Str}{aD:List D}(d:Dd k aD)(h:dS k=true):∃(dd:Int)(b:Str)(r:List D),aD=.int dd::.str b::r:=d.cd.deed.slg h
theorem C9 (g:ce r)(h:dS (kindOf r)=true):au [r,.str "by"]=sF (.str (de r)):=by
 obtain⟨a,k,aD,rfl,d⟩:=g;obtain⟨dd,b,q,rfl⟩:=Kl d h;exact bo (i:=1) (G5 h) rfl
noncomputable def bK (K:KL):List D:=(K.filter λx=>bf x.1).map (·.1)
theorem zv:∀(l:List (cz×D))(a:List cz×List D),(a.1++l.map (·.1)).Nodup->l.foldl qI a=(a.1++l.map (·.1),a.2++l.map (·.2))
 |[],a,_=>by simp
 |p::l,a,h=>by
  have hn:p.1∉a.1:=by
   rw[uY,List.nodup_append]at h;exact λz=>h.2.2 _ z _ mX rfl
  have e:qI a p=(a.1++[p.1],a.2++[p.2]):=by unfold qI dF dG;rw[if_neg hn,if_neg hn]
  rw[List.foldl_cons,e,zv l _ (by rw[List.append_assoc];exact h)];simp
section
variable {K:KL}(hn:((bK K).map (az 0)).Nodup)
include hn
theorem si:bT (mV K)=((bK K).map λv=>(.inr (az 0 v):cz),bK K):=by
 have e:mV K=(bK K).map λv=>((.inr (az 0 v):cz),v):=by unfold mV bK;rw[uP];rfl
 have Vy:((bK K).map λv=>(.inr (az 0 v):cz)).Nodup:=by
  refine List.pairwise_map.mpr ((List.pairwise_map.mp hn).imp λh z=>h (Sum.inr.inj z))
 rw[e];unfold bT;rw[zv _ _ (by rw[uP];exact Vy),uP,uP];simp only[List.nil_append];congr 1;exact List.map_id _
end
noncomputable def Km (j:Nat):D->Int×Option Int
 |.tup [_,.tup (_::aD)]=>match aD[j]? with
  |some (.tup [.int s,.int u])=>(s,some u)
  |some (.tup [.int s,.non])=>(s,none)
  |_=>(0,none)
 |_=>(0,none)
theorem xj {h:Int}{k:Str}{aD:List D}{j:Nat}{x:Int×Option Int}(e:aD[j]? = some (iD x)):Km j (row h k aD)=x:=by
 unfold Km row;simp only[e];obtain⟨s,u⟩:=x;cases u<;>rfl
def i7 (r:D):Int×Option Int:=if kindOf r = "leave" then Km 4 r else Km 3 r
def j5 (r:D):Int:=if kindOf r = "root" then gO 2 r else gO 5 r
def o0 (r:D):Bool:=decide (kindOf r = "leave")
theorem pj {r:D}(g:ce r)(h:kindOf r = "leave"):∃a d b p,∃m:Nat,∃x f,r=row a ("leave" : Str) [.int d,.str b,.str p,.int m,iD x,.int f]/\m∈MS/\ji r=m/\i7 r=x/\j5 r=f:=by
 obtain⟨a,k,aD,rfl,d⟩:=g;have hk:k = "leave":=h;clear h;cases d with
 |leave d b p m hm x f=>exact⟨a,d,b,p,m,x,f,rfl,hm,by unfold ji;rw[fJ,if_neg (by decide +kernel),if_pos rfl];rfl,by unfold i7;rw[fJ,if_pos rfl];exact xj rfl,by unfold j5;rw[fJ,if_neg (by decide +kernel)];rfl⟩
 |root=>exact cQ hk
 |named=>exact cQ hk
 |chosen=>exact cQ hk
 |heir=>exact cQ hk
 |three k fO=>rcases fO with rfl|rfl|rfl<;>exact cQ hk
 |paper k fO=>rcases fO with rfl|rfl<;>exact cQ hk
 |copy k fO=>rcases fO with rfl|rfl<;>exact cQ hk
theorem Kn {a:Int}{k:Str}{aD:List D}(d:Dd k aD)(h:k∈eM):(∃i:Nat,p6 gT (.str k) (.str "stretch")=sF (.int i)/\aD[i]? = some (iD (i7 (row a k aD))))/\(D.str k::aD).getD (4+if k = "leave" then 1 else 0) .non=iD (i7 (row a k aD))/\(4+if k = "leave" then 1 else 0)<(D.str k::aD).length:=by
 cases d with
 |leave d b p m hm x f=>
  have e:i7 (row a ("leave" : Str) [.int d,.str b,.str p,.int m,iD x,.int f])=x:=by unfold i7;rw[fJ,if_pos rfl];exact xj rfl
  rw[e,if_pos rfl];exact⟨⟨4,dj,rfl⟩,rfl,by simp⟩
 |paper k hk d b m hm x r hf hp=>
  have hl:k ≠ "leave":=by rcases hk with rfl|rfl<;>decide +kernel
  have e:i7 (row a k (.int d::.str b::.int m::iD x::r))=x:=by unfold i7;rw[fJ,if_neg hl];exact xj rfl
  rw[e,if_neg hl];exact⟨⟨3,by rcases hk with rfl|rfl<;>exact dj,rfl⟩,rfl,by simp⟩
 |root=>exact cQ h
 |named=>exact cQ h
 |chosen=>exact cQ h
 |heir=>exact cQ h
 |three k fO=>rcases fO with rfl|rfl|rfl<;>exact cQ h
 |copy k fO=>rcases fO with rfl|rfl<;>exact cQ h
theorem CA (g:ce r)(h:kindOf r∈eM):au [r,.str "stretch"]=some (iD (i7 r),false):=by
 obtain⟨a,k,aD,rfl,d⟩:=g;obtain⟨⟨i,h1,h2⟩,_⟩:=Kn (a:=a) d h;exact bo h1 h2
theorem xl (h:kindOf r = "leave"):kindOf r∈eM:=by rw[h];decide +kernel
theorem LO (g:ce r)(h:bf r=true∨kindOf r = "leave"):au [r,.str "further"]=sF (.int (j5 r)):=by
 rcases h with h|h
 ·obtain⟨a,o,rl,m,f,rfl,_,_⟩:=sg g h;rw[show j5 (row a ("root" : Str) [.str o,.int m,.int f,.str rl])=f by unfold j5;rw[fJ,if_pos rfl];rfl];exact bo (i:=2) dj rfl
 ·obtain⟨a,d,b,p,m,x,f,e,_,_,_,ef⟩:=pj g h;rw[ef,e];exact bo (i:=5) dj rfl
def sj (r v:D):Bool:=decide (ji v &&& ji r=ji r) && !(o0 r && decide (j5 v<=j5 r))
theorem zw (gr:ce r)(gv:ce v)(kr:kindOf r∈eM)(kv:bf v=true∨kindOf v = "leave"):∃d,iM [r,v]=some (d,false)/\E3 d .non=sF (.bl (sj r v)):=by
 have ZK:au [v,.str "matters"]=sF (.int (ji v)):=kv.elim (C8 gv) λh=>xi gv (xl h);have t1:bd (fA iq (af (fA au (fV 1 (af (fS "matters") ai))) (af (fA au (fV 0 (af (fS "matters") ai))) ai))) [some (r,false),some (v,false)]=some (decide (ji v &&& ji r=ji r)):=cN (aJ [.int (ji v),.int (ji r)] (aE (aJ [v,.str "matters"] rfl ZK) (aE (aJ [r,.str "matters"] rfl (xi gr kr)) rfl)) (vc _ _));have t2:bd (f2 dz (fA aL (fV 0 ai)) (fS "leave")) [some (r,false),some (v,false)]=some (o0 r):=bM (a:=kindOf r) (bb:=false) (aJ [r] rfl (jh gr.c)) rfl;have t3:o0 r=true->bd (f2 T9 (fA au (fV 0 (af (fS "further") ai))) (fA au (fV 1 (af (fS "further") ai)))) [some (r,false),some (v,false)]=some (decide (j5 v<=j5 r)):=λh=>cN (bv (.int (j5 r)) (.int (j5 v)) (aJ [r,.str "further"] rfl (LO gr (.inr (of_decide_eq_true h)))) (aJ [v,.str "further"] rfl (LO gv kv)) rfl);have t4:=fG t2 t3;unfold sj;cases hA:decide (ji v &&& ji r=ji r) with
 |false=>exact⟨.str "matters",aw rfl (b9 (bZ (p:=false) (t1.trans (by rw[hA]))) (ay rfl)),rfl⟩
 |true=>
  cases hB:(o0 r && decide (j5 v<=j5 r)) with
  |true=>exact⟨.str "further",aw rfl (a9 (bZ (p:=true) (t1.trans (by rw[hA]))) (b9 (t4.trans (by rw[hB])) (ay rfl))),rfl⟩
  |false=>exact⟨.non,aw rfl (a9 (bZ (p:=true) (t1.trans (by rw[hA]))) (a9 (t4.trans (by rw[hB])) (ay rfl))),rfl⟩
theorem sk (h:k∈eM):k∈c8:=by
 have:∀k∈eM,k∈c8:=by decide +kernel
 exact this k h
theorem iR (h:kindOf r∈eM):bf r=false:=by
 have:∀k∈eM,decide (k = "root")=false:=by decide +kernel
 exact this _ h
theorem sn (g:ce r)(h:bf r=false):aP [r]=sF (.int (aG r)):=by
 have:=rK g.c;unfold sZ at this;rwa [h,if_neg (by decide)]at this
def tp (cs:List Cl)(r v:D):Bool:=iQ cs (az 0 v) (az 3 v) (de r) (aG r) && sj r v
theorem Ko (cs:List Cl)(xy:cs.length<=60)(gr:ce r)(gv:ce v)(kr:kindOf r∈eM)(hv:bf v=true):∃d,gV [.lst (cs.map aT),r,v]=some (d,false)/\E3 d .non=sF (.bl (tp cs r v)):=by
 obtain⟨d,e1,e2⟩:=zw gr gv kr (.inl hv);have t1:bd (fA cL (fV 0 (fV 2 (af (fA au (fV 1 (af (fS "by") ai))) (af (fA aP (fV 1 ai)) ai))))) [sF (.lst (cs.map aT)),some (r,false),some (v,false)]=some (iQ cs (az 0 v) (az 3 v) (de r) (aG r)):=by
  refine cN (aJ [.lst (cs.map aT),v,.str (de r),.int (aG r)] (cn rfl (cn rfl (aE (aJ [r,.str "by"] rfl (C9 gr (jN (.inl (sk kr))))) (aE (aJ [r] rfl (sn gr (iR kr))) rfl)))) ?_);obtain⟨a,o,rl,m,f,rfl,_,_⟩:=sg gv hv;exact xa cs xy _ _
 unfold tp;cases hA:iQ cs (az 0 v) (az 3 v) (de r) (aG r) with
 |false=>exact⟨.str "holder",aw rfl (b9 (bZ (p:=false) (t1.trans (by rw[hA]))) (ay rfl)),rfl⟩
 |true=>exact⟨d,aw rfl (a9 (bZ (p:=true) (t1.trans (by rw[hA]))) (ay (aJ [r,v] rfl e1))),e2⟩
def GL (cs:List Cl)(r v:D):Int:=match jT cs (az 0 v) (az 3 v) (aG r) with
 |.tup [_,_,.int n]=>n
 |_=>0
theorem GN (h:iQ cs o rl p day=true):∃n:Int,jT cs o rl day=.tup [.str "one",.str p,.int n]:=by
 unfold iQ jT at h;unfold jT;generalize Pd cs o day=al at h ⊢;cases al with
 |nil=>
  have h:bB (.tup [.str "none"]) (.tup [.str "one",.str p])=true:=h;simp[dq]at h
 |cons b r=>
  rw[pi]at h ⊢;split at h
  ·have h:bB (.tup [.str "parted",.lst ((lY (b::r)).map .str)]) (.tup [.str "one",.str p])=true:=h;simp[dq]at h
  ·rename_i hn;rw[if_neg hn];have h:bB (.tup [.str "one",.str (iz rl b r).p]) (.tup [.str "one",.str p])=true:=h;have h:(iz rl b r).p=p:=by simpa [dq]using h
   exact⟨_,by rw[h]⟩
theorem Kp (h:iQ cs (az 0 v) (az 3 v) (de r) (aG r)=true):jT cs (az 0 v) (az 3 v) (aG r)=.tup [.str "one",.str (de r),.int (GL cs r v)]:=by
 obtain⟨n,e⟩:=GN h;unfold GL;rw[e]
def Oh (cs:List Cl)(r v:D):D:=.tup [.str "office",.str (az 0 v),.int (GL cs r v)]
theorem sq (g:∀r∈ab,ce r)(hv:v∈bK (ak ab aa)):ce v/\bf v=true:=by
 obtain⟨x,hx,rfl⟩:=vO hv;obtain⟨h1,h2⟩:=vN hx;exact⟨g _ (vL (bu h1)),h2⟩
theorem GO (hl:ab.length<=60)(aa:Int):(bK (ak ab aa)).length<=60:=by
 unfold bK;rw[vI];exact vR (vM _ _) (vR (cq ab aa) hl)
theorem Ea {ab:List D}(g:∀r∈ab,ce r)(hl:ab.length<=60)(aa:Int)(hn:((bK (ak ab aa)).map (az 0)).Nodup)(cs:List Cl)(xy:cs.length<=60){ri:Nat}{r:D}(hr:ab[ri]? = some r)(kr:kindOf r∈eM):
  ir [.tup ab,.int aa,.lst (cs.map aT),.int ri]=lT (((bK (ak ab aa)).filter (tp cs r)).map (Oh cs r)):=by
 have gC:gA ab:=⟨hl,λr hr=>(g r hr).c⟩;have gr:=g r (vL hr);have Sd:=GO hl aa;have h1:=gN (fi:=qN (fA gn (fV 0 (fV 1 ai)))) (nT:=1) (cap:=[2,4]) (tg:=dD 0) (c:=bd (f2 E3 (fA gV (fV 1 (fV 2 (fV 0 ai)))) (fC .non))) (fe:=aj 0)
  (ρ:=[sF (.tup ab),sF (.int aa),sF (.lst (cs.map aT)),sF (.int ri),some (r,false),none]) (bK (ak ab aa)) id (tp cs r) id
  (by show(fA gn _ _).bind _=_;rw[aJ [.tup ab,.int aa] rfl (rV gC aa),si hn];simp) (by omega) λv hv=>by
   obtain⟨gv,OH⟩:=sq g hv;obtain⟨d,e1,e2⟩:=Ko cs xy gr gv kr OH;exact⟨[some (v,false),sF (.lst (cs.map aT)),some (r,false)],rfl,cN (bv d .non (aJ [.lst (cs.map aT),r,v] rfl e1) rfl e2),λ_=>⟨false,rfl⟩⟩
 rw[List.map_id]at h1;have vp:bz ((bK (ak ab aa)).filter (tp cs r))=true:=bP λv hv=>(sq g (vN hv).1).1.flat;refine aw rfl (fP r (bv (.tup ab) (.int ri) rfl rfl (by simp[cH hr])) gr.flat (cy h1 vp (ay ?_)));refine oK (fi:=cw (aj 5)) (nT:=1) (cap:=[2,4]) (tg:=dD 0) (fe:=fA aY (af (fS "office") (af (fA au (fV 0 (af (fS "office") ai))) (af (f2 bC (fA dP (fV 1 (fV 0 (af (fA aP (fV 2 ai)) ai)))) (fI 2)) ai))))
  (ρ:=[sF (.tup ab),sF (.int aa),sF (.lst (cs.map aT)),sF (.int ri),some (r,false),lT ((bK (ak ab aa)).filter (tp cs r))]) ((bK (ak ab aa)).filter (tp cs r)) id (Oh cs r) (by simp) (vR (vM _ _) (by omega)) λv hv=>?_
 obtain⟨Vg,ZL⟩:=vN hv;obtain⟨gv,OH⟩:=sq g Vg;have Xp:(iQ cs (az 0 v) (az 3 v) (de r) (aG r) && sj r v)=true:=ZL;rw[vC]at Xp;have hh:=Kp Xp.1;refine⟨[some (v,false),sF (.lst (cs.map aT)),some (r,false)],rfl,false,?_⟩;obtain⟨a,o,rl,m,f,rfl,_,_⟩:=sg gv OH;refine aJ [.str "office",.str o,.int (GL cs r _)] (cn rfl (aE (aJ [row a ("root" : Str) [.str o,.int m,.int f,.str rl],.str "office"] rfl kR) (cn (bv (jT cs o rl (aG r)) (.int 2) (aJ [.lst (cs.map aT),row a ("root" : Str) [.str o,.int m,.int f,.str rl],.int (aG r)] (cn rfl (cn rfl (aE (aJ [r] rfl (sn gr (iR kr))) rfl))) (mU cs xy _)) rfl ?_) rfl))) (cD _ (by simp));have hh:jT cs o rl (aG r)=_:=hh;rw[hh];simp[VR]
noncomputable def GP (day:Int)(x:Int×Option Int):Bool:=decide (x.1<=day) && (match x.2 with|none=>true|some u=>decide (day<u))
noncomputable def Rc:Option Int->Option Int->Bool
 |_,none=>true
 |none,some _=>false
 |some x,some y=>decide (x<=y)
theorem Kq (a b:Option Int):je [uD a,uD b]=sF (.bl (Rc a b)):=by
 cases b with
 |none=>exact aw rfl (b9 (cN (by simp[uD])) (ay (by cases a<;>rfl)))
 |some y=>
  refine aw rfl (a9 (cN (by simp[uD])) (ay ?_));cases a with
  |none=>exact dC (p:=false) (q:=false) (b1:=false) (by simp[uD]) (by simp)
  |some x=>exact dC (p:=true) (q:=decide (x<=y)) (b1:=false) (by simp[uD]) λ_=>by simp[uD]
def Kr (a b:Int×Option Int):Bool:=decide (b.1<=a.1) && Rc a.2 b.2
theorem Oi (a b:Int×Option Int):iN [iD a,iD b]=sF (.bl (Kr a b)) :=
 aw rfl (ay (dC (b1:=false) (by simp[iD,E4]) λ_=>aJ [uD a.2,uD b.2] (cn (by simp[iD,HX]) (cn (by simp[iD,HX]) rfl)) (Kq _ _)))
theorem LP {ab:List D}{i:Nat}{r:D}(hr:ab[i]? = some r)(g:ce r)(h:bf r=false):eX [.tup ab,.int i]=sF (.tup [.int (aG r),.int i]) :=
 aw rfl (ay (aJ [.int (aG r),.int i] (cn (aJ [r] (by simp[cH hr]) (sn g h)) rfl) (by simp[sizeLine])))
theorem Uf (a b c d:Int):Mt (.tup [.int a,.int b]) (.tup [.int c,.int d])=sF (.bl (decide (a<c∨(a=c/\b<d)))):=by
 show(ba [.i a,.i b] [.i c,.i d]).map _=_;rw[Oe];rfl
theorem zx {ab:List D}{i j:Nat}{x y:D}(hx:ab[i]? = some x)(hy:ab[j]? = some y)(gx:ce x)(gy:ce y)(nx:bf x=false)(ny:bf y=false):gf [.tup ab,.int i,.int j]=sF (.bl (cA (x,i) (y,j))) :=
 aw rfl (ay (bv (.tup [.int (aG x),.int i]) (.tup [.int (aG y),.int j]) (aJ [.tup ab,.int i] rfl (LP hx gx nx)) (aJ [.tup ab,.int j] rfl (LP hy gy ny)) (Uf _ _ _ _)))
def zy (r:D)(ri:Nat)(x:D×Nat):Bool:=cA x (r,ri) && ((GP (aG r) (i7 x.1) && Kr (i7 r) (i7 x.1)) && sj r x.1)
theorem Ks {ab:List D}{ri li:Nat}{r l:D}(hr:ab[ri]? = some r)(hl:ab[li]? = some l)(gr:ce r)(gl:ce l)(kr:kindOf r∈eM)(kl:kindOf l = "leave"):∃d,iO [.tup ab,.int ri,.int li]=some (d,false)/\E3 d .non=sF (.bl (zy r ri (l,li))):=by
 have nr:=iR kr;have nl:=iR (xl kl);obtain⟨d,e1,e2⟩:=zw gr gl kr (.inr kl);let E:DL.Env:=[sF (.tup ab),sF (.int ri),sF (.int li),some (r,false),some (iD (i7 l),false)];have al:∀ρ:DL.Env,ρ[0]? = some (sF (.tup ab))->ρ[2]? = some (sF (.int li))->f2 bC (aj 0) (aj 2) ρ=some (l,false):=λρ h0 h2=>bv (.tup ab) (.int li) (by simp[h0]) (by simp[h2]) (by simp[cH hl]);have t1:bd (fA gf (fV 0 (fV 2 (fV 1 ai)))) E=some (cA (l,li) (r,ri)):=cN (aJ [.tup ab,.int li,.int ri] rfl (zx hl hr gl gr nl nr));have t2:bd (fA jw (af (fA aP (fV 3 ai)) (fV 4 ai))) E=some (GP (aG r) (i7 l)):=cN (aJ [.int (aG r),iD (i7 l)] (aE (aJ [r] rfl (sn gr nr)) (cn rfl rfl)) (Cz _ _ _));have t3:bd (fA iN (af (fA au (fV 3 (af (fS "stretch") ai))) (fV 4 ai))) E=some (Kr (i7 r) (i7 l)):=cN (aJ [iD (i7 r),iD (i7 l)] (aE (aJ [r,.str "stretch"] rfl (CA gr kr)) (cn rfl rfl)) (Oi _ _));have t4:=c7 (bZ t2) λ_=>bZ t3;have go:∀(h:FS)(res:Option Res),h E=res->a7 (aN 3 (f2 bC (aj 0) (aj 1))) (a7 (aN 4 (fA au (af (f2 bC (aj 0) (aj 2)) (af (fS "stretch") ai)))) h) [sF (.tup ab),sF (.int ri),sF (.int li),none,none]=res:=λh res k=>
  fP r (bv (.tup ab) (.int ri) rfl rfl (by simp[cH hr])) gr.flat (fP (iD (i7 l)) (aJ [l,.str "stretch"] (aE (al _ rfl rfl) rfl) (CA gl (xl kl))) (j4 _) k)
 unfold zy;cases hA:cA (l,li) (r,ri) with
 |false=>exact⟨.str "order",aw rfl (go _ _ (b9 (bZ (p:=false) (t1.trans (by rw[hA]))) (ay rfl))),rfl⟩
 |true=>
  cases hB:(GP (aG r) (i7 l) && Kr (i7 r) (i7 l)) with
  |false=>exact⟨.str "days",aw rfl (go _ _ (a9 (bZ (p:=true) (t1.trans (by rw[hA]))) (b9 (t4.trans (by rw[←Bool.not_and,hB];rfl)) (ay rfl)))),rfl⟩
  |true=>exact⟨d,aw rfl (go _ _ (a9 (bZ (p:=true) (t1.trans (by rw[hA]))) (a9 (t4.trans (by rw[←Bool.not_and,hB];rfl)) (ay (aJ [r,l] (cn rfl (aE (al _ rfl rfl) rfl)) e1))))),e2⟩
theorem ma {ab:List D}{aa:Int}{i:Nat}{r:D}(hr:ab[i]? = some r)(g:ce r):ge [.tup ab,.int aa,.int i]=sF (.bl (decide (bi r<=aa) && o0 r)):=by
 have Ic:cC [.tup ab,.int aa,.int i]=sF (.bl (decide (bi r<=aa))):=by
  obtain⟨a,k,aD,rfl,d⟩:=g;exact kQ hr aa
 exact aw rfl (ay (dC (aJ [.tup ab,.int aa,.int i] rfl Ic) λ_=>bv (.str (kindOf r)) (.str "leave") (aJ [r] (cn (bv (.tup ab) (.int i) rfl rfl (by simp[cH hr])) rfl) (jh g.c)) rfl (by simp[o0])))
noncomputable def sr (K:KL)(p:Str):KL:=(K.filter λx=>o0 x.1).filter λx=>decide (az 2 x.1=p)
theorem z4 (g:∀r∈ab,ce r)(h:x∈sr (ak ab aa) p):ab[x.2]? = some x.1/\ce x.1/\kindOf x.1 = "leave":=by
 obtain⟨h1,_⟩:=vN h;obtain⟨h2,h3⟩:=vN h1;exact⟨bu h2,g _ (vL (bu h2)),of_decide_eq_true h3⟩
theorem Eb {ab:List D}(g:∀r∈ab,ce r)(hl:ab.length<=60)(aa:Int)(p:Str):kK [.tup ab,.int aa,.str p]=lT ((sr (ak ab aa) p).map λx=>.int x.2):=by
 have RN:=cq ab aa;have h1:=gN (fi:=cw (fA cF (fV 0 (fV 1 ai)))) (nT:=1) (cap:=[0,1]) (tg:=dD 0) (c:=bd (fA ge (fV 1 (fV 2 (fV 0 ai))))) (fe:=aj 0)
  (ρ:=[sF (.tup ab),sF (.int aa),sF (.str p),none]) (ak ab aa) (λx=>.int x.2) (λx=>o0 x.1) (λx=>.int x.2)
  (by show(fA cF _ _).bind _=_;rw[aJ [.tup ab,.int aa] rfl (kP ab (λr hr=>(g r hr).c.rp) (by omega) aa)];rfl) (by omega) λx hx=>by
   have hk:decide (bi x.1<=aa)=true:=(vN hx).2;have:=ma (aa:=aa) (bu hx) (g _ (vL (bu hx)));rw[hk,Bool.true_and]at this;exact⟨_,rfl,cN (aJ [.tup ab,.int aa,.int x.2] rfl this),λ_=>⟨false,rfl⟩⟩
 have vp:bz (((ak ab aa).filter λx=>o0 x.1).map λx=>D.int x.2)=true:=bP λd hd=>by obtain⟨x,_,rfl⟩:=vO hd;rfl
 refine aw rfl (cy h1 vp (ay ?_));refine gN (fi:=cw (aj 3)) (nT:=1) (cap:=[2,0]) (tg:=dD 0) (c:=bd (f2 dz (fA au (af (f2 bC (aj 2) (aj 0)) (af (fS "person") ai))) (aj 1))) (fe:=aj 0)
  (ρ:=[sF (.tup ab),sF (.int aa),sF (.str p),lT (((ak ab aa).filter λx=>o0 x.1).map λx=>.int x.2)]) ((ak ab aa).filter λx=>o0 x.1) (λx=>.int x.2) (λx=>decide (az 2 x.1=p)) (λx=>.int x.2) (by simp) (vR (vM _ _) (by omega)) λx hx=>?_
 obtain⟨h2,h3⟩:=vN hx;obtain⟨a,d,b,q,m,st,f,e,_⟩:=pj (g _ (vL (bu h2))) (of_decide_eq_true h3);refine⟨[sF (.int x.2),sF (.str p),sF (.tup ab)],rfl,cN (bv (.str (az 2 x.1)) (.str p) (aJ [x.1,.str "person"] (cn (bv (.tup ab) (.int x.2) rfl rfl (by simp[cH (bu h2)])) rfl) ?_) rfl (by simp)),λ_=>⟨false,rfl⟩⟩;rw[e];exact bo (i:=2) dj rfl
theorem Ec {ab:List D}(g:∀r∈ab,ce r)(hl:ab.length<=60)(aa:Int){ri:Nat}{r:D}(hr:ab[ri]? = some r)(kr:kindOf r∈eM):
  jf [.tup ab,.int aa,.int ri]=lT (((sr (ak ab aa) (de r)).filter (zy r ri)).map λx=>.tup [.str "leave",.int x.2]):=by
 have gr:=g r (vL hr);have RN:=cq ab aa;have RQ:(sr (ak ab aa) (de r)).length<=60:=vR (vM _ _) (vR (vM _ _) (by omega));have vp:bz ((sr (ak ab aa) (de r)).map λx=>D.int x.2)=true:=bP λd hd=>by obtain⟨x,_,rfl⟩:=vO hd;rfl
 refine aw rfl (cy (ds:=(sr (ak ab aa) (de r)).map λx=>.int x.2) (aJ [.tup ab,.int aa,.str (de r)] (cn rfl (cn rfl (aE (aJ [r,.str "by"] (cn (bv (.tup ab) (.int ri) rfl rfl (by simp[cH hr])) rfl) (C9 gr (jN (.inl (sk kr))))) rfl))) (Eb g hl aa _)) vp (ay ?_));refine gN (fi:=cw (aj 3)) (nT:=1) (cap:=[0,2]) (tg:=dD 0) (c:=bd (f2 E3 (fA iO (fV 1 (fV 2 (fV 0 ai)))) (fC .non))) (fe:=fA aY (af (fS "leave") (fV 0 ai)))
  (ρ:=[sF (.tup ab),sF (.int aa),sF (.int ri),lT ((sr (ak ab aa) (de r)).map λx=>.int x.2)]) (sr (ak ab aa) (de r)) (λx=>.int x.2) (zy r ri) (λx=>.tup [.str "leave",.int x.2]) (by simp) (by omega) λx hx=>?_
 obtain⟨h1,h2,h3⟩:=z4 g hx;obtain⟨d,e1,e2⟩:=Ks hr h1 gr h2 kr h3;exact⟨[sF (.int x.2),sF (.tup ab),sF (.int ri)],rfl,cN (bv d .non (aJ [.tup ab,.int ri,.int x.2] rfl e1) rfl e2),λ_=>⟨false,aJ [.str "leave",.int x.2] rfl (cD _ (by simp))⟩⟩
abbrev Bs:=Option Str×Int
noncomputable def zV:Bs->D
 | (some o,n)=>.tup [.str "office",.str o,.int n]
 | (none,n)=>.tup [.str "leave",.int n]
noncomputable def z5:Bs->List At
 | (some o,n)=>[.i n,.s ("office" : Str),.s o,.i n]
 | (none,n)=>[.i n,.s ("leave" : Str),.i n]
theorem GQ (b:Bs):be (zV b)=true:=by rcases b with⟨_|o,n⟩<;>rfl
theorem Kt (b:Bs):bC (zV b) (.int (-1))=sF (.int b.2):=by rcases b with⟨_|o,n⟩<;>rfl
theorem GR (a b:Bs):(ba (z5 a) (z5 b)).isSome=true:=by
 have O4:("office" : Str) ≠ "leave":=by decide +kernel
 rcases a with⟨_|o,n⟩<;>rcases b with⟨_|o',n'⟩
 ·show(ba [.i n,.s ("leave" : Str),.i n] [.i n',.s ("leave" : Str),.i n']).isSome=true;rw[ba];split
  ·rw[ba,if_pos rfl,ba];split
   ·rw[ba];rfl
   ·rfl
  ·rfl
 ·show(ba [.i n,.s ("leave" : Str),.i n] [.i n',.s ("office" : Str),.s o',.i n']).isSome=true;rw[ba];split
  ·rw[ba,if_neg (Ne.symm O4)];rfl
  ·rfl
 ·show(ba [.i n,.s ("office" : Str),.s o,.i n] [.i n',.s ("leave" : Str),.i n']).isSome=true;rw[ba];split
  ·rw[ba,if_neg O4];rfl
  ·rfl
 ·show(ba [.i n,.s ("office" : Str),.s o,.i n] [.i n',.s ("office" : Str),.s o',.i n']).isSome=true;rw[ba];split
  ·rw[ba,if_pos rfl,ba];split
   ·rw[ba];split
    ·rw[ba];rfl
    ·rfl
   ·rfl
  ·rfl
theorem Ku (h:z5 a=z5 b):a=b:=by
 rcases a with⟨_|o,n⟩<;>rcases b with⟨_|o',n'⟩<;>simp[z5]at h
 ·rw[h]
 ·rw[h.1,h.2.1]
theorem CB (l:List Bs):eE (l.map z5)=true:=by
 unfold eE;simp[List.all_eq_true,GR]
theorem GS (e:cO (z5 a)=cO (z5 b)):a=b:=Ku (nW (CB [a,b]) (by simp) (by simp) e)
def XF (cs:List Cl)(r v:D):Bs:=(some (az 0 v),GL cs r v)
def xm (K:KL)(cs:List Cl)(r:D)(ri:Nat):List Bs:=((bK K).filter (tp cs r)).map (XF cs r)++((sr K (de r)).filter (zy r ri)).map λx=>(none,(x.2:Int))
def Kv (K:KL)(cs:List Cl)(r:D)(ri:Nat):List Bs:=eD (λb=>cO (z5 b)) (xm K cs r ri)
theorem Ed (hn:((bK (ak ab aa)).map (az 0)).Nodup)(cs:List Cl)(r:D)(ri:Nat):(xm (ak ab aa) cs r ri).Nodup:=by
 unfold xm;rw[List.nodup_append];refine⟨?_,?_,?_⟩
 ·exact List.pairwise_map.mpr ((List.Pairwise.sublist List.filter_sublist (List.pairwise_map.mp hn)).imp λh e=>h (vK (Prod.mk.inj e).1))
 ·refine List.pairwise_map.mpr ((List.Pairwise.sublist (List.filter_sublist.trans (List.filter_sublist.trans List.filter_sublist)) (List.pairwise_map.mp (eC ab aa))).imp λh e=>h ?_);have:=(Prod.mk.inj e).2;omega
 ·intro a ha b hb e;obtain⟨v,_,rfl⟩:=vO ha;obtain⟨x,_,rfl⟩:=vO hb;cases (Prod.mk.inj e).1
theorem ve {α:Type}{g:α->D}{h:α->List At}:∀(l:List α),(∀x∈l,NZ (g x)=some (h x))->jt (l.map g)=some (l.map h)
 |[],_=>rfl
 |x::l,k=>by
  rw[uY,jt,k x mX,vJ,ve l λy hy=>k y (mZ _ hy)];rfl
theorem CC (hl:ab.length<=30)(aa:Int)(cs:List Cl)(r:D)(ri:Nat):(xm (ak ab aa) cs r ri).length<=60:=by
 have h1:((bK (ak ab aa)).filter (tp cs r)).length<=30:=by
  refine vR (vM _ _) ?_;unfold bK;rw[vI];exact vR (vM _ _) (vR (cq ab aa) hl)
 have h2:((sr (ak ab aa) (de r)).filter (zy r ri)).length<=30:=vR (vM _ _) (vR (vM _ _) (vR (vM _ _) (vR (cq ab aa) hl)));unfold xm;rw[uZ,vI,vI];omega
theorem GU {f:FE}{ρ:DL.Env}{b:Bool}(l:List Bs)(hl:l.length<=60)(hn:l.Nodup)(e:f ρ=some (.lst (l.map zV),b)):AM f (qA [] (fA aY (af (f2 bC (aj 0) (f1 lK (fI 1))) (fV 0 ai)))) ρ=lT ((eD (λb=>cO (z5 b)) l).map zV):=by
 have hm:jr (qA [] (fA aY (af (f2 bC (aj 0) (f1 lK (fI 1))) (fV 0 ai))) ρ) (l.map zV)=some (l.map λb=>.tup [.int b.2,zV b]):=iu l λb _=>by
  show(fA aY _ _).map _=_;rw[aJ [.int b.2,zV b] (cn (bv (zV b) (.int (-1)) rfl rfl (Kt b)) (cn rfl rfl)) (cD _ (by simp))];rfl
 have hk:jt (l.map λb=>D.tup [.int b.2,zV b])=some (l.map z5):=ve l λb _=>by rcases b with⟨_|o,n⟩<;>rfl
 have j7:(l.map z5).length<64/\eE (l.map z5)=true/\True/\((l.map z5).map cO).Nodup:=by
  refine⟨by rw[vI];omega,CB l,trivial,?_⟩;rw[uP];exact List.pairwise_map.mpr (List.Pairwise.imp (λh e=>h (GS e)) hn)
 unfold AM wM;rw[e];simp only[vJ];rw[hm];simp only[vJ];rw[hk];simp only[vJ];rw[if_pos j7];unfold js;have key:((eD (λb=>cO (z5 b)) l).map λb=>(z5 b,zV b))=eD (λp:List At×D=>cO p.1) (l.map λb=>(z5 b,zV b)):=by
  refine k8 _ (λx hx y hy e=>?_) ((b8 _ _).map _) ?_
  ·obtain⟨a,_,rfl⟩:=vO hx;obtain⟨b,_,rfl⟩:=vO hy;rw[GS e]
  ·exact List.pairwise_map.mpr (ib _ _)
 rw[List.zip_map',←key,uP];rfl
section
variable {ab:List D}(g:∀r∈ab,ce r) (hl:ab.length<=30) (aa:Int) (hn:((bK (ak ab aa)).map (az 0)).Nodup)
include g hl hn
theorem z6 (cs:List Cl)(xy:cs.length<=60){ri:Nat}{r:D}(hr:ab[ri]? = some r)(kr:kindOf r∈eM)(hk:bi r<=aa):dR [.tup ab,.int aa,.lst (cs.map aT),.int ri]=lT ((Kv (ak ab aa) cs r ri).map zV):=by
 have gr:=g r (vL hr);have wd:∀(ρ:DL.Env)(j:Nat),ρ[0]? = some (sF (.tup ab))->ρ[j]? = some (sF (.int ri))->fA aL (af (f2 bC (aj 0) (aj j)) ai) ρ=sF (.str (kindOf r)):=λρ j h0 h2=>aJ [r] (cn (bv (.tup ab) (.int ri) (by simp[h0]) (by simp[h2]) (by simp[cH hr])) rfl) (jh gr.c);have Ic:cC [.tup ab,.int aa,.int ri]=sF (.bl true):=by
  obtain⟨a,k,aD,rfl,d⟩:=id gr;rw[kQ hr aa,decide_eq_true (show a<=aa from hk)]
 have V1:eY [.tup ab,.int aa,.int ri]=sF (.bl (decide (kindOf r∈[("paper" : Str),"like","copy"]))):=aw rfl (ay (dC (p:=true) (aJ [.tup ab,.int aa,.int ri] rfl Ic) λ_=>bv (.str (kindOf r)) (.tup ([("paper" : Str),"like","copy"].map .str)) (wd _ 2 rfl rfl) rfl (jz _ _)));have hb:dQ [.tup ab,.int aa,.int ri]=sF (.bl true):=by
  refine(aw rfl (ay (qS (aJ [.tup ab,.int aa,.int ri] rfl (ma hr gr)) λ_=>aJ [.tup ab,.int aa,.int ri] rfl V1))).trans ?_;rw[decide_eq_true hk,Bool.true_and];have:∀k∈eM,(decide (k = "leave") || decide (k∈[("paper" : Str),"like","copy"]))=true:=by decide +kernel
  unfold o0;rw[this _ kr]
 have RD:decide (kindOf r = "copy")=false:=by
  have:∀k∈eM,decide (k = "copy")=false:=by decide +kernel
  exact this _ kr
 have P1:=CC hl aa cs r ri;have vp:bz ((xm (ak ab aa) cs r ri).map zV)=true:=bP λd hd=>by obtain⟨b,_,rfl⟩:=vO hd;exact GQ b
 refine aw rfl (a9 (bZ (p:=true) (cN (aJ [.tup ab,.int aa,.int ri] rfl hb))) (a9 (bM (a:=kindOf r) (bb:=false) (wd _ 3 rfl rfl) RD) (cy (ds:=(xm (ak ab aa) cs r ri).map zV) ?_ vp (ay (GU (b:=false) _ P1 (Ed hn cs r ri) rfl)))));have ho:=Ea g (by omega) aa hn cs xy hr kr;have hv:=Ec g (by omega) aa hr kr;refine gS (x:=.lst (((bK (ak ab aa)).filter (tp cs r)).map (Oh cs r))) (y:=.lst (((sr (ak ab aa) (de r)).filter (zy r ri)).map λx=>.tup [.str "leave",.int x.2])) (b1:=true) (b2:=true) (aJ [.tup ab,.int aa,.lst (cs.map aT),.int ri] rfl ho) (aJ [.tup ab,.int aa,.int ri] rfl hv) ?_;have Se:=P1;unfold xm at Se ⊢;rw[uZ,vI,vI]at Se;refine(if_pos (dN (by rw[vI,vI];omega))).trans ?_;rw[uW,uP,uP];rfl
end
def Oj (K:KL)(c r:D):Bool:=decide (de c=de r) || (!decide (kindOf r = "copy") && (bK K).any λv=>decide (ji v &&& ji r=ji r) && iQ (bp K) (az 0 v) (az 3 v) (de c) (aG c))
theorem Bc {α:Type}(l:List α)(p f:α->Bool):((l.filter p).map f).any id=l.any λx=>p x && f x:=by
 induction l with
 |nil=>rfl
 |cons x l ih=>
  rw[List.filter_cons,List.any_cons,←ih];cases h:p x with
  |true=>rw[if_pos rfl,uY,List.any_cons];rfl
  |false=>rw[if_neg (by decide)];rfl
theorem Ol {ab:List D}(g:∀r∈ab,ce r)(hl:ab.length<=60)(aa:Int)(bJ:(bp (ak ab aa)).length<=60)(hn:((bK (ak ab aa)).map (az 0)).Nodup){ci ri:Nat}{c r:D}(hc:ab[ci]? = some c)(hr:ab[ri]? = some r)(kc:kindOf c = "call")(kr:kindOf r∈c8):
  lS [.tup ab,.int aa,.lst ((bp (ak ab aa)).map aT),.int ci,.int ri]=sF (.bl (Oj (ak ab aa) c r)):=by
 have gC:gA ab:=⟨hl,λr hr=>(g r hr).c⟩;have gc:=g c (vL hc);have gr:=g r (vL hr);have ac:=cH hc;have ar:=cH hr;have pc:=C9 gc (jN (.inr kc));have pr:=C9 gr (jN (.inl kr));have Sd:∀v∈bK (ak ab aa),ce v/\bf v=true:=λv hv=>by
  obtain⟨x,hx,rfl⟩:=vO hv;obtain⟨h1,h2⟩:=vN hx;exact⟨g _ (vL (bu h1)),h2⟩
 have hrn:(bK (ak ab aa)).length<=60:=by
  unfold bK;rw[vI];exact vR (vM _ _) (vR (cq ab aa) hl)
 have jj:aP [c]=sF (.int (aG c)):=by
  have:=rK gc.c;unfold sZ at this;rwa [if_neg (by unfold bf;rw[kc];decide +kernel)]at this
 have Xq:∀(v7:OB),bd (f2 dz (aj 6) (fA au (fV 5 (af (fS "by") ai)))) [sF (.tup ab),sF (.int aa),sF (.lst ((bp (ak ab aa)).map aT)),sF (.int ci),sF (.int ri),some (r,false),sF (.str (de c)),v7]=some (decide (de c=de r)):=λv7=>cN (bv (.str (de c)) (.str (de r)) rfl (aJ [r,.str "by"] rfl pr) (by simp));have Xr:∀(v7:OB),bd (f2 dz (fA aL (fV 5 ai)) (fS "copy")) [sF (.tup ab),sF (.int aa),sF (.lst ((bp (ak ab aa)).map aT)),sF (.int ci),sF (.int ri),some (r,false),sF (.str (de c)),v7]=some (decide (kindOf r = "copy")):=λv7=>bM (a:=kindOf r) (bb:=false) (aJ [r] rfl (jh gr.c)) rfl;refine aw rfl (fP r (bv (.tup ab) (.int ri) rfl rfl (by simp[ar])) gr.flat (fP (.str (de c)) (aJ [c,.str "by"] (cn (bv (.tup ab) (.int ci) rfl rfl (by simp[ac])) rfl) pc) rfl ?_));unfold Oj;cases h1:decide (de c=de r) with
 |true=>exact b9 ((Xq none).trans (by rw[h1])) (ay rfl)
 |false=>
  refine a9 ((Xq none).trans (by rw[h1])) ?_;cases h2:decide (kindOf r = "copy") with
  |true=>exact b9 ((Xr none).trans (by rw[h2])) (ay rfl)
  |false=>
   have kb:kindOf r∈eM:=by
    have o7:=of_decide_eq_false h2;have:∀k∈c8,k ≠ "copy"->k∈eM:=by decide +kernel
    exact this _ kr o7
   have pm:=xi gr kb;refine a9 ((Xr none).trans (by rw[h2])) ?_;have Mk:=gN (fi:=qN (fA gn (fV 0 (fV 1 ai)))) (nT:=1) (cap:=[5]) (tg:=dD 0) (c:=bd (fA iq (af (fA au (fV 0 (af (fS "matters") ai))) (af (fA au (fV 1 (af (fS "matters") ai))) ai)))) (fe:=aj 0)
    (ρ:=[sF (.tup ab),sF (.int aa),sF (.lst ((bp (ak ab aa)).map aT)),sF (.int ci),sF (.int ri),some (r,false),sF (.str (de c)),none]) (bK (ak ab aa)) id (λv=>decide (ji v &&& ji r=ji r)) id
    (by show(fA gn _ _).bind _=_;rw[aJ [.tup ab,.int aa] rfl (rV gC aa),si hn];simp) (by omega) λv hv=>by
     obtain⟨gv,OH⟩:=Sd v hv;exact⟨[some (v,false),some (r,false)],rfl,cN (aJ [.int (ji v),.int (ji r)] (aE (aJ [v,.str "matters"] rfl (C8 gv OH)) (aE (aJ [r,.str "matters"] rfl pm) rfl)) (vc _ _)),λ_=>⟨false,rfl⟩⟩
   rw[List.map_id]at Mk;refine cy (ds:=(bK (ak ab aa)).filter λv=>decide (ji v &&& ji r=ji r)) Mk (bP λv hv=>(Sd v (vN hv).1).1.flat) (ay ?_);have HI:=oK (fi:=cw (aj 7)) (nT:=1) (cap:=[2,6,0,3]) (tg:=dD 0) (fe:=fA cL (fV 1 (fV 0 (fV 2 (af (fA aP (af (f2 bC (aj 3) (aj 4)) ai)) ai)))))
    (ρ:=[sF (.tup ab),sF (.int aa),sF (.lst ((bp (ak ab aa)).map aT)),sF (.int ci),sF (.int ri),some (r,false),sF (.str (de c)),lT ((bK (ak ab aa)).filter λv=>decide (ji v &&& ji r=ji r))]) ((bK (ak ab aa)).filter λv=>decide (ji v &&& ji r=ji r)) id (λv=>.bl (iQ (bp (ak ab aa)) (az 0 v) (az 3 v) (de c) (aG c)))
    (by simp) (vR (vM _ _) (by omega)) λv hv=>by
     obtain⟨gv,OH⟩:=Sd v (vN hv).1;obtain⟨a,o,rl,m,f,rfl,_,_⟩:=sg gv OH;exact⟨[some (row a ("root" : Str) [.str o,.int m,.int f,.str rl],false),sF (.lst ((bp (ak ab aa)).map aT)),sF (.str (de c)),sF (.tup ab),sF (.int ci)],rfl,false,aJ [.lst ((bp (ak ab aa)).map aT),row a ("root" : Str) [.str o,.int m,.int f,.str rl],.str (de c),.int (aG c)] (cn rfl (cn rfl (cn rfl (aE (aJ [c] (cn (bv (.tup ab) (.int ci) rfl rfl (by simp[ac])) rfl) jj) rfl)))) (xa _ bJ _ _)⟩
   refine(aJ [_] (aE HI rfl) ?_);show(qj _).map _=_;rw[qT,Option.map_some,Bc];rfl
theorem Bd (g:ce r)(h:kindOf r = "call"):∃a d b,∃n:Nat,r=row a ("call" : Str) [.int d,.str b,.int n]:=by
 obtain⟨a,k,aD,rfl,d⟩:=g;have hk:k = "call":=h;clear h;cases d with
 |copy k fO d b n=>subst hk;exact⟨a,d,b,n,rfl⟩
 |root=>exact cQ hk
 |named=>exact cQ hk
 |chosen=>exact cQ hk
 |heir=>exact cQ hk
 |three k fO=>rcases fO with rfl|rfl|rfl<;>exact cQ hk
 |leave=>exact cQ hk
 |paper k fO=>rcases fO with rfl|rfl<;>exact cQ hk
def Kw (ab:List D)(aa:Int)(ri:Nat)(r:D)(day:Int)(c:D):Bool:=decide (kindOf c = "call") && (decide (gO 2 c=ri) && (decide (aG c<=day) && (jg ab aa c && Oj (ak ab aa) c r)))
theorem GV (e:f ρ=some (.str a,bb)):bd (f2 oC f (fS b)) ρ=some (!decide (a=b)):=cN (gS (x:=.str a) (y:=.str b) (b1:=bb) (b2:=false) e rfl (by simp))
section
variable {ab:List D}(g:∀r∈ab,ce r) (hl:ab.length<=60) (aa:Int) (bJ:(bp (ak ab aa)).length<=60) (hn:((bK (ak ab aa)).map (az 0)).Nodup)
include g hl bJ hn
theorem z7 {ci ri:Nat}{c r:D}(hc:ab[ci]? = some c)(hr:ab[ri]? = some r)(kr:kindOf r∈c8)(day:Int):jJ [.tup ab,.int aa,.lst ((bp (ak ab aa)).map aT),.int ci,.int ri,.int day]=sF (.bl (Kw ab aa ri r day c)):=by
 have gc:=g c (vL hc);have ac:=cH hc;have tw:bd (f2 oC (fA aL (fV 6 ai)) (fS "call")) [sF (.tup ab),sF (.int aa),sF (.lst ((bp (ak ab aa)).map aT)),sF (.int ci),sF (.int ri),sF (.int day),some (c,false)]=some (!decide (kindOf c = "call")):=GV (a:=kindOf c) (bb:=false) (aJ [c] rfl (jh gc.c));refine aw rfl (fP c (bv (.tup ab) (.int ci) rfl rfl (by simp[ac])) gc.flat ?_);unfold Kw;by_cases hk:kindOf c = "call"
 ·obtain⟨a,d,b,n,ec⟩:=Bd gc hk;have e1:gO 2 c=(n:Int):=by rw[ec];rfl
  have e2:aG c=d:=by rw[ec];rfl
  have po:au [c,.str "of"]=sF (.int n):=by rw[ec];exact bo (i:=2) dj rfl
  have pd:aP [c]=sF (.int d):=by
   have:=rK gc.c;unfold sZ at this;rwa [if_neg (by unfold bf;rw[hk];decide +kernel),e2]at this
  have t2:bd (f2 oC (fA au (fV 6 (af (fS "of") ai))) (aj 4)) [sF (.tup ab),sF (.int aa),sF (.lst ((bp (ak ab aa)).map aT)),sF (.int ci),sF (.int ri),sF (.int day),some (c,false)]=some (!decide ((n:Int)=ri)):=cN (bv (.int n) (.int ri) (aJ [c,.str "of"] rfl po) rfl (by simp));have t3:bd (f2 HR (fA aP (fV 6 ai)) (aj 5)) [sF (.tup ab),sF (.int aa),sF (.lst ((bp (ak ab aa)).map aT)),sF (.int ci),sF (.int ri),sF (.int day),some (c,false)]=some (decide (day<d)):=cN (bv (.int d) (.int day) (aJ [c] rfl pd) rfl rfl);have tt:=c7 tw λ_=>c7 t2 λ_=>t3;rw[e1,e2,decide_eq_true hk,Bool.true_and];rw[decide_eq_true hk]at tt;by_cases h1:(n:Int)=ri
  ·by_cases h2:d<=day
   ·rw[decide_eq_true h1,decide_eq_true h2,Bool.true_and,Bool.true_and];rw[decide_eq_true h1,decide_eq_false (by omega)]at tt;exact a9 tt (ay (dC (aJ [.tup ab,.int aa,.int ci] rfl (rJ ab (λr hr=>(g r hr).c.rp) (by omega) aa hc)) λ_=>aJ [.tup ab,.int aa,.lst ((bp (ak ab aa)).map aT),.int ci,.int ri] rfl (Ol g hl aa bJ hn hc hr hk kr)))
   ·rw[decide_eq_false h2,Bool.false_and,Bool.and_false];rw[decide_eq_true h1,decide_eq_true (show day<d by omega)]at tt;exact b9 tt (ay rfl)
  ·rw[decide_eq_false h1,Bool.false_and];rw[decide_eq_false h1]at tt;exact b9 tt (ay rfl)
 ·rw[decide_eq_false hk,Bool.false_and];refine b9 (c7 (p:=true) (q:=false) (tw.trans (by rw[decide_eq_false hk];rfl)) λh=>by cases h) (ay rfl)
def o3 (ab:List D)(aa:Int)(ri:Nat)(r:D)(day:Int):List Nat:=if bi r<=aa/\kindOf r∈c8 then ((ak ab aa).filter λx=>Kw ab aa ri r day x.1).map (·.2)else []
theorem z8 {ri:Nat}{r:D}(hr:ab[ri]? = some r)(day:Int):lU [.tup ab,.int aa,.lst ((bp (ak ab aa)).map aT),.int ri,.int day]=lT ((o3 ab aa ri r day).map λn:Nat=>.int n):=by
 have gr:=g r (vL hr);have ar:=cH hr;have Ic:cC [.tup ab,.int aa,.int ri]=sF (.bl (decide (bi r<=aa))):=by
  obtain⟨a,k,aD,e,d⟩:=gr;rw[e]at hr;rw[show bi r=a by rw[e];rfl];exact kQ hr aa
 have wd:∀ρ:DL.Env,ρ[0]? = some (sF (.tup ab))->ρ[2]? = some (sF (.int ri))->fA aL (af (f2 bC (aj 0) (aj 2)) ai) ρ=sF (.str (kindOf r)):=λρ h0 h2=>aJ [r] (cn (bv (.tup ab) (.int ri) (by simp[h0]) (by simp[h2]) (by simp[ar])) rfl) (jh gr.c);have RQ:ge [.tup ab,.int aa,.int ri]=sF (.bl (decide (bi r<=aa) && decide (kindOf r = "leave"))):=aw rfl (ay (dC (aJ [.tup ab,.int aa,.int ri] rfl Ic) λ_=>bv (.str (kindOf r)) (.str "leave") (wd _ rfl rfl) rfl (by simp)));have V1:eY [.tup ab,.int aa,.int ri]=sF (.bl (decide (bi r<=aa) && decide (kindOf r∈[("paper" : Str),"like","copy"]))):=aw rfl (ay (dC (aJ [.tup ab,.int aa,.int ri] rfl Ic) λ_=>bv (.str (kindOf r)) (.tup ([("paper" : Str),"like","copy"].map .str)) (wd _ rfl rfl) rfl (jz _ _)));have hb:dQ [.tup ab,.int aa,.int ri]=sF (.bl (decide (bi r<=aa/\kindOf r∈c8))):=by
  refine(aw rfl (ay (qS (aJ [.tup ab,.int aa,.int ri] rfl RQ) λ_=>aJ [.tup ab,.int aa,.int ri] rfl V1))).trans ?_;congr 3;simp only[c8,List.mem_cons,List.not_mem_nil,or_false];by_cases h1:bi r<=aa
  ·simp[h1]
  ·simp[h1]
 unfold o3;by_cases hx:bi r<=aa/\kindOf r∈c8
 ·rw[if_pos hx];refine aw rfl (a9 (bZ (p:=true) (cN (aJ [.tup ab,.int aa,.int ri] rfl (by rw[hb,decide_eq_true hx])))) (ay ?_));have Sf:=gN (fi:=cw (fA cF (fV 0 (fV 1 ai)))) (nT:=1) (cap:=[0,1,2,3,4]) (tg:=dD 0) (c:=bd (fA jJ (fV 1 (fV 2 (fV 3 (fV 0 (fV 4 (fV 5 ai)))))))) (fe:=aj 0)
   (ρ:=[sF (.tup ab),sF (.int aa),sF (.lst ((bp (ak ab aa)).map aT)),sF (.int ri),sF (.int day)]) (ak ab aa) (λx=>.int x.2) (λx=>Kw ab aa ri r day x.1) (λx=>.int x.2)
   (by show(fA cF _ _).bind _=_;rw[aJ [.tup ab,.int aa] rfl (kP ab (λr hr=>(g r hr).c.rp) (by omega) aa)];rfl) (vR (cq ab aa) (by omega)) λx hx2=>by
    exact⟨_,rfl,cN (aJ [.tup ab,.int aa,.lst ((bp (ak ab aa)).map aT),.int x.2,.int ri,.int day] rfl (z7 g hl aa bJ hn (bu hx2) hr hx.2 day)),λ_=>⟨false,rfl⟩⟩
  rw[uP];exact Sf
 ·rw[if_neg hx];exact aw rfl (b9 (bZ (p:=false) (cN (aJ [.tup ab,.int aa,.int ri] rfl (by rw[hb,decide_eq_false hx])))) (ay (aJ [] rfl (gJ _ (by simp)))))
omit bJ in
end
noncomputable def lr:List Str:=[("paper" : Str),"like","copy"]
noncomputable def fT (w:Str):Bs->D
 | (some o,n)=>.tup [.str "office",.str o,.int n]
 | (none,n)=>.tup [.str w,.int n]
def nA (r:D):Str:=if kindOf r = "copy" then ("copy" : Str)else ("leave" : Str)
theorem Ee (b:Bs):fT ("leave" : Str) b=zV b:=by rcases b with⟨_|o,n⟩<;>rfl
theorem su (w:Str)(b:Bs):be (fT w b)=true:=by rcases b with⟨_|o,n⟩<;>rfl
theorem Ef {ab:List D}{n:Nat}(h:ab.length<=n)(aa:Int):cC [.tup ab,.int aa,.int n]=sF (.bl false):=by
 refine aw rfl (ay (dC (p:=false) (q:=false) (b1:=false) ?_ λz=>by cases z));have h1:¬(n:Int)<ab.length:=by omega
 exact(yS (p:=true) (q:=false) (x:=.int 0) (y:=.int n) (z:=.int ab.length) (b1:=false) (b2:=false) (b3:=false) (b4:=false) rfl rfl (by simp) (by simp) λ_=>by simp[h1])
theorem GW {ab:List D}{i:Nat}{r:D}(hr:ab[i]? = some r)(g:ce r)(aa:Int):cC [.tup ab,.int aa,.int i]=sF (.bl (decide (bi r<=aa))):=by
 obtain⟨a,k,aD,rfl,d⟩:=g;exact kQ hr aa
theorem CD {ab:List D}{i:Nat}{r:D}(hr:ab[i]? = some r)(g:ce r){ρ:DL.Env}{j:Nat}(h0:ρ[0]? = some (sF (.tup ab)))(hj:ρ[j]? = some (sF (.int i))):fA aL (af (f2 bC (aj 0) (aj j)) ai) ρ=sF (.str (kindOf r)) :=
 aJ [r] (cn (bv (.tup ab) (.int i) (by simp[h0]) (by simp[hj]) (by simp[cH hr])) rfl) (jh g.c)
theorem z9 {ab:List D}{i:Nat}{r:D}(hr:ab[i]? = some r)(g:ce r)(aa:Int):eY [.tup ab,.int aa,.int i]=sF (.bl (decide (bi r<=aa) && decide (kindOf r∈lr))) :=
 aw rfl (ay (dC (aJ [.tup ab,.int aa,.int i] rfl (GW hr g aa)) λ_=>bv (.str (kindOf r)) (.tup (lr.map .str)) (CD hr g rfl rfl) rfl (jz _ _)))
theorem zA {ab:List D}{i:Nat}{r:D}(hr:ab[i]? = some r)(g:ce r)(aa:Int):dQ [.tup ab,.int aa,.int i]=sF (.bl (decide (bi r<=aa) && decide (kindOf r∈c8))):=by
 refine(aw rfl (ay (qS (aJ [.tup ab,.int aa,.int i] rfl (ma hr g)) λ_=>aJ [.tup ab,.int aa,.int i] rfl (z9 hr g aa)))).trans ?_;congr 3;unfold o0;simp only[c8,lr,List.mem_cons,List.not_mem_nil,or_false];by_cases h1:bi r<=aa
 ·simp[h1]
 ·simp[h1]
def vg (ab:List D)(aa:Int)(r:D)(ri n:Nat):Bool:=match ab[n]? with
 |none=>false
 |some q=>(decide (bi q<=aa) && decide (kindOf q∈lr)) && cA (q,n) (r,ri)
theorem sv (g:ce r)(h:kindOf r = "copy"):∃a d b,∃n:Nat,r=row a ("copy" : Str) [.int d,.str b,.int n]:=by
 obtain⟨a,k,aD,rfl,d⟩:=g;have hk:k = "copy":=h;clear h;cases d with
 |copy k fO d b n=>subst hk;exact⟨a,d,b,n,rfl⟩
 |root=>exact cQ hk
 |named=>exact cQ hk
 |chosen=>exact cQ hk
 |heir=>exact cQ hk
 |three k fO=>rcases fO with rfl|rfl|rfl<;>exact cQ hk
 |leave=>exact cQ hk
 |paper k fO=>rcases fO with rfl|rfl<;>exact cQ hk
theorem sw (h:kindOf r∈lr):bf r=false:=by
 have:∀k∈lr,decide (k = "root")=false:=by decide +kernel
 exact this _ h
theorem Eg {ab:List D}(g:∀r∈ab,ce r)(aa:Int){ri:Nat}{r:D}(hr:ab[ri]? = some r)(kc:kindOf r = "copy"):∃n:Nat,gO 2 r=n/\jI [.tup ab,.int aa,.int ri]=lT ((if vg ab aa r ri n=true then [((none,(n:Int)):Bs)]else []).map (fT ("copy" : Str))):=by
 have gr:=g r (vL hr);obtain⟨a,d,b,n,er⟩:=sv gr kc;have nr:bf r=false:=sw (by rw[kc];decide +kernel);have po:au [r,.str "of"]=sF (.int n):=by rw[er];exact bo (i:=2) dj rfl
 refine⟨n,by rw[er];rfl,?_⟩;let E:DL.Env:=[sF (.tup ab),sF (.int aa),sF (.int ri),sF (.int n)];refine aw rfl (fP (.int n) (aJ [r,.str "of"] (cn (bv (.tup ab) (.int ri) rfl rfl (by simp[cH hr])) rfl) po) rfl ?_);have tt:fu (bd (fA eY (fV 0 (fV 1 (fV 3 ai))))) (bd (fA gf (fV 0 (fV 3 (fV 2 ai))))) E=some (vg ab aa r ri n):=by
  unfold vg;cases hq:ab[n]? with
  |none=>
   have hn:ab.length<=n:=List.getElem?_eq_none_iff.mp hq;exact fG (p:=false) (q:=false) (cN (aJ [.tup ab,.int aa,.int n] rfl (aw rfl (ay (dC (p:=false) (q:=false) (aJ [.tup ab,.int aa,.int n] rfl (Ef hn aa)) λz=>by cases z))))) λz=>by cases z
  |some q=>
   have gq:=g q (vL hq);exact fG (cN (aJ [.tup ab,.int aa,.int n] rfl (z9 hq gq aa))) λh=>by
    rw[vC]at h;exact cN (aJ [.tup ab,.int n,.int ri] rfl (zx hq hr gq gr (sw (of_decide_eq_true h.2)) nr))
 cases hv:vg ab aa r ri n with
 |true=>
  rw[hv]at tt;rw[if_pos rfl];exact b9 tt (ay (aJ [.tup [.str "copy",.int n]] (cn (aJ [.str "copy",.int n] rfl (cD _ (by simp))) rfl) (gJ _ (by simp))))
 |false=>
  rw[hv]at tt;rw[if_neg (by decide)];exact a9 tt (ay (aJ [] rfl (gJ _ (by simp))))
def sx (ab:List D)(aa:Int)(cs:List Cl)(x:D×Nat):List Bs:=if kindOf x.1 = "copy" then (if vg ab aa x.1 x.2 (gO 2 x.1).toNat=true then [(none,gO 2 x.1)]else [])else Kv (ak ab aa) cs x.1 x.2
section
variable {ab:List D}(g:∀r∈ab,ce r) (hl:ab.length<=30) (aa:Int) (hn:((bK (ak ab aa)).map (az 0)).Nodup)
include g hl hn
theorem CF (cs:List Cl)(xy:cs.length<=60){ri:Nat}{r:D}(hr:ab[ri]? = some r)(kr:kindOf r∈c8)(hk:bi r<=aa):dR [.tup ab,.int aa,.lst (cs.map aT),.int ri]=lT ((sx ab aa cs (r,ri)).map (fT (nA r))):=by
 have gr:=g r (vL hr);unfold sx nA;by_cases kc:kindOf r = "copy"
 ·rw[if_pos kc,if_pos kc];obtain⟨n,e1,e2⟩:=Eg g aa hr kc;rw[e1,Int.toNat_natCast];refine aw rfl (a9 (bZ (p:=true) (cN (aJ [.tup ab,.int aa,.int ri] rfl ((zA hr gr aa).trans (by rw[decide_eq_true hk,decide_eq_true kr];rfl))))) (b9 (bM (a:=kindOf r) (bb:=false) (CD hr gr rfl rfl) (decide_eq_true kc)) (ay (aJ [.tup ab,.int aa,.int ri] rfl e2))))
 ·rw[if_neg kc,if_neg kc];have kb:kindOf r∈eM:=by
   have:∀k∈c8,k ≠ "copy"->k∈eM:=by decide +kernel
   exact this _ kr kc
  rw[show fT ("leave" : Str)=zV from funext Ee];exact z6 g hl aa hn cs xy hr kb hk
end
theorem Om (e:f (mr ρ)=some (d,b))(k:h (ρ.set i (some (d,false)))=r):a7 (xN i f) h ρ=r:=dn (ρ':=ρ.set i (some (d,false))) (by simp only[xN,e,Option.map_some]) k
theorem CG (e:ρ[i]? = some (some (.dk ks vs,b))):jS i ρ=some (.rt (.dk ks vs) false):=by simp[jS,e]
noncomputable def kN (x:D×Nat):cz:=.inl (x.2:Int)
def GX (ab:List D)(aa day:Int)(x:D×Nat):Bool:=(jg ab aa x.1 && decide (aG x.1<=day)) && (o3 ab aa x.2 x.1 day).isEmpty
theorem Kx {α:Type}(l:List α)(f:α->D):decide ((((l.map f).length:Nat):Int)=0)=l.isEmpty:=by
 cases l with
 |nil=>rfl
 |cons a l=>rw[uY,vE];exact decide_eq_false (by omega)
noncomputable def md (ab:List D)(aa day:Int)(l:KL):KL:=l.filter λx=>decide (kindOf x.1∈c8) && GX ab aa day x
section
variable {ab:List D}(g:∀r∈ab,ce r) (hl:ab.length<=30) (aa:Int) (hn:((bK (ak ab aa)).map (az 0)).Nodup)
include g hl hn
theorem Oo (bJ:(bp (ak ab aa)).length<=60){ri:Nat}{r:D}(hr:ab[ri]? = some r)(kr:kindOf r∈c8)(day:Int):mM [.tup ab,.int aa,.lst ((bp (ak ab aa)).map aT),.int ri,.int day]=sF (.bl (GX ab aa day (r,ri))):=by
 have gr:=g r (vL hr);have nr:bf r=false:=by
  have:∀k∈c8,decide (k = "root")=false:=by decide +kernel
  exact this _ kr
 let E:DL.Env:=[sF (.tup ab),sF (.int aa),sF (.lst ((bp (ak ab aa)).map aT)),sF (.int ri),sF (.int day)];have t1:bd (fA gb (fV 0 (fV 1 (fV 3 ai)))) E=some (jg ab aa r):=cN (aJ [.tup ab,.int aa,.int ri] rfl (rJ ab (λr hr=>(g r hr).c.rp) (by omega) aa hr));have t2:bd (f2 HR (fA aP (af (f2 bC (aj 0) (aj 3)) ai)) (aj 4)) E=some (decide (day<aG r)):=cN (bv (.int (aG r)) (.int day) (aJ [r] (cn (bv (.tup ab) (.int ri) rfl rfl (by simp[cH hr])) rfl) (sn gr nr)) rfl rfl);have tt:=c7 (bZ t1) λ_=>t2;have e:(!jg ab aa r || decide (day<aG r)) = !(jg ab aa r && decide (aG r<=day)):=by
  rw[Bool.not_and];congr 1;rw[←decide_not];congr 1;rw[Int.not_le]
 rw[e]at tt;unfold GX;cases hA:(jg ab aa r && decide (aG r<=day)) with
 |false=>
  rw[hA]at tt;exact aw rfl (b9 tt (ay rfl))
 |true=>
  rw[hA]at tt;refine aw rfl (a9 tt (ay ?_));rw[Bool.true_and,←Kx (o3 ab aa ri r day) λn:Nat=>.int n];exact bv (.int (((o3 ab aa ri r day).map λn:Nat=>D.int n).length:Nat)) (.int 0) (aJ [.lst ((o3 ab aa ri r day).map λn:Nat=>.int n)] (aE (aJ [.tup ab,.int aa,.lst ((bp (ak ab aa)).map aT),.int ri,.int day] rfl (z8 g (by omega) aa bJ hn hr day)) rfl) rfl) rfl (by simp)
theorem zB (ho:(cR (ak ab aa)).length<=60)(day:Int):mN [.tup ab,.int aa,.int day]=sF (.dk ((md ab aa day (cR (ak ab aa))).map kN) ((md ab aa day (cR (ak ab aa))).map λx=>.lst ((sx ab aa (bp (ak ab aa)) x).map (fT (nA x.1))))):=by
 have gC:gA ab:=⟨by omega,λr hr=>(g r hr).c⟩;obtain⟨ec,xq⟩:=uL (ab:=ab) gC aa ho;have eL:dO [.tup ab,.int aa]=lT ((cR (ak ab aa)).map λx=>.int x.2):=pe gC aa;generalize xy:bp (ak ab aa)=cs at ec xq ⊢;have o8:∀x∈cR (ak ab aa),x∈ak ab aa:=λx hx=>(vN ((b8 _ _).mem_iff.mp hx)).1;have KW:((cR (ak ab aa)).map (·.2)).Nodup:=lq (eC ab aa);generalize cR (ak ab aa)=O at ho eL o8 KW ⊢;let vD:D×Nat->D:=λx=>.lst ((sx ab aa cs x).map (fT (nA x.1)));let E:KL->OB->DL.Env:=λL v5=>[sF (.tup ab),sF (.int aa),sF (.int day),sF (.lst (cs.map aT)),some (.dk (L.map kN) (L.map vD),true),v5];obtain⟨ρ',e,v5,rfl⟩:=ij (tg:=dD 5) (g:=yY) (λj ρ=>∃v5,ρ=E (md ab aa day (O.take j)) v5) (O.map λx=>.int x.2) (E [] none) ⟨none,rfl⟩ (by
  rintro j d ρ hd ⟨v5,rfl⟩;rw[vA]at hd;obtain⟨x,hx,rfl⟩:=oY hd;have SV:=o8 x (vL hx);have hr:=bu SV;have Ic:bi x.1<=aa:=of_decide_eq_true (vN SV).2;have gx:=g x.1 (vL hr);have et:O.take (j+1)=O.take j++[x]:=by rw[List.take_add_one,hx];rfl
  have ef:md ab aa day (O.take (j+1))=md ab aa day (O.take j)++if(decide (kindOf x.1∈c8) && GX ab aa day x)=true then [x]else []:=by
   unfold md;rw[et,List.filter_append,List.filter_cons];split<;>rfl
  have Xs:x.2∉(md ab aa day (O.take j)).map (·.2):=by
   have h2:((O.take (j+1)).map (·.2)).Nodup:=List.Nodup.sublist (List.Sublist.map _ (List.take_sublist _ _)) KW;rw[et,uW,List.nodup_append]at h2;intro hm;obtain⟨y,hy,ey⟩:=vO hm;exact h2.2.2 _ (uS ⟨y,(vN hy).1,rfl⟩) _ (by simp) ey
  have ZM:(md ab aa day (O.take j)).length<=60:=vR (vM _ _) (vR (List.length_take_le' _ _) ho);generalize md ab aa day (O.take j)=L at ef Xs ZM;let F:DL.Env:=E L (sF (.int x.2));have t1:bd (fA dQ (fV 0 (fV 1 (fV 5 ai)))) F=some (decide (kindOf x.1∈c8)):=cN (aJ [.tup ab,.int aa,.int x.2] rfl ((zA hr gx aa).trans (by rw[decide_eq_true Ic,Bool.true_and])));have tt:=fG t1 λh=>cN (f:=fA mM (fV 0 (fV 1 (fV 3 (fV 5 (fV 2 ai)))))) (aJ [.tup ab,.int aa,.lst (cs.map aT),.int x.2,.int day] rfl (by rw[←xy];exact Oo g hl aa hn (by rw[xy];exact xq) hr (of_decide_eq_true h) day));refine⟨F,E (L++if(decide (kindOf x.1∈c8) && GX ab aa day x)=true then [x]else []) (sF (.int x.2)),rfl,.inl (QU tt (λh=>?_) λh=>?_),sF (.int x.2),by rw[ef]⟩
  ·rw[if_pos h];have kb:kindOf x.1∈c8:=by rw[vC]at h;exact of_decide_eq_true h.1
   have OI:qP 4 (aj 5) (fA dR (fV 0 (fV 1 (fV 3 (fV 5 ai))))) F=some (.nx (F.set 4 (some (.dk (dF (L.map kN) (kN x)) (dG (L.map kN) (L.map vD) (kN x) (vD x)),true)))):=by
    have ev:fA dR (fV 0 (fV 1 (fV 3 (fV 5 ai)))) (mr F)=some (vD x,true):=aJ [.tup ab,.int aa,.lst (cs.map aT),.int x.2] rfl (CF g hl aa hn cs xq hr kb Ic);show((fA dR _ (mr F)).bind _)=_;rw[ev];simp only[vJ];exact if_pos (c:=(L.map kN).length<sizeLine) (bE (by rw[vI];omega))
   rw[OI];have hk:kN x∉L.map kN:=λhm=>by
    obtain⟨y,hy,ey⟩:=vO hm;exact Xs (uS ⟨y,hy,by have:=Sum.inl.inj (show(Sum.inl (y.2:Int):cz)=Sum.inl (x.2:Int)from ey);omega⟩)
   unfold dF dG;rw[if_neg hk,if_neg hk];simp[F,E]
  ·rw[h,if_neg (by decide),uQ];rfl)
 rw[vI,List.take_length]at e;exact aw rfl (Om (aJ [.tup ab,.int aa] rfl ec) (dn (ρ':=E [] none) rfl (dn (mF (ds:=O.map λx=>.int x.2) (by show(fA dO _ _).bind _=_;rw[aJ [.tup ab,.int aa] rfl eL];rfl) e) (CG (b:=true) rfl))))
end
noncomputable def nK (n:Nat):cz:=.inl (n:Int)
noncomputable def np:Nat->D:=λ_=>.bl true
noncomputable def cS (S:List Nat)(b:Bs):Bool:=b.1.isSome || S.any λn=>decide ((n:Int)=b.2)
noncomputable def fK (S:List Nat)(p:Nat×List Bs):List Nat:=if p.2.any (cS S)=true then S++[p.1]else S
noncomputable def iA (l:List (Nat×List Bs)):List Nat:=l.foldl fK []
theorem sy (n:Int):∀S:List Nat,(bS (S.map nK) (S.map np) (.inl n)).isSome=S.any λm=>decide ((m:Int)=n)
 |[]=>rfl
 |m::S=>by
  rw[uY,uY,bS,List.any_cons];by_cases h:(m:Int)=n
  ·rw[if_pos (show nK m=.inl n by unfold nK;rw[h]),decide_eq_true h];rfl
  ·rw[if_neg (show ¬nK m=.inl n from λz=>h (Sum.inl.inj z)),decide_eq_false h,sy n S];rfl
theorem zC (hw:decide (w=("office" : Str))=false)(S:List Nat)(b:Bs):jK [fT w b,.dk (S.map nK) (S.map np)]=sF (.bl (cS S b)):=by
 unfold cS;rcases b with⟨_|o,n⟩
 ·refine aw rfl (ay (qS (p:=false) (b1:=false) (bv (.str w) (.str "office") rfl rfl (by simp[of_decide_eq_false hw])) λ_=>bv (.int n) (.dk (S.map nK) (S.map np)) rfl rfl ?_));show some (D.bl (bS (S.map nK) (S.map np) (.inl n)).isSome,false)=_;rw[sy]
 ·exact aw rfl (ay (qS (p:=true) (q:=S.any λm=>decide ((m:Int)=n)) (b1:=false) (bv (.str "office") (.str "office") rfl rfl (by simp)) λh=>by cases h))
theorem any_map {α:Type}(l:List α)(f:α->Bool):Fx [.lst (l.map λx=>.bl (f x))]=sF (.bl (l.any f)):=by
 show(qj _).map _=_;rw[qT,Option.map_some,List.any_map];rfl
theorem GY (h:m∈fK S p):m∈S∨m=p.1:=by
 unfold fK at h;split at h
 ·simpa using h
 ·exact .inl h
theorem o4:∀(l:List (Nat×List Bs))(S:List Nat)(m:Nat),m∈l.foldl fK S->m∈S∨m∈l.map (·.1)
 |[],_,_,h=>.inl h
 |p::l,S,m,h=>by
  rcases o4 l _ m h with h|h
  ·rcases GY h with h|rfl
   ·exact .inl h
   ·exact .inr (by simp)
  ·exact .inr (mZ _ h)
abbrev Rs:=Nat×Str×List Bs
noncomputable def p9 (p:Rs):D:=.lst (p.2.2.map (fT p.2.1))
noncomputable def Be (p:Rs):Nat×List Bs:=(p.1,p.2.2)
theorem zD (l:List Rs)(hl:l.length<=60)(hw:∀p∈l,decide (p.2.1 = "office")=false)(hb:∀p∈l,p.2.2.length<=100)(hn:(l.map (·.1)).Nodup):lg [.dk (l.map λp=>nK p.1) (l.map p9)]=sF (.dk ((iA (l.map Be)).map nK) ((iA (l.map Be)).map np)):=by
 let E:List Nat->OB->OB->DL.Env:=λS v2 v3=>[sF (.dk (l.map λp=>nK p.1) (l.map p9)),some (.dk (S.map nK) (S.map np),true),v2,v3];have zY:lP (l.map λp=>nK p.1) (l.map p9)=l.map λp=>.tup [.int (p.1:Int),p9 p]:=by
  unfold lP;rw[List.zip_map',uP];rfl
 obtain⟨ρ',e,v2,v3,rfl⟩:=ij (tg:=Pa [2,3]) (g:=yZ) (λj ρ=>∃v2 v3,ρ=E (iA ((l.take j).map Be)) v2 v3) (l.map λp=>.tup [.int (p.1:Int),p9 p]) (E [] none none) ⟨none,none,rfl⟩ (by
  rintro j d ρ hd ⟨v2,v3,rfl⟩;rw[vA]at hd;obtain⟨p,hp,rfl⟩:=oY hd;have SI:=vL hp;have et:l.take (j+1)=l.take j++[p]:=by rw[List.take_add_one,hp];rfl
  have es:iA ((l.take (j+1)).map Be)=fK (iA ((l.take j).map Be)) (Be p):=by
   rw[et,uW];unfold iA;rw[List.foldl_append];rfl
  have Pq:p.1∉iA ((l.take j).map Be):=λhm=>by
   have h2:((l.take (j+1)).map (·.1)).Nodup:=List.Nodup.sublist (List.Sublist.map _ (List.take_sublist _ _)) hn;rw[et,uW,List.nodup_append]at h2;rcases o4 _ _ _ hm with h|h
   ·cases h
   ·rw[uP]at h;exact h2.2.2 _ h _ (by simp) rfl
  have SN:(iA ((l.take j).map Be)).length<=60:=by
   have:∀(q:List (Nat×List Bs))(S:List Nat),(q.foldl fK S).length<=S.length+q.length:=λq=>by
    induction q with
    |nil=>intro S;exact vT _
    |cons a q ih=>
     intro S;refine vR (ih _) ?_;unfold fK;split
     ·rw[uZ,vE,List.length_nil,vE];omega
     ·rw[vE];omega
   have h3:=this ((l.take j).map Be) [];rw[vI,List.length_take,List.length_nil]at h3;exact vR h3 (by omega)
  generalize iA ((l.take j).map Be)=S at es Pq SN;let F:DL.Env:=E S (sF (.int (p.1:Int))) (some (p9 p,false));have hc:=oK (fi:=cw (aj 3)) (nT:=1) (cap:=[1]) (tg:=dD 0) (fe:=fA jK (fV 0 (fV 1 ai))) (ρ:=F) p.2.2 (fT p.2.1) (λb=>.bl (cS S b)) rfl (by have:=hb p SI;omega) λb _=>⟨[some (fT p.2.1 b,false),sF (.dk (S.map nK) (S.map np))],rfl,false,aJ [fT p.2.1 b,.dk (S.map nK) (S.map np)] rfl (zC (hw p SI) S b)⟩;have t1:bd (fA Fx (af (bR (cw (aj 3)) 1 [1] (dD 0) hW (fA jK (fV 0 (fV 1 ai)))) ai)) F=some (p.2.2.any (cS S)):=cN (aJ [.lst (p.2.2.map λb=>.bl (cS S b))] (aE hc rfl) (any_map _ _));refine⟨F,E (fK S (Be p)) (sF (.int (p.1:Int))) (some (p9 p,false)),rfl,.inl (QU t1 (λh=>?_) λh=>?_),_,_,by rw[es]⟩
  ·have hk:nK p.1∉S.map nK:=λhm=>by
    obtain⟨y,hy,ey⟩:=vO hm;have:=Sum.inl.inj (show(Sum.inl (y:Int):cz)=Sum.inl (p.1:Int)from ey);exact Pq (by rw[show p.1=y by omega];exact hy)
   have OI:yJ 1 (aj 2) (fC (.bl true)) F=some (.nx (F.set 1 (some (.dk (dF (S.map nK) (nK p.1)) (dG (S.map nK) (S.map np) (nK p.1) (.bl true)),true)))):=if_pos (c:=be (.bl true)=true/\(S.map nK).length<sizeLine) ⟨rfl,bE (by rw[vI];omega)⟩;rw[OI];unfold dF dG fK;rw[if_neg hk,if_neg hk,if_pos (show(Be p).2.any (cS S)=true from h)];simp[F,E,Be,np]
  ·unfold fK;rw[if_neg (show ¬(Be p).2.any (cS S)=true by show ¬p.2.2.any (cS S)=true;rw[h];decide)];rfl)
 rw[vI,List.take_length]at e;exact aw rfl (dn (ρ':=E [] none none) rfl (dn (mF (ds:=l.map λp=>.tup [.int (p.1:Int),p9 p]) (by show some (lP _ _)=_;rw[zY]) e) (CG (b:=true) rfl)))
theorem vh:∀S:List Nat,ux (S.map nK)=some (S.map λ(n:Nat)=>(n:Int))
 |[]=>rfl
 |n::S=>by
  show(ux (S.map nK)).map _=_;rw[vh S];rfl
theorem zE {α β:Type}(g:α->β)(f:β->List Int)(x:α):∀l:List α,nU f (g x) (l.map g)=(nU (λa=>f (g a)) x l).map g
 |[]=>rfl
 |y::r=>by
  rw[uY,nU,nU];split
  ·rw[uY,zE g f x r]
  ·rfl
theorem vi {α β:Type}(g:α->β)(f:β->List Int):∀l:List α,eD f (l.map g)=(eD (λa=>f (g a)) l).map g
 |[]=>rfl
 |x::l=>by
  show nU f (g x) (eD f (l.map g))=(nU (λa=>f (g a)) x (eD (λa=>f (g a)) l)).map g;rw[vi g f l,zE]
theorem zF (n:Int)(S:List Nat):HS (.int n) (S.map λ(m:Nat)=>D.int (m:Int))=S.any λm=>decide ((m:Int)=n):=by
 unfold HS;induction S with
 |nil=>rfl
 |cons m S ih=>
  rw[uY,List.any_cons,ih,List.any_cons];by_cases h:(m:Int)=n
  ·simp[h]
  ·simp[h,Ne.symm h]
def fj (ab:List D)(aa:Int)(x:D×Nat):List Bs:=sx ab aa (bp (ak ab aa)) x
def bw (ab:List D)(aa day:Int):List Nat:=iA ((md ab aa day (cR (ak ab aa))).map λx=>(x.2,fj ab aa x))
def iB (S:List Nat):List D:=(qz (S.map λ(n:Nat)=>(n:Int))).map .int
theorem sA (r:D):decide (nA r = "office")=false:=by
 unfold nA;split
 ·decide +kernel
 ·decide +kernel
section
variable {ab:List D}(g:∀r∈ab,ce r) (hl:ab.length<=30) (aa:Int) (hn:((bK (ak ab aa)).map (az 0)).Nodup) (ho:(cR (ak ab aa)).length<=60)
include hl
theorem nq (x:D×Nat):(fj ab aa x).length<=60:=by
 unfold fj sx;split
 ·split
  ·exact(by decide:1<=60)
  ·exact uN _
 ·unfold Kv;rw[(b8 _ _).length_eq];exact CC hl aa _ _ _
theorem Eh (day:Int):(bw ab aa day).length<=60:=by
 have:∀(q:List (Nat×List Bs))(S:List Nat),(q.foldl fK S).length<=S.length+q.length:=λq=>by
  induction q with
  |nil=>intro S;exact vT _
  |cons a q ih=>
   intro S;refine vR (ih _) ?_;unfold fK;split
   ·rw[uZ,vE,List.length_nil,vE];omega
   ·rw[vE];omega
 have h3:=this ((md ab aa day (cR (ak ab aa))).map λx=>(x.2,fj ab aa x)) [];have h4:(cR (ak ab aa)).length<=30:=by
  unfold cR;rw[(b8 _ _).length_eq];exact vR (vM _ _) (vR (cq ab aa) hl)
 have h5:(md ab aa day (cR (ak ab aa))).length<=30:=vR (vM _ _) h4;rw[vI,List.length_nil]at h3;exact vR h3 (by omega)
include g hn ho
theorem zG (day:Int):lV [.tup ab,.int aa,.int day]=lT (iB (bw ab aa day)):=by
 have el:=zB g hl aa hn ho day;have h4:(md ab aa day (cR (ak ab aa))).length<=60:=vR (vM _ _) ho;have es:=zD ((md ab aa day (cR (ak ab aa))).map λx=>(x.2,nA x.1,fj ab aa x)) (by rw[vI];exact h4)
  (λp hp=>by obtain⟨x,_,rfl⟩:=vO hp;exact sA _) (λp hp=>by obtain⟨x,_,rfl⟩:=vO hp;exact vR (nq hl aa x) (by decide))
  (by rw[uP];exact List.Nodup.sublist (List.Sublist.map _ List.filter_sublist) (lq (eC ab aa)))
 rw[uP,uP,uP]at es;refine aw rfl (ay (aJ [_] (aE (aJ [_] (aE (aJ [.tup ab,.int aa,.int day] rfl el) rfl) es) rfl) ?_));show(ux ((bw ab aa day).map nK)).bind _=_;rw[vh,vJ,if_pos (by rw[vI];have:=Eh hl aa day;omega)];rfl
end
def jO (ab:List D)(aa day:Int):List Rs:=(md ab aa day (cR (ak ab aa))).map λx=>(x.2,nA x.1,fj ab aa x)
theorem CH (n:Nat)(S:List Nat):(S.any λm=>decide ((m:Int)=(n:Int)))=decide (n∈S):=by
 rw[Bool.eq_iff_iff,List.any_eq_true,decide_eq_true_iff];constructor
 ·rintro⟨m,h,e⟩;have:=of_decide_eq_true e;rw[show n=m by omega];exact h
 ·exact λh=>⟨n,h,decide_eq_true rfl⟩
theorem zH (n:Nat)(S:List Nat):(bS (S.map nK) (S.map np) (.inl (n:Int))).isSome=decide (n∈S):=by rw[sy,CH]
section
variable {ab:List D}(g:∀r∈ab,ce r) (hl:ab.length<=30) (aa:Int) (hn:((bK (ak ab aa)).map (az 0)).Nodup) (ho:(cR (ak ab aa)).length<=60)
theorem vj (day:Int):((jO ab aa day).map (·.1)).Nodup:=by
 unfold jO;rw[uP];exact List.Nodup.sublist (List.Sublist.map _ List.filter_sublist) (lq (eC ab aa))
theorem Re (day:Int):∀p∈jO ab aa day,decide (p.2.1 = "office")=false:=λp hp=>by obtain⟨x,_,rfl⟩:=vO hp;exact sA _
include ho in
theorem Ky (day:Int):(jO ab aa day).length<=60:=by unfold jO;rw[vI];exact vR (vM _ _) ho
include hl in
theorem Rf (day:Int):∀p∈jO ab aa day,p.2.2.length<=100:=λp hp=>by obtain⟨x,_,rfl⟩:=vO hp;exact vR (nq hl aa x) (by decide)
include g hl hn ho
end
theorem Ei (S:List Nat):bz (iB S)=true:=bP λd hd=>by obtain⟨n,_,rfl⟩:=vO hd;rfl
def zI (S:List Nat):List Nat:=eD (λn:Nat=>[(n:Int)]) S
theorem CJ (S:List Nat):iB S=(zI S).map λ(n:Nat)=>.int (n:Int):=by
 unfold iB qz zI;rw[vi,uP];rfl
theorem o5 {m:Nat}{S:List Nat}:m∈zI S↔m∈S:=(b8 _ _).mem_iff
theorem Op (z:Int)(S:List Nat):Az (.int z) (.lst (iB S))=sF (.bl (S.any λm=>decide ((m:Int)=z))):=by
 have vp:((zI S).map λ(n:Nat)=>D.int (n:Int)).all fR=true:=by
  rw[List.all_eq_true];intro d hd;obtain⟨m,_,rfl⟩:=vO hd;rfl
 rw[CJ];simp only[Az,gM,vJ];rw[if_pos ⟨rfl,vp⟩,zF];refine congrArg (λb=>sF (.bl b)) ?_;rw[Bool.eq_iff_iff,List.any_eq_true,List.any_eq_true];exact⟨λ⟨m,h,e⟩=>⟨m,o5.mp h,e⟩,λ⟨m,h,e⟩=>⟨m,o5.mpr h,e⟩⟩
def HY (ab:List D)(aa:Int)(n:Nat):List Bs:=match ab[n]? with
 |some r=>fj ab aa (r,n)
 |none=>[]
inductive Lk (S:List Nat)(rs:Nat->List Bs):List Nat->Int->Prop
 |one (n:Nat) (b:Bs) (l:List Bs) (hS:n∈S) (h:(rs n).filter (cS S)=b::l) (ho:b.1.isSome=true):Lk S rs [n] b.2
 |more (n m:Nat) (ns:List Nat) (c:Int) (b:Bs) (l:List Bs) (hS:n∈S) (h:(rs n).filter (cS S)=b::l) (ho:b.1=none) (hm:b.2=(m:Int)) (k:Lk S rs (m::ns) c):Lk S rs (n::m::ns) c
theorem GZ (K:KL){x y:D×Nat}(hy:y∈K)(h:cA y x=true):(K.filter λz=>cA z y).length<(K.filter λz=>cA z x).length:=by
 have tr:∀z∈K,cA z y=true->cA z x=true:=λz _ hz=>by
  unfold cA at *;simp only[decide_eq_true_eq]at *;omega
 have e:K.filter (λz=>cA z y)=(K.filter λz=>cA z x).filter λz=>cA z y:=by
  rw[List.filter_filter];refine List.filter_congr λz hz=>?_;cases k:cA z y with
  |false=>rfl
  |true=>rw[tr z hz k];rfl
 rw[e];refine Nat.lt_of_le_of_ne (vM _ _) λz=>?_;have hm:y∈(K.filter λz=>cA z x):=List.mem_filter.mpr ⟨hy,h⟩;have:=List.length_filter_eq_length_iff.mp z y hm;unfold cA at this;simp at this
section
variable {ab:List D}{aa:Int}
theorem Ha {day:Int}{n:Nat}(h:n∈bw ab aa day):∃r,ab[n]? = some r/\(r,n)∈ak ab aa/\kindOf r∈c8/\(n,nA r,fj ab aa (r,n))∈jO ab aa day:=by
 rcases o4 _ _ _ h with z|z
 ·cases z
 ·obtain⟨p,hp,rfl⟩:=vO z;obtain⟨x,hx,rfl⟩:=vO hp;obtain⟨h1,h2⟩:=vN hx;rw[vC]at h2;have hk:=(vN ((b8 _ _).mem_iff.mp h1)).1;exact⟨x.1,bu hk,hk,of_decide_eq_true h2.1,uS ⟨x,hx,rfl⟩⟩
theorem Hb {S T:List Nat}(h:∀m∈S,m∈T)(b:Bs)(k:cS S b=true):cS T b=true:=by
 unfold cS at k ⊢;rw[Bool.or_eq_true,List.any_eq_true]at k ⊢;exact k.imp id λ⟨n,hn,e⟩=>⟨n,h n hn,e⟩
theorem CK (h:m∈S):m∈fK S p:=by
 unfold fK;split
 ·exact List.mem_append_left _ h
 ·exact h
theorem CL:∀(q:List (Nat×List Bs))(S:List Nat),m∈S->m∈q.foldl fK S
 |[],_,h=>h
 |_::q,_,h=>CL q _ (CK h)
theorem sC:∀(l:List (Nat×List Bs))(S:List Nat)(n:Nat),n∈l.foldl fK S->n∈S∨∃p∈l,p.1=n/\p.2.any (cS (l.foldl fK S))=true
 |[],S,n,h=>.inl h
 |p::l,S,n,h=>by
  rw[List.foldl_cons]at h ⊢;rcases sC l (fK S p) n h with z|⟨p',hp,e,k⟩
  ·by_cases hs:n∈S
   ·exact .inl hs
   ·unfold fK at z;split at z
    ·rename_i hb;rcases List.mem_append.mp z with q|q
     ·exact absurd q hs
     ·obtain⟨b,h1,h2⟩:=List.any_eq_true.mp hb;exact .inr ⟨p,mX,(uT q).symm,List.any_eq_true.mpr ⟨b,h1,Hb (λm hm=>CL l _ (CK hm)) b h2⟩⟩
    ·exact absurd z hs
  ·exact .inr ⟨p',mZ _ hp,e,k⟩
theorem Bf {r:D}{n:Nat}(g:∀r∈ab,ce r)(hr:ab[n]? = some r){b:Bs}(hb:b∈fj ab aa (r,n))(e:b.1=none):∃(m:Nat)(q:D),b.2=(m:Int)/\ab[m]? = some q/\(q,m)∈ak ab aa/\cA (q,m) (r,n)=true:=by
 unfold fj sx at hb;split at hb
 ·rename_i kc;obtain⟨a,d,o9,m,er⟩:=sv (g _ (vL hr)) kc;have en:gO 2 r=m:=by rw[er];rfl
  simp only[en,Int.toNat_natCast]at hb;split at hb
  ·rename_i hv;rw[List.mem_singleton]at hb;subst hb;unfold vg at hv;split at hv
   ·cases hv
   ·rename_i q hq;rw[vC,vC]at hv;refine⟨m,q,rfl,hq,List.mem_filter.mpr ⟨List.mk_mem_zipIdx_iff_getElem?.mpr hq,hv.1.1⟩,hv.2⟩
  ·cases hb
 ·unfold Kv at hb;have hb:=(b8 _ _).mem_iff.mp hb;unfold xm at hb;rcases List.mem_append.mp hb with z|z
  ·obtain⟨v,_,rfl⟩:=vO z;cases e
  ·obtain⟨y,hy,rfl⟩:=vO z;obtain⟨h1,h2⟩:=vN hy;unfold zy at h2;rw[vC]at h2;exact⟨y.2,y.1,rfl,(z4 g h1).1,(vN (vN h1).1).1,h2.1⟩
theorem Hd {day:Int}{n:Nat}{r:D}(hr:ab[n]? = some r)(hn:n∈bw ab aa day):∃b l,(fj ab aa (r,n)).filter (cS (bw ab aa day))=b::l:=by
 rcases sC _ _ _ hn with z|⟨p,hp,e,hb⟩
 ·cases z
 ·obtain⟨x,hx,rfl⟩:=vO hp;have hx':=bu (vN ((b8 _ _).mem_iff.mp (vN hx).1)).1;have e':x.2=n:=e;rw[e',hr]at hx';have ex:x=(r,n):=by rw[←e',vK hx']
  subst ex;obtain⟨b,h1,h2⟩:=List.any_eq_true.mp hb;have hm:b∈(fj ab aa (r,n)).filter (cS (bw ab aa day)):=List.mem_filter.mpr ⟨h1,h2⟩;cases hq:(fj ab aa (r,n)).filter (cS (bw ab aa day)) with
  |nil=>rw[hq]at hm;cases hm
  |cons b l=>exact⟨b,l,rfl⟩
theorem He (g:∀r∈ab,ce r)(day:Int):∀(k n:Nat)(r:D),ab[n]? = some r->n∈bw ab aa day->((ak ab aa).filter λz=>cA z (r,n)).length<k->∃ns c,Lk (bw ab aa day) (HY ab aa) (n::ns) c/\ns.length<k:=by
 intro k;induction k with
 |zero=>intro n r hr hn hk;omega
 |succ k ih=>
  intro n r hr hn hk;obtain⟨b,l,hq⟩:=Hd hr hn;have er:HY ab aa n=fj ab aa (r,n):=by unfold HY;rw[hr]
  have hm:b∈(fj ab aa (r,n)).filter (cS (bw ab aa day)):=by rw[hq];exact mX
  obtain⟨h1,h2⟩:=vN hm;cases hbn:b.1 with
  |some o=>exact⟨[],b.2,.one n b l hn (by rw[er];exact hq) (by rw[hbn];rfl),Nat.succ_pos _⟩
  |none=>
   obtain⟨m,q,e1,e2,h3,h4⟩:=Bf g hr h1 hbn;have V2:m∈bw ab aa day:=by
    unfold cS at h2;rw[hbn]at h2;obtain⟨m',ZN,e3⟩:=List.any_eq_true.mp (by simpa using h2:(bw ab aa day).any (λn=>decide ((n:Int)=b.2))=true);have:=of_decide_eq_true e3;rw[e1]at this;rw[show m=m' by omega];exact ZN
   have:=GZ _ h3 h4;obtain⟨ns,c,hl,bJ⟩:=ih m q e2 V2 (by omega);exact⟨m::ns,c,.more n m ns c b l hn (by rw[er];exact hq) hbn e1 hl,by rw[vE];omega⟩
end
theorem xn (w:Str)(b:Bs):bC (fT w b) (.int 0)=sF (.str (if b.1.isSome=true then "office" else w)):=by rcases b with⟨_|o,n⟩<;>simp[fT,E4]
theorem zJ (w:Str)(b:Bs):bC (fT w b) (.int (-1))=sF (.int b.2):=by rcases b with⟨_|o,n⟩<;>rfl
theorem Hf (hw:decide (w=("office" : Str))=false)(R:List Bs)(hR:R.length<=100)(S:List Nat){b:Bs}{l:List Bs}(h:R.filter (cS S)=b::l):da [.lst (R.map (fT w)),.dk (S.map nK) (S.map np)]=sF (fT w b):=by
 have hc:=gN (fi:=cw (aj 0)) (nT:=1) (cap:=[1]) (tg:=dD 0) (c:=bd (fA jK (fV 0 (fV 1 ai)))) (fe:=aj 0) (ρ:=[sF (.lst (R.map (fT w))),sF (.dk (S.map nK) (S.map np))]) R (fT w) (cS S) (fT w) rfl (by omega) λb _=>⟨[some (fT w b,false),sF (.dk (S.map nK) (S.map np))],rfl,cN (aJ [fT w b,.dk (S.map nK) (S.map np)] rfl (zC hw S b)),λ_=>⟨false,rfl⟩⟩;rw[h]at hc;exact aw rfl (ay (gS (x:=.lst ((b::l).map (fT w))) (y:=.int 0) (b1:=true) (b2:=false) hc rfl (by simp[E4])))
theorem zK:∀(l:List Rs),(l.map (·.1)).Nodup->∀p∈l,bS (l.map λp=>nK p.1) (l.map p9) (nK p.1)=some (p9 p)
 |q::l,h,p,hp=>by
  rw[uY,List.nodup_cons]at h;show(if nK q.1=nK p.1 then some (p9 q)else bS _ _ _)=_;rcases vP hp with rfl|hp
  ·rw[if_pos rfl]
  ·rw[if_neg λe=>?_,zK l h.2 p hp];have z:q.1=p.1:=by
    have:=Sum.inl.inj (show(Sum.inl _:cz)=Sum.inl _ from e);omega
   exact h.1 (uS ⟨p,hp,z.symm⟩)
theorem Lk.first {S:List Nat}{rs:Nat->List Bs}(h:Lk S rs (n::ns) c):n∈S/\∃b l,(rs n).filter (cS S)=b::l:=by
 cases h with
 |one _ b l hS h _=>exact⟨hS,b,l,h⟩
 |more _ _ _ _ b l hS h _ _ _=>exact⟨hS,b,l,h⟩
section
variable {ab:List D}{aa day:Int}{l:List Rs}{S:List Nat}{rs:Nat->List Bs}(n0:Nat)
abbrev cE (ab:List D)(aa day:Int)(l:List Rs)(S:List Nat)(n0:Nat)(told:List D)(b:D):DL.Env:=[sF (.tup ab),sF (.int aa),sF (.int day),sF (.int n0),sF (.dk (l.map λp=>nK p.1) (l.map p9)),sF (.dk (S.map nK) (S.map np)),lT told,some (b,false)]
def Ug (l:List Rs)(S:List Nat)(rs:Nat->List Bs):Prop:=∀n∈S,∃w,decide (w=("office" : Str))=false/\bS (l.map λp=>nK p.1) (l.map p9) (nK n)=some (.lst ((rs n).map (fT w)))/\(rs n).length<=100
theorem CM (F:Ug l S rs){m:Nat}(hm:m∈S){b:Bs}{tl:List Bs}(h:(rs m).filter (cS S)=b::tl){ρ:DL.Env}{f:FE}(h4:ρ[4]? = some (sF (.dk (l.map λp=>nK p.1) (l.map p9))))(h5:ρ[5]? = some (sF (.dk (S.map nK) (S.map np))))(hf:f ρ=sF (.int (m:Int))):
  ∃w,decide (w=("office" : Str))=false/\fA da (af (f2 NS (aj 4) f) (fV 5 ai)) ρ=sF (fT w b):=by
 obtain⟨w,hw,hl,hz⟩:=F m hm;refine⟨w,hw,aJ [.lst ((rs m).map (fT w)),.dk (S.map nK) (S.map np)] (aE (b:=false) (bv (.dk (l.map λp=>nK p.1) (l.map p9)) (.int (m:Int)) (by simp[h4]) hf ?_) (by simp[h5])) (Hf hw _ hz S h)⟩;show(bS (l.map λp=>nK p.1) (l.map p9) (nK m)).map _=_;rw[hl];rfl
theorem Ej (F:Ug l S rs){T:List Nat}{c:Int}(k:Lk S rs T c):∀(n:Nat)(ns:List Nat),T=n::ns->∀(pre:List D)(w:Str)(b:Bs)(tl:List Bs)(fuel:Nat),pre.length+ns.length<=1000->decide (w=("office" : Str))=false->(rs n).filter (cS S)=b::tl->ns.length<fuel ->
  ∃w' b',fU (bd (f2 oC (cW 7 0) (fS "office"))) kM fuel (cE ab aa day l S n0 (pre++[.int n]) (fT w b))=some (.nx (cE ab aa day l S n0 (pre++(n::ns).map λ(m:Nat)=>.int (m:Int)) (fT w' b')))/\b'.1.isSome=true/\b'.2=c:=by
 have cond:∀(told:List D)(w:Str)(b:Bs),decide (w=("office" : Str))=false->bd (f2 oC (cW 7 0) (fS "office")) (cE ab aa day l S n0 told (fT w b))=some (!b.1.isSome):=λtold w b hw=>by
  refine(GV (a:=if b.1.isSome=true then "office" else w) (b:="office") (bb:=false) (bv (fT w b) (.int 0) rfl rfl (xn w b))).trans ?_;cases b.1.isSome with
  |true=>simp
  |false=>rw[if_neg (by decide),hw]
 induction k with
 |one n b0 l0 hS h ho=>
  rintro n' ns ⟨⟩ pre w b tl fuel hp hw hb hf;rw[h]at hb;obtain⟨rfl,rfl⟩:=List.cons.inj hb;obtain⟨fuel,rfl⟩:∃k,fuel=k+1:=⟨fuel - 1,by omega⟩;refine⟨w,b0,?_,ho,rfl⟩;rw[fU,cond _ _ _ hw,ho];rfl
 |more n m ms c b0 l0 hS h ho hm k ih=>
  rintro n' ns ⟨⟩ pre w b tl fuel hp hw hb hf;rw[h]at hb;obtain⟨rfl,rfl⟩:=List.cons.inj hb;obtain⟨fuel,rfl⟩:∃k,fuel=k+1:=⟨fuel - 1,by omega⟩;obtain⟨V2,b2,l2,h2⟩:=k.first;rw[vE]at hp hf;have e1:∀told,cW 7 1 (cE ab aa day l S n0 told (fT w b0))=sF (.int (m:Int)):=λtold=>bv (fT w b0) (.int 1) rfl rfl (by
   obtain⟨o,z⟩:=b0;cases (show o=none from ho)
   cases (show z=(m:Int)from hm)
   simp[fT,HX])
  obtain⟨w2,ZO,e2⟩:=CM F V2 h2 (ρ:=cE ab aa day l S n0 (pre++[.int n]++[.int (m:Int)]) (fT w b0)) (f:=cW 7 1) rfl rfl (e1 _);obtain⟨w',b',e3,e4,e5⟩:=ih m ms rfl (pre++[.int n]) w2 b2 l2 fuel (by rw[uZ,List.length_singleton];omega) ZO h2 (by omega);refine⟨w',b',?_,e4,e5⟩;have eb:kM (cE ab aa day l S n0 (pre++[.int n]) (fT w b0))=some (.nx (cE ab aa day l S n0 (pre++[.int n]++[.int (m:Int)]) (fT w2 b2))):=Ci (ds:=pre++[.int n]) (d:=.int (m:Int)) (b:=false) rfl (e1 _) rfl (bE (by rw[uZ,List.length_singleton];omega)) (mE e2 (su _ _));rw[fU,cond _ _ _ hw,ho];dsimp only[Option.isSome,Bool.not_false];rw[eb];dsimp only;rw[e3];simp
end
section
variable {ab:List D}(g:∀r∈ab,ce r) (hl:ab.length<=30) (aa:Int) (hn:((bK (ak ab aa)).map (az 0)).Nodup) (ho:(cR (ak ab aa)).length<=60)
include hl in
theorem Kz (day:Int):Ug (jO ab aa day) (bw ab aa day) (HY ab aa):=λn hm=>by
 obtain⟨r,hr,_,_,hp⟩:=Ha hm;have e:HY ab aa n=fj ab aa (r,n):=by unfold HY;rw[hr]
 rw[e];exact⟨nA r,sA r,zK _ (vj aa day) _ hp,vR (nq hl aa (r,n)) (by decide)⟩
include g hl hn ho
theorem vk (day:Int)(n:Nat):mN [.tup ab,.int aa,.int day]=sF (.dk ((jO ab aa day).map λp=>nK p.1) ((jO ab aa day).map p9))/\lg [.dk ((jO ab aa day).map λp=>nK p.1) ((jO ab aa day).map p9)]=sF (.dk ((bw ab aa day).map nK) ((bw ab aa day).map np)):=by
 constructor
 ·rw[zB g hl aa hn ho day];unfold jO;rw[uP,uP];rfl
 ·rw[zD (jO ab aa day) (Ky aa ho day) (Re aa day) (Rf hl aa day) (vj aa day)];have:iA ((jO ab aa day).map Be)=bw ab aa day:=by
   unfold jO bw;rw[uP];rfl
  rw[this]
theorem Hg (day:Int){n:Nat}(h:n∉bw ab aa day):mO [.tup ab,.int aa,.int day,.int (n:Int)]=sF .non:=by
 obtain⟨e1,e2⟩:=vk g hl aa hn ho day n;refine aw rfl (JR (d:=.dk ((jO ab aa day).map λp=>nK p.1) ((jO ab aa day).map p9)) (b:=false) (aJ [.tup ab,.int aa,.int day] rfl e1) (by simp[be]) (.inl rfl) (JR (d:=.dk ((bw ab aa day).map nK) ((bw ab aa day).map np)) (b:=false) (aJ [_] rfl e2) (by simp[be]) (.inl rfl) (b9 (cN (x:=true) (bv (.int (n:Int)) (.dk ((bw ab aa day).map nK) ((bw ab aa day).map np)) rfl rfl ?_)) (ay rfl))));show some (D.bl (!(bS ((bw ab aa day).map nK) ((bw ab aa day).map np) (.inl (n:Int))).isSome),false)=_;rw[zH,decide_eq_false h];rfl
theorem Ek (day:Int){n:Nat}{ns:List Nat}{c:Int}(k:Lk (bw ab aa day) (HY ab aa) (n::ns) c)(LY:ns.length<=100):mO [.tup ab,.int aa,.int day,.int (n:Int)]=lT (((n::ns).map (λ(m:Nat)=>D.int (m:Int))++[D.int c]).reverse):=by
 obtain⟨e1,e2⟩:=vk g hl aa hn ho day n;obtain⟨hS,b,tl,hf⟩:=k.first;have F:=Kz (ab:=ab) hl aa day;generalize jO ab aa day=l at *;generalize bw ab aa day=S at *;obtain⟨w,hw,e3⟩:=CM F hS hf (ρ:=[sF (.tup ab),sF (.int aa),sF (.int day),sF (.int (n:Int)),sF (.dk (l.map λp=>nK p.1) (l.map p9)),sF (.dk (S.map nK) (S.map np)),lT [.int (n:Int)],none]) (f:=aj 3) rfl rfl rfl;obtain⟨w',b',e4,Vk,hc⟩:=Ej (ab:=ab) (aa:=aa) (day:=day) n F k n ns rfl [] w b tl 1000 (by simp;omega) hw hf (by omega);have zW:cW 7 2 (cE ab aa day l S n ([]++(n::ns).map λ(m:Nat)=>D.int (m:Int)) (fT w' b'))=sF (.int c):=bv (fT w' b') (.int 2) rfl rfl (by
  obtain⟨_|o,z⟩:=b'
  ·cases Vk
  ·cases (show z=c from hc)
   exact(DL.vy (by decide) (by show 2<_;simp)).trans rfl)
 have Hu:f2 qG (aj 3) (aj 5) [sF (.tup ab),sF (.int aa),sF (.int day),sF (.int (n:Int)),sF (.dk (l.map λp=>nK p.1) (l.map p9)),sF (.dk (S.map nK) (S.map np)),none,none]=sF (.bl false):=by
  refine bv (.int (n:Int)) (.dk (S.map nK) (S.map np)) rfl rfl ?_;show some (D.bl (!(bS (S.map nK) (S.map np) (.inl (n:Int))).isSome),false)=_;rw[zH,decide_eq_true hS];rfl
 have s4:(a7 (fU (bd (f2 oC (cW 7 0) (fS "office"))) kM 1000) (a7 (iT 6 (cW 7 2)) (aR (f1 JN (aj 6))))) (cE ab aa day l S n [.int (n:Int)] (fT w b))=some (.rt (.lst (((n::ns).map (λ(m:Nat)=>D.int (m:Int))++[D.int c]).reverse)) true) :=
  dn e4 (Ci (ds:=[]++(n::ns).map λ(m:Nat)=>D.int (m:Int)) (d:=.int c) (b:=false) rfl zW rfl (bE (by simp;omega)) (ay rfl))
 have s3:(a7 (aN 6 (fA bF (fV 3 ai))) (a7 (aN 7 (fA da (af (f2 NS (aj 4) (aj 3)) (fV 5 ai)))) (a7 (fU (bd (f2 oC (cW 7 0) (fS "office"))) kM 1000) (a7 (iT 6 (cW 7 2)) (aR (f1 JN (aj 6))))))) [sF (.tup ab),sF (.int aa),sF (.int day),sF (.int (n:Int)),sF (.dk (l.map λp=>nK p.1) (l.map p9)),sF (.dk (S.map nK) (S.map np)),none,none]=some (.rt (.lst (((n::ns).map (λ(m:Nat)=>D.int (m:Int))++[D.int c]).reverse)) true) :=
  cy (ds:=[.int (n:Int)]) (aJ [.int (n:Int)] rfl (gJ _ (by simp))) rfl (Gy e3 (su _ _) s4)
 refine aw rfl (JR (d:=.dk (l.map λp=>nK p.1) (l.map p9)) (b:=false) (aJ [.tup ab,.int aa,.int day] rfl e1) (by simp[be]) (.inl rfl) ?_);refine(show a7 (aN 5 (fA lg (fV 4 ai))) _ [sF (.tup ab),sF (.int aa),sF (.int day),sF (.int (n:Int)),sF (.dk (l.map λp=>nK p.1) (l.map p9)),none,none,none]=_ from JR (d:=.dk (S.map nK) (S.map np)) (b:=false) (aJ [_] rfl e2) (by simp[be]) (.inl rfl) ?_);exact a9 (ρ:=[sF (.tup ab),sF (.int aa),sF (.int day),sF (.int (n:Int)),sF (.dk (l.map λp=>nK p.1) (l.map p9)),sF (.dk (S.map nK) (S.map np)),none,none]) (cN (x:=false) Hu) s3
end
theorem xG {α:Type}(xs:List α):lI xs (-1)=xs.getLast?:=by
 rw[List.getLast?_eq_getElem?];unfold lI zQ;cases xs with
 |nil=>rfl
 |cons a l=>
  rw[if_neg (by decide),if_pos (by simp;omega),vJ];congr 1;simp;omega
theorem LQ {KS:List Int}{j:Nat}{d:Int}(h:KS[j]? = some d):bC (.lst (KS.map .int)) (.int (j:Int))=sF (.int d):=by
 obtain⟨hl,e⟩:=vV h;rw[wS (Int.natCast_nonneg j) (by simpa using hl)];simp[hl,e]
noncomputable def jU (T:List Nat)(c:Int):List Int:=T.map (λ(m:Nat)=>(m:Int))++[c]
theorem Lk.at {S:List Nat}{rs:Nat->List Bs}{T:List Nat}{c:Int}(k:Lk S rs T c):∀i,i<T.length->∃m,T[i]? = some m/\m∈S/\∃b l,(rs m).filter (cS S)=b::l/\(jU T c)[i+1]? = some b.2/\b.1.isSome=decide (i+1=T.length):=by
 induction k with
 |one n b l hS h ho=>
  intro i hi;have:i=0:=by simpa using hi
  subst this;exact⟨n,rfl,hS,b,l,h,rfl,by rw[ho];rfl⟩
 |more n m ns c b l hS h ho hm k ih=>
  intro i hi;match i with
  |0=>exact⟨n,rfl,hS,b,l,h,by rw[hm];rfl,by rw[ho];simp⟩
  |i+1=>
   obtain⟨q,e1,e2,b',l',e3,e4,e5⟩:=ih i (by simpa using hi);exact⟨q,by simpa using e1,e2,b',l',e3,by simpa [jU]using e4,by rw[e5];simp⟩
theorem Bg {U:List Int}{i:Nat}(h:i<U.length):U.reverse[U.length - 1 - i]? = U[i]?:=by
 rw[List.getElem?_reverse (by omega)];congr 1;omega
section
variable {ab:List D}(g:∀r∈ab,ce r) (hl:ab.length<=30) (aa:Int) (hn:((bK (ak ab aa)).map (az 0)).Nodup) (ho:(cR (ak ab aa)).length<=60)
include g hl hn ho
theorem Hh {n:Nat}{r:D}(hr:ab[n]? = some r)(kr:kindOf r∈c8)(hk:bi r<=aa):lh [.tup ab,.int aa,.int (n:Int)]=lT ((fj ab aa (r,n)).map (fT (nA r))):=by
 obtain⟨ec,xq⟩:=uL (ab:=ab) ⟨by omega,λr hr=>(g r hr).c⟩ aa ho;exact aw rfl (ay (aJ [.tup ab,.int aa,.lst ((bp (ak ab aa)).map aT),.int n] (cn rfl (cn rfl (aE (aJ [.tup ab,.int aa] rfl ec) (cn rfl rfl)))) (CF g hl aa hn _ xq hr kr hk)))
theorem Hi (day:Int){n:Nat}{ns:List Nat}{c:Int}(k:Lk (bw ab aa day) (HY ab aa) (n::ns) c)(LY:ns.length<=100):oj [.tup ab,.int aa,.lst (iB (bw ab aa day)),.int (n:Int),.lst ((jU (n::ns) c).reverse.map .int)]=sF (.bl true):=by
 have Xh:=k.at;have Vv:∀m∈bw ab aa day,∃r,ab[m]? = some r/\HY ab aa m=fj ab aa (r,m)/\lh [.tup ab,.int aa,.int (m:Int)]=lT ((fj ab aa (r,m)).map (fT (nA r))):=λm hm=>by
  obtain⟨r,hr,hk,kr,_⟩:=Ha hm;exact⟨r,hr,by unfold HY;rw[hr],Hh g hl aa hn ho hr kr (of_decide_eq_true (vN hk).2)⟩
 have ZP:(jU (n::ns) c).length=ns.length+2:=by simp[jU]
 have ZQ:(jU (n::ns) c)[0]? = some (n:Int):=rfl;have ZR:∀(i m:Nat),(n::ns)[i]? = some m->(jU (n::ns) c)[i]? = some (m:Int):=λi m e=>by
  have hi:=(vV e).1;unfold jU;rw[List.getElem?_append_left (by simpa using hi),vA,e];rfl
 generalize hS:bw ab aa day=S at *;generalize jU (n::ns) c=U at *;let E:OB->OB->DL.Env:=λv5 v6=>[sF (.tup ab),sF (.int aa),sF (.lst (iB S)),sF (.int (n:Int)),sF (.lst (U.reverse.map .int)),v5,v6];have t1:bd (fA c9 (fV 4 (af (fC (.ty "list")) ai))) (E none none)=some true:=cN (aJ [.lst (U.reverse.map .int),.ty "list"] rfl Ud);have t2:bd (f2 N6 (fA gp (fV 4 ai)) (fI 2)) (E none none)=some false:=cN (bv (.int ((U.reverse.map D.int).length:Nat)) (.int 2) (aJ [.lst (U.reverse.map .int)] rfl rfl) rfl (by
  show some (D.bl (decide (((U.reverse.map D.int).length:Int)<2)),false)=_;rw[decide_eq_false (by simp[ZP];omega)]))
 have t3:bd (f2 oC (f2 bC (aj 4) (f1 lK (fI 1))) (aj 3)) (E none none)=some false:=by
  refine cN (bv (.int (n:Int)) (.int (n:Int)) (bv (.lst (U.reverse.map .int)) (.int (-1)) rfl rfl ?_) rfl (by unfold oC;rw[if_pos ⟨by simp[aq],by simp[aq]⟩];simp));show(lI (U.reverse.map D.int) (-1)).map _=_;rw[xG,List.getLast?_eq_getElem?,vI,List.length_reverse,vA,show U.reverse[U.length - 1]? = U[0]? from by have:=Bg (U:=U) (i:=0) (by omega);simpa using this,ZQ];rfl
 have t4:bd (fA ND (af (bR (cw (aj 4)) 1 [] (dD 0) hW (jA (fA c9 (fV 0 (af (fC (.ty "int")) ai))) (Ar (fA c9 (fV 0 (af (fC (.ty "bool")) ai)))))) ai)) (E none none)=some true:=by
  have ly:=oK (fi:=cw (aj 4)) (nT:=1) (cap:=[]) (tg:=dD 0) (fe:=jA (fA c9 (fV 0 (af (fC (.ty "int")) ai))) (Ar (fA c9 (fV 0 (af (fC (.ty "bool")) ai))))) (ρ:=E none none) U.reverse D.int (λ_=>.bl true) rfl (by rw[List.length_reverse];omega) λn _=>⟨[sF (.int n)],rfl,false,dC (p:=true) (q:=true) (b1:=false) (aJ [.int n,.ty "int"] rfl rfl) λ_=>JU (p:=false) (b1:=false) (aJ [.int n,.ty "bool"] rfl rfl)⟩;refine cN (aJ [.lst (U.reverse.map λ_=>.bl true)] (aE ly rfl) ?_);show(qj _).map _=_;rw[qT (λ_=>true),Option.map_some];congr 3;rw[List.all_eq_true];intro b hb;obtain⟨_,_,rfl⟩:=vO hb;rfl
 obtain⟨ρ',el,_⟩:=ij (tg:=dD 5) (g:=rC) (λ_ ρ=>∃v5 v6,ρ=E v5 v6) (nY ((U.length:Int) - 1) (-1) (U.length - 1)) (E none none) ⟨_,_,rfl⟩ (by
  rintro i d ρ hd ⟨v5,v6,rfl⟩;unfold nY at hd;rw[vA]at hd;obtain⟨j,hj,rfl⟩:=oY hd;obtain⟨eZ,hj⟩:=vV hj;rw[List.length_range]at eZ;rw[List.getElem_range]at hj;subst hj;rw[show(U.length:Int) - 1+(i:Int) * -1=((U.length - 1 - i:Nat):Int) by omega];obtain⟨m,e1,e2,b,tl,e3,e4,e5⟩:=Xh i (by rw[vE];omega);obtain⟨r,hr,er,ZS⟩:=Vv m e2;have x4:∀ρ:DL.Env,ρ[4]? = some (sF (.lst (U.reverse.map .int)))->ρ[5]? = some (sF (.int ((U.length - 1 - i:Nat):Int)))->f2 bC (aj 4) (aj 5) ρ=sF (.int (m:Int)):=λρ p4 p5=>bv (.lst (U.reverse.map .int)) (.int ((U.length - 1 - i:Nat):Int)) (by simp[p4]) (by simp[p5]) (LQ (by rw[Bg (by omega)];exact ZR i m e1));have x5:∀ρ:DL.Env,ρ[4]? = some (sF (.lst (U.reverse.map .int)))->ρ[5]? = some (sF (.int ((U.length - 1 - i:Nat):Int)))->f2 bC (aj 4) (f2 nM (aj 5) (fI 1)) ρ=sF (.int b.2):=λρ p4 p5=>bv (.lst (U.reverse.map .int)) (.int ((U.length - 1 - (i+1):Nat):Int)) (by simp[p4]) (bv (.int ((U.length - 1 - i:Nat):Int)) (.int 1) (by simp[p5]) rfl (by
   show some (D.int (((U.length - 1 - i:Nat):Int) - 1),false)=_;rw[show((U.length - 1 - i:Nat):Int) - 1=((U.length - 1 - (i+1):Nat):Int) by omega])) (LQ (by rw[Bg (by omega)];exact e4))
  have hc:=gN (fi:=cw (fA lh (fV 0 (fV 1 (af (f2 bC (aj 4) (aj 5)) ai))))) (nT:=1) (cap:=[2]) (tg:=dD 0) (c:=gQ (bd (f2 dz (cW 0 0) (fS "office"))) (bd (f2 Az (f2 bC (aj 0) (f1 lK (fI 1))) (aj 1)))) (fe:=aj 0) (ρ:=E (sF (.int ((U.length - 1 - i:Nat):Int))) v6) (fj ab aa (r,m)) (fT (nA r)) (cS S) (fT (nA r)) (by
    show(fA lh _ _).bind _=_;rw[aJ [.tup ab,.int aa,.int (m:Int)] (cn rfl (cn rfl (cn (x4 _ rfl rfl) rfl))) ZS];rfl) (by have:=nq hl aa (r,m);omega) λb _=>by
    refine⟨[some (fT (nA r) b,false),sF (.lst (iB S))],rfl,?_,λ_=>⟨false,rfl⟩⟩;unfold cS;have q0:bd (f2 dz (cW 0 0) (fS "office")) [some (fT (nA r) b,false),sF (.lst (iB S))]=some b.1.isSome:=by
     refine(bM (a:=if b.1.isSome=true then "office" else nA r) (b:="office") (bb:=false) (bv (fT (nA r) b) (.int 0) rfl rfl (xn _ b)) rfl).trans ?_;cases b.1.isSome with
     |true=>simp
     |false=>rw[if_neg (by decide),sA]
    exact c7 q0 λ_=>cN (bv (.int b.2) (.lst (iB S)) (bv (fT (nA r) b) (.int (-1)) rfl rfl (zJ _ b)) rfl (Op _ S))
  rw[←er,e3]at hc;let G:DL.Env:=E (sF (.int ((U.length - 1 - i:Nat):Int))) (lT ((b::tl).map (fT (nA r))));have g0:cW 6 0 G=sF (fT (nA r) b):=bv (.lst ((b::tl).map (fT (nA r)))) (.int 0) rfl rfl (by simp[E4]);have c1:bd (f2 dz (aj 6) (fA bF ai)) G=some false:=by
   refine cN (gS (x:=.lst ((b::tl).map (fT (nA r)))) (y:=.lst []) (b1:=false) (b2:=true) rfl (aJ [] rfl (gJ _ (by simp))) ?_);unfold dz;rw[if_pos ⟨by
    simp only[aq,List.all_eq_true];intro d hd;obtain⟨b,_,rfl⟩:=vO hd;rcases b with⟨_|o,z⟩<;>simp[fT],by simp[aq]⟩]
   simp
  have c2:bd (f2 oC (f2 bC (cW 6 0) (f1 lK (fI 1))) (f2 bC (aj 4) (f2 nM (aj 5) (fI 1)))) G=some false:=cN (bv (.int b.2) (.int b.2) (bv (fT (nA r) b) (.int (-1)) g0 rfl (zJ _ b)) (x5 _ rfl rfl) (by unfold oC;rw[if_pos ⟨by simp[aq],by simp[aq]⟩];simp));have c3:bd (f2 oC (f2 dz (f2 bC (cW 6 0) (fI 0)) (fS "office")) (f2 dz (aj 5) (fI 1))) G=some false:=by
   refine cN (bv (.bl b.1.isSome) (.bl b.1.isSome) (bv (.str (if b.1.isSome=true then "office" else nA r)) (.str "office") (bv (fT (nA r) b) (.int 0) g0 rfl (xn _ b)) rfl ?_) (bv (.int ((U.length - 1 - i:Nat):Int)) (.int 1) rfl rfl ?_) (by rw[Od];simp))
   ·cases b.1.isSome with
    |true=>simp
    |false=>
     have:=of_decide_eq_false (sA r);simp[this]
   ·rw[wT,e5];refine congrArg (λb=>sF (.bl b)) (decide_eq_decide.mpr ?_);rw[vE];omega
  have vp:bz ((b::tl).map (fT (nA r)))=true:=bP λd hd=>by obtain⟨b,_,rfl⟩:=vO hd;exact su _ b
  exact⟨_,G,rfl,.inl (cy (ds:=(b::tl).map (fT (nA r))) hc vp (jY (c7 (p:=false) (q:=false) c1 λ_=>c7 (p:=false) (q:=false) c2 λ_=>c3) rfl)),_,_,rfl⟩)
 refine aw rfl (a9 (c7 (p:=false) (q:=false) (bZ t1) λ_=>c7 (p:=false) (q:=false) t2 λ_=>t3) (a9 (bZ t4) (dn (kG ?_ el) (ay rfl))));show(f2 nM _ _ _).bind _=_;rw[bv (op:=nM) (.int ((U.reverse.map D.int).length:Nat)) (.int 1) (aJ [.lst (U.reverse.map .int)] rfl rfl) rfl rfl];show(if(-1000<=(((U.reverse.map D.int).length:Nat):Int) - 1/\(((U.reverse.map D.int).length:Nat):Int) - 1<=1000/\-1000<=(0:Int)/\(0:Int)<=1000)/\((-1:Int)=1∨(-1:Int)=2∨(-1:Int)=3∨(-1:Int) = -1)then some (nY ((((U.reverse.map D.int).length:Nat):Int) - 1) (-1) (Builtin.Range.rangeSize ((((U.reverse.map D.int).length:Nat):Int) - 1) 0 (-1)).toNat)else none)=_;rw[vI,List.length_reverse,if_pos ⟨by omega,by omega⟩];congr 2;unfold Builtin.Range.rangeSize;rw[if_neg (by decide),if_pos (by omega),show -(-1:Int)=1 by decide,Int.ediv_one];omega
end
theorem Hj (h:aq 40 d=true):oC d d=sF (.bl false):=by
 unfold oC;rw[if_pos ⟨h,h⟩,mP 40 _ h];rfl
theorem Hk (ab:List D)(aa:Int):bK (ak ab aa)=ab.filter λv=>bf v && decide (bi v<=aa):=by
 unfold bK ak;rw[List.filter_filter];have:∀(l:List (D×Nat))(q:D->Bool),(l.filter λx=>q x.1).map (·.1)=(l.map (·.1)).filter q:=λl q=>by rw[List.filter_map];rfl
 refine(this ab.zipIdx λv=>bf v && decide (bi v<=aa)).trans ?_;rw[List.zipIdx_map_fst]
theorem Hl (ab:List D)(aa:Int):((bK (ak ab aa)).map (az 0)).Sublist (lG ab):=by
 rw[Hk];unfold lG;refine List.Sublist.map _ ?_;have:(ab.filter λv=>bf v && decide (bi v<=aa))=(ab.filter bf).filter λv=>decide (bi v<=aa):=by rw[List.filter_filter];congr 1;funext v;rw[Bool.and_comm]
 rw[this];exact List.filter_sublist
theorem Bh (n:Nat)(S:List Nat):eS (.int (n:Int)) (.lst (iB S))=sF (.bl (!decide (n∈S))):=by
 have vp:((zI S).map λ(n:Nat)=>D.int (n:Int)).all fR=true:=by
  rw[List.all_eq_true];intro d hd;obtain⟨m,_,rfl⟩:=vO hd;rfl
 rw[CJ];simp only[eS,gM,vJ];rw[if_pos ⟨rfl,vp⟩,zF,CH];exact congrArg (λb=>sF (.bl (!b))) (decide_eq_decide.mpr o5)
theorem law_true (ns:List Int)(_:ns.length<=63):∃b,F_law [.lst (ns.map .int)]=some (.bl true,b):=by
 obtain⟨c0,e0,h0⟩:=gW ns 0;obtain⟨c3,e3,h3⟩:=gW ns 3;obtain⟨c4,e4,h4⟩:=gW ns 4;obtain⟨HK,Xt,h90⟩:=gW ns 90;obtain⟨zs,ez,hz,ZT⟩:=GJ c0 h0;have Xu:=mod_lt (x:=c3) (m:=3) (by decide);obtain⟨ms,hms,ZU⟩:=nn (ns:=[1,1,500]) (i:=c3 % 3) Xu.1 Xu.2;obtain⟨ab,erw,OJ,Sd,OF⟩:=Kk ns zs hz ms;have ZV:=mod_lt (x:=c3 / 3) (m:=13) (by decide);have hm4:=mod_lt (x:=c4) (m:=3) (by decide);have ZW:=mod_lt (x:=HK / 2) (m:=13) (by decide);have SX:=mod_lt (x:=HK) (m:=2) (by decide);obtain⟨aa,Ic,ZX⟩:=nn (ns:=[9999,c3 / 3 % 13*ms]) (i:=c4 % 3 / 2) (by omega) (by simp;omega);obtain⟨day,hdy,ZY⟩:=nn (ns:=[9999,HK / 2 % 13*ms]) (i:=HK % 2) (by omega) (by simp;omega);have Ml:be (.tup ab)=true:=by simp[bP λd hd=>(OJ d hd).flat]
 have hn:((bK (ak ab aa)).map (az 0)).Nodup:=by
  refine List.Nodup.sublist (Hl ab aa) ?_;rw[OF];refine List.Nodup.sublist (List.take_sublist _ _) ?_;obtain⟨x,hx⟩:∃x,zs[5]? = some x:=⟨_,vU (by omega)⟩;obtain⟨y,hy⟩:∃y,zs[6]? = some y:=⟨_,vU (by omega)⟩;have e:zs.drop 5=[x,y]:=by
   refine List.ext_getElem? λj=>?_;rw[List.getElem?_drop];match j with
   |0=>exact hx
   |1=>exact hy
   |j+2=>rw[List.getElem?_eq_none (by omega)];rfl
  rw[e];simp[ZT x y hx hy]
 have ho:(cR (ak ab aa)).length<=60:=by
  unfold cR;rw[(b8 _ _).length_eq];exact vR (vM _ _) (vR (cq ab aa) (by omega))
 have es:=zG OJ (by omega) aa hn ho day;let E:OB->OB->OB->DL.Env:=λv8 v9 xw=>[sF (.lst (ns.map .int)),lT (zs.map .str),sF (.int ms),sF (.tup ab),sF (.int aa),sF (.tup ab),sF (.int day),lT (iB (bw ab aa day)),v8,v9,xw];obtain⟨ρ',el,v8,v9,xw,rfl⟩:=mC (tg:=dD 8) (g:=G0) ab.length (λ_ ρ=>∃v8 v9 xw,ρ=E v8 v9 xw) (E none none none) ⟨_,_,_,rfl⟩ (by
  rintro n ρ Ri ⟨v8,v9,xw,rfl⟩;have Hu:∀x9,bd (f2 eS (aj 8) (aj 7)) (E (sF (.int (n:Int))) x9 xw)=some (!decide (n∈bw ab aa day)):=λx9=>cN (bv (.int (n:Int)) (.lst (iB (bw ab aa day))) rfl rfl (Bh n _));by_cases hS:n∈bw ab aa day
  ·have hr:ab[n]? = some ab[n]:=vU Ri;obtain⟨ks,c,k,hk⟩:=He (aa:=aa) OJ day 31 n _ hr hS (Nat.lt_of_le_of_lt (vM _ _) (Nat.lt_of_le_of_lt (cq ab aa) (by omega)));have ec:=Ek OJ (by omega) aa hn ho day k (by omega);have er:=Hi OJ (by omega) aa hn ho day k (by omega);have eU:((n::ks).map (λ(m:Nat)=>D.int (m:Int))++[D.int c]).reverse=(jU (n::ks) c).reverse.map .int:=by
    unfold jU;rw[←List.map_reverse.symm,uW,uP];rfl
   rw[eU]at ec;generalize (jU (n::ks) c).reverse=U at ec er;have hp:aq 40 (.lst (U.map .int))=true:=by simp[aq]
   refine⟨_,E (sF (.int (n:Int))) (lT []) (lT (U.map .int)),rfl,.inl (cy (ds:=U.map .int) (aJ [.tup ab,.int aa,.int day,.int (n:Int)] rfl ec) (oJ _) (jY ((Hu _).trans (by rw[decide_eq_true hS];rfl)) (jY (bZ (p:=true) (cN (aJ [.tup ab,.int aa,.lst (iB (bw ab aa day)),.int (n:Int),.lst (U.map .int)] rfl er))) (cy (ds:=U.map .int) (aJ [.lst (U.map .int)] rfl rfl) (oJ _) (dn (ρ':=E (sF (.int (n:Int))) (lT []) (lT (U.map .int))) rfl (jY (cN (gS (x:=.lst (U.map .int)) (y:=.lst (U.map .int)) (b1:=true) (b2:=false) (aJ [.tup ab,.int aa,.int day,.int (n:Int)] rfl ec) rfl (Hj hp))) rfl)))))),_,_,_,rfl⟩
  ·have ec:=Hg OJ (by omega) aa hn ho day hS;exact⟨_,E (sF (.int (n:Int))) (sF .non) xw,rfl,.inl (fP .non (aJ [.tup ab,.int aa,.int day,.int (n:Int)] rfl ec) rfl (lw ((Hu _).trans (by rw[decide_eq_false hS];rfl)) (jY (cN (bv .non .non rfl rfl rfl)) rfl))),_,_,_,rfl⟩)
 refine⟨false,aw rfl (cy (ds:=zs.map .str) (aJ [.int c0] (aE (aJ [.lst (ns.map .int),.int ((0:Nat):Int)] rfl e0) rfl) ez) (dU zs) (fP (.int ms) ?_ rfl (fP (.tup ab) (aJ [.lst (ns.map .int),.lst (zs.map .str),.int ms,.int 18] rfl erw) Ml (fP (.int aa) ?_ rfl (fP (.tup ab) (aJ [.lst ab] (aE (b:=true) (aJ [.tup ab] rfl rfl) rfl) rfl) Ml (fP (.int day) ?_ rfl (cy (ds:=iB (bw ab aa day)) (aJ [.tup ab,.int aa,.int day] rfl es) (Ei _) (dn (kG (jv (j:=ab.length) (b:=false) (aJ [.tup ab] rfl rfl) (by omega)) el) (ay (bv (.tup ab) (.tup ab) rfl rfl (JX λr hr=>(OJ r hr).c.rp)))))))))))⟩
 ·exact gS (x:=.lst (([1,1,500]:List Int).map .int)) (y:=.int (c3 % 3)) (b1:=true) (b2:=false) (by simp[sizeLine]) (bv (.int c3) (.int 3) (aJ [.lst (ns.map .int),.int ((3:Nat):Int)] rfl e3) rfl (by simp)) ZU
 ·exact gS (x:=.lst (([9999,c3 / 3 % 13*ms]:List Int).map .int)) (y:=.int (c4 % 3 / 2)) (b1:=true) (b2:=false) (aJ [.int 9999,.int (c3 / 3 % 13*ms)] (cn rfl (cn (bv (.int (c3 / 3 % 13)) (.int ms) (bv (.int (c3 / 3)) (.int 13) (bv (.int c3) (.int 3) (aJ [.lst (ns.map .int),.int ((3:Nat):Int)] rfl e3) rfl (by simp)) rfl (by simp)) rfl (oy (by omega))) rfl)) (gJ _ (by simp))) (bv (.int (c4 % 3)) (.int 2) (bv (.int c4) (.int 3) (aJ [.lst (ns.map .int),.int ((4:Nat):Int)] rfl e4) rfl (by simp)) rfl (by simp)) ZX
 ·exact gS (x:=.lst (([9999,HK / 2 % 13*ms]:List Int).map .int)) (y:=.int (HK % 2)) (b1:=true) (b2:=false) (aJ [.int 9999,.int (HK / 2 % 13*ms)] (cn rfl (cn (bv (.int (HK / 2 % 13)) (.int ms) (bv (.int (HK / 2)) (.int 13) (bv (.int HK) (.int 2) (aJ [.lst (ns.map .int),.int ((90:Nat):Int)] rfl Xt) rfl (by simp)) rfl (by simp)) rfl (oy (by omega))) rfl)) (gJ _ (by simp))) (bv (.int HK) (.int 2) (aJ [.lst (ns.map .int),.int ((90:Nat):Int)] rfl Xt) rfl (by simp)) ZY
end Lw
namespace Lw
open PySem PySem.Spec PyProof.Rows L2 DL
noncomputable def fm (i:Nat):Stmt:=PySem.Challenge.pw_sealchain_k29_chains_told.main.body.getD i (.Pass ⟨0,0,0,0⟩)
structure Tx (w:World)(K:Frag)(mg:Str->Option Value):Prop where
 hX:∃h,K.In h/\h.Ns mainGlobals mg
 d0:dH K "word_of" (fm 7)
 d1:dH K "part_of" (fm 8)
 d2:dH K "day_of" (fm 9)
 d3:dH K "heard" (fm 11)
 d4:dH K "rank" (fm 13)
 d5:dH K "in_order" (fm 15)
 d6:dH K "by_office" (fm 27)
 d7:dH K "roots" (fm 16)
 d8:dH K "is_known" (fm 12)
 d9:dH K "tells" (fm 19)
 d10:dH K "told_of" (fm 20)
 d11:dH K "lives" (fm 21)
 d12:dH K "has_seal" (fm 22)
 d13:dH K "is_sound" (fm 23)
 d14:dH K "lies_in" (fm 1)
 d15:dH K "is_alive" (fm 25)
 d16:dH K "by_since" (fm 26)
 d17:dH K "chief_of" (fm 28)
 d18:dH K "holder_by" (fm 29)
 d19:dH K "is_held_by" (fm 30)
 d20:dH K "is_first_death" (fm 31)
 d21:dH K "counts" (fm 32)
 d22:dH K "new_claim" (fm 33)
 d23:dH K "ended" (fm 34)
 d24:dH K "after_choice" (fm 35)
 d25:dH K "inherited" (fm 36)
 d26:dH K "after_death" (fm 37)
 d27:dH K "claims" (fm 38)
 d28:dH K "is_paper" (fm 41)
 d29:dH K "is_leave" (fm 42)
 d30:dH K "is_borne" (fm 43)
 d31:dH K "covers" (fm 4)
 d32:dH K "reach_bar" (fm 47)
 d33:dH K "office_bar" (fm 48)
 d34:dH K "office_bases" (fm 51)
 d35:dH K "ends_within" (fm 3)
 d36:dH K "is_within" (fm 2)
 d37:dH K "is_ahead" (fm 14)
 d38:dH K "leave_bar" (fm 49)
 d39:dH K "leaves_to" (fm 50)
 d40:dH K "leave_bases" (fm 52)
 d41:dH K "copy_bases" (fm 53)
 d42:dH K "bases_by" (fm 54)
 d43:dH K "may_call" (fm 44)
 d44:dH K "calls_in" (fm 45)
 d45:dH K "calls_by" (fm 46)
 d46:dH K "is_fit" (fm 56)
 d47:dH K "links" (fm 57)
 d48:dH K "bears" (fm 58)
 d49:dH K "stood" (fm 59)
 d50:dH K "standing" (fm 60)
 d51:dH K "first_bearer" (fm 61)
 d52:dH K "chain" (fm 62)
 d53:dH K "_law_cell" (fm 64)
 d54:dH K "_law_names" (fm 65)
 d55:dH K "_law_stretch" (fm 66)
 d56:dH K "_law_deed" (fm 67)
 d57:dH K "_law_rows" (fm 68)
 d58:dH K "bases" (fm 55)
 d59:dH K "_law_right" (fm 69)
 d60:dH K "law" (fm 70)
 n0:mg "all" = none
 n1:mg "any" = none
 n2:mg "bool" = none
 n3:mg "dict" = none
 n4:mg "enumerate" = none
 n5:mg "int" = none
 n6:mg "isinstance" = none
 n7:mg "len" = none
 n8:mg "list" = none
 n9:mg "max" = none
 n10:mg "min" = none
 n11:mg "range" = none
 n12:mg "reversed" = none
 n13:mg "set" = none
 n14:mg "sorted" = none
 n15:mg "tuple" = none
 k0:KC K mg "PAPERS" yT
 k1:KD w K mg "PARTS" gT
 k2:KC K mg "SEALINGS" im
 l5:AF K "in_order"
 l12:AF K "has_seal"
 l20:AF K "is_first_death"
 l42:AF K "bases_by"
section
variable {P:Program}{w:World}{K:Frag}{mg:Str->Option Value}{base:Heap}(T:Tx w K mg)
include T
theorem f0:Fn P w K mg base 1 "word_of" aL:=T.d0.fq T.hX uz ["row"] 1 λnd hr hu=>
  (bc (aO (bD 0) av))
theorem f1:Fn P w K mg base 2 "part_of" au:=T.d1.fq T.hX u0 ["row","part"] 2 λnd hr hu=>
  (bc (aO (bD 0) (ax br av (Ju T.k1 (a8 (f0 T) hr) (ag 1)))))
theorem f2:Fn P w K mg base 3 "day_of" aP:=T.d2.fq T.hX yU ["row"] 1 λnd hr hu=>
  (ao (cj (aH (cG hu) (a8 (f0 T) hr) aA) dB)
   (bc (a8 (f1 T) hr)))
theorem f3:Fn P w K mg base 1 "heard" cF:=T.d3.fq T.hX Ck ["book","known"] 2 λnd hr hu=>
  (bc (iL ["number","row","known"] (Jo T.n4 (ag 0)) (eQ (aH qe (bD 1) (ag 2))) (ag 0)))
theorem f4:Fn P w K mg base 4 "rank" eX:=T.d4.fq T.hX Gz ["book","number"] 2 λnd hr hu=>
  (bc (aX (ah (aZ (f2 T) hr (ah (aO (ag 0) (ag 1)) am)) (aF 1 am))))
theorem f5:Fn P w K mg base 8 "in_order" dO:=T.d5.fqL T.hX qU ["book","known","dated"] 2 λnd hr hu jj=>
  (ao (mB ["number","book"] nd (cB (a8 (f3 T) hr)) (eQ (aH pD (aZ (f2 T) hr (ah (aO (ag 1) (ag 0)) am)) dB)) (ag 0))
   (bc (FU FQ T.n14 (ag 2) (wL (cap:=[0]) (N':=["number","book"]) (by decide +kernel) T.l5 jj rfl rfl (BS (by decide +kernel) rfl rfl rfl rfl rfl) rfl (.cons rfl rfl (Or.inl rfl) rfl (pC (by decide +kernel) rfl) (.nil rfl)) rfl hr.in1.in1 (λ_ _ _ _=>rfl) λ_ _ _ _ hr=>have hu:=Dx hr;(a8 (f4 T) hr)))))
theorem f6:Fn P w K mg base 1 "by_office" g7:=T.d6.fq T.hX oM ["claim"] 1 λnd hr hu=>
  (bc (aX (ah (bD 0) (ah (bD 0) (ah (bD 0) am)))))
theorem f7:Fn P w K mg base 3 "roots" gn:=T.d7.fq T.hX Cm ["book","known","known_rows"] 2 λnd hr hu=>
  (ao (mB ["number","book"] nd (cB (a8 (f3 T) hr)) kn (aO (ag 1) (ag 0)))
   (bc (fX (NV rfl) T.n3 NU (ah (iL ["row"] (cB (ag 2)) (eQ (aH (cG hu) (a8 (f0 T) hr) aA)) (aX (ah (a8 (f1 T) hr) (aF 0 am)))) am))))
theorem f8:Fn P w K mg base 1 "is_known" cC:=T.d8.fq T.hX qV ["book","known","number"] 3 λnd hr hu=>
  (bc (gF (Fh qe BA av (ag 2) (b7 iI T.n7 iJ (aF 0 am))) (fB (c6 qe (aO (aO (ag 0) (ag 2)) av) (ag 1)))))
theorem f9:Fn P w K mg base 4 "tells" pM:=T.d9.fq T.hX Cn ["row","words","person","day"] 4 λnd hr hu=>
  (bc (gF (c6 yj (a8 (f0 T) hr) (ag 1)) (gF (c6 (cG hu) (a8 (f1 T) hr) (ag 2)) (fB (c6 qe (a8 (f2 T) hr) (ag 3))))))
theorem f10:Fn P w K mg base 5 "told_of" hU:=T.d10.fq T.hX u5 ["book","known","words","person","day"] 5 λnd hr hu=>
  (bc (iL ["number","words","person","day","book"] (cB (a8 (f3 T) hr)) (eQ (bV (aZ (f9 T) hr (ah (aO (ag 4) (ag 0)) (aF 1 (aF 2 (aF 3 am))))))) (ag 0)))
theorem f11:Fn P w K mg base 6 "lives" mG:=T.d11.fq T.hX Co ["book","known","person","day"] 4 λnd hr hu=>
  (bc (c6 (cG hu) (b7 iI T.n7 iJ (ah (aZ (f10 T) hr (aF 0 (aF 1 (ah (aX (ah aA am)) (aF 2 (aF 3 am)))))) am)) av))
theorem XG:Fn P w K mg base 8 "has_seal" lQ:=T.d12.fqL T.hX qW ["book","known","person","day","told"] 4 λnd hr hu jj=>
  (ao (aB nd (aZ (f10 T) hr (aF 0 (aF 1 (ah (aX (ah aA (ah aA am))) (aF 2 (aF 3 am)))))))
   (ao (cj (aH (cG hu) (b7 iI T.n7 iJ (aF 4 am)) av) fQ)
   (bc (c6 (cG hu) (aZ (f0 T) hr (ah (aO (ag 0) (yI VL T.n9 (ag 4) (wL (cap:=[0]) (N':=["number","book"]) (by decide +kernel) T.l12 jj rfl rfl (BS (by decide +kernel) rfl rfl rfl rfl rfl) rfl (.cons rfl rfl (Or.inl rfl) rfl (pC (by decide +kernel) rfl) (.nil rfl)) rfl hr.in1 (λ_ _ _ _=>rfl) λ_ _ _ _ hr=>have hu:=Dx hr;(a8 (f4 T) hr)) hr)) am)) aA))))
theorem Uh:Fn P w K mg base 9 "is_sound" gb:=T.d13.fq T.hX qX ["book","known","number","sealer","day"] 3 λnd hr hu=>
  (ao (cj (ko (iH (fz (bV (a8 (f8 T) hr))) (iW (aH m4 (aZ (f0 T) hr (ah (aO (ag 0) (ag 2)) am)) (yh T.k2))))) fQ)
   (ao (aB nd (aZ (f1 T) hr (ah (aO (ag 0) (ag 2)) (ah aA am))))
   (ao (aB nd (aZ (f2 T) hr (ah (aO (ag 0) (ag 2)) am)))
   (bc (gF (a8 (f11 T) hr) (fB (a8 (XG T) hr)))))))
theorem VS:Fn P w K mg base 1 "lies_in" jw:=T.d14.fq T.hX u6 ["day","stretch"] 2 λnd hr hu=>
  (bc (gF (c6 qe (bD 1) (ag 0)) (fB (Fi (c6 Fp (bD 1) dB) (fB (c6 BA (ag 0) (bD 1)))))))
theorem Ui:Fn P w K mg base 2 "is_alive" cP:=T.d15.fq T.hX qY ["claim","day"] 2 λnd hr hu=>
  (bc (aZ (VS T) hr (aF 1 (ah (aX (ah (bD 0) (ah (bD 0) am))) am))))
theorem Uj:Fn P w K mg base 1 "by_since" du:=T.d16.fq T.hX qZ ["claim"] 1 λnd hr hu=>
  (bc (aX (ah (bD 0) (ah (bD 0) am))))
theorem XH:Fn P w K mg base 5 "chief_of" lR:=T.d17.fq T.hX ra ["alive","rule"] 2 λnd hr hu=>
  (ao (cj (aH (cG hu) (ag 1) aA) (aO (yI VL T.n9 (ag 0) (BV (Uj T) (hr.in1.mono (by decide)) rfl) hr) av))
   (bc (aO (yI TW T.n10 (ag 0) (BV (Uj T) (hr.in1.mono (by decide)) rfl) hr) av)))
theorem VT:Fn P w K mg base 6 "holder_by" dP:=T.d18.fq T.hX oN ["claimed","root","day","alive","people","person","oldest"] 3 λnd hr hu=>
  (ao (mB ["claim","day","root"] nd (cB (ag 0)) (eQ (ko (lJ (aH (cG hu) (bD 0) (a8 (f1 T) hr)) (j9 (bV (a8 (Ui T) hr)))))) (ag 0))
   (ao (aB nd (qu rfl T.n14 T.n13 (iL ["claim"] (cB (ag 3)) kn (bD 0))))
   (ao (cj (aH (cG hu) (b7 iI T.n7 iJ (aF 4 am)) av) (aX (ah aA am)))
   (ao (cj (ko (lJ (aH Fj (b7 iI T.n7 iJ (aF 4 am)) av) (j9 (aH (cG hu) (a8 (f1 T) hr) aA)))) (aX (ah aA (aF 4 am))))
   (ao (aB nd (aZ (XH T) hr (aF 3 (ah (a8 (f1 T) hr) am))))
   (ao (aB nd (yI TW T.n10 (iL ["claim","person"] (cB (ag 3)) (eQ (aH (cG hu) (bD 0) (ag 1))) (ag 0)) (BV (Uj T) (hr.in1.mono (by decide)) rfl) hr))
   (bc (aX (ah aA (aF 5 (ah (bD 6) am)))))))))))
theorem Uk:Fn P w K mg base 7 "is_held_by" cL:=T.d19.fq T.hX mH ["claimed","root","person","day"] 4 λnd hr hu=>
  (bc (c6 (cG hu) (F0 (a8 (VT T) hr) Jd (Je av)) (aX (ah aA (aF 2 am)))))
theorem XI:Fn P w K mg base 8 "is_first_death" gd:=T.d20.fqL T.hX jx ["book","known","number","row","deaths"] 3 λnd hr hu jj=>
  (ao (aB nd (aO (ag 0) (ag 2)))
   (ao (aB nd (aZ (f10 T) hr (aF 0 (aF 1 (ah (aX (ah aA am)) (ah (a8 (f1 T) hr) (ah (a8 (f2 T) hr) am)))))))
   (bc (c6 (cG hu) (yI TW T.n10 (ag 4) (wL (cap:=[0]) (N':=["each","book"]) (by decide +kernel) T.l20 jj rfl rfl (BS (by decide +kernel) rfl rfl rfl rfl rfl) rfl (.cons rfl rfl (Or.inl rfl) rfl (pC (by decide +kernel) rfl) (.nil rfl)) rfl hr.in1 (λ_ _ _ _=>rfl) λ_ _ _ _ hr=>have hu:=Dx hr;(a8 (f4 T) hr)) hr) (ag 2)))))
theorem XJ:Fn P w K mg base 10 "counts" mI:=T.d21.fq T.hX yV ["book","known","so_far","number","row","root"] 4 λnd hr hu=>
  (ao (aB nd (aO (ag 0) (ag 3)))
   (ao (cj (aH (cG hu) (a8 (f0 T) hr) aA) (a8 (XI T) hr))
   (ao (cj (aH m4 (a8 (f0 T) hr) (aX (ah aA (ah aA (ah aA am))))) fQ)
   (ao (aB nd (Ga (J9 hu) (a8 (f7 T) hr) (a8 (f1 T) hr) ⟨rfl,rfl,rfl,rfl⟩))
   (ao (cj (aH Fp (ag 5) dB) fQ)
   (ao (cj (aH (cG hu) (a8 (f0 T) hr) aA) fQ)
   (bc (gF (a8 (Uh T) hr) (fB (aZ (Uk T) hr (aF 2 (aF 5 (ah (a8 (f1 T) hr) (ah (a8 (f2 T) hr) am))))))))))))))
theorem VU:Fn P w K mg base 3 "new_claim" g8:=T.d22.fq T.hX oP ["row","since","number"] 3 λnd hr hu=>
  (bc (aX (ah (a8 (f1 T) hr) (ah (a8 (f1 T) hr) (aF 1 (ah dB (aF 2 am)))))))
theorem VV:Fn P w K mg base 3 "ended" pN:=T.d23.fq T.hX Cp ["so_far","offices","person","day","left","claim"] 4 λnd hr hu=>
  (ao (aB nd (bG am))
   (ao (yN (cB (ag 0)) (Gp 5 nd) fw (bq (fg (ko (iH (aH m4 (bD 5) (ag 1)) (iH (aH (yg hu) (bD 5) (ag 2)) (iW (fz (ko (iH (bV (a8 (Ui T) hr)) (iW (aH Fj (bD 5) (ag 3)))))))))) (bq (gG (i:=4) (ag 5))) (bq (fg (aH BA (bD 5) (ag 3)) (bq (gG (i:=4) (aX (ah (bD 5) (aF 2 (ah (bD 5) (aF 3 (ah (bD 5) am)))))))) fD)))))
   (bq (mz 4))))
theorem XM:Fn P w K mg base 4 "after_choice" io:=T.d24.fq T.hX kH ["so_far","row","number","since","left"] 3 λnd hr hu=>
  (ao (aB nd (a8 (f1 T) hr))
   (ao (aB nd (aZ (VV T) hr (aF 0 (ah (bG (ah (a8 (f1 T) hr) am)) (ah (a8 (f1 T) hr) (aF 3 am))))))
   (bc (ax br (ag 4) (bG (ah (a8 (VU T) hr) am))))))
theorem XN:Fn P w K mg base 7 "inherited" kI:=T.d25.fq T.hX oQ ["book","known","so_far","heirs","number","person","day","told","office","heir"] 5 λnd hr hu=>
  (ao (aB nd (aZ (f1 T) hr (ah (aO (ag 0) (ag 4)) (ah aA am))))
   (ao (aB nd (aZ (f2 T) hr (ah (aO (ag 0) (ag 4)) am)))
   (ao (aB nd (bG am))
   (ao (QF [5,6] (yN (cB (qu rfl T.n14 T.n13 (iL ["claim","person","day"] (cB (ag 2)) (eQ (ko (lJ (aH (cG hu) (bD 0) (ag 1)) (j9 (bV (a8 (Ui T) hr)))))) (bD 0)))) (Gp 8 nd) fw (ao (aB nd (Gj (J9 hu) (ag 3) (aF 8 (aF 5 am)) ⟨rfl,rfl,rfl,rfl⟩))
   (bq (fg (ko (lJ (aH pD (ag 9) dB) (j9 (bV (a8 (f11 T) hr))))) (bq (gG (i:=7) (aX (aF 8 (aF 9 (aF 6 (ah dB (aF 4 am)))))))) fD)))))
   (bq (mz 7))))))
theorem XO:Fn P w K mg base 8 "after_death" jd:=T.d26.fq T.hX lD ["book","known","so_far","heirs","number","offices","left"] 5 λnd hr hu=>
  (ao (mB ["claim"] nd (cB (ag 2)) kn (bD 0))
   (ao (aB nd (aZ (VV T) hr (aF 2 (aF 5 (ah (aZ (f1 T) hr (ah (aO (ag 0) (ag 4)) (ah aA am))) (ah (aZ (f2 T) hr (ah (aO (ag 0) (ag 4)) am)) am))))))
   (bc (ax br (ag 6) (a8 (XN T) hr)))))
theorem VW:Fn P w K mg base 11 "claims" mJ:=T.d27.fq T.hX yW ["book","known","so_far","heirs","number","row"] 2 λnd hr hu=>
  (ao (aB nd (bG am))
   (ao (J7 (i:=3) nd)
   (ao (yN (cB (a8 (f5 T) hr)) (Gp 4 nd) fw (ao (aB nd (aO (ag 0) (ag 4)))
   (ao (fg (fz (bV (a8 (XJ T) hr))) (bq Jm) fD)
   (bq (fg (aH (cG hu) (a8 (f0 T) hr) aA) (bq (aB nd (ax br (ag 2) (bG (ah (aZ (VU T) hr (aF 5 (ah (a8 (f2 T) hr) (aF 4 am)))) am))))) (bq (fg (aH (cG hu) (a8 (f0 T) hr) aA) (bq (aB nd (a8 (XM T) hr))) (bq (fg (aH (cG hu) (a8 (f0 T) hr) aA) (bq (JB (i:=3) (J9 hu) (a8 (f1 T) hr) (ah (a8 (f1 T) hr) (ah (a8 (f1 T) hr) am)))) (bq (aB nd (a8 (XO T) hr))))))))))))
   (bc (FU FQ T.n14 (ag 2) (BV (f6 T) (hr.in1.in1.mono (by decide)) rfl))))))
theorem VX:Fn P w K mg base 2 "is_paper" eY:=T.d28.fq T.hX re ["book","known","number"] 3 λnd hr hu=>
  (bc (gF (a8 (f8 T) hr) (fB (c6 yj (aZ (f0 T) hr (ah (aO (ag 0) (ag 2)) am)) (yh T.k0)))))
theorem VY:Fn P w K mg base 2 "is_leave" ge:=T.d29.fq T.hX rf ["book","known","number"] 3 λnd hr hu=>
  (bc (gF (a8 (f8 T) hr) (fB (c6 (cG hu) (aZ (f0 T) hr (ah (aO (ag 0) (ag 2)) am)) aA))))
theorem Ul:Fn P w K mg base 3 "is_borne" dQ:=T.d30.fq T.hX rg ["book","known","number"] 3 λnd hr hu=>
  (bc (Fi (a8 (VY T) hr) (fB (a8 (VX T) hr))))
theorem VZ:Fn P w K mg base 1 "covers" iq:=T.d31.fq T.hX rh ["matters","some"] 2 λnd hr hu=>
  (bc (c6 (cG hu) (ax Qy (ag 0) (ag 1)) (ag 1)))
theorem Wa:Fn P w K mg base 3 "reach_bar" iM:=T.d32.fq T.hX oR ["row","above"] 2 λnd hr hu=>
  (ao (cj (fz (bV (aZ (VZ T) hr (ah (a8 (f1 T) hr) (ah (a8 (f1 T) hr) am))))) aA)
   (ao (cj (ko (lJ (aH (cG hu) (a8 (f0 T) hr) aA) (j9 (aH TD (a8 (f1 T) hr) (a8 (f1 T) hr))))) aA)
   (bc dB)))
theorem XQ:Fn P w K mg base 8 "office_bar" gV:=T.d33.fq T.hX mK ["claimed","row","root"] 3 λnd hr hu=>
  (ao (cj (fz (bV (aZ (Uk T) hr (aF 0 (aF 2 (ah (a8 (f1 T) hr) (ah (a8 (f2 T) hr) am))))))) aA)
   (bc (a8 (Wa T) hr)))
theorem XR:Fn P w K mg base 9 "office_bases" ir:=T.d34.fq T.hX kJ ["book","known","claimed","number","row","bearing"] 4 λnd hr hu=>
  (ao (aB nd (aO (ag 0) (ag 3)))
   (ao (mB ["root","claimed","row"] nd (Cc (a8 (f7 T) hr)) (eQ (aH Fp (a8 (XQ T) hr) dB)) (ag 0))
   (bc (iL ["root","claimed","row"] (cB (ag 5)) kn (aX (ah aA (ah (a8 (f1 T) hr) (ah (aO (aZ (VT T) hr (aF 1 (aF 0 (ah (a8 (f2 T) hr) am)))) av) am))))))))
theorem XS:Fn P w K mg base 1 "ends_within" je:=T.d35.fq T.hX lE ["stop","bound"] 2 λnd hr hu=>
  (ao (cj (aH Fp (ag 1) dB) fQ)
   (bc (gF (c6 pD (ag 0) dB) (fB (c6 qe (ag 0) (ag 1))))))
theorem XT:Fn P w K mg base 2 "is_within" iN:=T.d36.fq T.hX oS ["one","other"] 2 λnd hr hu=>
  (bc (gF (c6 qe (bD 1) (bD 0)) (fB (aZ (XS T) hr (ah (bD 0) (ah (bD 1) am))))))
theorem Wb:Fn P w K mg base 5 "is_ahead" gf:=T.d37.fq T.hX rj ["book","one","other"] 3 λnd hr hu=>
  (bc (c6 (QM hu) (a8 (f4 T) hr) (a8 (f4 T) hr)))
theorem XU:Fn P w K mg base 6 "leave_bar" iO:=T.d38.fq T.hX oU ["book","number","leave","row","stretch"] 3 λnd hr hu=>
  (ao (aB nd (aO (ag 0) (ag 1)))
   (ao (aB nd (aZ (f1 T) hr (ah (aO (ag 0) (ag 2)) (ah aA am))))
   (ao (cj (fz (bV (a8 (Wb T) hr))) aA)
   (ao (cj (ko (iH (fz (bV (aZ (VS T) hr (ah (a8 (f2 T) hr) (aF 4 am))))) (iW (fz (bV (aZ (XT T) hr (ah (a8 (f1 T) hr) (aF 4 am)))))))) aA)
   (bc (aZ (Wa T) hr (aF 3 (ah (aO (ag 0) (ag 2)) am))))))))
theorem XV:Fn P w K mg base 3 "leaves_to" kK:=T.d39.fq T.hX oV ["book","known","person","leaves"] 3 λnd hr hu=>
  (ao (mB ["number","book","known"] nd (cB (a8 (f3 T) hr)) (eQ (bV (a8 (VY T) hr))) (ag 0))
   (bc (iL ["number","person","book"] (cB (ag 3)) (eQ (aH (cG hu) (aZ (f1 T) hr (ah (aO (ag 2) (ag 0)) (ah aA am))) (ag 1))) (ag 0))))
theorem XW:Fn P w K mg base 7 "leave_bases" jf:=T.d40.fq T.hX lF ["book","known","number","leaves"] 3 λnd hr hu=>
  (ao (aB nd (aZ (XV T) hr (aF 0 (aF 1 (ah (aZ (f1 T) hr (ah (aO (ag 0) (ag 2)) (ah aA am))) am)))))
   (bc (iL ["leave","book","number"] (cB (ag 3)) (eQ (aH Fp (a8 (XU T) hr) dB)) (aX (ah aA (aF 0 am))))))
theorem XX:Fn P w K mg base 6 "copy_bases" jI:=T.d41.fq T.hX mL ["book","known","number","of"] 3 λnd hr hu=>
  (ao (aB nd (aZ (f1 T) hr (ah (aO (ag 0) (ag 2)) (ah aA am))))
   (ao (cj (ko (lJ (bV (a8 (VX T) hr)) (j9 (bV (a8 (Wb T) hr))))) (bG (ah (aX (ah aA (aF 3 am))) am)))
   (bc (bG am))))
theorem Wc:Fn P w K mg base 10 "bases_by" dR:=T.d42.fqL T.hX rm ["book","known","claimed","number","found"] 4 λnd hr hu jj=>
  (ao (cj (fz (bV (a8 (Ul T) hr))) (bG am))
   (ao (cj (aH (cG hu) (aZ (f0 T) hr (ah (aO (ag 0) (ag 3)) am)) aA) (a8 (XX T) hr))
   (ao (aB nd (ax br (a8 (XR T) hr) (a8 (XW T) hr)))
   (bc (FU (Go hu) T.n14 (ag 4) (wL (cap:=[]) (N':=["base"]) (by decide +kernel) T.l42 jj rfl rfl (BS (by decide +kernel) rfl rfl rfl rfl rfl) rfl (.nil rfl) rfl hr.in1.in1 (λ_ _ _ _=>rfl) λ_ _ _ _ hr=>have hu:=Dx hr;(aX (ah (aO (ag 0) (tQ tR av)) (aF 0 am)))))))))
theorem XY:Fn P w K mg base 8 "may_call" lS:=T.d43.fq T.hX rq ["book","known","claimed","call","number","row","caller","over"] 5 λnd hr hu=>
  (ao (aB nd (aO (ag 0) (ag 4)))
   (ao (aB nd (aZ (f1 T) hr (ah (aO (ag 0) (ag 3)) (ah aA am))))
   (ao (cj (aH (cG hu) (ag 6) (a8 (f1 T) hr)) fQ)
   (ao (cj (aH (cG hu) (a8 (f0 T) hr) aA) fQ)
   (ao (mB ["root","row"] nd (Cc (a8 (f7 T) hr)) (eQ (bV (aZ (VZ T) hr (ah (a8 (f1 T) hr) (ah (a8 (f1 T) hr) am))))) (ag 0))
   (bc (b7 L8 T.n1 L9 (ah (iL ["root","claimed","caller","book","call"] (cB (ag 7)) kn (aZ (Uk T) hr (aF 1 (aF 0 (aF 2 (ah (aZ (f2 T) hr (ah (aO (ag 3) (ag 4)) am)) am)))))) am))))))))
theorem XZ:Fn P w K mg base 10 "calls_in" jJ:=T.d44.fq T.hX rz ["book","known","claimed","call","number","day","row"] 6 λnd hr hu=>
  (ao (aB nd (aO (ag 0) (ag 3)))
   (ao (cj (ko (iH (aH (yg hu) (a8 (f0 T) hr) aA) (iH (aH (yg hu) (a8 (f1 T) hr) (ag 4)) (iW (aH Fj (a8 (f2 T) hr) (ag 5)))))) fQ)
   (bc (gF (a8 (Uh T) hr) (fB (a8 (XY T) hr))))))
theorem Ya:Fn P w K mg base 11 "calls_by" lU:=T.d45.fq T.hX r0 ["book","known","claimed","number","day"] 5 λnd hr hu=>
  (ao (cj (fz (bV (a8 (Ul T) hr))) (bG am))
   (bc (iL ["call","book","known","claimed","number","day"] (cB (a8 (f3 T) hr)) (eQ (bV (a8 (XZ T) hr))) (ag 0))))
theorem Yb:Fn P w K mg base 12 "is_fit" mM:=T.d46.fq T.hX yX ["book","known","claimed","number","day"] 5 λnd hr hu=>
  (ao (cj (ko (iH (fz (bV (a8 (Uh T) hr))) (iW (aH Fj (aZ (f2 T) hr (ah (aO (ag 0) (ag 3)) am)) (ag 4))))) fQ)
   (bc (c6 (cG hu) (b7 iI T.n7 iJ (ah (a8 (Ya T) hr) am)) av)))
theorem Wd:Fn P w K mg base 13 "links" mN:=T.d47.fq T.hX Cq ["book","known","day","claimed","found","number"] 3 λnd hr hu=>
  (ao (Ja (i:=3) nd (a8 (VW T) hr))
   (ao (Ca (i:=4) nd)
   (ao (yN (cB (a8 (f5 T) hr)) (Gp 5 nd) fw (bq (fg (ko (lJ (bV (a8 (Ul T) hr)) (j9 (bV (a8 (Yb T) hr))))) (bq (Gu (i:=4) (J9 hu) (a8 (Wc T) hr) (ag 5))) fD)))
   (bq (mz 4)))))
theorem We:Fn P w K mg base 1 "bears" jK:=T.d48.fq T.hX Cr ["base","among"] 2 λnd hr hu=>
  (bc (Fi (c6 (cG hu) (bD 0) aA) (fB (Ob (J9 hu) (bD 0) (ag 1)))))
theorem Wf:Fn P w K mg base 2 "stood" lg:=T.d49.fq T.hX Cs ["found","stands","number","resting"] 1 λnd hr hu=>
  (ao (Ca (i:=1) nd)
   (ao (yN (Gs (ag 0)) (zZ rfl (jm (Gp 2 nd) (jm (Gp 3 nd) vt))) QD (bq (fg (bV (b7 L8 T.n1 L9 (ah (iL ["base","stands"] (cB (ag 3)) kn (a8 (We T) hr)) am))) (bq (J8 (i:=1) (J9 hu) fQ (ag 2))) fD)))
   (bq (mz 1))))
theorem Yc:Fn P w K mg base 14 "standing" lV:=T.d50.fq T.hX r6 ["book","known","day"] 3 λnd hr hu=>
  (bc (b7 (DR rfl) T.n14 y6 (ah (aZ (Wf T) hr (ah (a8 (Wd T) hr) am)) am)))
theorem Wg:Fn P w K mg base 2 "first_bearer" da:=T.d51.fq T.hX kL ["resting","stands"] 2 λnd hr hu=>
  (bc (aO (iL ["base","stands"] (cB (ag 0)) (eQ (bV (a8 (We T) hr))) (ag 0)) av))
theorem Wh:Fn P w K mg base 14 "chain" mO:=T.d52.fq T.hX Ct ["book","known","day","number","found","stands","told","bearer"] 4 λnd hr hu=>
  (ao (aB nd (a8 (Wd T) hr))
   (ao (aB nd (a8 (Wf T) hr))
   (ao (cj (DD (J9 hu) (ag 3) (ag 5)) dB)
   (ao (aB nd (bG (aF 3 am)))
   (ao (aB nd (aZ (Wg T) hr (ah (Gb (J9 hu) (ag 4) (ag 3) (by intro _ _;rfl)) (aF 5 am))))
   (ao (Fl 1000 PassesOwn.never (aH (yg hu) (bD 7) aA) (ao (gG (i:=6) (bD 7))
   (bq (aB nd (aZ (Wg T) hr (ah (Gb (J9 hu) (ag 4) (bD 7) (by intro _ _;rfl)) (aF 5 am)))))))
   (ao (gG (i:=6) (bD 7))
   (bc (AR rfl T.n8 T.n12 (ag 6))))))))))
theorem Hm:Fn P w K mg base 1 "_law_cell" dc:=T.d53.fq T.hX za ["_law_script","_law_k","_law_cell_here"] 2 λnd hr hu=>
  (ao (aB nd av)
   (ao (fg (aH Fj (b7 iI T.n7 iJ (aF 0 am)) av) (bq (aB nd (aO (ag 0) (ax bH (ag 1) (b7 iI T.n7 iJ (aF 0 am)))))) fD)
   (ao (aB nd (ax bH (ax cZ (ax br (ax br (ax bH (ag 2) av) (ax cZ av (ag 1))) av) av) av))
   (bc (ax bH (ax cZ (ag 2) (ax br (ax br (ax bH (ag 2) av) (ag 1)) av)) av)))))
theorem Yd:Fn P w K mg base 1 "_law_names" oe:=T.d54.fq T.hX uA ["_law_cell_here","_law_letters","_law_base","_law_at","_law_names_here","_law_k","_law_name"] 1 λnd hr hu=>
  (ao (aB nd aA)
   (ao (mB ["_law_k","_law_letters","_law_cell_here"] nd (Fu T.n11 (ax br av (ax bH (ag 0) av))) kn (aO (ag 1) (ax bH (ax bL (ag 2) (ax br av (ax cZ av (ag 0)))) av)))
   (ao (aB nd (ax bH (ax bL (ag 0) av) (b7 iI T.n7 iJ (aF 2 am))))
   (ao (aB nd (bG am))
   (ao (yO (ky T.n11 av) (Gp 5 nd) fw (ao (aB nd (fX A4 T.n8 qh (aF 2 am)))
   (ao (F5 (i:=6) (aO (ag 1) (ax bH (ax br (ax bL (ag 0) av) (ax cZ av (ag 5))) av)) (ag 3))
   (bq (gG (i:=4) (NF PySem.F.slot_str_join PySem.F.type_str_join NH F3 aA (ag 6)))))))
   (ao (fg (aH (cG hu) (ax bH (ax bL (ag 0) av) av) av) (bq (F5 (i:=4) (bD 4) av)) fD)
   (bq (mz 4))))))))
theorem Wi:Fn P w K mg base 1 "_law_stretch" g9:=T.d55.fq T.hX oW ["_law_cell_here","_law_day","_law_measure","_law_some"] 3 λnd hr hu=>
  (ao (aB nd (bG (ah (aX (bU (ah dB am))) (ah (aX (aF 1 (ah dB am))) (ah (aX (aF 1 (ah (ax br (ag 1) (ax cZ av (ag 2))) am))) (ah (aX (bU (ah (ax br (ag 1) (ax cZ av (ag 2))) am))) (ah (aX (bU (ah (ax cZ av (ag 2)) am))) am)))))))
   (ao (aB nd (ax br (ag 3) (bG (ah (aX (ah (ax br (ag 1) (ag 2)) (ah (ax br (ag 1) (ax cZ av (ag 2))) am))) (ah (aX (ah (ax bL (ag 1) av) (ah (ax br (ag 1) (ax cZ av (ag 2))) am))) (ah (aX (bU (ah dB am))) am))))))
   (bc (aO (ag 3) (ax bH (ag 0) av)))))
theorem Ye:Fn P w K mg base 2 "_law_deed" rA:=T.d56.fq T.hX zc ["_law_many","_law_cell_here","_law_other","_law_names_here","_law_day","_law_had","_law_measure","_law_kinds","_law_word","_law_by","_law_person","_law_of","_law_matters","_law_further","_law_start"] 7 λnd hr hu=>
  (ao (aB nd (ax br (ax br (Gh (bG (ah aA am)) av) (Gh (bG (ah aA am)) av)) (bG (ah aA (ah aA (ah aA (ah aA (ah aA am))))))))
   (ao (aB nd (ax br (ag 7) (bG (ah aA (ah aA (ah aA (ah aA (ah aA (ah aA am)))))))))
   (ao (aB nd (aO (ag 7) (ax bH (ag 1) av)))
   (ao (aB nd (aO (ag 5) (ax xQ (tQ tR av) (ax bH (ax bL (ag 1) av) (b7 Q6 T.n10 Q3 (bU (ah (b7 iI T.n7 iJ (aF 5 am)) am)))))))
   (ao (fg (aH (cG hu) (ax bH (ax bL (ag 1) av) av) av) (bq (aB nd (aO (ag 3) (ax bH (ax bL (ag 1) av) av)))) fD)
   (ao (aB nd (aO (ag 3) (ax bH (ax bL (ag 1) av) av)))
   (ao (aB nd (b7 Q5 T.n9 Q2 (bU (ah (ax xQ (ax xQ (ag 0) av) (ax bH (ag 2) av)) am))))
   (ao (fg (aH (cG hu) (ax bH (ax bL (ag 2) av) av) av) (bq (aB nd (ax bH (ax bL (ag 2) av) av))) fD)
   (ao (fg (aH (cG hu) (ag 8) aA) (ao (aB nd (by refine aO (hs:=?_) ?_ ?_;refine bG ?_;refine bU ?_;refine bU ?_;refine bU ?_;refine bU ?_;refine bU ?_;refine bU ?_;refine bU ?_;refine bU ?_;exact am;exact(ax bH (ax bL (ag 1) av) av);intro _ _;rfl))
   (ao (aB nd (ax bH (ax bL (ag 2) av) (aO (bG (bU (bU (bU (bU am))))) (ax bH (ax bL (ag 2) av) av))))
   (bc (aX (aF 8 (aF 4 (aF 9 (aF 10 (aF 12 (ah (aZ (Wi T) hr (ah (ax bL (ag 2) av) (aF 4 (aF 6 am)))) (aF 13 am))))))))))) fD)
   (ao (fg (ko (iH (aH (cG hu) (ag 8) aA) (iW (aH (cG hu) (ag 8) aA)))) (ao (aB nd (by refine aO (hs:=?_) ?_ ?_;refine bG ?_;refine bU ?_;refine bU ?_;refine bU ?_;refine bU ?_;refine bU ?_;refine bU ?_;refine bU ?_;refine bU ?_;exact am;exact(ax bH (ax bL (ag 1) av) av);intro _ _;rfl))
   (ao (aB nd (aX (aF 8 (aF 4 (aF 9 (aF 12 (ah (aZ (Wi T) hr (ah (ax bL (ag 2) av) (aF 4 (aF 6 am)))) (ah (aO (bG (ah dB (aF 10 am))) (ax bH (ax bL (ag 2) av) av)) am))))))))
   (ao (cj (aH (cG hu) (ag 8) aA) (ax FY (ag 14) (aX (aF 11 (ah (aX (ah (aX (bU (aF 10 am))) am)) am)))))
   (bc (ax FY (ag 14) (aX (ah (aX (aF 10 am)) am))))))) fD)
   (ao (cj (aH yj (ag 8) (aX (ah aA (ah aA am)))) (aX (aF 8 (aF 4 (aF 9 (aF 11 am))))))
   (ao (cj (aH (cG hu) (ag 8) aA) (aX (aF 8 (aF 4 (ah (aO (ag 3) (ax br av (ax bH (ag 2) av))) (aF 10 am))))))
   (ao (cj (aH (cG hu) (ag 8) aA) (aX (aF 8 (aF 4 (aF 9 (ah (aO (ag 3) (ax br av (ax bH (ag 2) av))) (aF 10 (ah (ax br (ag 4) (ax cZ (ax bH (ax bL (ag 2) av) av) (ag 6))) am))))))))
   (ao (cj (aH (cG hu) (ag 8) aA) (aX (aF 8 (aF 4 (aF 9 (ah (aO (ag 3) (ax br av (ax bH (ag 2) av))) (aF 10 am)))))))
   (bc (aX (aF 8 (aF 4 (aF 9 am)))))))))))))))))))
theorem Yf:Fn P w K mg base 3 "_law_rows" rB:=T.d57.fq T.hX zd ["_law_script","_law_names_here","_law_measure","_law_most","_law_head","_law_rows_here","_law_had","_law_k","_law_rule","_law_matters","_law_late","_law_further","_law_cell_here","_law_day","_law_deed_here"] 4 λnd hr hu=>
  (ao (aB nd (aZ (Hm T) hr (aF 0 (bU am))))
   (ao (aB nd (bG am))
   (ao (aB nd (bG am))
   (ao (yO (ky T.n11 (ax br av (ax bH (ag 4) av))) (Gp 7 nd) fw (ao (aB nd (aO (bG (ah aA (ah aA (ah aA am)))) (ax bH (ax bL (ag 4) (ax br av (ax cZ av (ag 7)))) av)))
   (ao (aB nd (aO (bG (bU (bU (bU (bU am))))) (ax bH (ax bL (ag 4) (ax br av (ax cZ av (ag 7)))) av)))
   (ao (aB nd (ax cZ (ax cZ (fX QG T.n5 L7 (ah (c6 (cG hu) (ax bH (ax bL (ag 4) (ax br av (ag 7))) av) av) am)) av) (ag 2)))
   (ao (aB nd (ax bH (ax bL (ag 4) (ax br av (ax cZ av (ag 7)))) (aO (bG (bU (bU (bU am)))) (ax bH (ax bL (ag 4) (ax br av (ag 7))) av))))
   (ao (gG (i:=5) (aX (aF 10 (ah (aX (ah aA (ah (aO (ag 1) (ax br av (ag 7))) (aF 9 (aF 11 (aF 8 am)))))) am))))
   (ao (gG (i:=5) (aX (bU (ah (aX (ah aA (bU (ah (aO (ag 1) (ax br av (ag 7))) (ah (aO (ag 1) (ag 7)) am))))) am))))
   (bq (gG (i:=6) (aO (ag 1) (ag 7)))))))))))
   (ao (yO (ky T.n11 (ax br av (ax bH (aZ (Hm T) hr (aF 0 (bU am))) (ag 3)))) (Gp 7 nd) fw (ao (aB nd (aZ (Hm T) hr (aF 0 (ah (ax br av (ag 7)) am))))
   (ao (aB nd (ax cZ (ax br (ax bL (ag 7) av) (ax bH (ax bL (ag 12) av) av)) (ag 2)))
   (ao (aB nd (aZ (Ye T) hr (ah (b7 iI T.n7 iJ (aF 5 am)) (ah (aZ (Hm T) hr (aF 0 (ah (ax br av (ag 7)) am))) (ah (aZ (Hm T) hr (aF 0 (ah (ax br av (ag 7)) am))) (aF 1 (aF 13 (aF 6 (aF 2 am)))))))))
   (ao (fg (aH yj (bD 14) (aX (ah aA (ah aA am)))) (bq (gG (i:=6) (bD 14))) fD)
   (ao (fg (aH (cG hu) (bD 14) aA) (bq (gG (i:=6) (bD 14))) fD)
   (bq (gG (i:=5) (aX (ah (ax br (ag 13) (ax cZ (by refine aO (hs:=?_) ?_ ?_;refine bG ?_;refine bU ?_;refine bU ?_;refine bU ?_;refine bU ?_;refine bU ?_;refine bU ?_;exact am;exact(ax bH (ax bL (ag 12) av) av);intro _ _;rfl) (ag 2))) (aF 14 am)))))))))))
   (bc (fX BI T.n15 BD (aF 5 am))))))))
theorem Yg:Fn P w K mg base 12 "bases" lh:=T.d58.fq T.hX Cu ["book","known","number"] 3 λnd hr hu=>
  (bc (aZ (Wc T) hr (aF 0 (aF 1 (ah (a8 (VW T) hr) (aF 2 am))))))
theorem Yh:Fn P w K mg base 13 "_law_right" oj:=T.d59.fq T.hX uB ["_law_rows_here","_law_known","_law_stand","_law_number","_law_found","_law_at","_law_some"] 5 λnd hr hu=>
  (ao (cj (ko (iH (fz (bV (b7 jD T.n6 jC (aF 4 (ah (Fo T.n8 qh) am))))) (iH (aH BA (b7 iI T.n7 iJ (aF 4 am)) av) (iW (aH (yg hu) (aO (ag 4) (tQ tR av)) (ag 3)))))) fQ)
   (ao (cj (fz (bV (b7 QA T.n0 Q4 (ah (iL ["_law_one"] (cB (ag 4)) kn (gF (b7 jD T.n6 jC (aF 0 (ah (Fo T.n5 L7) am))) (fB (Nl (b7 jD T.n6 jC (aF 0 (ah (Fo T.n2 N7) am))))))) am)))) fQ)
   (ao (yO (DK T.n11 (ax xQ (b7 iI T.n7 iJ (aF 4 am)) av) av (tQ tR av)) (Gp 5 nd) fw (ao (mB ["_law_base","_law_stand"] nd (cB (aZ (Yg T) hr (aF 0 (aF 1 (ah (aO (ag 4) (ag 5)) am))))) (eQ (ko (iH (aH (cG hu) (bD 0) aA) (iW (aH yj (aO (ag 0) (tQ tR av)) (ag 1)))))) (ag 0))
   (bq (cj (ko (iH (aH (cG hu) (ag 6) (bG am)) (iH (aH (yg hu) (aO (bD 6) (tQ tR av)) (aO (ag 4) (ax xQ (ag 5) av))) (iW (aH (yg hu) (c6 (cG hu) (aO (bD 6) av) aA) (c6 (cG hu) (ag 5) av)))))) fQ))))
   (bc fQ))))
theorem head {fa:Addr}(UD:mg "law" = some (.ref fa)):∃fd:FuncData,(∀(s:Shared)(u:Value),BindsTo s fd ⟨[u],[]⟩ [("_law_script",u)])/\∀base:Heap,K.In base->base.Ns mainGlobals mg->tq P w K mg base zR 15 fa fd ["_law_script"] (Jc K F_law):=by
 have S:FnScope ["_law_script","_law_names_here","_law_measure","_law_rows_here","_law_known","_law_handed","_law_day","_law_stand","_law_number","_law_found","_law_kept"] ["_law_script"] (aQ (fm 70)):=by refine⟨rfl,rfl,rfl,?_,rfl,?_,?_⟩<;>decide +kernel
 have ⟨h,X,G⟩:=T.hX;exact dH.law T.d60 X G UD S (λ_ _ _ _ _ _ u=>rfl) λbase kb nb f eG A outer s H E hr=>have hu:=Dx hr;have nd:=S.nd;(show wn _ _ LI from
  (ao (aB nd (aZ (Yd T) hr (ah (aZ (Hm T) hr (aF 0 (bU am))) am)))
   (ao (aB nd (aO (bG (bU (bU (bU am)))) (ax bH (aZ (Hm T) hr (aF 0 (bU am))) av)))
   (ao (aB nd (aZ (Yf T) hr (aF 0 (aF 1 (aF 2 (bU am))))))
   (ao (aB nd (aO (bG (bU (ah (ax cZ (ax bH (ax bL (aZ (Hm T) hr (aF 0 (bU am))) av) av) (ag 2)) am))) (ax bL (ax bH (aZ (Hm T) hr (aF 0 (bU am))) av) av)))
   (ao (aB nd (fX BI T.n15 BD (ah (fX A4 T.n8 qh (aF 3 am)) am)))
   (ao (aB nd (aO (bG (bU (ah (ax cZ (ax bH (ax bL (aZ (Hm T) hr (aF 0 (bU am))) av) av) (ag 2)) am))) (ax bH (aZ (Hm T) hr (aF 0 (bU am))) av)))
   (ao (aB nd (a8 (Yc T) hr))
   (ao (yO (ky T.n11 (b7 iI T.n7 iJ (aF 3 am))) (Gp 8 nd) fw (ao (aB nd (a8 (Wh T) hr))
   (bq (fg (aH m4 (ag 8) (ag 7)) (bq (cj (aH pD (ag 9) dB) fQ)) (bq (fg (fz (bV (a8 (Yh T) hr))) (bc fQ) (ao (aB nd (fX A4 T.n8 qh (aF 9 am)))
   (ao (F6 (i:=9))
   (bq (cj (aH (yg hu) (a8 (Wh T) hr) (ag 10)) fQ))))))))))
   (bc (c6 (cG hu) (ag 5) (ag 3))))))))))))
end
end Lw
end
namespace PySem.W.Fast
def tw10459604769392247009:=()
def tw7571108971370981800:=()
def tw16787475016581031981:=()
def tw16829339548919391449:=()
def tw15735076446919788215:=()
def tw21599049308123469:=()
def tw14938781004130881070:=()
def tw14309581061351907444:=()
def tw4338513449273396306:=()
def tw13880129164232840600:=()
def tw2312126697813182965:=()
def tw2448186304927956955:=()
def tw13168842155905465716:=()
def tw10126168482760844359:=()
def tw9478601063788814073:=()
def tw4374826836634349087:=()
def tw252795314962408770:=()
def tw6787105500764881930:=()
def tw2428596197264961841:=()
def tw3601058945650604553:=()
def tw5130981880479260493:=()
def tw7400707095511437457:=()
def tw8345071361900259344:=()
def tw436631302137313528:=()
def tw16285119358054729059:=()
def tw3503757636585618498:=()
def tw1424184589843360337:=()
def tw11715090780271797307:=()
def tw9206141533537105691:=()
def tw13099937073989662420:=()
def tw17598673395671022653:=()
def tw2757953582420242204:=()
def tw15488505755322708045:=()
def tw12681378264028629956:=()
def tw4205747193969478306:=()
def tw380412320481314511:=()
def tw11028595068946911002:=()
def tw8985579257552151997:=()
def tw2565453366853346017:=()
def tw18171005887455078421:=()
def tw12921803168709923007:=()
def tw13614973938553955230:=()
def tw7904497629707001341:=()
def tw6629705222841720692:=()
def tw12598723679952139637:=()
def tw15124433313213291930:=()
def tw2699479148705495872:=()
def tw7619217502094970611:=()
def tw606031449955019764:=()
def tw15172219182948779444:=()
def tw15172195800168311051:=()
def tw11454673987770535614:=()
def tw15265163421175602180:=()
def tw4900013594819827479:=()
def tw2941909166974053661:=()
def tw1997623536585275282:=()
def tw14168281637308470383:=()
def tw3297033108656124508:=()
def tw6894251551770595088:=()
def tw14109445514615194236:=()
def tw1772111359699120945:=()
def tw14044512536847701623:=()
def tw14962184529529429611:=()
def tw18210901619580870665:=()
def tw6968534822368212548:=()
def tw5023893820531333405:=()
def tw11324868939413561612:=()
def tw12717729666782919182:=()
def tw11938907897796529520:=()
def tw2309088993744570457:=()
def tw2075821336931544770:=()
def tw10456008660509927840:=()
def tw16825835112050945617:=()
def tw9180793861607534484:=()
def tw5749489835133248957:=()
def tw10186416545201509745:=()
def tw13851146316504138776:=()
def tw7371773401070754102:=()
def tw7192452837082129709:=()
def tw590703067776531698:=()
def tw3031986740040966277:=()
def tw1528584141635508837:=()
def tw1658786807275312556:=()
def tw6240308994538811579:=()
def tw10632214149235079633:=()
def tw399566472210416332:=()
def tw5334792849553576492:=()
def tw11018250701441188448:=()
def tw4161197548591848430:=()
def tw3751918472807409696:=()
def tw5094500061551270748:=()
def tw17083578848723902314:=()
def tw12911225815275310462:=()
def tw10176480146552467421:=()
def tw10929419860172489362:=()
def tw1405332201128002171:=()
def tw17962812521855925832:=()
def tw13373681746063530646:=()
def tw719380356478327798:=()
def tw10374927637442922319:=()
def tw16486802557220539866:=()
def tw11167233264500477322:=()
def tw15979302480386208282:=()
def tw9383767707330255240:=()
def tw9663277561187364917:=()
def tw4165002321297180802:=()
def tw8911488996168790683:=()
def tw18121406232562218506:=()
def tw3262935807421292446:=()
def tw4888698610648265724:=()
def tw16505897058718236625:=()
def tw6622744310589766671:=()
def tw15254400872100376153:=()
def tw12280965260832990183:=()
def tw8054106418958204413:=()
def tw14945809063743507787:=()
def tw6551726607589594074:=()
def tw6670841946850076426:=()
def tw17248912382936807846:=()
def tw12590270510557917696:=()
def tw10780171231457949295:=()
def tw7303577316399608920:=()
def tw13910729543201654823:=()
def tw16831324485999481796:=()
def tw14621770411549173963:=()
def tw2054979891118271554:=()
def tw8623172326761187147:=()
end PySem.W.Fast
open PySem PySem.W PyProof.Rows
set_option maxRecDepth 100000 in
set_option maxHeartbeats 0 in
theorem PySem.Challenge.cw_sealchain_k29_chains_told_holds : PySem.Challenge.rw_sealchain_k29_chains_told.Holds := by
 w_on; o_law; k_head; (case hw => w_witness2)
 k_fill
 refine' DL.walkD (l := PySem.Challenge.rw_sealchain_k29_chains_told) (k := 15) (x := ("_law_script" : PySem.Str)) (f := Lw.F_law) (L := [(("in_order" : PySem.Str), ?t0), (("has_seal" : PySem.Str), ?t1), (("is_first_death" : PySem.Str), ?t2), (("bases_by" : PySem.Str), ?t3)]) rfl rfl ⟨rfl, by decide, by decide⟩ (fun w h Y => PySem.W.km_in_of Y) ?T ?D ?F Lw.law_true
 case T =>
  intro w
  refine' DL.tabs_fit ?h0 ?h1 ?h2 ?h3 ?ap ?nt
  iterate 4 (refine' DL.tab_yes ?a ?l ?c ?m ?v; (case a => k_is); (case l => k_is); (case c => exact rfl); (case m => k_is); (case v => exact rfl))
  (case ap => decide)
  (case nt => kernel_rfl)
 case D => kernel_rfl
 case F =>
  intro w mg fa h KX G hmg
  refine' Lw.head ⟨⟨h, KX, G⟩, ?d0, ?d1, ?d2, ?d3, ?d4, ?d5, ?d6, ?d7, ?d8, ?d9, ?d10, ?d11, ?d12, ?d13, ?d14, ?d15, ?d16, ?d17, ?d18, ?d19, ?d20, ?d21, ?d22, ?d23, ?d24, ?d25, ?d26, ?d27, ?d28, ?d29, ?d30, ?d31, ?d32, ?d33, ?d34, ?d35, ?d36, ?d37, ?d38, ?d39, ?d40, ?d41, ?d42, ?d43, ?d44, ?d45, ?d46, ?d47, ?d48, ?d49, ?d50, ?d51, ?d52, ?d53, ?d54, ?d55, ?d56, ?d57, ?d58, ?d59, ?d60, PySem.W.mg_none_of KX G ?z0, PySem.W.mg_none_of KX G ?z1, PySem.W.mg_none_of KX G ?z2, PySem.W.mg_none_of KX G ?z3, PySem.W.mg_none_of KX G ?z4, PySem.W.mg_none_of KX G ?z5, PySem.W.mg_none_of KX G ?z6, PySem.W.mg_none_of KX G ?z7, PySem.W.mg_none_of KX G ?z8, PySem.W.mg_none_of KX G ?z9, PySem.W.mg_none_of KX G ?z10, PySem.W.mg_none_of KX G ?z11, PySem.W.mg_none_of KX G ?z12, PySem.W.mg_none_of KX G ?z13, PySem.W.mg_none_of KX G ?z14, PySem.W.mg_none_of KX G ?z15, DL.kc_of KX G ?k0, DL.kd_of KX G ?k1, DL.kc_of KX G ?k2, ?q0, ?q1, ?q2, ?q3⟩ hmg
  iterate 61 (refine' DL.def_mk ?a ?l ?c ?k; (case a => k_is); (case l => k_is); (case c => k_is); (case k => k_is))
  (case z0 => k_is)
  (case z1 => k_is)
  (case z2 => k_is)
  (case z3 => k_is)
  (case z4 => k_is)
  (case z5 => k_is)
  (case z6 => k_is)
  (case z7 => k_is)
  (case z8 => k_is)
  (case z9 => k_is)
  (case z10 => k_is)
  (case z11 => k_is)
  (case z12 => k_is)
  (case z13 => k_is)
  (case z14 => k_is)
  (case z15 => k_is)
  (case k0 => refine' DL.const_tup ?e ?l ?v; (case e => k_is); (case l => k_is); (case v => decide +kernel))
  (case k1 => refine' DL.const_dict ?e ?l ?r ?s; (case e => k_is); (case l => k_is); (case r => refine' (DL.CRows.tup rfl ?l0 ?f0 (DL.CRows.tup rfl ?l1 ?f1 (DL.CRows.tup rfl ?l2 ?f2 (DL.CRows.tup rfl ?l3 ?f3 (DL.CRows.tup rfl ?l4 ?f4 (DL.CRows.tup rfl ?l5 ?f5 (DL.CRows.tup rfl ?l6 ?f6 (DL.CRows.tup rfl ?l7 ?f7 (DL.CRows.tup rfl ?l8 ?f8 (DL.CRows.tup rfl ?l9 ?f9 (DL.CRows.tup rfl ?l10 ?f10 (DL.CRows.tup rfl ?l11 ?f11 DL.CRows.nil)))))))))))); (case l0 => k_is); (case f0 => decide +kernel); (case l1 => k_is); (case f1 => decide +kernel); (case l2 => k_is); (case f2 => decide +kernel); (case l3 => k_is); (case f3 => decide +kernel); (case l4 => k_is); (case f4 => decide +kernel); (case l5 => k_is); (case f5 => decide +kernel); (case l6 => k_is); (case f6 => decide +kernel); (case l7 => k_is); (case f7 => decide +kernel); (case l8 => k_is); (case f8 => decide +kernel); (case l9 => k_is); (case f9 => decide +kernel); (case l10 => k_is); (case f10 => decide +kernel); (case l11 => k_is); (case f11 => decide +kernel)); (case s => decide +kernel))
  (case k2 => refine' DL.const_tup ?e ?l ?v; (case e => k_is); (case l => k_is); (case v => decide +kernel))
  iterate 4 (refine' DL.lam_mk ?a ?l ?c ?m ?v1 ?v2 ?v3 ?v4 ?v5 ?v6 ?v7; (case a => k_is); (case l => k_is); (case c => exact rfl); (case m => k_is); (case v1 => exact rfl); (case v2 => exact rfl); (case v3 => exact rfl); (case v4 => exact rfl); (case v5 => exact rfl); (case v6 => exact rfl); (case v7 => decide))

