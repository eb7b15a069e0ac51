import PyProof.Rows.All
import Wide.All
import OpenK.AllK
import Wide.FinOn
import Lean
import PyProof.EqAt
import PyProof.EqKinds
import PyProof.TupleCall
import PyProof.AttrMissHeap
import PySem.Challenge.RW_sealchain_k34_faults_link_by_link
set_option Elab.async false
set_option linter.all false
set_option maxRecDepth 100000
set_option bootstrap.genMatcherCode false
set_option compiler.extract_closed false
set_option maxHeartbeats 40000000
theorem mY {α:Type _}{a:α}(l:List α){k:List α}(h:a∈k):a∈l++k:=List.mem_append_right l h
theorem mZ {α:Type _}(b:α){a:α}{l:List α}(h:a∈l):a∈b::l:=List.mem_cons_of_mem b h
theorem mX {α:Type _}{a:α}{l:List α}:a∈a::l:=List.mem_cons_self
theorem oX {α β:Type _}{o:Option α}{f:α->Option β}{b:β}(h:o.bind f=some b):∃a,o=some a/\f a=some b:=Option.bind_eq_some_iff.mp h
theorem oY {α β:Type _}{f:α->β}{o:Option α}{b:β}(h:o.map f=some b):∃a,o=some a/\f a=b:=Option.map_eq_some_iff.mp h
def wX:=@PySem.wpAny_bind
def wY:=@PySem.wpAny_pure
def vZ:=@PySem.Heap.get?_push_of_some
def vY:=@PySem.Heap.get?_push_size
def vX:=@PySem.Heap.lt_size
def vW:=@PySem.Heap.SameBut.update
theorem vV {α:Type _}{l:List α}{i:Nat}{a:α}(h:l[i]? = some a):∃h:i<l.length,l[i]=a:=List.getElem?_eq_some_iff.mp h
theorem vU {α:Type _}{l:List α}{i:Nat}(h:i<l.length):l[i]? = some l[i]:=List.getElem?_eq_getElem h
theorem vT (n:Nat):n<=n:=Nat.le_refl n
theorem vS {a b:Nat}(h:a<b):a≠b:=Nat.ne_of_lt h
theorem vR {n m k:Nat}:n<=m->m<=k->n<=k:=Nat.le_trans
theorem vQ {n m k:Nat}:n<m->m<=k->n<k:=Nat.lt_of_lt_of_le
theorem vP {α:Type _}{a b:α}{l:List α}(h:b∈a::l):b=a∨b∈l:=List.mem_cons.mp h
theorem vO {α β:Type _}{b:β}{f:α->β}{l:List α}(h:b∈l.map f):∃a,a∈l/\f a=b:=List.mem_map.mp h
theorem vN {α:Type _}{a:α}{p:α->Bool}{l:List α}(h:a∈l.filter p):a∈l/\p a=true:=List.mem_filter.mp h
theorem vM {α:Type _}(p:α->Bool)(l:List α):(l.filter p).length<=l.length:=List.length_filter_le p l
theorem vL {α:Type _}{l:List α}{i:Nat}{a:α}(h:l[i]? = some a):a∈l:=List.mem_of_getElem? h
theorem vK {α:Type _}{a b:α}(h:some a=some b):a=b:=Option.some.inj h
theorem vJ {α β:Type _}(a:α)(f:α->Option β):(some a).bind f=f a:=rfl
theorem vI {α β:Type _}{as:List α}(f:α->β):(as.map f).length=as.length:=List.length_map f
theorem vH {α:Type _}{l:List α}:l.toArray.size=l.length:=rfl
theorem vG {α:Type _}{xs:Array α}:xs.toList.length=xs.size:=rfl
theorem vF {α:Type _}{l:List α}{i:Nat}{a:α}:l.getD i a=l[i]?.getD a:=List.getD_eq_getElem?_getD
theorem vE {α:Type _}{a:α}{as:List α}:(a::as).length=as.length+1:=rfl
theorem vC (a b:Bool):((a && b)=true)=(a=true/\b=true):=Bool.and_eq_true a b
theorem vB {α:Type _}{i j:Nat}{a:α}{l:List α}(h:i≠j):(l.set i a)[j]? = l[j]?:=List.getElem?_set_ne h
theorem vA {α β:Type _}{f:α->β}{l:List α}{i:Nat}:(l.map f)[i]? = Option.map f l[i]?:=List.getElem?_map
theorem uZ {α:Type _}{as bs:List α}:(as++bs).length=as.length+bs.length:=List.length_append
theorem uY {α β:Type _}{f:α->β}{a:α}{l:List α}:(a::l).map f=f a::l.map f:=rfl
theorem uX:false≠true:=Bool.false_ne_true
theorem uW {α β:Type _}{f:α->β}{l l':List α}:(l++l').map f=l.map f++l'.map f:=List.map_append
theorem uV:(false=true)=False:=Bool.false_eq_true
theorem uU {α:Type _}{x:Option α}(h:x.isSome=true):∃a,x=some a:=Option.isSome_iff_exists.mp h
theorem uT {α:Type _}{a b:α}(h:a∈[b]):a=b:=List.mem_singleton.mp h
theorem uS {α β:Type _}{b:β}{f:α->β}{l:List α}(h:∃a,a∈l/\f a=b):b∈l.map f:=List.mem_map.mpr h
theorem uR {α:Type _}{l:List α}{p:α->Bool}(h:l.all p=true):∀x∈l,p x=true:=List.all_eq_true.mp h
theorem uQ {α:Type _}(as:List α):as++[]=as:=List.append_nil as
theorem uP {α β γ:Type _}{g:β->γ}{f:α->β}{l:List α}:(l.map f).map g=l.map (g ∘ f):=List.map_map
theorem uO {α β:Type _}{x:α}{xs:List α}{f:α->List β}:(x::xs).flatMap f=f x++xs.flatMap f:=List.flatMap_cons
theorem uN (n:Nat):0<=n:=Nat.zero_le n
noncomputable section
open PySem.W (Frag kia_one fnOf nsIn mg_of)
namespace L2
open PySem PySem.Spec PyProof.Rows
abbrev cE:=Sum Int Str
noncomputable def tV:cE->Value->Bool
 |.inl k,v=>Value.isInt k v
 |.inr x,v=>Value.isStrOf x v
noncomputable def TU (w:World):cE->Int
 |.inl k=>hashInt k
 |.inr x=>hashStr w x
theorem cP:∀ {k:cE}{v:Value},tV k v=true->(∃i t,k=Sum.inl i/\v=Value.int i t)∨(∃x t,k=Sum.inr x/\v=Value.str x t)
 |.inl i,v,h=>by
  obtain⟨t,e⟩:=Value.isInt_shape (k:=i) (v:=v) h;exact .inl ⟨i,t,rfl,e⟩
 |.inr x,v,h=>by
  obtain⟨t,e⟩:=Value.isStrOf_shape (x:=x) (v:=v) h;exact .inr ⟨x,t,rfl,e⟩
theorem DC (i:Int)(t:Tok):tV (.inl i) (.int i t)=true:=by simp[tV,Value.isInt]
theorem DD (x:Str)(t:Tok):tV (.inr x) (.str x t)=true:=by simp[tV,Value.isStrOf]
theorem MC (a b:Int):decide ((Sum.inl a:cE)=Sum.inl b)=(a == b):=by
 by_cases e:a=b
 ·subst e;simp
 ·have h:¬(Sum.inl a:cE)=Sum.inl b:=λq=>e (Sum.inl.inj q);rw[decide_eq_false h];exact(beq_eq_false_iff_ne.mpr e).symm
theorem MD (a b:Str):decide ((Sum.inr a:cE)=Sum.inr b)=decide (a=b):=by
 by_cases e:a=b
 ·subst e;simp
 ·have h:¬(Sum.inr a:cE)=Sum.inr b:=λq=>e (Sum.inr.inj q);rw[decide_eq_false h,decide_eq_false e]
theorem ME (a:Int)(b:Str):decide ((Sum.inl a:cE)=Sum.inr b)=false:=decide_eq_false (λq=>nomatch q)
theorem MF (a:Str)(b:Int):decide ((Sum.inr a:cE)=Sum.inl b)=false:=decide_eq_false (λq=>nomatch q)
def c9 (prog:Program)(w:World):PySem.KeyKind prog w cE where
 is:=tV
 hash:=TU w
 inj:=λv a b ha hb=>by
  rcases cP ha with⟨i,t,rfl,rfl⟩|⟨x,t,rfl,rfl⟩
  ·rcases cP hb with⟨j,u,rfl,e⟩|⟨y,u,rfl,e⟩
   ·injection e with e1 _;rw[e1]
   ·exact nomatch e
  ·rcases cP hb with⟨j,u,rfl,e⟩|⟨y,u,rfl,e⟩
   ·exact nomatch e
   ·injection e with e1 _;rw[e1]
 byValue:=λk v h=>by
  rcases cP h with⟨i,t,rfl,rfl⟩|⟨x,t,rfl,rfl⟩<;>rfl
 pyHash:=λhv h=>by
  rcases cP hv with⟨i,t,rfl,rfl⟩|⟨x,t,rfl,rfl⟩
  ·exact wpAny_pyHash_int h
  ·exact wpAny_pyHash_str h
 eqBool:=λhu hv h=>by
  rcases cP hu with⟨i,t,rfl,rfl⟩|⟨x,t,rfl,rfl⟩
  ·rcases cP hv with⟨j,u,rfl,rfl⟩|⟨y,u,rfl,rfl⟩
   ·rw[MC]at h;exact wpAny_eqBool_int h
   ·rw[ME]at h;exact SeqAt.EqAt.int_str i t y u _ _ _ _ h
  ·rcases cP hv with⟨j,u,rfl,rfl⟩|⟨y,u,rfl,rfl⟩
   ·rw[MF]at h;exact SeqAt.EqAt.str_int x t j u _ _ _ _ h
   ·rw[MD]at h;exact wpAny_eqBool_str h
 «strs»:=λk x t v h=>by
  rcases cP h with⟨i,u,rfl,e⟩|⟨y,u,rfl,e⟩
  ·exact nomatch e
  ·injection e with e1 _;subst e1;cases v<;>rfl
theorem yg (prog:Program)(w:World)(i:Int)(t:Tok):(c9 prog w).is (.inl i) (.int i t)=true:=DC i t
theorem yh (prog:Program)(w:World)(x:Str)(t:Tok):(c9 prog w).is (.inr x) (.str x t)=true:=DD x t
inductive V where
 |non|bl (b:Bool)|int (i:Int)|str (x:Str)|byt (b:Array UInt8)|flt (b:UInt64)|ref (a:Addr)|ty (n:String)
 deriving DecidableEq
def bf:V->Value->Prop
 |.non,u=>u=Value.none
 |.bl b,u=>u=Value.bool b
 |.int i,u=>∃t,u=Value.int i t
 |.str x,u=>∃t,u=Value.str x t
 |.byt b,u=>∃t,u=Value.bytes b t
 |.flt b,u=>∃t,u=Value.float b t
 |.ref a,u=>u=Value.ref a
 |.ty n,u=>u=Value.type n
abbrev bp:List V->List Value->Prop:=Paired bf
theorem bp.length (r:bp xs us):xs.length=us.length:=Paired.length r
theorem bp.get:∀ {xs:List V}{us:List Value}{i:Nat}{x:V},bp xs us->xs[i]? = some x->∃u,us[i]? = some u/\bf x u
 |_,_,_,_,.nil,e=>by simp at e
 |_,_,0,_,.cons r _,e=>by simp at e;subst e;exact⟨_,rfl,r⟩
 |_,_,i+1,x,.cons _ t,e=>by
  obtain⟨u,h1,h2⟩:=bp.get (i:=i) (x:=x) t (by simpa using e);exact⟨u,by simpa using h1,h2⟩
theorem bp.set (r:bf x u):∀ {xs:List V}{us:List Value}(i:Nat),bp xs us->bp (xs.set i x) (us.set i u)
 |_,_,_,.nil=>.nil
 |_,_,0,.cons _ t=>.cons r t
 |_,_,i+1,.cons q t=>.cons q (bp.set r i t)
theorem bp.append:∀ {xs ys:List V}{us ws:List Value},bp xs us->bp ys ws->bp (xs++ys) (us++ws)
 |_,_,_,_,.nil,s=>s
 |_,_,_,_,.cons r t,s=>.cons r (bp.append t s)
theorem bp.take:∀ {xs:List V}{us:List Value}(n:Nat),bp xs us->bp (xs.take n) (us.take n)
 |_,_,0,_=>.nil
 |_,_,_+1,.nil=>.nil
 |_,_,n+1,.cons r t=>.cons r (bp.take n t)
theorem bp.drop:∀ {xs:List V}{us:List Value}(n:Nat),bp xs us->bp (xs.drop n) (us.drop n)
 |_,_,0,r=>r
 |_,_,_+1,.nil=>.nil
 |_,_,n+1,.cons _ t=>bp.drop n t
theorem bp.none_of:∀ {xs:List V}{us:List Value}{i:Nat},bp xs us->xs[i]? = none->us[i]? = none:=λ{xs us i} r e=>by
 have h1:=r.length;have h2:xs.length<=i:=List.getElem?_eq_none_iff.mp e;exact List.getElem?_eq_none_iff.mpr (by omega)
def lZ:Option V->Option Value->Prop
 |some v,some u=>bf v u
 |none,none=>True
 |_,_=>False
def KV {κ:Type}:List (κ×V)->List (κ×Value)->Prop:=Paired λ(p:κ×V) (q:κ×Value)=>p.1=q.1/\bf p.2 q.2
noncomputable def kV:cE->V
 |.inl i=>.int i
 |.inr x=>.str x
inductive HO where
  |lst (xs:List V)
  |tup (xs:List V)
  |dK (aS:List (cE×V)) (ob:Obj)|dT (aS:List (List cE×V))
  |set (S:Int->Bool) (n:Nat)
  |ins (C dx:Addr) (fs:List (Str×V))
  |own (x:Addr)
  |xd (fs:List (Str×V))
  |met (f x:Addr)
  |rng (lo hi:Int)
  |frz (o:Obj) (u:HO)
  |tbl (q:Str)
  |ext (φ:Heap->Prop)
abbrev Hp:=Addr->Option HO
noncomputable def upd (H:Hp)(a:Addr)(o:HO):Hp:=λb=>if b=a then some o else H b
theorem aJ:upd H a o a=some o:=by unfold upd;rw[if_pos rfl]
theorem aP (h:b≠a):upd H a o b=H b:=by unfold upd;rw[if_neg h]
theorem IE:upd (upd H a o) a u=upd H a u:=by
 funext b;unfold upd;split<;>rfl
theorem Ql {H:Hp}{a b:Addr}{o u:HO}(h:H a=some o)(h':H b=some u)(d:o≠u):a≠b:=by
 intro e;subst e;rw[h]at h';exact d (vK h')
theorem bi {H:Hp}{a b:Addr}{o:HO}(h:H a=some o)(h':H b=none):a≠b:=by
 intro e;subst e;rw[h]at h';cases h'
section
variable (P:Program) (w:World)
def bZ (H:Hp)(h:Heap)(a:Addr):HO->Prop
 |.lst xs=>xs.length<=sizeLine/\∃(its:List Value)(n:Nat),bp xs its/\h.get? a=some { cls:=.type "list",data:=.seq its.toArray n }
 |.tup xs=>xs.length<=sizeLine/\∃its:List Value,bp xs its/\IsTup h a its.toArray
 |.dK aS ob=>h.get? a=some ob/\aS.length<=sizeLine/\(a == sysModules)=false/\∃vs,KV aS vs/\h.DictOf (c9 P w) a vs
 |.dT aS=>aS.length<=sizeLine/\(a == sysModules)=false/\∃xs:List (List cE×Addr×Value),
   Paired (λ(p:List cE×V) (q:List cE×Addr×Value)=>p.1=q.1/\H q.2.1=some (.tup (p.1.map kV))/\bf p.2 q.2.2) aS xs /\
   ∃o es ep,h.get? a=some o/\o.ExactDict/\o.data=.dict es ep/\es.toList=xs.map (entryOfKey (tupleKind (c9 P w)))/\(xs.map (·.1)).Nodup
 |.set S n=>h.SetOf (intKind P w) a S n
 |.ins C dx fs=>H dx=some (.own a)/\fs.length<=1000/\dx≠a/\h.get? a=some (PySem.W.instObj C dx) /\
   ∃mA,h.Ns1 dx mA/\(∀f,lZ (fs.lookup f) (mA f))/\PySem.Within mA (fs.map (·.1))
 |.own _=>∃o,h.get? a=some o
 |.xd fs=>∃mA,h.Ns1 a mA/\∀f,lZ (fs.lookup f) (mA f)
 |.rng lo hi=>∃t u v,h.get? a=some { cls:=.type "range",data:=.fields #[.int lo t,.int hi u,.int 1 v] }
 |.frz o u=>h.get? a=some o/\bZ H h a u
 |.tbl q=>∃ps:Array Value,h.get? a=some { cls:=.none,data:=.fields ps }/\TriplesOk ps.toList/\∀pos cv,codeAmong pos ps.toList=some cv->∃(c:Addr)(oc:Obj)(u:HO)(vs:Array Value)(t:Tok),cv=.ref c/\H c=some (.frz oc u)/\oc.data=.fields vs/\vs[1]? = some (.str q t)
 |.met f x=>h.get? a=some (PySem.W.methodObj (.ref f) (.ref x))
 |.ext φ=>φ h/\(∃o,h.get? a=some o)/\∀h1 h2:Heap,φ h1->(∀o,h1.get? a=some o->h2.get? a=some o)->φ h2
def ma (H:Hp)(h:Heap):Prop:=∀a o,H a=some o->bZ P w H h a o
end
section
variable {P:Program}{w:World}{H H':Hp}{h h':Heap}{a:Addr}{o:HO}
theorem bZ.lt (x:bZ P w H h a o):a<h.objs.size:=by
 cases o with
 |lst xs=>obtain⟨_,_,_,_,e⟩:=x;exact vX e
 |tup xs=>obtain⟨_,_,_,p⟩:=x;exact p.lt
 |dK aS ob=>exact vX (And.left x)
 |dT aS=>obtain⟨_,_,_,_,o,_,_,e,_⟩:=x;exact vX e
 |set S n=>obtain⟨o,_,_,_,e,_⟩:=x;exact vX e
 |ins C dx fs=>obtain⟨_,_,_,e,_⟩:=x;exact vX e
 |own y=>obtain⟨_,e⟩:=x;exact vX e
 |xd fs=>obtain⟨_,⟨_,_,_,e,_⟩,_⟩:=x;exact vX e
 |rng lo hi=>obtain⟨_,_,_,e⟩:=x;exact vX e
 |frz ob u=>obtain⟨e,_⟩:=x;exact vX e
 |tbl q=>obtain⟨_,e,_⟩:=x;exact vX e
 |met f y=>exact vX (show h.get? a=some _ from x)
 |ext φ=>obtain⟨_,⟨_,e⟩,_⟩:=x;exact vX e
theorem Paired.mapP {α β:Type}{F G:α->β->Prop}:∀ {l₁:List α}{l₂:List β},Paired F l₁ l₂->(∀a b,F a b->G a b)->Paired G l₁ l₂
 |_,_,.nil,_=>.nil
 |_,_,.cons r t,f=>.cons (f _ _ r) (Paired.mapP t f)
theorem bZ.stay (x:bZ P w H h a o)(k:∀b u,(b=a∨H b=some (.own a))->h.get? b=some u->h'.get? b=some u)
  (ho:∀b,H b=some (.own a)->H' b=some (.own a)) (ht:∀b xs,H b=some (.tup xs)->H' b=some (.tup xs)) (hf:∀b o u,H b=some (.frz o u)->H' b=some (.frz o u)):bZ P w H' h' a o:=by
 induction o with
 |lst xs=>obtain⟨z,its,n,r,e⟩:=x;exact⟨z,its,n,r,k _ _ (.inl rfl) e⟩
 |tup xs=>obtain⟨z,its,r,ob,e,c⟩:=x;exact⟨z,its,r,ob,k _ _ (.inl rfl) e,c⟩
 |dK aS UL=>obtain⟨g,z,y,vs,r,ob,es,ep,e,c⟩:=x;exact⟨k _ _ (.inl rfl) g,z,y,vs,r,ob,es,ep,k _ _ (.inl rfl) e,c⟩
 |dT aS=>
  obtain⟨z,y,xs,r,ob,es,ep,e,c⟩:=x;exact⟨z,y,xs,Paired.mapP r λp q z=>⟨z.1,ht _ _ z.2.1,z.2.2⟩,ob,es,ep,k _ _ (.inl rfl) e,c⟩
 |set S n=>obtain⟨ob,es,ep,t,e,c⟩:=x;exact⟨ob,es,ep,t,k _ _ (.inl rfl) e,c⟩
 |ins C dx fs=>
  obtain⟨d,z,ne,e,mA,⟨od,es,ep,e2,c⟩,r⟩:=x;exact⟨ho _ d,z,ne,k _ _ (.inl rfl) e,mA,⟨od,es,ep,k _ _ (.inr d) e2,c⟩,r⟩
 |own y=>obtain⟨ob,e⟩:=x;exact⟨ob,k _ _ (.inl rfl) e⟩
 |xd fs=>obtain⟨mA,⟨od,es,ep,e,c⟩,r⟩:=x;exact⟨mA,⟨od,es,ep,k _ _ (.inl rfl) e,c⟩,r⟩
 |rng lo hi=>obtain⟨t,u,v,e⟩:=x;exact⟨t,u,v,k _ _ (.inl rfl) e⟩
 |frz ob u ih=>obtain⟨e,q⟩:=x;exact⟨k _ _ (.inl rfl) e,ih q⟩
 |tbl q=>obtain⟨ps,e,t,c⟩:=x;exact⟨ps,k a _ (.inl rfl) e,t,λpos cv z=>let ⟨d,oc,u,vs,tk,z1,z2,z3⟩:=c pos cv z;⟨d,oc,u,vs,tk,z1,hf _ _ _ z2,z3⟩⟩
 |met f y=>
  have e:h.get? a=some (PySem.W.methodObj (.ref f) (.ref y)):=x;show h'.get? a=some (PySem.W.methodObj (.ref f) (.ref y));exact k a _ (.inl rfl) e
 |ext φ=>obtain⟨p,⟨o,e⟩,st⟩:=x;exact⟨st _ _ p λo q=>k _ _ (.inl rfl) q,⟨o,k _ _ (.inl rfl) e⟩,st⟩
theorem ma.lt (x:ma P w H h)(e:H a=some o):a<h.objs.size:=(x a o e).lt
theorem ma.fresh (x:ma P w H h)(e:h.objs.size<=a):H a=none:=by
 cases q:H a with
 |none=>rfl
 |some u=>exact absurd (vQ (x.lt q) e) (Nat.lt_irrefl _)
theorem ma.kept (x:ma P w H h)(k:∀b u,h.get? b=some u->h'.get? b=some u):ma P w H h':=λa o e=>
 (x a o e).stay (λb u _ q=>k b u q) (λ_ q=>q) (λ_ _ q=>q) λ_ _ _ q=>q
theorem ma.laid (x:ma P w H h)(k:∀b u,h.get? b=some u->h'.get? b=some u)(hp:h.objs.size<=a)(new:bZ P w (upd H a o) h' a o):ma P w (upd H a o) h':=λb u e=>by
 have hn:=x.fresh hp;by_cases hb:b=a
 ·subst hb;rw[aJ]at e;cases e;exact new
 ·rw[aP hb]at e;exact(x b u e).stay (λc v _ q=>k c v q) (λc q=>by rw[aP (bi q hn)];exact q) (λc xs q=>by rw[aP (bi q hn)];exact q) λc o xs q=>by rw[aP (bi q hn)];exact q
end
def Rd (H:Hp)(a:Addr)(u:HO):Prop:=H a=some u∨∃o,H a=some (.frz o u)
theorem Rd.of (h:H a=some u):Rd H a u:=.inl h
theorem Rd.ok (r:Rd H a u)(x:ma P w H h):bZ P w H h a u:=by
 rcases r with r|⟨o,r⟩
 ·exact x a u r
 ·obtain⟨_,q⟩:=x a _ r;exact q
def Qm:Option HO->Prop
 |some (.lst _)=>True
 |some (.dK _ _)=>True
 |some (.dT _)=>True
 |some (.set _ _)=>True
 |some (.ins _ _ _)=>True
 |some (.ext _)=>True
 |_=>False
section
variable {P:Program}{w:World}{H:Hp}{h h':Heap}{x e:Addr}{o':HO}
theorem ma.write (ok:ma P w H h)(mu:Qm (H x))(he:e=x∨H e=some (.own x))(k:∀b u,b≠e->h.get? b=some u->h'.get? b=some u)(P9:∃u,h'.get? e=some u)
  (new:bZ P w (upd H x o') h' x o'):ma P w (upd H x o') h':=λb u q=>by
 have RE:∀c y,H c=some (.own y)->c≠x:=λc y r z=>by subst z;rw[r]at mu;exact mu
 have UM:∀c xs,H c=some (.tup xs)->c≠x:=λc xs r z=>by subst z;rw[r]at mu;exact mu
 by_cases hb:b=x
 ·subst hb;rw[aJ]at q;cases q;exact new
 ·rw[aP hb]at q;by_cases hbe:b=e
  ·have q':H b=some (.own x):=by
    rcases he with z|z
    ·exact absurd (hbe.trans z) hb
    ·rw[hbe];exact z
   rw[q]at q';cases q';obtain⟨v,hv⟩:=P9;exact⟨v,by rw[hbe];exact hv⟩
  ·refine(ok b u q).stay (λc v hc r=>k c v ?_ r) (λc r=>by rw[aP (RE c b r)];exact r) (λc xs r=>by rw[aP (UM c xs r)];exact r) λc o xs r=>by rw[aP (λz=>by subst z;rw[r]at mu;exact mu)];exact r
   rcases hc with rfl|hc
   ·exact hbe
   ·rintro rfl;rcases he with z|z
    ·exact RE c b hc z
    ·rw[hc]at z;cases z;exact hb rfl
end
structure Un (fs ex:List Addr)(H H':Hp)(h h':Heap):Prop where
 keep:∀b o,h.get? b=some o->H b=none->b∉fs->b∉ex->h'.get? b=some o
 slot:∀b o,h.get? b=some o->H b=none->b∈fs->b∉ex->∃sl,h'.get? b=some { o with slots:=sl }
 free:∀b o,h.get? b=some o->H b=none->b∉ex->H' b=none
 there:∀b o,h.get? b=some o->b∉ex->∃o',h'.get? b=some o'
 tups:∀b xs,H b=some (.tup xs)->H' b=some (.tup xs)
 frzs:∀b o u,H b=some (.frz o u)->H' b=some (.frz o u)
 tbls:∀b q,H b=some (.tbl q)->H' b=some (.tbl q)
section
variable {fs Zf ex ex':List Addr}{H H1 H2:Hp}{h h1 h2 h':Heap}{a x e:Addr}{o:HO}
theorem Un.any (u:Un fs ex H H1 h h1)(q:h.get? b=some ob)(n:H b=none)(hx:b∉ex):∃sl,h1.get? b=some { ob with slots:=sl }:=by
 by_cases hb:b∈fs
 ·exact u.slot b ob q n hb hx
 ·exact⟨ob.slots,u.keep b ob q n hb hx⟩
theorem Un.trans (a:Un fs ex H H1 h h1)(b:Un fs ex H1 H2 h1 h2):Un fs ex H H2 h h2 where
 keep:=λc ob q n hc hx=>b.keep c ob (a.keep c ob q n hc hx) (a.free c ob q n hx) hc hx
 slot:=λc ob q n hc hx=>by
  obtain⟨sl,e1⟩:=a.slot c ob q n hc hx;obtain⟨UN,e2⟩:=b.slot c _ e1 (a.free c ob q n hx) hc hx;exact⟨UN,e2⟩
 free:=λc ob q n hx=>by
  obtain⟨o',e1⟩:=a.there c ob q hx;exact b.free c o' e1 (a.free c ob q n hx) hx
 there:=λc ob q hx=>by
  obtain⟨o',e1⟩:=a.there c ob q hx;exact b.there c o' e1 hx
 tups:=λc xs q=>b.tups c xs (a.tups c xs q)
 frzs:=λc ob xs q=>b.frzs c ob xs (a.frzs c ob xs q)
 tbls:=λc ps q=>b.tbls c ps (a.tbls c ps q)
theorem Un.kept (k:∀b u,h.get? b=some u->h'.get? b=some u):Un fs ex H H h h' :=
 ⟨λb ob q _ _ _=>k b ob q,λb ob q _ _ _=>⟨ob.slots,k b ob q⟩,λ_ _ _ n _=>n,λb ob q _=>⟨ob,k b ob q⟩,λ_ _ q=>q,λ_ _ _ q=>q,λ_ _ q=>q⟩
theorem Un.refl:Un fs ex H H h h:=Un.kept λ_ _ q=>q
theorem Un.laid (k:∀b u,h.get? b=some u->h'.get? b=some u)(hp:h.objs.size<=a)(hn:H a=none):Un fs ex H (upd H a o) h h' where
 keep:=λb u q _ _ _=>k b u q
 slot:=λb u q _ _ _=>⟨u.slots,k b u q⟩
 free:=λb u q n _=>by rw[aP (vS (vQ (vX q) hp))];exact n
 there:=λb u q _=>⟨u,k b u q⟩
 tups:=λb xs q=>by rw[aP (bi q hn)];exact q
 frzs:=λb u xs q=>by rw[aP (bi q hn)];exact q
 tbls:=λb ps q=>by rw[aP (bi q hn)];exact q
theorem Un.write (mu:Qm (H x))(he:e=x∨H e=some (.own x))(k:∀b u,b≠e->h.get? b=some u->h'.get? b=some u)(P9:∃u,h'.get? e=some u):Un fs ex H (upd H x o) h h':=by
 have hx:∀b,H b=none->b≠x:=λb n z=>by subst z;rw[n]at mu;exact mu
 have hb:∀b,H b=none->b≠e:=λb n z=>by
  subst z;rcases he with r|r
  ·exact hx b n r
  ·rw[n]at r;cases r
 have hm:∀b u,H b=some u->¬Qm (some u)->b≠x:=λb u q nm z=>by subst z;rw[q]at mu;exact nm mu
 refine⟨λb u q n _ _=>k b u (hb b n) q,λb u q n _ _=>⟨u.slots,k b u (hb b n) q⟩,λb u q n _=>by rw[aP (hx b n)];exact n,λb u q _=>?_,
  λb xs q=>by rw[aP (hm b _ q λz=>z)];exact q,λb u xs q=>by rw[aP (hm b _ q λz=>z)];exact q,λb ps q=>by rw[aP (hm b _ q λz=>z)];exact q⟩
 by_cases hbe:b=e
 ·subst hbe;exact P9
 ·exact⟨u,k b u hbe q⟩
end
noncomputable def SO (h:Heap)(H:Hp):List Addr:=(List.range h.objs.size).filter λa=>(H a).isSome
def yi (h:Heap)(H:Hp):Heap:=PySem.W.hideAll h (SO h H)
theorem DE (h:Heap)(H:Hp):(yi h H).objs.size=h.objs.size:=PySem.W.hideAll_size _ _
theorem qF (e:h.get? b=some o)(n:H b=none):(yi h H).get? b=some o :=
 PySem.W.hideAll_get _ e λhm=>by
  have q:(H b).isSome=true:=(vN hm).2;rw[n]at q;simp at q
theorem IF (e:(yi h H).get? b=some o):h.get? b=some o/\H b=none:=by
 have e':h.get? b=some o:=PySem.W.of_hideAll (SO h H) e;refine⟨e',?_⟩;cases q:H b with
 |none=>rfl
 |some x=>
  have hm:b∈SO h H:=List.mem_filter.mpr ⟨List.mem_range.mpr (vX e'),by simp[q]⟩;have z:(yi h H).get? b=none:=PySem.W.hideAll_none (SO h H) hm;rw[z]at e;cases e
noncomputable def IG (g h:Heap)(L:Addr):List (Addr×Obj):=(List.range h.objs.size).filterMap λa=>if a=L∨(g.get? a).isSome=true then none else (h.get? a).map λo=>(a,o)
def aB (g h:Heap)(L d:Addr):List (Addr×Obj):=(IG g h L).filter λp=>decide (p.1≠d)
structure Mod (K:Frag)(mg:Str->Option Value)(base:Heap):Prop where
 kin:K.In base
 glob:base.Ns mainGlobals mg
 blt:∃mb,base.Ns builtinsNs mb/\∀x:Str,x ≠ "__name__"->mb x=bootBuiltins x
 nolimit:base.NoLimit
 bmain:∃bm ob,mg "__builtins__" = some (.ref bm)/\bm≠builtinsNs/\base.get? bm=some ob/\ob.cls=.type "module"/\ob.dict=some builtinsNs/\ob.data=.plain
structure Cx where
 prog:Program
 w:World
 K:Frag
 mg:Str->Option Value
 base:Heap
 A:Around
 N:List Str
 s₀:Shared
 H₀:Hp
 env:Env
 outer:List Env
 stack:List Env
 ex:List Addr
 fn:Str->Bool
 calm:Bool
 pn:List (Addr×Obj)
 xe:Value->Shared->Prop
noncomputable def Fc (l:List Env):List Addr:=l.filterMap (·.frame)
abbrev Cx.fs (X:Cx):List Addr:=Fc X.outer
def Fj (sc:Scope)(x:Str):Prop:=sc.names.lookup x=some .local∨sc.names.lookup x=some .cell∨sc.names.lookup x=some .free
def Iq (sc:Scope)(x:Str):Prop:=sc.names.lookup x=some .local∨sc.names.lookup x=some .cell
def TV (env:Env)(h:Heap)(m:Str->Option Value)(x:Str)(u:Value):Prop :=
 (env.kindOf x=some .local/\m x=some u)∨((env.kindOf x=some .cell∨env.kindOf x=some .free)/\∃c,env.cells.lookup x=some c/\h.IsCell c (some u))
abbrev wq {α:Type}(X:Cx):Sem α->(α->Shared->Prop)->(Value->Shared->Prop)->Shared->Prop:=wpAny (model X.prog X.w) X.A
structure Cx.Ok (X:Cx):Prop where
 mod:Mod X.K X.mg X.base
 kind:X.env.scope.kind=.function
 glob:X.env.globals=mainGlobals
 blt:X.env.builtins=builtinsNs
 above:X.s₀.heap.objs.size<=X.env.locals
 inj:∀x y c,X.env.cells.lookup x=some c->X.env.cells.lookup y=some c->x=y
 has:∀x,(X.env.kindOf x=some .cell∨X.env.kindOf x=some .free)->∃c,X.env.cells.lookup x=some c
 cab:∀x c,X.fn x=true->X.env.cells.lookup x=some c->X.s₀.heap.objs.size<=c
 hd:X.calm=true->X.A.handled=none
 frames:X.A.frames=some X.stack
 stk:X.stack=X.outer∨(X.stack=X.env::X.outer/\X.env.frame=some X.env.locals)
 exf:∀b∈X.ex,b≠X.env.locals/\∀x c,X.env.cells.lookup x=some c->c≠b
 bs:∀b o,X.base.get? b=some o->X.s₀.heap.get? b=some o/\X.H₀ b=none
 bsz:X.base.objs.size<=X.s₀.heap.objs.size
 noex:∀b o,X.base.get? b=some o->b∉X.ex
 exfs:∀b∈X.ex,b∉X.fs
 funs:X.s₀.heap.FunFrames X.base X.outer
 frf:∀b∈X.fs,X.H₀ b=none
structure Inv (X:Cx)(af:List (Addr×Obj))(U:List (Option V))(H:Hp)(s:Shared):Prop where
 ok:X.Ok
 os:s.os=X.s₀.os
 bare:AllBare s.gens
 base:Un X.fs X.ex X.H₀ H X.s₀.heap s.heap
 loc:∃m,s.heap.Ns X.env.locals m/\∀(i:Nat)(x:Str)(v:V),X.N[i]? = some x->U[i]? = some (some v)->Fj X.env.scope x->∃u,bf v u/\TV X.env s.heap m x u
 cell:∀x c,X.env.cells.lookup x=some c->∃v,s.heap.IsCell c v
 free:H X.env.locals=none
 freeC:∀x c,X.env.cells.lookup x=some c->H c=none
 pin:∀p∈X.pn++af,s.heap.get? p.1=some p.2/\H p.1=none/\p.1≠X.env.locals/\p.1∉X.fs/\∀v,p.2.data≠.cell v
 hok:ma X.prog X.w H s.heap
 len:U.length=X.N.length
section
variable {X:Cx}{af:List (Addr×Obj)}{U:List (Option V)}{H H':Hp}{s:Shared}{h':Heap}
theorem Cx.Ok.nofr (ok:X.Ok)(e:X.base.get? b=some o):b∉X.fs:=λhb=>by
 have:=(ok.funs.mem hb).1;rw[e]at this;cases this
theorem Inv.bs (I:Inv X af U H s):∀b o,X.base.get? b=some o->s.heap.get? b=some o/\H b=none:=λb o e=>
 ⟨I.base.keep b o (I.ok.bs b o e).1 (I.ok.bs b o e).2 (I.ok.nofr e) (I.ok.noex b o e),I.base.free b o (I.ok.bs b o e).1 (I.ok.bs b o e).2 (I.ok.noex b o e)⟩
theorem Inv.bk (I:Inv X af U H s):∀b o,X.base.get? b=some o->s.heap.get? b=some o:=λb o e=>(I.bs b o e).1
theorem Inv.mod (I:Inv X af U H s):Mod X.K X.mg X.base:=I.ok.mod
theorem Inv.kIn (I:Inv X af U H s):X.K.In s.heap:=I.ok.mod.kin.keeps I.bk
theorem Inv.nolimit (I:Inv X af U H s):s.heap.NoLimit:=I.ok.mod.nolimit.keeps I.bk
theorem Inv.lt (I:Inv X af U H s):X.env.locals<s.heap.objs.size:=let ⟨_,hn,_⟩:=I.loc;hn.lt
theorem Inv.sz (I:Inv X af U H s):X.s₀.heap.objs.size<=s.heap.objs.size:=vR I.ok.above (Nat.le_of_lt I.lt)
theorem Inv.nofs (I:Inv X af U H s)(h:s.heap.objs.size<=a):a∉X.fs:=λhb=>by
 obtain⟨_,o,ho,_⟩:=I.ok.funs.mem hb;exact absurd (vQ (vX ho) (vR I.sz h)) (Nat.lt_irrefl _)
theorem Inv.cne (I:Inv X af U H s):∀x c,X.env.cells.lookup x=some c->c≠X.env.locals:=λx c e z=>by
 obtain⟨v,o,ho,hd⟩:=I.cell x c e;obtain⟨m,⟨o',es,ep,tQ,BL,_⟩,_⟩:=I.loc;rw[z,tQ]at ho;cases ho;rw[BL]at hd;cases hd
theorem Inv.funs (I:Inv X af U H s):s.heap.FunFrames X.base X.outer:=by
 have all:∀(l:List Env),(∀b∈Fc l,b∈X.fs)->X.s₀.heap.FunFrames X.base l->s.heap.FunFrames X.base l:=by
  intro l;induction l with
  |nil=>intro _ _;trivial
  |cons env r ih=>
   intro hs hl;obtain⟨hk,⟨L,o,hf,hn,ho,hd⟩,hr⟩:=hl;have hL:L∈X.fs:=hs L (by unfold Fc;rw[List.filterMap_cons,hf];exact mX);obtain⟨sl,e⟩:=I.base.slot L o ho (I.ok.frf L hL) hL λz=>I.ok.exfs L z hL;exact⟨hk,⟨L,_,hf,hn,e,hd⟩,ih (λb hb=>hs b (by unfold Fc;rw[List.filterMap_cons,hf];exact mZ _ hb)) hr⟩
 exact all X.outer (λ_ hb=>hb) I.ok.funs
theorem Inv.stack (I:Inv X af U H s):s.heap.FunFrames X.base X.stack:=by
 rcases I.ok.stk with e|⟨e,hf⟩
 ·rw[e];exact I.funs
 ·rw[e];obtain⟨m,hn,_⟩:=I.loc;refine .cons (by rw[I.ok.kind];decide) hf hn ?_ I.funs;exact Heap.get?_none_of_le (vR I.ok.bsz I.ok.above)
theorem Inv.stkSub (I:Inv X af U H s):∀b∈Fc X.stack,b∈X.env.locals::X.fs:=λb hb=>by
 rcases I.ok.stk with e|⟨e,hf⟩
 ·rw[e]at hb;exact mZ _ hb
 ·rw[e]at hb;unfold Fc at hb;rw[List.filterMap_cons,hf]at hb;exact hb
theorem Inv.stkFree (I:Inv X af U H s):∀b∈Fc X.stack,H b=none:=λb hb=>by
 rcases vP (I.stkSub b hb)with e|hb
 ·rw[e];exact I.free
 ·obtain⟨_,o,ho,_⟩:=I.ok.funs.mem hb;exact I.base.free b o ho (I.ok.frf b hb) λz=>I.ok.exfs b z hb
theorem Inv.step {g':Array GenState}{t':Nat}{d':Drawn}{ch:List Addr}(I:Inv X af U H s)
  (qo:∀b∈ch,(b∈X.ex∨X.s₀.heap.objs.size<=b)/\b≠X.env.locals/\(∀x c,X.env.cells.lookup x=some c->c≠b)/\∀p∈X.pn++af,p.1≠b)
  (keep:∀b o,b≠X.env.locals->b∉X.fs->b∉ch->s.heap.get? b=some o->H b=none->h'.get? b=some o)
  (slot:∀b o,b≠X.env.locals->b∈X.fs->b∉ch->s.heap.get? b=some o->H b=none->∃sl,h'.get? b=some { o with slots:=sl }) (free:∀b o,b∉ch->s.heap.get? b=some o->H b=none->H' b=none)
  (there:∀b o,b∉ch->s.heap.get? b=some o->∃o',h'.get? b=some o')
  (tups:∀b xs,H b=some (.tup xs)->H' b=some (.tup xs)) (frzs:∀b o u,H b=some (.frz o u)->H' b=some (.frz o u)) (tbls:∀b q,H b=some (.tbl q)->H' b=some (.tbl q))
  (ns:∀m,s.heap.Ns X.env.locals m->h'.Ns X.env.locals m) (hok:ma X.prog X.w H' h') (hg:AllBare g'):
  Inv X af U H' { s with heap:=h',gens:=g',drawn:=d',toks:=t' }:=by
 have WS:∀b o,X.s₀.heap.get? b=some o->b≠X.env.locals:=λb o e=>vS (vQ (vX e) I.ok.above);have PB:∀b o,X.s₀.heap.get? b=some o->b∉X.ex->b∉ch:=λb o e hx hb=>by
  rcases (qo b hb).1 with z|z
  ·exact hx z
  ·exact absurd (vQ (vX e) z) (Nat.lt_irrefl _)
 have Ms:∀x c,X.env.cells.lookup x=some c->∀v,s.heap.IsCell c v->h'.IsCell c v:=λx c e v ⟨o,ho,hd⟩=>by
  have RF:c∉ch:=λz=>(qo c z).2.2.1 x c e rfl;by_cases hc:c∈X.fs
  ·obtain⟨sl,q⟩:=slot c o (I.cne x c e) hc RF ho (I.freeC x c e);exact⟨_,q,hd⟩
  ·exact⟨o,keep c o (I.cne x c e) hc RF ho (I.freeC x c e),hd⟩
 refine⟨I.ok,I.os,hg,⟨λb o e n hb hx=>?_,λb o e n hb hx=>?_,λb o e n hx=>?_,λb o e hx=>?_,λb xs e=>tups b xs (I.base.tups b xs e),λb o xs e=>frzs b o xs (I.base.frzs b o xs e),λb ps e=>?_⟩,?_,λx c e=>?_,?_,λx c e=>?_,λp hp=>?_,hok,I.len⟩
 ·exact keep b o (WS b o e) hb (PB b o e hx) (I.base.keep b o e n hb hx) (I.base.free b o e n hx)
 ·obtain⟨sl,e1⟩:=I.base.slot b o e n hb hx;obtain⟨UN,e2⟩:=slot b _ (WS b o e) hb (PB b o e hx) e1 (I.base.free b o e n hx);exact⟨UN,e2⟩
 ·obtain⟨o',e1⟩:=I.base.there b o e hx;exact free b o' (PB b o e hx) e1 (I.base.free b o e n hx)
 ·obtain⟨o',e1⟩:=I.base.there b o e hx;exact there b o' (PB b o e hx) e1
 ·exact tbls b _ (I.base.tbls b ps e)
 ·obtain⟨m,hn,hl⟩:=I.loc;refine⟨m,ns m hn,λi x v e1 e2 e3=>?_⟩;obtain⟨u,r,l⟩:=hl i x v e1 e2 e3;refine⟨u,r,?_⟩;rcases l with l|⟨k,c,e,z⟩
  ·exact .inl l
  ·exact .inr ⟨k,c,e,Ms x c e _ z⟩
 ·obtain⟨v,z⟩:=I.cell x c e;exact⟨v,Ms x c e v z⟩
 ·obtain⟨m,⟨o,_,_,ho,_⟩,_⟩:=I.loc;exact free _ o (λz=>(qo _ z).2.1 rfl) ho I.free
 ·obtain⟨v,o,ho,hd⟩:=I.cell x c e;exact free c o (λz=>(qo c z).2.2.1 x c e rfl) ho (I.freeC x c e)
 ·obtain⟨e,n,ne,nf,d⟩:=I.pin p hp;have RF:p.1∉ch:=λz=>(qo p.1 z).2.2.2 p hp rfl;exact⟨keep p.1 p.2 ne nf RF e n,free p.1 p.2 RF e n,ne,nf,d⟩
theorem Inv.un {t':Nat}(I:Inv X af U H s)(u:Un X.fs [] H H' s.heap h')(hok:ma X.prog X.w H' h'):Inv X af U H' { s with heap:=h',toks:=t' }:=by
 obtain⟨m,⟨o,es,ep,ho,r⟩,_⟩:=id I.loc;obtain⟨sl,hL⟩:=u.any ho I.free (by simp);exact I.step (g':=s.gens) (d':=s.drawn) (ch:=[]) (λ_ z=>nomatch z) (λb o _ hb _ e n=>u.keep b o e n hb (by simp)) (λb o _ hb _ e n=>u.slot b o e n hb (by simp)) (λb o _ e n=>u.free b o e n (by simp)) (λb o _ e=>u.there b o e (by simp)) u.tups u.frzs u.tbls (λm' hm=>by
  obtain⟨o',Ff,PD,tQ,r'⟩:=hm;rw[ho]at tQ;cases tQ;exact⟨_,Ff,PD,hL,r'⟩) hok I.bare
theorem Inv.call {g':Array GenState}{t':Nat}{d':Drawn}{ch:List Addr}(I:Inv X af U H s)(u:Un (Fc X.stack) ch H H' s.heap h')(hok:ma X.prog X.w H' h')(hg:AllBare g')
  (qo:∀b∈ch,(b∈X.ex∨X.s₀.heap.objs.size<=b)/\b≠X.env.locals/\(∀x c,X.env.cells.lookup x=some c->c≠b)/\∀p∈X.pn++af,p.1≠b):
  Inv X af U H' { s with heap:=h',gens:=g',drawn:=d',toks:=t' }:=by
 obtain⟨m,⟨o,es,ep,ho,r⟩,_⟩:=id I.loc;obtain⟨sl,hL⟩:=u.any ho I.free λz=>(qo _ z).2.1 rfl;exact I.step (ch:=ch) qo (λb o hL hb hc e n=>u.keep b o e n (λz=>(vP (I.stkSub b z)).elim hL hb) hc) (λb o _ _ hc e n=>u.any e n hc) (λb o hc e n=>u.free b o e n hc) (λb o hc e=>u.there b o e hc) u.tups u.frzs u.tbls (λm' hm=>by
  obtain⟨o',Ff,PD,tQ,r'⟩:=hm;rw[ho]at tQ;cases tQ;exact⟨_,Ff,PD,hL,r'⟩) hok hg
theorem Inv.turned {t':Nat}{it:Addr}(I:Inv X af U H s)(k:∀b o,b≠it->s.heap.get? b=some o->h'.get? b=some o)(hn:H it=none)(hL:it≠X.env.locals)
  (h1:it∈X.ex∨X.s₀.heap.objs.size<=it) (h2:∀x c,X.env.cells.lookup x=some c->c≠it) (h3:∀p∈X.pn++af,p.1≠it):Inv X af U H { s with heap:=h',toks:=t' }:=by
 have Mt:∀b u,H b=some u->b≠it:=λb u e z=>by rw[z,hn]at e;cases e
 refine I.step (g':=s.gens) (d':=s.drawn) (ch:=[it]) (λb hb=>?_) (λb o _ _ hc e _=>k b o (λz=>hc (by simp[z])) e) (λb o _ _ hc e _=>⟨o.slots,k b o (λz=>hc (by simp[z])) e⟩) (λ_ _ _ _ n=>n)
  (λb o hc e=>⟨o,k b o (λz=>hc (by simp[z])) e⟩) (λ_ _ e=>e) (λ_ _ _ e=>e) (λ_ _ e=>e) (λm hm=>?_) (λb u e=>?_) I.bare
 ·have e:b=it:=by simpa using hb
  subst e;exact⟨h1,hL,h2,h3⟩
 ·obtain⟨o,es,ep,ho,r⟩:=hm;exact⟨o,es,ep,k _ o (Ne.symm hL) ho,r⟩
 ·refine(I.hok b u e).stay (λc v hc q=>k c v ?_ q) (λ_ q=>q) (λ_ _ q=>q) λ_ _ _ q=>q;rcases hc with z|z
  ·rw[z];exact Mt b u e
  ·exact Mt c _ z
theorem Inv.tok (I:Inv X af U H s)(t:Nat):Inv X af U H { s with toks:=t }:=I.un (h':=s.heap) (t':=t) Un.refl I.hok
theorem Inv.kept (I:Inv X af U H s)(k:∀b u,s.heap.get? b=some u->h'.get? b=some u):Inv X af U H { s with heap:=h',toks:=t' }:=I.un (Un.kept k) (I.hok.kept k)
theorem Inv.laid (I:Inv X af U H s)(k:∀b u,s.heap.get? b=some u->h'.get? b=some u)(hp:s.heap.objs.size<=a)(new:bZ X.prog X.w (upd H a o) h' a o):
  Inv X af U (upd H a o) { s with heap:=h',toks:=t' }:=I.un (Un.laid k hp (I.hok.fresh hp)) (I.hok.laid k hp new)
theorem Inv.write (I:Inv X af U H s)(mu:Qm (H x))(he:e=x∨H e=some (.own x))(k:∀b u,b≠e->s.heap.get? b=some u->h'.get? b=some u)(P9:∃u,h'.get? e=some u)
  (new:bZ X.prog X.w (upd H x o) h' x o):Inv X af U (upd H x o) { s with heap:=h',toks:=t' }:=I.un (Un.write mu he k P9) (I.hok.write mu he k P9 new)
theorem Inv.pins_of (I:Inv X af U H s)(h:∀p∈HQ,s.heap.get? p.1=some p.2/\H p.1=none/\p.1≠X.env.locals/\p.1∉X.fs/\∀v,p.2.data≠.cell v):Inv X HQ U H s :=
 ⟨I.ok,I.os,I.bare,I.base,I.loc,I.cell,I.free,I.freeC,λp hp=>(List.mem_append.mp hp).elim (λz=>I.pin p (List.mem_append_left _ z)) (h p),I.hok,I.len⟩
theorem yj {N:List Str}(hN:N.Nodup){i j:Nat}{x:Str}(a:N[i]? = some x)(b:N[j]? = some x):i=j:=by
 obtain⟨h1,e1⟩:=vV a;obtain⟨h2,e2⟩:=vV b;exact(List.getElem_inj hN).mp (e1.trans e2.symm)
theorem tW {M:Model}{A:Around}{E:Value->Shared->Prop}{i:Nat}{x:Str}{v:V}{u:Value}{Q:Unit->Shared->Prop}(I:Inv X af U H s)(hN:X.N.Nodup)(hi:X.N[i]? = some x)(hx:Iq X.env.scope x)(r:bf v u)
  (h:∀s',Inv X af (U.set i (some v)) H s'->(∃a,Heap.SameBut a s.heap s'.heap/\(a=X.env.locals∨X.env.cells.lookup x=some a))->Q () s') (hf:X.fn x=true∨X.env.scope.names.lookup x=some .local:=by first|exact .inl rfl|exact .inr rfl|assumption):wpAny M A (storeName X.env x u) Q E s:=by
 obtain⟨m,hn,hl⟩:=id I.loc;have UO:(X.env.scope.kind == .class || (X.env.scope.kind == .module && X.env.locals != X.env.globals))=false:=by rw[I.ok.kind];rfl
 have EO:i<U.length:=by rw[I.len];exact(vV hi).1
 have cne:=I.cne;have D2:∀ {a:Addr}{h':Heap},(∃o,s.heap.get? a=some o/\H a=none)->Heap.SameBut a s.heap h'->ma X.prog X.w H h':=λ{a h'} ha hs b ob e=>by
  obtain⟨_,_,Mu⟩:=ha;refine(I.hok b ob e).stay (λc w' hc q=>(hs.2 c ?_).trans q) (λ_ q=>q) (λ_ _ q=>q) λ_ _ _ q=>q;rintro rfl;rcases hc with rfl|hc
  ·rw[Mu]at e;cases e
  ·rw[Mu]at hc;cases hc
 rcases hx with hk|hk
 ·refine wpAny_storeName_local hk hn (λh' UP hs=>?_) UO;obtain⟨oL,_,_,KP,_⟩:=id hn;refine h _ ⟨I.ok,I.os,I.bare,⟨λb o e n hb hx=>?_,λb o e n hb hx=>?_,I.base.free,λb o e hx=>?_,I.base.tups,I.base.frzs,I.base.tbls⟩,⟨_,UP,λj y v' e1 e2 e3=>?_⟩,λy c e=>?_,I.free,I.freeC,λp hp=>?_,D2 ⟨oL,KP,I.free⟩ hs,by simpa using I.len⟩ ⟨_,hs,.inl rfl⟩
  ·exact(hs.2 b (vS (vQ (vX e) I.ok.above))).trans (I.base.keep b o e n hb hx)
  ·obtain⟨sl,e1⟩:=I.base.slot b o e n hb hx;exact⟨sl,(hs.2 b (vS (vQ (vX e) I.ok.above))).trans e1⟩
  ·obtain⟨o',e1⟩:=I.base.there b o e hx;exact⟨o',(hs.2 b (vS (vQ (vX e) I.ok.above))).trans e1⟩
  ·by_cases hj:j=i
   ·subst hj;rw[hi]at e1;cases e1;rw[List.getElem?_set_self EO]at e2;cases e2
    exact⟨u,r,.inl ⟨hk,by simp⟩⟩
   ·rw[vB (Ne.symm hj)]at e2;obtain⟨u',r',q⟩:=hl j y v' e1 e2 e3;refine⟨u',r',?_⟩;rcases q with⟨k,e⟩|⟨k,c,e,z⟩
    ·refine .inl ⟨k,?_⟩;have:y≠x:=λe=>hj (yj hN e1 (e ▸ hi));simp[this,e]
    ·exact .inr ⟨k,c,e,z.sameBut hs (cne y c e)⟩
  ·obtain⟨w',z⟩:=I.cell y c e;exact⟨w',z.sameBut hs (cne y c e)⟩
  ·obtain⟨e,n,ne,nf,d⟩:=I.pin p hp;exact⟨(hs.2 p.1 ne).trans e,n,ne,nf,d⟩
 ·have UQ:X.fn x=true:=by
   rcases hf with z|z
   ·exact z
   ·rw[z]at hk;cases hk
  obtain⟨c,hc⟩:=I.ok.has x (.inl hk);obtain⟨w',z⟩:=I.cell x c hc;refine wpAny_storeName_cell I.ok.kind hk hc z (λh' KQ hs=>?_);obtain⟨oc,KR,UR⟩:=id z;refine h { s with heap:=h' } ⟨I.ok,I.os,I.bare,⟨λb o e n hb hx=>?_,λb o e n hb hx=>?_,I.base.free,λb o e hx=>?_,I.base.tups,I.base.frzs,I.base.tbls⟩,⟨m,hn.sameBut hs (Ne.symm (cne x c hc)),λj y v' e1 e2 e3=>?_⟩,λy c' e=>?_,I.free,I.freeC,λp hp=>?_,D2 ⟨oc,KR,I.freeC x c hc⟩ hs,by simpa using I.len⟩ ⟨c,hs,.inr hc⟩
  ·exact(hs.2 b (vS (vQ (vX e) (I.ok.cab x c UQ hc)))).trans (I.base.keep b o e n hb hx)
  ·obtain⟨sl,e1⟩:=I.base.slot b o e n hb hx;exact⟨sl,(hs.2 b (vS (vQ (vX e) (I.ok.cab x c UQ hc)))).trans e1⟩
  ·obtain⟨o',e1⟩:=I.base.there b o e hx;exact⟨o',(hs.2 b (vS (vQ (vX e) (I.ok.cab x c UQ hc)))).trans e1⟩
  ·by_cases hj:j=i
   ·subst hj;rw[hi]at e1;cases e1;rw[List.getElem?_set_self EO]at e2;cases e2
    exact⟨u,r,.inr ⟨.inl hk,c,hc,KQ⟩⟩
   ·rw[vB (Ne.symm hj)]at e2;obtain⟨u',r',q⟩:=hl j y v' e1 e2 e3;refine⟨u',r',?_⟩;rcases q with q|⟨k,c',e,z'⟩
    ·exact .inl q
    ·refine .inr ⟨k,c',e,z'.sameBut hs ?_⟩;rintro rfl;exact hj (yj hN e1 (I.ok.inj _ _ _ e hc ▸ hi))
  ·by_cases hcc:c'=c
   ·subst hcc;exact⟨_,KQ⟩
   ·obtain⟨w2,z2⟩:=I.cell y c' e;exact⟨w2,z2.sameBut hs hcc⟩
  ·obtain⟨e,n,ne,nf,d⟩:=I.pin p hp;refine⟨(hs.2 p.1 ?_).trans e,n,ne,nf,d⟩;intro q;rw[q,KR]at e;have q':oc=p.2:=vK e;exact d w' (by rw[←q'];exact UR)
theorem yk {M:Model}{A:Around}{E:Value->Shared->Prop}{i:Nat}{x:Str}{v:V}{u:Value}{Q:Unit->Shared->Prop}(I:Inv X af U H s)(hN:X.N.Nodup)(hi:X.N[i]? = some x)(hx:Iq X.env.scope x)(r:bf v u)
  (h:∀s',Inv X af (U.set i (some v)) H s'->Q () s') (hf:X.fn x=true∨X.env.scope.names.lookup x=some .local:=by first|exact .inl rfl|exact .inr rfl|assumption):wpAny M A (storeName X.env x u) Q E s :=
 tW I hN hi hx r (λs' I' _=>h s' I') hf
theorem Inv.call' (I:Inv X af U H s)(ho:s'.os=s.os)(u:Un (Fc X.stack) ch H H' s.heap s'.heap)(hok:ma X.prog X.w H' s'.heap)(hg:AllBare s'.gens)
  (qo:∀b∈ch,(b∈X.ex∨X.s₀.heap.objs.size<=b)/\b≠X.env.locals/\(∀x c,X.env.cells.lookup x=some c->c≠b)/\∀p∈X.pn++af,p.1≠b):Inv X af U H' s':=by
 obtain⟨h',g',d',t',o'⟩:=s';have e:o'=s.os:=ho;subst e;exact I.call (g':=g') (t':=t') (d':=d') u hok hg qo
end
abbrev XK:=Value->Option Addr->Hp->Prop
abbrev St:=List (Option V)
abbrev VK:=V->Hp->Prop
abbrev TE:=St->Hp->VK->Prop
abbrev TT:=St->Hp->(Bool->Hp->Prop)->Prop
abbrev TA:=St->Hp->(List V->Hp->Prop)->Prop
structure Ends where
 nx:St->Hp->Prop
 rt:VK
 bk:St->Hp->Prop:=λ_ _=>False
 ct:St->Hp->Prop:=λ_ _=>False
abbrev TS:=Ends->St->Hp->Prop
def EP (X:Cx)(af:List (Addr×Obj))(U:St)(Q:VK)(u:Value)(s':Shared):Prop:=∃v H',Inv X af U H' s'/\bf v u/\Q v H'
def TP (X:Cx)(af:List (Addr×Obj))(U:St)(Q:Bool->Hp->Prop)(b:Bool)(s':Shared):Prop:=∃H',Inv X af U H' s'/\Q b H'
def AP (X:Cx)(af:List (Addr×Obj))(U:St)(Q:List V->Hp->Prop)(us:List Value)(s':Shared):Prop:=∃vs H',Inv X af U H' s'/\bp vs us/\Q vs H'
def SP (X:Cx)(af:List (Addr×Obj))(D:Ends)(f:Flow)(s':Shared):Prop :=
 match f with
 |.next=>∃σ' H',Inv X af σ' H' s'/\D.nx σ' H'
 |.brk=>∃σ' H',Inv X af σ' H' s'/\D.bk σ' H'
 |.cont=>∃σ' H',Inv X af σ' H' s'/\D.ct σ' H'
 |.ret u=>∃v σ' H',Inv X af σ' H' s'/\bf v u/\D.rt v H'
def PE (X:Cx)(e:Expr)(t:TE):Prop :=
 ∀(af:List (Addr×Obj))(s:Shared)(U:St)(H:Hp)(Q:VK),Inv X af U H s->t U H Q->wq X (eval e X.env) (EP X af U Q) X.xe s
def PT (X:Cx)(e:Expr)(t:TT):Prop :=
 ∀(af:List (Addr×Obj))(s:Shared)(U:St)(H:Hp)(Q:Bool->Hp->Prop),Inv X af U H s->t U H Q->wq X (isTrue e X.env (eval e X.env)) (TP X af U Q) X.xe s
def PW (X:Cx)(e:Expr)(t:TT):Prop :=
 ∀(tp:Sem Value)(af:List (Addr×Obj))(s:Shared)(U:St)(H:Hp)(Q:Bool->Hp->Prop),Inv X af U H s->t U H Q->wq X (isTrue e X.env tp) (TP X af U Q) X.xe s
theorem PW.pt (h:PW X e t):PT X e t:=h _
def PA (X:Cx)(es:List Expr)(t:TA):Prop :=
 ∀(pos:Pos)(af:List (Addr×Obj))(s:Shared)(U:St)(H:Hp)(Q:List V->Hp->Prop),Inv X af U H s->t U H Q->wq X (spliced (backTo pos (starEach es X.env))) (AP X af U Q) X.xe s
def PS (X:Cx)(st:Stmt)(t:TS):Prop :=
 ∀(af:List (Addr×Obj))(s:Shared)(U:St)(H:Hp)(D:Ends),Inv X af U H s->t D U H->wq X (exec st X.env) (SP X af D) X.xe s
def w6 (X:Cx)(st:List Stmt)(t:TS):Prop :=
 ∀(af:List (Addr×Obj))(s:Shared)(U:St)(H:Hp)(D:Ends),Inv X af U H s->t D U H->wq X (execs st X.env) (SP X af D) X.xe s
theorem cL {α:Type}{t:Sem α}{Q Q':α->Shared->Prop}{M:Model}{A:Around}{E:Value->Shared->Prop}{s:Shared}(h:wpAny M A t Q E s)(hQ:∀a s,Q a s->Q' a s):wpAny M A t Q' E s:=wpAny_mono h hQ λ_ _ x=>x
section
variable {X:Cx}
theorem bin {a b:Expr}{ta tb:TE}(ha:PE X a ta)(hb:PE X b tb){af:List (Addr×Obj)}{s:Shared}{U:St}{H:Hp}{R:V->V->Hp->Prop}(I:Inv X af U H s)(h:ta U H λx H1=>tb U H1 λy H2=>R x y H2)
  {α:Type}{Q:α->Shared->Prop}{f:Value->Value->Sem α}
  (hf:∀v u s2 x y H2,Inv X af U H2 s2->bf x v->bf y u->R x y H2->wq X (f v u) Q X.xe s2):
  wq X (eval a X.env) (λv s₁=>wq X (eval b X.env) (λu s₂=>wq X (f v u) Q X.xe s₂) X.xe s₁) X.xe s:=by
 refine cL (ha af s U H _ I h) λv s1 ⟨x,H1,I1,r1,q1⟩=>?_;refine cL (hb af s1 U H1 _ I1 q1) λu s2 ⟨y,H2,I2,r2,q2⟩=>?_;exact hf v u s2 x y H2 I2 r1 r2 q2
def Fk (i:Nat):TE:=λU H Q=>∃v,U[i]? = some (some v)/\Q v H
def tC (v:V):TE:=λ_ H Q=>Q v H
theorem mE (hN:X.N[i]? = some x)(hv:Fj X.env.scope x)(hd:(x == ("__debug__" : Str))=false:=by decide)(jT:(x == ("__classdict__" : Str))=false:=by decide):PE X (.Name x pos) (Fk i):=by
 intro af s U H Q I h;obtain⟨v,e,h⟩:=h;obtain⟨m,hn,hl⟩:=I.loc;obtain⟨u,r,l⟩:=hl i x v hN e hv;have j9:EP X af U Q u s:=⟨v,H,I,r,h⟩;rcases l with⟨hk,hm⟩|⟨hk,c,hc,Mv⟩
 ·exact wpAny_Name (wpAny_loadName_local I.ok.kind hk hn hm j9) hd
 ·rcases hk with hk|hk
  ·exact wpAny_Name (wpAny_loadName_cell I.ok.kind hk hc Mv j9) hd
  ·exact wpAny_Name (wpAny_loadName_free I.ok.kind hk hc Mv j9 jT) hd
theorem MG {i j pos}:PE X (.Constant (.int i) j pos) (tC (.int i)):=λ_ _ _ H _ I h=>wpAny_Constant_int ⟨.int i,H,I.tok _,⟨_,rfl⟩,h⟩
theorem Qn {b j pos}:PE X (.Constant (.bool b) j pos) (tC (.bl b)):=λ_ _ _ H _ I h=>Constant_bool ⟨.bl b,H,I,rfl,h⟩
theorem MH {j pos}:PE X (.Constant .none j pos) (tC .non):=λ_ _ _ H _ I h=>Constant_none ⟨.non,H,I,rfl,h⟩
theorem MI {x j pos}:PE X (.Constant (.str x) j pos) (tC (.str x)):=λ_ _ _ H _ I h=>Calls.Constant_str ⟨.str x,H,I.tok _,⟨_,rfl⟩,h⟩
def Gl (X:Cx)(x:Str):Prop:=X.env.kindOf x=some .globalImplicit
theorem wA {E:Value->Shared->Prop}{af:List (Addr×Obj)}{s:Shared}{U:St}{H:Hp}{x:Str}{u:Value}{pos:Pos}{Q:Value->Shared->Prop}(I:Inv X af U H s)(hg:Gl X x)(hm:X.mg x=some u)(h:Q u s)
  (hd:(x == ("__debug__" : Str))=false:=by decide):wq X (eval (.Name x pos) X.env) Q E s :=
 Calls.Name_function_global I.ok.kind hg (Calls.loadGlobal_global (by rw[I.ok.glob];exact I.mod.glob.keeps I.bk) hm h) hd
theorem mF {E:Value->Shared->Prop}{af:List (Addr×Obj)}{s:Shared}{U:St}{H:Hp}{x:Str}{u:Value}{pos:Pos}{Q:Value->Shared->Prop}(I:Inv X af U H s)(hg:Gl X x)(hm:X.mg x=none)(hv:bootBuiltins x=some u)(h:Q u s)
  (hn:x ≠ "__name__":=by decide) (hd:(x == ("__debug__" : Str))=false:=by decide):wq X (eval (.Name x pos) X.env) Q E s:=by
 obtain⟨mb,h1,h2⟩:=I.mod.blt;exact Calls.Name_function_global I.ok.kind hg (Calls.loadGlobal_builtin (by rw[I.ok.glob];exact I.mod.glob.keeps I.bk) hm (by rw[I.ok.blt];exact h1.keeps I.bk) ((h2 x hn).trans hv) h) hd
theorem BQ (hg:Gl X x)(hm:X.mg x=some u)(r:bf v u)(hd:(x == ("__debug__" : Str))=false:=by decide):PE X (.Name x pos) (tC v) :=
 λ_ _ _ H _ I h=>wA I hg hm ⟨v,H,I,r,h⟩ hd
theorem IH (hg:Gl X x)(hm:X.mg x=none)(hv:bootBuiltins x=some u)(r:bf v u)(hn:x ≠ "__name__":=by decide)(hd:(x == ("__debug__" : Str))=false:=by decide):PE X (.Name x pos) (tC v) :=
 λ_ _ _ H _ I h=>mF I hg hm hv ⟨v,H,I,r,h⟩ hn hd
def Yk (ta tb:TE)(k:Int->Int->Hp->Prop):St->Hp->Prop:=λU H=>ta U H λx H1=>tb U H1 λy H2=>∃i j,x=.int i/\y=.int j/\k i j H2
variable {a b:Expr}{ta tb:TE}{pos:Pos}
def PC (X:Cx)(op:CmpOp)(a b:Expr)(t:TE):Prop :=
 ∀(af:List (Addr×Obj))(s:Shared)(U:St)(H:Hp)(Q:VK),Inv X af U H s->t U H Q ->
  wq X (eval a X.env) (λv s₁=>wq X (eval b X.env) (λu s₂=>wq X (compareOp op v u) (EP X af U Q) X.xe s₂) X.xe s₁) X.xe s
theorem jA (b:Expr){op:CmpOp}(h:op≠.In)(h2:op≠.NotIn):behindInMarks op b=false:=by
 have e1:(op == CmpOp.In)=false:=by cases op<;>first|rfl|exact absurd rfl h
 have e2:(op == CmpOp.NotIn)=false:=by cases op<;>first|rfl|exact absurd rfl h2
 cases b<;>simp[behindInMarks,e1,e2]
def MJ (p:Int->Int->Bool)(ta tb:TE):TE:=λU H Q=>Yk ta tb (λi j H2=>Q (.bl (p i j)) H2) U H
abbrev ML:TE->TE->TE:=MJ λi j=>decide (i<j)
abbrev Yl:TE->TE->TE:=MJ λi j=>decide (j<i)
abbrev Ln:TE->TE->TE:=MJ λi j=>decide (j<=i)
def tB (t:TE):TT:=λU H Q=>t U H λx H1=>∃c,x=.bl c/\Q c H1
theorem MN (h:PC X op a b t)(h1:behindInMarks op b=false:=by first|exact jA _ (by decide) (by decide)|rfl):PE X (.Compare a [op] [b] pos) t:=λaf s U H Q I hw=>wpAny_Compare1 (h af s U H Q I hw) h1
theorem MO {op:CmpOp}{t:TE}(h:PC X op a b t)(h1:behindInMarks op b=false:=by first|exact jA _ (by decide) (by decide)|rfl):PT X (.Compare a [op] [b] pos) (tB t):=by
 intro af s U H Q I hw;refine wpAny_isTrue_Compare1 (cL (h af s U H _ I hw) λv s1 h1=>cL h1 λu s2 h2=>cL h2 λc s3 ⟨x,H1,I1,r1,q1⟩=>?_) h1;obtain⟨d,rfl,q⟩:=q1;cases r1
 exact wpAny_truthy_bool ⟨H1,I1,q⟩
theorem MP {e:Expr}{t:TE}(h:PE X e t)(he:∀tp,isTrue e X.env tp=(do let v ←tp;standAt e.pos;holding [v] (truthy v)):=by intro _;rfl):PT X e (tB t):=by
 intro af s U H Q I hw;refine isTrue_plain (cL (h af s U H _ I hw) λv s1 ⟨x,H1,I1,r1,q1⟩=>?_) (he _);obtain⟨d,rfl,q⟩:=q1;cases r1
 exact wpAny_truthy_bool ⟨H1,I1,q⟩
variable {tA Tl:TT}{aB:List Expr}
def Qo (t u:TT):TT:=λU H Q=>t U H λc H1=>if c=true then u U H1 Q else Q false H1
def Wh (t u:TT):TT:=λU H Q=>t U H λc H1=>if c=true then Q true H1 else u U H1 Q
def Qp (t:TT):TT:=λU H Q=>t U H λc H1=>Q (!c) H1
theorem II (ha:PT X a tA):PW X (.BoolOp .And [a] pos) tA:=by
 intro wh af s U H Q I h;refine isTrue_and (cL (ha af s U H Q I h) λc s1 e=>?_);cases c with
 |true=>exact isTrue_and_nil e
 |false=>exact e
theorem MQ (ha:PT X a tA):PW X (.BoolOp .Or [a] pos) tA:=by
 intro wh af s U H Q I h;refine isTrue_or (cL (ha af s U H Q I h) λc s1 e=>?_);cases c with
 |false=>exact isTrue_or_nil e
 |true=>exact e
theorem MT (ha:PT X a tA)(hb:PW X (.BoolOp .And (b::aB) pos) Tl):PW X (.BoolOp .And (a::b::aB) pos) (Qo tA Tl):=by
 intro wh af s U H Q I h;refine isTrue_and (cL (ha af s U H _ I h) λc s1 ⟨H1,I1,q1⟩=>?_);cases c with
 |true=>exact hb wh af s1 U H1 Q I1 q1
 |false=>exact⟨H1,I1,q1⟩
theorem Qq (ha:PT X a tA)(hb:PW X (.BoolOp .Or (b::aB) pos) Tl):PW X (.BoolOp .Or (a::b::aB) pos) (Wh tA Tl):=by
 intro wh af s U H Q I h;refine isTrue_or (cL (ha af s U H _ I h) λc s1 ⟨H1,I1,q1⟩=>?_);cases c with
 |true=>exact⟨H1,I1,q1⟩
 |false=>exact hb wh af s1 U H1 Q I1 q1
theorem MU (ha:PT X a tA):PT X (.UnaryOp .Not a pos) (Qp tA):=by
 intro af s U H Q I h;exact isTrue_not (ha af s U H (λc H1=>Q (!c) H1) I h)
def Qr (ta tb:TE):TE:=λU H Q=>ta U H λx H1=>∃c,x=.bl c/\if c=true then tb U H1 Q else Q (.bl false) H1
def TW (ta tb:TE):TE:=λU H Q=>ta U H λx H1=>∃c,x=.bl c/\if c=true then Q (.bl true) H1 else tb U H1 Q
theorem MV {op}(h:PE X a t):PE X (.BoolOp op [a] pos) t:=λaf s U H Q I hw=>BoolOp_one (h af s U H Q I hw)
theorem MW (ha:PE X a ta)(hb:PE X (.BoolOp .And (b::aB) pos) tb):PE X (.BoolOp .And (a::b::aB) pos) (Qr ta tb):=by
 intro af s U H Q I h;refine BoolOp_and (cL (ha af s U H _ I h) λv s1 ⟨x,H1,I1,r1,q1⟩=>?_);obtain⟨c,rfl,q1⟩:=q1;cases r1
 refine wpAny_truthy_bool ?_;cases c with
 |true=>exact hb af s1 U H1 Q I1 q1
 |false=>exact⟨.bl false,H1,I1,rfl,q1⟩
theorem Qs (ha:PE X a ta)(hb:PE X (.BoolOp .Or (b::aB) pos) tb):PE X (.BoolOp .Or (a::b::aB) pos) (TW ta tb):=by
 intro af s U H Q I h;refine BoolOp_or (cL (ha af s U H _ I h) λv s1 ⟨x,H1,I1,r1,q1⟩=>?_);obtain⟨c,rfl,q1⟩:=q1;cases r1
 refine wpAny_truthy_bool ?_;cases c with
 |false=>exact hb af s1 U H1 Q I1 q1
 |true=>exact⟨.bl true,H1,I1,rfl,q1⟩
def Ym (t:TT)(ta tb:TE):TE:=λU H Q=>t U H λc H1=>if c=true then ta U H1 Q else tb U H1 Q
theorem Fl {c:Expr}(hc:PT X c tA)(ha:PE X a ta)(hb:PE X b tb):PE X (.IfExp c a b pos) (Ym tA ta tb):=by
 intro af s U H Q I h;refine wpAny_IfExp (cL (hc af s U H _ I h) λd s1 ⟨H1,I1,q1⟩=>?_);cases d with
 |true=>exact ha af s1 U H1 Q I1 q1
 |false=>exact hb af s1 U H1 Q I1 q1
end
def jl (K:Frag)(H:Hp)(a:Addr)(xs:List V):Prop :=
 Rd H a (.lst xs) ∨
  ∃(o:Obj)(its:Array Value)(n:Nat),K.lookup a=some o/\o.cls=.type "list"/\o.dict=none/\o.data=.seq its n/\its.size<=sizeLine/\bp xs its.toList
def jB (K:Frag)(H:Hp)(a:Addr)(xs:List V):Prop :=
 Rd H a (.tup xs) ∨
  ∃(o:Obj)(its:Array Value)(n:Nat),K.lookup a=some o/\o.cls=.type "tuple"/\o.data=.seq its n/\its.size<=sizeLine/\bp xs its.toList
noncomputable def TX:Value->Option V
 |.none=>some .non
 |.bool b=>some (.bl b)
 |.int i _=>some (.int i)
 |.str x _=>some (.str x)
 |.bytes b _=>some (.byt b)
 |.float b _=>some (.flt b)
 |.ref a=>some (.ref a)
 |.type n=>some (.ty n)
 |_=>none
theorem bf.abs (r:bf x u):TX u=some x:=by
 cases x with
 |non=>cases r;rfl
 |bl _=>cases r;rfl
 |int _=>obtain⟨t,rfl⟩:=r;rfl
 |str _=>obtain⟨t,rfl⟩:=r;rfl
 |byt _=>obtain⟨t,rfl⟩:=r;rfl
 |flt _=>obtain⟨t,rfl⟩:=r;rfl
 |ref _=>cases r;rfl
 |ty _=>cases r;rfl
theorem bf.inj (r:bf x u)(q:bf y u):x=y:=vK (r.abs.symm.trans q.abs)
theorem bp.inj:∀ {xs ys:List V}{us:List Value},bp xs us->bp ys us->xs=ys
 |_,_,_,.nil,.nil=>rfl
 |_,_,_,.cons r t,.cons r' t'=>by rw[r.inj r',bp.inj t t']
section
variable {X:Cx}{af:List (Addr×Obj)}{U:St}{H:Hp}{s:Shared}{a:Addr}{xs ys:List V}
theorem jl.of {K:Frag}(h:H a=some (.lst xs)):jl K H a xs:=.inl (.inl h)
theorem jB.of {K:Frag}(h:H a=some (.tup xs)):jB K H a xs:=.inl (.inl h)
theorem Inv.list (I:Inv X af U H s)(h:jl X.K H a xs):∃its:List Value,bp xs its/\PlainL s.heap a its.toArray/\xs.length<=sizeLine:=by
 rcases h with h|⟨o,its,n,hk,hc,hd,hs,hz,r⟩
 ·obtain⟨z,its,n,r,e⟩:=h.ok I.hok;exact⟨its,r,⟨_,n,e,rfl,rfl,rfl⟩,z⟩
 ·refine⟨its.toList,r,⟨o,n,I.kIn a o hk,hc,hd,by simpa using hs⟩,?_⟩;have e:=r.length;simp only[vG]at e;omega
theorem Inv.tuple (I:Inv X af U H s)(h:jB X.K H a xs):∃its:List Value,bp xs its/\IsTup s.heap a its.toArray/\xs.length<=sizeLine:=by
 rcases h with h|⟨o,its,n,hk,hc,hs,hz,r⟩
 ·obtain⟨z,its,r,p⟩:=h.ok I.hok;exact⟨its,r,p,z⟩
 ·refine⟨its.toList,r,⟨o,I.kIn a o hk,hc,n,by simpa using hs⟩,?_⟩;have e:=r.length;simp only[vG]at e;omega
theorem Inv.list_inj (I:Inv X af U H s)(h:jl X.K H a xs)(h':jl X.K H a ys):xs=ys:=by
 obtain⟨its,r,⟨o,n,e,_,_,d⟩,_⟩:=I.list h;obtain⟨its',r',⟨o',n',e',_,_,d'⟩,_⟩:=I.list h';rw[e]at e';cases e';rw[d]at d';injection d' with d1 _;have:its=its':=by simpa using congrArg Array.toList d1
 subst this;exact r.inj r'
theorem Inv.tuple_inj (I:Inv X af U H s)(h:jB X.K H a xs)(h':jB X.K H a ys):xs=ys:=by
 obtain⟨its,r,⟨o,e,_,n,d⟩,_⟩:=I.tuple h;obtain⟨its',r',⟨o',e',_,n',d'⟩,_⟩:=I.tuple h';rw[e]at e';cases e';rw[d]at d';injection d' with d1 _;have:its=its':=by simpa using congrArg Array.toList d1
 subst this;exact r.inj r'
end
noncomputable abbrev Cx.wish (X:Cx)(E:Value->Shared->Prop):Cx:={ X with xe:=E }
noncomputable abbrev Cx.nox (X:Cx):Cx:=X.wish λ_ _=>False
theorem Cx.Ok.wish {X:Cx}(ok:X.Ok)(E:Value->Shared->Prop):(X.wish E).Ok :=
 ⟨ok.mod,ok.kind,ok.glob,ok.blt,ok.above,ok.inj,ok.has,ok.cab,ok.hd,ok.frames,ok.stk,ok.exf,ok.bs,ok.bsz,ok.noex,ok.exfs,ok.funs,ok.frf⟩
theorem Cx.Ok.unwish {X:Cx}{E:Value->Shared->Prop}(ok:(X.wish E).Ok):X.Ok :=
 ⟨ok.mod,ok.kind,ok.glob,ok.blt,ok.above,ok.inj,ok.has,ok.cab,ok.hd,ok.frames,ok.stk,ok.exf,ok.bs,ok.bsz,ok.noex,ok.exfs,ok.funs,ok.frf⟩
section
variable {X:Cx}{af:List (Addr×Obj)}{U:St}{H:Hp}{s:Shared}{E:Value->Shared->Prop}
theorem Inv.wish (I:Inv X af U H s)(E:Value->Shared->Prop):Inv (X.wish E) af U H s:=⟨I.ok.wish E,I.os,I.bare,I.base,I.loc,I.cell,I.free,I.freeC,I.pin,I.hok,I.len⟩
theorem Inv.unwish (I:Inv (X.wish E) af U H s):Inv X af U H s:=⟨I.ok.unwish,I.os,I.bare,I.base,I.loc,I.cell,I.free,I.freeC,I.pin,I.hok,I.len⟩
theorem SP.unwish (h:SP (X.wish E) af D f s'):SP X af D f s':=by
 cases f with
 |next=>obtain⟨σ',H',I,q⟩:=h;exact⟨σ',H',I.unwish,q⟩
 |brk=>obtain⟨σ',H',I,q⟩:=h;exact⟨σ',H',I.unwish,q⟩
 |cont=>obtain⟨σ',H',I,q⟩:=h;exact⟨σ',H',I.unwish,q⟩
 |ret u=>obtain⟨v,σ',H',I,r,q⟩:=h;exact⟨v,σ',H',I.unwish,r,q⟩
theorem PE.nox (h:PE X.nox e t):PE X e t:=λaf s U H Q I hw=>
 wpAny_mono (h af s U H Q (I.wish _) hw) (λ_ _ ⟨v,H',I',r,q⟩=>⟨v,H',I'.unwish,r,q⟩) λ_ _ z=>False.elim z
theorem PT.nox (h:PT X.nox e t):PT X e t:=λaf s U H Q I hw=>
 wpAny_mono (h af s U H Q (I.wish _) hw) (λ_ _ ⟨H',I',q⟩=>⟨H',I'.unwish,q⟩) λ_ _ z=>False.elim z
theorem w6.nox {st:List Stmt}{t:TS}(h:w6 X.nox st t):w6 X st t:=λaf s U H D I hw=>
 wpAny_mono (h af s U H D (I.wish _) hw) (λ_ _ q=>q.unwish) λ_ _ z=>False.elim z
end
section
variable {X:Cx}{st:Stmt}{aB:List Stmt}{t u:TS}{e:Expr}{te:TE}{pos:Pos}
def Lo:TS:=λD U H=>D.nx U H
def Qt (t u:TS):TS:=λD U H=>t { D with nx:=u D } U H
theorem IJ:w6 X [] Lo:=λ_ _ U H _ I h=>wpAny_execs_nil ⟨U,H,I,h⟩
theorem Fm (h1:PS X st t)(h2:w6 X aB u):w6 X (st::aB) (Qt t u):=by
 intro af s U H D I h;refine wpAny_execs_cons (cL (h1 af s U H { D with nx:=u D } I h) λf s1 q=>?_);cases f with
 |next=>
  obtain⟨σ',H',I',q⟩:=q;exact h2 af s1 σ' H' D I' q
 |ret v=>exact q
 |brk=>exact q
 |cont=>exact q
theorem IK (h1:PS X st t):w6 X [st] t:=by
 intro af s U H D I h;refine wpAny_execs_cons (cL (h1 af s U H D I h) λf s1 q=>?_);cases f with
 |next=>exact wpAny_execs_nil q
 |ret v=>exact q
 |brk=>exact q
 |cont=>exact q
def Qu:TS:=λD U H=>D.ct U H
theorem ym:PS X (.Continue pos) Qu:=λ_ _ U H _ I h=>wpAny_Continue ⟨U,H,I,h⟩
theorem Inv.quiet (I:Inv X af U H s):interactive X.env=false:=by simp[interactive,I.ok.kind]
def Qv (te:TE):TS:=λD U H=>te U H λ_ H1=>D.nx U H1
theorem IL (he:PE X e te)(hs:swapsWith e none pos.line X.env=pure false:=by rfl):PS X (.Expr e pos) (Qv te):=by
 intro af s U H D I h;exact wpAny_Expr_any (cL (he af s U H _ I h) λv s1 ⟨x,H1,I1,r1,q1⟩=>⟨U,H1,I1,q1⟩) I.quiet hs
def MX (te:TE):TS:=λD U H=>te U H D.rt
theorem Fo (he:PE X e te):PS X (.Return (some e) pos) (MX te):=by
 intro af s U H D I h;exact wpAny_Return_some (cL (he af s U H _ I h) λv s1 ⟨x,H1,I1,r1,q1⟩=>⟨x,U,H1,I1,r1,q1⟩)
def Qw (c:TT)(t u:TS):TS:=λD U H=>c U H λb H1=>if b=true then t D U H1 else u D U H1
theorem Qx {c:Expr}{a b:List Stmt}{tc:TT}(hc:PT X c tc)(ha:w6 X a t)(hb:w6 X b u):PS X (.If c a b pos) (Qw tc t u):=by
 intro af s U H D I h;refine wpAny_If (cL (hc af s U H _ I h) λd s1 ⟨H1,I1,q1⟩=>?_);cases d with
 |true=>exact ha af s1 U H1 D I1 q1
 |false=>exact hb af s1 U H1 D I1 q1
end
abbrev TG:=V->St->Hp->(St->Hp->Prop)->Prop
abbrev Lp:=List V->St->Hp->(St->Hp->Prop)->Prop
def PG (X:Cx)(tq:Expr)(t:TG):Prop :=
 ∀(af:List (Addr×Obj))(s:Shared)(U:St)(H:Hp)(v:V)(u:Value)(Q:St->Hp->Prop),Inv X af U H s->bf v u->t v U H Q ->
  wq X (assign tq X.env u) (λ_ s'=>∃σ' H',Inv X af σ' H' s'/\Q σ' H') X.xe s
def Qy (X:Cx)(ts:List Expr)(t:Lp):Prop :=
 ∀(af:List (Addr×Obj))(s:Shared)(U:St)(H:Hp)(vs:List V)(us:List Value)(Q:St->Hp->Prop),Inv X af U H s->bp vs us->t vs U H Q ->
  wq X (assignInOrder ((assignEach ts X.env).map (·.2)) us) (λ_ s'=>∃σ' H',Inv X af σ' H' s'/\Q σ' H') X.xe s
abbrev MY:=V->V->V->Hp->(Hp->Prop)->Prop
def Qz (X:Cx)(t:MY):Prop :=
 ∀(af:List (Addr×Obj))(s:Shared)(U:St)(H:Hp)(o i v:V)(ov iv u:Value)(Q:Hp->Prop),Inv X af U H s->bf o ov->bf i iv->bf v u->t o i v H Q ->
  wq X (setItem ov iv u) (λ_ s'=>∃H',Inv X af U H' s'/\Q H') X.xe s
section
variable {X:Cx}{pos:Pos}
def kF (i:Nat):TG:=λv U H Q=>Q (U.set i (some v)) H
theorem BR (hN:X.N.Nodup)(hi:X.N[i]? = some x)(hx:Iq X.env.scope x)(hf:X.fn x=true∨X.env.scope.names.lookup x=some .local:=by first|exact .inl rfl|exact .inr rfl|assumption):PG X (.Name x pos) (kF i):=by
 intro af s U H v u Q I r h;exact wpAny_assign_Name (yk I hN hi hx r (λs' I'=>⟨_,H,I',h⟩) hf)
def Q0:Lp:=λvs U H Q=>vs=[]/\Q U H
def Lq (t:TG)(u:Lp):Lp:=λvs U H Q=>∃v r,vs=v::r/\t v U H λσ' H'=>u r σ' H' Q
theorem qq:Qy X [] Q0:=by
 intro af s U H vs us Q I r h;obtain⟨e,h⟩:=h;subst e;cases r
 exact assignInOrder_nil ⟨U,H,I,h⟩
theorem gK {e:Expr}{es:List Expr}{t:TG}{u:Lp}(h1:PG X e t)(h2:Qy X es u)
  (hs:(assignEach (e::es) X.env).map (·.2)=assign e X.env::(assignEach es X.env).map (·.2):=by rfl):Qy X (e::es) (Lq t u):=by
 intro af s U H vs us Q I r h;obtain⟨v,vr,e1,h⟩:=h;subst e1;cases r with
 |cons r rr=>
  rw[hs];refine assignInOrder_cons (cL (h1 af s U H _ _ _ I r h) λ_ s1 ⟨σ1,H1,I1,q1⟩=>?_);exact h2 af s1 σ1 H1 _ _ Q I1 rr q1
def MZ (K:Frag)(n:Nat)(t:Lp):TG:=λv U H Q=>∃a xs,v=.ref a/\jB K H a xs/\xs.length=n/\t xs U H Q
theorem AA (hc:X.calm=true)(h:Qy X es t)
  (hn:(assignEach es X.env).length=n:=by rfl) (ng:(assignEach es X.env).findIdx? (·.1)=none:=by rfl):PG X (.Tuple es k pos) (MZ X.K n t):=by
 intro af s U H v u Q I r hw;obtain⟨a,xs,e1,hq,hl,hw⟩:=hw;subst e1;cases r
 obtain⟨its,rv,ht,hz⟩:=I.tuple hq;refine assign_Tuple_tuple (I.ok.hd hc) ht (by simp[hn,←hl,rv.length]) ng λh' hx=>?_;have I1:Inv X af U H { s with heap:=h' }:=I.kept (t':=s.toks) λb o e=>hx b o (vS (vX e)) e;exact h af _ U H xs _ Q I1 (by simpa using rv) hw
def TY (to ti:TE)(t:MY):TG:=λv U H Q=>to U H λo H1=>ti U H1 λi H2=>t o i v H2 λH3=>Q U H3
theorem Na {o i:Expr}{to ti:TE}{t:MY}(ho:PE X o to)(hi:PE X i ti)(hs:Qz X t)
  (ha:∀v,assign (.Subscript o i pos) X.env v=(do
   let ov ←holding [v] (eval o X.env)
   let iv ←holding [v,ov] (eval i X.env)
   standAt pos
   holding [v,ov,iv] (setItem ov iv v)
   release [v,ov,iv] []):=by intro _;rfl):PG X (.Subscript o i pos) (TY to ti t):=by
 intro af s U H v u Q I r h;rw[ha];refine wX (wpAny_holding (cL (ho af s U H _ I h) λov s1 ⟨x,H1,I1,r1,q1⟩=>?_));refine wX (wpAny_holding (cL (hi af s1 U H1 _ I1 q1) λiv s2 ⟨y,H2,I2,r2,q2⟩=>?_));refine wX (wpAny_standAt (wX (wpAny_holding (cL (hs af s2 U H2 x y v ov iv u _ I2 r1 r2 r q2) λ_ s3 ⟨H3,I3,q3⟩=>?_))));exact wpAny_release ⟨U,H3,I3,q3⟩
def yn (te:TE)(g:TG):TS:=λD U H=>te U H λx H1=>g x U H1 D.nx
theorem Fp {tg e:Expr}{te:TE}{g:TG}(he:PE X e te)(hg:PG X tg g)(hs:swapsWithSole [tg] e pos.line X.env=pure false:=by rfl)(hw:swappedStores [tg] e X.env=pure none:=by rfl)
  (h1:(assignEach [tg] X.env).map (·.2)=[assign tg X.env]:=by rfl):PS X (.Assign [tg] e pos) (yn te g):=by
 intro af s U H D I h;refine wpAny_Assign_stores (cL (he af s U H _ I h) λv s1 ⟨x,H1,I1,r1,q1⟩=>?_) hs hw;rw[h1];exact cL (hg af s1 U H1 x v _ I1 r1 q1) λ_ s2 q=>q
theorem wB {i:Nat}{x:Str}{e:Expr}{te:TE}{Ay:Pos}(hN:X.N.Nodup)(hi:X.N[i]? = some x)(hx:Iq X.env.scope x)(he:PE X e te)(hs:swapsWith e (some (.Name x Ay)) pos.line X.env=pure false:=by rfl)(hf:X.fn x=true∨X.env.scope.names.lookup x=some .local:=by first|exact .inl rfl|exact .inr rfl|assumption):
  PS X (.Assign [.Name x Ay] e pos) (yn te (kF i)):=by
 intro af s U H D I h;refine wpAny_Assign_Name (cL (he af s U H _ I h) λv s1 ⟨y,H1,I1,r1,q1⟩=>?_) hs;exact yk I1 hN hi hx r1 (λs2 I2=>⟨_,H1,I2,q1⟩) hf
end
structure It where
 go:Nat->Hp->Prop
 yld:Nat->Hp->V->Hp->Prop
 stop:Nat->Hp->Prop
def oC (X:Cx)(af:List (Addr×Obj))(H:Hp)(b:Addr):Prop :=
 H b=none/\b≠X.env.locals/\b∉X.fs/\(b∈X.ex∨X.s₀.heap.objs.size<=b)/\(∀x c,X.env.cells.lookup x=some c->c≠b)/\∀p∈X.pn++af,p.1≠b
theorem Inv.fpOk (I:Inv X af U H s)(hb:s.heap.objs.size<=b)(hn:H' b=none):oC X af H' b:=by
 refine⟨hn,Nat.ne_of_gt (vQ I.lt hb),I.nofs hb,.inr (vR I.sz hb),λx c e z=>?_,λp hp z=>?_⟩
 ·obtain⟨v,q⟩:=I.cell x c e;exact absurd (vQ q.lt (by rw[z];exact hb)) (Nat.lt_irrefl _)
 ·exact absurd (vQ (vX (I.pin p hp).1) (by rw[z];exact hb)) (Nat.lt_irrefl _)
structure Turn (P:Program)(w:World)(K:Frag)(tg:Expr)(J:It)(fp:List Addr)(it:Addr)(tn:Nat->Heap->Prop):Prop where
 mem:it∈fp
 obj:∀i h,tn i h->∀b∈fp,∃o,h.get? b=some o/\∀v,o.data≠.cell v
 keep:∀i h h',tn i h->(∀b∈fp,∀o,h.get? b=some o->h'.get? b=some o)->tn i h'
 item:∀(X:Cx),X.prog=P->X.w=w->X.K=K->X.calm=true->∀(i:Nat)(af:List (Addr×Obj))(s:Shared)(U:St)(H:Hp)(E:Value->Shared->Prop),Inv X af U H s->(∀b∈fp,oC X af H b)->tn i s.heap->J.go i H ->
  wpAny (model P w) X.A (pyNext (.ref it)) (λr s1=>∃u,r=some u /\
   wpAny (model P w) X.A (letOwnedTupleGo tg (.ref it) u) (λ_ s2=>∃x H',Inv X af U H' s2/\bf x u/\J.yld i H x H'/\tn (i+1) s2.heap/\∀b∈fp,H' b=none) E s1) E s
 done:∀(X:Cx),X.prog=P->X.w=w->X.K=K->X.calm=true->∀(i:Nat)(af:List (Addr×Obj))(s:Shared)(U:St)(H:Hp)(E:Value->Shared->Prop),Inv X af U H s->(∀b∈fp,oC X af H b)->tn i s.heap->J.stop i H ->
  wpAny (model P w) X.A (pyNext (.ref it)) (λr s1=>r=none/\Inv X af U H s1) E s
 self:∀(A:Around)(i:Nat)(s:Shared)(Q:Value->Shared->Prop)(E:Value->Shared->Prop),tn i s.heap->Q (.ref it) s->wpAny (model P w) A (pyIter (.ref it)) Q E s
abbrev TI:=St->Hp->(It->Hp->Prop)->Prop
def Wi (X:Cx)(af:List (Addr×Obj))(U:St)(tg:Expr)(R:It->Hp->Prop)(Tn:Value)(s2:Shared):Prop :=
 ∃(it:Addr)(fp:List Addr)(tn:Nat->Heap->Prop)(J:It)(H':Hp),Tn=.ref it/\Inv X af U H' s2/\Turn X.prog X.w X.K tg J fp it tn/\tn 0 s2.heap/\(∀b∈fp,oC X af H' b)/\R J H'
def PI (X:Cx)(tg dB:Expr)(wi:TI):Prop :=
 ∀(af:List (Addr×Obj))(s:Shared)(U:St)(H:Hp)(R:It->Hp->Prop),Inv X af U H s->wi U H R ->
  wq X (eval dB X.env) (λv s1=>wq X (pyIter v) (Wi X af U tg R) X.xe s1) X.xe s
theorem tX (ho:s.heap.get? it=some o)(hc:o.cls=.type n)(hd:o.data=.fields vs)
    (hn:["enumerate","zip","dict_itemiterator","dict_reverseitemiterator","odict_iterator","itertools.zip_longest","itertools.pairwise"].contains n=false) (hQ:Q () s):wpAny M A (letOwnedTupleGo tg (.ref it) u) Q E s:=by
  unfold letOwnedTupleGo;cases tg<;>first
    |exact wY hQ
    | (cases u<;>first
        |exact wY hQ
        | (refine wX (wpAny_load ho ?_)
           rw[hc,hd]
           show wpAny M A (if(["enumerate","zip","dict_itemiterator","dict_reverseitemiterator","odict_iterator","itertools.zip_longest","itertools.pairwise"].contains n && vs[0]? == some (rawInt _))=true then _ else _) Q E s
           rw[if_neg (by intro h;rw[hn,Bool.false_and]at h;cases h)]
           exact wY hQ))
noncomputable def Wj (K:Frag)(a:Addr):It :=
 ⟨λi H=>∃xs x,jl K H a xs/\xs[i]? = some x,λi H x H'=>H'=H/\∀xs,jl K H a xs->xs[i]? = some x,λi H=>∃xs,jl K H a xs/\xs.length<=i⟩
noncomputable def Wk (K:Frag)(a:Addr):It :=
 ⟨λi H=>∃xs x,jB K H a xs/\xs[i]? = some x,λi H x H'=>H'=H/\∀xs,jB K H a xs->xs[i]? = some x,λi H=>∃xs,jB K H a xs/\xs.length<=i⟩
noncomputable def SQ (lo:Int)(n:Nat):It:=⟨λi _=>i<n,λi H x H'=>H'=H/\x=.int (lo+i),λi _=>n<=i⟩
theorem DF {P:Program}{w:World}{K:Frag}{tg:Expr}(a it:Addr):Turn P w K tg (Wj K a) [it] it (λi h=>h.IsListIter it a i) where
 mem:=by simp
 obj:=λi h st b hb=>by
  have e:b=it:=by simpa using hb
  subst e;obtain⟨o,e,c,d⟩:=st;exact⟨o,e,λv z=>by rw[d]at z;cases z⟩
 keep:=λi h h' st k=>st.at λo e=>k it (by simp) o e
 item:=by
  intro X hP hw hK hc i af s U H E I hf st hg;subst hP hw hK;obtain⟨xs,x,hq,hx⟩:=hg;obtain⟨its,rv,p,hz⟩:=I.list hq;obtain⟨u,hu,ru⟩:=rv.get hx;obtain⟨f0,f1,f2,f3,f4,f5⟩:=hf it (by simp);refine wpAny_pyNext_list_item st p.isList (x:=u) (by simpa using hu) λh' mC sb=>?_;have I1:Inv X af U H { s with heap:=h' }:=I.turned (t':=s.toks) (λb o hb e=>(sb.2 b hb).trans e) f0 f1 f3 f4 f5;obtain⟨o,e,c,d⟩:=id mC;exact⟨u,rfl,tX (s:={ s with heap:=h' }) e c d (by decide) ⟨x,H,I1,ru,⟨rfl,λys hy=>by rw[I.list_inj hy hq];exact hx⟩,mC,λb hb=>(hf b hb).1⟩⟩
 done:=by
  intro X hP hw hK hc i af s U H E I hf st hg;subst hP hw hK;obtain⟨xs,hq,hx⟩:=hg;obtain⟨its,rv,p,hz⟩:=I.list hq;obtain⟨f0,f1,f2,f3,f4,f5⟩:=hf it (by simp);have hl:=rv.length;exact wpAny_pyNext_list_end (I.ok.hd hc) st p.isList (by simp;omega) λh' eb=>⟨rfl,I.turned (t':=s.toks) (λb o hb e=>eb b o hb e) f0 f1 f3 f4 f5⟩
 self:=λ_ _ _ _ _ st h=>wpAny_pyIter_listiter st h
theorem AB {P:Program}{w:World}{K:Frag}{tg:Expr}(a it:Addr):Turn P w K tg (Wk K a) [it] it (λi h=>h.IsTupleIter it a i) where
 mem:=by simp
 obj:=λi h st b hb=>by
  have e:b=it:=by simpa using hb
  subst e;obtain⟨o,e,c,d⟩:=st;exact⟨o,e,λv z=>by rw[d]at z;cases z⟩
 keep:=λi h h' st k=>st.at λo e=>k it (by simp) o e
 item:=by
  intro X hP hw hK hc i af s U H E I hf st hg;subst hP hw hK;obtain⟨xs,x,hq,hx⟩:=hg;obtain⟨its,rv,p,hz⟩:=I.tuple hq;obtain⟨u,hu,ru⟩:=rv.get hx;obtain⟨f0,f1,f2,f3,f4,f5⟩:=hf it (by simp);refine wpAny_pyNext_tuple_item st (show s.heap.IsTuple a its.toArray from p) (x:=u) (by simpa using hu) λh' mC sb=>?_;have I1:Inv X af U H { s with heap:=h' }:=I.turned (t':=s.toks) (λb o hb e=>(sb.2 b hb).trans e) f0 f1 f3 f4 f5;obtain⟨o,e,c,d⟩:=id mC;exact⟨u,rfl,tX (s:={ s with heap:=h' }) e c d (by decide) ⟨x,H,I1,ru,⟨rfl,λys hy=>by rw[I.tuple_inj hy hq];exact hx⟩,mC,λb hb=>(hf b hb).1⟩⟩
 done:=by
  intro X hP hw hK hc i af s U H E I hf st hg;subst hP hw hK;obtain⟨xs,hq,hx⟩:=hg;obtain⟨its,rv,p,hz⟩:=I.tuple hq;obtain⟨f0,f1,f2,f3,f4,f5⟩:=hf it (by simp);have hl:=rv.length;exact wpAny_pyNext_tuple_end (I.ok.hd hc) st (show s.heap.IsTuple a its.toArray from p) (by simp;omega) λh' eb=>⟨rfl,I.turned (t':=s.toks) (λb o hb e=>eb b o hb e) f0 f1 f3 f4 f5⟩
 self:=λ_ _ _ _ _ st h=>wpAny_pyIter_tupleiter st h
theorem AD {P:Program}{w:World}{K:Frag}{tg:Expr}(it:Addr)(lo:Int)(n:Nat):Turn P w K tg (SQ lo n) [it] it (λi h=>IsRangeIter h it (lo+(i:Nat)*1) ((n:Int) - (i:Nat)) 1) where
 mem:=by simp
 obj:=λi h st b hb=>by
  have e:b=it:=by simpa using hb
  subst e;exact⟨_,st,λv z=>by
   have z':Data.fields _=Data.cell v:=z;cases z'⟩
 keep:=λi h h' st k=>k it (by simp) _ st
 item:=by
  intro X hP hw hK hc i af s U H E I hf st hg;subst hP hw hK;obtain⟨f0,f1,f2,f3,f4,f5⟩:=hf it (by simp);have W:=Walks.range (prog:=X.prog) (w:=X.w) (I.ok.hd hc) it lo 1 n;refine W.item i s _ _ hg st λv h' tk hv mC kk=>?_;obtain⟨t,rfl⟩:=hv;have I1:Inv X af U H { s with heap:=h',toks:=tk }:=I.turned (λb o hb e=>kk b o (by simpa using hb) e) f0 f1 f3 f4 f5;refine⟨_,rfl,tX (s:={ s with heap:=h',toks:=tk }) (n:="range_iterator") mC rfl rfl (by decide) ⟨.int (lo+i),H,I1,⟨t,?_⟩,⟨rfl,rfl⟩,mC,λb hb=>(hf b hb).1⟩⟩;rw[Int.mul_one]
 done:=by
  intro X hP hw hK hc i af s U H E I hf st hg;subst hP hw hK;obtain⟨f0,f1,f2,f3,f4,f5⟩:=hf it (by simp);exact wpAny_pyNext_range_end (I.ok.hd hc) st (by have:n<=i:=hg;omega) λh' eb=>⟨rfl,I.turned (t':=s.toks) (λb o hb e=>eb b o hb e) f0 f1 f3 f4 f5⟩
 self:=λ_ _ _ _ _ st h=>wpAny_pyIter_rangeiter st h
section
variable {X:Cx}{tg:Expr}
def Q1 (K:Frag)(tl:TE):TI:=λU H R=>tl U H λx H1=>∃a,x=.ref a/\(∃xs,jl K H1 a xs)/\R (Wj K a) H1
def TZ (K:Frag)(tl:TE):TI:=λU H R=>tl U H λx H1=>∃a,x=.ref a/\(∃xs,jB K H1 a xs)/\R (Wk K a) H1
theorem IM {l:Expr}{tl:TE}(hl:PE X l tl):PI X tg l (Q1 X.K tl):=by
 intro af s U H R I h;refine cL (hl af s U H _ I h) λv s1 ⟨x,H1,I1,r1,q1⟩=>?_;obtain⟨a,e,⟨xs,hq⟩,q⟩:=q1;subst e;cases r1
 obtain⟨its,rv,p,hz⟩:=I1.list hq;refine wpAny_pyIter_list p.isList ?_;refine⟨s1.heap.objs.size,[s1.heap.objs.size],_,_,H1,rfl,I1.kept (t':=s1.toks) λb o e=>vZ _ e,DF a _,⟨_,vY _ rfl,rfl,rfl⟩,λb hb=>?_,q⟩;have e:b=s1.heap.objs.size:=by simpa using hb
 subst e;exact I1.fpOk (vT _) (I1.hok.fresh (vT _))
theorem Nb {l:Expr}{tl:TE}(hl:PE X l tl):PI X tg l (TZ X.K tl):=by
 intro af s U H R I h;refine cL (hl af s U H _ I h) λv s1 ⟨x,H1,I1,r1,q1⟩=>?_;obtain⟨a,e,⟨xs,hq⟩,q⟩:=q1;subst e;cases r1
 obtain⟨its,rv,p,hz⟩:=I1.tuple hq;refine wpAny_pyIter_tuple (show s1.heap.IsTuple a its.toArray from p) ?_;refine⟨s1.heap.objs.size,[s1.heap.objs.size],_,_,H1,rfl,I1.kept (t':=s1.toks) λb o e=>vZ _ e,AB a _,⟨_,vY _ rfl,rfl,rfl⟩,λb hb=>?_,q⟩;have e:b=s1.heap.objs.size:=by simpa using hb
 subst e;exact I1.fpOk (vT _) (I1.hok.fresh (vT _))
theorem Fq {af:List (Addr×Obj)}{U:St}{H:Hp}{s:Shared}{R:It->Hp->Prop}{E:Value->Shared->Prop}{lo hi:Int}{t u v:Tok}{tk:Nat}(I:Inv X af U H s)(h1 : -(2 ^ 62)<=lo)(h2:lo<2 ^ 62)(h3 : -(2 ^ 62)<=hi)(h4:hi<2 ^ 62)
  (q:R (SQ lo (hi - lo).toNat) H):wq X (pyIter (.ref s.heap.objs.size)) (Wi X af U tg R) E { s with heap:=s.heap.push { cls:=.type "range",data:=.fields #[.int lo t,.int hi u,.int 1 v] },toks:=tk }:=by
 refine wpAny_pyIter_range (IsRange.new ..) (small_one h1 h2 h3 h4) ?_;have I1:Inv X af U H { s with heap:=s.heap.push { cls:=.type "range",data:=.fields #[.int lo t,.int hi u,.int 1 v] },toks:=tk }:=I.kept λb o e=>vZ _ e;refine⟨(s.heap.push { cls:=.type "range",data:=.fields #[.int lo t,.int hi u,.int 1 v] }).objs.size,[(s.heap.push { cls:=.type "range",data:=.fields #[.int lo t,.int hi u,.int 1 v] }).objs.size],_,_,H,rfl,
  I1.kept (t':=tk) λb o e=>vZ _ e,AD _ lo (hi - lo).toNat,?_,λb hb=>?_,q⟩
 ·have e1:lo+((0:Nat):Int)*1=lo:=by simp
  have e2:(((hi - lo).toNat:Nat):Int) - ((0:Nat):Int)=Builtin.Range.rangeSize lo hi 1:=by rw[rangeSize_one];split<;>omega
  show IsRangeIter _ _ (lo+((0:Nat):Int)*1) ((((hi - lo).toNat:Nat):Int) - ((0:Nat):Int)) 1;rw[e1,e2];exact vY _ rfl
 ·have e:b=(s.heap.push { cls:=.type "range",data:=.fields #[.int lo t,.int hi u,.int 1 v] }).objs.size:=by simpa using hb
  subst e;exact I1.fpOk (vT _) (I1.hok.fresh (vT _))
def Q2 (ta:TA):TI:=λU H R=>ta U H λvs H1=>∃j:Int,vs=[.int j]/\-(2 ^ 62)<=j/\j<2 ^ 62/\R (SQ 0 j.toNat) H1
theorem DG {a:Expr}{ta:TA}{p pos:Pos}(hg:Gl X "range")(hm:X.mg "range" = none)(ha:PA X [a] ta)(hs:starEach [a] X.env=[(false,eval a X.env)]:=by rfl):PI X tg (.Call (.Name "range" p) [a] [] pos) (Q2 ta):=by
 intro af s U H R I h;refine Call_ (mF I hg hm boot_range (PyProof.Rows.callWith_type1 (cL (ha pos af s U H _ I h) λus s1 ⟨vs,H1,I1,r1,q1⟩=>?_) hs rfl));obtain⟨j,e,q1,q2,q⟩:=q1;subst e;cases r1 with
 |cons r rr=>
  cases rr
  obtain⟨t,rfl⟩:=r;exact call_range_1 (Fq I1 (by omega) (by omega) q1 q2 (by simpa using q))
def Nc (wi:TI)(g:TG)(tb:TS):TS:=λD U H=>wi U H λJ H1=>∃W:Nat->Nat->St->Hp->Prop,(∃m,W 0 m U H1)/\∀i m U H,W i m U H ->
 (J.stop i H/\D.nx U H)∨(J.go i H/\∃N:St->Hp->Prop,(∀σ' H',N σ' H'->∃m',m'<m/\W (i+1) m' σ' H')/\∀x H',J.yld i H x H'->g x U H' λσ2 H2=>tb { D with nx:=N,ct:=N,bk:=D.nx } σ2 H2)
def oD (fp:List Addr)(h:Heap):List (Addr×Obj):=fp.filterMap λb=>(h.get? b).map λo=>(b,o)
theorem jU {fp:List Addr}{h:Heap}{b:Addr}{o:Obj}(hb:b∈fp)(e:h.get? b=some o):(b,o)∈oD fp h:=List.mem_filterMap.mpr ⟨b,hb,by rw[e];rfl⟩
theorem DH (hp:p∈oD fp h):p.1∈fp/\h.get? p.1=some p.2:=by
 obtain⟨b,hb,e⟩:=List.mem_filterMap.mp hp;cases q:h.get? b with
 |none=>rw[q]at e;cases e
 |some o=>
  rw[q]at e;have e':(b,o)=p:=vK e;subst e';exact⟨hb,q⟩
theorem Inv.pinned (I:Inv X af U H s)(hf:∀b∈fp,oC X af H b)(ho:∀b∈fp,∃o,s.heap.get? b=some o/\∀v,o.data≠.cell v):Inv X (af++oD fp s.heap) U H s :=
 I.pins_of λp hp=>(List.mem_append.mp hp).elim (λz=>I.pin p (mY _ z)) λz=>by
  obtain⟨hb,e⟩:=DH z;obtain⟨f0,f1,f2,_⟩:=hf p.1 hb;obtain⟨o,e',d⟩:=ho p.1 hb;rw[e]at e';cases e';exact⟨e,f0,f1,f2,d⟩
theorem Inv.unpinned (I:Inv X (af++pl) U H s):Inv X af U H s:=I.pins_of λp hp=>I.pin p (mY _ (List.mem_append_left _ hp))
theorem Fs {dB:Expr}{body:List Stmt}{wi:TI}{g:TG}{tb:TS}{pos:Pos}(hp:PassesOwn (model X.prog X.w) X.A X.env X.xe)(hc:X.calm=true)(hi:PI X tg dB wi)(hg:PG X tg g)(hb:w6 X body tb)
  (hs:∀x,foldedSetIterable dB X.env x=pure x:=by intro _;rfl):PS X (.For tg dB body [] pos) (Nc wi g tb):=by
 intro af s U H D I h;refine wpAny_For (cL (hi af s U H _ I h) λv s1 h1=>cL h1 λTn s2 h2=>?_) hs;obtain⟨it,fp,tn,J,H2,e,I2,T,KS,f2,W,⟨m0,w0⟩,OL⟩:=h2;subst e
 -- what stays true of the iterator's objects through the loop
 have OM:∀ {H':Hp},(∀b∈fp,H' b=none)->∀b∈fp,oC X af H' b:=λhn b hb=>⟨hn b hb,(f2 b hb).2⟩;refine codeAny_forLoop_any (λn s'=>∃i σ' H',Inv X af σ' H' s'/\tn i s'.heap/\(∀b∈fp,H' b=none)/\W i n σ' H') ?_ m0 ⟨0,U,H2,I2,KS,λb hb=>(f2 b hb).1,w0⟩;rintro n s3 ⟨i,σ3,H3,I3,WT,WU,w3⟩;rcases OL i n σ3 H3 w3 with⟨stop,qn⟩|⟨go,N,hN,step⟩
 ·refine wpAny_passesOwn hp (cL (T.done X rfl rfl rfl hc i af s3 σ3 H3 X.xe I3 (OM WU) WT stop) λr s4 ⟨hr,I4⟩=>?_);subst hr;exact wpAny_execs_nil ⟨σ3,H3,I4,qn⟩
 ·refine wpAny_passesOwn hp (cL (T.item X rfl rfl rfl hc i af s3 σ3 H3 X.xe I3 (OM WU) WT go) λr s4 ⟨u,hr,h4⟩=>?_);subst hr;refine wpAny_passesOwn hp (cL h4 λ_ s5 ⟨x,H5,I5,r5,y5,US,UT⟩=>?_);have Zg:=I5.pinned (OM UT) (T.obj _ _ US);refine wpAny_passesOwn hp (cL (hg _ s5 σ3 H5 x u _ Zg r5 (step x H5 y5)) λ_ s6 ⟨σ6,H6,I6,q6⟩=>?_);refine wpAny_passesOwn hp (cL (hb _ s6 σ6 H6 _ I6 q6) λf s7 q7=>?_);have again:∀ {σ7:St}{H7:Hp},Inv X (af++oD fp s5.heap) σ7 H7 s7->N σ7 H7->∃m,m<n/\∃i σ' H',Inv X af σ' H' s7/\tn i s7.heap/\(∀b∈fp,H' b=none)/\W i m σ' H':=λ{σ7 H7} I7 n7=>by
   obtain⟨m',hm,w7⟩:=hN σ7 H7 n7;refine⟨m',hm,i+1,σ7,H7,I7.unpinned,T.keep _ _ _ US λb hb o e=>(I7.pin (b,o) (mY _ (mY _ (jU hb e)))).1,λb hb=>?_,w7⟩;obtain⟨o,e,d⟩:=T.obj _ _ US b hb;exact(I7.pin (b,o) (mY _ (mY _ (jU hb e)))).2.1
  cases f with
  |next=>obtain⟨σ7,H7,I7,n7⟩:=q7;exact again I7 n7
  |cont=>obtain⟨σ7,H7,I7,n7⟩:=q7;exact again I7 n7
  |brk=>obtain⟨σ7,H7,I7,q7⟩:=q7;exact⟨σ7,H7,I7.unpinned,q7⟩
  |ret v=>obtain⟨x7,σ7,H7,I7,r7,q7⟩:=q7;exact⟨x7,σ7,H7,I7.unpinned,r7,q7⟩
end
abbrev R2:=V->V->Hp->VK->Prop
def dQ (X:Cx)(f:Value->Value->Sem Value)(r:R2):Prop :=
 ∀(af:List (Addr×Obj))(s:Shared)(U:St)(H:Hp)(x y:V)(v u:Value)(Q:VK),Inv X af U H s->bf x v->bf y u->r x y H Q ->
  wq X (f v u) (EP X af U Q) X.xe s
def Q3 (X:Cx)(f:Value->Sem Value)(r:V->Hp->VK->Prop):Prop :=
 ∀(af:List (Addr×Obj))(s:Shared)(U:St)(H:Hp)(x:V)(v:Value)(Q:VK),Inv X af U H s->bf x v->r x H Q ->
  wq X (f v) (EP X af U Q) X.xe s
def cm (X:Cx)(f:Value)(r:List V->Hp->VK->Prop):Prop :=
 ∀(af:List (Addr×Obj))(s:Shared)(U:St)(H:Hp)(xs:List V)(us:List Value)(Q:VK),Inv X af U H s->bp xs us->r xs H Q ->
  wq X (call f us) (EP X af U Q) X.xe s
def SR (r:R2)(ta tb:TE):TE:=λU H Q=>ta U H λx H1=>tb U H1 λy H2=>r x y H2 Q
def Yn (r:V->Hp->VK->Prop)(ta:TE):TE:=λU H Q=>ta U H λx H1=>r x H1 Q
def rI (C:Int->Int->Prop)(g:Int->Int->V):R2:=λx y H Q=>∃i j,x=.int i/\y=.int j/\C i j/\Q (g i j) H
def Ir (g:Int->Int->V):R2:=λx y H Q=>∃i j,x=.int i/\y=.int j/\Q (g i j) H
def rU (g:Int->V):V->Hp->VK->Prop:=λx H Q=>∃i,x=.int i/\Q (g i) H
section
variable {X:Cx}{a b c:Expr}{ta tb tc:TE}{pos:Pos}
theorem Nd (ha:PE X a ta)(hb:PE X b tb){af:List (Addr×Obj)}{s:Shared}{U:St}{H:Hp}{R:V->V->Hp->Prop}(I:Inv X af U H s)
  (h:ta U H λx H1=>tb U H1 λy H2=>R x y H2) {Q:Value->Shared->Prop}{f:Value->Value->Sem Value}
  (hf:∀v u s2 x y H2,Inv X af U H2 s2->bf x v->bf y u->R x y H2->wq X (f v u) Q X.xe s2):
  wq X (eval a X.env) (λv s₁=>wq X (eval b X.env) (λu s₂=>wq X (f v u) Q X.xe s₂) X.xe s₁) X.xe s:=by
 refine cL (ha af s U H _ I h) λv s1 ⟨x,H1,I1,r1,q1⟩=>?_;refine cL (hb af s1 U H1 _ I1 q1) λu s2 ⟨y,H2,I2,r2,q2⟩=>?_;exact hf v u s2 x y H2 I2 r1 r2 q2
theorem Lr {op:Operator}{r:R2}(ho:dQ X (binaryOp op) r)(ha:PE X a ta)(hb:PE X b tb):PE X (.BinOp a op b pos) (SR r ta tb):=by
 intro af s U H Q I h;exact wpAny_BinOp (Nd ha hb I h λv u s2 x y H2 I2 rx ry q=>ho af s2 U H2 x y v u Q I2 rx ry q)
theorem Q4 {op:UnaryOp}{r:V->Hp->VK->Prop}(ho:Q3 X (unaryOp op) r)(ha:PE X a ta):PE X (.UnaryOp op a pos) (Yn r ta):=by
 intro af s U H Q I h;exact UnaryOp_ (cL (ha af s U H _ I h) λv s1 ⟨x,H1,I1,r1,q1⟩=>ho af s1 U H1 x v Q I1 r1 q1)
theorem SS {f:Value->Value->Sem Value}{C:Int->Int->Prop}{g:Int->Int->Int}
  (rule:∀(i j:Int)(t u:Tok)(s:Shared)(Q:Value->Shared->Prop)(E:Value->Shared->Prop),C i j->Q (.int (g i j) s.toks) { s with toks:=s.toks+1 }->wq X (f (.int i t) (.int j u)) Q E s):
  dQ X f (rI C λi j=>.int (g i j)):=by
 intro af s U H x y v u Q I rx ry h;obtain⟨i,j,rfl,rfl,hc,q⟩:=h;obtain⟨t,rfl⟩:=rx;obtain⟨t',rfl⟩:=ry;exact rule i j t t' s _ _ hc ⟨.int (g i j),H,I.tok _,⟨_,rfl⟩,q⟩
theorem Nf {f:Value->Value->Sem Value}{g:Int->Int->Int}
  (rule:∀(i j:Int)(t u:Tok)(s:Shared)(Q:Value->Shared->Prop)(E:Value->Shared->Prop),Q (.int (g i j) s.toks) { s with toks:=s.toks+1 }->wq X (f (.int i t) (.int j u)) Q E s):
  dQ X f (Ir λi j=>.int (g i j)):=by
 intro af s U H x y v u Q I rx ry h;obtain⟨i,j,rfl,rfl,q⟩:=h;obtain⟨t,rfl⟩:=rx;obtain⟨t',rfl⟩:=ry;exact rule i j t t' s _ _ ⟨.int (g i j),H,I.tok _,⟨_,rfl⟩,q⟩
theorem IN {f:Value->Value->Sem Value}{g:Int->Int->Bool}
  (rule:∀(i j:Int)(t u:Tok)(s:Shared)(Q:Value->Shared->Prop)(E:Value->Shared->Prop),Q (.bool (g i j)) s->wq X (f (.int i t) (.int j u)) Q E s):
  dQ X f (Ir λi j=>.bl (g i j)):=by
 intro af s U H x y v u Q I rx ry h;obtain⟨i,j,rfl,rfl,q⟩:=h;obtain⟨t,rfl⟩:=rx;obtain⟨t',rfl⟩:=ry;exact rule i j t t' s _ _ ⟨.bl (g i j),H,I,rfl,q⟩
def Q5 (i j:Int):Prop:=0<j/\j<1073741824
def IP (i j:Int):Prop:=(-(2 ^ 64)<i/\i<2 ^ 64)∨(-(2 ^ 64)<j/\j<2 ^ 64)
theorem IP.ok (h:IP i j):IntMulOk i j:=by
 rcases h with⟨h1,h2⟩|⟨h1,h2⟩
 ·exact .of_left (intBits_le_64 h1 h2)
 ·exact .of_right (intBits_le_64 h1 h2)
theorem AE (k:Nat):(0:Int)<=2 ^ k:=by
 rw[two_pow_cast];exact Int.natCast_nonneg _
theorem Ng:dQ X (binaryOp .Add) (Ir λi j=>.int (i+j)):=Nf λ_ _ _ _ _ _ _ q=>add_int q
theorem Nh:dQ X (binaryOp .Sub) (Ir λi j=>.int (i - j)):=Nf λ_ _ _ _ _ _ _ q=>sub_int q
theorem Ni:dQ X (binaryOp .Mult) (rI IP λi j=>.int (i*j)):=SS λ_ _ _ _ _ _ _ hc q=>mul_int q hc.ok
theorem IQ:dQ X (binaryOp .FloorDiv) (rI Q5 λi j=>.int (i / j)):=SS λi j _ _ _ _ _ hc q=>by
 have h1:(0:Int)<j:=hc.1;have h2:j<1073741824:=hc.2;exact floordiv_int (by omega) (by rw[Int.fdiv_eq_ediv_of_nonneg i (by omega)];exact q) (.inl (PyProof.noPylong_small (by omega)))
theorem Nj:dQ X (binaryOp .Mod) (rI (λ_ j=>0<j) λi j=>.int (i % j)):=SS λi j _ _ _ _ _ hc q=>by
 have h1:(0:Int)<j:=hc;exact mod_int' (by omega) (by rw[Int.fmod_eq_emod_of_nonneg i (by omega)];exact q)
theorem Nk:dQ X (binaryOp .RShift) (rI (λ_ j=>0<=j) λi j=>.int (i / 2 ^ j.toNat)):=SS λi j _ _ _ _ _ hc q=>
 rshift_int hc (by rw[Int.fdiv_eq_ediv_of_nonneg i (AE _)];exact q)
theorem Nl:dQ X (binaryOp .BitAnd) (Ir λi j=>.int (Builtin.bitAnd i j)):=Nf λ_ _ _ _ _ _ _ q=>and_int q
theorem Yo {f:Value->Sem Value}{g:Int->Int}
  (rule:∀(i:Int)(t:Tok)(s:Shared)(Q:Value->Shared->Prop)(E:Value->Shared->Prop),Q (.int (g i) s.toks) { s with toks:=s.toks+1 }->wq X (f (.int i t)) Q E s):
  Q3 X f (rU λi=>.int (g i)):=by
 intro af s U H x v Q I rx h;obtain⟨i,rfl,q⟩:=h;obtain⟨t,rfl⟩:=rx;exact rule i t s _ _ ⟨.int (g i),H,I.tok _,⟨_,rfl⟩,q⟩
theorem Nm:Q3 X (unaryOp .USub) (rU λi=>.int (-i)):=Yo λ_ _ _ _ _ q=>neg_int q
theorem DI:dQ X (binaryOp .Add) (λx y H Q=>∃i k,x=.int i/\y=.bl k/\Q (.int (i+b2i k)) H):=by
 intro af s U H x y v u Q I rx ry h;obtain⟨i,k,rfl,rfl,q⟩:=h;obtain⟨t,rfl⟩:=rx;cases ry
 exact add_int_bool ⟨.int (i+b2i k),H,I.tok _,⟨_,rfl⟩,q⟩
end
section
variable {X:Cx}{a b c:Expr}{ta tb tc:TE}{pos:Pos}
theorem Q6:dQ X (compareOp .Lt) (Ir λi j=>.bl (decide (i<j))):=IN λ_ _ _ _ _ _ _ q=>lt_int q
theorem Q7:dQ X (compareOp .LtE) (Ir λi j=>.bl (decide (i<=j))):=IN λ_ _ _ _ _ _ _ q=>le_int q
theorem Q8:dQ X (compareOp .Gt) (Ir λi j=>.bl (decide (j<i))):=IN λ_ _ _ _ _ _ _ q=>gt_int q
theorem Q9:dQ X (compareOp .GtE) (Ir λi j=>.bl (decide (j<=i))):=IN λ_ _ _ _ _ _ _ q=>ge_int q
theorem dQ.or (h:dQ X f r)(h':dQ X f r'):dQ X f (λx y H Q=>r x y H Q∨r' x y H Q):=by
 intro af s U H x y v u Q I rx ry q;rcases q with q|q
 ·exact h af s U H x y v u Q I rx ry q
 ·exact h' af s U H x y v u Q I rx ry q
theorem Ua (b:Expr)(h:op≠.In:=by decide)(h2:op≠.NotIn:=by decide):behindInMarks op b=false:=by
 have e1:(op == CmpOp.In)=false:=by cases op<;>first|rfl|exact absurd rfl h
 have e2:(op == CmpOp.NotIn)=false:=by cases op<;>first|rfl|exact absurd rfl h2
 cases b<;>simp[behindInMarks,e1,e2]
theorem IS (ho:dQ X (compareOp op) r)(ha:PE X a ta)(hb:PE X b tb)(hm:behindInMarks op b=false):PE X (.Compare a [op] [b] pos) (SR r ta tb):=by
 intro af s U H Q I h;exact wpAny_Compare1 (Nd ha hb I h λv u s2 x y H2 I2 rx ry q=>ho af s2 U H2 x y v u Q I2 rx ry q) hm
def QA (t:TE):TT:=λU H Q=>t U H λx H'=>∃k,x=.bl k/\Q k H'
theorem IT {op:CmpOp}{r:R2}(ho:dQ X (compareOp op) r)(ha:PE X a ta)(hb:PE X b tb)(hm:behindInMarks op b=false):PT X (.Compare a [op] [b] pos) (QA (SR r ta tb)):=by
 intro af s U H Q I h;refine wpAny_isTrue_Compare1 (cL (ha af s U H _ I h) λv s1 ⟨x,H1,I1,r1,q1⟩=>cL (hb af s1 U H1 _ I1 q1) λu s2 ⟨y,H2,I2,r2,q2⟩=>
  cL (ho af s2 U H2 x y v u _ I2 r1 r2 q2) λc s3 ⟨z,H3,I3,r3,k,e,q3⟩=>?_) hm
 subst e;cases r3
 exact wpAny_truthy_bool ⟨H3,I3,q3⟩
def Ft (r r':R2)(ta tb tc:TE):TE:=λU H Q=>ta U H λx H1=>tb U H1 λy H2=>r x y H2 λz H3=>∃k,z=.bl k /\
 (if k=true then tc U H3 λw' H4=>r' y w' H4 Q else Q (.bl false) H3)
theorem Fu {op PF:CmpOp}{r r':R2}(ho:dQ X (compareOp op) r)(tQ:dQ X (compareOp PF) r')(ha:PE X a ta)(hb:PE X b tb)(hc:PE X c tc)
  (hm:lastMarks [op,PF] [b,c]=false:=by with_unfolding_all rfl):PE X (.Compare a [op,PF] [b,c] pos) (Ft r r' ta tb tc):=by
 intro af s U H Q I h;refine Compare_chain (cL (ha af s U H _ I h) λv s1 ⟨x,H1,I1,r1,q1⟩=>chain_link (cL (hb af s1 U H1 _ I1 q1) λu s2 ⟨y,H2,I2,r2,q2⟩=>
  cL (ho af s2 U H2 x y v u _ I2 r1 r2 q2) λd s3 ⟨z,H3,I3,r3,k,e,q3⟩=>?_)) hm
 subst e;cases r3
 refine wpAny_truthy_bool ?_;cases k with
 |false=>exact ite_ff ⟨.bl false,H3,I3,rfl,q3⟩
 |true=>exact ite_tt (chain_last (cL (hc af s3 U H3 _ I3 q3) λw' s4 ⟨z',H4,I4,r4,q4⟩=>tQ af s4 U H4 y z' u w' Q I4 r2 r4 q4))
theorem oE:(sizeLine:Nat)<2 ^ 63:=by rw[sizeLine_eq];decide
theorem AF:dQ X (binaryOp .Add) (λx y H Q=>∃i j,x=.str i/\y=.str j/\i.length+j.length<=sizeLine/\Q (.str (i++j)) H):=by
 intro af s U H x y v u Q I rx ry h;obtain⟨i,j,rfl,rfl,hz,q⟩:=h;obtain⟨t,rfl⟩:=rx;obtain⟨t',rfl⟩:=ry;exact add_str (λt' tk=>⟨.str (i++j),H,I.tok _,⟨_,rfl⟩,q⟩) hz
theorem iH (r:bp [x] us):∃u,us=[u]/\bf x u:=by
 cases r with
 |cons r1 r2=>cases r2;exact⟨_,rfl,r1⟩
theorem Fv (r:bp [x,y] us):∃u w',us=[u,w']/\bf x u/\bf y w':=by
 cases r with
 |cons r1 r2=>
  cases r2 with
  |cons r3 r4=>cases r4;exact⟨_,_,rfl,r1,r3⟩
theorem DJ (hc:X.calm=true):cm X (.builtin "max") (λxs H Q=>∃i j,xs=[.int i,.int j]/\Q (.int (if j > i then j else i)) H):=by
 intro af s U H xs us Q I r h;obtain⟨i,j,rfl,q⟩:=h;obtain⟨u,w',rfl,⟨t,rfl⟩,⟨t',rfl⟩⟩:=Fv r;refine max_two_ints (I.ok.hd hc) λh' tk k=>⟨_,H,I.kept k,?_,q⟩;by_cases hj:j > i
 ·rw[if_pos hj,if_pos hj];exact⟨_,rfl⟩
 ·rw[if_neg hj,if_neg hj];exact⟨_,rfl⟩
theorem DK (hc:X.calm=true):cm X (.builtin "min") (λxs H Q=>∃i j,xs=[.int i,.int j]/\Q (.int (if j<i then j else i)) H):=by
 intro af s U H xs us Q I r h;obtain⟨i,j,rfl,q⟩:=h;obtain⟨u,w',rfl,⟨t,rfl⟩,⟨t',rfl⟩⟩:=Fv r;refine min_two_ints (I.ok.hd hc) λh' tk k=>⟨_,H,I.kept k,?_,q⟩;by_cases hj:j<i
 ·rw[if_pos hj,if_pos hj];exact⟨_,rfl⟩
 ·rw[if_neg hj,if_neg hj];exact⟨_,rfl⟩
theorem DM:cm X (.type "int") (λxs H Q=>(∃i,xs=[.int i]/\Q (.int i) H)∨∃k,xs=[.bl k]/\Q (.int (if k then 1 else 0)) H):=by
 intro af s U H xs us Q I r h;rcases h with⟨i,rfl,q⟩|⟨k,rfl,q⟩
 ·obtain⟨u,rfl,t,rfl⟩:=iH r;exact call_int_int ⟨.int i,H,I,⟨_,rfl⟩,q⟩
 ·obtain⟨u,rfl,r1⟩:=iH r;cases r1
  exact call_int_bool ⟨.int (if k then 1 else 0),H,I.tok _,⟨_,rfl⟩,q⟩
end
structure KU (h:Heap)(x dx C:Addr)(mA:Str->Option Value):Prop where
 obj:h.get? x=some (PySem.W.instObj C dx)
 ns:h.Ns1 dx mA
 ne:dx≠x
theorem DN {h:Heap}{dx:Addr}{mA:Str->Option Value}(n:h.Ns1 dx mA):∃od,h.get? dx=some od/\∀name,PySem.W.lookIn name od=some (mA name):=by
 obtain⟨o,es,ep,ho,hd,hk,_,hm⟩:=n;refine⟨o,ho,λname=>?_⟩;have e:=hm name;unfold nsFind findBy at e;rw[←Array.find?_toList]at e;unfold PySem.W.lookIn;rw[hd];dsimp only;split
 ·rename_i y q;rw[q]at e;exact congrArg some e
 ·rename_i q;rw[q]at e;have a:es.toList.any (·.refKey)=false:=by
   rw[List.any_eq_false];intro y hy;obtain⟨z,t,EQ⟩:=hk y (Array.mem_toList_iff.mp hy);simp[DictEntry.refKey,EQ]
  have a':¬es.toList.any (·.refKey)=true:=by rw[a];exact uX
  rw[if_neg a'];exact congrArg some e
theorem KU.look (I:KU h x dx C mA):∃od,PySem.W.InstAt h x (PySem.W.instObj C dx) C (some od)/\∀name,PySem.W.lookIn name od=some (mA name) :=
 let ⟨od,ho,hl⟩:=DN I.ns
 ⟨od,⟨I.obj,rfl,rfl,ho⟩,hl⟩
section
variable {prog:Program}{w:World}{A:Around}{E:Value->Shared->Prop}{s:Shared}{K:Frag}{x dx C f:Addr}{mA:Str->Option Value}{name:Str}{v:Value}
theorem Fw (X:K.In s.heap)(I:KU s.heap x dx C mA)(hg:PySem.W.plainGet K C name=true)
  (hf:PySem.W.findIn K (.ref C) name=some (some (.ref f))) (ht:PySem.W.isFn K (.ref f)=true) (hv:mA name=none) (h:Q (.ref f,[.ref x]) s):
  wpAny (model prog w) A (getMethod (.ref x) name pl) Q E s:=by
 obtain⟨od,J,hl⟩:=I.look;exact PySem.W.method_fn X J (PySem.W.plainGet_of hg).1 (PySem.W.plainGet_of hg).2 hf (beq_iff_eq.mp ht) (by show(PySem.W.lookIn name od).map (·.isSome)=some false;rw[hl,hv];rfl) h
theorem QB (X:K.In s.heap)(hm:PySem.W.makesIn K C=true)
  (hi:PySem.W.findIn K (.ref C) "__init__" = some (some (.ref f))) (hf:PySem.W.typeIn K (.ref f)=some (.type "function"))
  (h:codeAny (model prog w) (A.under (.builtin "type.__call__" ⟨.ref C::vs,kw⟩)) (.call (.ref f) ⟨.ref (s.heap.objs.size+1)::vs,kw⟩) (PySem.W.InitBack (s.heap.objs.size+1) R)
   { s with heap:=(s.heap.push PySem.W.emptyDict).push (PySem.W.instObj C s.heap.objs.size) }):
  codeAny (model prog w) A (.call (.ref C) ⟨vs,kw⟩) R s:=by
 obtain⟨hh,g,d,t,os⟩:=s;exact PySem.W.make_core (PySem.W.makes_of X hm) (PySem.W.looks_findIn X hi) (λself=>PySem.W.bind_fn X self hf) (.inl rfl) h
end
theorem lZ.some_of (r:lZ (some v) o):∃u,o=some u/\bf v u:=by
 cases o with
 |none=>exact(show False from r).elim
 |some u=>exact⟨u,rfl,r⟩
theorem lZ.none_of (r:lZ none o):o=none:=by
 cases o with
 |none=>rfl
 |some u=>exact(show False from r).elim
section
variable {P:Program}{w:World}{H H':Hp}{h h':Heap}{a C dx:Addr}{fs Zf:List (Str×V)}
theorem BS (hok:ma P w H h)(e:H a=some (.ins C dx fs)):∃mA,KU h a dx C mA/\(∀f,lZ (fs.lookup f) (mA f))/\PySem.Within mA (fs.map (·.1))/\fs.length<=1000/\H dx=some (.own a):=by
 obtain⟨d,z,ne,ob,mA,n,r,q⟩:=(show bZ P w H h a (.ins C dx fs)from hok a _ e);exact⟨mA,⟨ob,n,ne⟩,r,q,z,d⟩
end
structure Cls (K:Frag)(C:Addr):Prop where
 pg:PySem.W.plainGet K C Str.empty=true
 hd:PySem.W.hasDictIn K C=true
 po:PySem.W.plainOver K C=true
 sa:PySem.W.findIn K (.ref C) "__setattr__" = some (some (.builtin "object.__setattr__"))
theorem Cls.get {K:Frag}{C:Addr}(c:Cls K C)(f:Str):PySem.W.plainGet K C f=true:=c.pg
def Nn (K:Frag)(C:Addr)(f:Str):Prop:=PySem.W.findIn K (.ref C) f=some none
structure Meth (K:Frag)(C:Addr)(m:Str)(f:Addr):Prop where
 at_:PySem.W.findIn K (.ref C) m=some (some (.ref f))
 fn:PySem.W.isFn K (.ref f)=true
 kp:PySem.W.keepIn K (.ref f)=true
section
variable {X:Cx}{af:List (Addr×Obj)}{U:St}{H:Hp}{s:Shared}{a C dx:Addr}{fs:List (Str×V)}{f:Str}{v:V}{A:Around}{E:Value->Shared->Prop}
theorem AG {m:Str}{g:Addr}{pl:Sem Bool}{Q:Value×List Value->Shared->Prop}(I:Inv X af U H s)(e:H a=some (.ins C dx fs))(c:Cls X.K C)(k:Meth X.K C m g)(l:fs.lookup m=none)
  (h:Q (.ref g,[.ref a]) s):wpAny (model X.prog X.w) A (getMethod (.ref a) m pl) Q E s:=by
 obtain⟨mA,O,r,_,_,_⟩:=BS I.hok e;have hn:mA m=none:=lZ.none_of (by rw[←l];exact r m);exact Fw I.kIn O (c.get m) k.at_ k.fn hn h
theorem Inv.made (I:Inv X af U H s):Inv X af U (upd (upd H s.heap.objs.size (.own (s.heap.objs.size+1))) (s.heap.objs.size+1) (.ins C s.heap.objs.size []))
  { s with heap:=(s.heap.push PySem.W.emptyDict).push (PySem.W.instObj C s.heap.objs.size) }:=by
 have e1:(s.heap.push PySem.W.emptyDict).get? s.heap.objs.size=some PySem.W.emptyDict:=vY s.heap rfl;have e2:((s.heap.push PySem.W.emptyDict).push (PySem.W.instObj C s.heap.objs.size)).get? (s.heap.objs.size+1)=some (PySem.W.instObj C s.heap.objs.size):=by
  have:=vY (s.heap.push PySem.W.emptyDict) (o:=PySem.W.instObj C s.heap.objs.size) rfl;rwa [Heap.size_push]at this
 have e3:(s.heap.push PySem.W.emptyDict).Ns s.heap.objs.size (λ_=>none):=⟨PySem.W.emptyDict,#[],_,e1,rfl,(λe he=>absurd he (by simp)),λ_=>rfl⟩;have I1:=I.laid (a:=s.heap.objs.size) (o:=.own (s.heap.objs.size+1)) (h':=s.heap.push PySem.W.emptyDict) (t':=s.toks) (λb u q=>vZ _ q) (vT _) ⟨_,e1⟩;refine I1.laid (a:=s.heap.objs.size+1) (o:=.ins C s.heap.objs.size []) (t':=s.toks) (λb u q=>vZ _ q) (Nat.le_of_eq (Heap.size_push _ _)) ?_;have ne:s.heap.objs.size≠s.heap.objs.size+1:=vS (Nat.lt_succ_self _);refine⟨by rw[aP ne,aJ],uN _,ne,e2,λ_=>none,(Heap.Ns1.of_empty e3).at λo q=>vZ _ q,λ_=>True.intro,λy hy=>absurd rfl hy⟩
end
def Yp (K:Frag)(ta:TE)(f:Str):TE:=λU H Q=>ta U H λx H1=>∃a C dx fs v,x=.ref a/\H1 a=some (.ins C dx fs)/\Cls K C/\Nn K C f/\fs.lookup f=some v/\Q v H1
section
variable {X:Cx}{o e value:Expr}{f:Str}{pos Ay ER:Pos}{ta tv:TE}
theorem Ls {pl:Sem Bool}{m:Str}{dP:Pos}{args:List Expr}{af:List (Addr×Obj)}{s:Shared}{U:St}{H:Hp}{Q:Value->Shared->Prop}{te:TE}(he:PE X e te)(I:Inv X af U H s)
  (h:te U H λx H1=>∃a C dx fs g,x=.ref a/\H1 a=some (.ins C dx fs)/\Cls X.K C/\Meth X.K C m g/\fs.lookup m=none /\
   ∀s1,Inv X af U H1 s1->wq X (callWith pos (.ref g) [.ref a] (backTo pos (starEach args X.env)) (backToKw pos (keywordEach [] X.env))) Q X.xe s1)
  (ht:eval (.Call (.Attribute e m dP) args [] pos) X.env=(do
   let ov ←eval e X.env
   standAt dP.atName
   let (f,first) ←holding [ov] (getMethod ov m pl)
   callWith pos f first (backTo pos (starEach args X.env)) (backToKw pos (keywordEach [] X.env)))):
  wq X (eval (.Call (.Attribute e m dP) args [] pos) X.env) Q X.xe s:=by
 refine PySem.W.methodCall_KW (pl:=pl) (cL (he af s U H _ I h) λu s1 ⟨x,H1,I1,rx,a,C,dx,fs,g,ex,ea,c,k,l,q⟩=>?_) ht;subst ex;obtain rfl:u=Value.ref a:=rx;exact AG I1 ea c k l (q s1 I1)
end
section
variable {X:Cx}{af:List (Addr×Obj)}{U:St}{H:Hp}{s:Shared}{A:Around}{E:Value->Shared->Prop}{Q:Value->Shared->Prop}{c:Value}{b:Bool}
inductive TyOf (K:Frag)(H:Hp):V->Value->Prop where
 |non:TyOf K H .non (.type "NoneType")
 |bl (x:Bool):TyOf K H (.bl x) (.type "bool")
 |int (i:Int):TyOf K H (.int i) (.type "int")
 |str (x:Str):TyOf K H (.str x) (.type "str")
 |flt (x:UInt64):TyOf K H (.flt x) (.type "float")
 |lst {a:Addr}{xs:List V}(e:H a=some (.lst xs)):TyOf K H (.ref a) (.type "list")
 |frz {a:Addr}{o:Obj}{xs:List V}(e:H a=some (.frz o (.lst xs))):TyOf K H (.ref a) (.type "list")
 |tup {a:Addr}{xs:List V}(e:H a=some (.tup xs)):TyOf K H (.ref a) (.type "tuple")
 |dK {a:Addr}{aS:List (cE×V)}{ob:Obj}(e:H a=some (.dK aS ob)):TyOf K H (.ref a) (.type "dict")
 |dT {a:Addr}{aS:List (List cE×V)}(e:H a=some (.dT aS)):TyOf K H (.ref a) (.type "dict")
 |ins {a C dx:Addr}{fs:List (Str×V)}(e:H a=some (.ins C dx fs)) (cl:Cls K C) (ha:PySem.W.findIn K (.ref C) "__class__" = some (some (.builtin "object.__class__")))
   (hn:PySem.W.specialIn K (.builtin "object.__class__") "__get__" = some (some (.builtin "getset_descriptor.__get__"))) (WV:PySem.W.takesIn K (.builtin "object.__class__")=some true)
   (hm:PySem.W.mroIn K C (.type "object")=some true):TyOf K H (.ref a) (.ref C)
theorem iA (I:Inv X af U H s)(rx:bf x u)(ty:TyOf X.K H x t)(e:PySem.W.kitOne X.K t c=some b)(h:∀tk,Q (.bool b) { s with toks:=tk }):
  wpAny (model X.prog X.w) A (call (.builtin "isinstance") [u,c]) Q E s:=by
 cases ty with
 |non=>cases (show u=Value.none from rx);exact kia_one PySem.W.kitx_none I.kIn True.intro e (λz=>nomatch z) h
 |bl y=>cases (show u=Value.bool y from rx);exact kia_one PySem.W.kitx_bool I.kIn True.intro e (λz=>nomatch z) h
 |int i=>obtain⟨t,q⟩:=(show ∃t,u=Value.int i t from rx);cases q;exact kia_one PySem.W.kitx_int I.kIn True.intro e (λz=>nomatch z) h
 |str y=>obtain⟨t,q⟩:=(show ∃t,u=Value.str y t from rx);cases q;exact kia_one PySem.W.kitx_str I.kIn True.intro e (λz=>nomatch z) h
 |flt y=>obtain⟨t,q⟩:=(show ∃t,u=Value.float y t from rx);cases q;exact kia_one PySem.W.kitx_float I.kIn True.intro e (λz=>nomatch z) h
 |@lst a xs ea=>
  cases (show u=Value.ref a from rx)
  obtain⟨_,_,n,_,h1⟩:=(show bZ X.prog X.w H s.heap a (.lst xs)from I.hok a _ ea);exact kia_one PySem.W.kitx_list I.kIn ⟨_,h1,rfl⟩ e (λz=>nomatch z) h
 |@frz a ob xs ea=>
  cases (show u=Value.ref a from rx)
  obtain⟨_,_,_,n,_,h1⟩:=(show bZ X.prog X.w H s.heap a (.frz ob (.lst xs))from I.hok a _ ea);exact kia_one PySem.W.kitx_list I.kIn ⟨_,h1,rfl⟩ e (λz=>nomatch z) h
 |@tup a xs ea=>
  cases (show u=Value.ref a from rx)
  obtain⟨_,_,_,p⟩:=(show bZ X.prog X.w H s.heap a (.tup xs)from I.hok a _ ea);obtain⟨o,h1,h2,_⟩:=p;exact kia_one PySem.W.kitx_tuple I.kIn ⟨o,h1,h2⟩ e (λz=>nomatch z) h
 |@dK a aS ob ea=>
  cases (show u=Value.ref a from rx)
  obtain⟨_,_,_,vs,_,p⟩:=(show bZ X.prog X.w H s.heap a (.dK aS ob)from I.hok a _ ea);obtain⟨o,es,ep,h1,h2,_⟩:=p;exact kia_one PySem.W.kitx_dict I.kIn ⟨o,h1,h2.1⟩ e (λz=>nomatch z) h
 |@dT a aS ea=>
  cases (show u=Value.ref a from rx)
  obtain⟨_,_,xs,_,o,es,ep,h1,h2,_⟩:=(show bZ X.prog X.w H s.heap a (.dT aS)from I.hok a _ ea);exact kia_one PySem.W.kitx_dict I.kIn ⟨o,h1,h2.1⟩ e (λz=>nomatch z) h
 |@ins a C dx fs ea cl ha hn WV hm=>
  cases (show u=Value.ref a from rx)
  obtain⟨mA,O,_⟩:=BS I.hok ea;obtain⟨od,J,_⟩:=O.look;exact kia_one (PySem.W.kitx_own (cl.get _) cl.hd ha hn WV hm) I.kIn J e (λz=>nomatch z) h
end
structure fD (k:Nat)(A:Around):Prop where
 hd:A.handled=none
 dp:A.depth+3*k+5<recursionLimit
 un:A.units+16*k+200<cLine
theorem fD.mono (r:fD k A)(h:j<=k):fD j A:=⟨r.hd,by have:=r.dp;omega,by have:=r.un;omega⟩
theorem fD.deeper (r:fD (k+1) A)(env:Env):fD k (A.deeper env) :=
 ⟨r.hd,by have:=r.dp;show A.depth+1+3*k+5<_;omega,by have:=r.un;show A.units+3+16*k+200<_;omega⟩
theorem fD.in1 (r:fD (k+1) A):fD k A.in1 :=
 ⟨r.hd,by have:=r.dp;show A.depth+3*k+5<_;omega,by have:=r.un;show A.units+1+16*k+200<_;omega⟩
theorem fD.depth (r:fD k A):A.depth<recursionLimit:=by have:=r.dp;omega
def QC:TA:=λ_ H Q=>Q [] H
def Lu (ta:TE)(tr:TA):TA:=λU H Q=>ta U H λx H1=>tr U H1 λxs H2=>Q (x::xs) H2
section
variable {X:Cx}{e:Expr}{es:List Expr}{te:TE}{t:TA}{pos:Pos}
theorem kR:PA X [] QC:=λ_ _ _ _ H Q I h=>Calls.spliced_nil ⟨[],H,I,.nil,h⟩
theorem jm (ha:PE X e te)(hr:PA X es t)(hs:starEach (e::es) X.env=(false,eval e X.env)::starEach es X.env:=by rfl):PA X (e::es) (Lu te t):=by
 intro pos af s U H Q I h;rw[hs];show wpAny _ _ (spliced ((false,eval e X.env)::backTo pos (starEach es X.env))) _ _ s;refine Calls.spliced_cons (cL (ha af s U H _ I h) λu s1 ⟨x,H1,I1,r1,q1⟩=>?_);exact cL (hr pos af s1 U H1 _ I1 q1) λus s2 ⟨xs,H2,I2,r2,q2⟩=>⟨x::xs,H2,I2,.cons r1 r2,q2⟩
def QD (t:TA):TE:=λU H Q=>t U H λxs H1=>xs.length<=sizeLine/\∀p,H1 p=none->Q (.ref p) (upd H1 p (.tup xs))
def Ub (t:TA):TE:=λU H Q=>t U H λxs H1=>xs.length<=sizeLine/\∀p,H1 p=none->Q (.ref p) (upd H1 p (.lst xs))
theorem AH {x1}(h:PA X es t):PE X (.Tuple es x1 pos) (QD t):=by
 intro af s U H Q I hq;refine wpAny_Tuple_spliced (cL (h pos af s U H _ I hq) λus s1 ⟨xs,H1,I1,r,z,q⟩=>⟨by rw[←r.length];exact z,?_⟩);have hf:H1 s1.heap.objs.size=none:=I1.hok.fresh (vT _);refine⟨.ref s1.heap.objs.size,upd H1 s1.heap.objs.size (.tup xs),I1.laid (t':=s1.toks) (λb u e=>vZ _ e) (vT _) ?_,rfl,q _ hf⟩;exact⟨z,us,r,⟨_,vY _ rfl,rfl,_,rfl⟩⟩
theorem No (h:PA X es t):PE X (.List es pos) (Ub t):=by
 intro af s U H Q I hq;refine wpAny_List_spliced (cL (h pos af s U H _ I hq) λus s1 ⟨xs,H1,I1,r,z,q⟩=>⟨by rw[←r.length];exact z,?_⟩);have hf:H1 s1.heap.objs.size=none:=I1.hok.fresh (vT _);refine⟨.ref s1.heap.objs.size,upd H1 s1.heap.objs.size (.lst xs),I1.laid (t':=s1.toks) (λb u e=>vZ _ e) (vT _) ?_,rfl,q _ hf⟩;exact⟨z,us,0,r,vY _ rfl⟩
end
abbrev Sp:=List V->Hp->VK->XK->Prop
abbrev Lv:=List Env->Hp->Shared->XK->Value->Shared->Prop
structure Env0 (P:Program)(w:World)(K:Frag)(mg:Str->Option Value)(base:Heap)(A:Around)(outer:List Env)(s:Shared)(H:Hp):Prop where
 frames:A.frames=some outer
 mod:Mod K mg base
 bs:∀b o,base.get? b=some o->s.heap.get? b=some o/\H b=none
 bsz:base.objs.size<=s.heap.objs.size
 funs:s.heap.FunFrames base outer
 frf:∀b∈Fc outer,H b=none
 hok:ma P w H s.heap
 bare:AllBare s.gens
def CE (outer:List Env)(P:Program)(w:World)(H:Hp)(s:Shared)(Q:VK)(u:Value)(s':Shared):Prop :=
 ∃v H',s'.os=s.os/\AllBare s'.gens/\Un (Fc outer) [] H H' s.heap s'.heap/\ma P w H' s'.heap/\bf v u/\Q v H'
def CR (CX:Lv)(outer:List Env)(P:Program)(w:World)(H:Hp)(s:Shared)(Q:VK)(E:XK)(r:Result)(s':Shared):Prop :=
 match r with
 |.ok (.ret u)=>CE outer P w H s Q u s'
 |.ok _=>False
 |.error e=>CX outer H s E e s'
structure tR (P:Program)(w:World)(K:Frag)(mg:Str->Option Value)(base:Heap)(CX:Lv)(k:Nat)(f:Addr)(fd:FuncData)(ps:List Str)(sp:Sp):Prop where
 len:∀vs H Q E,sp vs H Q E->vs.length=ps.length
 run:∀(A:Around)(outer:List Env)(s:Shared)(H:Hp)(args:Args)(us:List Value)(vs:List V)(Q:VK)(E:XK),fD k A->Env0 P w K mg base A outer s H->BindsTo s fd args (ps.zip us)->bp vs us->sp vs H Q E ->
  codeAny (model P w) A (.call (.ref f) args) (CR CX outer P w H s Q E) s
section
variable {X:Cx}{af:List (Addr×Obj)}{U:St}{H:Hp}{s s':Shared}
theorem Inv.env0 (I:Inv X af U H s):Env0 X.prog X.w X.K X.mg X.base X.A X.stack s H :=
 ⟨I.ok.frames,I.ok.mod,I.bs,vR I.ok.bsz I.sz,I.stack,I.stkFree,I.hok,I.bare⟩
theorem Inv.after (I:Inv X af U H s)(h:CE X.stack X.prog X.w H s Q u s'):EP X af U Q u s':=by
 obtain⟨v,H',os,bare,un,hok,r,q⟩:=h;obtain⟨hh,g,d,t,UU⟩:=s';obtain rfl:UU=s.os:=os;exact⟨v,H',I.call (h':=hh) (g':=g) (d':=d) (t':=t) (ch:=[]) un hok bare (λb z=>absurd z (by simp)),r,q⟩
end
def QE (sp:Sp)(ES:List V)(E:XK)(t:TA):TE:=λU H Q=>t U H λvs H1=>sp (vs++ES) H1 Q E
def Wl (C:Addr)(m:Str)(sp:Sp)(ES:List V)(E:XK)(ta:TE)(t:TA):TE:=λU H Q=>ta U H λx H1=>∃a dx fs,x=.ref a/\H1 a=some (.ins C dx fs)/\fs.lookup m=none /\
 t U H1 λvs H2=>sp (x::(vs++ES)) H2 Q E
def Wm (C:Addr)(sp:Sp)(ES:List V)(E:XK)(t:TA):TE:=λU H Q=>t U H λvs H1=>∀x dx,H1 x=none->H1 dx=none->dx≠x ->
 sp (.ref x::(vs++ES)) (upd (upd H1 dx (.own x)) x (.ins C dx [])) (λv H2=>v=.non/\Q (.ref x) H2) E
def tY (K:Frag)(fd:FuncData)(ps:List Str)(ds:List Value):Prop :=
 ∀(s:Shared)(us:List Value),K.In s.heap->(us++ds).length=ps.length->BindsTo s fd ⟨us,[]⟩ (ps.zip (us++ds))
theorem tY.all {K:Frag}{fd:FuncData}{ps:List Str}(h:∀us:List Value,us.length=ps.length->bindArgs fd ⟨us,[]⟩=pure (ps.zip us)):tY K fd ps []:=λs us _ hl=>by
 rw[uQ]at hl ⊢;exact .of_eq (h us hl)
def AI (CX:Lv)(X:Cx)(E:XK):Prop:=∀(af:List (Addr×Obj))(U:St)(H:Hp)(s:Shared)(e:Value)(s':Shared),Inv X af U H s->CX X.stack H s E e s'->X.xe e s'
section
variable {X:Cx}{CX:Lv}{k:Nat}{f C:Addr}{fd:FuncData}{ps:List Str}{sp:Sp}{ES:List V}{ds:List Value}{E:XK}{x m:Str}{p pos dP:Pos}{e o:Expr}{es:List Expr}{ta:TE}{t:TA}
theorem Np {af:List (Addr×Obj)}{U:St}{H:Hp}{s:Shared}{Q:VK}{us:List Value}{vs:List V}(F:tR X.prog X.w X.K X.mg X.base CX k f fd ps sp)(hr:fD k X.A)(hb:tY X.K fd ps ds)(hd:bp ES ds)(hx:AI CX X E)
  (I:Inv X af U H s) (r:bp vs us) (h:sp (vs++ES) H Q E):wq X (call (.ref f) us) (EP X af U Q) X.xe s:=by
 have r2:bp (vs++ES) (us++ds):=r.append hd;have hl:(us++ds).length=ps.length:=by rw[←r2.length];exact F.len _ _ _ _ h
 refine wpAny_call (codeAny_mono (F.run X.A X.stack s H ⟨us,[]⟩ (us++ds) (vs++ES) Q E hr I.env0 (hb s us I.kIn hl) r2 h) λr s' hq=>?_);cases r with
 |error e=>exact hx af U H s e s' I hq
 |ok fl=>
  cases fl with
  |ret u=>exact I.after hq
  |next=>exact False.elim hq
  |brk=>exact False.elim hq
  |cont=>exact False.elim hq
theorem IU (F:tR X.prog X.w X.K X.mg X.base CX k f fd ps sp)(hr:fD k X.A)(hg:Gl X x)(hm:X.mg x=some (.ref f))(hk:PySem.W.keepIn X.K (.ref f)=true)(hb:tY X.K fd ps ds)(hd:bp ES ds)(hx:AI CX X E)
  (ha:PA X (e::es) t) (tT:(x == ("__debug__" : Str))=false:=by decide) (he:starEach (e::es) X.env=(false,eval e X.env)::starEach es X.env:=by rfl) (nn:(backTo pos (starEach es X.env)).any (·.1)=false:=by rfl):
  PE X (.Call (.Name x p) (e::es) [] pos) (QE sp ES E t):=by
 intro af s U H Q I h;refine wpAny_Call_Name_kw (wA I hg hm ?_ tT);refine PySem.W.callWith_K (h₀:=X.base) I.ok.mod.kin hk (cL (ha pos af s U H _ I h) λus s1 ⟨vs,H1,I1,r,q⟩=>⟨I1.kIn,?_⟩) he nn;exact Np F hr hb hd hx I1 r q
end
structure FnScope (N P:List Str)(sc:Scope):Prop where
 kind:sc.kind=.function
 co:sc.isCoroutine=false
 gen:sc.isGenerator=false
 nd:N.Nodup
 pre:N.take P.length=P
 par:∀x∈P,sc.names.lookup x=some .local∨sc.names.lookup x=some .cell
 nofree:∀y∈sc.names,y.2≠.free
theorem tZ {kindOf:Str->Option NameKind}{x:Str}:∀ {binds:List (Str×Value)}{m:Str->Option Value},(∀v,(x,v)∉binds)->bindL kindOf binds m x=m x
 |[],_,_=>rfl
 | (n,v)::r,m,h=>by
  unfold bindL;rw[tZ λw hw=>h w (mZ _ hw)];split
  ·have:x≠n:=by rintro rfl;exact h v mX
   simp[this]
  ·rfl
theorem ua {kindOf:Str->Option NameKind}{x:Str}:∀ {binds:List (Str×Value)}{m:Str->Option Value},(∀v,(x,v)∉binds)->bindC kindOf binds m x=m x
 |[],_,_=>rfl
 | (n,v)::r,m,h=>by
  unfold bindC;rw[ua λw hw=>h w (mZ _ hw)];split
  ·rfl
  ·have:x≠n:=by rintro rfl;exact h v mX
   simp[this]
theorem uc {kindOf:Str->Option NameKind}{x:Str}{v:Value}:∀ {P:List Str}{vs:List Value}{i:Nat}{m:Str->Option Value},P.Nodup->P[i]? = some x->vs[i]? = some v->kindOf x=some .local ->
  bindL kindOf (P.zip vs) m x=some v
 |[],_,_,_,_,h,_,_=>by simp at h
 |_::_,[],_,_,_,_,h,_=>by simp at h
 |p::P,w::vs,0,m,nd,h1,h2,hk=>by
  simp at h1 h2;subst h1;subst h2;show bindL kindOf ((p,w)::P.zip vs) m p=_;unfold bindL;rw[tZ λv hv=>(List.nodup_cons.mp nd).1 (List.of_mem_zip hv).1,if_pos hk];simp
 |p::P,w::vs,i+1,m,nd,h1,h2,hk=>by
  show bindL kindOf ((p,w)::P.zip vs) m x=_;unfold bindL;exact uc (i:=i) (List.nodup_cons.mp nd).2 (by simpa using h1) (by simpa using h2) hk
theorem ud {kindOf:Str->Option NameKind}{x:Str}{v:Value}:∀ {P:List Str}{vs:List Value}{i:Nat}{m:Str->Option Value},P.Nodup->P[i]? = some x->vs[i]? = some v->kindOf x≠some .local ->
  bindC kindOf (P.zip vs) m x=some v
 |[],_,_,_,_,h,_,_=>by simp at h
 |_::_,[],_,_,_,_,h,_=>by simp at h
 |p::P,w::vs,0,m,nd,h1,h2,hk=>by
  simp at h1 h2;subst h1;subst h2;show bindC kindOf ((p,w)::P.zip vs) m p=_;unfold bindC;rw[ua λv hv=>(List.nodup_cons.mp nd).1 (List.of_mem_zip hv).1,if_neg hk];simp
 |p::P,w::vs,i+1,m,nd,h1,h2,hk=>by
  show bindC kindOf ((p,w)::P.zip vs) m x=_;unfold bindC;exact ud (i:=i) (List.nodup_cons.mp nd).2 (by simpa using h1) (by simpa using h2) hk
noncomputable def kG (N:List Str)(vs:List V):St:=vs.map some++List.replicate (N.length - vs.length) none
noncomputable def qc (CX:Lv)(P:Program)(w:World)(K:Frag)(mg:Str->Option Value)(base:Heap)(N:List Str)(qual:Str)(scope:Scope)(f:Addr)(cd:Value)(A:Around)(outer:List Env)(s:Shared)(H:Hp)(E:XK):Cx where
 prog:=P
 w:=w
 K:=K
 mg:=mg
 base:=base
 A:=A.deeper (envOfC qual scope s.heap.objs.size f cd)
 N:=N
 s₀:=s
 H₀:=H
 env:=envOfC qual scope s.heap.objs.size f cd
 outer:=outer
 stack:=envOfC qual scope s.heap.objs.size f cd::outer
 ex:=[]
 calm:=true
 fn:=λ_=>true
 pn:=[]
 xe:=λe s'=>wpAny (model P w) (A.deeper (envOfC qual scope s.heap.objs.size f cd)) (leaving (envOfC qual scope s.heap.objs.size f cd) e) (λ_ Fg=>CX outer H s E e Fg) (λe' Fg=>CX outer H s E e' Fg) s'
theorem yo {sc:Scope}{n:Nat}{x:Str}(h:sc.names.lookup x=some .cell):∃c,(cellsFrom n sc.names []).lookup x=some c:=by
 have q:=PySem.W.cellsFrom_some sc.names n [] (.inl h);exact uU q
theorem DO {CX:Lv}{P:Program}{w:World}{K:Frag}{mg:Str->Option Value}{base:Heap}{N ps:List Str}{qual:Str}{scope:Scope}{f:Addr}{cd:Value}{A:Around}{outer:List Env}{s s1:Shared}{H:Hp}{E:XK}{us:List Value}{vs:List V}
  (S:FnScope N ps scope) (hd:A.handled=none) (e0:Env0 P w K mg base A outer s H) (hl:vs.length=ps.length) (r:bp vs us)
  (x:InCallC s s.heap.objs.size (bindL (envOfC qual scope s.heap.objs.size f cd).kindOf (ps.zip us) λ_=>none) (cellsFrom (s.heap.objs.size+1) scope.names []) (bindC (envOfC qual scope s.heap.objs.size f cd).kindOf (ps.zip us) λ_=>none) s1):
  Inv (qc CX P w K mg base N qual scope f cd A outer s H E) [] (kG N vs) H s1:=by
 have nn:ps.length<=N.length:=by have:=congrArg List.length S.pre;rw[List.length_take]at this;omega
 obtain⟨h1,tk,rfl,hk⟩:=x.done;have KW:∀b:Addr,b∉(qc CX P w K mg base N qual scope f cd A outer s H E).ex:=λb z=>absurd (show b∈([]:List Addr)from z) (by simp);refine⟨⟨e0.mod,S.kind,rfl,rfl,vT _,λy z c h1 h2=>?_,λy hy=>?_,λy c _ h=>?_,λ_=>hd,Around.frames_deeper e0.frames,.inr ⟨rfl,rfl⟩,λb z=>absurd z (KW b),e0.bs,e0.bsz,λb _ _=>KW b,λb z=>absurd z (KW b),e0.funs,e0.frf⟩,
  rfl,e0.bare,Un.kept hk,⟨_,x.toInCall.ns,λi y v h1 h2 h3=>?_⟩,λy c h=>⟨_,x.cell y c h⟩,e0.hok.fresh (vT _),λy c h=>?_,λp hp=>absurd (show p∈([]:List (Addr×Obj))from hp) (by simp),e0.hok.kept hk,?_⟩
 ·exact name_of_addr x.apart (PySem.mem_of_lookup h1) (PySem.mem_of_lookup h2)
 ·have hy:scope.names.lookup y=some .cell∨scope.names.lookup y=some .free:=hy;rcases hy with hy|hy
  ·exact yo hy
  ·exact absurd rfl (S.nofree _ (PySem.mem_of_lookup hy))
 ·exact Nat.le_of_lt (x.above y c (PySem.mem_of_lookup h))
 ·have hi:i<vs.length:=by
   unfold kG at h2;by_cases hi:i<vs.length
   ·exact hi
   ·rw[List.getElem?_append_right (by simpa using hi)]at h2;rw[List.getElem?_replicate]at h2;split at h2<;>cases h2
  have ha:vs[i]? = some v:=by
   unfold kG at h2;rw[List.getElem?_append_left (by simpa using hi),vA]at h2;cases e:vs[i]? with
   |none=>rw[e]at h2;cases h2
   |some a=>rw[e]at h2;cases h2;rfl
  obtain⟨u,hu,rv⟩:=r.get ha;have hp:ps[i]? = some y:=by
   rw[←S.pre,List.getElem?_take_of_lt (by omega)];exact h1
  have WW:ps.Nodup:=by rw[←S.pre];exact S.nd.sublist (List.take_sublist _ _)
  refine⟨u,rv,?_⟩;rcases S.par y (vL hp)with k|k
  ·exact .inl ⟨k,uc WW hp hu k⟩
  ·obtain⟨c,e⟩:=yo (n:=s.heap.objs.size+1) k;refine .inr ⟨.inl k,c,e,?_⟩;have q:=x.cell y c e;rw[ud WW hp hu (by show scope.names.lookup y≠_;rw[k];decide)]at q;exact q
 ·exact e0.hok.fresh (Nat.le_of_lt (x.above y c (PySem.mem_of_lookup h)))
 ·unfold kG;show _=N.length;rw[uZ,vI,List.length_replicate];omega
theorem Lx {CX:Lv}{P:Program}{w:World}{K:Frag}{mg:Str->Option Value}{base:Heap}{k:Nat}{f:Addr}{name qual:Str}{params:Arguments}{body:List Stmt}{scope:Scope}{dV kV doc pm ft ct oc:Value}{an od:Option Addr}
  {pY:Array (Option Value)}{N ps:List Str}{sp:Sp}(lk:K.lookup f=some ⟨oc,od,.func (fnOf name qual params body scope dV kV doc pm an ft ct),pY⟩) (jT:PySem.W.codeIn K ft qual=true) (S:FnScope N ps scope)
  (len:∀vs H Q E,sp vs H Q E->vs.length=ps.length)
  (HU:∀(A:Around)(outer:List Env)(s:Shared)(H:Hp)(vs:List V)(Q:VK)(E:XK),fD k (A.deeper (envOfC qual scope s.heap.objs.size f ft))->sp vs H Q E ->
   ∃t,w6 (qc CX P w K mg base N qual scope f ft A outer s H E) body t/\t { nx:=λ_ H'=>Q .non H',rt:=Q } (kG N vs) H):
  tR P w K mg base CX (k+1) f (fnOf name qual params body scope dV kV doc pm an ft ct) ps sp:=by
 refine⟨len,λA outer s H args us vs Q E hr e0 hb r PH=>?_⟩;have hl:=len _ _ _ _ PH;have KX:K.In s.heap:=e0.mod.kin.keeps λb o e=>(e0.bs b o e).1;have Zh:s.heap.NoLimit:=e0.mod.nolimit.keeps λb o e=>(e0.bs b o e).1;have RH:∀y∈ps.zip us,scope.names.lookup y.1=some .local∨(scope.names.lookup y.1=some .cell/\((cellsFrom (s.heap.objs.size+1) scope.names []).lookup y.1).isSome=true):=λ⟨n,v⟩ hy=>by
  rcases S.par n (List.of_mem_zip hy).1 with q|q
  ·exact .inl q
  ·exact .inr ⟨q,PySem.W.cellsFrom_some _ _ _ (.inl q)⟩
 refine codeAny_call_function hr.depth (KX _ _ lk) rfl S.co S.gen rfl (PySem.W.codeRec_of KX jT) (hb _ _ _ _ ?_);refine wpAny_newFunctionEnv_cells S.kind RH λenv he s1 x=>?_;subst he;refine⟨Zh.keeps x.toInCall.keep,codeAny_func ?_⟩;obtain⟨t,ht,hq⟩:=HU A outer s H vs Q E (hr.deeper _) PH;have I:Inv (qc CX P w K mg base N qual scope f ft A outer s H E) [] (kG N vs) H s1:=DO S hr.hd e0 hl r x;refine wpAny_mono (ht [] s1 (kG N vs) H _ I hq) (λfl s' hs=>?_) λe s' hs=>hs;have j9:∀ {σ':St}{H':Hp}{v:V}{u:Value},Inv (qc CX P w K mg base N qual scope f ft A outer s H E) [] σ' H' s'->bf v u->Q v H'->CE outer P w H s Q u s' :=
  λ{σ' H' v u} J rv q=>⟨v,H',J.os,J.bare,J.base,J.hok,rv,q⟩
 cases fl with
 |ret u=>
  obtain⟨v,σ',H',J,rv,q⟩:=hs;exact j9 J rv q
 |next=>
  obtain⟨σ',H',J,q⟩:=hs;exact j9 (v:=V.non) (u:=Value.none) J rfl q
 |brk=>
  obtain⟨_,_,_,q⟩:=hs;exact False.elim q
 |cont=>
  obtain⟨_,_,_,q⟩:=hs;exact False.elim q
section
variable {X:Cx}{x:Str}{p pos:Pos}{e:Expr}{es:List Expr}{t:TA}{id T:String}{r:List V->Hp->VK->Prop}
def Wn (r:List V->Hp->VK->Prop)(t:TA):TE:=λU H Q=>t U H λvs H1=>r vs H1 Q
theorem yp (hc:cm X (.builtin id) r)(hg:Gl X x)(hm:X.mg x=none)(hv:bootBuiltins x=some (.builtin id))(ha:PA X (e::es) t)(hn:x ≠ "__name__":=by decide)(tT:(x == ("__debug__" : Str))=false:=by decide)
  (he:starEach (e::es) X.env=(false,eval e X.env)::starEach es X.env:=by rfl) (nn:(backTo pos (starEach es X.env)).any (·.1)=false:=by rfl):PE X (.Call (.Name x p) (e::es) [] pos) (Wn r t):=by
 intro af s U H Q I h;refine wpAny_Call_Name_kw (mF I hg hm hv ?_ hn tT);exact PyProof.Rows.callWith_builtin1 (cL (ha pos af s U H _ I h) λus s1 ⟨vs,H1,I1,r1,q1⟩=>hc af s1 U H1 vs us Q I1 r1 q1) he nn
theorem ue (hc:cm X (.type T) r)(hg:Gl X x)(hm:X.mg x=none)(hv:bootBuiltins x=some (.type T))(ha:PA X (e::es) t)(hn:x ≠ "__name__":=by decide)(tT:(x == ("__debug__" : Str))=false:=by decide)
  (he:starEach (e::es) X.env=(false,eval e X.env)::starEach es X.env:=by rfl) (nn:(backTo pos (starEach es X.env)).any (·.1)=false:=by rfl):PE X (.Call (.Name x p) (e::es) [] pos) (Wn r t):=by
 intro af s U H Q I h;refine wpAny_Call_Name_kw (mF I hg hm hv ?_ hn tT);exact PyProof.Rows.callWith_type1 (cL (ha pos af s U H _ I h) λus s1 ⟨vs,H1,I1,r1,q1⟩=>hc af s1 U H1 vs us Q I1 r1 q1) he nn
end
end L2
namespace HT
open PySem PyProof.Rows
section
open PySem.SeqAt
open PySem.AutoSeq1 (wpAny_loadPart')
open PySem.MeetsSeq PySem.MeetsSeq2 PySem.MeetsSeq3
end
section
variable {prog:Program}{w:World}{A:Around}{E:Value->Shared->Prop}{s:Shared}
theorem IV (ht:IsTup s.heap t vs.toArray)(hb:IsTup s.heap b ws.toArray)(hv:vs≠[])
  (h1:ws=[]->Q (.ref t) s) (h2:ws≠[]->Q (.ref s.heap.objs.size) { s with heap:=s.heap.push { cls:=.type "tuple",data:=.seq (vs++ws).toArray } })
  (hsz:vs.length+ws.length<=sizeLine):wpAny (model prog w) A (binaryOp .Add (.ref t) (.ref b)) Q E s:=by
 obtain⟨⟨cls,dd,data,sl⟩,ho,hc,n,hd⟩:=id ht;obtain⟨⟨UV,ON,data2,Tp⟩,KY,D4,n2,RI⟩:=id hb;simp only at hc hd D4 RI;subst hc hd D4 RI;have e:vs.toArray++ws.toArray=(vs++ws).toArray:=by simp
 by_cases hw:ws=[]
 ·exact concat_meets ⟨_,ho,rfl⟩ ⟨_,KY,rfl⟩ noFill_tuple_add seq_tuple_add PySem.F.slot_tuple_add PySem.F.entry_tuple_add (PySem.F.args_tuple_add_2 _ _)
   (tuple_addW1 t b vs.toArray ws.toArray n n2 dd ON sl Tp (by simpa using hv) (by simp[hw])) ⟨ho,KY,h1 hw⟩
 ·refine concat_meets ⟨_,ho,rfl⟩ ⟨_,KY,rfl⟩ noFill_tuple_add seq_tuple_add PySem.F.slot_tuple_add PySem.F.entry_tuple_add (PySem.F.args_tuple_add_2 _ _)
   (tuple_addW2 t b vs.toArray ws.toArray n n2 dd ON sl Tp (by simpa using hv) (by simpa using hw) (by rw[vH,vH];exact hsz)) ⟨ho,KY,?_⟩
  rw[e];exact h2 hw
noncomputable def dZ (n d:Nat):Option Int->Nat
 |none=>d
 |some v=>if v<0 then (v+(n:Int)).toNat else min v.toNat n
theorem Nq (n d:Nat)(hd:d<=n)(o:Option Int):dZ n d o<=n:=by
 cases o with
 |none=>exact hd
 |some v=>
  show(if v<0 then (v+(n:Int)).toNat else min v.toNat n)<=n;by_cases hv:v<0
  ·rw[if_pos hv];omega
  ·rw[if_neg hv];exact Nat.min_le_right _ _
theorem BU (v:Int)(n d:Nat):(if v<0 then max (v+(n:Int)) 0 else min v (n:Int))=((dZ n d (some v):Nat):Int):=by
 show(if v<0 then max (v+(n:Int)) 0 else min v (n:Int))=(((if v<0 then (v+(n:Int)).toNat else min v.toNat n):Nat):Int);by_cases hv:v<0
 ·simp only[if_pos hv];omega
 ·simp only[if_neg hv];omega
theorem AJ (lo hi:Option Int)(n:Nat):Builtin.Slice.sliceAdjust lo hi 1 (n:Int)=(((dZ n 0 lo:Nat):Int),((dZ n n hi:Nat):Int)):=by
 have h1:¬((1:Int)<0):=by omega
 unfold Builtin.Slice.sliceAdjust;simp only[h1,if_false];refine Prod.ext ?_ ?_
 ·cases lo with
  |none=>rfl
  |some v=>exact BU v n 0
 ·cases hi with
  |none=>rfl
  |some v=>exact BU v n n
theorem AK (i j:Nat):Builtin.Slice.slicePlaces (i:Int) (j:Int) 1=j - i:=by
 unfold Builtin.Slice.slicePlaces;have h1:(1:Int) > 0:=by omega
 simp only[h1,if_true,Int.ediv_one];split<;>omega
theorem qG (p:IsPart v o)(h:Q o s):wpAny (model prog w) A (Builtin.Slice.slicePartIndex v) Q E s:=by
 cases p with
 |none=>exact slicePart_none h
 |int i t=>exact slicePart_int h
theorem jC {sl:Addr}{vl vu:Value}{lo hi:Option Int}{n:Nat}{Q:Int×Int×Nat->Shared->Prop}(hs:s.heap.IsSliceOf sl vl vu .none)(pl:IsPart vl lo)(pu:IsPart vu hi)
  (h:Q (((dZ n 0 lo:Nat):Int),1,dZ n n hi - dZ n 0 lo) s):wpAny (model prog w) A (Builtin.Slice.sliceApplied (.ref sl) (pure (n:Int))) Q E s:=by
 obtain⟨os,KZ,ye,OO⟩:=id hs;unfold Builtin.Slice.sliceApplied Builtin.Slice.sliceFields;refine wX (wX (wpAny_field KZ OO (x:=vl) rfl (wX (wpAny_field KZ OO (x:=vu) rfl (wX (wpAny_field KZ OO (x:=.none) rfl (wY ?_)))))));refine wX (slicePart_none ?_);show wpAny _ _ (if((1:Int) == 0)=true then _ else _) _ _ s;rw[if_neg (by decide)];refine wX (qG pl (wX (qG pu (wX (wY ?_)))));show wpAny _ _ (match Builtin.Slice.sliceAdjust lo hi 1 (n:Int) with|(lo,hi)=>pure (lo,(1:Int),Builtin.Slice.slicePlaces lo hi 1)) _ _ s;rw[AJ lo hi n];show wpAny _ _ (pure (((dZ n 0 lo:Nat):Int),(1:Int),Builtin.Slice.slicePlaces ((dZ n 0 lo:Nat):Int) ((dZ n n hi:Nat):Int) 1)) _ _ s;rw[AK];exact wY h
theorem Fx (xs:Array Value)(i k:Nat):((List.range k).filterMap λ(m:Nat)=>xs[((i:Int)+(m:Int)*1).toNat]?).toArray=((xs.toList.drop i).take k).toArray:=by
 have e:(λ(m:Nat)=>xs[((i:Int)+(m:Int)*1).toNat]?)=λm=>xs[i+m]?:=by
  funext m;have:((i:Int)+(m:Int)*1).toNat=i+m:=by omega
  rw[this]
 rw[e];have:=pick_run xs i k;rw[List.filterMap_map]at this;have e2:((λx=>xs[x]?) ∘ λx=>i+x)=λm=>xs[i+m]?:=rfl;rw[e2]at this;rw[this]
theorem np {t sl:Addr}{items:Array Value}{vl vu:Value}{lo hi:Option Int}{Q:Value->Shared->Prop}(ht:IsTup s.heap t items)(hs:s.heap.IsSliceOf sl vl vu .none)(pl:IsPart vl lo)(pu:IsPart vu hi)
  (hw:¬(dZ items.size 0 lo=0/\dZ items.size items.size hi=items.size))
  (h:Q (.ref s.heap.objs.size) { s with heap:=s.heap.push { cls:=.type "tuple",data:=.seq ((items.toList.drop (dZ items.size 0 lo)).take (dZ items.size items.size hi - dZ items.size 0 lo)).toArray } })
  (hsz:items.size<=sizeLine):wpAny (model prog w) A (getItem (.ref t) (.ref sl)) Q E s:=by
 have D5:sizeOk (.seq ((items.toList.drop (dZ items.size 0 lo)).take (dZ items.size items.size hi - dZ items.size 0 lo)).toArray):=by
  show((items.toList.drop (dZ items.size 0 lo)).take (dZ items.size items.size hi - dZ items.size 0 lo)).toArray.size<=sizeLine
  rw[vH,List.length_take,List.length_drop,vG]
  omega
 have hj:dZ items.size items.size hi<=items.size:=Nq _ _ (vT _) hi
 obtain⟨os,KZ,ye,OO⟩:=id hs
 have Zi:s.TypeIs (.ref sl) "slice":=⟨os,KZ,ye⟩
 unfold getItem
 try with_reducible refine wpAny_holding ?_
 first|refine wX (wY ?_)|skip
 refine wX (wpAny_sequenceKey ht.typeIs (by decide) ?_)
 refine wX (wpAny_callSpecial?_slot (name:=Str.ofString "__getitem__") ht.typeIs PyProof.Rows.slot_tuple_getitem
  (wpAny_call_entry PyProof.Rows.slot_tuple_getitem ht.typeIs entry_tuple_getitem ?_ (args_tuple_getitem _ _)))
 show wpAny _ _ (Builtin.Tuple.tupleItemsOf (.ref t)>>=_) _ _ s
 refine wX (tupleItemsOf_ ht ?_)
 refine wX (wpAny_typeOf Zi ?_)
 rw[if_pos (by decide)]
 refine wX (jC hs pl pu ?_)
 have PJ:¬((((dZ items.size 0 lo:Nat):Int) == 0 && (1:Int) == 1 && (dZ items.size items.size hi - dZ items.size 0 lo) == items.size)=true):=by
  intro q
  rw[vC,vC]at q
  have q1:((dZ items.size 0 lo:Nat):Int)=0:=eq_of_beq q.1.1
  have q2:dZ items.size items.size hi - dZ items.size 0 lo=items.size:=eq_of_beq q.2
  exact hw ⟨by omega,by omega⟩
 show wpAny _ _ (if(((dZ items.size 0 lo:Nat):Int) == 0 && (1:Int) == 1 && (dZ items.size items.size hi - dZ items.size 0 lo) == items.size)=true then _ else _) _ _ s
 rw[if_neg PJ,Fx]
 first
  |exact wX (m:=Builtin.Tuple.tupleExact _) (wpAny_newObj_type (wY ⟨_,rfl,wY h⟩) D5)
  |exact wX (m:=Builtin.Tuple.tupleExact _) (wpAny_newObj_type (wX (wY (wY ⟨_,rfl,wY h⟩))) D5)
  |exact wX (wX (m:=Builtin.Tuple.tupleExact _) (wpAny_newObj_type (wY (wY ⟨_,rfl,wY h⟩)) D5))
  |exact wX (wX (m:=Builtin.Tuple.tupleExact _) (wpAny_newObj_type (wY ⟨_,rfl,wY h⟩) D5))
end
end HT
namespace L2
open PySem PySem.Spec PyProof.Rows
abbrev TO:=St->Hp->(Option Int->Hp->Prop)->Prop
def PO (X:Cx)(e:Option Expr)(t:TO):Prop :=
 ∀(af:List (Addr×Obj))(s:Shared)(U:St)(H:Hp)(Q:Option Int->Hp->Prop),Inv X af U H s->t U H Q ->
  wq X (evalPart e X.env) (λu s'=>∃o H',Inv X af U H' s'/\IsPart u o/\Q o H') X.xe s
def IW:TO:=λ_ H Q=>Q none H
def QF (t:TE):TO:=λU H Q=>t U H λx H1=>∃i,x=.int i/\Q (some i) H1
section
variable {X:Cx}{e:Expr}{te:TE}{lo hi:Option Expr}{tl th:TO}{pos p2:Pos}
theorem IX:PO X none IW:=by
 intro af s U H Q I h;rw[evalPart_none];exact wY ⟨none,H,I,.none,h⟩
theorem IY (h:PE X e te):PO X (some e) (QF te):=by
 intro af s U H Q I hw;rw[evalPart_some];refine cL (h af s U H _ I hw) λu s1 ⟨x,H1,I1,r1,q1⟩=>?_;obtain⟨i,rfl,q⟩:=q1;obtain⟨t,rfl⟩:=r1;exact⟨some i,H1,I1,.int i t,q⟩
def Fd (X:Cx)(r:V->Option Int->Option Int->Hp->VK->Prop):Prop :=
 ∀(af:List (Addr×Obj))(s:Shared)(U:St)(H:Hp)(x:V)(v vl vu:Value)(lo hi:Option Int)(sl:Addr)(Q:VK),Inv X af U H s->bf x v->s.heap.IsSliceOf sl vl vu .none->IsPart vl lo->IsPart vu hi->r x lo hi H Q ->
  ∃T id,typeLookup (.type T) "__getitem__" = pure (some (.builtin id))/\s.TypeIs v T/\wq X (getItem v (.ref sl)) (EP X af U Q) X.xe s
theorem Fd.or (h:Fd X r)(h':Fd X r'):Fd X (λx lo hi H Q=>r x lo hi H Q∨r' x lo hi H Q):=by
 intro af s U H x v vl vu lo hi sl Q I rx hs pl pu q;rcases q with q|q
 ·exact h af s U H x v vl vu lo hi sl Q I rx hs pl pu q
 ·exact h' af s U H x v vl vu lo hi sl Q I rx hs pl pu q
def Yq (r:V->Option Int->Option Int->Hp->VK->Prop)(te:TE)(tl th:TO):TE:=λU H Q=>te U H λx H1=>tl U H1 λl H2=>th U H2 λu H3=>r x l u H3 Q
theorem Fy (hr:Fd X r)(he:PE X e te)(hl:PO X lo tl)(hu:PO X hi th):PE X (.Subscript e (.Slice lo hi none p2) pos) (Yq r te tl th):=by
 intro af s U H Q I h;refine Subscript_ (cL (he af s U H _ I h) λv s1 ⟨x,H1,I1,r1,q1⟩=>?_);refine wpAny_Slice (cL (hl af s1 U H1 _ I1 q1) λvl s2 ⟨l,H2,I2,pl,q2⟩=>cL (hu af s2 U H2 _ I2 q2) λvu s3 ⟨u,H3,I3,pu,q3⟩=>?_);rw[evalPart_none];refine wY ?_;have I4:Inv X af U H3 { s3 with heap:=s3.heap.push { cls:=.type "slice",data:=.fields #[vl,vu,.none] } }:=I3.kept (t':=s3.toks) λb ob q=>vZ _ q;obtain⟨T,id,hT,ht,hg⟩:=hr af { s3 with heap:=s3.heap.push { cls:=.type "slice",data:=.fields #[vl,vu,.none] } } U H3 x v vl vu l u s3.heap.objs.size Q I4 r1 (Heap.IsSliceOf.new ..) pl pu q3;show wq X (subscriptTail e (.Slice lo hi none p2) v (.ref s3.heap.objs.size)) (EP X af U Q) X.xe { s3 with heap:=s3.heap.push { cls:=.type "slice",data:=.fields #[vl,vu,.none] } };exact tail_any (ops:=[.ref s3.heap.objs.size,v]) ht hT hg (by with_unfolding_all rfl)
def t8 (xs:List V)(lo hi:Option Int):List V:=(xs.drop (HT.dZ xs.length 0 lo)).take (HT.dZ xs.length xs.length hi - HT.dZ xs.length 0 lo)
theorem p5 (xs:List V)(lo hi:Option Int):(t8 xs lo hi).length<=xs.length:=by
 unfold t8;rw[List.length_take,List.length_drop];omega
def Uc (K:Frag):V->Option Int->Option Int->Hp->VK->Prop:=λx lo hi H Q=>∃a xs,x=.ref a/\jB K H a xs /\
 ¬(HT.dZ xs.length 0 lo=0/\HT.dZ xs.length xs.length hi=xs.length)/\∀p,H p=none->Q (.ref p) (upd H p (.tup (t8 xs lo hi)))
theorem Nr:Fd X (Uc X.K):=by
 intro af s U H x v vl vu lo hi sl Q I rx hs pl pu h;obtain⟨a,xs,rfl,hx,hw,q⟩:=h;cases rx
 obtain⟨its,r,ht,hz⟩:=I.tuple hx;have bP:its.toArray.size=xs.length:=by rw[vH];exact r.length.symm
 refine⟨"tuple",_,PyProof.Rows.slot_tuple_getitem.lookup,ht.typeIs,?_⟩;refine HT.np ht hs pl pu (by rw[bP];exact hw) ?_ (by rw[bP];exact hz);rw[bP];refine⟨.ref s.heap.objs.size,_,I.laid (t':=s.toks) (o:=.tup (t8 xs lo hi)) (λb ob q=>vZ _ q) (vT _) ?_,rfl,q _ (I.hok.fresh (vT _))⟩;exact⟨vR (p5 xs lo hi) hz,_,(r.drop (HT.dZ xs.length 0 lo)).take (HT.dZ xs.length xs.length hi - HT.dZ xs.length 0 lo),IsTup.new _ _⟩
def QG (K:Frag):R2:=λx y H Q=>∃a b xs ys,x=.ref a/\y=.ref b/\jB K H a xs/\jB K H b ys/\xs≠[]/\xs.length+ys.length<=sizeLine /\
 (ys=[]->Q (.ref a) H)/\(ys≠[]->∀p,H p=none->Q (.ref p) (upd H p (.tup (xs++ys))))
theorem bp.nil_iff (r:bp xs us):us=[]↔xs=[]:=by
 cases r with
 |nil=>simp
 |cons _ _=>simp
theorem IZ:dQ X (binaryOp .Add) (QG X.K):=by
 intro af s U H x y v u Q I rx ry h;obtain⟨a,b,xs,ys,rfl,rfl,ha,hb,hx,hz,q1,q2⟩:=h;cases rx
 cases ry
 obtain⟨its,r1,p1,_⟩:=I.tuple ha;obtain⟨RJ,r2,p2,_⟩:=I.tuple hb;refine HT.IV p1 p2 (λz=>hx (r1.nil_iff.mp z)) (λz=>⟨.ref a,H,I,rfl,q1 (r2.nil_iff.mp z)⟩) (λz=>?_) (by rw[←r1.length,←r2.length];exact hz);refine⟨.ref s.heap.objs.size,_,I.laid (t':=s.toks) (o:=.tup (xs++ys)) (λb ob q=>vZ _ q) (vT _) ?_,rfl,q2 (λw=>z (r2.nil_iff.mpr w)) _ (I.hok.fresh (vT _))⟩;exact⟨by rw[uZ];exact hz,_,r1.append r2,IsTup.new _ _⟩
end
def DP (n:Nat)(i:Int):Option Nat:=if 0<=i then (if i<n then some i.toNat else none)else if -(n:Int)<=i then some (i+n).toNat else none
def p6 {α:Type}(xs:List α)(i:Int):Option α:=(DP xs.length i).bind λj=>xs[j]?
theorem BV (h:DP n i=some j):seqIndex? i n=some j/\j<n/\-(n:Int)<=i/\i<n:=by
 unfold DP at h;by_cases h0:0<=i
 ·rw[if_pos h0]at h;by_cases h1:i<n
  ·rw[if_pos h1]at h;have e:i.toNat=j:=vK h;exact⟨by rw[seqIndex_of h0 h1,e],by omega,by omega,h1⟩
  ·rw[if_neg h1]at h;cases h
 ·rw[if_neg h0]at h;by_cases h1 : -(n:Int)<=i
  ·rw[if_pos h1]at h;have e:(i+n).toNat=j:=vK h;exact⟨by rw[seqIndex_neg (by omega) h1,e],by omega,h1,by omega⟩
  ·rw[if_neg h1]at h;cases h
theorem wC {α:Type}{xs:List α}{i:Int}{v:α}(h:p6 xs i=some v):∃j,seqIndex? i xs.length=some j/\xs[j]? = some v/\j<xs.length/\-(xs.length:Int)<=i/\i<xs.length:=by
 unfold p6 at h;cases e:DP xs.length i with
 |none=>rw[e]at h;cases h
 |some j=>
  rw[e]at h;obtain⟨h1,h2,h3,h4⟩:=BV e;exact⟨j,h1,h,h2,h3,h4⟩
theorem Ja {α:Type}{xs:List α}{j:Nat}{v:α}(h:xs[j]? = some v):p6 xs (j:Int)=some v:=by
 have hj:j<xs.length:=(vV h).1;have e:DP xs.length (j:Int)=some j:=by
  unfold DP;rw[if_pos (by omega),if_pos (by omega)];simp
 unfold p6;rw[e];exact h
def wD (b:Expr):Prop:=∀o i,subscripted b false o i=operate [o,i] (getItem o i)
def Iu (X:Cx)(r:R2):Prop :=
 ∀(value slice:Expr)(af:List (Addr×Obj))(s:Shared)(U:St)(H:Hp)(x y:V)(v u:Value)(Q:VK),Inv X af U H s->bf x v->bf y u->r x y H Q ->
  subscripted slice false v u=operate [v,u] (getItem v u)->wq X (subscriptTail value slice v u) (EP X af U Q) X.xe s
def Jb (X:Cx)(id:String)(r:V->List V->Hp->VK->Prop):Prop :=
 ∀(af:List (Addr×Obj))(s:Shared)(U:St)(H:Hp)(x:V)(xs:List V)(v:Value)(us:List Value)(Q:VK),Inv X af U H s->bf x v->bp xs us->r x xs H Q ->
  wq X (call (.builtin id) (v::us)) (EP X af U Q) X.xe s
section
variable {X:Cx}{a b:Expr}{ta tb:TE}{pos:Pos}
theorem Iu.or (h:Iu X r)(h':Iu X r'):Iu X (λx y H Q=>r x y H Q∨r' x y H Q):=by
 intro value slice af s U H x y v u Q I rx ry q hs;rcases q with q|q
 ·exact h value slice af s U H x y v u Q I rx ry q hs
 ·exact h' value slice af s U H x y v u Q I rx ry q hs
theorem Jb.or {id:String}{r r':V->List V->Hp->VK->Prop}(h:Jb X id r)(h':Jb X id r'):Jb X id (λx xs H Q=>r x xs H Q∨r' x xs H Q):=by
 intro af s U H x xs v us Q I rx rs q;rcases q with q|q
 ·exact h af s U H x xs v us Q I rx rs q
 ·exact h' af s U H x xs v us Q I rx rs q
theorem Ly (hr:Iu X r)(ha:PE X a ta)(hb:PE X b tb)(hs:wD b):PE X (.Subscript a b pos) (SR r ta tb):=by
 intro af s U H Q I h;exact Subscript_ (Nd ha hb I h λv u s2 x y H2 I2 rx ry q=>hr a b af s2 U H2 x y v u Q I2 rx ry q (hs _ _))
def Ud (K:Frag):R2:=λx y H Q=>∃p xs i v,x=.ref p/\y=.int i/\jl K H p xs/\p6 xs i=some v/\Q v H
def Ue (K:Frag):R2:=λx y H Q=>∃p xs i v,x=.ref p/\y=.int i/\jB K H p xs/\p6 xs i=some v/\Q v H
def Uf:R2:=λx y H Q=>∃z i c,x=.str z/\y=.int i/\z.length<=sizeLine/\p6 z.cps.toList i=some c/\Q (.str ⟨#[c]⟩) H
theorem Jc:Iu X (Ud X.K):=by
 intro value slice af s U H x y v u Q I rx ry h hs;obtain⟨p,xs,i,z,rfl,rfl,hq,he,q⟩:=h;cases rx
 obtain⟨t,rfl⟩:=ry;obtain⟨its,r,pl,hz⟩:=I.list hq;obtain⟨j,h1,h2,h3,h4,h5⟩:=wC he;obtain⟨w,ew,HV⟩:=r.get h2;have hl:=r.length;have hn:=oE;have j9:EP X af U Q w s:=⟨z,H,I,HV,q⟩;by_cases h0:0<=i
 ·have hj:i.toNat=j:=by
   rw[seqIndex_of h0 h5]at h1;exact vK h1
  exact item_listR pl.isList h0 (by omega) (by rw[hj];simpa using ew) j9 hs
 ·have hj:(i+(its.toArray.size:Int)).toNat=j:=by
   rw[seqIndex_neg (by omega) h4]at h1;rw[vH,←hl];exact vK h1
  exact subscriptTail_builtinR (x:=w) pl.isList.typeIs slot_list_getitem.lookup
   (wpAny_getItem_list_neg (Q:=λr s'=>r=w/\EP X af U Q r s') pl.isList (by omega) (by rw[vH]<;>omega) (by omega) (by rw[hj];simpa using ew) ⟨rfl,j9⟩) hs
theorem wE:Iu X (Ue X.K):=by
 intro value slice af s U H x y v u Q I rx ry h hs;obtain⟨p,xs,i,z,rfl,rfl,hq,he,q⟩:=h;cases rx
 obtain⟨t,rfl⟩:=ry;obtain⟨its,r,pl,hz⟩:=I.tuple hq;obtain⟨j,h1,h2,h3,h4,h5⟩:=wC he;obtain⟨w,ew,HV⟩:=r.get h2;have hl:=r.length;have hn:=oE;have j9:EP X af U Q w s:=⟨z,H,I,HV,q⟩;exact subscriptTail_builtinR (x:=w) pl.typeIs slot_tuple_getitem.lookup
  (getItem_tuple (j:=j) (Q:=λr s'=>r=w/\EP X af U Q r s') pl (by omega) (by omega) (by rw[vH,←hl];exact h1) (by simpa using ew) ⟨rfl,j9⟩) hs
theorem AL:Iu X Uf:=by
 intro value slice af s U H x y v u Q I rx ry h hs;obtain⟨z,i,c,rfl,rfl,hz,he,q⟩:=h;obtain⟨t,rfl⟩:=rx;obtain⟨t',rfl⟩:=ry;obtain⟨j,h1,h2,h3,h4,h5⟩:=wC he;have hl:z.cps.toList.length=z.length:=by simp[Str.length]
 rw[hl]at h1 h4 h5;have hn:=oE;exact tail_any (typeIs_str s z t) slot_str_getitem.lookup (getItem_str (c:=c) (by
  have e1:decide (i < -(2 ^ 63:Int))=false:=decide_eq_false (by omega);have e2:decide (i ≥ 2 ^ 63)=false:=decide_eq_false (by omega);rw[e1,e2,Bool.or_false]) (by rw[h1];simpa using h2) ⟨.str ⟨#[c]⟩,H,I.tok _,⟨_,rfl⟩,q⟩) hs
theorem AM (its:List Value)(n j:Nat)(u:Value):Obj.mapSeq (·.setIfInBounds j u) { cls:=.type "list",data:=.seq its.toArray n }={ cls:=.type "list",data:=.seq (its.set j u).toArray n }:=by
 simp[Obj.mapSeq]
theorem Inv.lst (I:Inv X af U H s)(h:H p=some (.lst xs)):
  ∃(its:List Value)(n:Nat),bp xs its/\s.heap.get? p=some { cls:=.type "list",data:=.seq its.toArray n }/\xs.length<=sizeLine:=by
 obtain⟨z,its,n,r,e⟩:=I.hok p _ h;exact⟨its,n,r,e,z⟩
theorem Inv.lstUpd {af:List (Addr×Obj)}{U:St}{H:Hp}{s:Shared}{p:Addr}{xs ys:List V}{its its':List Value}{n n':Nat}{f:Obj->Obj}(I:Inv X af U H s)(h:H p=some (.lst xs))
  (ho:s.heap.get? p=some { cls:=.type "list",data:=.seq its.toArray n }) (hf:f { cls:=.type "list",data:=.seq its.toArray n }={ cls:=.type "list",data:=.seq its'.toArray n' }) (r:bp ys its') (hz:ys.length<=sizeLine) (t:Nat):
  Inv X af U (upd H p (.lst ys)) { s with heap:=s.heap.update p f,toks:=t }:=by
 have e:(s.heap.update p f).get? p=some { cls:=.type "list",data:=.seq its'.toArray n' }:=by
  rw[Heap.get?_update_self f ho (by rw[hf]<;>rfl),hf]
 refine I.write (x:=p) (e:=p) (by rw[h];trivial) (.inl rfl) (λb u hb q=>(Heap.get?_update_other _ _ (Ne.symm hb)).trans q) ⟨_,e⟩ ?_;exact⟨hz,its',n',r,e⟩
def QH:V->V->V->Hp->(Hp->Prop)->Prop:=λo i v H Q=>∃p xs k j,o=.ref p/\i=.int k/\H p=some (.lst xs)/\DP xs.length k=some j/\Q (upd H p (.lst (xs.set j v)))
theorem Fz:Qz X QH:=by
 intro af s U H o i v ov iv u Q I ro ri rv h;obtain⟨p,xs,k,j,rfl,rfl,hp,hj,q⟩:=h;cases ro
 obtain⟨t,rfl⟩:=ri;obtain⟨its,n,r,ho,hz⟩:=I.lst hp;obtain⟨h1,h2,h3,h4⟩:=BV hj;have hl:=r.length;have hn:=oE;have I':Inv X af U (upd H p (.lst (xs.set j v))) { s with heap:=s.heap.update p (Obj.mapSeq (·.setIfInBounds j u)) } :=
  I.lstUpd hp ho (AM its n j u) (r.set rv j) (by rw[List.length_set];exact hz) s.toks
 by_cases h0:0<=k
 ·have hk:k.toNat=j:=by
   rw[seqIndex_of h0 h4]at h1;exact vK h1
  exact PySem.W.ki_setAt ho h0 (by omega) (by rw[vH,←hl];exact h4) (by rw[hk];exact⟨_,I',q⟩)
 ·have hk:(k+(its.toArray.size:Int)).toNat=j:=by
   rw[seqIndex_neg (by omega) h3]at h1;rw[vH,←hl];exact vK h1
  exact PySem.W.ki_setBack ho (by omega) (by rw[vH,←hl];exact h3) (by omega) (by rw[hk];exact⟨_,I',q⟩)
theorem wF (lo hi:Option Int)(n:Nat):(sliceBounds lo hi none n).1=((HT.dZ n 0 lo:Nat):Int)/\(sliceBounds lo hi none n).2.1=((HT.dZ n n hi:Nat):Int)/\(sliceBounds lo hi none n).2.2=1:=by
 refine⟨?_,?_,rfl⟩
 ·cases lo with
  |none=>simp[sliceBounds,HT.dZ]
  |some i=>
   simp only[sliceBounds,HT.dZ,Option.getD_none,show(1:Int) > 0 by decide,if_true];by_cases h:i<0
   ·simp only[h,if_true]<;>omega
   ·simp only[h,if_false]<;>omega
 ·cases hi with
  |none=>simp[sliceBounds,HT.dZ]
  |some i=>
   simp only[sliceBounds,HT.dZ,Option.getD_none,show(1:Int) > 0 by decide,if_true];by_cases h:i<0
   ·simp only[h,if_true]<;>omega
   ·simp only[h,if_false]<;>omega
theorem t9 (its:List Value)(lo hi:Option Int):slicePick its.toArray lo hi none=((its.drop (HT.dZ its.length 0 lo)).take (HT.dZ its.length its.length hi - HT.dZ its.length 0 lo)).toArray:=by
 obtain⟨h1,h2,h3⟩:=wF lo hi its.toArray.size;unfold slicePick;rw[h1,h2,h3];simp only[sliceRange_one,pick_run,vH]<;>rfl
def Ug (K:Frag):V->Option Int->Option Int->Hp->VK->Prop:=λx lo hi H Q=>∃a xs,x=.ref a/\jl K H a xs/\∀p,H p=none->Q (.ref p) (upd H p (.lst (t8 xs lo hi)))
theorem Jd:Fd X (Ug X.K):=by
 intro af s U H x v vl vu lo hi sl Q I rx hs pl pu h;obtain⟨a,xs,rfl,hx,q⟩:=h;cases rx
 obtain⟨its,r,ht,hz⟩:=I.list hx;have bP:=r.length;refine⟨"list",_,slot_list_getitem.lookup,ht.isList.typeIs,?_⟩;refine wpAny_getItem_list_slice ht.isList hs pl pu .none (by simp) ?_ (by rw[vH]<;>omega)
 rw[t9,←bP];refine⟨.ref s.heap.objs.size,_,I.laid (t':=s.toks) (o:=.lst (t8 xs lo hi)) (λb ob q=>vZ _ q) (vT _) ?_,rfl,q _ (I.hok.fresh (vT _))⟩;exact⟨vR (p5 xs lo hi) hz,_,0,(r.drop (HT.dZ xs.length 0 lo)).take (HT.dZ xs.length xs.length hi - HT.dZ xs.length 0 lo),vY _ rfl⟩
noncomputable def ml:V->Bool
 |.non=>true
 |.bl _=>true
 |.int _=>true
 |.str _=>true
 |_=>false
def Iv:V->V->Bool
 |.non,.non=>true
 |.bl a,.bl b=>a == b
 |.bl a,.int b=>(if a then 1 else 0) == b
 |.int a,.bl b=>a == (if b then 1 else 0)
 |.int a,.int b=>a == b
 |.str a,.str b=>a == b
 |_,_=>false
theorem Nt (ry:bf y u)(rx:bf x v)(fy:ml y=true)(fx:ml x=true):SeqAt.EqAt A s u v (Iv y x):=by
 cases y with
 |non=>
  cases ry
  cases x with
  |non=>cases rx;exact SeqAt.EqAt.same _
  |bl b=>cases rx;exact SeqAt.EqAt.none_bool b
  |int b=>obtain⟨t,rfl⟩:=rx;exact SeqAt.EqAt.none_int b t
  |str b=>obtain⟨t,rfl⟩:=rx;exact SeqAt.EqAt.none_str b t
  |_=>exact absurd (show false=true from fx) uX
 |bl a=>
  cases ry
  cases x with
  |non=>cases rx;exact SeqAt.EqAt.bool_none a
  |bl b=>cases rx;exact SeqAt.EqAt.bool_bool a b
  |int b=>obtain⟨t,rfl⟩:=rx;exact SeqAt.EqAt.bool_int a b t
  |str b=>obtain⟨t,rfl⟩:=rx;exact SeqAt.EqAt.bool_str a b t
  |_=>exact absurd (show false=true from fx) uX
 |int a=>
  obtain⟨t',rfl⟩:=ry;cases x with
  |non=>cases rx;exact SeqAt.EqAt.int_none a t'
  |bl b=>cases rx;exact SeqAt.EqAt.int_bool a t' b
  |int b=>obtain⟨t,rfl⟩:=rx;exact SeqAt.EqAt.int_int a t' b t
  |str b=>obtain⟨t,rfl⟩:=rx;exact SeqAt.EqAt.int_str a t' b t
  |_=>exact absurd (show false=true from fx) uX
 |str a=>
  obtain⟨t',rfl⟩:=ry;cases x with
  |non=>cases rx;exact SeqAt.EqAt.str_none a t'
  |bl b=>cases rx;exact SeqAt.EqAt.str_bool a t' b
  |int b=>obtain⟨t,rfl⟩:=rx;exact SeqAt.EqAt.str_int a t' b t
  |str b=>obtain⟨t,rfl⟩:=rx;exact SeqAt.EqAt.str_str a t' b t
  |_=>exact absurd (show false=true from fx) uX
 |_=>exact absurd (show false=true from fy) uX
def AN (x:V)(u:Value):Bool:=match u with
 |.none=>Iv .non x
 |.bool b=>Iv (.bl b) x
 |.int i _=>Iv (.int i) x
 |.str z _=>Iv (.str z) x
 |_=>false
theorem F0 (r:bf y u)(f:ml y=true):AN x u=Iv y x:=by
 cases y with
 |non=>cases r;rfl
 |bl b=>cases r;rfl
 |int i=>obtain⟨t,rfl⟩:=r;rfl
 |str z=>obtain⟨t,rfl⟩:=r;rfl
 |_=>exact absurd (show false=true from f) uX
theorem nq:∀ {xs:List V}{us:List Value},bp xs us->xs.all ml=true->us.any (AN x)=xs.any λy=>Iv y x
 |_,_,.nil,_=>rfl
 |y::xs,u::us,.cons r t,f=>by
  rw[List.all_cons,vC]at f;rw[List.any_cons,List.any_cons,F0 r f.1,nq t f.2]
theorem kT (rx:bf x v)(fx:ml x=true):∀ {xs:List V}{us:List Value},bp xs us->xs.all ml=true->∀u∈us,SeqAt.EqAt A s u v (AN x u)
 |_,_,.nil,_=>λu hu=>by cases hu
 |y::xs,u::us,.cons r t,f=>λu' hu=>by
  rw[List.all_cons,vC]at f;rcases vP hu with rfl|hu
  ·rw[F0 r f.1];exact Nt r rx f.1 fx
  ·exact kT rx fx t f.2 u' hu
noncomputable def SU (x:V)(xs:List V):Bool:=xs.any λy=>Iv y x
def Wo (K:Frag)(Zj:Bool):R2:=λx y H Q=>∃p xs,y=.ref p/\(jl K H p xs∨jB K H p xs)/\ml x=true/\xs.all ml=true/\Q (.bl (if Zj then !SU x xs else SU x xs)) H
theorem DQ:dQ X (compareOp .In) (Wo X.K false):=by
 intro af s U H x y v u Q I rx ry h;obtain⟨p,xs,rfl,hq,fx,fs,q⟩:=h;cases ry
 rcases hq with hq|hq
 ·obtain⟨its,r,pl,hz⟩:=I.list hq;refine SeqAt.in_listAt (AN x) pl.isList (λw hw=>kT rx fx r fs w (by simpa using hw)) ⟨.bl _,H,I,rfl,?_⟩;rw[show its.toArray.any (AN x)=its.any (AN x) by simp,nq r fs];exact q
 ·obtain⟨its,r,pl,hz⟩:=I.tuple hq;refine SeqAt.in_tupleAt (AN x) pl (λw hw=>kT rx fx r fs w (by simpa using hw)) ⟨.bl _,H,I,rfl,?_⟩;rw[show its.toArray.any (AN x)=its.any (AN x) by simp,nq r fs];exact q
theorem wG:dQ X (compareOp .NotIn) (Wo X.K true):=by
 intro af s U H x y v u Q I rx ry h;obtain⟨p,xs,rfl,hq,fx,fs,q⟩:=h;cases ry
 rcases hq with hq|hq
 ·obtain⟨its,r,pl,hz⟩:=I.list hq;refine SeqAt.notIn_listAt (AN x) pl.isList (λw hw=>kT rx fx r fs w (by simpa using hw)) ⟨.bl _,H,I,rfl,?_⟩;rw[show its.toArray.any (AN x)=its.any (AN x) by simp,nq r fs];exact q
 ·obtain⟨its,r,pl,hz⟩:=I.tuple hq;refine SeqAt.notIn_tupleAt (AN x) pl (λw hw=>kT rx fx r fs w (by simpa using hw)) ⟨.bl _,H,I,rfl,?_⟩;rw[show its.toArray.any (AN x)=its.any (AN x) by simp,nq r fs];exact q
theorem wH:cm X (.builtin "len") (λxs H Q=>∃p ys,xs=[.ref p]/\(jl X.K H p ys∨jB X.K H p ys)/\Q (.int ys.length) H):=by
 intro af s U H xs us Q I r h;obtain⟨p,ys,rfl,hq,q⟩:=h;obtain⟨u,rfl,rx⟩:=iH r;cases rx
 have hn:=oE;rcases hq with hq|hq
 ·obtain⟨its,r',pl,hz⟩:=I.list hq;have bP:=r'.length;exact Calls.call_len_list pl.isList (by simp only[vH]<;>omega) ⟨.int ys.length,H,I.tok _,⟨s.toks+1,by rw[vH,bP]⟩,q⟩
 ·obtain⟨its,r',pl,hz⟩:=I.tuple hq;have bP:=r'.length;exact len_tuple pl (by simp only[vH]<;>omega) ⟨.int ys.length,H,I.tok _,⟨s.toks+1,by rw[vH,bP]⟩,q⟩
theorem wI:cm X (.builtin "len") (λxs H Q=>∃z,xs=[.str z]/\z.length<=sizeLine/\Q (.int z.length) H):=by
 intro af s U H xs us Q I r h;obtain⟨z,rfl,hz,q⟩:=h;obtain⟨u,rfl,t,rfl⟩:=iH r;have hn:=oE;exact len_str (by omega) ⟨.int z.length,H,I.tok _,⟨_,rfl⟩,q⟩
theorem cm.or (h:cm X f r)(h':cm X f r'):cm X f (λxs H Q=>r xs H Q∨r' xs H Q):=by
 intro af s U H xs us Q I rs q;rcases q with q|q
 ·exact h af s U H xs us Q I rs q
 ·exact h' af s U H xs us Q I rs q
theorem wJ:cm X (.type "list") (λxs H Q=>∃p ys,xs=[.ref p]/\(jl X.K H p ys∨jB X.K H p ys)/\∀l,H l=none->Q (.ref l) (upd H l (.lst ys))):=by
 intro af s U H xs us Q I r h;obtain⟨p,ys,rfl,hq,q⟩:=h;obtain⟨u,rfl,rx⟩:=iH r;cases rx
 have j9:∀(its:List Value),bp ys its->ys.length<=sizeLine->∀(h':Heap)(c':Nat),(∀b o',s.heap.get? b=some o'->h'.get? b=some o') ->
   h'.get? s.heap.objs.size=some { cls:=.type "list",dict:=none,data:=.seq its.toArray c',slots:=#[] }->EP X af U Q (.ref s.heap.objs.size) { s with heap:=h' }:=λits r' hz h' c' kp e=>
  ⟨.ref s.heap.objs.size,_,I.laid (t':=s.toks) kp (vT _) (show bZ X.prog X.w _ h' _ (.lst ys)from ⟨hz,its,c',r',e⟩),rfl,q _ (I.hok.fresh (vT _))⟩
 rcases hq with hq|hq
 ·obtain⟨its,r',pl,hz⟩:=I.list hq;have bP:=r'.length;obtain⟨o,ho,hc,n,hd⟩:=pl.isList;exact call_list_seq p (.inl rfl) ho hc hd (λh' c' kp e=>j9 its r' hz h' c' kp e) (by simp only[vH]<;>omega)
 ·obtain⟨its,r',pl,hz⟩:=I.tuple hq;have bP:=r'.length;obtain⟨o,ho,hc,n,hd⟩:=pl;exact call_list_seq p (.inr rfl) ho hc hd (λh' c' kp e=>j9 its r' hz h' c' kp e) (by simp only[vH]<;>omega)
theorem tE:cm X (.type "tuple") (λxs H Q=>∃p ys,xs=[.ref p]/\((jl X.K H p ys/\∀l,H l=none->Q (.ref l) (upd H l (.tup ys)))∨(jB X.K H p ys/\Q (.ref p) H))):=by
 intro af s U H xs us Q I r h;obtain⟨p,ys,rfl,h⟩:=h;obtain⟨u,rfl,rx⟩:=iH r;cases rx
 rcases h with⟨hq,q⟩|⟨hq,q⟩
 ·obtain⟨its,r',pl,hz⟩:=I.list hq;have bP:=r'.length;refine call_tuple_list pl.isList (λh' kp=>?_) (by simp only[vH]<;>omega)
  have I1:Inv X af U H { s with heap:=h' }:=I.kept (t':=s.toks) kp;have I2:Inv X af U (upd H h'.objs.size (.tup ys)) { s with heap:=h'.push { cls:=.type "tuple",data:=.seq its.toArray } } :=
   I1.laid (t':=s.toks) (λb o e=>vZ _ e) (vT _) (show bZ X.prog X.w _ _ _ (.tup ys)from ⟨hz,its,r',IsTup.new _ _⟩)
  exact⟨.ref h'.objs.size,_,I2,rfl,q _ (I1.hok.fresh (vT _))⟩
 ·obtain⟨its,r',pl,hz⟩:=I.tuple hq;exact call_tuple_same pl ⟨.ref p,H,I,rfl,q⟩
def Wp (K:Frag)(T:String)(x:V)(H:Hp):Prop:=match x with
 |.str _=>T = "str"
 |.int _=>T = "int"
 |.ref p=>(T = "list"/\∃xs,jl K H p xs)∨(T = "tuple"/\∃o,K.lookup p=some o/\o.cls=.type "tuple"/\o.dict=none) ∨
   (T = "dict"/\((∃aS ob,H p=some (.dK aS ob))∨∃aS,H p=some (.dT aS)))∨(T = "set"/\∃S n,H p=some (.set S n))
 |_=>False
theorem AO (I:Inv X af U H s)(r:bf x v)(ty:Wp X.K T x H):
  s.TypeIs v T/\∀a,v=.ref a->∃ob,s.heap.get? a=some ob/\ob.dict=none:=by
 cases x with
 |str z=>
  obtain⟨t,rfl⟩:=r;cases (show T = "str" from ty)
  exact⟨typeIs_str s z t,λ_ e=>nomatch e⟩
 |int i=>
  obtain⟨t,rfl⟩:=r;cases (show T = "int" from ty)
  exact⟨typeIs_int s i t,λ_ e=>nomatch e⟩
 |ref p=>
  cases r
  rcases ty with⟨rfl,xs,hq⟩|⟨rfl,o,hk,hc,hd⟩|⟨rfl,hk⟩|⟨rfl,S,n,hk⟩
  ·obtain⟨its,_,pl,_⟩:=I.list hq;refine⟨pl.isList.typeIs,λa e=>?_⟩;cases e
   obtain⟨o,n,e,c,hd,_⟩:=pl;exact⟨o,e,hd⟩
  ·refine⟨⟨o,I.kIn p o hk,hc⟩,λa e=>?_⟩;cases e
   exact⟨o,I.kIn _ o hk,hd⟩
  ·have z:∃o,s.heap.get? p=some o/\o.ExactDict:=by
    rcases hk with⟨aS,UL,hk⟩|⟨aS,hk⟩
    ·obtain⟨_,_,_,_,_,o,_,_,e,ex,_⟩:=I.hok p _ hk;exact⟨o,e,ex⟩
    ·obtain⟨_,_,_,_,o,_,_,e,ex,_⟩:=I.hok p _ hk;exact⟨o,e,ex⟩
   obtain⟨o,e,ex⟩:=z;refine⟨⟨o,e,ex.1⟩,λa e2=>?_⟩;cases e2
   exact⟨o,e,ex.2.1⟩
  ·obtain⟨o,_,_,_,e,ex,_⟩:=I.hok p _ hk;refine⟨⟨o,e,ex.1⟩,λa e2=>?_⟩;cases e2
   exact⟨o,e,ex.2.1⟩
 |_=>exact False.elim ty
def Yr (K:Frag)(T:String)(r:V->List V->Hp->VK->Prop)(to:TE)(t:TA):TE:=λU H Q=>to U H λx H1=>Wp K T x H1/\t U H1 λxs H2=>r x xs H2 Q
variable {o e:Expr}{es:List Expr}{to:TE}{t:TA}{name:Str}{dP cN:Pos}{T id:String}{r:V->List V->Hp->VK->Prop}
theorem F3 (pa:PlainAttrs T)(slot:Slot T name id)(Mw:typeOf (.builtin id)=pure (.type "method_descriptor"))(hm:Jb X id r)(ho:PE X o to)(ha:PA X (e::es) t)
  (ji:attributeBase o name X.env (eval o X.env)=eval o X.env:=by rfl)
  (BM:((backTo cN (starEach (e::es) X.env)).all (λx=>!x.1) && (backToKw cN (keywordEach [] X.env)).all (λx=>x.1.isSome)
   && decide ((e::es).length+([]:List Keyword).length+(if([]:List Keyword).isEmpty then 0 else 1)<30))=true:=by rfl)
  (jj:(dP.endLine == cN.line)=true:=by rfl) (hs:starEach (e::es) X.env=(false,eval e X.env)::starEach es X.env:=by rfl) (OP:(backTo cN (starEach es X.env)).any (·.1)=false:=by rfl):
  PE X (.Call (.Attribute o name dP) (e::es) [] cN) (Yr X.K T r to t):=by
 intro af s U H Q I h;refine wpAny_Call_method_late ji BM jj rfl (cL (ho af s U H _ I h) λv s1 ⟨x,H1,I1,r1,ty,q1⟩=>?_);obtain⟨h1,h2⟩:=AO I1 r1 ty;refine⟨T,id,pa,slot,Mw,h1,h2,?_⟩;have hA:=ha cN af s1 U H1 _ I1 q1;rw[hs]at hA ⊢;refine Calls.callWith_builtin (by show(false || (backTo cN (starEach es X.env)).any (·.1))=false;rw[OP]<;>rfl) (Calls.evalArgs_plain ?_)
 exact cL hA λus s2 ⟨vs,H2,I2,r2,q2⟩=>hm af s2 U H2 x vs v us Q I2 r1 r2 q2
/- xs.append(e),list.index on a module's tuple .. are Jb facts of 06m -/
end
def Ys (X:Cx)(id:String)(r:V->List V->Hp->VK->Prop):Prop :=
 ∀(af:List (Addr×Obj))(s:Shared)(U:St)(H:Hp)(x:V)(xs:List V)(v:Value)(us:List Value)(Q:VK),Inv X af U H s->bf x v->bp xs us->r x xs H Q ->
  wq X (call (.builtin id) (v::us)) (EP X af U Q) X.xe s
theorem bp.one:∀ {x:V}{us:List Value},bp [x] us->∃u,us=[u]/\bf x u
 |_,_,.cons r .nil=>⟨_,rfl,r⟩
theorem bp.two:∀ {x y:V}{us:List Value},bp [x,y] us->∃u v,us=[u,v]/\bf x u/\bf y v
 |_,_,_,.cons r (.cons q .nil)=>⟨_,_,rfl,r,q⟩
theorem bp.eraseIdx:∀ {xs:List V}{us:List Value}(i:Nat),bp xs us->bp (xs.eraseIdx i) (us.eraseIdx i)
 |_,_,_,.nil=>.nil
 |_,_,0,.cons _ t=>t
 |_,_,i+1,.cons r t=>.cons r (bp.eraseIdx i t)
theorem bp.rep (h:bp xs us):∀k:Nat,bp (List.replicate k xs).flatten (List.replicate k us).flatten
 |0=>.nil
 |k+1=>by
  rw[List.replicate_succ,List.replicate_succ,List.flatten_cons,List.flatten_cons];exact bp.append h (bp.rep h k)
theorem ug (its:List Value):∀(k:Nat)(mh:List Value),
  List.foldl (λx1 x2=>x1++x2) mh.toArray (List.replicate k its.toArray)=(mh++(List.replicate k its).flatten).toArray
 |0,mh=>by simp
 |k+1,mh=>by
  have e:mh.toArray++its.toArray=(mh++its).toArray:=by simp
  have e2:(mh++its)++(List.replicate k its).flatten=mh++(List.replicate (k+1) its).flatten:=by
   rw[List.replicate_succ,List.flatten_cons,List.append_assoc]
  rw[←e2,←ug its k (mh++its),←e,List.replicate_succ,List.foldl_cons]
section
variable {X:Cx}{af:List (Addr×Obj)}{U:St}{H:Hp}{s:Shared}{l b:Addr}{xs ys zs:List V}
theorem Inv.lset {its its':List Value}{n:Nat}{f:Array Value->Array Value}{t':Nat}(I:Inv X af U H s)(hH:H l=some (.lst xs))
  (e:s.heap.get? l=some { cls:=.type "list",data:=.seq its.toArray n }) (hf:f its.toArray=its'.toArray) (hv:bp ys its') (hz:ys.length<=sizeLine):
  Inv X af U (upd H l (.lst ys)) { s with heap:=s.heap.update l (Obj.mapSeq f),toks:=t' }:=by
 have q:=PySem.IsL.update e f;rw[hf]at q;refine I.write (x:=l) (e:=l) (by rw[hH];exact trivial) (.inl rfl) (λb' u hb hu=>(Heap.get?_update_other s.heap (Obj.mapSeq f) (Ne.symm hb)).trans hu) ⟨_,q⟩ ?_;exact⟨hz,its',_,hv,q⟩
theorem Inv.lnew (I:Inv X af U H s)(hv:bp ys its)(hz:ys.length<=sizeLine):
  Inv X af U (upd H s.heap.objs.size (.lst ys)) { s with heap:=s.heap.push { cls:=.type "list",data:=.seq its.toArray },toks:=t' } :=
 I.laid (λ_ _ q=>vZ _ q) (vT _) ⟨hz,its,0,hv,vY _ rfl⟩
theorem Inv.fresh (I:Inv X af U H s):H s.heap.objs.size=none:=I.hok.fresh (vT _)
theorem Inv.lstM (I:Inv X af U H s)(hH:H l=some (.lst xs)):xs.length<=sizeLine/\∃(its:List Value)(n:Nat),bp xs its/\xs.length=its.length/\s.heap.get? l=some { cls:=.type "list",data:=.seq its.toArray n }:=by
 obtain⟨z,its,n,r,e⟩:=I.hok l _ hH;exact⟨z,its,n,r,r.length,e⟩
theorem F4 (h:n<=sizeLine):Builtin.List.listTooLong n=false:=by
 unfold Builtin.List.listTooLong;exact decide_eq_false (by omega)
end
section
variable {X:Cx}
def BW:V->List V->Hp->VK->Prop:=λx vs H Q=>∃l xs y,x=.ref l/\vs=[y]/\H l=some (.lst xs)/\xs.length<sizeLine/\Q .non (upd H l (.lst (xs++[y])))
theorem uh:Ys X "list.append" BW:=by
 intro af s U H x vs v us Q I rx rv h;obtain⟨l,xs,y,rfl,rfl,hH,hz,q⟩:=h;cases rx
 obtain⟨u,rfl,ru⟩:=rv.one;obtain⟨z,its,n,r,hl,e⟩:=I.lstM hH;refine call_meets F.slot_list_append ⟨_,e,rfl⟩ F.entry_list_append (F.args_list_append_2 _ _) (PySem.list_append l its.toArray n u (by rw[vH];omega)) ⟨e,?_⟩;refine⟨.non,_,I.lset (its':=its++[u]) hH e (by simp) (r.append (.cons ru .nil)) ?_,rfl,q⟩;rw[uZ,List.length_singleton];omega
def Uh:R2:=λx y H Q=>∃l k xs,x=.ref l/\y=.int k/\H l=some (.lst xs)/\-(2 ^ 63)<=k/\k<2 ^ 63/\xs.length*k.toNat<=sizeLine /\
 ∀p,H p=none->Q (.ref p) (upd H p (.lst (List.replicate k.toNat xs).flatten))
theorem Je {α:Type}(xs:List α)(k:Nat):(List.replicate k xs).flatten.length=k*xs.length:=by
 induction k with
 |zero=>simp
 |succ k ih=>rw[List.replicate_succ,List.flatten_cons,uZ,ih,Nat.succ_mul,Nat.add_comm]
theorem Nu:dQ X (binaryOp .Mult) Uh:=by
 intro af s U H x y v u Q I rx ry h;obtain⟨l,k,xs,rfl,rfl,hH,h1,h2,hz,q⟩:=h;cases rx
 obtain⟨t,rfl⟩:=ry;obtain⟨z,its,n,r,hl,e⟩:=I.lstM hH;have bP:its.toArray.size*k.toNat<=sizeLine:=by rw[vH,←hl];exact hz
 have UW:¬its.toArray.size*k.toNat > (2 ^ 63 - 1) / 8:=by
  have:(sizeLine:Nat)<=(2 ^ 63 - 1) / 8:=by decide
  omega
 have UX:¬(!Builtin.List.listFitsIndex k)=true:=by
  rw[fitsIndex_both h1 h2];exact uX
 have RK:¬Builtin.List.listTooLong (its.toArray.size*k.toNat)=true:=by
  rw[F4 bP];exact uX
 have UY:List.foldl (λx1 x2=>x1++x2) #[] (List.replicate (if its.toArray.isEmpty=true then 0 else k.toNat) its.toArray)=(List.replicate k.toNat its).flatten.toArray:=by
  have f0:∀m:Nat,List.foldl (λx1 x2=>x1++x2) #[] (List.replicate m its.toArray)=(List.replicate m its).flatten.toArray:=λm=>by
   have:=ug its m [];rw[List.nil_append]at this;exact this
  rw[f0];cases its with
  |nil=>simp
  |cons a r'=>rw[if_neg (by simp)]
 refine wpAny_binaryOp_repeat_ref (T:="list") (U:="int") (by decide) ⟨_,e,rfl⟩ (λs'=>typeIs_int s' k t) noFill_list_mul F.fills_int_mul F.slot_int_rmul repeat_list F.slot_int_index.lookup
  (call_meets F.slot_int_rmul (typeIs_int s k t) F.entry_int_rmul (F.args_int_rmul_2 _ _) (int___rmul___int_list k t l its.toArray n)
   ⟨e,rfl,⟨_,e,rfl⟩,call_meets F.slot_list_mul ⟨_,e,rfl⟩ F.entry_list_mul (F.args_list_mul_2 _ _) (AutoListH.list___mul___list_int_3 l its.toArray n k t UX UW RK) ⟨e,?_⟩⟩)
 rw[UY];exact⟨.ref _,_,I.lnew (t':=s.toks) (r.rep k.toNat) (by rw[Je,Nat.mul_comm];exact hz),rfl,q _ I.fresh⟩
end
end L2
namespace Att
open PySem PySem.W PySem.Calls PyProof.Rows
theorem qd:∀(ns:List Int)(vs:List Value),WellAll P h vs (ns.map WData.int)->IntsAre vs ns:=by
 intro ns;induction ns with
 |nil=>
  intro vs w;rw[List.map_nil]at w;cases w
  exact .nil
 |cons n ns ih=>
  intro vs w;rw[uY]at w;cases w with
  |cons a b=>
   cases a
   exact .cons _ _ (ih _ b)
theorem DR {l:OpenLaw}{n:Nat}(hn:l.most=some n){P:Params}{h:Heap}{args:List WData}{vals:List Value}
  (La:l.row.toRowW.claim.pre args=true) (UZ:WellAll P h vals args):
  ∃a vs ns,vals=[Value.ref a]/\args=[WData.list (ns.map WData.int)]/\h.get? a=some { cls:=.type "list",data:=.seq vs.toArray }/\IntsAre vs ns/\ns.length<=n:=by
 have Va:WShape.hasAll [] args [.list .int]=true:=(pre_splitW La).1;have hc:l.pre.holds [] { args:=args }=true:=(pre_splitW La).2;obtain⟨d,r,rfl,h1,h2⟩:=hasAllW_cons Va;obtain rfl:=hasAllW_nil h2;obtain⟨xs,rfl,h3⟩:=hasW_list h1;obtain⟨ns,rfl⟩:=items_int h3;have bP:ns.length<=n:=by
  unfold OpenLaw.pre at hc;have h4:(WTm.not (.lt (.lit (.int (n:Int))) (.len (.arg 0)))).holds [] { args:=[.list (ns.map .int)] }=true:=by
   have h4:=(holds_andW hc).1;rw[hn]at h4;exact h4
  have h5:=condW_of h4 (w_not (w_lt w_lit (w_len_list (w_arg rfl))));rw[vI]at h5;refine Nat.le_of_not_lt λq=>?_;have q':(n:Int)<((ns.length:Nat):Int):=by omega
  first
   | (rw[decide_eq_true q']at h5;exact absurd h5 (by decide))
   | (simp at h5;omega)
 cases UZ with
 |cons w1 w2=>
  cases w2
  cases w1 with
  |list ho lG=>exact⟨_,_,ns,rfl,rfl,ho,qd ns _ lG,bP⟩
theorem DS (l:OpenLaw)(args:List WData):l.row.toRowW.claim.post args (.bool true) args=true :=
 postW_of (r:=l.row.toRowW) (X:=(true == true))
  (show WShape.has [] (.bool true) .bool=true by first|rfl|decide|simp[WShape.has,WShape.arms,WShape.armsAll])
  (show(WTm.eq .res (.lit (.bool true))).value [] { args:=args,res:=some (.bool true),after:=args }=some (.bool (true == true))from w_eq_bool (w_res rfl) w_lit) rfl
theorem yq {l:OpenLaw}{n:Nat}{q:Program}{D6:List Str}{XP:(Str->Option Value)->Heap->Prop}{YP:World->Heap->Prop}{d:DefRec}
  (hn:l.most=some n) (RL:d.params.defaults=[])
  (call:∀(w:World)(s₀ s₁:Shared)(mg mb:Str->Option Value)(fa:Addr)(o:Obj)(pm cd doc:Value)(a:Addr)(vs:List Value)(ns:List Int),
   Ground q D6 [] XP w s₀ mg mb s₁.heap->YP w s₁.heap ->
   s₁.heap.get? fa=some o->o.data=.func (docDef d.name d.params d.body d.scope pm cd doc)->s₁.heap.CodeRec cd d.name->mg d.name=some (.ref fa) ->
   s₁.heap.get? a=some { cls:=.type "list",data:=.seq vs.toArray }->IntsAre vs ns->ns.length<=n->s₁.gens=#[] ->
   codeAny (model l.prog w) callerA (.call (.ref fa) ⟨[.ref a],[]⟩) (λr s'=>r=.ok (.ret (.bool true))/\OldK s₁.heap s'.heap/\s'.os=s₁.os/\AllBare s'.gens) s₁):
  WalkO q D6 XP YP l.row.toRowW d [] (λf vs=>PySem.call f vs):=by
 intro w s₀ s₁ mg mb G y10 fa o pm cd doc dV kV ho hd jT hD hmg hg args vals as La hlay hrd UZ hlo;obtain rfl:dV=.none:=Dflts.none hD RL;obtain rfl:kV=.none:=Dflts.noKw hD;obtain⟨a,vs,ns,rfl,rfl,OQ,HW,bP⟩:=DR hn La UZ;refine enter_call (codeAny_mono (call w s₀ s₁ mg mb fa o pm cd doc a vs ns G y10 ho (fd_plain hd) jT hmg OQ HW bP hg) λr s' hq=>?_);obtain⟨rfl,h2,h3,h4⟩:=hq;exact⟨.inl ⟨.bool true,.bool true,[],rfl,λ_=>rfl,.bool true,DS l _,λ_=>⟨List.Pairwise.nil,λ_ hm=>(nomatch hm)⟩⟩,h2,h3,h4⟩
section
variable {prog:Program}{w:World}{A:Around}{E:Value->Shared->Prop}{s:Shared}{K:Frag}
theorem QI 
  (X:K.In s.heap) (hm:makesIn K C=true) (hi:findIn K (.ref C) "__init__" = some (some (.ref fI))) (hf:isFn K (.ref fI)=true)
  (h:codeAny (model prog w) (A.under (.builtin "type.__call__" ⟨.ref C::aB,kw⟩)) (.call (.ref fI) ⟨.ref (s.heap.objs.size+1)::aB,kw⟩) (InitBack (s.heap.objs.size+1) R)
   { s with heap:=(s.heap.push emptyDict).push (instObj C s.heap.objs.size) }):codeAny (model prog w) A (.call (.ref C) ⟨aB,kw⟩) R s:=by
 obtain⟨hh,g,d,t,os⟩:=s;exact make_core (makes_of X hm) (looks_findIn X hi) (λself=>bind_fn X self (beq_iff_eq.mp hf)) (.inl rfl) h
theorem Pn 
  (X:K.In s.heap) (I:PySem.W.InstAt s.heap x ox C (some (dictOf es n))) (hg:plainGet K C name=true) (hh:hasDictIn K C=true) (ha:findIn K (.ref C) name=some none)
  (hl:getL name es=some (some v)) (hv:handedIn v=true) (h:Q v { s with toks:=s.toks+1 }):wpAny (model prog w) A (getAttr (.ref x) name expr) Q E s :=
 get_value X I (plainGet_of hg).1 (findObj_own hh ha rfl hl) hv h
def Ui (h:Heap)(L d:Addr):List (Addr×Obj):=(List.range h.objs.size).filterMap λa=>if a=L∨a=d then none else (h.get? a).map λo=>(a,o)
end
end Att
namespace L2
open PySem PySem.Spec PyProof.Rows
theorem jD:∀ {vs:List Value}{ns:List Int},IntsAre vs ns->bp (ns.map V.int) vs
 |_,_,.nil=>.nil
 |_,_,.cons n t h=>.cons ⟨t,rfl⟩ (jD h)
noncomputable def gH (s:Stmt):Arguments:=match s with
 |.FunctionDef _ a _ _ _ _ _ _ _ _=>a
 |_=>{ posonlyargs:=[],args:=[],vararg:=none,kwonlyargs:=[],kw_defaults:=[],kwarg:=none,defaults:=[] }
noncomputable def cQ (s:Stmt):List Stmt:=match s with
 |.FunctionDef _ _ b _ _ _ _ _ _ _=>b
 |_=>[]
noncomputable def bc (s:Stmt):Scope:=match s with
 |.FunctionDef _ _ _ _ _ _ sc _ _ _=>sc
 |_=>{ kind:=.function,names:=[],isGenerator:=false,isCoroutine:=false }
abbrev A3:Lv:=λ_ _ _ _ _ _=>False
abbrev E0:XK:=λ_ _ _=>False
theorem QJ:AI A3 X E0:=λ_ _ _ _ _ _ _ h=>h.elim
structure OR (K:Frag)(x qual:Str)(st:Stmt)(f:Addr)(fd:FuncData):Prop where
 ex:∃(oc:Value)(od:Option Addr)(kV doc pm:Value)(an:Option Addr)(ft ct:Value)(pY:Array (Option Value)),
  fd=fnOf x qual (gH st) (cQ st) (bc st) .none kV doc pm an ft ct/\K.lookup f=some ⟨oc,od,.func fd,pY⟩/\PySem.W.codeIn K ft qual=true
 kp:PySem.W.keepIn K (.ref f)=true
section
variable {P:Program}{w:World}{K:Frag}{mg:Str->Option Value}{base:Heap}
theorem OR.ok {x qual:Str}{st:Stmt}{f:Addr}{fd:FuncData}{N ps:List Str}{k:Nat}{sp:Sp}(F:OR K x qual st f fd)(S:FnScope N ps (bc st))(len:∀vs H Q E,sp vs H Q E->vs.length=ps.length)
  (HU:∀(ft:Value)(A:Around)(outer:List Env)(s:Shared)(H:Hp)(vs:List V)(Q:VK)(E:XK),fD k (A.deeper (envOfC qual (bc st) s.heap.objs.size f ft))->sp vs H Q E ->
   ∃t,w6 (qc A3 P w K mg base N qual (bc st) f ft A outer s H E).nox (cQ st) t/\t { nx:=λ_ H'=>Q .non H',rt:=Q } (kG N vs) H):tR P w K mg base A3 (k+1) f fd ps sp:=by
 obtain⟨oc,od,kV,doc,pm,an,ft,ct,pY,rfl,lk,jT⟩:=F.ex;refine Lx lk jT S len λA outer s H vs Q E hr PH=>?_;obtain⟨t,h,q⟩:=HU ft A outer s H vs Q E hr PH;exact⟨t,h.nox,q⟩
theorem OR.binds {x qual:Str}{st:Stmt}{f:Addr}{fd:FuncData}{ps:List Str}(F:OR K x qual st f fd)
  (h:∀(kV doc pm:Value)(an:Option Addr)(ft ct:Value)(us:List Value),us.length=ps.length->bindArgs (fnOf x qual (gH st) (cQ st) (bc st) .none kV doc pm an ft ct) ⟨us,[]⟩=pure (ps.zip us)):tY K fd ps []:=by
 obtain⟨oc,od,kV,doc,pm,an,ft,ct,pY,rfl,lk,jT⟩:=F.ex;exact .all (h kV doc pm an ft ct)
theorem Nv {x qual:Str}{st:Stmt}{f:Addr}{oc:Value}{od an:Option Addr}{pY:Array (Option Value)}{kV doc pm ft ct:Value}(l:K.lookup f=some ⟨oc,od,.func (fnOf x qual (gH st) (cQ st) (bc st) .none kV doc pm an ft ct),pY⟩)
  (c:PySem.W.codeIn K ft qual=true) (k:PySem.W.keepIn K (.ref f)=true):OR K x qual st f (fnOf x qual (gH st) (cQ st) (bc st) .none kV doc pm an ft ct):=⟨⟨oc,od,kV,doc,pm,an,ft,ct,pY,rfl,l,c⟩,k⟩
end
def bg (H H':Hp):Prop:=∀b o,H b=some o->H' b=some o
theorem bg.refl (H:Hp):bg H H:=λ_ _ h=>h
theorem bg.trans (a:bg H H1)(b:bg H1 H2):bg H H2:=λc o h=>b c o (a c o h)
theorem bg.free (e:bg H H')(h:H' l=Option.none):H l=Option.none:=by
 cases q:H l with
 |none=>rfl
 |some o=>
  rw[e l o q]at h;cases h
theorem bg.seq {K:Frag}{H H':Hp}{a:Addr}{xs:List V}(e:bg H H')(h:jl K H a xs):jl K H' a xs:=by
 rcases h with (h|⟨o,h⟩)|h
 ·exact .inl (.inl (e _ _ h))
 ·exact .inl (.inr ⟨o,e _ _ h⟩)
 ·exact .inr h
section
variable {κ:Type}[DecidableEq κ]
noncomputable def kK (aS:List (κ×V))(k:κ):Option V:=(aS.find? λkv=>decide (kv.1=k)).map (·.2)
def nu (aS:List (κ×V))(k:κ)(v:V):List (κ×V) :=
 if(aS.any λkv=>decide (kv.1=k))=true then aS.map (λkv=>if kv.1=k then (kv.1,v)else kv)else aS++[(k,v)]
theorem nv {p:κ×V}{r:List (κ×V)}{k:κ}(e:p.1=k):kK (p::r) k=some p.2:=by simp[kK,List.find?_cons,e]
theorem nw {p:κ×V}{r:List (κ×V)}{k:κ}(e:¬p.1=k):kK (p::r) k=kK r k:=by simp[kK,List.find?_cons,e]
theorem yr (k:κ):∀aS:List (κ×V),(aS.any λkv=>decide (kv.1=k))=(kK aS k).isSome
 |[]=>rfl
 |p::r=>by
  rw[List.any_cons];by_cases e:p.1=k
  ·simp only[nv e,decide_eq_true e,Bool.true_or,Option.isSome_some]
  ·rw[nw e,decide_eq_false e,Bool.false_or];exact yr k r
theorem kU (aS:List (κ×V))(k:κ)(v:V):(nu aS k v).length<=aS.length+1:=by
 unfold nu;split
 ·rw[vI];omega
 ·rw[uZ,vE,List.length_nil];omega
theorem lZ.isSome_eq (r:lZ o u):o.isSome=u.isSome:=by
 cases o with
 |none=>cases u with
  |none=>rfl
  |some _=>exact(show False from r).elim
 |some _=>cases u with
  |none=>exact(show False from r).elim
  |some _=>rfl
theorem lZ.getD (r:lZ o u)(rd:bf d d'):bf (o.getD d) (u.getD d'):=by
 cases o with
 |none=>cases u with
  |none=>exact rd
  |some _=>exact(show False from r).elim
 |some _=>cases u with
  |none=>exact(show False from r).elim
  |some _=>exact r
theorem KV.val {aS:List (κ×V)}{vs:List (κ×Value)}(r:KV aS vs)(k:κ):lZ (kK aS k) (valueAt vs k):=by
 unfold KV at r;induction r with
 |nil=>exact True.intro
 |@cons p q ps qs h t ih=>
  obtain⟨h1,h2⟩:=h;by_cases e:p.1=k
  ·have e':q.1=k:=h1.symm.trans e;have b:valueAt (q::qs) k=some q.2:=by simp[valueAt,List.find?_cons,e']
   rw[nv e,b];exact h2
  ·have e':¬q.1=k:=λz=>e (h1.trans z);have b:valueAt (q::qs) k=valueAt qs k:=by simp[valueAt,List.find?_cons,e']
   rw[nw e,b];exact ih
theorem KV.any (r:KV aS vs)(k:κ):(aS.any λkv=>decide (kv.1=k))=vs.any λkv=>decide (kv.1=k):=by
 unfold KV at r;induction r with
 |nil=>rfl
 |cons h t ih=>rw[List.any_cons,List.any_cons,ih,h.1]
theorem KV.repl (r:KV aS vs)(k:κ)(ry:bf y u):
  KV (aS.map λkv=>if kv.1=k then (kv.1,y)else kv) (vs.map λkv=>if kv.1=k then (kv.1,u)else kv):=by
 unfold KV at r ⊢;induction r with
 |nil=>exact .nil
 |@cons p q ps qs h t ih=>
  rw[uY,uY];refine .cons ?_ ih;obtain⟨h1,h2⟩:=h;by_cases e:p.1=k
  ·rw[if_pos e,if_pos (h1.symm.trans e)];exact⟨h1,ry⟩
  ·rw[if_neg e,if_neg (λz=>e (h1.trans z))];exact⟨h1,h2⟩
theorem KV.put (r:KV aS vs)(k:κ)(ry:bf y u):KV (nu aS k y) (stored vs k u):=by
 unfold nu stored;rw[r.any k];by_cases e:(vs.any λkv=>decide (kv.1=k))=true
 ·rw[if_pos e,if_pos e];exact r.repl k ry
 ·rw[if_neg e,if_neg e];exact Paired.snoc r ⟨rfl,ry⟩
theorem KV.length (r:KV aS vs):aS.length=vs.length:=Paired.length r
end
theorem ui (r:bf (kV k) u):(c9 P w).is k u=true:=by
 cases k with
 |inl i=>obtain⟨t,e⟩:=(show ∃t,u=Value.int i t from r);subst e;exact yg P w i t
 |inr x=>obtain⟨t,e⟩:=(show ∃t,u=Value.str x t from r);subst e;exact yh P w x t
theorem uj:∀ {ks:List cE}{us:List Value},bp (ks.map kV) us->ItemsAre (c9 P w) ks us
 |[],_,r=>by rw[List.map_nil]at r;cases r;exact .nil
 |k::ks,_,r=>by
  rw[uY]at r;cases r with
  |cons h t=>exact .cons (ui h) (uj t)
abbrev KT (H:Hp):List (List cE×V)->List (List cE×Addr×Value)->Prop:=Paired λp q=>p.1=q.1/\H q.2.1=some (.tup (p.1.map kV))/\bf p.2 q.2.2
theorem KT.val {H:Hp}{aS:List (List cE×V)}{xs:List (List cE×Addr×Value)}(r:KT H aS xs)(k:List cE):lZ (kK aS k) ((atKey xs k).map (·.2)):=by
 induction r with
 |nil=>exact True.intro
 |@cons p q ps qs h t ih=>
  obtain⟨h1,_,h2⟩:=h;by_cases e:p.1=k
  ·have e':q.1=k:=h1.symm.trans e;have b:atKey (q::qs) k=some q.2:=by simp[atKey,List.find?_cons,e']
   rw[nv e,b];exact h2
  ·have e':¬q.1=k:=λz=>e (h1.trans z);have b:atKey (q::qs) k=atKey qs k:=by simp[atKey,List.find?_cons,e']
   rw[nw e,b];exact ih
theorem KT.repl (r:KT H aS xs)(k:List cE)(ry:bf y u):
  KT H (aS.map λkv=>if kv.1=k then (kv.1,y)else kv) (xs.map (putAt k u)):=by
 induction r with
 |nil=>exact .nil
 |@cons p q ps qs h t ih=>
  rw[uY,uY];refine .cons ?_ ih;obtain⟨h1,h2,h3⟩:=h;unfold putAt;by_cases e:p.1=k
  ·rw[if_pos e,if_pos (h1.symm.trans e)];exact⟨h1,h2,ry⟩
  ·rw[if_neg e,if_neg (λz=>e (h1.trans z))];exact⟨h1,h2,h3⟩
theorem KT.put (r:KT H aS xs)(k:List cE)(hb:H b=some (.tup (k.map kV)))(ry:bf y u):
  KT H (nu aS k y) (storedH xs k b u):=by
 have e:(aS.any λkv=>decide (kv.1=k))=(atKey xs k).isSome:=by
  rw[yr,(r.val k).isSome_eq,Option.isSome_map]
 unfold nu storedH;rw[e];by_cases q:(atKey xs k).isSome=true
 ·rw[if_pos q,if_pos q];exact r.repl k ry
 ·rw[if_neg q,if_neg q];exact Paired.snoc r ⟨rfl,hb,ry⟩
theorem KT.keeps (r:KT H aS xs)(ht:∀b ys,H b=some (.tup ys)->H' b=some (.tup ys)):KT H' aS xs :=
 Paired.mapP r λ_ _ z=>⟨z.1,ht _ _ z.2.1,z.2.2⟩
section
variable {P:Program}{w:World}{H:Hp}{h:Heap}{a:Addr}
theorem Lz (ok:ma P w H h)(e:Rd H a u):bZ P w H h a u:=e.ok ok
theorem AQ (ok:ma P w H h)(e:H a=some (.dK aS ob)):h.get? a=some ob:=And.left (show bZ P w H h a (.dK aS ob)from ok a _ e)
theorem ul (ok:ma P w H h)(e:Rd H a (.dK aS ob)):aS.length<=sizeLine/\(a == sysModules)=false/\∃vs,KV aS vs/\h.DictOf (c9 P w) a vs :=
 And.right (show bZ P w H h a (.dK aS ob)from Lz ok e)
theorem qH (ok:ma P w H h)(e:H a=some (.dK aS ob)):aS.length<=sizeLine/\(a == sysModules)=false/\∃vs,KV aS vs/\h.DictOf (c9 P w) a vs:=ul ok (.inl e)
theorem qI (ok:ma P w H h)(e:H a=some (.tup (ks.map kV))):(tupleKind (c9 P w)).is h ks a:=by
 obtain⟨_,its,r,o,h1,h2,n,h3⟩:=(show bZ P w H h a (.tup (ks.map kV))from ok a _ e);exact⟨o,its.toArray,n,h1,h2,h3,by simpa using uj r⟩
theorem um (ok:ma P w H h)(e:Rd H a (.dT aS)):aS.length<=sizeLine/\(a == sysModules)=false /\
  ∃xs,KT H aS xs/\h.DictOfH (tupleKind (c9 P w)) a xs:=by
 obtain⟨z,y,xs,r,o,es,ep,h1,h2,h3,h4,h5⟩:=(show bZ P w H h a (.dT aS)from Lz ok e);refine⟨z,y,xs,r,o,es,ep,h1,h2,h3,h4,λx hx=>?_,h5⟩;have all:∀ {l:List (List cE×V)}{m:List (List cE×Addr×Value)},KT H l m->∀x∈m,(tupleKind (c9 P w)).is h x.1 x.2.1:=by
  intro l m q;induction q with
  |nil=>intro x hx;exact nomatch hx
  |@cons p q ps qs hq t ih=>
   intro x hx;rcases vP hx with e|hx
   ·subst e;exact qI ok (by rw[←hq.1];exact hq.2.1)
   ·exact ih x hx
 exact all r x hx
theorem QK (ok:ma P w H h)(e:H a=some (.dT aS)):aS.length<=sizeLine/\(a == sysModules)=false /\
  ∃xs,KT H aS xs/\h.DictOfH (tupleKind (c9 P w)) a xs:=um ok (.inl e)
end
def wK (H:Hp)(a:Addr)(y:V)(r:Option V):Prop :=
 (∃aS k ob,Rd H a (.dK aS ob)/\y=kV k/\r=kK aS k)∨∃aS k b,Rd H a (.dT aS)/\y=.ref b/\H b=some (.tup (k.map kV))/\r=kK aS k
def QL (H:Hp)(a:Addr)(y v:V)(Q:Hp->Prop):Prop :=
 (∃aS k ob,H a=some (.dK aS ob)/\y=kV k/\aS.length<sizeLine/\∀Vb,Q (upd H a (.dK (nu aS k v) Vb))) ∨
 ∃aS k b,H a=some (.dT aS)/\y=.ref b/\H b=some (.tup (k.map kV))/\aS.length<sizeLine/\Q (upd H a (.dT (nu aS k v)))
theorem wK.t (e:H a=some (.dT aS))(eb:H b=some (.tup (k.map kV))):wK H a (.ref b) (kK aS k):=.inr ⟨aS,k,b,.inl e,rfl,eb,rfl⟩
section
variable {X:Cx}{af:List (Addr×Obj)}{U:St}{H:Hp}{s:Shared}{a:Addr}{y v:V}{u r:Value}{o:Option V}{A:Around}{E:Value->Shared->Prop}
theorem Inv.big (I:Inv X af U H s):sysModules<s.heap.objs.size:=by
 have h:mainGlobals<s.heap.objs.size:=(I.mod.glob.keeps I.bk).lt;exact Nat.lt_trans (by decide) h
theorem DT (hu:A.units+1<cLine)(I:Inv X af U H s)(g:wK H a y (some v))(ry:bf y u)(h:∀w' s',Inv X af U H s'->bf v w'->Q w' s'):
  wpAny (model X.prog X.w) A (getItem (.ref a) u) Q E s:=by
 rcases g with⟨aS,k,ob,e,ey,l⟩|⟨aS,k,b,e,ey,eb,l⟩
 ·subst ey;obtain⟨z,hd,vs,t6,dd⟩:=ul I.hok e;obtain⟨w',hw,HV⟩:=lZ.some_of (v:=v) (o:=valueAt vs k) (by rw[l];exact t6.val k);exact wpAny_getItem_of (ui ry) dd.mapOf hw (h w' _ (I.tok _) HV)
 ·subst ey;cases (show u=Value.ref b from ry)
  obtain⟨z,hd,xs,t6,dd⟩:=um I.hok e;obtain⟨w',hw,HV⟩:=lZ.some_of (v:=v) (o:=(atKey xs k).map (·.2)) (by rw[l];exact t6.val k);obtain⟨p,hp,Zk⟩:=oY hw;refine wpAny_getItem_heap (tupleKind_room_in1 hu) (qI I.hok eb) dd hp ?_;rw[Zk];exact h w' _ (I.tok _) HV
theorem Uj (hu:A.units+1<cLine)(I:Inv X af U H s)(g:wK H a y o)(ry:bf y u)(h:∀s',Inv X af U H s'->Q (.bool o.isSome) s'):
  wpAny (model X.prog X.w) A (compareOp .In u (.ref a)) Q E s:=by
 rcases g with⟨aS,k,ob,e,ey,l⟩|⟨aS,k,b,e,ey,eb,l⟩
 ·subst ey;obtain⟨z,hd,vs,t6,dd⟩:=ul I.hok e;refine wpAny_in_of (ui ry) hd dd.mapOf ?_;rw[←(t6.val k).isSome_eq,←l];exact h _ (I.tok _)
 ·subst ey;cases (show u=Value.ref b from ry)
  obtain⟨z,hd,xs,t6,dd⟩:=um I.hok e;refine wpAny_in_heap (tupleKind_room_in1 hu) (qI I.hok eb) hd dd ?_;have q:=(t6.val k).isSome_eq;rw[Option.isSome_map]at q;rw[←q,←l];exact h _ (I.tok _)
theorem wL (I:Inv X af U H s)(mu:Qm (H a))(hs:Heap.SameBut a s.heap h')(he:∃q,h'.get? a=some q)(new:bZ X.prog X.w (upd H a ob) h' a ob):
  Inv X af U (upd H a ob) { s with heap:=h',toks:=t' } :=
 I.write (x:=a) (e:=a) mu (.inl rfl) (λb q hb z=>(hs.2 b hb).trans z) he new
theorem F5 (z:aS.length<=sizeLine)(hd:(a == sysModules)=false)(t6:KV aS vs)(dd:h'.DictOf (c9 P w) a vs)(hg:h'.get? a=some ob):
  bZ P w H' h' a (.dK aS ob):=⟨hg,z,hd,vs,t6,dd⟩
theorem DU (hu:A.units+1<cLine)(I:Inv X af U H s)(g:QL H a y v R)(ry:bf y u)(rv:bf v r)(h:∀H' s',R H'->Inv X af U H' s'->Q () s'):
  wpAny (model X.prog X.w) A (setItem (.ref a) u r) Q E s:=by
 rcases g with⟨aS,k,ob,e,ey,l,eH⟩|⟨aS,k,b,e,ey,eb,l,eH⟩
 ·subst ey;obtain⟨z,hd,vs,t6,dd⟩:=qH I.hok e;have hz:vs.length<=sizeLine:=by rw[←t6.length];exact z
  have hl:(nu aS k v).length<=sizeLine:=by have:=kU aS k v;omega
  refine wpAny_setItem_pairs (hsz:=hz) (ui ry) dd λh' Lb hs=>?_;obtain⟨q,hq⟩:∃q,h'.get? a=some q:=let ⟨q,_,_,hq,_⟩:=Lb;⟨q,hq⟩;exact h _ _ (eH q) (wL I (by rw[e];exact True.intro) hs ⟨q,hq⟩ (F5 hl hd (t6.put k rv) Lb hq))
 ·subst ey;cases (show u=Value.ref b from ry)
  obtain⟨z,hd,xs,t6,dd⟩:=QK I.hok e;have hz:xs.length<=sizeLine:=by rw[←Paired.length t6];exact z
  have hl:(nu aS k v).length<=sizeLine:=by have:=kU aS k v;omega
  refine wpAny_setItem_heap (hsz:=hz) (tupleKind_room_in1 hu) (qI I.hok eb) dd λh' Lb hs=>h _ _ eH ?_;obtain⟨q,es,ep,hq,h2,h3,h4,_,h5⟩:=Lb;refine wL I (by rw[e];exact True.intro) hs ⟨q,hq⟩ ⟨hl,hd,_,(t6.put k eb rv).keeps λc ys ec=>?_,q,es,ep,hq,h2,h3,h4,h5⟩;rw[aP (Ql ec e (λz=>nomatch z))];exact ec
end
def Nw (i:Expr):Prop:=∀ov iv,subscripted i false ov iv=operate [ov,iv] (getItem ov iv)
theorem Jf {prog:Program}{w:World}{A:Around}{E:Value->Shared->Prop}{s:Shared}{env:Env}{value slice:Expr}{pos:Pos}{T id:String}{Q:Value->Shared->Prop}
  (hl:typeLookup (.type T) "__getitem__" = pure (some (.builtin id))) (hs:Nw slice)
  (h:wpAny (model prog w) A (eval value env) (λo s₁=>wpAny (model prog w) A (eval slice env) (λi s₂=>s₂.TypeIs o T/\wpAny (model prog w) A (getItem o i) Q E s₂) E s₁) E s):
  wpAny (model prog w) A (eval (.Subscript value slice pos) env) Q E s:=by
 refine Subscript_ (wpAny_mono h (λo s₁ h₁=>wpAny_mono h₁ (λi s₂ h₂=>?_) λ_ _ x=>x) λ_ _ x=>x);obtain⟨hT,h₂⟩:=h₂;unfold subscriptTail;refine wX ?_;rw[getitemInPython_of_ne hT.not_modules];refine wX (wpAny_specialOf hT hl ?_);have j9:wpAny (model prog w) A (subscripted slice false o i) (λr s₃=>wpAny (model prog w) A (letTemporaryGo value o r>>=λ_=>pure r) Q E s₃) E s₂:=by
  rw[hs o i];exact wpAny_operating (wpAny_mono h₂ (λr s₃ h₃=>wX (wpAny_letTemporaryGo (wY h₃))) λ_ _ x=>x)
 first
  |exact wY (wX j9)
  |exact wX (wY (wX j9))
  |exact wX j9
theorem yt (I:Inv X af U H s)(g:wK H a y o):s.TypeIs (.ref a) "dict":=by
 rcases g with⟨aS,k,UL,e,_,_⟩|⟨aS,k,b,e,_,_,_⟩
 ·obtain⟨_,_,vs,_,dd⟩:=ul I.hok e;exact dd.typeIs
 ·obtain⟨_,_,xs,_,dd⟩:=um I.hok e;exact dd.typeIs
def QM (td ty:TE):TE:=λU H Q=>td U H λx H1=>ty U H1 λy H2=>∃a v,x=.ref a/\wK H2 a y (some v)/\Q v H2
def Uk (ty td:TE):TE:=λU H Q=>ty U H λy H1=>td U H1 λx H2=>∃a o,x=.ref a/\wK H2 a y o/\Q (.bl o.isSome) H2
def BX (td ty tv:TE):TS:=λD U H=>tv U H λv H1=>td U H1 λx H2=>ty U H2 λy H3=>∃a,x=.ref a/\QL H3 a y v (D.nx U)
section
variable {X:Cx}{o i e value:Expr}{pos Ay ER:Pos}{td ty tv:TE}
theorem Jg (hu:X.A.units+1<cLine)(ho:PE X o td)(hi:PE X i ty)(hs:Nw i):PE X (.Subscript o i pos) (QM td ty):=by
 intro af s U H Q I h;refine Jf PySem.F.slot_dict_getitem.lookup hs (cL (ho af s U H _ I h) λu s1 ⟨x,H1,I1,rx,q1⟩=>cL (hi af s1 U H1 _ I1 q1) λiv s2 ⟨y,H2,I2,ry,a,v,ex,g,q2⟩=>?_);subst ex;obtain rfl:u=Value.ref a:=rx;exact⟨yt I2 g,DT hu I2 g ry λw' s3 I3 HV=>⟨v,H2,I3,HV,q2⟩⟩
theorem F6 (hu:X.A.units+1<cLine)(hi:PE X i ty)(ho:PE X o td):PC X .In i o (Uk ty td):=by
 intro af s U H Q I h;refine cL (hi af s U H _ I h) λiv s1 ⟨y,H1,I1,ry,q1⟩=>cL (ho af s1 U H1 _ I1 q1) λu s2 ⟨x,H2,I2,rx,a,ov,ex,g,q2⟩=>?_;subst ex;obtain rfl:u=Value.ref a:=rx;exact Uj hu I2 g ry λs3 I3=>⟨.bl ov.isSome,H2,I3,rfl,q2⟩
theorem wM (hu:X.A.units+1<cLine)(ho:PE X o td)(hi:PE X i ty)(hv:PE X value tv)(hs:swapsWith value (some (.Subscript o i Ay)) pos.line X.env=pure false):
  PS X (.Assign [.Subscript o i Ay] value pos) (BX td ty tv):=by
 intro af s U H D I h;refine wpAny_Assign_Subscript (cL (hv af s U H _ I h) λr s1 ⟨v,H1,I1,rv,q1⟩=>cL (ho af s1 U H1 _ I1 q1) λu s2 ⟨x,H2,I2,rx,q2⟩=>cL (hi af s2 U H2 _ I2 q2) λiv s3 ⟨y,H3,I3,ry,a,ex,g⟩=>?_) hs;subst ex;obtain rfl:u=Value.ref a:=rx;exact DU hu I3 g ry rv λH4 s4 q3 I4=>⟨U,H4,I4,q3⟩
end
theorem yu (h:Heap)(hb:sysModules<h.objs.size):bZ P w H (h.push { cls:=.type "dict",data:=.dict #[] }) h.objs.size (.dK [] { cls:=.type "dict",data:=.dict #[] }) :=
 ⟨vY _ rfl,uN _,beq_eq_false_iff_ne.mpr (Ne.symm (vS hb)),[],.nil,Heap.DictOf.new h⟩
theorem F7 (h:Heap)(hb:sysModules<h.objs.size):bZ P w H (h.push { cls:=.type "dict",data:=.dict #[] }) h.objs.size (.dT []) :=
 ⟨uN _,beq_eq_false_iff_ne.mpr (Ne.symm (vS hb)),[],.nil,_,#[],0,vY _ rfl,⟨rfl,rfl,rfl⟩,rfl,rfl,List.nodup_nil⟩
def F8:TE:=λ_ H Q=>∀p ob,H p=none->Q (.ref p) (upd H p (.dK [] ob))
def F9:TE:=λ_ H Q=>∀p,H p=none->Q (.ref p) (upd H p (.dT []))
section
variable {X:Cx}{pos:Pos}
theorem FC:PE X (.Dict [] [] pos) F8:=λaf s U H Q I h=>
 wpAny_Dict_empty ⟨.ref s.heap.objs.size,_,I.laid (a:=s.heap.objs.size) (o:=.dK [] { cls:=.type "dict",data:=.dict #[] }) (t':=s.toks) (λ_ _ q=>vZ _ q) (vT _) (yu s.heap I.big),rfl,h _ _ (I.hok.fresh (vT _))⟩
theorem FD:PE X (.Dict [] [] pos) F9:=λaf s U H Q I h=>
 wpAny_Dict_empty ⟨.ref s.heap.objs.size,_,I.laid (a:=s.heap.objs.size) (o:=.dT []) (t':=s.toks) (λ_ _ q=>vZ _ q) (vT _) (F7 s.heap I.big),rfl,h _ (I.hok.fresh (vT _))⟩
end
structure M1 (X:Cx)(o:Expr)(m:Str)(dP:Pos)(e:Expr)(cN:Pos):Prop where
 base:attributeBase o m X.env (eval o X.env)=eval o X.env
 few:((backTo cN (starEach [e] X.env)).all (λx=>!x.1) && (backToKw cN (keywordEach [] X.env)).all (λx=>x.1.isSome)
  && decide (([e]:List Expr).length+([]:List Keyword).length+(if([]:List Keyword).isEmpty then 0 else 1)<30))=true
 line:(dP.endLine == cN.line)=true
 trees:backTo cN (starEach [e] X.env)=[(false,eval e X.env)]
def Wq (H:Hp)(a:Addr):Prop:=(∃aS ob,Rd H a (.dK aS ob))∨∃aS,Rd H a (.dT aS)
theorem Nx (I:Inv X af U H s)(d:Wq H a):
  s.TypeIs (.ref a) "dict"/\(∀b,Value.ref a=.ref b->∃ob,s.heap.get? b=some ob/\ob.dict=none)/\(a == sysModules)=false:=by
 rcases d with⟨aS,UL,e⟩|⟨aS,e⟩
 ·obtain⟨_,hd,vs,_,dd⟩:=ul I.hok e;refine⟨dd.typeIs,λb q=>?_,hd⟩;cases q
  obtain⟨ob,_,_,h1,h2,_⟩:=dd;exact⟨ob,h1,h2.2.1⟩
 ·obtain⟨_,hd,xs,_,dd⟩:=um I.hok e;refine⟨dd.typeIs,λb q=>?_,hd⟩;cases q
  obtain⟨ob,_,_,h1,h2,_⟩:=dd;exact⟨ob,h1,h2.2.1⟩
section
variable {X:Cx}{af:List (Addr×Obj)}{U:St}{H:Hp}{s:Shared}{a:Addr}{y d:V}{u r:Value}{o:Option V}{A:Around}{E:Value->Shared->Prop}
theorem Ny (hu:A.units+1<cLine)(I:Inv X af U H s)(g:wK H a y o)(ry:bf y u)(h:∀w' s',Inv X af U H s'->bf (o.getD .non) w'->Q w' s'):
  wpAny (model X.prog X.w) A (call (.builtin "dict.get") [.ref a,u]) Q E s:=by
 rcases g with⟨aS,k,ob,e,ey,l⟩|⟨aS,k,b,e,ey,eb,l⟩
 ·subst ey;obtain⟨z,hd,vs,t6,dd⟩:=ul I.hok e;refine call_meetsIn PySem.F.slot_dict_get dd.typeIs PySem.F.entry_dict_get (PySem.F.args_dict_get_2 _ _) (meets_dict_get (c9 X.prog X.w) a (ui ry) hd) ⟨_,dd.mapOf,h _ _ (I.tok _) ?_⟩;rw[l];exact(t6.val k).getD rfl
 ·subst ey;cases (show u=Value.ref b from ry)
  obtain⟨z,hd,xs,t6,dd⟩:=um I.hok e;refine call_meetsIn PySem.F.slot_dict_get dd.typeIs PySem.F.entry_dict_get (PySem.F.args_dict_get_2 _ _) (meetsH_dict_get (tupleKind (c9 X.prog X.w)) a b hd) ⟨tupleKind_room_in1 hu,k,xs,qI I.hok eb,dd,h _ _ (I.tok _) ?_⟩;rw[l];exact(t6.val k).getD rfl
end
def Nz (td ty:TE):TE:=λU H Q=>td U H λx H1=>∃a,x=.ref a/\Wq H1 a/\ty U H1 λy H2=>∃o,wK H2 a y o/\Q (o.getD .non) H2
section
variable {X:Cx}{o e f:Expr}{dP cN:Pos}{td ty tx:TE}
theorem yv (hu:X.A.units+1<cLine)(ho:PE X o td)(he:PE X e ty)(m:M1 X o "get" dP e cN):PE X (.Call (.Attribute o "get" dP) [e] [] cN) (Nz td ty):=by
 intro af s U H Q I h;refine wpAny_Call_method m.base m.few m.line PySem.F.plainAttrs_dict PySem.F.slot_dict_get PySem.F.type_dict_get (cL (ho af s U H _ I h) λu s1 ⟨x,H1,I1,rx,a,ex,d,q1⟩=>?_);subst ex;obtain rfl:u=Value.ref a:=rx;obtain⟨t1,t2,_⟩:=Nx I1 d;refine⟨t1,t2,?_⟩;rw[m.trees];refine Calls.callWith_builtin rfl (Calls.evalArgs_plain (Calls.spliced_cons (cL (he af s1 U H1 _ I1 q1) λiv s2 ⟨y,H2,I2,ry,ov,g,q2⟩=>Calls.spliced_nil ?_)));exact Ny hu I2 g ry λw' s3 I3 HV=>⟨_,H2,I3,HV,q2⟩
end
end L2
namespace DL
open PySem L2
set_option linter.all false
abbrev St:=L2.St
inductive D where
 |non|bl (b:Bool)|int (i:Int)|str (x:Str)|ty (n:String)|tup (ds:List D)|lst (ds:List D)
  |dk (ks:List cE) (vs:List D)|dt (ks:List (List cE)) (vs:List D)
abbrev OB:=Option (D×Bool)
mutual
inductive Is (K:Frag)(H:Hp):V->D->Prop where
 |non:Is K H .non .non
 |bl (b:Bool):Is K H (.bl b) (.bl b)
 |int (i:Int):Is K H (.int i) (.int i)
 |str (x:Str):Is K H (.str x) (.str x)
 |ty (n:String):Is K H (.ty n) (.ty n)
 |tup {a:Addr}{vs:List V}{ds:List D}(h:jB K H a vs) (hs:IsL K H vs ds):Is K H (.ref a) (.tup ds)
 |lst {a:Addr}{vs:List V}{ds:List D}(h:jl K H a vs) (hs:IsL K H vs ds):Is K H (.ref a) (.lst ds)
 |dk {a:Addr}{ks:List cE}{vs:List V}{ds:List D}{ob:Obj}(h:H a=some (.dK (ks.zip vs) ob)) (hl:ks.length=vs.length) (hs:IsL K H vs ds):Is K H (.ref a) (.dk ks ds)
 |dt {a:Addr}{ks:List (List cE)}{vs:List V}{ds:List D}(h:H a=some (.dT (ks.zip vs))) (hl:ks.length=vs.length) (hs:IsL K H vs ds):Is K H (.ref a) (.dt ks ds)
inductive IsL (K:Frag)(H:Hp):List V->List D->Prop where
 |nil:IsL K H [] []
 |cons {v:V}{d:D}{vs:List V}{ds:List D}(h:Is K H v d) (hs:IsL K H vs ds):IsL K H (v::vs) (d::ds)
end
mutual
def bq:D->Bool
 |.lst _=>false
 |.dk _ _=>false
 |.dt _ _=>false
 |.tup ds=>bB ds
 |_=>true
def bB:List D->Bool
 |[]=>true
 |d::ds=>bq d && bB ds
end
@[simp] theorem Po:bq .non=true:=by simp only[bq]
@[simp] theorem QN (b:Bool):bq (.bl b)=true:=by simp only[bq]
@[simp] theorem Pp (i:Int):bq (.int i)=true:=by simp only[bq]
@[simp] theorem Pq (x:Str):bq (.str x)=true:=by simp only[bq]
@[simp] theorem QO (x:String):bq (.ty x)=true:=by simp only[bq]
@[simp] theorem Pr (ds:List D):bq (.tup ds)=bB ds:=by rw[bq]
@[simp] theorem Ps (ds:List D):bq (.lst ds)=false:=by rw[bq]
@[simp] theorem QP (ks:List cE)(ds:List D):bq (.dk ks ds)=false:=by rw[bq]
@[simp] theorem QQ (ks:List (List cE))(ds:List D):bq (.dt ks ds)=false:=by rw[bq]
@[simp] theorem N6:bB []=true:=by rw[bB]
@[simp] theorem L0 (d:D)(ds:List D):bB (d::ds)=(bq d && bB ds):=by rw[bB]
section
variable {K:Frag}{H H':Hp}
mutual
theorem Is.keep (hT:∀a vs,jB K H a vs->jB K H' a vs)(hL:∀a vs,jl K H a vs->jl K H' a vs)(hK:∀a aS ob,H a=some (.dK aS ob)->H' a=some (.dK aS ob))(hM:∀a aS,H a=some (.dT aS)->H' a=some (.dT aS)):∀ {v:V}{d:D},Is K H v d->Is K H' v d
 |_,_,.non=>.non
 |_,_,.bl b=>.bl b
 |_,_,.int i=>.int i
 |_,_,.str x=>.str x
 |_,_,.ty x=>.ty x
 |_,_,.tup h hs=>.tup (hT _ _ h) (IsL.keep hT hL hK hM hs)
 |_,_,.lst h hs=>.lst (hL _ _ h) (IsL.keep hT hL hK hM hs)
 |_,_,.dk h hl hs=>.dk (hK _ _ _ h) hl (IsL.keep hT hL hK hM hs)
 |_,_,.dt h hl hs=>.dt (hM _ _ h) hl (IsL.keep hT hL hK hM hs)
theorem IsL.keep (hT:∀a vs,jB K H a vs->jB K H' a vs)(hL:∀a vs,jl K H a vs->jl K H' a vs)(hK:∀a aS ob,H a=some (.dK aS ob)->H' a=some (.dK aS ob))(hM:∀a aS,H a=some (.dT aS)->H' a=some (.dT aS)):∀ {vs:List V}{ds:List D},IsL K H vs ds->IsL K H' vs ds
 |_,_,.nil=>.nil
 |_,_,.cons h hs=>.cons (Is.keep hT hL hK hM h) (IsL.keep hT hL hK hM hs)
end
mutual
theorem Is.keepT (hT:∀a vs,jB K H a vs->jB K H' a vs):∀ {v:V}{d:D},Is K H v d->bq d=true->Is K H' v d
 |_,_,.non,_=>.non
 |_,_,.bl b,_=>.bl b
 |_,_,.int i,_=>.int i
 |_,_,.str x,_=>.str x
 |_,_,.ty x,_=>.ty x
 |_,_,.tup h hs,n=>.tup (hT _ _ h) (IsL.keepT hT hs (by simpa using n))
 |_,_,.lst h hs,n=>by simp at n
 |_,_,.dk h hl hs,n=>by simp at n
 |_,_,.dt h hl hs,n=>by simp at n
theorem IsL.keepT (hT:∀a vs,jB K H a vs->jB K H' a vs):∀ {vs:List V}{ds:List D},IsL K H vs ds->bB ds=true->IsL K H' vs ds
 |_,_,.nil,_=>.nil
 |_,_,.cons h hs,n=>by
  simp at n;exact .cons (Is.keepT hT h n.1) (IsL.keepT hT hs n.2)
end
theorem b7 (e:bg H H')(h:jB K H a xs):jB K H' a xs:=by
 rcases h with (h|⟨o,h⟩)|h
 ·exact .inl (.inl (e _ _ h))
 ·exact .inl (.inr ⟨o,e _ _ h⟩)
 ·exact .inr h
theorem Is.mono (h:Is K H v d)(e:bg H H'):Is K H' v d:=h.keep (λ_ _=>b7 e) (λ_ _=>e.seq) (λ_ _ _ q=>e _ _ q) λ_ _ q=>e _ _ q
theorem IsL.mono (h:IsL K H v d)(e:bg H H'):IsL K H' v d:=h.keep (λ_ _=>b7 e) (λ_ _=>e.seq) (λ_ _ _ q=>e _ _ q) λ_ _ q=>e _ _ q
theorem IsL.length:∀ {vs:List V}{ds:List D},IsL K H vs ds->vs.length=ds.length
 |_,_,.nil=>rfl
 |_,_,.cons _ t=>congrArg (· + 1) t.length
theorem IsL.get:∀ {vs:List V}{ds:List D}{i:Nat}{d:D},IsL K H vs ds->ds[i]? = some d->∃v,vs[i]? = some v/\Is K H v d
 |_,_,_,_,.nil,e=>by simp at e
 |_,_,0,_,.cons h _,e=>by simp at e;subst e;exact⟨_,rfl,h⟩
 |_,_,i+1,d,.cons _ t,e=>by
  obtain⟨u,h1,h2⟩:=t.get (i:=i) (d:=d) (by simpa using e);exact⟨u,by simpa using h1,h2⟩
theorem IsL.append:∀ {vs ws:List V}{ds es:List D},IsL K H vs ds->IsL K H ws es->IsL K H (vs++ws) (ds++es)
 |_,_,_,_,.nil,s=>s
 |_,_,_,_,.cons r t,s=>.cons r (t.append s)
theorem IsL.take:∀ {vs:List V}{ds:List D}(n:Nat),IsL K H vs ds->IsL K H (vs.take n) (ds.take n)
 |_,_,0,_=>by simpa using IsL.nil
 |_,_,_+1,.nil=>.nil
 |_,_,n+1,.cons r t=>.cons r (t.take n)
theorem IsL.drop:∀ {vs:List V}{ds:List D}(n:Nat),IsL K H vs ds->IsL K H (vs.drop n) (ds.drop n)
 |_,_,0,r=>r
 |_,_,_+1,.nil=>.nil
 |_,_,n+1,.cons _ t=>t.drop n
theorem IsL.set (h:Is K H v d):∀ {vs:List V}{ds:List D}(i:Nat),IsL K H vs ds->IsL K H (vs.set i v) (ds.set i d)
 |_,_,_,.nil=>.nil
 |_,_,0,.cons _ t=>.cons h t
 |_,_,i+1,.cons r t=>.cons r (IsL.set h i t)
theorem IsL.eraseIdx:∀ {vs:List V}{ds:List D}(i:Nat),IsL K H vs ds->IsL K H (vs.eraseIdx i) (ds.eraseIdx i)
 |_,_,_,.nil=>.nil
 |_,_,0,.cons _ t=>t
 |_,_,i+1,.cons r t=>.cons r (t.eraseIdx i)
theorem IsL.flat {vs:List V}{ns:List Int}(h:vs=ns.map V.int):IsL K H vs (ns.map D.int):=by
 subst h;induction ns with
 |nil=>exact .nil
 |cons n ns ih=>exact .cons (.int n) ih
end
structure Ext (B N H H':Hp):Prop where
 hh:bg H H'
 bn:bg B N
 nh:bg N H'
 new:∀a o,N a=some o->B a=some o∨H a=none
theorem Ext.refl (h:bg B H):Ext B B H H:=⟨.refl _,.refl _,h,λ_ _ e=>.inl e⟩
theorem Ext.trans (x:Ext B N H H1)(y:Ext N N2 H1 H2):Ext B N2 H H2 :=
 ⟨x.hh.trans y.hh,x.bn.trans y.bn,y.nh,λa o e=>(y.new a o e).elim (λq=>x.new a o q) λq=>.inr (x.hh.free q)⟩
theorem Ext.laid (h:bg B H)(hp:H p=none):Ext B (upd B p o) H (upd H p o):=by
 have hB:B p=none:=h.free hp;refine⟨λa u e=>?_,λa u e=>?_,λa u e=>?_,λa u e=>?_⟩
 ·rw[aP (λq=>by subst q;rw[hp]at e;cases e)];exact e
 ·rw[aP (λq=>by subst q;rw[hB]at e;cases e)];exact e
 ·by_cases q:a=p
  ·subst q;rw[aJ]at e ⊢;exact e
  ·rw[aP q]at e ⊢;exact h _ _ e
 ·by_cases q:a=p
  ·subst q;exact .inr hp
  ·rw[aP q]at e;exact .inl e
theorem Ext.grow (h:bg B H)(hh:bg H H'):Ext B B H H':=⟨hh,.refl _,h.trans hh,λ_ _ e=>.inl e⟩
abbrev Env:=List OB
abbrev FE:=Env->OB
abbrev FA:=Env->Option (List D)
abbrev FT:=Env->Option Bool
def Pt (K:Frag)(H N:Hp)(v:V)(d:D):Prop:=∃(a:Addr)(vs:List V)(ds:List D),v=.ref a/\d=.lst ds/\H a=none/\N a=some (.lst vs)/\IsL K N vs ds
theorem Pt.back (h:Pt K H' N v d)(e:bg H H'):Pt K H N v d:=let ⟨a,vs,ds,q,y,z,r⟩:=h;⟨a,vs,ds,q,y,e.free z,r⟩
noncomputable def nz:List Str:=["in_order","has_seal","is_first_death","bases_by"]
noncomputable def qJ (x:Str):Str:=x ++ ".<locals>." ++ "<lambda>"
def Tb (K:Frag)(B:Hp):Prop:=∀x∈nz,∀c P,PySem.W.tabIn K x=some (c,P)->B P=some (.tbl (qJ x))
theorem Tb.mono (h:Tb K B)(e:bg B B'):Tb K B':=λx hx c P q=>e _ _ (h x hx c P q)
structure gf (K:Frag)(B:Hp)(U:St)(Y:Env):Prop where
 tb:Tb K B
 at':∀(i:Nat)(d:D)(b:Bool),Y[i]? = some (some (d,b))->∃v,U[i]? = some (some v)/\Is K B v d
theorem gf.mono (h:gf K B U Y)(e:bg B B'):gf K B' U Y:=⟨h.tb.mono e,λi d b q=>let ⟨v,h1,h2⟩:=h.at' i d b q;⟨v,h1,h2.mono e⟩⟩
def Fin (K:Frag)(B H:Hp)(d:D)(b:Bool)(Q:VK):Prop:=∀(v:V)(H' N:Hp),Ext B N H H'->Is K N v d->(b=true->Pt K H N v d)->Q v H'
def tD (K:Frag)(f:FE):TE:=λU H Q=>∃(B:Hp)(Y:Env)(d:D)(b:Bool),bg B H/\gf K B U Y/\f Y=some (d,b)/\Fin K B H d b Q
def DV (K:Frag)(f:FT):TT:=λU H Q=>∃(B:Hp)(Y:Env)(c:Bool),bg B H/\gf K B U Y/\f Y=some c/\∀H',bg H H'->Q c H'
def Pu (K:Frag)(f:FA):TA:=λU H Q=>∃(B:Hp)(Y:Env)(ds:List D),bg B H/\gf K B U Y/\f Y=some ds/\∀(vs:List V)(H' N:Hp),Ext B N H H'->IsL K N vs ds->Q vs H'
def rD (K:Frag)(op:D->D->OB):R2:=λx y H Q=>∃(B:Hp)(dx dy d:D)(b:Bool),bg B H/\Is K B x dx/\Is K B y dy/\op dx dy=some (d,b)/\Fin K B H d b Q
def Ul (K:Frag)(op:D->OB):V->Hp->VK->Prop:=λx H Q=>∃(B:Hp)(dx d:D)(b:Bool),bg B H/\Is K B x dx/\op dx=some (d,b)/\Fin K B H d b Q
def BY (K:Frag)(op:List D->OB):List V->Hp->VK->Prop:=λxs H Q=>∃(B:Hp)(ds:List D)(d:D)(b:Bool),bg B H/\IsL K B xs ds/\op ds=some (d,b)/\Fin K B H d b Q
theorem Fin.one (h:Fin K B H d false Q)(s:bg B H)(i:Is K B v d):Q v H:=h v H B (.refl s) i (by simp)
theorem Fin.into (h:Fin K B H d b Q)(x:Ext B N H H1):Fin K N H1 d b Q:=λv H' N' y i fr=>h v H' N' (x.trans y) i λe=>(fr e).back x.hh
@[simp] noncomputable def fC (d:D):FE:=λ_=>some (d,false)
@[simp] noncomputable def aj (i:Nat):FE:=λY=>match Y[i]? with|some (some (d,_))=>some (d,false)|_=>none
@[simp] noncomputable def f2 (op:D->D->OB)(fa fb:FE):FE:=λY=>(fa Y).bind λx=>(fb Y).bind λy=>op x.1 y.1
@[simp] noncomputable def f1 (op:D->OB)(fa:FE):FE:=λY=>(fa Y).bind λx=>op x.1
@[simp] noncomputable def ai:FA:=λ_=>some []
@[simp] noncomputable def ae (fa:FE)(fr:FA):FA:=λY=>(fa Y).bind λx=>(fr Y).bind λxs=>some (x.1::xs)
@[simp] noncomputable def fA (op:List D->OB)(fa:FA):FE:=λY=>(fa Y).bind op
theorem N7 (h:tD K (aj i) U H Q):∃v,U[i]? = some (some v)/\Q v H:=by
 obtain⟨B,Y,d,b,s,r,e,q⟩:=h;unfold aj at e;split at e
 ·rename_i d' b' e';cases e
  obtain⟨v,h1,h2⟩:=r.at' i _ _ e';exact⟨v,h1,q.one s h2⟩
 ·cases e
theorem Jh (h:tD K (f2 op fa fb) U H Q):tD K fa U H λx H1=>tD K fb U H1 λy H2=>rD K op x y H2 Q:=by
 obtain⟨B,Y,d,b,s,r,e,q⟩:=h;obtain⟨x,ex,e⟩:=oX e;obtain⟨y,ey,e⟩:=oX e;refine⟨B,Y,x.1,x.2,s,r,ex,λv H1 N x1 i1 _=>⟨N,Y,y.1,y.2,x1.nh,r.mono x1.bn,ey,λv2 H2 N2 x2 i2 _=>⟨N2,x.1,y.1,d,b,x2.nh,i1.mono x2.bn,i2,e,?_⟩⟩⟩;exact q.into (x1.trans x2)
theorem Um (h:tD K (f1 op fa) U H Q):tD K fa U H λx H1=>Ul K op x H1 Q:=by
 obtain⟨B,Y,d,b,s,r,e,q⟩:=h;obtain⟨x,ex,e⟩:=oX e;exact⟨B,Y,x.1,x.2,s,r,ex,λv H1 N x1 i1 _=>⟨N,x.1,d,b,x1.nh,i1,e,q.into x1⟩⟩
theorem Ji (h:tD K (fA op fa) U H Q):Pu K fa U H λxs H1=>BY K op xs H1 Q:=by
 obtain⟨B,Y,d,b,s,r,e,q⟩:=h;obtain⟨x,ex,e⟩:=oX e;exact⟨B,Y,x,s,r,ex,λv H1 N x1 i1=>⟨N,x,d,b,x1.nh,i1,e,q.into x1⟩⟩
theorem Jj (h:Pu K ai U H Q):Q [] H:=by
 obtain⟨B,Y,ds,s,r,e,q⟩:=h;cases e
 exact q [] H B (.refl s) .nil
theorem FF (h:Pu K (ae fa fr) U H Q):tD K fa U H λx H1=>Pu K fr U H1 λxs H2=>Q (x::xs) H2:=by
 obtain⟨B,Y,ds,s,r,e,q⟩:=h;obtain⟨x,ex,e⟩:=oX e;obtain⟨y,ey,e⟩:=oX e;cases e
 exact⟨B,Y,x.1,x.2,s,r,ex,λv H1 N x1 i1 _=>⟨N,Y,y,x1.nh,r.mono x1.bn,ey,λvs H2 N2 x2 i2=>q _ H2 N2 (x1.trans x2) (.cons (i1.mono x2.bn) i2)⟩⟩
@[simp] noncomputable def aU (f:FE):FT:=λY=>match f Y with|some (.bl c,_)=>some c|_=>none
@[simp] noncomputable def cA (f g:FT):FT:=λY=>match f Y with|some true=>g Y|some false=>some false|none=>none
@[simp] noncomputable def js (f g:FT):FT:=λY=>match f Y with|some true=>some true|some false=>g Y|none=>none
@[simp] noncomputable def dS (f:FT):FT:=λY=>(f Y).map (!·)
@[simp] noncomputable def Jk (c:FT)(f g:FE):FE:=λY=>match c Y with|some true=>f Y|some false=>g Y|none=>none
open Classical in
noncomputable def eC (H:Hp)(P:Addr->Prop):Hp:=λa=>if P a then none else H a
theorem cV (h:¬P a):eC H P a=H a:=by unfold eC;rw[if_neg h]
theorem AR (h:P a):eC H P a=none:=by unfold eC;rw[if_pos h]
theorem qK (h:eC H P a=some o):¬P a/\H a=some o:=by
 by_cases q:P a
 ·rw[AR q]at h;cases h
 ·rw[cV q]at h;exact⟨q,h⟩
theorem ce:bg (eC H P) H:=λ_ _ e=>(qK e).2
theorem fu (e:∀a o,H a=some o->¬P a->H' a=some o/\¬P' a):bg (eC H P) (eC H' P'):=λa o q=>by
 obtain⟨h1,h2⟩:=qK q;obtain⟨h3,h4⟩:=e a o h2 h1;rw[cV h4];exact h3
noncomputable def join (N N':Hp):Hp:=λa=>match N a with|some o=>some o|none=>N' a
theorem fH:bg N (join N N'):=λa o e=>by unfold join;rw[e]
theorem eV (e:N a=none):join N N' a=N' a:=by unfold join;rw[e]
def own (U:St)(Y:Env)(a:Addr):Prop:=∃(i:Nat)(d:D),Y[i]? = some (some (d,true))/\U[i]? = some (some (V.ref a))
inductive Bx (K:Frag)(C:Hp):HO->D->Prop where
 |lst {vs:List V}{ds:List D}(h:IsL K C vs ds):Bx K C (.lst vs) (.lst ds)
 |dk {ks:List cE}{vs:List V}{ds:List D}(hl:ks.length=vs.length) (h:IsL K C vs ds) {ob:Obj}:Bx K C (.dK (ks.zip vs) ob) (.dk ks ds)
 |dt {ks:List (List cE)}{vs:List V}{ds:List D}(hl:ks.length=vs.length) (h:IsL K C vs ds):Bx K C (.dT (ks.zip vs)) (.dt ks ds)
theorem Bx.mono (h:Bx K C o d)(e:bg C C'):Bx K C' o d:=by
 cases h with
 |lst h=>exact .lst (h.mono e)
 |dk hl h=>exact .dk hl (h.mono e)
 |dt hl h=>exact .dt hl (h.mono e)
theorem Bx.is (h:Bx K C o d)(e:C a=some o):Is K C (.ref a) d:=by
 cases h with
 |lst h=>exact .lst (jl.of e) h
 |dk hl h=>exact .dk e hl h
 |dt hl h=>exact .dt e hl h
structure eU (K:Frag)(B0 H0 N H:Hp)(U:St)(Y:Env):Prop where
 bh:bg B0 H0
 tb:Tb K B0
 ext:Ext B0 N H0 H
 len:Y.length=U.length
 sh:∀(i:Nat)(d:D),Y[i]? = some (some (d,false))->∃v,U[i]? = some (some v)/\Is K (eC N (own U Y)) v d
 ow:∀(i:Nat)(d:D),Y[i]? = some (some (d,true))->∃(a:Addr)(o:HO),U[i]? = some (some (V.ref a))/\N a=some o/\H0 a=none/\Bx K (eC N (own U Y)) o d
 inj:∀(i j:Nat)(a:Addr)(d e:D),Y[i]? = some (some (d,true))->Y[j]? = some (some (e,true))->U[i]? = some (some (V.ref a))->U[j]? = some (some (V.ref a))->i=j
def AS (K:Frag)(B0 H0 H:Hp)(U:St)(Y:Env):Prop:=∃N,eU K B0 H0 N H U Y
section
variable {K:Frag}{B0 H0 N H H':Hp}{U:St}{Y:Env}
theorem eU.owL (s:eU K B0 H0 N H U Y)(i:Nat)(d:D)(q:Y[i]? = some (some (.lst es,true)))(hd:d=.lst es:=by rfl):∃(a:Addr)(vs:List V)(ds:List D),d=.lst ds/\U[i]? = some (some (V.ref a))/\N a=some (.lst vs)/\H0 a=none/\IsL K (eC N (own U Y)) vs ds:=by
 obtain⟨a,o,h1,h2,h3,h4⟩:=s.ow i _ q;cases h4 with
 |lst h4=>exact⟨a,_,es,hd,h1,h2,h3,h4⟩
def boxed:HO->Prop
 |.lst _|.dK _ _|.dT _=>True
 |_=>False
theorem Bx.boxed (h:Bx K C o d):boxed o:=by cases h<;>exact trivial
theorem eU.owned (s:eU K B0 H0 N H U Y)(h:own U Y a):∃o,(N a=some o/\boxed o)/\H0 a=none:=by
 obtain⟨i,d,h1,h2⟩:=h;obtain⟨a',o,h3,h4,h5,h6⟩:=s.ow i d h1;rw[h2]at h3;cases h3;exact⟨o,⟨h4,h6.boxed⟩,h5⟩
theorem eU.rep (s:eU K B0 H0 N H U Y):gf K N U Y:=⟨s.tb.mono s.ext.bn,λi d b q=>by
 cases b with
 |false=>obtain⟨v,h1,h2⟩:=s.sh i d q;exact⟨v,h1,h2.mono ce⟩
 |true=>
  obtain⟨a,o,h2,h3,_,h4⟩:=s.ow i d q;exact⟨_,h2,(h4.mono ce).is h3⟩⟩
noncomputable def nA (Y:Env):Env:=Y.map λx=>match x with|some (d,false)=>some (d,false)|_=>none
theorem FH {i:Nat}{d:D}{b:Bool}(h:(nA Y)[i]? = some (some (d,b))):b=false/\Y[i]? = some (some (d,false)):=by
 unfold nA at h;rw[vA]at h;cases e:Y[i]? with
 |none=>rw[e]at h;cases h
 |some x=>
  rw[e]at h;match x,h with
  |some (d',false),h=>cases h;exact⟨rfl,rfl⟩
  |some (d',true),h=>cases h
  |none,h=>cases h
theorem eU.tbC (s:eU K B0 H0 N H U Y):Tb K (eC N (own U Y)):=λx hx c P q=>by
 have z:=s.tb.mono s.ext.bn x hx c P q;rw[cV]
 ·exact z
 ·intro y;obtain⟨o,⟨y,yb⟩,_⟩:=s.owned y;rw[z]at y;cases y;exact yb
theorem eU.repH (s:eU K B0 H0 N H U Y):gf K (eC N (own U Y)) U (nA Y):=⟨s.tbC,λi d b q=>by
 obtain⟨rfl,q2⟩:=FH q;exact s.sh i d q2⟩
theorem eU.grow (s:eU K B0 H0 N H U Y)(x:Ext N N' H H'):eU K B0 H0 N' H' U Y:=by
 have c:bg (eC N (own U Y)) (eC N' (own U Y)):=fu λa o e q=>⟨x.bn a o e,q⟩;refine⟨s.bh,s.tb,s.ext.trans x,s.len,λi d q=>?_,λi d q=>?_,s.inj⟩
 ·obtain⟨v,h1,h2⟩:=s.sh i d q;exact⟨v,h1,h2.mono c⟩
 ·obtain⟨a,o,h2,h3,h4,h5⟩:=s.ow i d q;exact⟨a,o,h2,x.bn _ _ h3,h4,h5.mono c⟩
theorem eU.growH (s:eU K B0 H0 N H U Y)(x:Ext (eC N (own U Y)) N' H H'):eU K B0 H0 (join N N') H' U Y/\bg N' (eC (join N N') (own U Y)):=by
 have x':Ext N (join N N') H H':=by
  refine⟨x.hh,fH,λa o e=>?_,λa o e=>?_⟩
  ·cases q:N a with
   |some u=>
    have:join N N' a=some u:=fH _ _ q;rw[this]at e;cases e;exact x.hh _ _ (s.ext.nh _ _ q)
   |none=>rw[eV q]at e;exact x.nh _ _ e
  ·cases q:N a with
   |some u=>
    have:join N N' a=some u:=fH _ _ q;rw[this]at e;cases e;exact .inl rfl
   |none=>
    rw[eV q]at e;rcases x.new a o e with z|z
    ·have:=ce _ _ z;rw[q]at this;cases this
    ·exact .inr z
 refine⟨s.grow x',λa o e=>?_⟩;rcases x.new a o e with z|z
 ·obtain⟨z1,z2⟩:=qK z;rw[cV z1];exact fH _ _ z2
 ·have hN:N a=none:=s.ext.nh.free z;have:¬own U Y a:=λq=>by obtain⟨vs,⟨q,_⟩,_⟩:=s.owned q;rw[hN]at q;cases q
  rw[cV this,eV hN];exact e
noncomputable def unown (Y:Env):Env:=Y.map λx=>x.map λy=>(y.1,false)
theorem lH {i:Nat}{d:D}{b:Bool}(h:(unown Y)[i]? = some (some (d,b))):b=false/\∃c,Y[i]? = some (some (d,c)):=by
 unfold unown at h;rw[vA]at h;cases e:Y[i]? with
 |none=>rw[e]at h;cases h
 |some x=>
  rw[e]at h;match x,h with
  |some (d',c),h=>cases h;exact⟨rfl,c,rfl⟩
  |none,h=>cases h
theorem oF {a:Addr}:¬own U (unown Y) a:=λ⟨i,d,h,_⟩=>by
 obtain⟨z,_⟩:=lH h;cases z
theorem eU.unown (s:eU K B0 H0 N H U Y):eU K B0 H0 N H U (unown Y):=by
 refine⟨s.bh,s.tb,s.ext,by unfold DL.unown;rw[vI];exact s.len,λi d q=>?_,λi d q=>?_,λi j a d e q=>?_⟩
 ·obtain⟨_,c,q⟩:=lH q;obtain⟨v,h1,h2⟩:=s.rep.at' i d c q;exact⟨v,h1,h2.mono λa o e=>by rw[cV oF];exact e⟩
 ·obtain⟨z,_⟩:=lH q;cases z
 ·obtain⟨z,_⟩:=lH q;cases z
theorem c6 {α:Type}{l:List α}{i j:Nat}{x y:α}(h:(l.set i x)[j]? = some y):(i=j/\x=y)∨(i≠j/\l[j]? = some y):=by
 by_cases e:i=j
 ·subst e;rw[List.getElem?_set]at h;split at h
  ·split at h
   ·exact .inl ⟨rfl,vK h⟩
   ·cases h
  ·contradiction
 ·rw[vB e]at h;exact .inr ⟨e,h⟩
theorem uo {α β:Type}{l:List α}{m:List β}{i:Nat}{x y:α}(h:(l.set i x)[i]? = some y)(e:l.length=m.length):i<m.length:=by
 obtain⟨h,_⟩:=vV h;rw[List.length_set]at h;omega
theorem wN {i:Nat}{v:V}{x:OB}{a:Addr}(h:own (U.set i (some v)) (Y.set i x) a):(v=.ref a/\∃d,x=some (d,true))∨∃j,j≠i/\∃d,Y[j]? = some (some (d,true))/\U[j]? = some (some (V.ref a)):=by
 obtain⟨j,d,h1,h2⟩:=h;rcases c6 h1 with⟨e,q⟩|⟨e,q⟩
 ·rcases c6 h2 with⟨e2,q2⟩|⟨e2,q2⟩
  ·cases q2;exact .inl ⟨rfl,d,q⟩
  ·exact absurd e e2
 ·rcases c6 h2 with⟨e2,q2⟩|⟨e2,q2⟩
  ·exact absurd e2 e
  ·exact .inr ⟨j,λz=>e z.symm,d,q,q2⟩
theorem eU.bind (s:eU K B0 H0 N H U Y){i:Nat}{v:V}{d:D}(h:Is K (eC N (own U Y)) v d):eU K B0 H0 N H (U.set i (some v)) (Y.set i (some (d,false))):=by
 have o:∀a,own (U.set i (some v)) (Y.set i (some (d,false))) a->own U Y a:=λa q=>by
  rcases wN q with⟨_,d',p⟩|⟨j,_,d',q1,q2⟩
  ·cases p
  ·exact⟨j,d',q1,q2⟩
 have c:bg (eC N (own U Y)) (eC N (own (U.set i (some v)) (Y.set i (some (d,false))))):=fu λa u e q=>⟨e,λz=>q (o a z)⟩;refine⟨s.bh,s.tb,s.ext,by simp[s.len],λj e q=>?_,λj e q=>?_,λj k a e f q q' h1 h2=>?_⟩
 ·rcases c6 q with⟨rfl,p⟩|⟨ne,p⟩
  ·cases p
   have hi:=uo q s.len;exact⟨v,by simp[hi],h.mono c⟩
  ·obtain⟨w,h1,h2⟩:=s.sh j e p;exact⟨w,by rw[vB ne];exact h1,h2.mono c⟩
 ·rcases c6 q with⟨rfl,p⟩|⟨ne,p⟩
  ·cases p
  ·obtain⟨a,o,h1,h2,h3,h4⟩:=s.ow j e p;exact⟨a,o,by rw[vB ne];exact h1,h2,h3,h4.mono c⟩
 ·rcases c6 q with⟨rfl,p⟩|⟨ne,p⟩
  ·cases p
  ·rcases c6 q' with⟨rfl,p'⟩|⟨RM,p'⟩
   ·cases p'
   ·rw[vB ne]at h1;rw[vB RM]at h2;exact s.inj j k a e f p p' h1 h2
theorem eU.bindOwn (s:eU K B0 H0 N H U Y){i:Nat}{a:Addr}{ob:HO}{dd:D}(hN:N a=some ob)(h0:H0 a=none)(PJ:∀(j:Nat)(d:D),Y[j]? = some (some (d,true))->U[j]? ≠ some (some (V.ref a)))
  (Va:∀(j:Nat)(d:D),j≠i->Y[j]? = some (some (d,false))->∃v,U[j]? = some (some v)/\Is K (eC N (λb=>own U Y b∨b=a)) v d) (Zl:∀(j:Nat)(d:D),j≠i->Y[j]? = some (some (d,true))->∃(a':Addr)(o:HO),U[j]? = some (some (V.ref a'))/\N a'=some o/\Bx K (eC N (λb=>own U Y b∨b=a)) o d)
  (OO:Bx K (eC N (λb=>own U Y b∨b=a)) ob dd):eU K B0 H0 N H (U.set i (some (.ref a))) (Y.set i (some (dd,true))):=by
 have o:∀b,own (U.set i (some (V.ref a))) (Y.set i (some (dd,true))) b->own U Y b∨b=a:=λb q=>by
  rcases wN q with⟨p,_⟩|⟨j,_,d',q1,q2⟩
  ·cases p;exact .inr rfl
  ·exact .inl ⟨j,d',q1,q2⟩
 have c:bg (eC N (λb=>own U Y b∨b=a)) (eC N (own (U.set i (some (V.ref a))) (Y.set i (some (dd,true))))):=fu λb u e q=>⟨e,λz=>q (o b z)⟩;refine⟨s.bh,s.tb,s.ext,by simp[s.len],λj e q=>?_,λj e q=>?_,λj k b e f q q' h1 h2=>?_⟩
 ·rcases c6 q with⟨rfl,p⟩|⟨ne,p⟩
  ·cases p
  ·obtain⟨w,h1,h2⟩:=Va j e (Ne.symm ne) p;exact⟨w,by rw[vB ne];exact h1,h2.mono c⟩
 ·rcases c6 q with⟨rfl,p⟩|⟨ne,p⟩
  ·cases p
   have hi:=uo q s.len;exact⟨a,ob,by simp[hi],hN,h0,OO.mono c⟩
  ·obtain⟨a',o',h1,h2,h4⟩:=Zl j e (Ne.symm ne) p;have h3:H0 a'=none:=by
    obtain⟨a2,_,k1,_,k3,_⟩:=s.ow j e p;rw[h1]at k1;cases k1;exact k3
   exact⟨a',o',by rw[vB ne];exact h1,h2,h3,h4.mono c⟩
 ·rcases c6 q with⟨rfl,p⟩|⟨ne,p⟩
  ·rcases c6 q' with⟨rfl,p'⟩|⟨RM,p'⟩
   ·rfl
   ·rw[vB RM]at h2;have Tq:V.ref a=V.ref b:=by
     rcases c6 h1 with⟨_,z⟩|⟨z,_⟩
     ·exact vK z
     ·exact absurd rfl z
    cases Tq
    exact absurd h2 (PJ k f p')
  ·rcases c6 q' with⟨rfl,p'⟩|⟨RM,p'⟩
   ·rw[vB ne]at h1;have HY:V.ref a=V.ref b:=by
     rcases c6 h2 with⟨_,z⟩|⟨z,_⟩
     ·exact vK z
     ·exact absurd rfl z
    cases HY
    exact absurd h1 (PJ j e p)
   ·rw[vB ne]at h1;rw[vB RM]at h2;exact s.inj j k b e f p p' h1 h2
end
inductive Res where
 |nx (Y:Env)|rt (d:D) (b:Bool)|bk (Y:Env)|ct (Y:Env)
abbrev FS:=Env->Option Res
def QR (K:Frag)(B0 H0:Hp)(E:Ends):Res->Prop
 |.nx Y=>∀U H,AS K B0 H0 H U Y->E.nx U H
 |.rt d b=>∀v H N,Ext B0 N H0 H->Is K N v d->(b=true->Pt K H0 N v d)->E.rt v H
 |.bk Y=>∀U H,AS K B0 H0 H U Y->E.bk U H
 |.ct Y=>∀U H,AS K B0 H0 H U Y->E.ct U H
def oG (K:Frag)(g:FS):TS:=λE U H=>∃(B0 H0:Hp)(Y:Env)(r:Res),AS K B0 H0 H U Y/\g Y=some r/\QR K B0 H0 E r
section
variable {K:Frag}{B0 H0 N H H':Hp}{U:St}{Y:Env}{E:Ends}
theorem eU.writeB (s:eU K B0 H0 N H U Y)(hi:Y[i]? = some (some (d,true)))(hσ:U[i]? = some (some (V.ref a)))(h:Bx K (eC N (own U Y)) ob dd):
  eU K B0 H0 (upd N a ob) (upd H a ob) U (Y.set i (some (dd,true))):=by
 have oa:own U Y a:=⟨i,d,hi,hσ⟩;obtain⟨ws,hw,h0⟩:=s.owned oa;have b0:B0 a=none:=s.bh.free h0;have o:∀b,own U (Y.set i (some (dd,true))) b↔own U Y b:=λb=>by
  constructor
  ·rintro⟨j,e,q1,q2⟩;rcases c6 q1 with⟨rfl,p⟩|⟨_,p⟩
   ·exact⟨i,d,hi,q2⟩
   ·exact⟨j,e,p,q2⟩
  ·rintro⟨j,e,q1,q2⟩;by_cases z:i=j
   ·subst z;exact⟨i,dd,by rw[List.getElem?_set_self (vV hi).1],q2⟩
   ·exact⟨j,e,by rw[vB z];exact q1,q2⟩
 have c:bg (eC N (own U Y)) (eC (upd N a ob) (own U (Y.set i (some (dd,true))))):=fu λb u e q=>by
  have ne:b≠a:=λz=>q (z ▸ oa);exact⟨by rw[aP ne];exact e,λz=>q ((o b).mp z)⟩
 refine⟨s.bh,s.tb,⟨λb u e=>?_,λb u e=>?_,λb u e=>?_,λb u e=>?_⟩,by rw[List.length_set];exact s.len,λj e q=>?_,λj e q=>?_,λj k b e f q q' h1 h2=>?_⟩
 ·rw[aP (λz=>by subst z;rw[h0]at e;cases e)];exact s.ext.hh _ _ e
 ·rw[aP (λz=>by subst z;rw[b0]at e;cases e)];exact s.ext.bn _ _ e
 ·by_cases z:b=a
  ·subst z;rw[aJ]at e ⊢;exact e
  ·rw[aP z]at e ⊢;exact s.ext.nh _ _ e
 ·by_cases z:b=a
  ·subst z;exact .inr h0
  ·rw[aP z]at e;exact s.ext.new _ _ e
 ·rcases c6 q with⟨rfl,p⟩|⟨ne,p⟩
  ·cases p
  ·obtain⟨v,h1,h2⟩:=s.sh j e p;exact⟨v,h1,h2.mono c⟩
 ·rcases c6 q with⟨rfl,p⟩|⟨ne,p⟩
  ·cases p
   exact⟨a,ob,hσ,aJ,h0,h.mono c⟩
  ·obtain⟨a',o',h1,h2,h3,h4⟩:=s.ow j e p;have na:a'≠a:=λz=>by subst z;exact ne (s.inj i j _ d e hi p hσ h1)
   exact⟨a',o',h1,by rw[aP na];exact h2,h3,h4.mono c⟩
 ·have get:∀ {j:Nat}{e:D},(Y.set i (some (dd,true)))[j]? = some (some (e,true))->∃e',Y[j]? = some (some (e',true)):=λ{j e} q=>by
   rcases c6 q with⟨rfl,p⟩|⟨ne,p⟩
   ·exact⟨d,hi⟩
   ·exact⟨e,p⟩
  obtain⟨e',q1⟩:=get q;obtain⟨f',q2⟩:=get q';exact s.inj j k b e' f' q1 q2 h1 h2
theorem eU.write (s:eU K B0 H0 N H U Y)(hi:Y[i]? = some (some (d,true)))(hσ:U[i]? = some (some (V.ref a)))(h:IsL K (eC N (own U Y)) vs ds):
  eU K B0 H0 (upd N a (.lst vs)) (upd H a (.lst vs)) U (Y.set i (some (.lst ds,true))):=s.writeB hi hσ (.lst h)
theorem eU.tups (s:eU K B0 H0 N H U Y):∀a vs,jB K N a vs->jB K (eC N (own U Y)) a vs:=λa vs h=>by
 have key:∀u,N a=some u->¬boxed u->eC N (own U Y) a=some u:=λu e hu=>by
  rw[cV λz=>?_];exact e;obtain⟨ws,⟨q,qb⟩,_⟩:=s.owned z;rw[e]at q;cases q;exact hu qb
 rcases h with (h|⟨o,h⟩)|h
 ·exact .inl (.inl (key _ h (λq=>q)))
 ·exact .inl (.inr ⟨o,key _ h (λq=>q)⟩)
 ·exact .inr h
theorem eU.flat (s:eU K B0 H0 N H U Y)(h:Is K N v d)(n:bq d=true):Is K (eC N (own U Y)) v d:=h.keepT s.tups n
theorem eU.flats (s:eU K B0 H0 N H U Y)(h:IsL K N v d)(n:bB d=true):IsL K (eC N (own U Y)) v d:=h.keepT s.tups n
theorem eU.rebase (s:eU K B0 H0 N H U Y):eU K (eC N (own U Y)) (eC H (own U Y)) N H U Y :=
 ⟨fu λa o e q=>⟨s.ext.nh _ _ e,q⟩,s.tbC,⟨ce,ce,s.ext.nh,λa o e=>by
  by_cases q:own U Y a
  ·exact .inr (AR q)
  ·exact .inl (by rw[cV q];exact e)⟩,s.len,s.sh,λi d q=>by
   obtain⟨a,o,h1,h2,_,h4⟩:=s.ow i d q;exact⟨a,o,h1,h2,AR ⟨i,d,q,h1⟩,h4⟩,s.inj⟩
theorem eU.unbase (s:eU K B0 H0 N H U Y)(t:eU K (eC N (own U Y)) (eC H (own U Y)) N' H' σ' ρ'):eU K B0 H0 N' H' σ' ρ':=by
 have h0:bg H0 (eC H (own U Y)):=λa o e=>by
  rw[cV λz=>?_];exact s.ext.hh _ _ e;obtain⟨_,_,q⟩:=s.owned z;rw[q]at e;cases e
 have b0:bg B0 (eC N (own U Y)):=λa o e=>by
  rw[cV λz=>?_];exact s.ext.bn _ _ e;obtain⟨_,_,q⟩:=s.owned z;rw[s.bh _ _ e]at q;cases q
 refine⟨s.bh,s.tb,⟨h0.trans t.ext.hh,b0.trans t.ext.bn,t.ext.nh,λa o e=>?_⟩,t.len,t.sh,λi d q=>?_,t.inj⟩
 ·rcases t.ext.new a o e with z|z
  ·exact s.ext.new a o (ce _ _ z)
  ·exact .inr (h0.free z)
 ·obtain⟨a,o,h1,h2,h3,h4⟩:=t.ow i d q;exact⟨a,o,h1,h2,h0.free h3,h4⟩
theorem eU.based (t:eU K B0 H0 N H U Y):bg B0 (eC N (own U Y)):=λa o e=>by
 rw[cV λz=>?_];exact t.ext.bn _ _ e;obtain⟨_,_,q⟩:=t.owned z;rw[t.bh _ _ e]at q;cases q
@[simp] noncomputable def a9 (g h:FS):FS:=λY=>match g Y with|some (.nx ρ')=>h ρ'|r=>r
@[simp] noncomputable def aV:FS:=λY=>some (.nx Y)
@[simp] noncomputable def cW (c:FT)(g h:FS):FS:=λY=>match c Y with|some true=>g Y|some false=>h Y|none=>none
@[simp] noncomputable def aT (f:FE):FS:=λY=>(f Y).map λx=>.rt x.1 x.2
@[simp] noncomputable def Wr:FS:=λ_=>some (.rt .non false)
@[simp] noncomputable def Ws (f:FE):FS:=λY=>(f Y).map λ_=>.nx Y
@[simp] noncomputable def L3:D->Bool
 |.dk _ _=>true
 |.dt _ _=>true
 |_=>false
@[simp] def iI (i:Nat):FS:=λY=>match Y[i]? with|some (some (d,b))=>some (.rt d (b && !L3 d))|_=>none
@[simp] def yw:D->Bool
 |.lst ds=>bB ds
 |_=>false
@[simp] def setE (Y:Env)(i:Nat)(d:D)(b:Bool):Env :=
 if bq d=true then Y.set i (some (d,false))else if b=true/\yw d=true then Y.set i (some (d,true))else (unown Y).set i (some (d,false))
@[simp] def aQ (i:Nat)(f:FE):FS:=λY=>(f Y).map λx=>.nx (setE Y i x.1 x.2)
@[simp] def yx (i:Nat)(f:FE):FS:=λY=>(f (nA Y)).map λx=>.nx (Y.set i (some (x.1,false)))
@[simp] def jV (i:Nat)(f:FE):FS:=λY=>match Y[i]? with
 |some (some (.lst ds,true))=>(f Y).bind λx=>if bq x.1=true/\ds.length<sizeLine then some (.nx (Y.set i (some (.lst (ds++[x.1]),true))))else none
 |_=>none
theorem Jl (q:oG K (a9 g h) E U H):Qt (oG K g) (oG K h) E U H:=by
 obtain⟨B0,H0,Y,r,s,e,p⟩:=q;unfold a9 at e;cases eg:g Y with
 |none=>rw[eg]at e;cases e
 |some r1=>
  rw[eg]at e;cases r1 with
  |nx ρ'=>exact⟨B0,H0,Y,.nx ρ',s,eg,λσ' H' s'=>⟨B0,H0,ρ',r,s',e,p⟩⟩
  |rt d b=>cases e;exact⟨B0,H0,Y,_,s,eg,p⟩
  |bk ρ'=>cases e;exact⟨B0,H0,Y,_,s,eg,p⟩
  |ct ρ'=>cases e;exact⟨B0,H0,Y,_,s,eg,p⟩
theorem FI (q:oG K aV E U H):Lo E U H:=by
 obtain⟨B0,H0,Y,r,s,e,p⟩:=q;cases e
 exact p U H s
theorem AS.grown (s:eU K B0 H0 N H U Y)(h:bg H H'):AS K B0 H0 H' U Y:=⟨N,s.grow (.grow s.ext.nh h)⟩
theorem NA (q:oG K (cW c g h) E U H):Qw (DV K c) (oG K g) (oG K h) E U H:=by
 obtain⟨B0,H0,Y,r,⟨N,s⟩,e,p⟩:=q;unfold cW at e;cases ec:c Y with
 |none=>rw[ec]at e;cases e
 |some b=>
  rw[ec]at e;refine⟨N,Y,b,s.ext.nh,s.rep,ec,λH1 h1=>?_⟩;cases b with
  |true=>rw[if_pos rfl];exact⟨B0,H0,Y,r,.grown s h1,e,p⟩
  |false=>rw[if_neg (by decide)];exact⟨B0,H0,Y,r,.grown s h1,e,p⟩
theorem Jm (q:oG K (aT f) E U H):MX (tD K f) E U H:=by
 obtain⟨B0,H0,Y,r,⟨N,s⟩,e,p⟩:=q;obtain⟨x,ex,e⟩:=oY e;subst e;exact⟨N,Y,x.1,x.2,s.ext.nh,s.rep,ex,λv H1 N1 x1 i1 f1=>p v H1 N1 (s.ext.trans x1) i1 λb=>(f1 b).back s.ext.hh⟩
theorem FJ (q:oG K (iI i) E U H):MX (Fk i) E U H:=by
 obtain⟨B0,H0,Y,r,⟨N,s⟩,e,p⟩:=q;unfold iI at e;split at e
 ·rename_i d b ei;cases e
  cases b with
  |false=>
   obtain⟨v,h1,h2⟩:=s.sh i d ei;exact⟨v,h1,p v H N s.ext (h2.mono ce) (by simp)⟩
  |true=>
   obtain⟨a,o,h1,h2,h3,h4⟩:=s.ow i d ei;cases h4 with
   |lst h4=>exact⟨_,h1,p _ H N s.ext (.lst (jl.of h2) (h4.mono ce)) λ_=>⟨a,_,_,rfl,rfl,h3,h2,h4.mono ce⟩⟩
   |dk hl h4=>exact⟨_,h1,p _ H N s.ext (.dk h2 hl (h4.mono ce)) (by simp)⟩
   |dt hl h4=>exact⟨_,h1,p _ H N s.ext (.dt h2 hl (h4.mono ce)) (by simp)⟩
 ·cases e
theorem eU.setE (s:eU K B0 H0 N H U Y)(x:Ext N N1 H H1)(h:Is K N1 v d)(f:b=true->Pt K H N1 v d):eU K B0 H0 N1 H1 (U.set i (some v)) (setE Y i d b):=by
 have s1:=s.grow x;unfold DL.setE;by_cases hn:bq d=true
 ·rw[if_pos hn];exact s1.bind (s1.flat h hn)
 ·rw[if_neg hn];by_cases hb:b=true/\yw d=true
  ·rw[if_pos hb];obtain⟨a,vs,ds,rfl,rfl,ha,hN,hs⟩:=f hb.1;have WX:N a=none:=s.ext.nh.free ha;have Vc:¬own U Y a:=λz=>by obtain⟨ws,⟨q,_⟩,_⟩:=s.owned z;rw[WX]at q;cases q
   have c:bg (eC N (own U Y)) (eC N1 (λb=>own U Y b∨b=a)):=fu λb u e q=>⟨x.bn _ _ e,λz=>z.elim q λz=>by subst z;rw[WX]at e;cases e⟩;refine s1.bindOwn hN (s.ext.hh.free ha) (λj e q z=>Vc ⟨j,e,q,z⟩) (λj e _ q=>?_) (λj e _ q=>?_) (.lst (hs.keepT (λt ts st=>?_) hb.2))
   ·obtain⟨w,h1,h2⟩:=s.sh j e q;exact⟨w,h1,h2.mono c⟩
   ·obtain⟨a',o',h1,h2,_,h4⟩:=s.ow j e q;exact⟨a',o',h1,x.bn _ _ h2,h4.mono c⟩
   ·have key:∀u,N1 t=some u->¬boxed u->eC N1 (λb=>own U Y b∨b=a) t=some u:=λu e hu=>by
     rw[cV λz=>?_];exact e;rcases z with z|z
     ·obtain⟨ws,⟨q,qb⟩,_⟩:=s1.owned z;rw[e]at q;cases q;exact hu qb
     ·subst z;rw[e]at hN;cases hN;exact hu trivial
    rcases st with (st|⟨o,st⟩)|st
    ·exact .inl (.inl (key _ st (λq=>q)))
    ·exact .inl (.inr ⟨o,key _ st (λq=>q)⟩)
    ·exact .inr st
  ·rw[if_neg hb];exact s1.unown.bind (h.mono λa o e=>by rw[cV oF];exact e)
theorem BZ (q:oG K (aQ i f) E U H):yn (tD K f) (kF i) E U H:=by
 obtain⟨B0,H0,Y,r,⟨N,s⟩,e,p⟩:=q;obtain⟨x,ex,e⟩:=oY e;subst e;exact⟨N,Y,x.1,x.2,s.ext.nh,s.rep,ex,λv H1 N1 x1 i1 f1=>p _ H1 ⟨N1,s.setE x1 i1 f1⟩⟩
theorem FK (q:oG K (yx i f) E U H):yn (tD K f) (kF i) E U H:=by
 obtain⟨B0,H0,Y,r,⟨N,s⟩,e,p⟩:=q;obtain⟨x,ex,e⟩:=oY e;subst e;refine⟨eC N (own U Y),nA Y,x.1,x.2,ce.trans s.ext.nh,s.repH,ex,λv H1 N1 x1 i1 f1=>?_⟩;obtain⟨s1,c⟩:=s.growH x1;exact p _ H1 ⟨_,s1.bind (i1.mono c)⟩
theorem Jn (q:oG K (jV i f) E U H):∃(a:Addr)(us:List V),U[i]? = some (some (V.ref a))/\H a=some (.lst us)/\Lu (tD K f) QC U H λxs H2=>BW (.ref a) xs H2 λ_ H3=>E.nx U H3:=by
 obtain⟨B0,H0,Y,r,⟨N,s⟩,e,p⟩:=q;unfold jV at e;split at e
 ·rename_i ds ei;obtain⟨x,ex,e⟩:=oX e;split at e
  ·rename_i hx;cases e
   obtain⟨a,vs,Ld,z,h1,h2,h3,h4⟩:=s.owL i _ ei;cases z
   refine⟨a,vs,h1,s.ext.nh _ _ h2,N,Y,x.1,x.2,s.ext.nh,s.rep,ex,λv H1 N1 x1 i1 f1=>⟨a,vs,v,rfl,rfl,x1.hh _ _ (s.ext.nh _ _ h2),by rw[h4.length];exact hx.2,?_⟩⟩;have s1:=s.grow x1;obtain⟨a',Tr,Ld,z,k1,k2,_,k4⟩:=s1.owL i _ ei;cases z
   rw[h1]at k1;cases k1;rw[x1.bn _ _ h2]at k2;cases k2;exact p U _ ⟨_,s1.write ei h1 (k4.append (.cons (s1.flat i1 hx.1) .nil))⟩
  ·cases e
 ·cases e
end
noncomputable def FL (c:FT)(g:FS):Nat->Env->Option Res
 |0,_=>none
 |n+1,Y=>match c Y with
  |some true=>match g Y with
   |some (.nx ρ')=>FL c g n ρ'
   |some (.ct ρ')=>FL c g n ρ'
   |some (.bk ρ')=>some (.nx ρ')
   |r=>r
  |some false=>some (.nx Y)
  |none=>none
def qe (K:Frag)(J:It)(B:Hp)(ds:List D):Prop:=∀(i:Nat)(H:Hp),bg B H ->
 (∀d,ds[i]? = some d->J.go i H/\∀x H',J.yld i H x H'->∃N,Ext B N H H'/\Is K N x d)/\(ds.length<=i->J.stop i H)
def Wt (K:Frag)(f:FA):TI:=λU H R=>∃(B:Hp)(Y:Env)(ds:List D),bg B H/\gf K B U Y/\f Y=some ds/\∀(J:It)(H' N:Hp),Ext B N H H'->qe K J N ds->R J H'
abbrev FG:=D->Env->Option Env
def Jo (K:Frag)(tg:FG)(g:TG):Prop:=∀(B0 H0 N H:Hp)(U:St)(Y ρ':Env)(v:V)(d:D)(Q:St->Hp->Prop),eU K B0 H0 N H U Y->Is K (eC N (own U Y)) v d->tg d Y=some ρ' ->
 (∀σ' H',AS K B0 H0 H' σ' ρ'->Q σ' H')->g v U H Q
@[simp] noncomputable def dC (i:Nat):FG:=λd Y=>some (Y.set i (some (d,false)))
theorem fw:Jo K (dC i) (kF i):=by
 intro B0 H0 N H U Y ρ' v d Q s h e k;cases e
 exact k _ H ⟨N,s.bind h⟩
noncomputable def jt (tg:FG)(g:FS):List D->Env->Option Res
 |[],Y=>some (.nx Y)
 |d::ds,Y=>(tg d Y).bind λρ1=>match g ρ1 with
  |some (.nx ρ')=>jt tg g ds ρ'
  |some (.ct ρ')=>jt tg g ds ρ'
  |some (.bk ρ')=>some (.nx ρ')
  |r=>r
@[simp] theorem FM (tg:FG)(g:FS)(Y:Env):jt tg g [] Y=some (.nx Y):=by rw[jt]
@[simp] theorem DW (tg:FG)(g:FS)(d:D)(ds:List D)(Y:Env):jt tg g (d::ds) Y=(tg d Y).bind λρ1=>match g ρ1 with
  |some (.nx ρ')=>jt tg g ds ρ'
  |some (.ct ρ')=>jt tg g ds ρ'
  |some (.bk ρ')=>some (.nx ρ')
  |r=>r:=by rw[jt]
@[simp] def qL (f:FA)(tg:FG)(g:FS):FS:=λY=>(f (nA Y)).bind λds=>jt tg g ds Y
theorem yy (ht:Jo K tg t)(s1:eU K B0 H0 N H1 U Y)(c:bg N1 (eC N (own U Y)))(J1:qe K J N1 ds)(e:jt tg g ds Y=some r)(p:QR K B0 H0 E r):
  ∃W:Nat->Nat->St->Hp->Prop,(∃m,W 0 m U H1)/\∀i m U H,W i m U H->(J.stop i H/\E.nx U H)∨(J.go i H/\∃N:St->Hp->Prop,(∀σ' H',N σ' H'->∃m',m'<m/\W (i+1) m' σ' H')/\∀x H',J.yld i H x H'->t x U H' λσ2 H2=>oG K g { E with nx:=N,ct:=N,bk:=E.nx } σ2 H2):=by
 refine⟨λi m U H=>∃(N:Hp)(Y:Env),eU K B0 H0 N H U Y/\bg N1 (eC N (own U Y))/\m=ds.length - i/\i<=ds.length/\jt tg g (ds.drop i) Y=some r,⟨ds.length,_,Y,s1,c,rfl,uN _,e⟩,?_⟩;clear e s1 c;rintro i m U H ⟨N,Y,s,c,rfl,hi,e⟩;have hs:bg N1 H:=c.trans (ce.trans s.ext.nh);obtain⟨j1,j2⟩:=J1 i H hs;by_cases gs:i<ds.length
 ·obtain⟨go,yl⟩:=j1 ds[i] (by simp[gs]);rw[List.drop_eq_getElem_cons gs]at e;obtain⟨ρ1,e1,e⟩:=oX e;refine .inr ⟨go,λσ' H'=>∃(N:Hp)(Y:Env),eU K B0 H0 N H' σ' Y/\bg N1 (eC N (own σ' Y))/\jt tg g (ds.drop (i+1)) Y=some r,λσ' H' ⟨N',ρ',s',c',e'⟩=>⟨_,by omega,N',ρ',s',c',rfl,gs,e'⟩,λx H' y=>?_⟩;obtain⟨N2,x2,i2⟩:=yl x H' y;have x3:Ext (eC N (own U Y)) (join (eC N (own U Y)) N2) H H':=by
   refine⟨x2.hh,fH,λa o e=>?_,λa o e=>?_⟩
   ·cases q:eC N (own U Y) a with
    |some u=>rw[fH _ _ q]at e;cases e;exact x2.hh _ _ (s.ext.nh _ _ (ce _ _ q))
    |none=>rw[eV q]at e;exact x2.nh _ _ e
   ·cases q:eC N (own U Y) a with
    |some u=>rw[fH _ _ q]at e;cases e;exact .inl rfl
    |none=>
     rw[eV q]at e;rcases x2.new a o e with z|z
     ·rw[c _ _ z]at q;cases q
     ·exact .inr z
  obtain⟨s2,c2⟩:=s.growH x3;have c3:bg N2 (join (eC N (own U Y)) N2):=λa o e=>by
   rcases x2.new a o e with z|z
   ·exact fH _ _ (c _ _ z)
   ·rw[eV ((ce.trans s.ext.nh).free z)];exact e
  have i3:=i2.mono (c3.trans c2);have c4:bg N1 (eC (join N (join (eC N (own U Y)) N2)) (own U Y)):=(x2.bn.trans c3).trans c2;refine ht _ _ _ _ _ _ _ _ _ _ s2.rebase i3 e1 λσ2 H2 ⟨N4,s4⟩=>?_;cases eg:g ρ1 with
  |none=>rw[eg]at e;cases e
  |some r1=>
   rw[eg]at e;refine⟨_,_,ρ1,r1,⟨N4,s4⟩,eg,?_⟩;have back:∀ {σ':St}{H':Hp}{ρ':Env}{N':Hp},eU K _ _ N' H' σ' ρ'->eU K B0 H0 N' H' σ' ρ'/\bg N1 (eC N' (own σ' ρ')):=λt=>⟨s2.unbase t,c4.trans t.based⟩;cases r1 with
   |nx ρ'=>exact λσ' H' ⟨N',t⟩=>⟨N',ρ',(back t).1,(back t).2,e⟩
   |ct ρ'=>exact λσ' H' ⟨N',t⟩=>⟨N',ρ',(back t).1,(back t).2,e⟩
   |bk ρ'=>cases e;exact λσ' H' ⟨N',t⟩=>p σ' H' ⟨N',(back t).1⟩
   |rt d b=>
    cases e
    intro v H' N' x' i' f';have y:=s2.rebase.ext;have h0:bg H0 (eC H' (λ_=>False)):=λa o e=>by rw[cV (λz=>z)];exact x'.hh _ _ (by
     rw[cV λz=>?_];exact s2.ext.hh _ _ e;obtain⟨_,_,q⟩:=s2.owned z;rw[q]at e;cases e)
    have h0':bg H0 (eC H' (λ_=>False)):=h0;have hH:bg H0 (eC H' (λ_=>False)):=h0;have hc:∀a,eC H' (λ_=>False) a=H' a:=λa=>cV (λz=>z);have hb:bg H0 (eC _ (own U Y)):=λa o e=>by
     rw[cV λz=>?_];exact s2.ext.hh _ _ e;obtain⟨_,_,q⟩:=s2.owned z;rw[q]at e;cases e
    have bb:bg B0 (eC _ (own U Y)):=λa o e=>by
     rw[cV λz=>?_];exact s2.ext.bn _ _ e;obtain⟨_,_,q⟩:=s2.owned z;rw[s2.bh _ _ e]at q;cases q
    refine p v H' N' ⟨hb.trans x'.hh,bb.trans x'.bn,x'.nh,λa o e=>?_⟩ i' λz=>(f' z).back hb;rcases x'.new a o e with z|z
    ·exact s2.ext.new a o (ce _ _ z)
    ·exact .inr (hb.free z)
 ·have ei:i=ds.length:=by omega
  subst ei;rw[List.drop_eq_nil_of_le (vT _)]at e;cases e
  exact .inl ⟨j2 (vT _),p U H ⟨N,s⟩⟩
theorem Jp (ht:Jo K tg t)(q:oG K (qL f tg g) E U H):Nc (Wt K f) t (oG K g) E U H:=by
 obtain⟨B0,H0,Y,r,⟨N,s⟩,e,p⟩:=q;obtain⟨ds,ef,e⟩:=oX e;refine⟨eC N (own U Y),nA Y,ds,ce.trans s.ext.nh,s.repH,ef,λJ H1 N1 x1 J1=>?_⟩;obtain⟨s1,c⟩:=s.growH x1;exact yy ht s1 c J1 e p
def SV (K:Frag)(f:FA):TI:=λU H R=>∃(B:Hp)(Y:Env)(ds:List D),bg B H/\gf K B U Y/\f Y=some ds/\∀(J:It)(H' N:Hp),Ext B N H H'->(∀B',qe K J B' ds)->R J H'
@[simp] def mm (f:FA)(tg:FG)(g:FS):FS:=λY=>(f Y).bind λds=>jt tg g ds Y
theorem FN (ht:Jo K tg t)(q:oG K (mm f tg g) E U H):Nc (SV K f) t (oG K g) E U H:=by
 obtain⟨B0,H0,Y,r,⟨N,s⟩,e,p⟩:=q;obtain⟨ds,ef,e⟩:=oX e;refine⟨N,Y,ds,s.ext.nh,s.rep,ef,λJ H1 N1 x1 J1=>?_⟩;exact yy ht (s.grow x1) (bg.refl _) (J1 _) e p
end DL
namespace DL
open PySem PySem.Spec PyProof.Rows L2
abbrev JE (X:Cx)(e:Expr)(f:FE):Prop:=PE X e (tD X.K f)
abbrev JT (X:Cx)(e:Expr)(f:FT):Prop:=PT X e (DV X.K f)
abbrev JW (X:Cx)(e:Expr)(f:FT):Prop:=PW X e (DV X.K f)
abbrev JA (X:Cx)(es:List Expr)(f:FA):Prop:=PA X es (Pu X.K f)
abbrev JS (X:Cx)(st:Stmt)(g:FS):Prop:=PS X st (oG X.K g)
abbrev xZ (X:Cx)(st:List Stmt)(g:FS):Prop:=w6 X st (oG X.K g)
abbrev JI (X:Cx)(tg dB:Expr)(f:FA):Prop:=PI X tg dB (Wt X.K f)
def NB (M:Model)(A:Around)(tu:List Expr)(tU:Expr)(env:PySem.Env)(mh:Value)(E:Value->Shared->Prop)(P:Shared->Prop):Shared->Prop :=
 wpAny M A (forIn tu true λc r=>if r=true then do let ok ←isTrue c env (eval c env);pure (ForInStep.yield ok)else pure (ForInStep.yield r))
  (λok s₃=>if ok=true then wpAny M A (eval tU env) (λx=>wpAny M A (call (.builtin "list.append") [mh,x]) (λ_=>P) E) E s₃ else P s₃) E
theorem wO {E:Value->Shared->Prop}(hE:∀x s,¬E x s)(I:Nat->Shared->Prop)
  (OL:∀n s,I n s->wpAny (model prog w) A (pyNext it) (λr s₁=>match r with
   |none=>R (.ok .next) s₁
   |some v=>wpAny (model prog w) A (letOwnedTupleGo tq it v) (λ_=>wpAny (model prog w) A (assign tq env v) (λ_=>NB (model prog w) A tu tU env mh E λs=>∃m,m<n/\I m s) E) E s₁) E s)
  (n:Nat) (h:I n s):codeAny (model prog w) A (.compLoop (.ListComp tU [⟨tq,dB,tu,0⟩] scope pos) 0 it mh env) R s:=by
 refine codeAny_loop rfl I (λn s hI=>?_) n h;show wpAny _ A ((compTurn (.ListComp tU [⟨tq,dB,tu,0⟩] scope pos) 0 it mh env).onRaise (λx=>do noteFrame x env;theTreesLotGoes x)) _ _ s;refine wpAny_noted (wpAny_mono (E:=E) ?_ (λ_ _ q=>q) λ_ _ z=>(hE _ _ z).elim);rw[compTurn_list];refine wX (wpAny_standAt (wX (cL (OL n s hI) λr s₁ h₁=>?_)));cases r with
 |none=>exact wY h₁
 |some v=>
  refine wX (cL h₁ λ_ s₁ h₁=>wX (cL h₁ λ_ s₂ h₂=>wX (cL h₂ λok s₃ h₃=>?_)));cases ok with
  |false=>exact wY ⟨rfl,h₃⟩
  |true=>exact wX (wX (cL h₃ λx s₄ h₄=>wX (cL h₄ λ_ s₅ h₅=>wY (wY ⟨rfl,h₅⟩))))
theorem Ext.upd (x:Ext B N H H')(h:H a=none)(hN:N a=none):Ext B N H (upd H' a o) :=
 ⟨λb u e=>by rw[aP (λz=>by subst z;rw[h]at e;cases e)];exact x.hh _ _ e,x.bn,λb u e=>by rw[aP (λz=>by subst z;rw[hN]at e;cases e)];exact x.nh _ _ e,x.new⟩
noncomputable abbrev ju (X:Cx)(N':List Str)(scope:Scope)(cl:List (Str×Addr))(C:Addr)(s₃:Shared)(H₃:Hp)(fp:List Addr):Cx :=
 { X with N:=N',s₀:=s₃,H₀:=H₃,env:=compEnvC scope cl C X.env,outer:=X.stack,stack:=X.stack,ex:=fp,fn:=λ_=>false,pn:=[],xe:=λ_ _=>False }
inductive o9 (X:Cx)(N':List Str)(scope:Scope)(cl:List (Str×Addr)):Nat->List Nat->Prop where
 |nil {j:Nat}(h:N'.length=j):o9 X N' scope cl j []
 |cons {j i:Nat}{r:List Nat}{x:Str}(h1:N'[j]? = some x) (h2:X.N[i]? = some x) (h3:X.env.kindOf x=some .cell∨X.env.kindOf x=some .free)
   (h4:(relabel scope X.env).names.lookup x=some .cell∨(relabel scope X.env).names.lookup x=some .free) (h5:cl.lookup x=X.env.cells.lookup x) (t:o9 X N' scope cl (j+1) r):o9 X N' scope cl j (i::r)
theorem o9.len:∀ {j:Nat}{cap:List Nat},o9 X N' scope cl j cap->N'.length=j+cap.length
 |_,_,.nil h=>by rw[h];rfl
 |j,i::r,.cons _ _ _ _ _ t=>by rw[t.len,vE];omega
theorem o9.get:∀ {j:Nat}{cap:List Nat}{k i:Nat},o9 X N' scope cl j cap->cap[k]? = some i->∃x,N'[j+k]? = some x/\X.N[i]? = some x/\(X.env.kindOf x=some .cell∨X.env.kindOf x=some .free) /\
  ((relabel scope X.env).names.lookup x=some .cell∨(relabel scope X.env).names.lookup x=some .free)/\cl.lookup x=X.env.cells.lookup x
 |_,_,_,_,.nil _,e=>by simp at e
 |j,_,0,_,.cons h1 h2 h3 h4 h5 _,e=>by simp at e;subst e;exact⟨_,h1,h2,h3,h4,h5⟩
 |j,_,k+1,i,.cons _ _ _ _ _ t,e=>by
  obtain⟨x,q,r⟩:=t.get (k:=k) (i:=i) (by simpa using e);exact⟨x,by rw[show j+(k+1)=j+1+k by omega];exact q,r⟩
structure CompSc (X:Cx)(scope:Scope)(cl:List (Str×Addr)):Prop where
 clos:closureFor scope X.env=pure cl
 nocell:∀y∈scope.names,y.2≠.cell
 kind:scope.kind=.function
 names:∀y∈scope.names,y.2=.local->scope.names.lookup y.1=some .local
 sub:∀x c,cl.lookup x=some c->X.env.cells.lookup x=some c
 has:∀x,((relabel scope X.env).names.lookup x=some .cell∨(relabel scope X.env).names.lookup x=some .free)->∃c,cl.lookup x=some c
noncomputable def eD:List (Str×NameKind)->List (Str×Addr)->List (Str×Addr)->List (Str×Addr)
 |[],_,cs=>cs
 | (n,k)::r,cells,cs=>eD r cells (if k == .free then (match cells.lookup n with|some c=>(n,c)::cs|none=>cs)else cs)
theorem uq:∀(names:List (Str×NameKind))(cs:List (Str×Addr)),(∀y∈names,y.2=.free->(env.cells.lookup y.1).isSome=true) ->
    (do let mut cs:=cs
        for (name,kind)in names do
          if kind == .free then cs:=(name,←cellOf env name)::cs
        return cs:Sem (List (Str×Addr)))=pure (eD names env.cells cs):=by
  intro names;induction names with
  |nil=>intro cs _;rfl
  |cons y r ih=>
    intro cs h;obtain⟨n,k⟩:=y;have RO:=λcs=>ih cs λy hy=>h y (mZ _ hy);by_cases hk:k=.free
    . subst hk;have hc:=h (n,.free) mX rfl;cases q:env.cells.lookup n with
      |none=>rw[q]at hc;cases hc
      |some c=>
        have e1:eD ((n,.free)::r) env.cells cs=eD r env.cells ((n,c)::cs):=by
          rw[eD,q];rfl
        rw[e1,←RO ((n,c)::cs)];have e2:cellOf env n=pure c:=by unfold cellOf;rw[q]
        simp only[List.forIn_cons,beq_self_eq_true,if_true,e2];rfl
    . have hb:(k == NameKind.free)=false:=by simpa using hk
      have e1:eD ((n,k)::r) env.cells cs=eD r env.cells cs:=by rw[eD,hb];rfl
      rw[e1,←RO cs];simp only[List.forIn_cons,hb,uV,if_false];rfl
theorem nB:∀(names:List (Str×NameKind))(cs:List (Str×Addr)),(∀y d,cs.lookup y=some d->cells.lookup y=some d)->(eD names cells cs).lookup x=some c->cells.lookup x=some c
 |[],cs,h,e=>h x c e
 | (n,k)::r,cs,h,e=>by
  rw[eD]at e;refine nB r _ (λy d q=>?_) e;split at q
  ·split at q
   ·rename_i c' ec;rw[List.lookup_cons]at q;split at q
    ·rename_i hy;cases q
     rw[eq_of_beq hy];exact ec
    ·exact h y d q
   ·exact h y d q
  ·exact h y d q
theorem ur:∀(names:List (Str×NameKind))(cs:List (Str×Addr)),(cs.lookup x).isSome=true->((eD names cells cs).lookup x).isSome=true
 |[],cs,h=>h
 | (n,k)::r,cs,h=>by
  rw[eD];refine ur r _ ?_;split
  ·split
   ·rw[List.lookup_cons];split
    ·rfl
    ·exact h
   ·exact h
  ·exact h
theorem nD:∀(names:List (Str×NameKind))(cs:List (Str×Addr)),(x,NameKind.free)∈names->(cells.lookup x).isSome=true->((eD names cells cs).lookup x).isSome=true
 | (n,k)::r,cs,hm,hc=>by
  rw[eD];rcases vP hm with e|e
  ·cases e
   refine ur r _ ?_;cases q:cells.lookup x with
   |none=>rw[q]at hc;cases hc
   |some c=>simp
  ·exact nD r _ e hc
theorem gt {α:Type}{x:Str}{k:α}:∀ {l:List (Str×α)},l.lookup x=some k->(x,k)∈l
 | (n,j)::r,h=>by
  rw[List.lookup_cons]at h;split at h
  ·rename_i e;cases h
   rw[eq_of_beq e];exact mX
  ·exact mZ _ (gt h)
theorem NC {X:Cx}{scope:Scope}(h1:∀y∈scope.names,y.2≠.cell)(h2:scope.kind=.function)(h3:∀y∈scope.names,y.2=.local->scope.names.lookup y.1=some .local)(PK:(scope.names.all λy=>!(y.2 == NameKind.free) || (X.env.cells.lookup y.1).isSome)=true):
  CompSc X scope (eD scope.names X.env.cells []):=by
 have h4:∀y∈scope.names,y.2=.free->(X.env.cells.lookup y.1).isSome=true:=λy hy e=>by
  have:=uR PK y hy;rw[e]at this;simpa using this
 have frees:∀x,((relabel scope X.env).names.lookup x=some .cell∨(relabel scope X.env).names.lookup x=some .free)->(x,NameKind.free)∈scope.names:=λx h=>by
  have:∃k,(x,k)∈(relabel scope X.env).names/\(k=.cell∨k=.free):=by
   rcases h with h|h
   ·exact⟨_,gt h,.inl rfl⟩
   ·exact⟨_,gt h,.inr rfl⟩
  obtain⟨k,hm,hk⟩:=this;obtain⟨⟨n,j⟩,hj,e⟩:=vO hm;dsimp only at e;split at e
  ·rename_i hc;rw[vC,vC]at hc;cases e
   rw[←eq_of_beq hc.1.1];exact hj
  ·cases e
   rcases hk with rfl|rfl
   ·exact absurd rfl (h1 _ hj)
   ·exact hj
 exact⟨uq scope.names [] h4,h1,h2,h3,λx c e=>nB scope.names [] (λy d q=>by cases q) e,λx h=>by
  have:=nD (x:=x) scope.names [] (frees x h) (h4 _ (frees x h) rfl);exact uU this⟩
theorem qr {scope:Scope}{cells:List (Str×Addr)}{x:Str}(h:(x,NameKind.free)∈scope.names)(hc:(cells.lookup x).isSome=true):(eD scope.names cells []).lookup x=cells.lookup x:=by
 obtain⟨c,e⟩:=uU (nD (x:=x) scope.names [] h hc);rw[e,nB scope.names [] (λy d q=>by cases q) e]
noncomputable def tF (nT:Nat)(cap:List Nat)(U:St):St:=List.replicate nT none++cap.map λi=>(U[i]?).join
noncomputable def eA (nT:Nat)(cap:List Nat)(Y:Env):Env:=List.replicate nT none++cap.map λi=>match Y[i]? with|some (some (d,_))=>some (d,false)|_=>none
theorem wP {α:Type}{nT:Nat}{cap:List Nat}{f:Nat->Option α}{j:Nat}{v:α}(h:(List.replicate nT none++cap.map f)[j]? = some (some v)):∃k i,j=nT+k/\cap[k]? = some i/\f i=some v:=by
 by_cases hj:j<nT
 ·rw[List.getElem?_append_left (by simpa using hj),List.getElem?_replicate,if_pos hj]at h;cases h
 ·rw[List.getElem?_append_right (by simpa using Nat.not_lt.mp hj),List.length_replicate,vA]at h;obtain⟨i,h1,h2⟩:=oY h;exact⟨j - nT,i,by omega,h1,h2⟩
theorem Jq {α:Type}{nT:Nat}{cap:List Nat}{f:Nat->Option α}{k i:Nat}{v:α}(h1:cap[k]? = some i)(h2:f i=some v):(List.replicate nT none++cap.map f)[nT+k]? = some (some v):=by
 rw[List.getElem?_append_right (by simp),List.length_replicate,vA,Nat.add_sub_cancel_left,h1];simp[h2]
theorem gf.caps {K:Frag}{B:Hp}{U:St}{Y:Env}{nT:Nat}{cap:List Nat}(h:gf K B U Y):gf K B (tF nT cap U) (eA nT cap Y):=⟨h.tb,λj d b q=>by
 obtain⟨k,i,rfl,h1,h2⟩:=wP q;split at h2
 ·rename_i d' b' e;cases h2
  obtain⟨v,g1,g2⟩:=h.at' i _ _ e;exact⟨v,Jq h1 (by rw[g1];rfl),g2⟩
 ·cases h2⟩
noncomputable def ij (tg:FG)(c:FT)(fe:FE)(Y:Env):List D->Option (List D)
 |[]=>some []
 |d::r=>(tg d Y).bind λρ1=>(c ρ1).bind λb=>if b=true then (fe ρ1).bind λx=>(ij tg c fe Y r).map (x.1 :: ·)else ij tg c fe Y r
@[simp] theorem Pw (tg:FG)(c:FT)(fe:FE)(Y:Env):ij tg c fe Y []=some []:=by rw[ij]
@[simp] theorem AT (tg:FG)(c:FT)(fe:FE)(Y:Env)(d:D)(r:List D):ij tg c fe Y (d::r)=(tg d Y).bind λρ1=>(c ρ1).bind λb=>if b=true then (fe ρ1).bind λx=>(ij tg c fe Y r).map (x.1 :: ·)else ij tg c fe Y r:=by rw[ij]
@[simp] def bV (fi:FA)(nT:Nat)(cap:List Nat)(tg:FG)(c:FT)(fe:FE):FE:=λY=>(fi Y).bind λitems=>if items.length<=sizeLine then (ij tg c fe (eA nT cap Y) items).map λds=>(.lst ds,true)else none
def L4 (K:Frag)(n:Nat)(tg:FG)(g:TG):Prop:=∀(B H:Hp)(U:St)(Y ρ1:Env)(v:V)(d:D)(Q:St->Hp->Prop),(∀i,i<n->Y[i]? = some none)->gf K B U Y->bg B H->Is K B v d->tg d Y=some ρ1 ->
 Y.length=U.length->(∀σ1,gf K B σ1 ρ1->(∀B',gf K B' U Y->gf K B' σ1 Y)->Y.length=σ1.length->Q σ1 H)->g v U H Q
theorem yz {K:Frag}{n i:Nat}(hi:i<n):L4 K n (dC i) (kF i):=by
 intro B H U Y ρ1 v d Q cl rep s h e hl k;cases e
 have EO:i<U.length:=by
  have:=(vV (cl i hi)).1;omega
 refine k _ ⟨rep.tb,λj e b q=>?_⟩ ?_ (by simpa using hl)
 ·rcases c6 q with⟨rfl,p⟩|⟨ne,p⟩
  ·cases p
   exact⟨v,by simp[EO],h⟩
  ·obtain⟨w,h1,h2⟩:=rep.at' j e b p;exact⟨w,by rw[vB ne];exact h1,h2⟩
 ·intro B' RP;refine⟨RP.tb,λj e b q=>?_⟩;obtain⟨w,h1,h2⟩:=RP.at' j e b q;have ne:i≠j:=λz=>by subst z;rw[cl i hi]at q;cases q
  exact⟨w,by rw[vB ne];exact h1,h2⟩
def JC (X:Cx)(tu:List Expr)(c:FT):Prop:=∀(af:List (Addr×Obj))(s:Shared)(U:St)(H:Hp)(Q:Bool->Hp->Prop),Inv X af U H s->DV X.K c U H Q ->
 wq X (forIn tu true λc r=>if r=true then do let ok ←isTrue c X.env (eval c X.env);pure (ForInStep.yield ok)else pure (ForInStep.yield r)) (TP X af U Q) X.xe s
@[simp] noncomputable def iJ:FT:=λ_=>some true
theorem jW:JC X [] iJ:=by
 intro af s U H Q I h;obtain⟨B,Y,c,sB,rep,e,q⟩:=h;cases e
 exact wpAny_tests_nil ⟨H,I,q H (.refl H)⟩
theorem eE (h:JT X e f):JC X [e] f:=λaf s U H Q I q=>wpAny_tests_one (h af s U H Q I q)
inductive CI (y10:Cx)(tn:Nat->Heap->Prop)(fp:List Addr)(N1 H2:Hp)(κ:Env)(a:Addr)(l:List D->Option (List D))(items ds:List D)(s:Shared):Nat->Prop
 |mk (i:Nat) (N:Hp) (vs:List V) (es r:List D) (U:St) (H:Hp) (I:Inv y10 [] U H s) (ti:tn i s.heap) (hn:∀b∈fp,H b=none) (hi:i<=items.length) (rp:gf y10.K N1 U κ) (hl:κ.length=U.length)
   (x:Ext N1 N H2 H) (n0:N a=none) (h0:H a=some (.lst vs)) (vl:vs.length<=i) (iv:IsL y10.K N vs es) (er:l (items.drop i)=some r) (ed:es++r=ds):CI y10 tn fp N1 H2 κ a l items ds s (items.length - i)
theorem Ext.both (x:Ext N1 N H2 H)(y:Ext N1 N' H H'):Ext N (join N N') H H'/\bg N' (join N N'):=by
 refine⟨⟨y.hh,fH,λa o e=>?_,λa o e=>?_⟩,λa o e=>?_⟩
 ·cases z:N a with
  |some u'=>rw[fH _ _ z]at e;cases e;exact y.hh _ _ (x.nh _ _ z)
  |none=>rw[eV z]at e;exact y.nh _ _ e
 ·cases z:N a with
  |some u'=>rw[fH _ _ z]at e;cases e;exact .inl rfl
  |none=>
   rw[eV z]at e;exact(y.new a o e).elim (λz'=>by rw[x.bn _ _ z']at z;cases z) .inr
 ·exact(y.new a o e).elim (λz=>fH _ _ (x.bn _ _ z)) λz=>by rw[eV (x.nh.free z)];exact e
theorem Ext.off (x:Ext B N H H')(h:B a=none)(h':H a=some o):N a=none:=by
 cases z:N a with
 |none=>rfl
 |some u=>
  rcases x.new _ _ z with z|z
  ·rw[h]at z;cases z
  ·rw[h']at z;cases z
theorem DX {y10:Cx}(kJ:y10.calm=true)(hE:∀x s,¬y10.xe x s)(hg:PG y10 tg g)(HZ:L4 y10.K nT qC g)(hc:JC y10 tu fc)(he:JE y10 tU fe)(T:Turn y10.prog y10.w y10.K tg J fp it tn)(RQ:∀i,i<nT->κ[i]? = some none)
  (J1:qe y10.K J N1 items) (hsz:items.length<=sizeLine) (hD:H2 a=none) (Vf:∀H',(∀b∈fp,H' b=none)->∀b∈fp,oC y10 [] H' b)
  (hR:∀s4 σ' H' N vs,Inv y10 [] σ' H' s4->Ext N1 N H2 H'->N a=none->H' a=some (.lst vs)->IsL y10.K N vs ds->R (.ok .next) s4) (h:CI y10 tn fp N1 H2 κ a (ij qC fc fe κ) items ds s items.length):
  codeAny (model y10.prog y10.w) y10.A (.compLoop (.ListComp tU [⟨tg,dB,tu,0⟩] scope pos) 0 (.ref it) (.ref a) y10.env) R s:=by
 refine wO hE (λn s=>CI y10 tn fp N1 H2 κ a (ij qC fc fe κ) items ds s n) (λn s' h=>?_) _ h;obtain⟨i,N,vs,es,r,σ',H',I',ti,hn,hi,rp,bP,x,Ts,RS,D7,RT,er,Tt⟩:=h;have sH:bg N1 H':=x.bn.trans x.nh;by_cases gs:i<items.length
 ·obtain⟨go,yl⟩:=(J1 i H' sH).1 items[i] (by simp[gs]);refine cL (T.item y10 rfl rfl rfl kJ i [] s' σ' H' y10.xe I' (Vf _ hn) ti go) λq s4 ⟨u,eu,hq⟩=>?_;subst eu;refine cL hq λ_ s5 ⟨xv,H5,I5,rx,y5,t5,UT⟩=>?_;obtain⟨N5,x5,i5⟩:=yl xv H5 y5;obtain⟨x6,c5⟩:=x.both x5;have WY:(join N N5) a=none:=x6.off Ts RS;have Tu:bg (join N N5) H5:=x6.nh;rw[List.drop_eq_getElem_cons gs]at er;unfold ij at er;obtain⟨ρ1,e1,er⟩:=oX er;obtain⟨b,e2,er⟩:=oX er;have j9:∀(s9:Shared)(σ9:St)(H9 N9:Hp)(RV:List V)(Tv r9:List D),Inv y10 (oD fp s5.heap) σ9 H9 s9->gf y10.K N1 σ9 κ->κ.length=σ9.length->Ext N1 N9 H2 H9->N9 a=none->H9 a=some (.lst RV) ->
    RV.length<=i+1->IsL y10.K N9 RV Tv->ij qC fc fe κ (items.drop (i+1))=some r9->Tv++r9=ds->∃m,m<items.length - i/\CI y10 tn fp N1 H2 κ a (ij qC fc fe κ) items ds s9 m:=λs9 σ9 H9 N9 RV Tv r9 I9 Zm l9 x9 n9 h9 v9 i9 Zn Zo=>
   ⟨_,by omega,i+1,N9,RV,Tv,r9,σ9,H9,I9.pins_of λp hp=>by simp at hp,T.keep _ _ _ t5 λb hb o e=>(I9.pin (b,o) (mY _ (jU hb e))).1,λb hb=>by
    obtain⟨o,e,d⟩:=T.obj _ _ t5 b hb;exact(I9.pin (b,o) (mY _ (jU hb e))).2.1,gs,Zm,l9,x9,n9,h9,v9,i9,Zn,Zo⟩
  refine cL (hg (oD fp s5.heap) s5 σ' H5 xv u (λσ6 H6=>H6=H5/\gf y10.K (join N N5) σ6 ρ1/\gf y10.K N1 σ6 κ/\κ.length=σ6.length) (I5.pinned (Vf _ UT) (T.obj _ _ t5)) rx
   (HZ (join N N5) H5 σ' κ ρ1 xv items[i] _ RQ (rp.mono (x.bn.trans fH)) Tu (i5.mono c5) e1 bP λσ1 r1 r2 l1=>⟨rfl,r1,r2 N1 rp,l1⟩)) λ_ s6 ⟨σ6,H6,I6,eH,WZ,Xa,l6⟩=>?_
  subst eH;have Vg:H6 a=some (.lst vs):=x5.hh _ _ RS;refine cL (hc _ s6 σ6 H6 (λc H7=>c=b/\bg H6 H7) I6 ⟨join N N5,ρ1,b,Tu,WZ,e2,λH7 h7=>⟨rfl,h7⟩⟩) λok s7 ⟨H7,I7,eb,h7⟩=>?_;subst eb;have x7:Ext N1 (join N N5) H2 H7:=(x.trans x6).trans (.grow Tu h7);cases ok with
  |false=>
   rw[if_neg (by decide)]at er ⊢;exact j9 s7 σ6 H7 (join N N5) vs es r I7 Xa l6 x7 WY (h7 _ _ Vg) (Nat.le_succ_of_le D7) (RT.mono fH) er Tt
  |true=>
   rw[if_pos rfl]at er ⊢;obtain⟨y,e3,er⟩:=oX er;obtain⟨r',e4,er⟩:=oY er;subst er;refine cL (he _ s7 σ6 H7 (λv H8=>∃N8,Ext (join N N5) N8 H7 H8/\Is y10.K N8 v y.1) I7 ⟨join N N5,ρ1,y.1,y.2,Tu.trans h7,WZ,e3,λv H8 N8 x8 i8 _=>⟨N8,x8,i8⟩⟩) λw8 s8 ⟨v8,H8,I8,r8,N8,x8,i8⟩=>?_;refine cL (uh _ s8 σ6 H8 (.ref a) [v8] (.ref a) [w8] (λ_ H9=>H9=upd H8 a (.lst (vs++[v8]))) I8 rfl (.cons r8 .nil) ⟨_,vs,v8,rfl,rfl,x8.hh _ _ (h7 _ _ Vg),by omega,rfl⟩) λ_ s9 ⟨_,H9,I9,_,e9⟩=>?_;subst e9;have Xb:=x8.off WY (h7 _ _ Vg);exact j9 s9 σ6 _ N8 (vs++[v8]) (es++[y.1]) r' I9 Xa l6 ((x7.trans x8).upd hD Xb) Xb aJ (by rw[uZ,List.length_singleton];omega) ((RT.mono (fH.trans x8.bn)).append (.cons i8 .nil)) e4 (by rw[List.append_assoc];exact Tt)
 ·obtain rfl:i=items.length:=by omega
  rw[List.drop_eq_nil_of_le (vT _)]at er;cases er
  rw[uQ]at Tt;subst Tt;refine cL (T.done y10 rfl rfl rfl kJ items.length [] s' σ' H' y10.xe I' (Vf _ hn) ti ((J1 _ H' sH).2 (vT _))) λq s4 ⟨hq,I9⟩=>?_;subst hq;exact hR s4 σ' H' N vs I9 x Ts RS RT
theorem qM {X:Cx}(kJ:X.calm=true){tg dB tU:Expr}{tu:List Expr}{scope:Scope}{pos:Pos}{cl:List (Str×Addr)}{N':List Str}{nT:Nat}{cap:List Nat}{qC:FG}{g:TG}{fc:FT}{fe:FE}
  (S:CompSc X scope cl) (cp:o9 X N' scope cl nT cap)
  (hg:∀C s H fp,PG (ju X N' scope cl C s H fp) tg g) (HZ:L4 X.K nT qC g) (hc:∀C s H fp,JC (ju X N' scope cl C s H fp) tu fc) (he:∀C s H fp,JE (ju X N' scope cl C s H fp) tU fe)
  {af:List (Addr×Obj)}{U:St}{H2:Hp}{s2:Shared}{it:Addr}{fp:List Addr}{tn:Nat->Heap->Prop}{J:It}{N1:Hp}{Y:Env}{items ds:List D}{E:Value->Shared->Prop}
  (I2:Inv X af U H2 s2) (T:Turn X.prog X.w X.K tg J fp it tn) (KS:tn 0 s2.heap) (f2:∀b∈fp,oC X af H2 b)
  (rep:gf X.K N1 U Y) (sN:bg N1 H2) (J1:qe X.K J N1 items) (hsz:items.length<=sizeLine) (ec:ij qC fc fe (eA nT cap Y) items=some ds) {RR:Value->Addr->Result->Shared->Prop}
  (Vh:∀(Dd C:Addr)(s':Shared)(H' N:Hp)(vs:List V)(m:Str->Option Value),H2 Dd=none->Inv X af U H' s'->s'.heap.Ns C m->oC X af H' C->Ext N1 N H2 H'->N Dd=some (.lst vs)->IsL X.K N vs ds->RR (.ref Dd) C (.ok .next) s'):
  wq X (newList []) (λmh s₃=>wq X (newFunctionEnv scope X.env.globals cl [] X.env.qual none .none (some X.env)) (λRW s₄=>
   codeAny (model X.prog X.w) X.A (.compStart (.ListComp tU [⟨tg,dB,tu,0⟩] scope pos) 0 (.ref it) mh { RW with scope:=relabel scope X.env }) (RR mh RW.locals) s₄) E s₃) E s2:=by
 refine wpAny_newObj_type (wpAny_newFunctionEnv S.nocell (by intro y hy;simp at hy) (λh₁ BN hsb₁=>?_) S.kind);dsimp only at BN hsb₁ ⊢;have hD:H2 s2.heap.objs.size=none:=I2.fresh;have I3:Inv X af U (upd H2 s2.heap.objs.size (.lst [])) { s2 with heap:=s2.heap.push { cls:=.type "list",dict:=none,data:=.seq ([]:List Value).toArray } }:=I2.lnew (t':=s2.toks) (ys:=[]) (its:=[]) .nil (uN _);generalize hH3:s2.heap.push { cls:=.type "list",dict:=none,data:=.seq ([]:List Value).toArray }=g3 at BN hsb₁ I3 ⊢;have hC:g3.objs.size=s2.heap.objs.size+1:=by rw[←hH3,Heap.size_push]
 have Le:∀b o,s2.heap.get? b=some o->g3.get? b=some o:=λb o e=>hH3 ▸ vZ _ e;have ET:∀b o,g3.get? b=some o->h₁.get? b=some o:=λb o e=>hsb₁.extBut b o (vS (vX e)) (vZ _ e);have PB:∀b o,g3.get? b=some o->b≠g3.objs.size:=λb o e=>vS (vX e);have Xc:∀b∈fp,∃o,s2.heap.get? b=some o:=λb hb=>let ⟨o,e,_⟩:=T.obj 0 s2.heap KS b hb;⟨o,e⟩;have Zp:∀b∈fp,b≠s2.heap.objs.size:=λb hb=>let ⟨o,e⟩:=Xc b hb;vS (vX e);have Xd:∀b∈fp,b≠g3.objs.size:=λb hb=>let ⟨o,e⟩:=Xc b hb;PB b o (Le b o e);have Xe:∀x c,X.env.cells.lookup x=some c->c≠g3.objs.size:=λx c e=>by
  obtain⟨v,z⟩:=I3.cell x c e;exact vS z.lt
 have Zq:(upd H2 s2.heap.objs.size (HO.lst [])) g3.objs.size=none:=I3.hok.fresh (vT _);have stk:∀b∈Fc X.stack,∃o,s2.heap.get? b=some o:=λb hb=>by
  obtain⟨_,o,ho,_⟩:=(I2.stack).mem hb;exact⟨o,ho⟩
 -- the block's context
 let y10:Cx:=ju X N' scope cl g3.objs.size { s2 with heap:=g3 } (upd H2 s2.heap.objs.size (.lst [])) fp;have ok:y10.Ok:=by
  refine⟨I2.ok.mod,?_,I2.ok.glob,I2.ok.blt,vT _,λx y c e1 e2=>I2.ok.inj x y c (S.sub x c e1) (S.sub y c e2),λx h=>S.has x h,λx c h=>absurd h uX,I2.ok.hd,I2.ok.frames,.inl rfl,λb hb=>⟨Xd b hb,λx c e=>(f2 b hb).2.2.2.2.1 x c (S.sub x c e)⟩,λb o e=>?_,?_,λb o e hb=>?_,λb hb hz=>?_,I3.stack,λb hb=>I3.stkFree b hb⟩
  ·show(relabel scope X.env).kind=.function;exact S.kind
  ·exact I3.bs b o e
  ·exact vR I3.ok.bsz I3.sz
  ·have h1:=(f2 b hb).2.2.2.1;rcases h1 with z|z
   ·exact I2.ok.noex b o e z
   ·exact absurd (vQ (vX e) (vR I2.ok.bsz z)) (Nat.lt_irrefl _)
  ·rcases vP (I2.stkSub b hz)with z|z
   ·exact(f2 b hb).2.1 z
   ·exact(f2 b hb).2.2.1 z
 have I4:Inv y10 [] (tF nT cap U) (upd H2 s2.heap.objs.size (.lst [])) { s2 with heap:=h₁,toks:=s2.toks+([]:List (Str×Value)).length }:=by
  refine⟨ok,rfl,I2.bare,Un.kept ET,⟨_,BN,λj x v e1 e2 e3=>?_⟩,λx c e=>?_,Zq,λx c e=>I3.freeC x c (S.sub x c e),λp hp=>absurd (show p∈[]from hp) List.not_mem_nil,I3.hok.kept ET,?_⟩
  ·obtain⟨k,i,rfl,h1,h2⟩:=wP e2;obtain⟨y,g1,g2,Xf,g4,g5⟩:=cp.get h1;have Mx:N'[nT+k]? = some x:=e1;rw[g1]at Mx;cases Mx;have HY:U[i]? = some (some v):=by
    cases q:U[i]? with
    |none=>rw[q]at h2;cases h2
    |some z=>rw[q]at h2;have:z=some v:=h2;rw[this]
   obtain⟨m,_,hl⟩:=I3.loc;obtain⟨u,r,l⟩:=hl i _ v g2 HY (Xf.elim (λz=>.inr (.inl z)) λz=>.inr (.inr z));refine⟨u,r,?_⟩;rcases l with⟨l,_⟩|⟨_,c,lc,ic⟩
   ·rcases Xf with z|z<;>(rw[z]at l;cases l)
   ·refine .inr ⟨g4,c,by show cl.lookup _=some c;rw[g5];exact lc,?_⟩;obtain⟨o,ho,hd⟩:=ic;exact⟨o,ET _ _ ho,hd⟩
  ·obtain⟨v,o,ho,hd⟩:=I3.cell x c (S.sub x c e);exact⟨v,o,ET _ _ ho,hd⟩
  ·show(tF nT cap U).length=N'.length;unfold tF;rw[cp.len];simp
 have loop:∀s₃:Shared,s₃={ s2 with heap:=h₁,toks:=s2.toks+([]:List (Str×Value)).length }->codeAny (model y10.prog y10.w) y10.A (.compLoop (.ListComp tU [⟨tg,dB,tu,0⟩] scope pos) 0 (.ref it) (.ref s2.heap.objs.size) y10.env) (RR (.ref s2.heap.objs.size) g3.objs.size) s₃:=by
  rintro s₃ rfl;refine DX (y10:=y10) kJ (λ_ _ z=>z) (hg _ _ _ _) HZ (hc _ _ _ _) (he _ _ _ _) T (λi hi=>?_) J1 hsz hD (λH' hn b hb=>⟨hn b hb,Xd b hb,ok.exfs b hb,.inl hb,λx c e=>(f2 b hb).2.2.2.2.1 x c (S.sub x c e),λp hp=>absurd (show p∈[]from hp) List.not_mem_nil⟩) (λs4 σ' H' N vs I9 x Ts RS RT=>?_)
   ⟨0,N1,[],[],ds,tF nT cap U,_,I4,T.keep _ _ _ KS λb hb o e=>ET _ _ (Le _ _ e),λb hb=>?_,uN _,rep.caps,?_,(Ext.refl sN).upd hD (sN.free hD),sN.free hD,aJ,uN _,.nil,by simpa using ec,rfl⟩
  ·unfold eA;rw[List.getElem?_append_left (by simpa using hi),List.getElem?_replicate,if_pos hi]
  ·obtain⟨m,hm,_⟩:=I9.loc;have k:bg N (upd N s2.heap.objs.size (.lst vs)):=λa o e=>by rw[aP (λz=>by subst z;rw[Ts]at e;cases e)];exact e
   refine Vh s2.heap.objs.size g3.objs.size s4 H' (upd N s2.heap.objs.size (.lst vs)) vs m hD (I2.call' (ch:=fp) I9.os ((Un.laid Le (vT _) hD).trans I9.base) I9.hok I9.bare λb hb=>⟨(f2 b hb).2.2.2.1,(f2 b hb).2.1,(f2 b hb).2.2.2.2.1,(f2 b hb).2.2.2.2.2⟩) hm (I2.fpOk (by rw[hC];exact Nat.le_succ _) I9.free) ⟨x.hh,x.bn.trans k,λa o e=>?_,λa o e=>?_⟩ aJ (RT.mono k)
   ·by_cases z:a=s2.heap.objs.size
    ·subst z;rw[aJ]at e;cases e;exact RS
    ·rw[aP z]at e;exact x.nh _ _ e
   ·by_cases z:a=s2.heap.objs.size
    ·subst z;exact .inr hD
    ·rw[aP z]at e;exact x.new _ _ e
  ·rw[aP (Zp b hb)];exact(f2 b hb).1
  ·unfold eA tF;simp
 exact codeAny_compStart_list (loop _ rfl) (T.self _ 0 _ _ _ (T.keep _ _ _ KS λb hb o e=>ET _ _ (Le _ _ e)) (loop _ rfl))
theorem Jr (kJ:X.calm=true) 
  (S:CompSc X scope cl) (cp:o9 X N' scope cl nT cap) (hi:JI X tg dB fi)
  (hg:∀C s H fp,PG (ju X N' scope cl C s H fp) tg g) (HZ:L4 X.K nT qC g) (hc:∀C s H fp,JC (ju X N' scope cl C s H fp) tu fc) (he:∀C s H fp,JE (ju X N' scope cl C s H fp) tU fe)
  (hs:∀x,foldedSetIterable dB X.env x=pure x:=by intro _;rfl):
  JE X (.ListComp tU [⟨tg,dB,tu,0⟩] scope pos) (bV fi nT cap qC fc fe):=by
 intro af s U H Q I h;obtain⟨B,Y,d,b,sB,rep,e,q⟩:=h;obtain⟨items,ei,e⟩:=oX e;have hsz:items.length<=sizeLine:=Decidable.byContradiction λz=>by rw[if_neg z]at e;cases e
 rw[if_pos hsz]at e;obtain⟨ds,ec,e⟩:=oY e;cases e
 rw[eval_ListComp];refine wpAny_comprehension_free (use:=none) rfl hs S.clos S.kind S.names (cL (hi af s U H (λJ H2=>∃N1,Ext B N1 H H2/\qe X.K J N1 items) I ⟨B,Y,items,sB,rep,ei,λJ H2 N1 x1 j1=>⟨N1,x1,j1⟩⟩) λv s1 h1=>cL h1 λTn s2 h2=>?_);obtain⟨it,fp,tn,J,H2,e,I2,T,KS,f2,N1,x1,j1⟩:=h2;subst e;refine qM kJ S cp hg HZ hc he I2 T KS f2 (rep.mono x1.bn) x1.nh j1 hsz ec (RR:=λmh C=>compPost (model X.prog X.w) X.A X.xe none (EP X af U Q) mh C) ?_;intro Dd C s' H' N vs m hD I' hm fC x hN hl;refine⟨m,hm,λh' hs'=>⟨.ref Dd,H',?_,rfl,q _ H' N (x1.trans x) (.lst (jl.of hN) hl) λ_=>⟨Dd,vs,ds,rfl,rfl,x1.hh.free hD,hN,hl⟩⟩⟩;obtain⟨c0,c1,c2,c3,c4,c5⟩:=fC;exact I'.turned (t':=s'.toks) (λb o hb e=>(hs'.2 b hb).trans e) c0 c1 c3 c4 c5
theorem Js (kJ:X.calm=true) 
  (hN:X.N.Nodup) (My:X.N[i]? = some y) (hy:X.env.kindOf y=some .local)
  (RX:swapsWith (.ListComp tU [⟨tg,dB,tu,0⟩] scope pos) (some (.Name y py)) spos.line X.env=pure true)
  (S:CompSc X scope cl) (cp:o9 X N' scope cl nT cap) (hi:JI X tg dB fi)
  (hg:∀C s H fp,PG (ju X N' scope cl C s H fp) tg g) (HZ:L4 X.K nT qC g) (hc:∀C s H fp,JC (ju X N' scope cl C s H fp) tu fc) (he:∀C s H fp,JE (ju X N' scope cl C s H fp) tU fe)
  (hs:∀x,foldedSetIterable dB X.env x=pure x:=by intro _;rfl):
  JS X (.Assign [.Name y py] (.ListComp tU [⟨tg,dB,tu,0⟩] scope pos) spos) (aQ i (bV fi nT cap qC fc fe)):=by
 intro af s U H E I h;have h2:yn (tD X.K (bV fi nT cap qC fc fe)) (kF i) E U H:=BZ h;obtain⟨B,Y,d,b,sB,rep,e,q⟩:=h2;obtain⟨items,ei,e⟩:=oX e;have hsz:items.length<=sizeLine:=Decidable.byContradiction λz=>by rw[if_neg z]at e;cases e
 rw[if_pos hsz]at e;obtain⟨ds,ec,e⟩:=oY e;cases e
 rw[exec_Assign_Name_used _ _ _ _ RX];refine wX (wpAny_standAt (wX ?_));show wpAny _ _ (do let _ ←comprehension (.ListComp tU [⟨tg,dB,tu,0⟩] scope pos) scope X.env _ (newList []) false (eval dB X.env) (some (assign (.Name y py) X.env))) _ _ s;refine wX (wpAny_mono (wpAny_comprehension_free (use:=some (assign (.Name y py) X.env)) (Q:=λ_ s'=>SP X af E .next s') rfl hs S.clos S.kind S.names
  (cL (hi af s U H (λJ H2=>∃N1,Ext B N1 H H2/\qe X.K J N1 items) I ⟨B,Y,items,sB,rep,ei,λJ H2 N1 x1 j1=>⟨N1,x1,j1⟩⟩) λv s1 h1=>cL h1 λTn s2 h2=>?_)) (λ_ s' hq=>wY (wY hq)) λ_ _ e=>e)
 obtain⟨it,fp,tn,J,H2,e,I2,T,KS,f2,N1,x1,j1⟩:=h2;subst e;refine qM kJ S cp hg HZ hc he I2 T KS f2 (rep.mono x1.bn) x1.nh j1 hsz ec (RR:=λmh C=>compPost (model X.prog X.w) X.A X.xe (some (assign (.Name y py) X.env)) (λ_ s'=>SP X af E .next s') mh C) ?_;intro Dd C s' H' N vs m hD I' hm fC x Xg hl;show wpAny _ _ (assign (.Name y py) X.env (.ref Dd)) _ _ s';obtain⟨c0,c1,c2,c3,c4,c5⟩:=fC;refine wpAny_assign_Name (tW I' hN My (.inl hy) (r:=show bf (.ref Dd) (.ref Dd)from rfl) (λs9 I9 ⟨a,sb,ha⟩=>?_) (.inr hy));have nC:C≠a:=by
  rcases ha with z|z
  ·rw[z];exact c1
  ·exact λw=>c4 y a z w.symm
 refine⟨m,hm.sameBut sb nC,λh' hs'=>⟨_,H',?_,q _ H' N (x1.trans x) (.lst (jl.of Xg) hl) λ_=>⟨Dd,vs,ds,rfl,rfl,x1.hh.free hD,Xg,hl⟩⟩⟩;exact I9.turned (t':=s9.toks) (λb o hb e=>(hs'.2 b hb).trans e) c0 c1 c3 c4 c5
section
variable {X:Cx}{a b c e:Expr}{pos:Pos}
theorem PE.to (h:PE X e t)(k:∀U H Q,t' U H Q->t U H Q):PE X e t':=λaf s U H Q I q=>h af s U H Q I (k U H Q q)
theorem PT.to (h:PT X e t)(k:∀U H Q,t' U H Q->t U H Q):PT X e t':=λaf s U H Q I q=>h af s U H Q I (k U H Q q)
theorem PW.to (h:PW X e t)(k:∀U H Q,t' U H Q->t U H Q):PW X e t':=λwh af s U H Q I q=>h wh af s U H Q I (k U H Q q)
theorem PA.to (h:PA X es t)(k:∀U H Q,t' U H Q->t U H Q):PA X es t':=λpos af s U H Q I q=>h pos af s U H Q I (k U H Q q)
theorem PS.to {st:Stmt}{t t':TS}(h:PS X st t)(k:∀E U H,t' E U H->t E U H):PS X st t':=λaf s U H E I q=>h af s U H E I (k E U H q)
theorem w6.to {st:List Stmt}{t t':TS}(h:w6 X st t)(k:∀E U H,t' E U H->t E U H):w6 X st t':=λaf s U H E I q=>h af s U H E I (k E U H q)
theorem PI.to (h:PI X tg it t)(k:∀U H Q,t' U H Q->t U H Q):PI X tg it t':=λaf s U H Q I q=>h af s U H Q I (k U H Q q)
theorem DY {K:Frag}{d:D}{v:V}(i:∀B,Is K B v d){U:St}{H:Hp}{Q:VK}(h:tD K (fC d) U H Q):tC v U H Q:=by
 obtain⟨B,Y,d',b,s,r,e,q⟩:=h;cases e
 exact q.one s (i B)
theorem ah (i:Nat)(hN:X.N[i]? = some x:=by rfl)(hv:Fj X.env.scope x:=by first|exact Or.inl rfl|exact Or.inr (Or.inl rfl)|exact Or.inr (Or.inr rfl))(hd:(x == ("__debug__" : Str))=false:=by decide)
  (jT:(x == ("__classdict__" : Str))=false:=by decide):JE X (.Name x pos) (aj i):=PE.to (mE hN hv hd jT) λ_ _ _ h=>N7 h
theorem aw:JE X (.Constant (.int i) j pos) (fC (.int i)):=PE.to MG λ_ _ _ h=>DY (λ_=>.int i) h
theorem iK:JE X (.Constant (.bool i) j pos) (fC (.bl i)):=PE.to Qn λ_ _ _ h=>DY (λ_=>.bl i) h
theorem df:JE X (.Constant .none j pos) (fC .non):=PE.to MH λ_ _ _ h=>DY (λ_=>.non) h
theorem a7:JE X (.Constant (.str x) j pos) (fC (.str x)):=PE.to MI λ_ _ _ h=>DY (λ_=>.str x) h
theorem Jt (hg:Gl X x)(hm:X.mg x=some u)(r:bf v u)(i:∀B,Is X.K B v d)(hd:(x == ("__debug__" : Str))=false:=by decide):JE X (.Name x pos) (fC d):=PE.to (BQ hg hm r hd) λ_ _ _ h=>DY i h
theorem a8 (ho:dQ X (binaryOp op) (rD X.K f))(ha:JE X a fa)(hb:JE X b fb):JE X (.BinOp a op b pos) (f2 f fa fb):=PE.to (Lr ho ha hb) λ_ _ _ h=>Jh h
theorem L5 (ho:Q3 X (unaryOp op) (Ul X.K f))(ha:JE X a fa):JE X (.UnaryOp op a pos) (f1 f fa):=PE.to (Q4 ho ha) λ_ _ _ h=>Um h
theorem cn (ho:dQ X (compareOp op) (rD X.K f))(ha:JE X a fa)(hb:JE X b fb)(hm:behindInMarks op b=false:=by first|exact jA _ (by decide) (by decide)|rfl):JE X (.Compare a [op] [b] pos) (f2 f fa fb):=PE.to (IS ho ha hb hm) λ_ _ _ h=>Jh h
theorem AU {K:Frag}{f:FE}{U:St}{H:Hp}{Q:Bool->Hp->Prop}(h:DV K (aU f) U H Q):tD K f U H λx H'=>∃k,x=.bl k/\Q k H':=by
 obtain⟨B,Y,c,s,r,e,q⟩:=h;unfold aU at e;split at e
 ·rename_i c' b' ef;cases e
  refine⟨B,Y,.bl c,b',s,r,ef,λv H' N x i _=>?_⟩;cases i
  exact⟨c,rfl,q H' x.hh⟩
 ·cases e
theorem aG (ho:dQ X (compareOp op) (rD X.K f))(ha:JE X a fa)(hb:JE X b fb)(hm:behindInMarks op b=false:=by first|exact jA _ (by decide) (by decide)|rfl):JT X (.Compare a [op] [b] pos) (aU (f2 f fa fb)) :=
 PT.to (IT ho ha hb hm) λ_ _ _ h=>Jh (AU h)
theorem cf (h:JE X e f)(he:∀tp,isTrue e X.env tp=(do let v ←tp;standAt e.pos;holding [v] (truthy v)):=by intro _;rfl):JT X e (aU f):=PT.to (MP h he) λ_ _ _ q=>AU q
@[simp] noncomputable def oH (f g:D->D->OB)(fa fb fc:FE):FE:=λY=>(fa Y).bind λx=>(fb Y).bind λy=>match f x.1 y.1 with
 |some (.bl true,_)=>(fc Y).bind λz=>g y.1 z.1
 |some (.bl false,_)=>some (.bl false,false)
 |_=>none
theorem FP {K:Frag}{f g:D->D->OB}{fa fb fc:FE}{U:St}{H:Hp}{Q:VK}(h:tD K (oH f g fa fb fc) U H Q):Ft (rD K f) (rD K g) (tD K fa) (tD K fb) (tD K fc) U H Q:=by
 obtain⟨B,Y,d,b,s,r,e,q⟩:=h;obtain⟨x,ex,e⟩:=oX e;obtain⟨y,ey,e⟩:=oX e;refine⟨B,Y,x.1,x.2,s,r,ex,λv H1 N1 x1 i1 _=>⟨N1,Y,y.1,y.2,x1.nh,r.mono x1.bn,ey,λv2 H2 N2 x2 i2 _=>?_⟩⟩;split at e
 ·rename_i b' ef;obtain⟨z,ez,e⟩:=oX e;refine⟨N2,x.1,y.1,.bl true,b',x2.nh,i1.mono x2.bn,i2,ef,λv3 H3 N3 x3 i3 _=>?_⟩;cases i3
  refine⟨true,rfl,?_⟩;rw[if_pos rfl];refine⟨N3,Y,z.1,z.2,x3.nh,r.mono (x1.bn.trans (x2.bn.trans x3.bn)),ez,λv4 H4 N4 x4 i4 _=>⟨N4,y.1,z.1,d,b,x4.nh,i2.mono (x3.bn.trans x4.bn),i4,e,?_⟩⟩;exact q.into ((x1.trans x2).trans (x3.trans x4))
 ·rename_i b' ef;cases e
  refine⟨N2,x.1,y.1,.bl false,b',x2.nh,i1.mono x2.bn,i2,ef,λv3 H3 N3 x3 i3 _=>?_⟩;cases i3
  refine⟨false,rfl,?_⟩;rw[if_neg (by decide)];exact(q.into ((x1.trans x2).trans x3)).one x3.nh (.bl false)
 ·cases e
theorem FQ (ho:dQ X (compareOp op) (rD X.K f))(tQ:dQ X (compareOp PF) (rD X.K g))(ha:JE X a fa)(hb:JE X b fb)(hc:JE X c fc)
  (hm:lastMarks [op,PF] [b,c]=false:=by with_unfolding_all rfl):JE X (.Compare a [op,PF] [b,c] pos) (oH f g fa fb fc):=PE.to (Fu ho tQ ha hb hc hm) λ_ _ _ h=>FP h
theorem Ju {K:Frag}{f g:FT}{U:St}{H:Hp}{Q:Bool->Hp->Prop}(h:DV K (cA f g) U H Q):Qo (DV K f) (DV K g) U H Q:=by
 obtain⟨B,Y,c,s,r,e,q⟩:=h;unfold cA at e;cases ef:f Y with
 |none=>rw[ef]at e;cases e
 |some k=>
  rw[ef]at e;refine⟨B,Y,k,s,r,ef,λH1 h1=>?_⟩;cases k with
  |true=>rw[if_pos rfl];exact⟨B,Y,c,s.trans h1,r,e,λH2 h2=>q H2 (h1.trans h2)⟩
  |false=>rw[if_neg (by decide)];cases e;exact q H1 h1
theorem ND {K:Frag}{f g:FT}{U:St}{H:Hp}{Q:Bool->Hp->Prop}(h:DV K (js f g) U H Q):Wh (DV K f) (DV K g) U H Q:=by
 obtain⟨B,Y,c,s,r,e,q⟩:=h;unfold js at e;cases ef:f Y with
 |none=>rw[ef]at e;cases e
 |some k=>
  rw[ef]at e;refine⟨B,Y,k,s,r,ef,λH1 h1=>?_⟩;cases k with
  |false=>rw[if_neg (by decide)];exact⟨B,Y,c,s.trans h1,r,e,λH2 h2=>q H2 (h1.trans h2)⟩
  |true=>rw[if_pos rfl];cases e;exact q H1 h1
theorem Jv {K:Frag}{f:FT}{U:St}{H:Hp}{Q:Bool->Hp->Prop}(h:DV K (dS f) U H Q):Qp (DV K f) U H Q:=by
 obtain⟨B,Y,c,s,r,e,q⟩:=h;obtain⟨k,ek,e⟩:=oY e;subst e;exact⟨B,Y,k,s,r,ek,λH1 h1=>q H1 h1⟩
variable {aB:List Expr}
theorem fE (ha:JT X a f):JW X (.BoolOp .And [a] pos) f:=II ha
theorem jX (ha:JT X a f):JW X (.BoolOp .Or [a] pos) f:=MQ ha
theorem fJ (ha:JT X a f)(hb:JW X (.BoolOp .And (b::aB) pos) g):JW X (.BoolOp .And (a::b::aB) pos) (cA f g):=PW.to (MT ha hb) λ_ _ _ h=>Ju h
theorem kW (ha:JT X a f)(hb:JW X (.BoolOp .Or (b::aB) pos) g):JW X (.BoolOp .Or (a::b::aB) pos) (js f g):=PW.to (Qq ha hb) λ_ _ _ h=>ND h
theorem jv (h:JW X e f):JT X e f:=h.pt
theorem fj (ha:JT X a f):JT X (.UnaryOp .Not a pos) (dS f):=PT.to (MU ha) λ_ _ _ h=>Jv h
@[simp] noncomputable def kL (f g:FE):FE:=λY=>match f Y with|some (.bl true,_)=>g Y|some (.bl false,_)=>some (.bl false,false)|_=>none
@[simp] noncomputable def NE (f g:FE):FE:=λY=>match f Y with|some (.bl true,_)=>some (.bl true,false)|some (.bl false,_)=>g Y|_=>none
@[simp] noncomputable def Yt (f:FE):FE:=λY=>match f Y with|some (.bl c,_)=>some (.bl (!c),false)|_=>none
theorem gu (ha:JE X a f)(hb:JE X (.BoolOp .And (b::aB) pos) g):JE X (.BoolOp .And (a::b::aB) pos) (kL f g):=PE.to (MW ha hb) λU H Q h=>by
 obtain⟨B,Y,d,k,s,r,e,q⟩:=h;unfold kL at e;split at e
 ·rename_i b' ef;refine⟨B,Y,_,_,s,r,ef,λv H1 N1 x1 i1 _=>?_⟩;cases i1
  refine⟨true,rfl,?_⟩;rw[if_pos rfl];exact⟨N1,Y,d,k,x1.nh,r.mono x1.bn,e,q.into x1⟩
 ·rename_i b' ef;cases e
  refine⟨B,Y,_,_,s,r,ef,λv H1 N1 x1 i1 _=>?_⟩;cases i1
  refine⟨false,rfl,?_⟩;rw[if_neg (by decide)];exact(q.into x1).one x1.nh (.bl false)
 ·cases e
theorem FR (ha:JE X a f)(hb:JE X (.BoolOp .Or (b::aB) pos) g):JE X (.BoolOp .Or (a::b::aB) pos) (NE f g):=PE.to (Qs ha hb) λU H Q h=>by
 obtain⟨B,Y,d,k,s,r,e,q⟩:=h;unfold NE at e;split at e
 ·rename_i b' ef;cases e
  refine⟨B,Y,_,_,s,r,ef,λv H1 N1 x1 i1 _=>?_⟩;cases i1
  refine⟨true,rfl,?_⟩;rw[if_pos rfl];exact(q.into x1).one x1.nh (.bl true)
 ·rename_i b' ef;refine⟨B,Y,_,_,s,r,ef,λv H1 N1 x1 i1 _=>?_⟩;cases i1
  refine⟨false,rfl,?_⟩;rw[if_neg (by decide)];exact⟨N1,Y,d,k,x1.nh,r.mono x1.bn,e,q.into x1⟩
 ·cases e
theorem fT (h:JE X a f):JE X (.BoolOp op [a] pos) f:=MV h
theorem L6 (hc:JT X c fc)(ha:JE X a f)(hb:JE X b g):JE X (.IfExp c a b pos) (Jk fc f g):=PE.to (Fl hc ha hb) λU H Q h=>by
 obtain⟨B,Y,d,k,s,r,e,q⟩:=h;unfold Jk at e;cases ef:fc Y with
 |none=>rw[ef]at e;cases e
 |some t=>
  rw[ef]at e;refine⟨B,Y,t,s,r,ef,λH1 h1=>?_⟩;cases t with
  |true=>rw[if_pos rfl];exact⟨B,Y,d,k,s.trans h1,r,e,q.into (.grow s h1)⟩
  |false=>rw[if_neg (by decide)];exact⟨B,Y,d,k,s.trans h1,r,e,q.into (.grow s h1)⟩
variable {es:List Expr}
theorem am:JA X [] ai:=PA.to kR λ_ _ _ h=>Jj h
theorem ag (ha:JE X e f)(hr:JA X es g)(hs:starEach (e::es) X.env=(false,eval e X.env)::starEach es X.env:=by rfl):JA X (e::es) (ae f g):=PA.to (jm ha hr hs) λ_ _ _ h=>FF h
@[simp] noncomputable def aK:List D->OB:=λds=>if ds.length<=sizeLine then some (.tup ds,false)else none
@[simp] noncomputable def br:List D->OB:=λds=>if ds.length<=sizeLine then some (.lst ds,true)else none
theorem aM {x1}(h:JA X es f):JE X (.Tuple es x1 pos) (fA aK f):=PE.to (AH h) λU H Q q=>by
 obtain⟨B,Y,ds,s,r,e,k⟩:=Ji q;refine⟨B,Y,ds,s,r,e,λvs H1 N1 x1 i1=>?_⟩;obtain⟨B2,Xh,d,b,s2,i2,e2,k2⟩:=k vs H1 N1 x1 i1;unfold aK at e2;split at e2
 ·rename_i hz;cases e2
  refine⟨by rw[i2.length];exact hz,λp hp=>k2 _ _ (upd B2 p (.tup vs)) (.laid s2 hp) (.tup (jB.of aJ) (i2.mono (Ext.laid s2 hp).bn)) (by simp)⟩
 ·cases e2
theorem bu (h:JA X es f):JE X (.List es pos) (fA br f):=PE.to (No h) λU H Q q=>by
 obtain⟨B,Y,ds,s,r,e,k⟩:=Ji q;refine⟨B,Y,ds,s,r,e,λvs H1 N1 x1 i1=>?_⟩;obtain⟨B2,Xh,d,b,s2,i2,e2,k2⟩:=k vs H1 N1 x1 i1;unfold br at e2;split at e2
 ·rename_i hz;cases e2
  refine⟨by rw[i2.length];exact hz,λp hp=>k2 _ _ (upd B2 p (.lst vs)) (.laid s2 hp) (.lst (jl.of aJ) (i2.mono (Ext.laid s2 hp).bn)) λ_=>⟨p,vs,Xh,rfl,rfl,hp,aJ,i2.mono (Ext.laid s2 hp).bn⟩⟩
 ·cases e2
end
section
variable {X:Cx}
theorem jw (h:dQ X f r)(k:∀x y H Q,r' x y H Q->r x y H Q):dQ X f r':=λaf s U H x y v u Q I rx ry q=>h af s U H x y v u Q I rx ry (k x y H Q q)
noncomputable def Fe (f g:D->D->OB):D->D->OB:=λx y=>match f x y with|some r=>some r|none=>g x y
theorem oJ (h:dQ X s (rD X.K f))(h':dQ X s (rD X.K g)):dQ X s (rD X.K (Fe f g)):=by
 intro af st U H x y v u Q I rx ry q;obtain⟨B,dx,dy,d,b,sB,ix,iy,e,q⟩:=q;unfold Fe at e;split at e
 ·rename_i r ef;cases e
  exact h af st U H x y v u Q I rx ry ⟨B,dx,dy,_,_,sB,ix,iy,ef,q⟩
 ·exact h' af st U H x y v u Q I rx ry ⟨B,dx,dy,_,_,sB,ix,iy,e,q⟩
@[simp] noncomputable def y0 (C:Int->Int->Bool)(g:Int->Int->D):D->D->OB
 |.int i,.int j=>if C i j=true then some (g i j,false)else none
 |_,_=>none
theorem qt (h:dQ X s (rI C g))(hC:∀i j,C' i j=true->C i j)(hg:∀i j B,Is X.K B (g i j) (g' i j)):dQ X s (rD X.K (y0 C' g')):=by
 refine jw h λx y H Q q=>?_;obtain⟨B,dx,dy,d,b,sB,ix,iy,e,q⟩:=q;cases ix<;>try (cases e;done)
 cases iy<;>try (cases e;done)
 rename_i i j;simp only[y0]at e;split at e
 ·rename_i hc;cases e
  exact⟨i,j,rfl,rfl,hC i j hc,q.one sB (hg i j B)⟩
 ·cases e
theorem iL (h:dQ X s (Ir g))(hg:∀i j B,Is X.K B (g i j) (g' i j)):dQ X s (rD X.K (y0 (λ_ _=>true) g')):=by
 refine jw h λx y H Q q=>?_;obtain⟨B,dx,dy,d,b,sB,ix,iy,e,q⟩:=q;cases ix<;>try (cases e;done)
 cases iy<;>try (cases e;done)
 rename_i i j;simp only[y0,if_true]at e;cases e
 exact⟨i,j,rfl,rfl,q.one sB (hg i j B)⟩
abbrev NF:D->D->OB:=y0 (λ_ _=>true) λi j=>.int (i+j)
abbrev AV:D->D->OB:=y0 (λ_ _=>true) λi j=>.int (i - j)
abbrev NG:D->D->OB:=y0 (λi j=>decide ((-18446744073709551616<i/\i<18446744073709551616)∨(-18446744073709551616<j/\j<18446744073709551616))) λi j=>.int (i*j)
abbrev da:D->D->OB:=y0 (λ_ j=>decide (0<j/\j<1073741824)) λi j=>.int (i / j)
abbrev bR:D->D->OB:=y0 (λ_ j=>decide (0<j)) λi j=>.int (i % j)
abbrev NH:D->D->OB:=y0 (λ_ j=>decide (0<=j)) λi j=>.int (i / 2 ^ j.toNat)
abbrev Jw:D->D->OB:=y0 (λ_ _=>true) λi j=>.int (Builtin.bitAnd i j)
abbrev Wu:D->D->OB:=y0 (λ_ _=>true) λi j=>.bl (decide (i<j))
abbrev Uo:D->D->OB:=y0 (λ_ _=>true) λi j=>.bl (decide (i<=j))
abbrev DZ:D->D->OB:=y0 (λ_ _=>true) λi j=>.bl (decide (j<i))
abbrev QS:D->D->OB:=y0 (λ_ _=>true) λi j=>.bl (decide (j<=i))
theorem QT:dQ X (binaryOp .Add) (rD X.K NF):=iL Ng λ_ _ _=>.int _
theorem FU:dQ X (binaryOp .Sub) (rD X.K AV):=iL Nh λ_ _ _=>.int _
theorem QU:dQ X (binaryOp .Mult) (rD X.K NG):=qt Ni (λi j h=>by have h:=of_decide_eq_true h;unfold IP;omega) λ_ _ _=>.int _
theorem bX:dQ X (binaryOp .FloorDiv) (rD X.K da):=qt IQ (λi j h=>by have h:=of_decide_eq_true h;unfold Q5;omega) λ_ _ _=>.int _
theorem bQ:dQ X (binaryOp .Mod) (rD X.K bR):=qt Nj (λ_ _ h=>of_decide_eq_true h) λ_ _ _=>.int _
theorem L7:dQ X (binaryOp .RShift) (rD X.K NH):=qt Nk (λ_ _ h=>of_decide_eq_true h) λ_ _ _=>.int _
theorem FV:dQ X (binaryOp .BitAnd) (rD X.K Jw):=iL Nl λ_ _ _=>.int _
theorem Uq:dQ X (compareOp .Lt) (rD X.K Wu):=iL Q6 λ_ _ _=>.bl _
theorem Ur:dQ X (compareOp .LtE) (rD X.K Uo):=iL Q7 λ_ _ _=>.bl _
theorem AW:dQ X (compareOp .Gt) (rD X.K DZ):=iL Q8 λ_ _ _=>.bl _
theorem QV:dQ X (compareOp .GtE) (rD X.K QS):=iL Q9 λ_ _ _=>.bl _
@[simp] noncomputable def Px (C:Str->Str->Bool)(g:Str->Str->D):D->D->OB
 |.str i,.str j=>if C i j=true then some (g i j,false)else none
 |_,_=>none
abbrev Jx:D->D->OB:=Px (λi j=>decide (i.length+j.length<=sizeLine)) λi j=>.str (i++j)
abbrev SW:D->D->OB:=Px (λ_ _=>true) λi j=>.bl (!decide (j.cps.toList<i.cps.toList))
theorem NI:dQ X (binaryOp .Add) (rD X.K Jx):=by
 refine jw AF λx y H Q q=>?_;obtain⟨B,dx,dy,d,b,sB,ix,iy,e,q⟩:=q;cases ix<;>try (cases e;done)
 cases iy<;>try (cases e;done)
 rename_i i j;simp only[Jx,Px]at e;split at e
 ·rename_i hc;cases e
  exact⟨i,j,rfl,rfl,of_decide_eq_true hc,q.one sB (.str _)⟩
 ·cases e
theorem QW:dQ X (compareOp .LtE) (rD X.K SW):=by
 intro af s U H x y v u Q I rx ry q;obtain⟨B,dx,dy,d,b,sB,ix,iy,e,q⟩:=q;cases ix<;>try (cases e;done)
 cases iy<;>try (cases e;done)
 rename_i i j;simp only[SW,Px,if_true]at e;cases e
 obtain⟨t,rfl⟩:=rx;obtain⟨t',rfl⟩:=ry;exact PySem.P.le_str ⟨.bl _,H,I,rfl,q.one sB (.bl _)⟩
end
section
variable {X:Cx}{a b c e:Expr}{pos:Pos}{st:Stmt}{aB:List Stmt}
theorem eF:xZ X [] aV:=w6.to IJ λ_ _ _ h=>FI h
theorem ao (h1:JS X st g)(h2:xZ X aB h):xZ X (st::aB) (a9 g h):=w6.to (Fm h1 h2) λ_ _ _ q=>Jl q
theorem bx (h1:JS X st g):xZ X [st] g:=IK h1
theorem fz {c:Expr}{a b:List Stmt}{fc:FT}{g h:FS}(hc:JT X c fc)(ha:xZ X a g)(hb:xZ X b h):JS X (.If c a b pos) (cW fc g h):=PS.to (Qx hc ha hb) λ_ _ _ q=>NA q
theorem FW (he:JE X e f):JS X (.Return (some e) pos) (aT f):=PS.to (Fo he) λ_ _ _ q=>Jm q
theorem jY (i:Nat)(hN:X.N[i]? = some x:=by rfl)(hv:Fj X.env.scope x:=by first|exact Or.inl rfl|exact Or.inr (Or.inl rfl)|exact Or.inr (Or.inr rfl))(hd:(x == ("__debug__" : Str))=false:=by decide)
  (jT:(x == ("__classdict__" : Str))=false:=by decide):JS X (.Return (some (.Name x p)) pos) (iI i):=PS.to (Fo (mE hN hv hd jT)) λ_ _ _ q=>FJ q
theorem aE (hN:X.N.Nodup)(he:JE X e f)(hi:X.N[i]? = some x:=by rfl)(hx:Iq X.env.scope x:=by first|exact Or.inl rfl|exact Or.inr rfl)(hs:swapsWith e (some (.Name x p)) pos.line X.env=pure false:=by rfl)
  (hf:X.fn x=true∨X.env.scope.names.lookup x=some .local:=by first|exact .inl rfl|exact .inr rfl):JS X (.Assign [.Name x p] e pos) (aQ i f):=PS.to (wB hN hi hx he hs hf) λ_ _ _ q=>BZ q
theorem Jy (hN:X.N.Nodup)(he:JE X e f)(hi:X.N[i]? = some x:=by rfl)(hx:Iq X.env.scope x:=by first|exact Or.inl rfl|exact Or.inr rfl)(hs:swapsWith e (some (.Name x p)) pos.line X.env=pure false:=by rfl)
  (hf:X.fn x=true∨X.env.scope.names.lookup x=some .local:=by first|exact .inl rfl|exact .inr rfl):JS X (.Assign [.Name x p] e pos) (yx i f):=PS.to (wB hN hi hx he hs hf) λ_ _ _ q=>FK q
theorem NJ (hp:PassesOwn (model X.prog X.w) X.A X.env X.xe)(hc:X.calm=true)(hi:JI X tg dB fi)(hg:PG X tg t)(ht:Jo X.K qC t)(hb:xZ X body g)
  (hs:∀x,foldedSetIterable dB X.env x=pure x:=by intro _;rfl):JS X (.For tg dB body [] pos) (qL fi qC g):=PS.to (Fs hp hc hi hg hb hs) λ_ _ _ q=>Jp ht q
theorem Jz (hp:PassesOwn (model X.prog X.w) X.A X.env X.xe)(hc:X.calm=true)(hi:PI X tg dB (SV X.K fi))(hg:PG X tg t)(ht:Jo X.K qC t)(hb:xZ X body g)
  (hs:∀x,foldedSetIterable dB X.env x=pure x:=by intro _;rfl):JS X (.For tg dB body [] pos) (mm fi qC g):=PS.to (Fs hp hc hi hg hb hs) λ_ _ _ q=>FN ht q
theorem hZ (he:JE X e f)(hN:X.N[i]? = some x:=by rfl)(hv:Fj X.env.scope x:=by first|exact Or.inl rfl|exact Or.inr (Or.inl rfl)|exact Or.inr (Or.inr rfl))(hd:(x == ("__debug__" : Str))=false:=by decide)
  (jT:(x == ("__classdict__" : Str))=false:=by decide)
  (ji:attributeBase (.Name x p) "append" X.env (eval (.Name x p) X.env)=eval (.Name x p) X.env:=by rfl)
  (BM:((backTo cN (starEach [e] X.env)).all (λx=>!x.1) && (backToKw cN (keywordEach [] X.env)).all (λx=>x.1.isSome)
   && decide ([e].length+([]:List Keyword).length+(if([]:List Keyword).isEmpty then 0 else 1)<30))=true:=by rfl)
  (jj:(dP.endLine == cN.line)=true:=by rfl) (hs:starEach [e] X.env=[(false,eval e X.env)]:=by rfl) (RX:swapsWith (.Call (.Attribute (.Name x p) "append" dP) [e] [] cN) none pos.line X.env=pure false:=by rfl):
  JS X (.Expr (.Call (.Attribute (.Name x p) "append" dP) [e] [] cN) pos) (jV i f):=by
 refine PS.to (IL (F3 PySem.F.plainAttrs_list PySem.F.slot_list_append PySem.F.type_list_append uh (mE hN hv hd jT) (jm he kR hs) ji BM jj hs rfl) RX) λE U H q=>?_;obtain⟨a,us,h1,h2,k⟩:=Jn q;exact⟨_,h1,.inl ⟨rfl,us,jl.of h2⟩,k⟩
end
@[simp] noncomputable def aO (g:FS)(n k:Nat):List D->OB:=λds=>if ds.length=n then
 match g (ds.map (λd=>some (d,false))++List.replicate k none) with
 |some (.rt d b)=>some (d,b)
 |some (.nx _)=>some (.non,false)
 |_=>none
 else none
def J0 (K:Frag)(f:List D->OB):Sp:=λvs H Q _=>∃(B:Hp)(ds:List D)(d:D)(b:Bool),(bg B H/\Tb K B)/\IsL K B vs ds/\f ds=some (d,b)/\Fin K B H d b Q
theorem y4 {K:Frag}{B H:Hp}{vs:List V}{ds:List D}{N:List Str}(sB:bg B H)(tb:Tb K B)(i:IsL K B vs ds):eU K B H B H (L2.kG N vs) (ds.map (λd=>some (d,false))++List.replicate (N.length - vs.length) none):=by
 have nf:∀(j:Nat)(d:D)(b:Bool),(ds.map (λd=>some (d,false))++List.replicate (N.length - vs.length) none:Env)[j]? = some (some (d,b))->b=false/\ds[j]? = some d:=λj d b e=>by
  by_cases hj:j<ds.length
  ·rw[List.getElem?_append_left (by simpa using hj),vA]at e;obtain⟨d',h1,h2⟩:=oY e;cases h2
   exact⟨rfl,h1⟩
  ·rw[List.getElem?_append_right (by simpa using Nat.not_lt.mp hj),List.getElem?_replicate]at e;split at e<;>cases e
 have no:∀a,¬own (L2.kG N vs) (ds.map (λd=>some (d,false))++List.replicate (N.length - vs.length) none) a:=λa ⟨j,d,h,_⟩=>by
  obtain⟨z,_⟩:=nf j d true h;cases z
 refine⟨sB,tb,.refl sB,?_,λj d e=>?_,λj d e=>?_,λj k a d e h=>?_⟩
 ·unfold L2.kG;rw[uZ,uZ,vI,vI,List.length_replicate,List.length_replicate,i.length]
 ·obtain⟨_,e1⟩:=nf j d false e;obtain⟨v,h1,h2⟩:=i.get e1;refine⟨v,?_,h2.mono λa o e=>by rw[cV (no a)];exact e⟩;unfold L2.kG;have hj:j<vs.length:=(vV h1).1;rw[List.getElem?_append_left (by simpa using hj),vA,h1]<;>rfl
 ·obtain⟨z,_⟩:=nf j d true e;cases z
 ·obtain⟨z,_⟩:=nf j d true h;cases z
section
variable {P:Program}{w:World}{K:Frag}{mg:Str->Option Value}{base:Heap}
theorem QX {x qual:Str}{st:Stmt}{f:Addr}{fd:FuncData}{N ps:List Str}{k:Nat}{g:FS}(F:OR K x qual st f fd)(S:FnScope N ps (bc st))
  (hb:∀(ft:Value)(A:Around)(outer:List PySem.Env)(s:Shared)(H:Hp)(E:XK),fD k (A.deeper (envOfC qual (bc st) s.heap.objs.size f ft))->xZ (qc A3 P w K mg base N qual (bc st) f ft A outer s H E).nox (cQ st) g):
  tR P w K mg base A3 (k+1) f fd ps (J0 K (aO g ps.length (N.length - ps.length))):=by
 have len:∀vs H Q E,J0 K (aO g ps.length (N.length - ps.length)) vs H Q E->vs.length=ps.length:=λvs H Q E h=>by
  obtain⟨B,ds,d,b,sB,i,e,q⟩:=h;unfold aO at e;split at e
  ·rename_i hl;rw[i.length];exact hl
  ·cases e
 refine F.ok S len λft A outer s H vs Q E hr h=>⟨_,hb ft A outer s H E hr,?_⟩;have bP:=len vs H Q E h;obtain⟨B,ds,d,b,sB,i,e,q⟩:=h;unfold aO at e;rw[if_pos (by rw[←i.length];exact bP)]at e;have s0:=y4 (N:=N) sB.1 sB.2 i;rw[bP]at s0;split at e
 ·rename_i d' b' eg;cases e
  exact⟨B,H,_,_,⟨B,s0⟩,eg,λv H' N' x' i' f'=>q v H' N' x' i' f'⟩
 ·rename_i ρ' eg;cases e
  exact⟨B,H,_,_,⟨B,s0⟩,eg,λσ' H' ⟨N',s'⟩=>q .non H' N' s'.ext .non (by simp)⟩
 ·cases e
structure Fn (P:Program)(w:World)(K:Frag)(mg:Str->Option Value)(base:Heap)(k:Nat)(x:Str)(f:List D->OB):Prop where
 ex:∃(ad:Addr)(fd:FuncData)(ps:List Str),tR P w K mg base A3 k ad fd ps (J0 K f)/\mg x=some (.ref ad)/\PySem.W.keepIn K (.ref ad)=true/\tY K fd ps []
end
theorem Ca (F:Fn X.prog X.w X.K X.mg X.base k x f)(hr:fD k X.A)(ha:JA X (e::es) fa)(hg:Gl X x:=by rfl)
  (tT:(x == ("__debug__" : Str))=false:=by decide) (he:starEach (e::es) X.env=(false,eval e X.env)::starEach es X.env:=by rfl) (nn:(backTo pos (starEach es X.env)).any (·.1)=false:=by rfl):
  JE X (.Call (.Name x p) (e::es) [] pos) (fA f fa):=by
 obtain⟨ad,fd,ps,F1,hm,hk,hb⟩:=F.ex;refine PE.to (IU F1 hr hg hm hk hb .nil QJ ha tT he nn) λU H Q q=>?_;obtain⟨B,Y,d,b,s,r,e,q⟩:=q;obtain⟨ds,ex,e⟩:=oX e;exact⟨B,Y,ds,s,r,ex,λvs H1 N1 x1 i1=>by
  show J0 X.K f (vs++[]) H1 Q _;rw[uQ];exact⟨N1,ds,d,b,⟨x1.nh,r.tb.mono x1.bn⟩,i1,e,q.into x1⟩⟩
mutual
def bE:D->D->Bool
 |.non,.non=>true
 |.bl a,.bl b=>a == b
 |.bl a,.int b=>decide ((if a then 1 else 0)=b)
 |.int a,.bl b=>decide (a=(if b then 1 else 0))
 |.int a,.int b=>decide (a=b)
 |.str a,.str b=>decide (a=b)
 |.tup xs,.tup ys=>dh xs ys
 |.lst xs,.lst ys=>dh xs ys
 |_,_=>false
def dh:List D->List D->Bool
 |[],[]=>true
 |x::xs,y::ys=>bE x y && dh xs ys
 |_,_=>false
end
@[simp] theorem y6:bE .non .non=true:=by simp only[bE]
@[simp] theorem AX (b:Bool):bE .non (.bl b)=false:=by simp only[bE]
@[simp] theorem y7 (b:Int):bE .non (.int b)=false:=by simp only[bE]
@[simp] theorem y8 (b:Str):bE .non (.str b)=false:=by simp only[bE]
@[simp] theorem L8 (b:List D):bE .non (.tup b)=false:=by simp only[bE]
@[simp] theorem L9 (b:List D):bE .non (.lst b)=false:=by simp only[bE]
@[simp] theorem AY (a:Bool):bE (.bl a) .non=false:=by simp only[bE]
@[simp] theorem Ea (a:Bool)(b:Bool):bE (.bl a) (.bl b)=(a == b):=by simp only[bE]
@[simp] theorem AZ (a:Bool)(b:Int):bE (.bl a) (.int b)=decide ((if a then 1 else 0)=b):=by simp only[bE]
@[simp] theorem Ba (a:Bool)(b:Str):bE (.bl a) (.str b)=false:=by simp only[bE]
@[simp] theorem NK (a:Bool)(b:List D):bE (.bl a) (.tup b)=false:=by simp only[bE]
@[simp] theorem NL (a:Bool)(b:List D):bE (.bl a) (.lst b)=false:=by simp only[bE]
@[simp] theorem y9 (a:Int):bE (.int a) .non=false:=by simp only[bE]
@[simp] theorem Bb (a:Int)(b:Bool):bE (.int a) (.bl b)=decide (a=(if b then 1 else 0)):=by simp only[bE]
@[simp] theorem yA (a:Int)(b:Int):bE (.int a) (.int b)=decide (a=b):=by simp only[bE]
@[simp] theorem yB (a:Int)(b:Str):bE (.int a) (.str b)=false:=by simp only[bE]
@[simp] theorem LA (a:Int)(b:List D):bE (.int a) (.tup b)=false:=by simp only[bE]
@[simp] theorem LB (a:Int)(b:List D):bE (.int a) (.lst b)=false:=by simp only[bE]
@[simp] theorem yC (a:Str):bE (.str a) .non=false:=by simp only[bE]
@[simp] theorem Bc (a:Str)(b:Bool):bE (.str a) (.bl b)=false:=by simp only[bE]
@[simp] theorem yD (a:Str)(b:Int):bE (.str a) (.int b)=false:=by simp only[bE]
@[simp] theorem p7 (a:Str)(b:Str):bE (.str a) (.str b)=decide (a=b):=by simp only[bE]
@[simp] theorem LC (a:Str)(b:List D):bE (.str a) (.tup b)=false:=by simp only[bE]
@[simp] theorem LD (a:Str)(b:List D):bE (.str a) (.lst b)=false:=by simp only[bE]
@[simp] theorem LF (a:List D):bE (.tup a) .non=false:=by simp only[bE]
@[simp] theorem NM (a:List D)(b:Bool):bE (.tup a) (.bl b)=false:=by simp only[bE]
@[simp] theorem LG (a:List D)(b:Int):bE (.tup a) (.int b)=false:=by simp only[bE]
@[simp] theorem LH (a:List D)(b:Str):bE (.tup a) (.str b)=false:=by simp only[bE]
@[simp] theorem LI (a:List D)(b:List D):bE (.tup a) (.tup b)=dh a b:=by simp only[bE]
@[simp] theorem LJ (a:List D)(b:List D):bE (.tup a) (.lst b)=false:=by simp only[bE]
@[simp] theorem LK (a:List D):bE (.lst a) .non=false:=by simp only[bE]
@[simp] theorem NN (a:List D)(b:Bool):bE (.lst a) (.bl b)=false:=by simp only[bE]
@[simp] theorem LL (a:List D)(b:Int):bE (.lst a) (.int b)=false:=by simp only[bE]
@[simp] theorem LM (a:List D)(b:Str):bE (.lst a) (.str b)=false:=by simp only[bE]
@[simp] theorem LN (a:List D)(b:List D):bE (.lst a) (.tup b)=false:=by simp only[bE]
@[simp] theorem LO (a:List D)(b:List D):bE (.lst a) (.lst b)=dh a b:=by simp only[bE]
@[simp] theorem QY:dh [] []=true:=by rw[dh]
@[simp] theorem Py (x y:D)(xs ys:List D):dh (x::xs) (y::ys)=(bE x y && dh xs ys):=by rw[dh]
@[simp] theorem SX (y:D)(ys:List D):dh [] (y::ys)=false:=by simp only[dh]
@[simp] theorem SY (x:D)(xs:List D):dh (x::xs) []=false:=by simp only[dh]
noncomputable def aq:Nat->D->Bool
 |_,.non=>true
 |_,.bl _=>true
 |_,.int _=>true
 |_,.str _=>true
 |_,.ty _=>false
 |_,.dk _ _=>false
 |_,.dt _ _=>false
 |0,.tup _=>false
 |0,.lst _=>false
 |n+1,.tup ds=>ds.all (aq n)
 |n+1,.lst ds=>ds.all (aq n)
@[simp] theorem NO (n:Nat):aq n .non=true:=by cases n<;>simp only[aq]
@[simp] theorem Pz (n:Nat)(a:Bool):aq n (.bl a)=true:=by cases n<;>simp only[aq]
@[simp] theorem NP (n:Nat)(a:Int):aq n (.int a)=true:=by cases n<;>simp only[aq]
@[simp] theorem NQ (n:Nat)(a:Str):aq n (.str a)=true:=by cases n<;>simp only[aq]
@[simp] theorem P0 (n:Nat)(ks:List cE)(vs:List D):aq n (.dk ks vs)=false:=by cases n<;>simp only[aq]
@[simp] theorem P1 (n:Nat)(ks:List (List cE))(vs:List D):aq n (.dt ks vs)=false:=by cases n<;>simp only[aq]
@[simp] theorem NR (n:Nat)(ds:List D):aq (n+1) (.tup ds)=ds.all (aq n):=by simp only[aq]
@[simp] theorem NS (n:Nat)(ds:List D):aq (n+1) (.lst ds)=ds.all (aq n):=by simp only[aq]
theorem yE:∀ {xs ys:List D},dh xs ys=true->xs.length=ys.length
 |[],[],_=>rfl
 |x::xs,y::ys,h=>by
  simp only[dh,vC]at h;rw[vE,vE,yE h.2]
 |[],_::_,h=>by simp[dh]at h
 |_::_,[],h=>by simp[dh]at h
theorem wQ (h:xs.length≠ys.length):dh xs ys=false:=by
 cases e:dh xs ys with
 |false=>rfl
 |true=>exact absurd (yE e) h
theorem jZ (f:Nat->Bool):∀ {xs ys:List D},xs.length=ys.length->(∀(j:Nat) x y,xs[j]? = some x->ys[j]? = some y->f j=bE x y)->(List.range xs.length).all f=dh xs ys
 |[],[],_,_=>by simp[dh]
 |x::xs,y::ys,hl,h=>by
  have e:=jZ (λj=>f (j+1)) (xs:=xs) (ys:=ys) (by simpa using hl) λj a b h1 h2=>h (j+1) a b (by simpa using h1) (by simpa using h2);rw[vE,List.range_succ_eq_map,List.all_cons,List.all_map,dh,←h 0 x y rfl rfl,←e];rfl
 |[],_::_,hl,_=>by simp at hl
 |_::_,[],hl,_=>by simp at hl
section
variable {X:Cx}{af:List (Addr×Obj)}{U:St}{H:Hp}{s:Shared}
theorem Cb (I:Inv X af U H s)(h1:jB X.K H a vs)(h2:jl X.K H a ws):False:=by
 obtain⟨its,_,⟨o,e,c,_⟩,_⟩:=I.tuple h1;obtain⟨its',_,⟨o',n',e',c',_⟩,_⟩:=I.list h2;rw[e]at e';cases e';rw[c]at c';injection c' with z;exact absurd z (by decide)
theorem Cc (I:Inv X af U H s)(e:s.heap.get? a=some o)(d:o.data=.seq its n):(∀aS ob,H a≠some (.dK aS ob))/\∀aS,H a≠some (.dT aS):=by
 refine⟨λaS ob h=>?_,λaS h=>?_⟩
 ·obtain⟨_,_,_,_,_,o',es,ep,e',_,d',_⟩:=(show bZ X.prog X.w H s.heap a (.dK aS ob)from I.hok a _ h);rw[e]at e';cases e';rw[d]at d';cases d'
 ·obtain⟨_,_,_,_,o',es,ep,e',_,d',_⟩:=(show bZ X.prog X.w H s.heap a (.dT aS)from I.hok a _ h);rw[e]at e';cases e';rw[d]at d';cases d'
theorem yF (I:Inv X af U H s)(h1:jB X.K H a vs):(∀aS ob,H a≠some (.dK aS ob))/\∀aS,H a≠some (.dT aS):=by
 obtain⟨its,_,⟨o,e,c,n,d⟩,_⟩:=I.tuple h1;exact Cc I e d
theorem yG (I:Inv X af U H s)(h1:jl X.K H a vs):(∀aS ob,H a≠some (.dK aS ob))/\∀aS,H a≠some (.dT aS):=by
 obtain⟨its,_,p,_⟩:=I.list h1;obtain⟨o,e,c,n,d⟩:=p.isList;exact Cc I e d
theorem Ce (I:Inv X af U H s):∀(n:Nat){v:V}{d d':D},Is X.K H v d->Is X.K H v d'->aq n d=true->bE d d'=true:=by
 have lists:∀ {p:D->Bool}(ih:∀ {v:V}{d d':D},Is X.K H v d->Is X.K H v d'->p d=true->bE d d'=true) {vs:List V}{ds Ld:List D},IsL X.K H vs ds->IsL X.K H vs Ld->ds.all p=true->dh ds Ld=true:=by
  intro p ih vs;induction vs with
  |nil=>intro ds Ld h h' _;cases h;cases h';simp[dh]
  |cons v vs Zr=>
   intro ds Ld h h' hp;cases h with
   |cons h1 h2=>
    cases h' with
    |cons h3 h4=>
     rw[List.all_cons,vC]at hp;rw[dh,ih h1 h3 hp.1,Zr h2 h4 hp.2];rfl
 intro n;induction n with
 |zero=>
  intro v d d' h h' hp;cases h<;>cases h'<;>first|(simp[aq]at hp;done)|simp[bE]
 |succ n ih=>
  intro v d d' h h' hp;cases h with
  |tup h1 h2=>
   cases h' with
   |tup h3 h4=>
    rw[I.tuple_inj h3 h1]at h4;rw[bE];exact lists ih h2 h4 (by simpa [aq]using hp)
   |lst h3 h4=>exact(Cb I h1 h3).elim
   |dk h3 _ _=>exact((yF I h1).1 _ _ h3).elim
   |dt h3 _ _=>exact((yF I h1).2 _ h3).elim
  |lst h1 h2=>
   cases h' with
   |lst h3 h4=>
    rw[I.list_inj h3 h1]at h4;rw[bE];exact lists ih h2 h4 (by simpa [aq]using hp)
   |tup h3 h4=>exact(Cb I h3 h1).elim
   |dk h3 _ _=>exact((yG I h1).1 _ _ h3).elim
   |dt h3 _ _=>exact((yG I h1).2 _ h3).elim
  |ty=>simp[aq]at hp
  |dk=>simp[aq]at hp
  |dt=>simp[aq]at hp
  |_=>cases h'<;>simp[bE]
theorem LP {α:Type}{p:α->Bool}{l:List α}{j:Nat}{x:α}(h:l.all p=true)(e:l[j]? = some x):p x=true:=uR h x (vL e)
theorem yH {A:Around}{p:D->Bool}(ih:∀ {v1 v2:V}{d1 d2:D}{u1 u2:Value},p d1=true->p d2=true->Is X.K H v1 d1->Is X.K H v2 d2->bf v1 u1->bf v2 u2->SeqAt.EqAt A s u1 u2 (bE d1 d2))
  {vs ws:List V}{ds es:List D}{its hW:List Value}(i1:IsL X.K H vs ds) (i2:IsL X.K H ws es) (r1:bp vs its) (r2:bp ws hW) (p1:ds.all p=true) (p2:es.all p=true):
  ∀j (h1:j<its.toArray.size) (h2:j<hW.toArray.size),SeqAt.EqAt A s its.toArray[j] hW.toArray[j] (bE (ds.getD j .non) (es.getD j .non)):=by
 intro j h1 h2;rw[vH]at h1 h2;have l1:=r1.length;have l2:=r2.length;have l3:=i1.length;have l4:=i2.length;have hv:j<vs.length:=by omega
 have hw:j<ws.length:=by omega
 have hd:j<ds.length:=by omega
 have he:j<es.length:=by omega
 obtain⟨u,e1,q1⟩:=r1.get (i:=j) (x:=vs[j]) (by simp[hv]);obtain⟨u',e2,q2⟩:=r2.get (i:=j) (x:=ws[j]) (by simp[hw]);obtain⟨v,e3,q3⟩:=i1.get (i:=j) (d:=ds[j]) (by simp[hd]);obtain⟨w,e4,q4⟩:=i2.get (i:=j) (d:=es[j]) (by simp[he]);have a1:its.toArray[j]=u:=by have z:=(vV e1).2;simpa using z
 have a2:hW.toArray[j]=u':=by have z:=(vV e2).2;simpa using z
 have a3:vs[j]=v:=by simpa [hv]using e3
 have a4:ws[j]=w:=by simpa [hw]using e4
 have a5:ds.getD j .non=ds[j]:=by simp[List.getD,hd]
 have a6:es.getD j .non=es[j]:=by simp[List.getD,he]
 rw[a1,a2,a5,a6];exact ih (LP p1 (j:=j) (by simp[hd])) (LP p2 (j:=j) (by simp[he])) (a3 ▸ q3) (a4 ▸ q4) q1 q2
theorem wR {xs ys:List D}(j:Nat)(x y:D)(h1:xs[j]? = some x)(h2:ys[j]? = some y):bE (xs.getD j .non) (ys.getD j .non)=bE x y:=by
 simp[List.getD,h1,h2]
abbrev Wv (A:Around)(s:Shared)(u1 u2:Value)(b:Bool):Prop:=SeqAt.RcAt A s u1 u2 b/\SeqAt.EqAt A s u1 u2 b/\SeqAt.RcNeAt A s u1 u2 (!b)
theorem c7 (p1:aq 0 d1=true)(p2:aq 0 d2=true)(i1:Is X.K H v1 d1)(i2:Is X.K H v2 d2)(r1:bf v1 u1)(r2:bf v2 u2):Wv A s u1 u2 (bE d1 d2):=by
 cases i1 with
 |non=>
  cases r1
  cases i2 with
  |non=>
   cases r2
   rw[y6];exact⟨SeqAt.RcAt.none_none,SeqAt.EqAt.same _,SeqAt.RcNeAt.none_none⟩
  |bl b=>
   cases r2
   rw[AX];exact⟨SeqAt.RcAt.none_bool _,SeqAt.EqAt.none_bool _,SeqAt.RcNeAt.none_bool _⟩
  |int b=>
   obtain⟨t',rfl⟩:=r2;rw[y7];exact⟨SeqAt.RcAt.none_int _ _,SeqAt.EqAt.none_int _ _,SeqAt.RcNeAt.none_int _ _⟩
  |str b=>
   obtain⟨t',rfl⟩:=r2;rw[y8];exact⟨SeqAt.RcAt.none_str _ _,SeqAt.EqAt.none_str _ _,SeqAt.RcNeAt.none_str _ _⟩
  |ty=>simp[aq]at p2
  |dk=>simp[aq]at p2
  |dt=>simp[aq]at p2
  |tup=>simp[aq]at p2
  |lst=>simp[aq]at p2
 |bl a=>
  cases r1
  cases i2 with
  |non=>
   cases r2
   rw[AY];exact⟨SeqAt.RcAt.bool_none _,SeqAt.EqAt.bool_none _,SeqAt.RcNeAt.bool_none _⟩
  |bl b=>
   cases r2
   rw[Ea];exact⟨SeqAt.RcAt.bool_bool _ _,SeqAt.EqAt.bool_bool _ _,SeqAt.RcNeAt.bool_bool _ _⟩
  |int b=>
   obtain⟨t',rfl⟩:=r2;rw[AZ,←Bool.beq_eq_decide_eq];exact⟨SeqAt.RcAt.bool_int _ _ _,SeqAt.EqAt.bool_int _ _ _,SeqAt.RcNeAt.bool_int _ _ _⟩
  |str b=>
   obtain⟨t',rfl⟩:=r2;rw[Ba];exact⟨SeqAt.RcAt.bool_str _ _ _,SeqAt.EqAt.bool_str _ _ _,SeqAt.RcNeAt.bool_str _ _ _⟩
  |ty=>simp[aq]at p2
  |dk=>simp[aq]at p2
  |dt=>simp[aq]at p2
  |tup=>simp[aq]at p2
  |lst=>simp[aq]at p2
 |int a=>
  obtain⟨t,rfl⟩:=r1;cases i2 with
  |non=>
   cases r2
   rw[y9];exact⟨SeqAt.RcAt.int_none _ _,SeqAt.EqAt.int_none _ _,SeqAt.RcNeAt.int_none _ _⟩
  |bl b=>
   cases r2
   rw[Bb,←Bool.beq_eq_decide_eq];exact⟨SeqAt.RcAt.int_bool _ _ _,SeqAt.EqAt.int_bool _ _ _,SeqAt.RcNeAt.int_bool _ _ _⟩
  |int b=>
   obtain⟨t',rfl⟩:=r2;rw[yA,←Bool.beq_eq_decide_eq];exact⟨SeqAt.RcAt.int_int _ _ _ _,SeqAt.EqAt.int_int _ _ _ _,SeqAt.RcNeAt.int_int _ _ _ _⟩
  |str b=>
   obtain⟨t',rfl⟩:=r2;rw[yB];exact⟨SeqAt.RcAt.int_str _ _ _ _,SeqAt.EqAt.int_str _ _ _ _,SeqAt.RcNeAt.int_str _ _ _ _⟩
  |ty=>simp[aq]at p2
  |dk=>simp[aq]at p2
  |dt=>simp[aq]at p2
  |tup=>simp[aq]at p2
  |lst=>simp[aq]at p2
 |str a=>
  obtain⟨t,rfl⟩:=r1;cases i2 with
  |non=>
   cases r2
   rw[yC];exact⟨SeqAt.RcAt.str_none _ _,SeqAt.EqAt.str_none _ _,SeqAt.RcNeAt.str_none _ _⟩
  |bl b=>
   cases r2
   rw[Bc];exact⟨SeqAt.RcAt.str_bool _ _ _,SeqAt.EqAt.str_bool _ _ _,SeqAt.RcNeAt.str_bool _ _ _⟩
  |int b=>
   obtain⟨t',rfl⟩:=r2;rw[yD];exact⟨SeqAt.RcAt.str_int _ _ _ _,SeqAt.EqAt.str_int _ _ _ _,SeqAt.RcNeAt.str_int _ _ _ _⟩
  |str b=>
   obtain⟨t',rfl⟩:=r2;rw[p7,←Bool.beq_eq_decide_eq];exact⟨SeqAt.RcAt.str_str _ _ _ _,SeqAt.EqAt.str_str _ _ _ _,SeqAt.RcNeAt.str_str _ _ _ _⟩
  |ty=>simp[aq]at p2
  |dk=>simp[aq]at p2
  |dt=>simp[aq]at p2
  |tup=>simp[aq]at p2
  |lst=>simp[aq]at p2
 |ty=>simp[aq]at p1
 |dk=>simp[aq]at p1
 |dt=>simp[aq]at p1
 |tup=>simp[aq]at p1
 |lst=>simp[aq]at p1
theorem LQ (I:Inv X af U H s):∀(n:Nat){A:Around}{v1 v2:V}{d1 d2:D}{u1 u2:Value},A.units+n<cLine->aq n d1=true->aq n d2=true->Is X.K H v1 d1->Is X.K H v2 d2->bf v1 u1->bf v2 u2->Wv A s u1 u2 (bE d1 d2):=by
 intro n;induction n with
 |zero=>exact λ_ p1 p2 i1 i2 r1 r2=>c7 p1 p2 i1 i2 r1 r2
 |succ n ih=>
  intro A v1 v2 d1 d2 u1 u2 hu p1 p2 i1 i2 r1 r2;have fR:A.units<cLine:=by omega
  have RO:∀ {v1 v2:V}{d1 d2:D}{u1 u2:Value},aq n d1=true->aq n d2=true->Is X.K H v1 d1->Is X.K H v2 d2->bf v1 u1->bf v2 u2->SeqAt.EqAt A.in1 s u1 u2 (bE d1 d2):=λp1 p2 i1 i2 r1 r2=>(ih (A:=A.in1) (by show A.units+1+n<cLine;omega) p1 p2 i1 i2 r1 r2).2.1;cases i1 with
  |tup h1 k1=>
   cases r1
   obtain⟨its,OS,t1,z1⟩:=I.tuple h1;have kO:s.heap.IsTuple _ its.toArray:=t1;have q1:=p1;simp only[aq]at q1;cases i2 with
   |tup h2 k2=>
    cases r2
    obtain⟨hW,A9,t2,z2⟩:=I.tuple h2;have p0:s.heap.IsTuple _ hW.toArray:=t2;have q2:=p2;simp only[aq]at q2;rename_i a1 vs ds a2 ws es;have he:=yH (A:=A.in1) (p:=aq n) RO k1 k2 OS A9 q1 q2;have RY:((List.range (min its.toArray.size hW.toArray.size)).all (λj=>bE (ds.getD j .non) (es.getD j .non)) && its.toArray.size == hW.toArray.size)=bE (.tup ds) (.tup es):=by
     rw[bE,vH,vH,←OS.length,←A9.length,k1.length,k2.length];by_cases hl:ds.length=es.length
     ·rw[←hl,Nat.min_self,beq_self_eq_true,Bool.and_true];exact jZ _ hl λj x y e1 e2=>wR j x y e1 e2
     ·rw[wQ hl,beq_eq_false_iff_ne.mpr hl,Bool.and_false]
    have rc:=SeqAt.RcAt.tuples kO p0 fR he;have rn:=SeqAt.RcNeAt.tuples kO p0 fR he;rw[RY]at rc rn;refine⟨rc,?_,rn⟩;by_cases ha:a1=a2
    ·subst ha;rw[Ce I (n+1) (.tup h1 k1) (.tup h2 k2) p1];exact SeqAt.EqAt.same _
    ·exact SeqAt.EqAt.of_refs ha rc
   |lst h2 k2=>
    cases r2
    obtain⟨hW,A9,t2,z2⟩:=I.list h2;rw[show bE (.tup _) (.lst _)=false by simp only[bE]];exact⟨SeqAt.RcAt.tuple_list kO t2.isList fR,SeqAt.EqAt.tuple_list kO t2.isList fR,SeqAt.RcNeAt.tuple_list kO t2.isList fR⟩
   |ty=>simp[aq]at p2
   |dk=>simp[aq]at p2
   |dt=>simp[aq]at p2
   |non=>cases r2;simp only[bE];exact⟨SeqAt.RcAt.tuple_none kO fR,SeqAt.EqAt.tuple_none kO fR,SeqAt.RcNeAt.tuple_none kO fR⟩
   |bl=>cases r2;simp only[bE];exact⟨SeqAt.RcAt.tuple_bool _ kO fR,SeqAt.EqAt.tuple_bool _ kO fR,SeqAt.RcNeAt.tuple_bool _ kO fR⟩
   |int=>obtain⟨t,rfl⟩:=r2;simp only[bE];exact⟨SeqAt.RcAt.tuple_int _ _ kO fR,SeqAt.EqAt.tuple_int _ _ kO fR,SeqAt.RcNeAt.tuple_int _ _ kO fR⟩
   |str=>obtain⟨t,rfl⟩:=r2;simp only[bE];exact⟨SeqAt.RcAt.tuple_str _ _ kO fR,SeqAt.EqAt.tuple_str _ _ kO fR,SeqAt.RcNeAt.tuple_str _ _ kO fR⟩
  |lst h1 k1=>
   cases r1
   obtain⟨its,OS,t1,z1⟩:=I.list h1;have kO:s.heap.IsList _ its.toArray:=t1.isList;have q1:=p1;simp only[aq]at q1;cases i2 with
   |lst h2 k2=>
    cases r2
    obtain⟨hW,A9,t2,z2⟩:=I.list h2;have p0:s.heap.IsList _ hW.toArray:=t2.isList;have q2:=p2;simp only[aq]at q2;rename_i a1 vs ds a2 ws es;have he:=yH (A:=A.in1) (p:=aq n) RO k1 k2 OS A9 q1 q2;have both:SeqAt.RcAt A s (.ref a1) (.ref a2) (bE (.lst ds) (.lst es))/\SeqAt.RcNeAt A s (.ref a1) (.ref a2) (!bE (.lst ds) (.lst es)):=by
     by_cases hl:ds.length=es.length
     ·have hs:its.toArray.size=hW.toArray.size:=by rw[vH,vH,←OS.length,←A9.length,k1.length,k2.length];exact hl
      have RY:(List.range its.toArray.size).all (λj=>bE (ds.getD j .non) (es.getD j .non))=bE (.lst ds) (.lst es):=by
       rw[bE,vH,←OS.length,k1.length];exact jZ _ hl λj x y e1 e2=>wR j x y e1 e2
      have rc:=SeqAt.RcAt.lists kO p0 hs fR he;have rn:=SeqAt.RcNeAt.lists kO p0 hs fR he;rw[RY]at rc rn;exact⟨rc,rn⟩
     ·have hs:(its.toArray.size != hW.toArray.size)=true:=by rw[vH,vH,←OS.length,←A9.length,k1.length,k2.length];exact bne_iff_ne.mpr hl
      rw[bE,wQ hl];exact⟨SeqAt.RcAt.lists_lengths kO p0 hs fR,SeqAt.RcNeAt.lists_lengths kO p0 hs fR⟩
    refine⟨both.1,?_,both.2⟩;by_cases ha:a1=a2
    ·subst ha;rw[Ce I (n+1) (.lst h1 k1) (.lst h2 k2) p1];exact SeqAt.EqAt.same _
    ·exact SeqAt.EqAt.of_refs ha both.1
   |tup h2 k2=>
    cases r2
    obtain⟨hW,A9,t2,z2⟩:=I.tuple h2;have p0:s.heap.IsTuple _ hW.toArray:=t2;rw[show bE (.lst _) (.tup _)=false by simp only[bE]];exact⟨SeqAt.RcAt.list_tuple kO p0 fR,SeqAt.EqAt.list_tuple kO p0 fR,SeqAt.RcNeAt.list_tuple kO p0 fR⟩
   |ty=>simp[aq]at p2
   |dk=>simp[aq]at p2
   |dt=>simp[aq]at p2
   |non=>cases r2;simp only[bE];exact⟨SeqAt.RcAt.list_none kO fR,SeqAt.EqAt.list_none kO fR,SeqAt.RcNeAt.list_none kO fR⟩
   |bl=>cases r2;simp only[bE];exact⟨SeqAt.RcAt.list_bool _ kO fR,SeqAt.EqAt.list_bool _ kO fR,SeqAt.RcNeAt.list_bool _ kO fR⟩
   |int=>obtain⟨t,rfl⟩:=r2;simp only[bE];exact⟨SeqAt.RcAt.list_int _ _ kO fR,SeqAt.EqAt.list_int _ _ kO fR,SeqAt.RcNeAt.list_int _ _ kO fR⟩
   |str=>obtain⟨t,rfl⟩:=r2;simp only[bE];exact⟨SeqAt.RcAt.list_str _ _ kO fR,SeqAt.EqAt.list_str _ _ kO fR,SeqAt.RcNeAt.list_str _ _ kO fR⟩
  |ty=>simp[aq]at p1
  |dk=>simp[aq]at p1
  |dt=>simp[aq]at p1
  |non=>
   cases i2 with
   |tup h2 k2=>cases r1;cases r2;obtain⟨hW,A9,t2,z2⟩:=I.tuple h2;have p0:s.heap.IsTuple _ hW.toArray:=t2;simp only[bE];exact⟨SeqAt.RcAt.none_tuple p0 fR,SeqAt.EqAt.none_tuple p0 fR,SeqAt.RcNeAt.none_tuple p0 fR⟩
   |lst h2 k2=>cases r1;cases r2;obtain⟨hW,A9,t2,z2⟩:=I.list h2;simp only[bE];exact⟨SeqAt.RcAt.none_list t2.isList fR,SeqAt.EqAt.none_list t2.isList fR,SeqAt.RcNeAt.none_list t2.isList fR⟩
   |ty=>simp[aq]at p2
   |dk=>simp[aq]at p2
   |dt=>simp[aq]at p2
   |non=>exact c7 (X:=X) (H:=H) (by simp[aq]) (by simp[aq]) .non .non r1 r2
   |bl x=>exact c7 (X:=X) (H:=H) (by simp[aq]) (by simp[aq]) .non (.bl x) r1 r2
   |int x=>exact c7 (X:=X) (H:=H) (by simp[aq]) (by simp[aq]) .non (.int x) r1 r2
   |str x=>exact c7 (X:=X) (H:=H) (by simp[aq]) (by simp[aq]) .non (.str x) r1 r2
  |bl y=>
   cases i2 with
   |tup h2 k2=>cases r1;cases r2;obtain⟨hW,A9,t2,z2⟩:=I.tuple h2;have p0:s.heap.IsTuple _ hW.toArray:=t2;simp only[bE];exact⟨SeqAt.RcAt.bool_tuple _ p0 fR,SeqAt.EqAt.bool_tuple _ p0 fR,SeqAt.RcNeAt.bool_tuple _ p0 fR⟩
   |lst h2 k2=>cases r1;cases r2;obtain⟨hW,A9,t2,z2⟩:=I.list h2;simp only[bE];exact⟨SeqAt.RcAt.bool_list _ t2.isList fR,SeqAt.EqAt.bool_list _ t2.isList fR,SeqAt.RcNeAt.bool_list _ t2.isList fR⟩
   |ty=>simp[aq]at p2
   |dk=>simp[aq]at p2
   |dt=>simp[aq]at p2
   |non=>exact c7 (X:=X) (H:=H) (by simp[aq]) (by simp[aq]) (.bl y) .non r1 r2
   |bl x=>exact c7 (X:=X) (H:=H) (by simp[aq]) (by simp[aq]) (.bl y) (.bl x) r1 r2
   |int x=>exact c7 (X:=X) (H:=H) (by simp[aq]) (by simp[aq]) (.bl y) (.int x) r1 r2
   |str x=>exact c7 (X:=X) (H:=H) (by simp[aq]) (by simp[aq]) (.bl y) (.str x) r1 r2
  |int y=>
   cases i2 with
   |tup h2 k2=>obtain⟨t,rfl⟩:=r1;cases r2;obtain⟨hW,A9,t2,z2⟩:=I.tuple h2;have p0:s.heap.IsTuple _ hW.toArray:=t2;simp only[bE];exact⟨SeqAt.RcAt.int_tuple _ _ p0 fR,SeqAt.EqAt.int_tuple _ _ p0 fR,SeqAt.RcNeAt.int_tuple _ _ p0 fR⟩
   |lst h2 k2=>obtain⟨t,rfl⟩:=r1;cases r2;obtain⟨hW,A9,t2,z2⟩:=I.list h2;simp only[bE];exact⟨SeqAt.RcAt.int_list _ _ t2.isList fR,SeqAt.EqAt.int_list _ _ t2.isList fR,SeqAt.RcNeAt.int_list _ _ t2.isList fR⟩
   |ty=>simp[aq]at p2
   |dk=>simp[aq]at p2
   |dt=>simp[aq]at p2
   |non=>exact c7 (X:=X) (H:=H) (by simp[aq]) (by simp[aq]) (.int y) .non r1 r2
   |bl x=>exact c7 (X:=X) (H:=H) (by simp[aq]) (by simp[aq]) (.int y) (.bl x) r1 r2
   |int x=>exact c7 (X:=X) (H:=H) (by simp[aq]) (by simp[aq]) (.int y) (.int x) r1 r2
   |str x=>exact c7 (X:=X) (H:=H) (by simp[aq]) (by simp[aq]) (.int y) (.str x) r1 r2
  |str y=>
   cases i2 with
   |tup h2 k2=>obtain⟨t,rfl⟩:=r1;cases r2;obtain⟨hW,A9,t2,z2⟩:=I.tuple h2;have p0:s.heap.IsTuple _ hW.toArray:=t2;simp only[bE];exact⟨SeqAt.RcAt.str_tuple _ _ p0 fR,SeqAt.EqAt.str_tuple _ _ p0 fR,SeqAt.RcNeAt.str_tuple _ _ p0 fR⟩
   |lst h2 k2=>obtain⟨t,rfl⟩:=r1;cases r2;obtain⟨hW,A9,t2,z2⟩:=I.list h2;simp only[bE];exact⟨SeqAt.RcAt.str_list _ _ t2.isList fR,SeqAt.EqAt.str_list _ _ t2.isList fR,SeqAt.RcNeAt.str_list _ _ t2.isList fR⟩
   |ty=>simp[aq]at p2
   |dk=>simp[aq]at p2
   |dt=>simp[aq]at p2
   |non=>exact c7 (X:=X) (H:=H) (by simp[aq]) (by simp[aq]) (.str y) .non r1 r2
   |bl x=>exact c7 (X:=X) (H:=H) (by simp[aq]) (by simp[aq]) (.str y) (.bl x) r1 r2
   |int x=>exact c7 (X:=X) (H:=H) (by simp[aq]) (by simp[aq]) (.str y) (.int x) r1 r2
   |str x=>exact c7 (X:=X) (H:=H) (by simp[aq]) (by simp[aq]) (.str y) (.str x) r1 r2
@[simp] def cC:D->D->OB:=λx y=>if aq 40 x=true/\aq 40 y=true then some (.bl (bE x y),false)else none
@[simp] def tG:D->D->OB:=λx y=>if aq 40 x=true/\aq 40 y=true then some (.bl (!bE x y),false)else none
theorem cq (hu:X.A.units+40<cLine):dQ X (compareOp .Eq) (rD X.K cC):=by
 intro af s U H x y v u Q I rx ry q;obtain⟨B,dx,dy,d,b,sB,ix,iy,e,q⟩:=q;unfold cC at e;split at e
 ·rename_i hp;cases e
  exact(LQ I 40 hu hp.1 hp.2 (ix.mono sB) (iy.mono sB) rx ry).1 _ _ _ _ ⟨.bl _,H,I,rfl,q.one sB (.bl _)⟩
 ·cases e
theorem Eb (hu:X.A.units+40<cLine):dQ X (compareOp .NotEq) (rD X.K tG):=by
 intro af s U H x y v u Q I rx ry q;obtain⟨B,dx,dy,d,b,sB,ix,iy,e,q⟩:=q;unfold tG at e;split at e
 ·rename_i hp;cases e
  exact(LQ I 40 hu hp.1 hp.2 (ix.mono sB) (iy.mono sB) rx ry).2.2 _ _ _ _ ⟨.bl _,H,I,rfl,q.one sB (.bl _)⟩
 ·cases e
end
section
variable {X:Cx}{a b e:Expr}{pos:Pos}
theorem Cf {K:Frag}{H:Hp}{vs:List V}{ds:List D}{i:Int}{d:D}(h:IsL K H vs ds)(e:p6 ds i=some d):∃v,p6 vs i=some v/\Is K H v d:=by
 unfold p6 at e ⊢;rw[h.length];cases q:DP ds.length i with
 |none=>rw[q]at e;cases e
 |some j=>rw[q]at e;exact h.get e
@[simp] def bA:D->D->OB
 |.lst ds,.int i=>(p6 ds i).map λd=>(d,false)
 |.tup ds,.int i=>(p6 ds i).map λd=>(d,false)
 |.str z,.int i=>if z.length<=sizeLine then (p6 z.cps.toList i).map λc=>(.str ⟨#[c]⟩,false)else none
 |_,_=>none
theorem Us:Iu X (rD X.K bA):=by
 intro value slice af s U H x y v u Q I rx ry q hs;obtain⟨B,dx,dy,d,b,sB,ix,iy,e,q⟩:=q;cases ix<;>try (cases e;done)
 all_goals (cases iy<;>try (cases e;done))
 ·simp only[bA]at e;split at e
  ·rename_i hz;obtain⟨c,e1,e2⟩:=oY e;cases e2
   exact AL value slice af s U H _ _ v u Q I rx ry ⟨_,_,c,rfl,rfl,hz,e1,q.one sB (.str _)⟩ hs
  ·cases e
 ·rename_i h hl i;simp only[bA]at e;obtain⟨c,e1,e2⟩:=oY e;cases e2
  obtain⟨w,h1,h2⟩:=Cf hl e1;exact wE value slice af s U H _ _ v u Q I rx ry ⟨_,_,_,w,rfl,rfl,b7 sB h,h1,q.one sB h2⟩ hs
 ·rename_i h hl i;simp only[bA]at e;obtain⟨c,e1,e2⟩:=oY e;cases e2
  obtain⟨w,h1,h2⟩:=Cf hl e1;exact Jc value slice af s U H _ _ v u Q I rx ry ⟨_,_,_,w,rfl,rfl,sB.seq h,h1,q.one sB h2⟩ hs
theorem aL (ha:JE X a fa)(hb:JE X b fb)(hs:wD b:=by intro _ _;rfl):JE X (.Subscript a b pos) (f2 bA fa fb):=PE.to (Ly Us ha hb hs) λ_ _ _ h=>Jh h
abbrev FO:=Env->Option (Option Int)
def Yu (K:Frag)(f:FO):TO:=λU H Q=>∃(B:Hp)(Y:Env)(o:Option Int),bg B H/\gf K B U Y/\f Y=some o/\∀H',bg H H'->Q o H'
abbrev JO (X:Cx)(e:Option Expr)(f:FO):Prop:=PO X e (Yu X.K f)
@[simp] noncomputable def mn:FO:=λ_=>some none
@[simp] noncomputable def kX (f:FE):FO:=λY=>match f Y with|some (.int i,_)=>some (some i)|_=>none
theorem wS:JO X none mn:=λaf s U H Q I h=>IX af s U H Q I (by
 obtain⟨B,Y,o,sB,r,e,q⟩:=h;cases e
 exact q H (.refl H))
theorem wT (h:JE X e f):JO X (some e) (kX f):=λaf s U H Q I q=>IY h af s U H Q I (by
 obtain⟨B,Y,o,sB,r,e,q⟩:=q;unfold kX at e;split at e
 ·rename_i i b' ef;cases e
  refine⟨B,Y,_,_,sB,r,ef,λv H1 N1 x1 i1 _=>?_⟩;cases i1
  exact⟨i,rfl,q H1 x1.hh⟩
 ·cases e)
def oK (ds:List D)(lo hi:Option Int):List D:=(ds.drop (HT.dZ ds.length 0 lo)).take (HT.dZ ds.length ds.length hi - HT.dZ ds.length 0 lo)
theorem wU {K:Frag}{H:Hp}{vs:List V}{ds:List D}{lo hi:Option Int}(h:IsL K H vs ds):IsL K H (t8 vs lo hi) (oK ds lo hi):=by
 unfold t8 oK;rw[h.length];exact(h.drop _).take _
@[simp] def Yv (fa:FE)(fl fh:FO):FE:=λY=>(fa Y).bind λx=>(fl Y).bind λl=>(fh Y).bind λh=>match x.1 with
 |.lst ds=>some (.lst (oK ds l h),true)
 |.tup ds=>if HT.dZ ds.length 0 l=0/\HT.dZ ds.length ds.length h=ds.length then none else some (.tup (oK ds l h),false)
 |_=>none
theorem cm.to (h:cm X f r)(k:∀xs H Q,r' xs H Q->r xs H Q):cm X f r':=λaf s U H xs us Q I rs q=>h af s U H xs us Q I rs (k xs H Q q)
variable {es:List Expr}{x:Str}{p:Pos}{id T:String}
theorem bF (hc:cm X (.builtin id) (BY X.K f))(hm:X.mg x=none)(hv:bootBuiltins x=some (.builtin id))(ha:JA X (e::es) fa)(hg:Gl X x:=by rfl)(hn:x ≠ "__name__":=by decide)(tT:(x == ("__debug__" : Str))=false:=by decide)
  (he:starEach (e::es) X.env=(false,eval e X.env)::starEach es X.env:=by rfl) (nn:(backTo pos (starEach es X.env)).any (·.1)=false:=by rfl):JE X (.Call (.Name x p) (e::es) [] pos) (fA f fa):=PE.to (yp hc hg hm hv ha hn tT he nn) λ_ _ _ h=>Ji h
theorem gw (hc:cm X (.type T) (BY X.K f))(hm:X.mg x=none)(hv:bootBuiltins x=some (.type T))(ha:JA X (e::es) fa)(hg:Gl X x:=by rfl)(hn:x ≠ "__name__":=by decide)(tT:(x == ("__debug__" : Str))=false:=by decide)
  (he:starEach (e::es) X.env=(false,eval e X.env)::starEach es X.env:=by rfl) (nn:(backTo pos (starEach es X.env)).any (·.1)=false:=by rfl):JE X (.Call (.Name x p) (e::es) [] pos) (fA f fa):=PE.to (ue hc hg hm hv ha hn tT he nn) λ_ _ _ h=>Ji h
@[simp] noncomputable def fU:List D->OB
 |[.lst ds]=>some (.int ds.length,false)
 |[.tup ds]=>some (.int ds.length,false)
 |[.str z]=>if z.length<=sizeLine then some (.int z.length,false)else none
 |_=>none
theorem im:cm X (.builtin "len") (BY X.K fU):=by
 refine cm.to (cm.or wH wI) λxs H Q q=>?_;obtain⟨B,ds,d,b,sB,i,e,q⟩:=q;cases i with
 |nil=>simp[fU]at e
 |cons i1 i2=>
  cases i2 with
  |cons _ _=>cases i1<;>simp[fU]at e
  |nil=>
   cases i1<;>try (simp[fU]at e;done)
   ·simp only[fU]at e;split at e
    ·rename_i hz;cases e
     exact .inr ⟨_,rfl,hz,q.one sB (.int _)⟩
    ·cases e
   ·rename_i h hl;simp only[fU]at e;cases e
    refine .inl ⟨_,_,rfl,.inr (b7 sB h),?_⟩;rw[hl.length];exact q.one sB (.int _)
   ·rename_i h hl;simp only[fU]at e;cases e
    refine .inl ⟨_,_,rfl,.inl (sB.seq h),?_⟩;rw[hl.length];exact q.one sB (.int _)
theorem QZ (hm:X.mg x=none)(hv:bootBuiltins x=some (.type n))(hg:Gl X x:=by rfl)(hn:x ≠ "__name__":=by decide)(hd:(x == ("__debug__" : Str))=false:=by decide):JE X (.Name x pos) (fC (.ty n)) :=
 PE.to (IH hg hm hv (v:=.ty n) rfl hn hd) λ_ _ _ h=>DY (λ_=>.ty n) h
end
theorem Ec (hr:fD k A):A.units+40<cLine:=by have:=hr.un;omega
section
variable {X:Cx}{a b e:Expr}{pos:Pos}{x:Str}{p:Pos}
theorem yI (h:∃u v,X.mg x=some u/\bf v u/\∀B,Is X.K B v d)(hg:Gl X x:=by rfl)(hd:(x == ("__debug__" : Str))=false:=by decide):JE X (.Name x pos) (fC d):=by
 obtain⟨u,v,hm,r,i⟩:=h;exact Jt hg hm r i hd
@[simp] noncomputable def Cg:D->D->OB
 |.int i,.int j=>some (.int (i+j),false)
 |.str i,.str j=>if i.length+j.length<=sizeLine then some (.str (i++j),false)else none
 |_,_=>none
theorem J5:dQ X (binaryOp .Add) (rD X.K Cg):=by
 refine jw (r:=rD X.K (Fe NF Jx)) (oJ QT NI) λx y H Q q=>?_;obtain⟨B,dx,dy,d,b,sB,ix,iy,e,q⟩:=q;refine⟨B,dx,dy,d,b,sB,ix,iy,?_,q⟩;cases dx<;>try (cases e;done)
 all_goals (cases dy<;>try (cases e;done))
 all_goals (simp[Cg]at e;simp[Fe,NF,Jx,y0,Px,e])
@[simp] def gL:D->D->OB:=NG
theorem di:dQ X (binaryOp .Mult) (rD X.K gL):=QU
@[simp] def Iw:D->D->OB:=Wu
theorem ut:dQ X (compareOp .Lt) (rD X.K Iw):=Uq
@[simp] noncomputable def nE:D->D->OB
 |.int i,.int j=>some (.bl (decide (i<=j)),false)
 |.str i,.str j=>some (.bl (!decide (j.cps.toList<i.cps.toList)),false)
 |_,_=>none
theorem kH:dQ X (compareOp .LtE) (rD X.K nE):=by
 refine jw (r:=rD X.K (Fe Uo SW)) (oJ Ur QW) λx y H Q q=>?_;obtain⟨B,dx,dy,d,b,sB,ix,iy,e,q⟩:=q;refine⟨B,dx,dy,d,b,sB,ix,iy,?_,q⟩;cases dx<;>try (cases e;done)
 all_goals (cases dy<;>try (cases e;done))
 all_goals (simp[nE]at e;simp[Fe,Uo,SW,y0,Px,e])
@[simp] noncomputable def yJ:D->OB
 |.int i=>some (.int (-i),false)
 |_=>none
theorem LR:Q3 X (unaryOp .USub) (Ul X.K yJ):=by
 intro af s U H x v Q I rx q;obtain⟨B,dx,d,b,sB,ix,e,q⟩:=q;cases ix<;>try (simp[yJ]at e;done)
 simp only[yJ]at e;cases e
 exact Nm af s U H _ v Q I rx ⟨_,rfl,q.one sB (.int _)⟩
@[simp] noncomputable def Ed:D->D->Option Bool
 |.non,.non=>some true
 |_,.non=>some false
 |.bl a,.bl b=>some (a == b)
 |_,.bl _=>some false
 |_,_=>none
@[simp] def A4:D->D->OB:=λx y=>(Ed x y).map λb=>(.bl b,false)
@[simp] def kY:D->D->OB:=λx y=>(Ed x y).map λb=>(.bl (!b),false)
theorem Ch {K:Frag}{B:Hp}{x y:V}{v u:Value}{dx dy:D}{k:Bool}(ix:Is K B x dx)(iy:Is K B y dy)(rx:bf x v)(ry:bf y u)(e:Ed dx dy=some k):plainIs v u=true/\(v == u)=k:=by
 cases iy<;>(first|(cases dx<;>simp[Ed]at e;done)|skip)
 all_goals (cases ix)
 all_goals (first|(obtain⟨t,rfl⟩:=rx)|cases rx)
 all_goals (cases ry)
 all_goals (simp only[Ed,Option.some.injEq]at e;subst e)
 all_goals (first|exact⟨rfl,rfl⟩|skip)
 all_goals (rename_i c d;cases c<;>cases d<;>exact⟨rfl,rfl⟩)
theorem yK:dQ X (compareOp .Is) (rD X.K A4):=by
 intro af s U H x y v u Q I rx ry q;obtain⟨B,dx,dy,d,b,sB,ix,iy,e,q⟩:=q;obtain⟨k,ek,e⟩:=oY e;cases e
 obtain⟨h1,h2⟩:=Ch ix iy rx ry ek;refine wpAny_is_plain h1 ⟨.bl k,H,I,by rw[h2];rfl,q.one sB (.bl _)⟩
theorem qu:dQ X (compareOp .IsNot) (rD X.K kY):=by
 intro af s U H x y v u Q I rx ry q;obtain⟨B,dx,dy,d,b,sB,ix,iy,e,q⟩:=q;obtain⟨k,ek,e⟩:=oY e;cases e
 obtain⟨h1,h2⟩:=Ch ix iy rx ry ek;refine wpAny_isNot_plain h1 ⟨.bl (!k),H,I,by rw[h2];rfl,q.one sB (.bl _)⟩
@[simp] noncomputable def gM:D->Bool
 |.non=>true|.bl _=>true|.int _=>true|.str _=>true
 |_=>false
noncomputable def Ix (x:D)(ds:List D):Bool:=ds.any λy=>bE y x
@[simp] noncomputable def gk:D->Option (List D)
 |.lst ds=>some ds
 |.tup ds=>some ds
 |_=>none
@[simp] def ya:D->D->OB:=λx y=>(gk y).bind λds=>if gM x=true/\ds.all gM=true then some (.bl (Ix x ds),false)else none
@[simp] def fK:D->D->OB:=λx y=>(gk y).bind λds=>if gM x=true/\ds.all gM=true then some (.bl (!Ix x ds),false)else none
theorem qN {K:Frag}{B:Hp}{v:V}{d:D}(i:Is K B v d)(h:gM d=true):ml v=true:=by
 cases i<;>first|rfl|(simp[gM]at h)
theorem Ut {K:Frag}{B:Hp}{v w:V}{d e:D}(i:Is K B v d)(j:Is K B w e)(h:gM d=true)(h':gM e=true):Iv v w=bE d e:=by
 cases i<;>(first|(simp[gM]at h;done)|skip)
 all_goals (cases j<;>(first|(simp[gM]at h';done)|skip))
 all_goals (simp only[Iv,bE,Bool.beq_eq_decide_eq])
theorem yL {K:Frag}{B:Hp}:∀ {vs:List V}{ds:List D},IsL K B vs ds->ds.all gM=true->vs.all ml=true
 |_,_,.nil,_=>rfl
 |_,_,.cons i t,h=>by
  rw[List.all_cons,vC]at h;rw[List.all_cons,qN i h.1,yL t h.2];rfl
theorem FX {K:Frag}{B:Hp}{v:V}{d:D}(j:Is K B v d)(hd:gM d=true):∀ {vs:List V}{ds:List D},IsL K B vs ds->ds.all gM=true->SU v vs=Ix d ds
 |_,_,.nil,_=>rfl
 |_,_,.cons i t,h=>by
  rw[List.all_cons,vC]at h;have e:=FX j hd t h.2;unfold SU Ix at *;rw[List.any_cons,List.any_cons,e,Ut i j h.1 hd]
theorem yM:dQ X (compareOp .In) (rD X.K ya):=by
 refine jw DQ λx y H Q q=>?_;obtain⟨B,dx,dy,d,b,sB,ix,iy,e,q⟩:=q;obtain⟨ds,es,e⟩:=oX e;split at e
 ·rename_i hf;cases e
  cases iy<;>simp only[gk]at es<;>try (cases es;done)
  ·rename_i h hl;cases es
   exact⟨_,_,rfl,.inr (b7 sB h),qN ix hf.1,yL hl hf.2,by rw[if_neg (by decide),FX ix hf.1 hl hf.2];exact q.one sB (.bl _)⟩
  ·rename_i h hl;cases es
   exact⟨_,_,rfl,.inl (sB.seq h),qN ix hf.1,yL hl hf.2,by rw[if_neg (by decide),FX ix hf.1 hl hf.2];exact q.one sB (.bl _)⟩
 ·cases e
theorem nF:dQ X (compareOp .NotIn) (rD X.K fK):=by
 refine jw wG λx y H Q q=>?_;obtain⟨B,dx,dy,d,b,sB,ix,iy,e,q⟩:=q;obtain⟨ds,es,e⟩:=oX e;split at e
 ·rename_i hf;cases e
  cases iy<;>simp only[gk]at es<;>try (cases es;done)
  ·rename_i h hl;cases es
   exact⟨_,_,rfl,.inr (b7 sB h),qN ix hf.1,yL hl hf.2,by rw[if_pos rfl,FX ix hf.1 hl hf.2];exact q.one sB (.bl _)⟩
  ·rename_i h hl;cases es
   exact⟨_,_,rfl,.inl (sB.seq h),qN ix hf.1,yL hl hf.2,by rw[if_pos rfl,FX ix hf.1 hl hf.2];exact q.one sB (.bl _)⟩
 ·cases e
theorem io:bootBuiltins "len" = some (.builtin "len"):=PySem.boot_len
theorem wV:bootBuiltins "isinstance" = some (.builtin "isinstance"):=by decide +kernel
theorem Ra:bootBuiltins "max" = some (.builtin "max"):=by decide +kernel
theorem Rb:bootBuiltins "min" = some (.builtin "min"):=by decide +kernel
theorem Rc:bootBuiltins "all" = some (.builtin "all"):=by decide +kernel
theorem Ci:bootBuiltins "int" = some (.type "int"):=by decide +kernel
theorem FY:bootBuiltins "list" = some (.type "list"):=by decide +kernel
theorem J6:bootBuiltins "tuple" = some (.type "tuple"):=by decide +kernel
@[simp] noncomputable def J7:List D->OB
 |[.int i,.int j]=>some (.int (if j > i then j else i),false)
 |_=>none
@[simp] noncomputable def J8:List D->OB
 |[.int i,.int j]=>some (.int (if j<i then j else i),false)
 |_=>none
theorem yN {K:Frag}{B:Hp}{xs:List V}{i j:Int}(h:IsL K B xs [.int i,.int j]):xs=[.int i,.int j]:=by
 cases h with
 |cons h1 h2=>cases h1;cases h2 with|cons h3 h4=>cases h3;cases h4;rfl
theorem Re (hc:X.calm=true:=by rfl):cm X (.builtin "max") (BY X.K J7):=by
 refine cm.to (DJ hc) λxs H Q q=>?_;obtain⟨B,ds,d,b,sB,i,e,q⟩:=q;match ds,e with
 |[.int i',.int j'],e=>simp only[J7]at e;cases e;exact⟨i',j',yN i,q.one sB (.int _)⟩
theorem Rf (hc:X.calm=true:=by rfl):cm X (.builtin "min") (BY X.K J8):=by
 refine cm.to (DK hc) λxs H Q q=>?_;obtain⟨B,ds,d,b,sB,i,e,q⟩:=q;match ds,e with
 |[.int i',.int j'],e=>simp only[J8]at e;cases e;exact⟨i',j',yN i,q.one sB (.int _)⟩
@[simp] noncomputable def kZ:D->String
 |.non=>"NoneType" | .bl _=>"bool" | .int _=>"int" | .str _=>"str" | .ty _=>"type" | .tup _=>"tuple" | .lst _=>"list" | .dk _ _=>"dict" | .dt _ _=>"dict"
@[simp] noncomputable def Rg:D->Bool
 |.ty _=>true
 |_=>false
@[simp] noncomputable def Cj (t n:String):OB :=
 if n = "int" then some (.bl (t == "int" || t == "bool"),false)else if n = "bool" then some (.bl (t == "bool"),false)else if n = "str" then some (.bl (t == "str"),false)
 else if n = "list" then some (.bl (t == "list"),false)else if n = "tuple" then some (.bl (t == "tuple"),false)else none
@[simp] def gN:List D->OB
 |[d,.ty n]=>if Rg d=true then none else Cj (kZ d) n
 |_=>none
theorem J9 {af:List (Addr×Obj)}{U:St}{H:Hp}{s:Shared}{A:Around}{E:Value->Shared->Prop}{Q:Value->Shared->Prop}{c:Value}{b:Bool}{v:V}{d:D}{u:Value}(I:Inv X af U H s)(i:Is X.K H v d)(hd:∀n,d≠.ty n)(rx:bf v u)(e:PySem.W.kitOne X.K (.type (kZ d)) c=some b)(h:∀tk,Q (.bool b) { s with toks:=tk }):
  wpAny (model X.prog X.w) A (call (.builtin "isinstance") [u,c]) Q E s:=by
 cases i with
 |non=>exact iA I rx .non e h
 |bl y=>exact iA I rx (.bl y) e h
 |int y=>exact iA I rx (.int y) e h
 |str y=>exact iA I rx (.str y) e h
 |ty n=>exact absurd rfl (hd n)
 |dk h1 _ _=>exact iA I rx (.dK h1) e h
 |dt h1 _ _=>exact iA I rx (.dT h1) e h
 |tup ht _=>
  cases rx
  obtain⟨its,_,⟨o,h1,h2,_⟩,_⟩:=I.tuple ht;exact kia_one PySem.W.kitx_tuple I.kIn ⟨o,h1,h2⟩ e (λz=>nomatch z) h
 |lst hl _=>
  cases rx
  obtain⟨its,_,⟨o,n,h1,h2,_⟩,_⟩:=I.list hl;exact kia_one PySem.W.kitx_list I.kIn ⟨o,h1,h2⟩ e (λz=>nomatch z) h
theorem NT (K:Frag)(d:D)(hd:∀n,d≠.ty n):
  PySem.W.kitOne K (.type (kZ d)) (.type "int")=some (kZ d == "int" || kZ d == "bool")/\PySem.W.kitOne K (.type (kZ d)) (.type "bool")=some (kZ d == "bool")/\PySem.W.kitOne K (.type (kZ d)) (.type "str")=some (kZ d == "str") /\
   PySem.W.kitOne K (.type (kZ d)) (.type "list")=some (kZ d == "list")/\PySem.W.kitOne K (.type (kZ d)) (.type "tuple")=some (kZ d == "tuple"):=by
 cases d<;>(first|exact absurd rfl (hd _)|skip)
 all_goals (simp only[kZ];refine⟨?_,?_,?_,?_,?_⟩<;>kernel_rfl)
theorem wW:cm X (.builtin "isinstance") (BY X.K gN):=by
 intro af s U H xs us Q I rs q;obtain⟨B,ds,d,b,sB,i,e,q⟩:=q;cases i with
 |nil=>cases e
 |cons i1 i=>cases i with
 |nil=>cases e
 |cons i2 i=>
  cases i2<;>try (cases e;done)
  cases i<;>try (cases e;done)
  rename_i dx n;obtain⟨u1,u2,rfl,r1,r2⟩:=Fv rs;cases r2
  simp only[gN]at e;split at e
  ·cases e
  ·rename_i ht;have hd:∀n,dx≠.ty n:=λn z=>by subst z;exact ht rfl
   obtain⟨k1,k2,k3,k4,k5⟩:=NT X.K dx hd;have j9:∀ {k:Bool},PySem.W.kitOne X.K (.type (kZ dx)) (.type n)=some k->Fin X.K B H (.bl k) false Q->wq X (call (.builtin "isinstance") [u1,.type n]) (EP X af U Q) X.xe s:=λ{k} hk q=>
    J9 I (i1.mono sB) hd r1 hk λtk=>⟨.bl k,H,I.tok tk,rfl,q.one sB (.bl k)⟩
   unfold Cj at e;split at e
   ·rename_i z;subst z;cases e;exact j9 k1 q
   split at e
   ·rename_i z;subst z;cases e;exact j9 k2 q
   split at e
   ·rename_i z;subst z;cases e;exact j9 k3 q
   split at e
   ·rename_i z;subst z;cases e;exact j9 k4 q
   split at e
   ·rename_i z;subst z;cases e;exact j9 k5 q
   ·cases e
@[simp] noncomputable def Ww:D->OB
 |.int i=>some (.int (Builtin.Int.intBits i),false)
 |_=>none
@[simp] def FZ (f:FE):FA:=λY=>(f Y).bind λx=>gk x.1
theorem Ck (h:JE X e f):JI X tg e (FZ f):=by
 intro af s U H R I q;obtain⟨B,Y,ds,sB,r,e',q⟩:=q;obtain⟨x,ex,es⟩:=oX e';obtain⟨xd,xb⟩:=x;cases xd<;>simp only[gk]at es<;>try (cases es;done)
 ·cases es
  refine Nb h af s U H R I ⟨B,Y,_,_,sB,r,ex,λv H1 N1 x1 i1 _=>?_⟩;cases i1 with
  |@tup a vs _ ht hl=>
   refine⟨a,rfl,⟨vs,b7 x1.nh ht⟩,q _ H1 N1 x1 λi H2 s2=>⟨λd ed=>?_,λbP=>⟨vs,b7 s2 ht,by rw[hl.length];exact bP⟩⟩⟩;obtain⟨v,ev,iv⟩:=hl.get ed;refine⟨⟨vs,v,b7 s2 ht,ev⟩,λy H3 hy=>?_⟩;obtain⟨rfl,hy⟩:=hy;have:=hy vs (b7 s2 ht);rw[ev]at this;cases this;exact⟨N1,.refl s2,iv⟩
 ·cases es
  refine IM h af s U H R I ⟨B,Y,_,_,sB,r,ex,λv H1 N1 x1 i1 _=>?_⟩;cases i1 with
  |@lst a vs _ ht hl=>
   refine⟨a,rfl,⟨vs,x1.nh.seq ht⟩,q _ H1 N1 x1 λi H2 s2=>⟨λd ed=>?_,λbP=>⟨vs,s2.seq ht,by rw[hl.length];exact bP⟩⟩⟩;obtain⟨v,ev,iv⟩:=hl.get ed;refine⟨⟨vs,v,s2.seq ht,ev⟩,λy H3 hy=>?_⟩;obtain⟨rfl,hy⟩:=hy;have:=hy vs (s2.seq ht);rw[ev]at this;cases this;exact⟨N1,.refl s2,iv⟩
noncomputable def gz (lo:Int)(n:Nat):List D:=(List.range n).map λ(k:Nat)=>.int (lo+(k:Int))
theorem Ga {K:Frag}{B:Hp}(lo:Int)(n:Nat):qe K (SQ lo n) B (gz lo n):=by
 intro i H s;unfold gz;refine⟨λd ed=>?_,λhl=>by rw[vI,List.length_range]at hl;exact hl⟩;rw[vA]at ed;obtain⟨k,ek,ed⟩:=oY ed;have hk:=vV ek;obtain⟨gs,hk⟩:=hk;rw[List.length_range]at gs;rw[List.getElem_range]at hk;subst hk;subst ed;refine⟨gs,λx H' hy=>?_⟩;obtain⟨rfl,rfl⟩:=hy;exact⟨B,.refl s,.int _⟩
@[simp] def fW (f:FE):FA:=λY=>match f Y with
 |some (.int j,_)=>if -1000<=j/\j<=1000 then some (gz 0 j.toNat)else none
 |_=>none
theorem jE (hm:X.mg "range" = none)(h:JE X a f)(hg:Gl X "range":=by rfl)(hs:starEach [a] X.env=[(false,eval a X.env)]:=by rfl):PI X tg (.Call (.Name "range" p) [a] [] pos) (SV X.K (fW f)):=by
 refine PI.to (DG hg hm (ag h am hs) hs) λU H R q=>?_;obtain⟨B,Y,ds,sB,r,e',q⟩:=q;unfold fW at e';split at e'
 ·rename_i j b' ef;split at e'
  ·rename_i hj;cases e'
   refine⟨B,Y,[.int j],sB,r,by simp[ae,ai,ef],λvs H1 N1 x1 i1=>?_⟩;cases i1 with
   |cons i1 i2=>
    cases i1;cases i2
    exact⟨j,rfl,by omega,by omega,q _ H1 N1 x1 λ_=>Ga 0 j.toNat⟩
  ·cases e'
 ·cases e'
theorem yO (hm:X.mg "range" = none)(h:JE X a f)(hg:Gl X "range":=by rfl)(hs:starEach [a] X.env=[(false,eval a X.env)]:=by rfl):JI X tg (.Call (.Name "range" p) [a] [] pos) (fW f) :=
 PI.to (jE hm h hg hs) λU H R ⟨B,Y,ds,sB,r,e',q⟩=>⟨B,Y,ds,sB,r,e',λJ H' N x h=>q J H' N x (h _)⟩
end
def dj (K:Frag)(x:Str)(st:Stmt):Prop:=∃(f:Addr)(fd:FuncData),OR K x x st f fd/\nsIn K mainGlobals x=some (some (.ref f))
theorem def_mk {K:Frag}{x:Str}{st:Stmt}{f:Addr}{oc:Value}{od an:Option Addr}{pY:Array (Option Value)}{kV doc pm ft ct:Value}(a:nsIn K mainGlobals x=some (some (.ref f)))
  (l:K.lookup f=some ⟨oc,od,.func (fnOf x x (gH st) (cQ st) (bc st) .none kV doc pm an ft ct),pY⟩) (c:PySem.W.codeIn K ft x=true) (k:PySem.W.keepIn K (.ref f)=true):dj K x st:=⟨f,_,Nv l c k,a⟩
section
variable {P:Program}{w:World}{K:Frag}{mg:Str->Option Value}{base:Heap}
theorem dj.fn {x:Str}{st:Stmt}{N ps:List Str}{k:Nat}{g:FS}{h:Heap}(F:dj K x st)(X:K.In h)(G:h.Ns mainGlobals mg)(S:FnScope N ps (bc st))
  (Lf:∀(kV doc pm:Value)(an:Option Addr)(ft ct:Value)(us:List Value),us.length=ps.length->bindArgs (fnOf x x (gH st) (cQ st) (bc st) .none kV doc pm an ft ct) ⟨us,[]⟩=pure (ps.zip us))
  (hb:∀(f:Addr)(ft:Value)(A:Around)(outer:List PySem.Env)(s:Shared)(H:Hp)(E:XK),fD k (A.deeper (envOfC x (bc st) s.heap.objs.size f ft))->xZ (qc A3 P w K mg base N x (bc st) f ft A outer s H E).nox (cQ st) g):
  Fn P w K mg base (k+1) x (aO g ps.length (N.length - ps.length)):=by
 obtain⟨f,fd,F1,a⟩:=F;exact⟨f,fd,ps,QX F1 S (hb f),mg_of X G a,F1.kp,F1.binds Lf⟩
end
def Rh (H:Hp):Prop:=∀b,H b=none∨(∃o xs,H b=some (.frz o (.lst xs)))∨∃q,H b=some (.tbl q)
noncomputable def qO (kP:List (Addr×Str))(G:Hp):Hp:=λb=>match kP.lookup b with|some q=>some (.tbl q)|none=>G b
theorem gO (e:kP.lookup b=some q):qO kP G b=some (.tbl q):=by unfold qO;rw[e]
theorem jF (e:kP.lookup b=none):qO kP G b=G b:=by unfold qO;rw[e]
theorem Ee {P:Program}{w:World}{K:Frag}{mg mb:Str->Option Value}{k:Nat}{fa a:Addr}{fd:FuncData}{x:Str}{sp:Sp}{s₁:Shared}{vs:List Value}{ns:List Int}(kP:List (Addr×Str))
  (ht:∀b q,kP.lookup b=some q->s₁.heap.get? b=some (PySem.W.tabObj #[])/\isCodeTable s₁.heap b) (Zs:PySem.W.noTabs K=true)
  (KX:K.In s₁.heap) (PL:s₁.heap.Ns mainGlobals mg) (hb:s₁.heap.Ns builtinsNs mb) (Zt:∀x:Str,x ≠ "__name__"->mb x=bootBuiltins x) (Vi:s₁.heap.NoLimit)
  (Zu:∃bm ob,mg "__builtins__" = some (.ref bm)/\bm≠builtinsNs/\s₁.heap.get? bm=some ob/\ob.cls=.type "module"/\ob.dict=some builtinsNs/\ob.data=.plain) (hg:s₁.gens=#[])
  (ha:s₁.heap.get? a=some { cls:=.type "list",data:=.seq vs.toArray }) (hi:IntsAre vs ns) (hl:ns.length<=sizeLine) (hr:fD k callerA)
  (F:∀base:Heap,K.In base->base.Ns mainGlobals mg->tR P w K mg base A3 k fa fd [x] sp) (Az:∀(s:Shared)(u:Value),BindsTo s fd ⟨[u],[]⟩ [(x,u)])
  (PH:∀H:Hp,(∀b q,kP.lookup b=some q->H b=some (.tbl q))->jl K H a (ns.map V.int)->sp [.ref a] H (λv _=>v=.bl true) λ_ _ _=>False):
  codeAny (model P w) callerA (.call (.ref fa) ⟨[.ref a],[]⟩) (λr s'=>r=.ok (.ret (.bool true))/\OldK s₁.heap s'.heap/\s'.os=s₁.os/\AllBare s'.gens) s₁:=by
 have rv:=L2.jD hi;have Vj:=hi.length;have RZ:∀H:Hp,Rh H->(∀b q,kP.lookup b=some q->H b=some (.tbl q))->jl K H a (ns.map V.int)->ma P w H s₁.heap->(∀b q,H b=some (.tbl q)->s₁.heap.get? b=some (PySem.W.tabObj #[])/\isCodeTable s₁.heap b) ->
   (∀b o u,H b=some (.frz o u)->b=a)->(∀b o u,H b=some (.frz o u)->K.lookup b=none) ->
   codeAny (model P w) callerA (.call (.ref fa) ⟨[.ref a],[]⟩) (λr s'=>r=.ok (.ret (.bool true))/\OldK s₁.heap s'.heap/\s'.os=s₁.os/\AllBare s'.gens) s₁:=by
  intro H hO hT hS hok hA hB hK;have KW:∀ {b:Addr}{o:Obj},s₁.heap.get? b=some o->(o.cls≠.none)->(o.cls≠.type "list")->H b=none:=λ{b o} e d d'=>by
   rcases hO b with q|⟨ob,xs,q⟩|⟨u,q⟩
   ·exact q
   ·have e':b=a:=hB b _ _ q;subst e';rw[ha]at e;cases e;exact absurd rfl d'
   ·rw[(hA b u q).1]at e;cases e;exact absurd rfl d
  have Zv:∀ {b:Addr}{o:Obj}{es:Array DictEntry}{ep:Nat},s₁.heap.get? b=some o->o.data=.dict es ep->H b=none:=λ{b o es ep} e d=>by
   rcases hO b with q|⟨ob,xs,q⟩|⟨u,q⟩
   ·exact q
   ·have e':b=a:=hB b _ _ q;subst e';rw[ha]at e;cases e;cases d
   ·rw[(hA b u q).1]at e;cases e;cases d
  have Tw:∀ {b:Addr}{m:Str->Option Value},s₁.heap.Ns b m->(yi s₁.heap H).Ns b m:=λ{b m} ⟨o,es,ep,e,d,r⟩=>⟨o,es,ep,qF e (Zv e d),d,r⟩;have Xi:K.In (yi s₁.heap H):=λb o e=>qF (KX b o e) (by
   rcases hO b with q|⟨ob,xs,q⟩|⟨u,q⟩
   ·exact q
   ·rw[hK b _ _ q]at e;cases e
   ·have z:=(hA b u q).1;rw[KX b o e]at z;cases z
    have:=uR Zs _ (PySem.W.mem_of_lookupK e);simp at this)
  have hM:Mod K mg (yi s₁.heap H):=⟨Xi,Tw PL,⟨mb,Tw hb,Zt⟩,let ⟨mc,h1,h2⟩:=Vi;⟨mc,Tw h1,h2⟩,by
   obtain⟨bm,ob,b1,b2,b3,b4,b5⟩:=Zu;exact⟨bm,ob,b1,b2,qF b3 (KW b3 (by rw[b4];exact λz=>nomatch z) (by rw[b4];intro z;injection z with z;exact absurd z (by decide))),b4,b5⟩⟩
  have e0:Env0 P w K mg (yi s₁.heap H) callerA [] s₁ H:=⟨rfl,hM,λb o e=>IF e,Nat.le_of_eq (DE _ _),trivial,λb hb=>absurd (show b∈([]:List Addr)from hb) (by simp),hok,.of_eq hg⟩;refine codeAny_mono ((F _ Xi (Tw PL)).run callerA [] s₁ H ⟨[.ref a],[]⟩ [.ref a] [.ref a] _ _ hr e0 (Az s₁ (.ref a)) (.cons rfl .nil) (PH H hT hS)) λr s' h=>?_;cases r with
  |error e=>exact False.elim h
  |ok fl=>
   cases fl with
   |next=>exact False.elim h
   |brk=>exact False.elim h
   |cont=>exact False.elim h
   |ret u=>
    obtain⟨v,H',os,bare,un,Sa,r',q⟩:=h;have q':v=.bl true:=q;subst q';obtain rfl:u=Value.bool true:=r';have kp:∀b o,H b=none->s₁.heap.get? b=some o->s'.heap.get? b=some o:=λb o n e=>un.keep b o e n (by intro z;exact absurd (show b∈([]:List Addr)from z) (by simp)) (by simp);refine⟨rfl,⟨λb o e=>?_,λb o e=>un.there b o e (by simp)⟩,os,bare⟩;rcases hO b with z|⟨ob,xs,z⟩|⟨u,z⟩
    ·exact .inl (kp b o z e)
    ·have z2:=un.frzs b ob _ z;obtain⟨e1,_⟩:=hok b _ z;obtain⟨e2,_⟩:=Sa b _ z2;rw[e]at e1;cases e1;exact .inl e2
    ·obtain⟨e1,e2⟩:=hA b u z;rw[e]at e1;cases e1;obtain⟨ps,e3,_⟩:=Sa b _ (un.tbls b u z);exact .inr (.inl ⟨e2,rfl,#[],ps,rfl,by simpa using e3⟩)
 have OT:∀q,kP.lookup a≠some q:=λq z=>by
  have:=(ht a q z).1;rw[ha]at this;cases this
 have ta:kP.lookup a=none:=by
  cases z:kP.lookup a with
  |none=>rfl
  |some q=>exact absurd z (OT q)
 have Mz:∀(G:Hp) b q,kP.lookup b=some q->bZ P w (qO kP G) s₁.heap b (.tbl q):=λG b q z=>⟨#[],(ht b q z).1,trivial,λpos cv c=>by cases c⟩;cases hk:K.lookup a with
 |some o=>
  have e:=KX a o hk;rw[ha]at e;cases e
  refine RZ (qO kP λ_=>none) (λb=>?_) (λb q z=>gO z) (.inr ⟨_,vs.toArray,_,hk,rfl,rfl,rfl,by rw[vH,Vj];exact hl,by simpa using rv⟩) (λb u z=>?_) (λb q z=>?_) (λb o u z=>?_) λb o u z=>?_
  all_goals cases zt:kP.lookup b with
   |none=>first|exact .inl (jF zt)|(rw[jF zt]at z;cases z)
   |some q'=>first|exact .inr (.inr ⟨q',gO zt⟩)|(rw[gO zt]at z;cases z;done)|(rw[gO zt]at z;cases z;first|exact Mz _ b _ zt|exact ht b _ zt)
 |none=>
  refine RZ (qO kP λb=>if b=a then some (.frz { cls:=.type "list",data:=.seq vs.toArray } (.lst (ns.map V.int)))else none) (λb=>?_) (λb q z=>gO z) (.inl (.inr ⟨{ cls:=.type "list",data:=.seq vs.toArray },by rw[jF ta,if_pos rfl]⟩)) (λb u z=>?_) (λb q z=>?_) (λb o u z=>?_) λb o u z=>?_
  all_goals cases zt:kP.lookup b with
   |some q'=>first|exact .inr (.inr ⟨q',gO zt⟩)|(rw[gO zt]at z;cases z;done)|(rw[gO zt]at z;cases z;first|exact Mz _ b _ zt|exact ht b _ zt)
   |none=>
    first
    |rw[jF zt]at z
    |rw[jF zt]
    by_cases hb:b=a
    ·first
     |rw[if_pos hb]at z
     |rw[if_pos hb]
     first
     |exact .inr (.inl ⟨_,_,rfl⟩)
     | (cases z;subst hb;exact⟨ha,by rw[vI];exact hl,vs,_,rv,ha⟩)
     |exact hb
     | (rw[hb];exact hk)
     |cases z
    ·first
     | (rw[if_neg hb]at z;cases z)
     |exact .inl (if_neg hb)
noncomputable def wZ (L:List (Str×Option (Addr×Addr))):List (Addr×Str):=L.filterMap λp=>p.2.map λq=>(q.2,qJ p.1)
structure qD (K:Frag)(L:List (Str×Option (Addr×Addr))):Prop where
 names:L=nz.map λx=>(x,PySem.W.tabIn K x)
 apart:((wZ L).map (·.1)).Nodup
 none:PySem.W.noTabs K=true
theorem mo {α β:Type}[BEq α][LawfulBEq α]:∀ {l:List (α×β)}{a:α}{b:β},(l.map (·.1)).Nodup->(a,b)∈l->l.lookup a=some b
 | (c,d)::l,a,b,nd,h=>by
  rw[List.lookup_cons];rcases vP h with e|h
  ·cases e;simp
  ·have ne:a≠c:=λz=>(List.nodup_cons.mp nd).1 (by rw[←z];exact uS ⟨(a,b),h,rfl⟩);rw[show(a == c)=false by simpa using ne];exact mo (List.nodup_cons.mp nd).2 h
theorem la {α β:Type}[BEq α][LawfulBEq α]:∀ {l:List (α×β)}{a:α}{b:β},l.lookup a=some b->(a,b)∈l
 | (c,d)::l,a,b,h=>by
  rw[List.lookup_cons]at h;cases e:a == c with
  |true=>rw[e]at h;cases h;rw[eq_of_beq e];exact mX
  |false=>rw[e]at h;exact mZ _ (la h)
theorem qD.tb {K:Frag}{L:List (Str×Option (Addr×Addr))}(F:qD K L){H:Hp}(h:∀b q,(wZ L).lookup b=some q->H b=some (.tbl q)):Tb K H:=λx hx c P e=>by
 refine h P (qJ x) (mo F.apart ?_);rw[F.names];exact List.mem_filterMap.mpr ⟨(x,PySem.W.tabIn K x),uS ⟨x,hx,rfl⟩,by rw[e];rfl⟩
theorem tab_yes {K:Frag}{x:Str}{f c P:Addr}{oc Zw:Value}{od Vk:Option Addr}{pY OU:Array (Option Value)}{fd:FuncData}{vs:Array Value}(e1:nsIn K mainGlobals x=some (some (.ref f)))(e2:K.lookup f=some ⟨oc,od,.func fd,pY⟩)(e3:fd.code=.ref c)
  (e4:K.lookup c=some ⟨Zw,Vk,.fields vs,OU⟩) (e5:vs[11]? = some (.ref P)):PySem.W.tabIn K x=some (c,P):=by unfold PySem.W.tabIn;simp only[e1,e2,e3,e4,e5]
theorem tabs_fit {K:Frag}{t0 t1 t2 t3:Option (Addr×Addr)}(h0:PySem.W.tabIn K "in_order" = t0)(h1:PySem.W.tabIn K "has_seal" = t1)(h2:PySem.W.tabIn K "is_first_death" = t2)(h3:PySem.W.tabIn K "bases_by" = t3)
  (ap:((wZ [("in_order",t0),("has_seal",t1),("is_first_death",t2),("bases_by",t3)]).map (·.1)).Nodup) (nt:PySem.W.noTabs K=true):qD K [("in_order",t0),("has_seal",t1),("is_first_death",t2),("bases_by",t3)] :=
 ⟨by subst h0;subst h1;subst h2;subst h3;rfl,ap,nt⟩
theorem walkD {l:PySem.W.OpenLaw}{q:Program}{D6:List Str}{XP:(Str->Option Value)->Heap->Prop}{YP:World->Heap->Prop}{d:DefRec}{K:Params->Frag}{k:Nat}{x:Str}{f:List D->OB}{L:List (Str×Option (Addr×Addr))}(hn:l.most=some 63)(RL:d.params.defaults=[])(hr:fD k callerA)
  (hY:∀(w:World)(h:Heap),YP w h->(K w.params).In h) (hT:∀w:World,qD (K w.params) L) (hD:(L.all λp=>p.2.isNone || ((recsOf q).find? λe=>e.name == p.1).isSome)=true)
  (F:∀(w:World)(mg:Str->Option Value)(fa:Addr)(h:Heap),(K w.params).In h->h.Ns mainGlobals mg->mg d.name=some (.ref fa) ->
   ∃fd:FuncData,(∀(s:Shared)(u:Value),BindsTo s fd ⟨[u],[]⟩ [(x,u)])/\∀base:Heap,(K w.params).In base->base.Ns mainGlobals mg->tR l.prog w (K w.params) mg base A3 k fa fd [x] (J0 (K w.params) f))
  (ht:∀ns:List Int,ns.length<=63->∃b,f [.lst (ns.map .int)]=some (.bl true,b)):PySem.W.WalkO q D6 XP YP l.row.toRowW d [] (λf vs=>PySem.call f vs):=by
 refine Att.yq hn RL λw s₀ s₁ mg mb fa o pm cd doc a vs ns G y10 ho hd jT hmg OQ HW bP hg=>?_;have KX:=hY w _ y10;obtain⟨fd,hb,hF⟩:=F w mg fa _ KX G.T.g hmg;refine Ee (wZ L) (λb u e=>?_) (hT w).none KX G.T.g G.T.b G.T.builtins G.T.nolimit G.T.bmain hg OQ HW (vR bP (by decide)) hr hF hb λH hH hS=>?_
 ·obtain⟨p,hp,e2⟩:=List.mem_filterMap.mp (la e);obtain⟨⟨c,P⟩,e3,e4⟩:=oY e2;cases e4
  have Vl:=uR hD p hp;rw[e3]at Vl;rw[Option.isNone_some,Bool.false_or]at Vl;obtain⟨r,Zx⟩:=uU Vl;have Sb:PySem.W.tabIn (K w.params) p.1=some (c,P):=by
   rw[(hT w).names]at hp;obtain⟨y,_,rfl⟩:=vO hp;exact e3
  obtain⟨h1,h2⟩:=PySem.W.tab_of G.T KX Zx Sb;exact⟨h2,(h1.tab h2).isCodeTable⟩
 ·obtain⟨b,e⟩:=ht ns bP;exact⟨H,_,_,b,⟨.refl H,(hT w).tb hH⟩,.cons (.lst hS (.flat rfl)) .nil,e,λv H' N x' i' _=>by cases i';rfl⟩
theorem dj.law {P:Program}{w:World}{K:Frag}{mg:Str->Option Value}{x y:Str}{st:Stmt}{N:List Str}{k:Nat}{g:FS}{h:Heap}{fa:Addr}(F:dj K x st)(X:K.In h)(G:h.Ns mainGlobals mg)(Vm:mg x=some (.ref fa))(S:FnScope N [y] (bc st))
  (Lf:∀(kV doc pm:Value)(an:Option Addr)(ft ct:Value)(u:Value),bindArgs (fnOf x x (gH st) (cQ st) (bc st) .none kV doc pm an ft ct) ⟨[u],[]⟩=pure [(y,u)])
  (hb:∀(base:Heap),K.In base->base.Ns mainGlobals mg->∀(f:Addr)(ft:Value)(A:Around)(outer:List PySem.Env)(s:Shared)(H:Hp)(E:XK),fD k (A.deeper (envOfC x (bc st) s.heap.objs.size f ft))->xZ (qc A3 P w K mg base N x (bc st) f ft A outer s H E).nox (cQ st) g):
  ∃fd:FuncData,(∀(s:Shared)(u:Value),BindsTo s fd ⟨[u],[]⟩ [(y,u)])/\∀base:Heap,K.In base->base.Ns mainGlobals mg->tR P w K mg base A3 (k+1) fa fd [y] (J0 K (aO g 1 (N.length - 1))):=by
 obtain⟨f,fd,F1,a⟩:=F;have e:=Vm.symm.trans (mg_of X G a);cases e
 refine⟨fd,λs u=>?_,λbase kb nb=>QX F1 S (hb base kb nb _)⟩;obtain⟨oc,od,kV,doc,pm,an,ft,ct,pY,rfl,lk,jT⟩:=F1.ex;exact .of_eq (Lf kV doc pm an ft ct u)
section
variable {X:Cx}{a b e:Expr}{pos:Pos}{x:Str}{p:Pos}
@[simp] noncomputable def JB:D->D->OB
 |.lst xs,.lst ys=>if xs.length+ys.length<=sizeLine then some (.lst (xs++ys),true)else none
 |_,_=>none
theorem NU:dQ X (binaryOp .Add) (rD X.K JB):=by
 intro af s U H x y v u Q I rx ry q;obtain⟨B,dx,dy,d,bb,sB,ix,iy,ee,q⟩:=q;cases ix<;>try (cases ee;done)
 all_goals (cases iy<;>try (cases ee;done))
 rename_i l vs ds h hl l' ws es h' EU;simp only[JB]at ee;split at ee
 ·rename_i hz;cases ee
  cases rx
  cases ry
  obtain⟨its,r1,p1,z1⟩:=I.list (sB.seq h);obtain⟨hW,r2,p2,z2⟩:=I.list (sB.seq h');obtain⟨⟨c1,d1,t1,s1⟩,o1,e1,n1,k1⟩:=p1.isList;obtain⟨⟨c2,d2,t2,s2⟩,o2,e2,n2,k2⟩:=p2.isList;dsimp only at e1 k1 e2 k2;subst e1;subst k1;subst e2;subst k2;have hsz:its.toArray.size+hW.toArray.size<=sizeLine:=by
   rw[vH,vH,←r1.length,←r2.length,hl.length,EU.length];exact hz
  have ea:its.toArray++hW.toArray=(its++hW).toArray:=by simp
  refine concat_meets ⟨_,o1,rfl⟩ ⟨_,o2,rfl⟩ noFill_list_add seq_list_add PySem.F.slot_list_add PySem.F.entry_list_add (PySem.F.args_list_add_2 _ _) (list_addW l l' its.toArray hW.toArray n1 n2 d1 d2 s1 s2 hsz) ⟨o1,o2,?_⟩;rw[ea];have xt:=Ext.laid (o:=.lst (vs++ws)) sB I.fresh;have il:=(hl.append EU).mono xt.bn;exact⟨.ref s.heap.objs.size,_,I.lnew (t':=s.toks) (r1.append r2) (by rw[uZ,hl.length,EU.length];exact hz),rfl,q _ _ _ xt (.lst (jl.of aJ) il) λ_=>⟨_,_,_,rfl,rfl,I.fresh,aJ,il⟩⟩
 ·cases ee
@[simp] noncomputable def tH:D->D->OB
 |.tup xs,.tup ys=>if xs.length+ys.length<=sizeLine/\xs.isEmpty=false then some (.tup (xs++ys),false)else none
 |_,_=>none
theorem Gb:dQ X (binaryOp .Add) (rD X.K tH):=by
 refine jw IZ λx y H Q q=>?_;obtain⟨B,dx,dy,d,bb,sB,ix,iy,ee,q⟩:=q;cases ix<;>try (cases ee;done)
 all_goals (cases iy<;>try (cases ee;done))
 rename_i l vs ds h hl l' ws es h' EU;simp only[tH]at ee;split at ee
 ·rename_i hz;cases ee
  have l1:=hl.length;have l2:=EU.length;refine⟨l,l',vs,ws,rfl,rfl,b7 sB h,b7 sB h',λz=>?_,by omega,λz=>?_,λ_ pp hp=>?_⟩
  ·subst z;cases hl
   simp at hz
  ·subst z;cases EU
   rw[uQ]at q;exact q.one sB (.tup h hl)
  ·have xt:=Ext.laid (o:=.tup (vs++ws)) sB hp;exact q _ _ _ xt (.tup (jB.of aJ) ((hl.append EU).mono xt.bn)) (by simp)
 ·cases ee
@[simp] noncomputable def Gc:D->D->OB
 |.bl i,.int j=>some (.int ((if i=true then 1 else 0)+j),false)
 |.int i,.bl j=>some (.int (i+b2i j),false)
 |_,_=>none
theorem NV:dQ X (binaryOp .Add) (rD X.K Gc):=by
 intro af s U H x y v u Q I rx ry q;obtain⟨B,dx,dy,d,bb,sB,ix,iy,ee,q⟩:=q;cases ix<;>try (cases ee;done)
 all_goals (cases iy<;>try (cases ee;done))
 ·simp only[Gc]at ee;cases ee
  cases rx
  obtain⟨t,rfl⟩:=ry;exact IntBool.add_bool_int ⟨.int _,H,I.tok _,⟨_,rfl⟩,q.one sB (.int _)⟩
 ·simp only[Gc]at ee;cases ee
  exact DI af s U H _ _ v u Q I rx ry ⟨_,_,rfl,rfl,q.one sB (.int _)⟩
@[simp] noncomputable def bS:D->D->OB
 |.int i,.int j=>some (.int (i+j),false)
 |.str i,.str j=>if i.length+j.length<=sizeLine then some (.str (i++j),false)else none
 |.lst xs,.lst ys=>if xs.length+ys.length<=sizeLine then some (.lst (xs++ys),true)else none
 |.tup xs,.tup ys=>if xs.length+ys.length<=sizeLine/\xs.isEmpty=false then some (.tup (xs++ys),false)else none
 |.bl i,.int j=>some (.int ((if i=true then 1 else 0)+j),false)
 |.int i,.bl j=>some (.int (i+b2i j),false)
 |_,_=>none
theorem bv:dQ X (binaryOp .Add) (rD X.K bS):=by
 refine jw (r:=rD X.K (Fe Cg (Fe JB (Fe tH Gc)))) (oJ J5 (oJ NU (oJ Gb NV))) λx y H Q q=>?_;obtain⟨B,dx,dy,d,bb,sB,ix,iy,ee,q⟩:=q;refine⟨B,dx,dy,d,bb,sB,ix,iy,?_,q⟩;cases dx<;>try (cases ee;done)
 all_goals (cases dy<;>try (cases ee;done))
 all_goals (simp[bS]at ee;simp[Fe,Cg,JB,tH,Gc,ee])
@[simp] noncomputable def Uu:D->Option Bool
 |.bl b=>some b
 |_=>none
def tI:List D->Option (List Bool)
 |[]=>some []
 |d::ds=>(Uu d).bind λb=>(tI ds).map (b :: ·)
@[simp] theorem Ri:tI []=some []:=rfl
@[simp] theorem Ef (d:D)(ds:List D):tI (d::ds)=(Uu d).bind λb=>(tI ds).map (b :: ·):=rfl
theorem xc {K:Frag}{B:Hp}:∀ {vs:List V}{ds:List D}{bs:List Bool}{its:List Value},L2.bp vs its->IsL K B vs ds->tI ds=some bs->its=bs.map Value.bool
 |_,_,_,_,.nil,.nil,e=>by cases e;rfl
 |_,_,_,_,.cons r rr,.cons i ii,e=>by
  rw[Ef]at e;obtain⟨b,e1,e⟩:=oX e;obtain⟨bs,e2,e⟩:=oY e;subst e;cases i<;>simp only[Uu]at e1<;>try (cases e1;done)
  cases e1
  cases r
  rw[xc rr ii e2];rfl
@[simp] def Rj:List D->OB
 |[.lst ds]=>(tI ds).map λbs=>(.bl (bs.all id),false)
 |_=>none
@[simp] def Gd:List D->OB
 |[.lst ds]=>(tI ds).map λbs=>(.bl (bs.any id),false)
 |_=>none
theorem Rk (hc:X.calm=true:=by rfl):cm X (.builtin "all") (BY X.K Rj):=by
 intro af s U H xs us Q I rs q;obtain⟨B,ds,d,bb,sB,i,ee,q⟩:=q;match ds,i,ee with
 |[.lst es],.cons i1 .nil,ee=>
  obtain⟨bs,eb,ee⟩:=oY ee;cases ee
  obtain⟨u1,rfl,r1⟩:=iH rs;cases i1 with
  |@lst l vs _ h hl=>
   cases r1
   obtain⟨its,rv,p1,z1⟩:=I.list (sB.seq h);have ei:=xc rv hl eb;have gs:l<s.heap.objs.size:=by obtain⟨_,e0,_⟩:=p1.isList;exact vX e0
   refine call_all_walk (wpAny_pyIter_list p1.isList ⟨_,_,_,_,_,_,λj=>(bs[j]?).getD true,rfl,Walks.list (A:=X.A.in1) (I.ok.hd hc) s.heap.objs.size l (vS gs) its.toArray,⟨⟨_,vY _ rfl,rfl,rfl⟩,p1.isList.push _⟩,λj v s' Q' E' hP hQ=>?_,λh' tk hk=>?_⟩)
   ·have Sc:its[j]? = some v:=by simpa using hP
    rw[ei,vA]at Sc;obtain⟨c,e1,e2⟩:=oY Sc;subst e2;dsimp only at hQ;rw[e1]at hQ;exact wpAny_truthy_bool hQ
   ·have ea:((List.range its.toArray.size).all λj=>(bs[j]?).getD true)=bs.all id:=by
     rw[vH,ei,vI];exact LSm.range_all bs
    rw[ea];refine⟨.bl _,H,I.kept λc o e0=>?_,rfl,q.one sB (.bl _)⟩;exact hk c o (λhm=>by rw[uT hm]at e0;exact Nat.lt_irrefl _ (vX e0)) (vZ _ e0)
theorem LS (hc:X.calm=true:=by rfl):cm X (.builtin "any") (BY X.K Gd):=by
 intro af s U H xs us Q I rs q;obtain⟨B,ds,d,bb,sB,i,ee,q⟩:=q;match ds,i,ee with
 |[.lst es],.cons i1 .nil,ee=>
  obtain⟨bs,eb,ee⟩:=oY ee;cases ee
  obtain⟨u1,rfl,r1⟩:=iH rs;cases i1 with
  |@lst l vs _ h hl=>
   cases r1
   obtain⟨its,rv,p1,z1⟩:=I.list (sB.seq h);have ei:=xc rv hl eb;have gs:l<s.heap.objs.size:=by obtain⟨_,e0,_⟩:=p1.isList;exact vX e0
   refine call_any_walk (wpAny_pyIter_list p1.isList ⟨_,_,_,_,_,_,λj=>(bs[j]?).getD false,rfl,Walks.list (A:=X.A.in1) (I.ok.hd hc) s.heap.objs.size l (vS gs) its.toArray,⟨⟨_,vY _ rfl,rfl,rfl⟩,p1.isList.push _⟩,λj v s' Q' E' hP hQ=>?_,λh' tk hk=>?_⟩)
   ·have Sc:its[j]? = some v:=by simpa using hP
    rw[ei,vA]at Sc;obtain⟨c,e1,e2⟩:=oY Sc;subst e2;dsimp only at hQ;rw[e1]at hQ;exact wpAny_truthy_bool hQ
   ·have ea:((List.range its.toArray.size).any λj=>(bs[j]?).getD false)=bs.any id:=by
     rw[vH,ei,vI];exact LSm.range_any bs
    rw[ea];refine⟨.bl _,H,I.kept λc o e0=>?_,rfl,q.one sB (.bl _)⟩;exact hk c o (λhm=>by rw[uT hm]at e0;exact Nat.lt_irrefl _ (vX e0)) (vZ _ e0)
theorem LU:bootBuiltins "any" = some (.builtin "any"):=by decide +kernel
end
noncomputable def Ta (z:Str):It:=⟨λi _=>i<z.cps.size,λi H v H'=>H'=H/\∃c,z.cps[i]? = some c/\v=.str ⟨#[c]⟩,λi _=>z.cps.size<=i⟩
theorem yP {P:Program}{w:World}{K:Frag}{tg:Expr}(z:Str)(t:Tok)(it:Addr):Turn P w K tg (Ta z) [it] it (λi h=>h.IsStrIter it "str_ascii_iterator" z t i) where
 mem:=List.mem_singleton.mpr rfl
 obj:=λi h st b hb=>by
  have eb:=uT hb;subst eb;obtain⟨o,e1,_,d1⟩:=st;exact⟨o,e1,λv zz=>by rw[d1]at zz;cases zz⟩
 keep:=λi h h' st k=>let ⟨o,e1,r⟩:=st;⟨o,k it (List.mem_singleton.mpr rfl) o e1,r⟩
 item:=by
  intro X hP hw hK hc i af s U H E I hf st hg;subst hP hw hK;have OV:i<z.cps.size:=hg;obtain⟨f0,f1,f2,f3,f4,f5⟩:=hf it (List.mem_singleton.mpr rfl);refine wpAny_pyNext_ascii_item st (c:=z.cps[i]) (by simp[OV]) λh' mC sb=>?_;obtain⟨o,e1,c1,d1⟩:=id mC;exact⟨_,rfl,tX (s:={ s with heap:=h',toks:=s.toks+1 }) e1 c1 d1 (by decide) ⟨.str ⟨#[z.cps[i]]⟩,H,I.turned (λb o hb e2=>(sb.2 b hb).trans e2) f0 f1 f3 f4 f5,⟨_,rfl⟩,⟨rfl,_,by simp[OV],rfl⟩,mC,λb hb=>(hf b hb).1⟩⟩
 done:=by
  intro X hP hw hK hc i af s U H E I hf st hg;subst hP hw hK;have OV:z.cps.size<=i:=hg;obtain⟨f0,f1,f2,f3,f4,f5⟩:=hf it (List.mem_singleton.mpr rfl);exact wpAny_pyNext_ascii_end (I.ok.hd hc) st (by simp;omega) λh' eb=>⟨rfl,I.turned (t':=s.toks) (λb o hb e2=>eb b o hb e2) f0 f1 f3 f4 f5⟩
 self:=λ_ _ _ _ _ st h=>wpAny_pyIter_striter_ascii st h
theorem yQ {P:Program}{w:World}{K:Frag}{tg:Expr}(z:Str)(t:Tok)(it:Addr):Turn P w K tg (Ta z) [it] it (λi h=>h.IsStrIter it "str_iterator" z t i) where
 mem:=List.mem_singleton.mpr rfl
 obj:=λi h st b hb=>by
  have eb:=uT hb;subst eb;obtain⟨o,e1,_,d1⟩:=st;exact⟨o,e1,λv zz=>by rw[d1]at zz;cases zz⟩
 keep:=λi h h' st k=>let ⟨o,e1,r⟩:=st;⟨o,k it (List.mem_singleton.mpr rfl) o e1,r⟩
 item:=by
  intro X hP hw hK hc i af s U H E I hf st hg;subst hP hw hK;have OV:i<z.cps.size:=hg;obtain⟨f0,f1,f2,f3,f4,f5⟩:=hf it (List.mem_singleton.mpr rfl);refine wpAny_pyNext_wide_item st (c:=z.cps[i]) (by simp[OV]) λh' mC sb=>?_;obtain⟨o,e1,c1,d1⟩:=id mC;exact⟨_,rfl,tX (s:={ s with heap:=h',toks:=s.toks+1 }) e1 c1 d1 (by decide) ⟨.str ⟨#[z.cps[i]]⟩,H,I.turned (λb o hb e2=>(sb.2 b hb).trans e2) f0 f1 f3 f4 f5,⟨_,rfl⟩,⟨rfl,_,by simp[OV],rfl⟩,mC,λb hb=>(hf b hb).1⟩⟩
 done:=by
  intro X hP hw hK hc i af s U H E I hf st hg;subst hP hw hK;have OV:z.cps.size<=i:=hg;obtain⟨f0,f1,f2,f3,f4,f5⟩:=hf it (List.mem_singleton.mpr rfl);exact wpAny_pyNext_wide_end (I.ok.hd hc) st (by simp;omega) λh' eb=>⟨rfl,I.turned (t':=s.toks) (λb o hb e2=>eb b o hb e2) f0 f1 f3 f4 f5⟩
 self:=λ_ _ _ _ _ st h=>wpAny_pyIter_striter_wide st h
section
variable {X:Cx}{a b e:Expr}{pos:Pos}{x:Str}{p:Pos}{tg:Expr}
theorem Ge {l:Expr}{tl:TE}(hl:PE X l tl):PI X tg l (λU H R=>tl U H λx H1=>∃z,x=.str z/\R (Ta z) H1):=by
 intro af s U H R I h;refine cL (hl af s U H _ I h) λv s1 ⟨x,H1,I1,r1,q1⟩=>?_;obtain⟨z,rfl,q⟩:=q1;obtain⟨t,rfl⟩:=r1;have fp:∀b∈[s1.heap.objs.size],oC X af H1 b:=λb hb=>by
  rw[uT hb];exact I1.fpOk (vT _) (I1.hok.fresh (vT _))
 cases ha:z.cps.all (· < 128) with
 |true=>exact wpAny_pyIter_ascii ha ⟨_,[s1.heap.objs.size],_,_,H1,rfl,I1.kept (t':=s1.toks) λb o e=>vZ _ e,yP z t _,⟨_,vY _ rfl,rfl,rfl⟩,fp,q⟩
 |false=>exact wpAny_pyIter_wide ha ⟨_,[s1.heap.objs.size],_,_,H1,rfl,I1.kept (t':=s1.toks) λb o e=>vZ _ e,yQ z t _,⟨_,vY _ rfl,rfl,rfl⟩,fp,q⟩
noncomputable def Cm (z:Str):List D:=z.cps.toList.map λc=>.str ⟨#[c]⟩
theorem Gf {K:Frag}{B:Hp}(z:Str):qe K (Ta z) B (Cm z):=by
 intro i H s;refine⟨λd ed=>?_,λhl=>by unfold Cm at hl;show z.cps.size<=i;simpa using hl⟩;unfold Cm at ed;rw[vA]at ed;obtain⟨c,ec,rfl⟩:=oY ed;have Xj:z.cps[i]? = some c:=by simpa using ec
 refine⟨(Array.getElem?_eq_some_iff.mp Xj).1,λv H' hy=>?_⟩;obtain⟨rfl,c',e1,rfl⟩:=hy;rw[Xj]at e1;cases e1;exact⟨B,.refl s,.str _⟩
@[simp] def NW:D->Option (List D)
 |.lst ds=>some ds
 |.tup ds=>some ds
 |.str z=>some (Cm z)
 |_=>none
@[simp] def cu (f:FE):FA:=λY=>(f Y).bind λx=>NW x.1
theorem c8 (h:JE X e f):JI X tg e (cu f):=by
 intro af s U H R I q;obtain⟨B,Y,ds,sB,r,e',q⟩:=q;obtain⟨xx,ex,es⟩:=oX e';obtain⟨xd,xb⟩:=xx;cases xd with
 |lst l=>exact Ck h af s U H R I ⟨B,Y,ds,sB,r,by unfold FZ;rw[ex];exact es,q⟩
 |tup l=>exact Ck h af s U H R I ⟨B,Y,ds,sB,r,by unfold FZ;rw[ex];exact es,q⟩
 |str z=>
  cases es
  refine Ge h af s U H R I ⟨B,Y,_,_,sB,r,ex,λv H1 N1 x1 i1 _=>?_⟩;cases i1
  exact⟨z,rfl,q _ H1 N1 x1 (Gf z)⟩
 |_=>cases es
theorem JD:Fd X (λx lo hi H Q=>∃z,x=.str z/\z.length<=sizeLine/\Q (.str (Txt.slice z lo hi)) H):=by
 intro af s U H x v vl vu lo hi sl Q I rx hs pl pu h;obtain⟨z,rfl,hz,q⟩:=h;obtain⟨t,rfl⟩:=rx;have j9:∀lo hi,Q (.str (Txt.slice z lo hi)) H->(Txt.slice z lo hi).length<=sizeLine/\∀t' k,EP X af U Q (.str (Txt.slice z lo hi) t') { s with toks:=k }:=λlo hi q=>
  ⟨vR (Txt.slice_le z _ _) hz,λt' k=>⟨.str _,H,I.tok k,⟨t',rfl⟩,q⟩⟩
 refine⟨"str",_,PySem.F.slot_str_getitem.lookup,typeIs_str _ _ _,?_⟩;cases pl with
 |none=>
  cases pu with
  |none=>exact wpAny_getItem_str_slice (l:=none) (u:=none) (st:=none) hs rfl (post_val_or_str (j9 _ _ q))
  |int j tj=>exact wpAny_getItem_str_slice (l:=none) (u:=some (j,tj)) (st:=none) hs rfl (post_val_or_str (j9 _ _ q))
 |int i ti=>
  cases pu with
  |none=>exact wpAny_getItem_str_slice (l:=some (i,ti)) (u:=none) (st:=none) hs rfl (post_val_or_str (j9 _ _ q))
  |int j tj=>exact wpAny_getItem_str_slice (l:=some (i,ti)) (u:=some (j,tj)) (st:=none) hs rfl (post_val_or_str (j9 _ _ q))
theorem Eg {A:Around}{E:Value->Shared->Prop}{s:Shared}{prog:Program}{w:World}{t sl:Addr}{items:Array Value}{vl vu:Value}{lo hi:Option Int}{Q:Value->Shared->Prop}(ht:IsTup s.heap t items)(hs:s.heap.IsSliceOf sl vl vu .none)(pl:IsPart vl lo)(pu:IsPart vu hi)
  (h0:HT.dZ items.size 0 lo=0) (h1:HT.dZ items.size items.size hi=items.size) (h:Q (.ref t) s):wpAny (model prog w) A (getItem (.ref t) (.ref sl)) Q E s:=by
 obtain⟨os,KZ,ye,OO⟩:=id hs
 have hT:s.TypeIs (.ref sl) "slice":=⟨os,KZ,ye⟩
 unfold getItem
 try with_reducible refine wpAny_holding ?_
 first|refine wX (wY ?_)|skip
 refine wX (wpAny_sequenceKey ht.typeIs (by decide) ?_)
 refine wX (wpAny_callSpecial?_slot (name:=Str.ofString "__getitem__") ht.typeIs PyProof.Rows.slot_tuple_getitem (wpAny_call_entry PyProof.Rows.slot_tuple_getitem ht.typeIs entry_tuple_getitem ?_ (args_tuple_getitem _ _)))
 show wpAny _ _ (Builtin.Tuple.tupleItemsOf (.ref t)>>=_) _ _ s
 refine wX (tupleItemsOf_ ht ?_)
 refine wX (wpAny_typeOf hT ?_)
 rw[if_pos (by decide)]
 refine wX (HT.jC hs pl pu ?_)
 have Zy:(((HT.dZ items.size 0 lo:Nat):Int) == 0 && (1:Int) == 1 && (HT.dZ items.size items.size hi - HT.dZ items.size 0 lo) == items.size)=true:=by
  rw[h0,h1];simp
 show wpAny _ _ (if(((HT.dZ items.size 0 lo:Nat):Int) == 0 && (1:Int) == 1 && (HT.dZ items.size items.size hi - HT.dZ items.size 0 lo) == items.size)=true then _ else _) _ _ s
 rw[if_pos Zy]
 refine wX ?_
 unfold Builtin.Tuple.tupleIsExact
 refine wX (wpAny_typeOf ht.typeIs (wY ?_))
 show wpAny _ _ (if((Value.type "tuple") == Value.type "tuple")=true then _ else _) _ _ s
 rw[if_pos (by decide)]
 refine wX (wpAny_rule ?_)
 exact wY ⟨_,rfl,wY h⟩
theorem JF:Fd X (λx lo hi H Q=>∃a xs,x=.ref a/\jB X.K H a xs/\HT.dZ xs.length 0 lo=0/\HT.dZ xs.length xs.length hi=xs.length/\Q (.ref a) H):=by
 intro af s U H x v vl vu lo hi sl Q I rx hs pl pu h;obtain⟨a,xs,rfl,hx,h0,h1,q⟩:=h;cases rx
 obtain⟨its,r,ht,hz⟩:=I.tuple hx;have bP:its.toArray.size=xs.length:=by rw[vH];exact r.length.symm
 refine⟨"tuple",_,PyProof.Rows.slot_tuple_getitem.lookup,ht.typeIs,?_⟩;exact Eg ht hs pl pu (by rw[bP];exact h0) (by rw[bP];exact h1) ⟨.ref a,H,I,rfl,q⟩
@[simp] def Gg (fa:FE)(fl fh:FO):FE:=λY=>(fa Y).bind λx=>(fl Y).bind λl=>(fh Y).bind λh=>match x.1 with
 |.lst ds=>some (.lst (oK ds l h),true)
 |.tup ds=>some (.tup (oK ds l h),false)
 |.str z=>if z.length<=sizeLine then some (.str (Txt.slice z l h),false)else none
 |_=>none
theorem Bd {ds:List D}{lo hi:Option Int}(h0:HT.dZ ds.length 0 lo=0)(h1:HT.dZ ds.length ds.length hi=ds.length):oK ds lo hi=ds:=by
 unfold oK;rw[h0,h1];simp
theorem qP {lo hi:Option Expr}{p2:Pos}{fa:FE}{fl fh:FO}(ha:JE X e fa)(hl:JO X lo fl)(hh:JO X hi fh):JE X (.Subscript e (.Slice lo hi none p2) pos) (Gg fa fl fh):=by
 refine PE.to (Fy (Fd.or (Fd.or Jd Nr) (Fd.or JD JF)) ha hl hh) λU H Q q=>?_;obtain⟨B,Y,d,b,sB,r,e,q⟩:=q;obtain⟨x,ex,e⟩:=oX e;obtain⟨l,el,e⟩:=oX e;obtain⟨h,eh,e⟩:=oX e;refine⟨B,Y,x.1,x.2,sB,r,ex,λv H1 N1 x1 i1 _=>⟨N1,Y,l,x1.nh,r.mono x1.bn,el,λH2 h2=>⟨N1,Y,h,x1.nh.trans h2,r.mono x1.bn,eh,λH3 h3=>?_⟩⟩⟩;have s3:bg N1 H3:=x1.nh.trans (h2.trans h3);have q3:=q.into (x1.trans (.grow x1.nh (h2.trans h3)));obtain⟨xd,xb⟩:=x;dsimp only at e i1;cases i1 with
 |@tup a' vs ds hs hv=>
  cases e
  by_cases hw:HT.dZ ds.length 0 l=0/\HT.dZ ds.length ds.length h=ds.length
  ·rw[Bd hw.1 hw.2]at q3;exact .inr (.inr ⟨a',vs,rfl,b7 s3 hs,by rw[hv.length];exact hw.1,by rw[hv.length];exact hw.2,q3.one s3 (.tup hs hv)⟩)
  ·refine .inl (.inr ⟨a',vs,rfl,b7 s3 hs,by rw[hv.length];exact hw,λp hp=>?_⟩);have x4:=Ext.laid (o:=.tup (t8 vs l h)) s3 hp;exact q3 _ _ _ x4 (.tup (jB.of aJ) ((wU hv).mono x4.bn)) (by simp)
 |@lst a' vs ds hs hv=>
  cases e
  refine .inl (.inl ⟨a',vs,rfl,s3.seq hs,λp hp=>?_⟩);have x4:=Ext.laid (o:=.lst (t8 vs l h)) s3 hp;exact q3 _ _ _ x4 (.lst (jl.of aJ) ((wU hv).mono x4.bn)) λ_=>⟨p,_,_,rfl,rfl,hp,aJ,(wU hv).mono x4.bn⟩
 |str z=>
  dsimp only at e;split at e
  ·rename_i hz;cases e
   exact .inr (.inl ⟨z,rfl,hz,q3.one s3 (.str _)⟩)
  ·cases e
 |_=>cases e
noncomputable def xf:Value->D->Bool
 |.none,.non=>true
 |.bool a,.bl b=>a == b
 |.int i _,.int j=>decide (i=j)
 |.str i _,.str j=>decide (i=j)
 |_,_=>false
def kg:List Value->List D->Bool
 |[],[]=>true
 |u::us,d::ds=>xf u d && kg us ds
 |_,_=>false
theorem lI {K:Frag}{B:Hp}:∀ {u:Value}{d:D},xf u d=true->∃v,bf v u/\Is K B v d
 |.none,.non,_=>⟨.non,rfl,.non⟩
 |.bool a,.bl b,h=>by
  have:a=b:=eq_of_beq h;subst this;exact⟨.bl a,rfl,.bl a⟩
 |.int i t,.int j,h=>by
  have:i=j:=of_decide_eq_true h;subst this;exact⟨.int i,⟨t,rfl⟩,.int i⟩
 |.str i t,.str j,h=>by
  have:i=j:=of_decide_eq_true h;subst this;exact⟨.str i,⟨t,rfl⟩,.str i⟩
theorem kh {K:Frag}:∀ {us:List Value}{ds:List D},kg us ds=true->∃vs,L2.bp vs us/\∀B,IsL K B vs ds
 |[],[],_=>⟨[],.nil,λ_=>.nil⟩
 |u::us,d::ds,h=>by
  rw[kg,vC]at h;obtain⟨vs,r,i⟩:=kh (K:=K) h.2;obtain⟨v,r1,_⟩:=lI (K:=K) (B:=λ_=>none) h.1;refine⟨v::vs,.cons r1 r,λB=>?_⟩;obtain⟨v',Ia,i'⟩:=lI (K:=K) (B:=B) h.1;have:v'=v:=by have z1:=r1.abs;rw[Ia.abs]at z1;exact vK z1
  subst this;exact .cons i' (i B)
theorem const_tup {K:Frag}{y:Str}{a:Addr}{od:Option Addr}{its:Array Value}{n:Nat}{pY:Array (Option Value)}{ds:List D}(e:nsIn K mainGlobals y=some (some (.ref a)))
  (l:K.lookup a=some ⟨.type "tuple",od,.seq its n,pY⟩) (h:(decide (its.size<=1000) && kg its.toList ds)=true):∃u v,nsIn K mainGlobals y=some (some u)/\bf v u/\∀B,Is K B v (.tup ds):=by
 rw[vC]at h;obtain⟨vs,r,i⟩:=kh (K:=K) h.2;exact⟨_,.ref a,e,rfl,λB=>.tup (.inr ⟨_,its,n,l,rfl,rfl,Nat.le_of_lt (Nat.lt_of_le_of_lt (of_decide_eq_true h.1) (by decide)),r⟩) (i B)⟩
end
section
variable {X:Cx}{a b o e:Expr}{pos:Pos}{x:Str}{p:Pos}{tg:Expr}
theorem NX {name:Str}{id:String}{dP cN:Pos}{op:D->D->OB}{fo fe:FE}(slot:Slot "str" name id)(Mw:typeOf (.builtin id)=pure (.type "method_descriptor"))
  (hm:Jb X id (λx xs H Q=>∃y,xs=[y]/\rD X.K op x y H Q)) (Ib:∀dx dy r,op dx dy=some r->∃z,dx=.str z) (ho:JE X o fo) (he:JE X e fe)
  (ji:attributeBase o name X.env (eval o X.env)=eval o X.env:=by rfl)
  (BM:((backTo cN (starEach [e] X.env)).all (λx=>!x.1) && (backToKw cN (keywordEach [] X.env)).all (λx=>x.1.isSome)
   && decide ([e].length+([]:List Keyword).length+(if([]:List Keyword).isEmpty then 0 else 1)<30))=true:=by rfl)
  (jj:(dP.endLine == cN.line)=true:=by rfl) (hs:starEach [e] X.env=[(false,eval e X.env)]:=by rfl):
  JE X (.Call (.Attribute o name dP) [e] [] cN) (f2 op fo fe):=by
 refine PE.to (F3 PySem.F.plainAttrs_str slot Mw hm ho (jm he kR hs) ji BM jj hs rfl) λU H Q q=>?_;obtain⟨B,Y,d,bb,sB,r,ee,q⟩:=q;obtain⟨x1,ex,ee⟩:=oX ee;obtain⟨y1,ey,ee⟩:=oX ee;obtain⟨z,hz⟩:=Ib _ _ _ ee;refine⟨B,Y,x1.1,x1.2,sB,r,ex,λv H1 N1 Vn i1 _=>?_⟩;rw[hz]at i1;cases i1
 refine⟨show "str" = "str" from rfl,N1,Y,y1.1,y1.2,Vn.nh,r.mono Vn.bn,ey,λv2 H2 N2 Se i2 _=>⟨v2,rfl,N2,.str z,y1.1,d,bb,Se.nh,.str z,i2,by rw[←hz];exact ee,q.into (Vn.trans Se)⟩⟩
@[simp] noncomputable def NY:D->Option Str
 |.str z=>some z
 |_=>none
def iq:List D->Option (List Str)
 |[]=>some []
 |d::ds=>(NY d).bind λz=>(iq ds).map (z :: ·)
@[simp] theorem P2:iq []=some []:=rfl
@[simp] theorem Be (d:D)(ds:List D):iq (d::ds)=(NY d).bind λz=>(iq ds).map (z :: ·):=rfl
@[simp] theorem P4 (zs:List Str):iq (zs.map D.str)=some zs:=by
 induction zs with
 |nil=>rfl
 |cons z zs ih=>simp[ih]
theorem lb {K:Frag}{B:Hp}:∀ {vs:List V}{ds:List D}{zs:List Str}{its:List Value},L2.bp vs its->IsL K B vs ds->iq ds=some zs->StrsAre its zs
 |_,_,_,_,.nil,.nil,e=>by cases e;exact .nil
 |_,_,_,_,.cons r rr,.cons i ii,e=>by
  rw[Be]at e;obtain⟨z,e1,e⟩:=oX e;obtain⟨zs,e2,e⟩:=oY e;subst e;cases i<;>simp only[NY]at e1<;>try (cases e1;done)
  cases e1
  obtain⟨t,rfl⟩:=r;exact .cons _ t (lb rr ii e2)
@[simp] def p8:D->D->OB
 |.str sep,.lst ds=>(iq ds).bind λzs=>if(zs.map (·.length)).sum+zs.length*sep.length<=16777216 then some (.str (Txt.join sep zs),false)else none
 |.str sep,.tup ds=>(iq ds).bind λzs=>if(zs.map (·.length)).sum+zs.length*sep.length<=16777216 then some (.str (Txt.join sep zs),false)else none
 |_,_=>none
theorem NZ:Jb X "str.join" (λx xs H Q=>∃y,xs=[y]/\rD X.K p8 x y H Q):=by
 intro af s U H x xs v us Q I rx rs h;obtain⟨y,rfl,B,dx,dy,d,bb,sB,ix,iy,ee,q⟩:=h;obtain⟨u1,rfl,r1⟩:=iH rs;cases ix<;>(try (simp[p8]at ee;done))
 obtain⟨t,rfl⟩:=rx;cases iy<;>(try (simp[p8]at ee;done))
 ·rename_i h hl;simp only[p8]at ee;obtain⟨zs,ez,ee⟩:=oX ee;split at ee
  ·rename_i hok;cases ee
   cases r1
   obtain⟨its,rv,p1,z1⟩:=I.tuple (b7 sB h);exact join_tuple p1 (by simpa using lb rv hl ez) hok λt' k=>⟨.str _,H,I.tok k,⟨t',rfl⟩,q.one sB (.str _)⟩
  ·cases ee
 ·rename_i h hl;simp only[p8]at ee;obtain⟨zs,ez,ee⟩:=oX ee;split at ee
  ·rename_i hok;cases ee
   cases r1
   obtain⟨its,rv,p1,z1⟩:=I.list (sB.seq h);exact join_list p1.isList (by simpa using lb rv hl ez) hok λt' k=>⟨.str _,H,I.tok k,⟨t',rfl⟩,q.one sB (.str _)⟩
  ·cases ee
theorem Gh (dx dy:D)(r:D×Bool)(h:p8 dx dy=some r):∃z,dx=.str z:=by
 cases dx<;>first|exact⟨_,rfl⟩|(cases dy<;>simp[p8]at h)
noncomputable def gm:List Nat->List D->Env->Option Env
 |[],[],Y=>some Y
 |i::is,d::ds,Y=>gm is ds (Y.set i (some (d,false)))
 |_,_,_=>none
@[simp] theorem uu (Y:Env):gm [] [] Y=some Y:=by rw[gm]
@[simp] theorem mG (i:Nat)(is:List Nat)(d:D)(ds:List D)(Y:Env):gm (i::is) (d::ds) Y=gm is ds (Y.set i (some (d,false))):=by rw[gm]
@[simp] theorem Rm (d:D)(ds:List D)(Y:Env):gm [] (d::ds) Y=none:=by simp only[gm]
@[simp] theorem Rn (i:Nat)(is:List Nat)(Y:Env):gm (i::is) [] Y=none:=by simp only[gm]
@[simp] def P5 (is:List Nat):FG:=λd Y=>match d with|.tup ds=>gm is ds Y|_=>none
def mH:List Nat->Lp
 |[]=>Q0
 |i::is=>Lq (kF i) (mH is)
theorem Gi:bg (eC N (own U Y)) (eC N (own (U.set i (some v)) (Y.set i (some (d,false))))):=fu λa u e q=>⟨e,λz=>q (by
 rcases wN z with⟨_,d',p⟩|⟨j,_,d',q1,q2⟩
 ·cases p
 ·exact⟨j,d',q1,q2⟩)⟩
theorem lJ {K:Frag}:∀ {is:List Nat}{vs:List V}{ds:List D}{B0 H0 N H:Hp}{U:St}{Y ρ':Env}{Q:St->Hp->Prop},eU K B0 H0 N H U Y->IsL K (eC N (own U Y)) vs ds->gm is ds Y=some ρ'->(∀σ',eU K B0 H0 N H σ' ρ'->Q σ' H)->mH is vs U H Q
 |[],_,_,_,_,_,_,_,_,_,_,s,.nil,e,k=>by
  rw[uu]at e;cases e;exact⟨rfl,k _ s⟩
 |[],_,_,_,_,_,_,_,_,_,_,_,.cons _ _,e,_=>by simp at e
 |_::_,_,_,_,_,_,_,_,_,_,_,_,.nil,e,_=>by simp at e
 |i::is,_,_,_,_,_,_,_,_,_,_,s,.cons h hs,e,k=>by
  rw[mG]at e;exact⟨_,_,rfl,lJ (s.bind h) (hs.mono Gi) e k⟩
theorem lK:∀ {is:List Nat}{ds:List D}{Y ρ':Env},gm is ds Y=some ρ'->ds.length=is.length
 |[],[],_,_,_=>rfl
 |_::_,_::_,_,_,e=>by rw[mG]at e;simp[lK e]
 |[],_::_,_,_,e=>by simp at e
 |_::_,[],_,_,e=>by simp at e
theorem Ro {K:Frag}{is:List Nat}:Jo K (P5 is) (MZ K is.length (mH is)):=by
 intro B0 H0 N H U Y ρ' v d Q s h e k;cases h with
 |@tup a vs ds ht hl=>
  have e':gm is ds Y=some ρ':=e;exact⟨a,vs,rfl,b7 (ce.trans s.ext.nh) ht,by rw[hl.length];exact lK e',lJ s hl e' λσ' s'=>k σ' H ⟨N,s'⟩⟩
 |_=>cases e
theorem uw {K:Frag}{n:Nat}{B H:Hp}{ρ0:Env}{Q:St->Hp->Prop}(cl:∀i,i<n->ρ0[i]? = some none):∀ {is:List Nat}{vs:List V}{ds:List D}{U:St}{Y ρ1:Env},(∀i∈is,i<n)->gf K B U Y->IsL K B vs ds->gm is ds Y=some ρ1->Y.length=U.length->Y.length=ρ0.length ->
  (∀σ1,gf K B σ1 ρ1->(∀B',gf K B' U ρ0->gf K B' σ1 ρ0)->ρ0.length=σ1.length->Q σ1 H)->mH is vs U H Q
 |[],_,_,_,_,_,_,rp,.nil,e,l1,l2,k=>by
  rw[uu]at e;cases e;exact⟨rfl,k _ rp (λ_ z=>z) (by omega)⟩
 |[],_,_,_,_,_,_,_,.cons _ _,e,_,_,_=>by simp at e
 |_::_,_,_,_,_,_,_,_,.nil,e,_,_,_=>by simp at e
 |i::is,_,_,U,Y,_,hn,rp,.cons (v:=v) h hs,e,l1,l2,k=>by
  rw[mG]at e;have hi:=hn i mX;have EO:i<U.length:=by
   have:=(vV (cl i hi)).1;omega
  refine⟨_,_,rfl,uw cl (λj hj=>hn j (mZ _ hj)) ⟨rp.tb,λj d b q=>?_⟩ hs e (by simpa using l1) (by simpa using l2) λσ1 r1 r2 l=>k σ1 r1 (λB' z=>r2 B' ⟨z.tb,λj d b q=>?_⟩) l⟩
  ·rcases c6 q with⟨rfl,pp⟩|⟨ne,pp⟩
   ·cases pp
    exact⟨v,by simp[EO],h⟩
   ·obtain⟨w,h1,h2⟩:=rp.at' j d b pp;exact⟨w,by rw[vB ne];exact h1,h2⟩
  ·obtain⟨w,h1,h2⟩:=z.at' j d b q;have ne:i≠j:=λz=>by subst z;rw[cl i hi]at q;cases q
   exact⟨w,by rw[vB ne];exact h1,h2⟩
theorem LV {K:Frag}{n:Nat}{is:List Nat}(hn:∀i∈is,i<n):L4 K n (P5 is) (MZ K is.length (mH is)):=by
 intro B H U Y ρ1 v d Q cl rep s h e hl k;cases h with
 |@tup a vs ds ht hv=>
  have e':gm is ds Y=some ρ1:=e;exact⟨a,vs,rfl,b7 s ht,by rw[hv.length];exact lK e',uw cl hn rep hv e' hl rfl k⟩
 |_=>cases e
end
section
variable {prog:Program}{w:World}{A:Around}{E:Value->Shared->Prop}{s:Shared}
theorem Bf (st:s.heap.IsTupleIter it l i)(ht:s.heap.IsTuple l items)(hv:items[i]? = some v)
  (k:∀h',h'.IsTupleIter it l (i+1)->Heap.SameBut it s.heap h'->Q v { s with heap:=h' }):wpAny (model prog w) A (Builtin.SmallTypes.nextOf (.ref it)) Q E s:=by
 obtain⟨o1,g1,c1,d1⟩:=id st;obtain⟨o2,g2,_,n2,d2⟩:=ht;unfold Builtin.SmallTypes.nextOf;refine wX (wpAny_callSpecial?_slot (name:=Str.ofString "__next__") st.typeIs PySem.F.slot_tuple_iterator_next (wpAny_call_entry PySem.F.slot_tuple_iterator_next st.typeIs PySem.F.entry_tuple_iterator_next ?_ (PySem.F.args_tuple_iterator_next_1 _)));show wpAny _ _ (field (.ref it) 0>>=_) _ _ _;refine wX (wpAny_field g1 d1 (x:=.ref l) rfl ?_);show wpAny _ _ (if(Value.ref l == Value.none)=true then _ else _) _ _ _;rw[if_neg (λz=>uX z:¬((Value.ref l == Value.none)=true))];show wpAny _ _ (field (.ref it) 1>>=_) _ _ _;refine wX (wpAny_field g1 d1 (x:=.int i 0) rfl ?_);show wpAny _ _ (seqItems? (.ref l)>>=_) _ _ _;refine wX (wpAny_seqItems g2 d2 ?_);simp only[hv,Int.toNat_natCast];refine wX (wpAny_setField g1 d1 (by simp) (wY ⟨v,rfl,wY (k _ ?_ (vW ..))⟩));exact⟨_,Heap.get?_update_self _ g1 (Obj.isFreed_of_fields (Obj.data_mapFields d1 _)),(Obj.cls_mapFields ..).trans c1,by rw[Obj.data_mapFields d1];simp[rawInt]⟩
theorem Eh (hA:A.handled=none)(st:s.heap.IsTupleIter it l i)(ht:s.heap.IsTuple l items)(hv:items[i]? = none)
  (k:∀h' x,Heap.ExtBut it s.heap h'->(∃o,h'.get? x=some o/\o.cls=.type "StopIteration")->E (.ref x) { s with heap:=h' }):wpAny (model prog w) A (Builtin.SmallTypes.nextOf (.ref it)) Q E s:=by
 obtain⟨o1,g1,c1,d1⟩:=id st;obtain⟨o2,g2,_,n2,d2⟩:=ht;unfold Builtin.SmallTypes.nextOf;refine wX (wpAny_callSpecial?_slot (name:=Str.ofString "__next__") st.typeIs PySem.F.slot_tuple_iterator_next (wpAny_call_entry PySem.F.slot_tuple_iterator_next st.typeIs PySem.F.entry_tuple_iterator_next ?_ (PySem.F.args_tuple_iterator_next_1 _)));show wpAny _ _ (field (.ref it) 0>>=_) _ _ _;refine wX (wpAny_field g1 d1 (x:=.ref l) rfl ?_);show wpAny _ _ (if(Value.ref l == Value.none)=true then _ else _) _ _ _;rw[if_neg (λz=>uX z:¬((Value.ref l == Value.none)=true))];show wpAny _ _ (field (.ref it) 1>>=_) _ _ _;refine wX (wpAny_field g1 d1 (x:=.int i 0) rfl ?_);show wpAny _ _ (seqItems? (.ref l)>>=_) _ _ _;refine wX (wpAny_seqItems g2 d2 ?_);simp only[hv,Int.toNat_natCast];refine wX (wpAny_rule (wX (wpAny_setField g1 d1 (by simp) ?_)));show wpAny _ _ (newExc (.type "StopIteration") []>>=_) _ _ _;refine wX ?_;simp only[newTuple,newExc];refine wX (wpAny_newObj_type ?_ (by size_fits));refine wX (m:=firstArgMember _ _) (wpAny_of_eq (a:=Value.none) (by first|(simp only[firstArgMember];rfl)|rfl) ?_);refine wpAny_newObj_type ?_ (by size_fits);simp only[raiseNew];refine wX (wpAny_handled ?_);first|rw[hA]|rw[show A.in1.handled=none from hA]
 exact wX (wY (wpAny_throw (k _ _ (((vW ..).extBut.push _).push _) ⟨_,vY _ rfl,rfl⟩)))
end
def Cn:Bool->Heap->Addr->Addr->Nat->Prop
 |true,h,it,a,i=>h.IsListIter it a i
 |false,h,it,a,i=>h.IsTupleIter it a i
def A5:Bool->Heap->Addr->Array Value->Prop
 |true,h,a,items=>h.IsList a items
 |false,h,a,items=>h.IsTuple a items
def A6 (k:Bool)(K:Frag)(H:Hp)(a:Addr)(xs:List V):Prop:=match k with|true=>jl K H a xs|false=>jB K H a xs
theorem Cn.ob (st:Cn k h it a i):∃o,h.get? it=some o/\∀v,o.data≠.cell v:=by
 cases k<;>(obtain⟨o,g,_,d⟩:=st;exact⟨o,g,λv z=>by rw[d]at z;cases z⟩)
theorem Cn.upon (st:Cn k h it a i)(g:∀o,h.get? it=some o->h'.get? it=some o):Cn k h' it a i:=by
 cases k<;>(obtain⟨o,e,r⟩:=st;exact⟨o,g o e,r⟩)
theorem A5.upon (st:A5 k h a items)(g:∀o,h.get? a=some o->h'.get? a=some o):A5 k h' a items:=by
 cases k<;>(obtain⟨o,e,r⟩:=st;exact⟨o,g o e,r⟩)
theorem A5.lt (st:A5 k h a items):a<h.objs.size:=by
 cases k<;>(obtain⟨o,e,r⟩:=st;exact vX e)
theorem A6.same {k:Bool}{K:Frag}{H H':Hp}{a:Addr}{xs:List V}(h:A6 k K H a xs)(e:bg H H'):A6 k K H' a xs:=by
 cases k
 ·exact b7 e h
 ·exact e.seq h
theorem A6.vals (I:Inv X af U H s)(h:A6 k X.K H a xs):∃its:List Value,bp xs its/\A5 k s.heap a its.toArray/\xs.length<=sizeLine:=by
 cases k
 ·exact I.tuple h
 ·obtain⟨its,r,p,z⟩:=I.list h;exact⟨its,r,p.isList,z⟩
theorem A6.inj (I:Inv X af U H s)(h:A6 k X.K H a xs)(h':A6 k X.K H a ys):xs=ys:=by
 cases k
 ·exact I.tuple_inj h h'
 ·exact I.list_inj h h'
section
variable {prog:Program}{w:World}{A:Around}{E:Value->Shared->Prop}{s:Shared}
theorem Ei (st:Cn k s.heap it l i)(ht:A5 k s.heap l items)(hv:items[i]? = some v)
  (q:∀h',Cn k h' it l (i+1)->Heap.SameBut it s.heap h'->Q v { s with heap:=h' }):wpAny (model prog w) A (Builtin.SmallTypes.nextOf (.ref it)) Q E s:=by
 cases k
 ·exact Bf st ht hv q
 ·exact wpAny_nextOf_list_item st ht hv q
theorem yR (hA:A.handled=none)(st:Cn k s.heap it l i)(ht:A5 k s.heap l items)(hv:items[i]? = none)
  (q:∀h' x,Heap.ExtBut it s.heap h'->(∃o,h'.get? x=some o/\o.cls=.type "StopIteration")->E (.ref x) { s with heap:=h' }):wpAny (model prog w) A (Builtin.SmallTypes.nextOf (.ref it)) Q E s:=by
 cases k
 ·exact Eh hA st ht hv q
 ·exact wpAny_nextOf_list_end hA st ht hv q
end
noncomputable def Oa (k:Bool)(l:Addr):Obj:={ cls:=.type (if k=true then "list_iterator" else "tuple_iterator"),data:=.fields #[.ref l,.int 0 0] }
theorem xg (ht:A5 k s.heap l items)
  (q:Q (.ref s.heap.objs.size) { s with heap:=s.heap.push (Oa k l) }):wpAny (model prog w) A (pyIter (.ref l)) Q E s:=by
 cases k
 ·exact wpAny_pyIter_tuple ht q
 ·exact wpAny_pyIter_list ht q
theorem A5.push (st:A5 k h a items)(o:Obj):A5 k (h.push o) a items:=st.upon λ_ e=>vZ _ e
theorem qw {X:Cx}{af:List (Addr×Obj)}{U:St}{H:Hp}{s:Shared}{h':Heap}{t':Nat}{ch:List Addr}(I:Inv X af U H s)(f:∀b∈ch,oC X af H b)(k:∀b o,b∉ch->s.heap.get? b=some o->h'.get? b=some o):Inv X af U H { s with heap:=h',toks:=t' }:=by
 have Mt:∀b u,H b=some u->b∉ch:=λb u e z=>by rw[(f b z).1]at e;cases e
 refine I.step (g':=s.gens) (d':=s.drawn) (ch:=ch) (λb hb=>?_) (λb o _ _ hc e _=>k b o hc e) (λb o _ _ hc e _=>⟨o.slots,k b o hc e⟩) (λ_ _ _ _ n=>n)
  (λb o hc e=>⟨o,k b o hc e⟩) (λ_ _ e=>e) (λ_ _ _ e=>e) (λ_ _ e=>e) (λm hm=>?_) (λb u e=>?_) I.bare
 ·obtain⟨_,f1,_,f3,f4,f5⟩:=f b hb;exact⟨f3,f1,f4,f5⟩
 ·obtain⟨o,es,ep,ho,r⟩:=hm;exact⟨o,es,ep,k _ o (λz=>(f _ z).2.1 rfl) ho,r⟩
 ·refine(I.hok b u e).stay (λc v hc q=>k c v ?_ q) (λ_ q=>q) (λ_ _ q=>q) λ_ _ _ q=>q;rcases hc with z|z
  ·rw[z];exact Mt b u e
  ·exact Mt c _ z
theorem LW {X:Cx}{af:List (Addr×Obj)}{U:St}{H:Hp}{s:Shared}{h':Heap}{t':Nat}{ch:List Addr}{a:Addr}{ob:HO}(I:Inv X af U H s)(f:∀b∈ch,oC X af H b)(k:∀b o,b∉ch->s.heap.get? b=some o->h'.get? b=some o)(ha:s.heap.objs.size<=a)
  (new:bZ X.prog X.w (upd H a ob) h' a ob):Inv X af U (upd H a ob) { s with heap:=h',toks:=t' }:=by
 have hn:H a=none:=I.hok.fresh ha;have Mt:∀b u,H b=some u->b∉ch:=λb u e z=>by rw[(f b z).1]at e;cases e
 have na:∀b o,s.heap.get? b=some o->b≠a:=λb o e=>vS (vQ (vX e) ha);refine I.step (g':=s.gens) (d':=s.drawn) (ch:=ch) (λb hb=>?_) (λb o _ _ hc e _=>k b o hc e) (λb o _ _ hc e _=>⟨o.slots,k b o hc e⟩) (λb o _ e n=>by rw[aP (na b o e)];exact n)
  (λb o hc e=>⟨o,k b o hc e⟩) (λb xs e=>by rw[aP (bi e hn)];exact e) (λb o u e=>by rw[aP (bi e hn)];exact e) (λb ps e=>by rw[aP (bi e hn)];exact e) (λm hm=>?_) (λb u e=>?_) I.bare
 ·obtain⟨_,f1,_,f3,f4,f5⟩:=f b hb;exact⟨f3,f1,f4,f5⟩
 ·obtain⟨o,es,ep,ho,r⟩:=hm;exact⟨o,es,ep,k _ o (λz=>(f _ z).2.1 rfl) ho,r⟩
 ·by_cases hb:b=a
  ·subst hb;rw[aJ]at e;cases e;exact new
  ·rw[aP hb]at e;refine(I.hok b u e).stay (λc v hc q=>k c v ?_ q) (λc q=>?_) (λc xs q=>?_) λc o xs q=>?_
   ·rcases hc with z|z
    ·rw[z];exact Mt b u e
    ·exact Mt c _ z
   ·rw[aP (bi q hn)];exact q
   ·rw[aP (bi q hn)];exact q
   ·rw[aP (bi q hn)];exact q
section
variable {X:Cx}{a b e:Expr}{pos:Pos}{p:Pos}
noncomputable def Uv (xs ys:List D):List D:=List.zipWith (λx y=>.tup [x,y]) xs ys
@[simp] def Uw (fa fb:FE):FA:=λY=>(fa Y).bind λx=>(fb Y).bind λy=>(gk x.1).bind λxs=>(gk y.1).map λys=>Uv xs ys
theorem LX {K:Frag}{B:Hp}{v:V}{d:D}{ds:List D}(h:Is K B v d)(e:gk d=some ds):∃k a vs,v=.ref a/\A6 k K B a vs/\IsL K B vs ds:=by
 cases h with
 |tup ht hl=>cases e;exact⟨false,_,_,rfl,ht,hl⟩
 |lst ht hl=>cases e;exact⟨true,_,_,rfl,ht,hl⟩
 |_=>cases e
end
noncomputable def unown1 (Y:Env)(i:Nat):Env:=match Y[i]? with
 |some (some (d,true))=>Y.set i (some (d,false))
 |_=>Y
theorem eU.unown1 {K:Frag}{B0 H0 N H:Hp}{U:St}{Y:Env}(s:eU K B0 H0 N H U Y)(i:Nat):eU K B0 H0 N H U (unown1 Y i):=by
 unfold DL.unown1;split
 ·rename_i d hd;obtain⟨a,ob,h1,h2,h3,h4⟩:=s.ow i d hd;have get:∀ {j:Nat}{e:D}{b:Bool},(Y.set i (some (d,false)))[j]? = some (some (e,b))->(i=j/\e=d/\b=false)∨(i≠j/\Y[j]? = some (some (e,b))):=λq=>by
   rcases c6 q with⟨z,p⟩|⟨z,p⟩
   ·cases p;exact .inl ⟨z,rfl,rfl⟩
   ·exact .inr ⟨z,p⟩
  have o:∀c,own U (Y.set i (some (d,false))) c->own U Y c/\c≠a:=λc ⟨j,e,q1,q2⟩=>by
   rcases get q1 with⟨_,_,z⟩|⟨ne,q⟩
   ·cases z
   ·exact⟨⟨j,e,q,q2⟩,λz=>by subst z;exact ne (s.inj i j _ _ _ hd q h1 q2)⟩
  have c:bg (eC N (own U Y)) (eC N (own U (Y.set i (some (d,false))))):=fu λb u e q=>⟨e,λz=>q (o b z).1⟩;have na:¬own U (Y.set i (some (d,false))) a:=λz=>(o a z).2 rfl;refine⟨s.bh,s.tb,s.ext,by rw[List.length_set];exact s.len,λj e q=>?_,λj e q=>?_,λj k b e f q q' z1 z2=>?_⟩
  ·rcases get q with⟨rfl,rfl,_⟩|⟨_,q⟩
   ·exact⟨_,h1,(h4.mono c).is (by rw[cV na];exact h2)⟩
   ·obtain⟨v,k1,k2⟩:=s.sh j e q;exact⟨v,k1,k2.mono c⟩
  ·rcases get q with⟨_,_,z⟩|⟨_,q⟩
   ·cases z
   ·obtain⟨a',o',k1,k2,k3,k4⟩:=s.ow j e q;exact⟨a',o',k1,k2,k3,k4.mono c⟩
  ·rcases get q with⟨_,_,z⟩|⟨_,q⟩
   ·cases z
   ·rcases get q' with⟨_,_,z⟩|⟨_,q'⟩
    ·cases z
    ·exact s.inj j k b e f q q' z1 z2
 ·exact s
@[simp] noncomputable def Rp (is:List Nat)(g:FS):FS:=λY=>g (is.foldl unown1 Y)
theorem eU.unowns {K:Frag}{B0 H0 N H:Hp}{U:St}:∀(is:List Nat){Y:Env},eU K B0 H0 N H U Y->eU K B0 H0 N H U (is.foldl DL.unown1 Y)
 |[],_,s=>s
 |i::is,_,s=>eU.unowns is (s.unown1 i)
theorem Ob {K:Frag}{is:List Nat}{g:FS}{E:Ends}{U:St}{H:Hp}(q:oG K (Rp is g) E U H):oG K g E U H:=by
 obtain⟨B0,H0,Y,r,⟨N,s⟩,e,p⟩:=q;exact⟨B0,H0,_,r,⟨N,s.unowns is⟩,e,p⟩
theorem LY {X:Cx}{st:Stmt}{g:FS}(is:List Nat)(h:JS X st g):JS X st (Rp is g):=PS.to h λ_ _ _ q=>Ob q
@[simp] noncomputable def LZ:FS:=λY=>some (.ct Y)
@[simp] noncomputable def Ux:FS:=λY=>some (.bk Y)
@[simp] noncomputable def Uy:FS:=λ_=>none
section
variable {X:Cx}{pos:Pos}
theorem JG:JS X (.Continue pos) LZ:=PS.to ym λE U H q=>by
 obtain⟨B0,H0,Y,r,s,e,p⟩:=q;cases e
 exact p U H s
end
inductive CRows (K:Frag)(P:Params):List DictEntry->List (Str×D)->Prop where
 |nil:CRows K P [] []
 |tup {x:Str}{t:Tok}{h:Int}{a:Addr}{its:Array Value}{n:Nat}{pY:Array (Option Value)}{ds:List D}{r:List DictEntry}{aS:List (Str×D)}(hh:h=PyData.keyHash P x)
   (l:K.lookup a=some ⟨.type "tuple",none,.seq its n,pY⟩) (f:(decide (its.size<=1000) && kg its.toList ds)=true) (tl:CRows K P r aS):CRows K P (⟨h,.str x t,.ref a⟩::r) ((x,.tup ds)::aS)
 |flat {x:Str}{t:Tok}{h:Int}{u:Value}{d:D}{r:List DictEntry}{aS:List (Str×D)}(hh:h=PyData.keyHash P x) (f:xf u d=true) (tl:CRows K P r aS):CRows K P (⟨h,.str x t,u⟩::r) ((x,d)::aS)
theorem CRows.lit {K:Frag}{P:Params}:∀ {es:List DictEntry}{aS:List (Str×D)},CRows K P es aS->PySem.W.KeysLit P es
 |_,_,.nil=>trivial
 |_,_,.tup hh _ _ tl=>⟨⟨_,_,rfl,hh⟩,tl.lit⟩
 |_,_,.flat hh _ tl=>⟨⟨_,_,rfl,hh⟩,tl.lit⟩
theorem CRows.find {K:Frag}{P:Params}(y:Str):∀ {es:List DictEntry}{aS:List (Str×D)},CRows K P es aS->match aS.lookup y with
  |none=>es.find? (λe=>Value.isStrOf y e.key)=none
  |some d=>∃e v,es.find? (λe=>Value.isStrOf y e.key)=some e/\bf v e.val/\∀B,Is K B v d
 |_,_,.nil=>rfl
 |_,_,.tup (x:=x) (t:=t) (a:=a) (ds:=ds) hh l f tl=>by
  by_cases e:y=x
  ·subst e;rw[List.lookup_cons_self];rw[vC]at f;obtain⟨vs,r,i⟩:=kh (K:=K) f.2;exact⟨_,.ref a,List.find?_cons_of_pos (by simp[Value.isStrOf]),rfl,λB=>.tup (.inr ⟨_,_,_,l,rfl,rfl,Nat.le_of_lt (Nat.lt_of_le_of_lt (of_decide_eq_true f.1) (by decide)),r⟩) (i B)⟩
  ·have ih:=tl.find y;rw[List.lookup_cons,beq_eq_false_iff_ne.mpr e];have nf:Value.isStrOf y (Value.str x t)=false:=by
    rw[Bool.eq_false_iff];intro z;obtain⟨t',q⟩:=Value.isStrOf_shape z;injection q with q1;exact e q1.symm
   simp only[List.find?_cons,nf];exact ih
 |_,_,.flat (x:=x) (t:=t) (u:=u) (d:=d) hh f tl=>by
  by_cases e:y=x
  ·subst e;rw[List.lookup_cons_self];obtain⟨v,r1,_⟩:=lI (K:=K) (B:=λ_=>none) f;refine⟨_,v,List.find?_cons_of_pos (by simp[Value.isStrOf]),r1,λB=>?_⟩;obtain⟨v',Ia,i'⟩:=lI (K:=K) (B:=B) f;have:v'=v:=by have z1:=r1.abs;rw[Ia.abs]at z1;exact vK z1
   subst this;exact i'
  ·have ih:=tl.find y;rw[List.lookup_cons,beq_eq_false_iff_ne.mpr e];have nf:Value.isStrOf y (Value.str x t)=false:=by
    rw[Bool.eq_false_iff];intro z;obtain⟨t',q⟩:=Value.isStrOf_shape z;injection q with q1;exact e q1.symm
   simp only[List.find?_cons,nf];exact ih
def ux (K:Frag)(P:Params)(a:Addr)(aS:List (Str×D)):Prop:=∃es n,K.lookup a=some ⟨.type "dict",none,.dict es n,#[]⟩/\CRows K P es.toList aS/\(a == sysModules)=false
theorem const_dict {K:Frag}{P:Params}{y:Str}{a:Addr}{es:Array DictEntry}{n:Nat}{aS:List (Str×D)}(e:nsIn K mainGlobals y=some (some (.ref a)))(l:K.lookup a=some ⟨.type "dict",none,.dict es n,#[]⟩)(r:CRows K P es.toList aS)(s:(a == sysModules)=false):
  ∃a,nsIn K mainGlobals y=some (some (.ref a))/\ux K P a aS:=⟨a,e,es,n,l,r,s⟩
section
variable {X:Cx}{a b e:Expr}{pos:Pos}{x:Str}{p:Pos}
theorem ux.map {af:List (Addr×Obj)}{U:St}{H:Hp}{s:Shared}{d:Addr}{aS:List (Str×D)}(I:Inv X af U H s)(h:ux X.K X.w.params d aS):∃f:Str->Option Value,s.heap.MapOf (strKind X.prog X.w) d f/\(d == sysModules)=false /\
  ∀y,match aS.lookup y with|none=>f y=none|some dd=>∃u v,f y=some u/\bf v u/\∀B,Is X.K B v dd:=by
 obtain⟨es,n,l,r,sm⟩:=h;refine⟨_,PySem.W.mapOf_K I.kIn l r.lit,sm,λy=>?_⟩;have:=r.find y;have ff:findBy Value.isStrOf es y=(es.toList.find? λe=>Value.isStrOf y e.key).map (·.val):=by
  unfold findBy;obtain⟨es⟩:=es;rw[List.find?_toArray]
 cases hl:aS.lookup y with
 |none=>rw[hl]at this;dsimp only at this ⊢;rw[ff,this];rfl
 |some dd=>
  rw[hl]at this;obtain⟨en,v,e1,e2,e3⟩:=this;exact⟨en.val,v,by rw[ff,e1];rfl,e2,e3⟩
@[simp] noncomputable def Yw (aS:List (Str×D)):D->OB
 |.str y=>(aS.lookup y).map λd=>(d,false)
 |_=>none
@[simp] noncomputable def cIn (aS:List (Str×D)):D->OB
 |.str y=>some (.bl (aS.lookup y).isSome,false)
 |_=>none
@[simp] noncomputable def Uz (aS:List (Str×D)):D->OB
 |.str y=>some (.bl (!(aS.lookup y).isSome),false)
 |_=>none
@[simp] noncomputable def ki:List D->OB
 |[.lst ds]=>some (.lst ds,true)
 |[.tup ds]=>some (.lst ds,true)
 |_=>none
@[simp] noncomputable def iM:List D->OB
 |[.lst ds]=>some (.tup ds,false)
 |[.tup ds]=>some (.tup ds,false)
 |_=>none
theorem Oc:cm X (.type "list") (BY X.K ki):=by
 refine cm.to wJ λxs H Q q=>?_;obtain⟨B,ds,d,bb,sB,i,ee,q⟩:=q;cases i with
 |nil=>simp[ki]at ee
 |cons i1 i2=>
  cases i2 with
  |cons _ _=>cases i1<;>simp[ki]at ee
  |nil=>
   cases i1<;>try (simp[ki]at ee;done)
   ·rename_i l0 vs es h hl;simp only[ki]at ee;cases ee
    refine⟨_,_,rfl,.inr (b7 sB h),λl hp=>?_⟩;have xt:=Ext.laid (o:=.lst vs) sB hp;exact q _ _ _ xt (.lst (jl.of aJ) (hl.mono xt.bn)) λ_=>⟨_,_,_,rfl,rfl,hp,aJ,hl.mono xt.bn⟩
   ·rename_i l0 vs es h hl;simp only[ki]at ee;cases ee
    refine⟨_,_,rfl,.inl (sB.seq h),λl hp=>?_⟩;have xt:=Ext.laid (o:=.lst vs) sB hp;exact q _ _ _ xt (.lst (jl.of aJ) (hl.mono xt.bn)) λ_=>⟨_,_,_,rfl,rfl,hp,aJ,hl.mono xt.bn⟩
theorem JH:cm X (.type "tuple") (BY X.K iM):=by
 refine cm.to tE λxs H Q q=>?_;obtain⟨B,ds,d,bb,sB,i,ee,q⟩:=q;cases i with
 |nil=>simp[iM]at ee
 |cons i1 i2=>
  cases i2 with
  |cons _ _=>cases i1<;>simp[iM]at ee
  |nil=>
   cases i1<;>try (simp[iM]at ee;done)
   ·rename_i l0 vs es h hl;simp only[iM]at ee;cases ee
    exact⟨_,_,rfl,.inr ⟨b7 sB h,q.one sB (.tup h hl)⟩⟩
   ·rename_i l0 vs es h hl;simp only[iM]at ee;cases ee
    refine⟨_,_,rfl,.inl ⟨sB.seq h,λl hp=>?_⟩⟩;have xt:=Ext.laid (o:=.tup vs) sB hp;exact q _ _ _ xt (.tup (jB.of aJ) (hl.mono xt.bn)) (by simp)
end
section
variable {X:Cx}{a b e:Expr}{pos:Pos}{x:Str}{p:Pos}
def Gj (K:Frag)(n:Nat)(t:Lp):TG:=λv U H Q=>∃k a xs,v=.ref a/\A6 k K H a xs/\xs.length=n/\t xs U H Q
theorem Od (hc:X.calm=true)(h:Qy X es t)(hn:(assignEach es X.env).length=n:=by rfl)(ng:(assignEach es X.env).findIdx? (·.1)=none:=by rfl):PG X (.Tuple es kt pos) (Gj X.K n t):=by
 intro af s U H v u Q I r hw;obtain⟨k,l,xs,rfl,hq,hl,hw⟩:=hw;cases r
 cases k with
 |false=>
  obtain⟨its,rv,ht,hz⟩:=I.tuple hq;refine assign_Tuple_tuple (I.ok.hd hc) ht (by simp[hn,←hl,rv.length]) ng λh' hx=>?_;have I1:Inv X af U H { s with heap:=h' }:=I.kept (t':=s.toks) λb o e=>hx b o (vS (vX e)) e;exact h af _ U H xs _ Q I1 (by simpa using rv) hw
 |true=>
  obtain⟨its,rv,ht,hz⟩:=I.list hq;rw[assign_Tuple];refine wX (wpAny_standAt ?_);unfold unpack;have hsz:(assignEach es X.env).length=its.toArray.size:=by simp[hn,←hl,rv.length]
  rw[hsz,ng];refine wX (wpAny_holding (PySem.W.kun_itemsOf (I.ok.hd hc) ht.isList λh' hx=>?_));have I1:Inv X af U H { s with heap:=h' }:=I.kept (t':=s.toks) λb o e=>hx b o (vS (vX e)) e;exact h af _ U H xs _ Q I1 (by simpa using rv) hw
@[simp] def yS (is:List Nat)(f:FE):FS:=λY=>(f Y).bind λx=>(gk x.1).bind λds=>(gm is ds (if bB ds=true then Y else unown Y)).map .nx
theorem Gk {K:Frag}{is:List Nat}{f:FE}{E:Ends}{U:St}{H:Hp}(q:oG K (yS is f) E U H):yn (tD K f) (Gj K is.length (mH is)) E U H:=by
 obtain⟨B0,H0,Y,r,⟨N,s⟩,e,p⟩:=q;obtain⟨x,ex,e⟩:=oX e;obtain⟨ds,es,e⟩:=oX e;obtain⟨ρ',eρ,e⟩:=oY e;subst e;refine⟨N,Y,x.1,x.2,s.ext.nh,s.rep,ex,λv H1 N1 x1 i1 _=>?_⟩;obtain⟨k,a,vs,rfl,sq,il⟩:=LX i1 es;have s1:=s.grow x1;refine⟨k,a,vs,rfl,sq.same x1.nh,by rw[il.length];exact lK eρ,?_⟩;by_cases hn:bB ds=true
 ·rw[if_pos hn]at eρ;exact lJ s1 (s1.flats il hn) eρ λσ' s'=>p σ' H1 ⟨N1,s'⟩
 ·rw[if_neg hn]at eρ;exact lJ s1.unown (il.mono λa o e=>by rw[cV oF];exact e) eρ λσ' s'=>p σ' H1 ⟨N1,s'⟩
theorem JJ (he:JE X e f)(hg:PG X (.Tuple es kt p2) (Gj X.K is.length (mH is)))(hs:swapsWithSole [.Tuple es kt p2] e pos.line X.env=pure false:=by rfl)(hw:swappedStores [.Tuple es kt p2] e X.env=pure none:=by rfl)
  (h1:(assignEach [.Tuple es kt p2] X.env).map (·.2)=[assign (.Tuple es kt p2) X.env]:=by rfl):JS X (.Assign [.Tuple es kt p2] e pos) (yS is f):=PS.to (Fp he hg hs hw h1) λ_ _ _ q=>Gk q
@[simp] def Ej (i:Nat)(fk fv:FE):FS:=λY=>match Y[i]? with
 |some (some (.lst ds,true))=>(fv Y).bind λv=>(fk Y).bind λk=>match k.1 with
  |.int j=>(DP ds.length j).bind λn=>if bq v.1=true then some (.nx (Y.set i (some (.lst (ds.set n v.1),true))))else none
  |_=>none
 |_=>none
theorem Gm (hv:JE X e fv)(hk:JE X k fk)(hN:X.N[i]? = some y:=by rfl)(BO:Fj X.env.scope y:=by first|exact Or.inl rfl|exact Or.inr (Or.inl rfl)|exact Or.inr (Or.inr rfl))(hd:(y == ("__debug__" : Str))=false:=by decide)
  (jT:(y == ("__classdict__" : Str))=false:=by decide)
  (ha:∀v,assign (.Subscript (.Name y py) k pt) X.env v=(do
   let ov ←holding [v] (eval (.Name y py) X.env)
   let iv ←holding [v,ov] (eval k X.env)
   standAt pt
   holding [v,ov,iv] (setItem ov iv v)
   release [v,ov,iv] []):=by intro _;rfl)
  (hs:swapsWithSole [.Subscript (.Name y py) k pt] e pos.line X.env=pure false:=by rfl) (hw:swappedStores [.Subscript (.Name y py) k pt] e X.env=pure none:=by rfl)
  (h1:(assignEach [.Subscript (.Name y py) k pt] X.env).map (·.2)=[assign (.Subscript (.Name y py) k pt) X.env]:=by rfl):JS X (.Assign [.Subscript (.Name y py) k pt] e pos) (Ej i fk fv):=by
 refine PS.to (Fp hv (Na (mE hN BO hd jT) hk Fz ha) hs hw h1) λE U H q=>?_;obtain⟨B0,H0,Y,r,⟨N,s⟩,ee,p⟩:=q;unfold Ej at ee;split at ee
 ·rename_i ds ei;obtain⟨v,ev,ee⟩:=oX ee;obtain⟨kk,ek,ee⟩:=oX ee;obtain⟨kd,kb⟩:=kk;cases kd with
  |int j=>
   dsimp only at ee;obtain⟨n,en,ee⟩:=oX ee;split at ee
   ·rename_i hn;cases ee
    refine⟨N,Y,v.1,v.2,s.ext.nh,s.rep,ev,λv1 H1 N1 x1 i1 _=>?_⟩;have s1:=s.grow x1;obtain⟨l,vs,Ld,z,h1,h2,h3,h4⟩:=s1.owL i _ ei;cases z
    refine⟨_,h1,N1,Y,_,_,s1.ext.nh,s1.rep,ek,λkv H2 N2 x2 i2 _=>?_⟩;cases i2
    have s2:=s1.grow x2;obtain⟨l',Tr,Ld,z,k1,k2,k3,k4⟩:=s2.owL i _ ei;cases z
    rw[h1]at k1;cases k1;exact⟨l,Tr,j,n,rfl,rfl,s2.ext.nh _ _ k2,by rw[k4.length];exact en,p U _ ⟨_,s2.write ei h1 (IsL.set (s2.flat (i1.mono x2.bn) hn) n k4)⟩⟩
   ·cases ee
  |_=>cases ee
 ·cases ee
@[simp] noncomputable def Yx (i:Nat)(g:List D->Option (List D)):FS:=λY=>match Y[i]? with
 |some (some (.lst ds,true))=>(g ds).map λes=>.nx (Y.set i (some (.lst es,true)))
 |_=>none
@[simp] def Yy (i:Nat)(f:FE):FS:=λY=>match Y[i]? with
 |some (some (.lst ds,true))=>(f Y).bind λx=>match x.1 with
  |.lst es=>if x.2=true/\bB es=true/\ds.length+es.length<=sizeLine then some (.nx (Y.set i (some (.lst (ds++es),true))))else none
  |_=>none
 |_=>none
@[simp] noncomputable def mI:List D->OB
 |[.int i]=>some (.int i,false)
 |[.bl b]=>some (.int (if b then 1 else 0),false)
 |_=>none
theorem Co:cm X (.type "int") (BY X.K mI):=by
 refine cm.to DM λxs H Q q=>?_;obtain⟨B,ds,d,bb,sB,i,ee,q⟩:=q;cases i with
 |nil=>simp[mI]at ee
 |cons i1 i2=>
  cases i2 with
  |cons _ _=>cases i1<;>simp[mI]at ee
  |nil=>
   cases i1<;>try (simp[mI]at ee;done)
   ·simp only[mI]at ee;cases ee
    exact .inr ⟨_,rfl,q.one sB (.int _)⟩
   ·simp only[mI]at ee;cases ee
    exact .inl ⟨_,rfl,q.one sB (.int _)⟩
end
open AutoSeq1 (wpAny_loadPart')
set_option maxRecDepth 100000
noncomputable def Wx (k:Bool):String:=if k=true then "list" else "tuple"
theorem yT (k:Bool)(l:Addr)(items:Array Value)(n:Nat)(OW:Option Addr)(sl:Array (Option Value)):
  Meets (Builtin.«enumerate.__new__» ⟨[.type "enumerate",.ref l],[]⟩) (λ_ R s=>s.heap.get? l=some { cls:=.type (Wx k),dict:=OW,data:=.seq items n,slots:=sl } /\
   R (.ok (.ret (.ref (s.heap.push (Oa k l)).objs.size))) { s with heap:=(s.heap.push (Oa k l)).push { cls:=.type "enumerate",data:=.fields #[.none,.bool false,.ref s.heap.objs.size,rawInt 0,.none,.none] } }) :=
 .of_wp λprog w A R s hs=>by
  obtain⟨hp,g,d,tk,os⟩:=s;obtain⟨hl,hs⟩:=hs;have Ic:=sub_enumerate;have hL:A5 k (Shared.heap ⟨hp,g,d,tk,os⟩) l items:=by cases k<;>exact⟨_,hl,rfl,n,rfl⟩
  wp_walk using wpAny_loadPart' hl;refine wpAny_stack_any λst=>wY ?_;split
  ·rename_i c _ _ _ _ _;cases (c == Value.type "enumerate")
   ·wp_walk using wpAny_loadPart' hl,xg hL;exact⟨_,rfl,hs⟩
   ·wp_walk using wpAny_loadPart' hl,xg hL;exact⟨_,rfl,hs⟩
  ·wp_walk using wpAny_loadPart' hl,xg hL;exact⟨_,rfl,hs⟩
section
variable {prog:Program}{w:World}{A:Around}{E:Value->Shared->Prop}{s:Shared}
theorem Gn (hL:A5 k s.heap l items)
  (q:∀h',IsEnum h' (s.heap.objs.size+1) s.heap.objs.size 0 .none->Cn k h' s.heap.objs.size l 0->(∀b o,s.heap.get? b=some o->h'.get? b=some o)->Q (.ref (s.heap.objs.size+1)) { s with heap:=h' }):
  wpAny (model prog w) A (call (.type "enumerate") [.ref l]) Q E s:=by
 have hh:∃(OW:Option Addr)(sl:Array (Option Value))(n:Nat),s.heap.get? l=some { cls:=.type (Wx k),dict:=OW,data:=.seq items n,slots:=sl }:=by
  cases k<;>(obtain⟨⟨c,OW,dt,sl⟩,hl,hc,n,hd⟩:=hL;dsimp only at hc hd;subst hc;subst hd;exact⟨OW,sl,n,hl⟩)
 obtain⟨OW,sl,n,hl⟩:=hh;refine callType_new PySem.F.called_enumerate (by decide) (PySem.F.typeCall_enumerate_1 _) (PySem.F.newCall_enumerate_1 _) (λobj=>PySem.F.args_object_init_2 obj _) PySem.F.entry_enumerate_new (yT k l items n OW sl) ⟨hl,?_⟩;have n1:(s.heap.push (Oa k l)).objs.size=s.heap.objs.size+1:=Heap.size_push ..;have g2:((s.heap.push (Oa k l)).push { cls:=.type "enumerate",data:=.fields #[.none,.bool false,.ref s.heap.objs.size,rawInt 0,.none,.none] }).get? (s.heap.push (Oa k l)).objs.size=some _:=vY _ rfl;have g1:((s.heap.push (Oa k l)).push { cls:=.type "enumerate",data:=.fields #[.none,.bool false,.ref s.heap.objs.size,rawInt 0,.none,.none] }).get? s.heap.objs.size=some _:=vZ _ (vY _ (by cases k<;>rfl))
 rw[n1]at g2;show _/\_;rw[n1];refine⟨⟨_,g2,rfl⟩,q _ g2 ?_ λb o e=>vZ _ (vZ _ e)⟩;cases k<;>exact⟨_,g1,rfl,rfl⟩
theorem Oe (hA:A.handled=none)(it l:Addr)(oA:l≠it)(items:Array Value):Draws prog w A it [it,l] items.size (λi v=>items[i]? = some v) (λi h=>Cn k h it l i/\A5 k h l items) where
 live:=λi h st=>let ⟨o,e,_⟩:=st.1.ob;⟨o,e⟩
 frame:=λi h h' st kk=>⟨st.1.upon λo e=>kk it (by simp) o e,st.2.upon λo e=>kk l (by simp) o e⟩
 item:=λi s Q E hi st q=>Ei st.1 st.2 (v:=items[i]) (by simp[hi]) λh' mC sb=>q _ h' s.toks (by simp[hi]) ⟨mC,st.2.upon λo e=>sb.extBut _ _ oA e⟩ sb
 done:=λs Q E st q=>yR hA st.1 st.2 (by simp) q
theorem Of (hA:A.handled=none)(it l:Addr)(items:Array Value)(n:Nat)(hn:items[n]? = none):Draws prog w A it [it,l] n (λ_ _=>True) (λi h=>(Cn k h it l i/\A5 k h l items)/\i=n) where
 live:=λi h st=>let ⟨o,e,_⟩:=st.1.1.ob;⟨o,e⟩
 frame:=λi h h' st kk=>⟨⟨st.1.1.upon λo e=>kk it (by simp) o e,st.1.2.upon λo e=>kk l (by simp) o e⟩,st.2⟩
 item:=λi s Q E hi st q=>absurd st.2 (vS hi)
 done:=λs Q E st q=>yR hA st.1.1 st.1.2 hn q
end
noncomputable def U0 (K:Frag)(k:Bool)(a:Addr):It :=
  ⟨λi H=>∃xs x,A6 k K H a xs/\xs[i]? = some x,
   λi H v H'=>∃T x,v=.ref T/\H T=none/\H'=upd H T (.tup [.int i,x])/\∀xs,A6 k K H a xs->xs[i]? = some x,
   λi H=>∃xs,A6 k K H a xs/\xs.length<=i⟩
theorem Ek {P:Program}{w:World}{K:Frag}{es:List Expr}{kt:Nat}{pt:Pos}{k:Bool}{a e it:Addr}(Vo:e≠it)(Zz:a≠e)(Z0:a≠it):
  Turn P w K (.Tuple es kt pt) (U0 K k a) [e,it] e (λi h=>(∃PM,IsEnum h e it i PM)/\Cn k h it a i) where
 mem:=by simp
 obj:=λi h st b hb=>by
  obtain⟨⟨PM,he⟩,t1⟩:=st;simp at hb;rcases hb with rfl|rfl
  ·exact⟨_,he,λv z=>by cases z⟩
  ·exact t1.ob
 keep:=λi h h' st kk=>by
  obtain⟨⟨PM,he⟩,t1⟩:=st;exact⟨⟨PM,kk e (by simp) _ he⟩,t1.upon λo q=>kk it (by simp) o q⟩
 item:=by
  intro X hP hw hK hc i af s U H E I hf st hg;subst hP hw hK;obtain⟨⟨PM,he⟩,t1⟩:=st;obtain⟨xs,x,q1,hx⟩:=hg;obtain⟨its,r1,p1,z1⟩:=q1.vals I;obtain⟨u,hu,ru⟩:=r1.get hx;have fresh:H s.heap.objs.size=none:=I.hok.fresh (vT _);have Z1:i<its.toArray.size:=by rw[vH];exact(vV hu).1
  have Fh:e≠s.heap.objs.size:=vS (vX he);have Tz:it≠s.heap.objs.size:=by obtain⟨o,q,_⟩:=t1.ob;exact vS (vX q)
  refine wpAny_pyNext_enum_itemD (Oe (A:=X.A.in1) (I.ok.hd hc) it a Z0 its.toArray) he ⟨t1,p1⟩ Z1 Vo (by simp[Vo,Zz.symm]) λv h' tk hv ho mC hT hsz hk=>?_;have ev:v=u:=by
   have Xk:its[i]? = some v:=by simpa using hv
   rw[hu]at Xk;exact(vK Xk).symm
  subst ev;refine⟨_,rfl,wpAny_letOwnedTupleGo_enum (s:={ s with heap:=h',toks:=tk+1 }) ho λh2 PN s2=>?_⟩;have PP:Heap.SameBut e h' h2:=s2;have kk:∀b o,b∉[e,it]->s.heap.get? b=some o->h2.get? b=some o:=λb o hb q=>PP.extBut _ _ (λz=>hb (by simp[z])) (hk b o (λz=>hb (by simp[z])) (λz=>hb (by simp[z])) q);have new:bZ X.prog X.w (upd H s.heap.objs.size (.tup [.int i,x])) h2 s.heap.objs.size (.tup [.int i,x]):=⟨by show 2<=sizeLine;decide,[.int i tk,v],.cons ⟨tk,rfl⟩ (.cons ru .nil),⟨_,PP.extBut _ _ Fh.symm hT,rfl,_,rfl⟩⟩;refine⟨.ref s.heap.objs.size,upd H s.heap.objs.size (.tup [.int i,x]),LW (s:=s) (t':=tk+1) I hf kk (vT _) new,rfl,⟨_,x,rfl,fresh,rfl,λzs hq=>by rw[A6.inj I hq q1];exact hx⟩,?_,λb hb=>?_⟩
  ·exact⟨⟨_,by have:=PN;rw[show((i:Int)+1)=((i+1:Nat):Int) by omega]at this;exact this⟩,mC.1.upon λo q=>PP.extBut _ _ Vo.symm q⟩
  ·have oA:b≠s.heap.objs.size:=by
    simp at hb;rcases hb with rfl|rfl
    ·exact Fh
    ·exact Tz
   rw[aP oA];exact(hf b hb).1
 done:=by
  intro X hP hw hK hc i af s U H E I hf st hg;subst hP hw hK;obtain⟨⟨PM,he⟩,t1⟩:=st;obtain⟨xs,q1,hl⟩:=hg;obtain⟨its,r1,p1,z1⟩:=q1.vals I;have n1:=r1.length;refine wpAny_pyNext_enum_endD (Of (A:=X.A.in1) (I.ok.hd hc) it a its.toArray i (by simp;omega)) he ⟨⟨t1,p1⟩,rfl⟩ λh' hk=>⟨rfl,?_⟩;exact qw (t':=s.toks) I hf λb o hb q=>hk b o (λz=>hb (by simp[z])) q
 self:=λ_ _ _ _ _ st h=>let ⟨⟨_,he⟩,_⟩:=st;wpAny_pyIter_enum he h
section
variable {X:Cx}{a b e:Expr}{pos:Pos}{p:Pos}
theorem yU:bootBuiltins "enumerate" = some (.type "enumerate"):=by decide +kernel
noncomputable def uy (ds:List D):List D:=ds.mapIdx λi d=>.tup [.int i,d]
@[simp] def Go (fa:FE):FA:=λY=>(fa Y).bind λx=>(gk x.1).map uy
theorem JL {K:Frag}{N:Hp}{k:Bool}{l:Addr}{vs:List V}{ds:List D}(h1:A6 k K N l vs)(i1:IsL K N vs ds):qe K (U0 K k l) N (uy ds):=by
 intro i H' sm;have n1:=i1.length;refine⟨λd ed=>?_,λhl=>⟨vs,h1.same sm,?_⟩⟩
 ·unfold uy at ed;rw[List.getElem?_mapIdx]at ed;obtain⟨x,e1,rfl⟩:=oY ed;obtain⟨v,ev,iv⟩:=i1.get e1;refine⟨⟨vs,v,h1.same sm,ev⟩,λr H2 hy=>?_⟩;obtain⟨T,v',rfl,hT,rfl,f1⟩:=hy;have e3:=f1 vs (h1.same sm);rw[ev]at e3;cases e3;have xt:=Ext.laid (o:=.tup [.int i,v]) sm hT;exact⟨_,xt,.tup (jB.of aJ) (.cons (.int _) (.cons (iv.mono xt.bn) .nil))⟩
 ·unfold uy at hl;rw[List.length_mapIdx]at hl;omega
theorem JM {es:List Expr}{kt:Nat}{pt:Pos}{fa:FE}(hm:X.mg "enumerate" = none)(ha:JE X a fa)(hg:Gl X "enumerate":=by rfl)(hs:starEach [a] X.env=[(false,eval a X.env)]:=by rfl):
  JI X (.Tuple es kt pt) (.Call (.Name "enumerate" p) [a] [] pos) (Go fa):=by
 intro af s U H R I q;refine Call_ (mF I hg hm yU (PyProof.Rows.callWith_type1 (cL (ag ha am hs pos af s U H (λvs H1=>∃(k:Bool)(l:Addr)(us:List V),vs=[.ref l]/\A6 k X.K H1 l us/\R (U0 X.K k l) H1) I ?_) λus s1 ⟨vs,H1,I1,r1,q1⟩=>?_) hs rfl))
 ·obtain⟨B,Y,ds,sB,r,ee,q⟩:=q;obtain⟨x1,ex,ee⟩:=oX ee;obtain⟨xs,Z2,ee⟩:=oY ee;subst ee;refine⟨B,Y,[x1.1],sB,r,by simp[ae,ai,ex],λvs H1 N1 xt i1=>?_⟩;cases i1 with
  |cons j1 j2=>
   cases j2
   obtain⟨k1,l1,us,rfl,s1,m1⟩:=LX j1 Z2;exact⟨k1,l1,us,rfl,s1.same xt.nh,q _ H1 N1 xt (JL s1 m1)⟩
 ·obtain⟨k,l,ws,rfl,h1,q⟩:=q1;obtain⟨u1,rfl,Z3⟩:=r1.one;cases Z3
  obtain⟨its,v1,p1,z1⟩:=h1.vals I1;have Th:=p1.lt;refine Gn p1 λh' c1 c2 ck=>?_;refine wpAny_pyIter_enum c1 ⟨s1.heap.objs.size+1,[s1.heap.objs.size+1,s1.heap.objs.size],_,_,H1,rfl,I1.kept (t':=s1.toks) ck,
   Ek (Nat.succ_ne_self _) (vS (Nat.lt_succ_of_lt Th)) (vS Th),⟨⟨_,c1⟩,c2⟩,λb hb=>?_,q⟩
  have Lg:s1.heap.objs.size<=b:=by
   simp at hb;rcases hb with rfl|rfl
   ·exact Nat.le_succ _
   ·exact vT _
  exact I1.fpOk Lg (I1.hok.fresh Lg)
end
end DL
namespace DL
open PySem PySem.Spec PyProof.Rows
theorem El (t:SetTable)(es:Array (Int×Value))(n:Nat):(relayAll t es n).2.1.led=t.led:=by
 unfold relayAll;split
 ·rename_i t' order h;unfold SetTable.relaid SetTable.laid at h;obtain⟨ow,_,h⟩:=oX h;cases h
  dsimp only;split<;>rfl
 ·rfl
theorem yV (t:SetTable)(es:Array (Int×Value))(n:Nat)(hp:t.plain=false):(relayAll t es n).2.1.plain=false:=by
 unfold relayAll;split
 ·rename_i t' order h;unfold SetTable.relaid SetTable.laid at h;obtain⟨ow,_,h⟩:=oX h;cases h
  dsimp only;split
  ·exact hp
  ·rfl
 ·rfl
theorem JN (t:SetTable)(es:Array (Int×Value))(h:Int)(x:Value):(layNew t es h x).2.1.led=t.led:=by
 unfold layNew;split
 ·dsimp only[SetTable.put,SetTable.orStandIn];repeat' (first|rfl|split)
 ·rfl
structure TabT (w:World)(es:Array (Int×Value))(t:SetTable):Prop where
 fits:t.fits es.size=true
 led:t.led = !w.params.followText "set-order"
 plain:es.size≠0->t.plain=false
def jx (prog:Program)(w:World)(h:Heap)(a:Addr)(ts:List Str):Prop :=
 ∃o es ep t,h.get? a=some o/\o.ExactSet/\o.data=.set es ep t/\ElemsOf (PySem.strKind prog w) es.toList/\(es.toList.map (λe=>strOf e.2)).Perm ts/\ts.Nodup/\ts.length<scanBound/\TabT w es t
noncomputable def kj (ts:List Str)(x:Str):List Str:=if x∈ts then ts else ts++[x]
theorem Gp (ts:List Str)(x:Str):(kj ts x).length<=ts.length+1:=by unfold kj;split<;>simp
theorem yW (h:Value.isStrOf k v=true):strOf v=k:=by obtain⟨t,rfl⟩:=Value.isStrOf_shape h;rfl
section
variable {prog:Program}{w:World}{A:Around}{E:Value->Shared->Prop}{s:Shared}
theorem uz {es:Array (Int×Value)}{ts:List Str}(Fh:ElemsOf (PySem.strKind prog w) es.toList)(hp:(es.toList.map (λe=>strOf e.2)).Perm ts)(k:Str):k∈ts ↔ ∃e∈es.toList,(PySem.strKind prog w).is k e.2=true:=by
 rw[←hp.mem_iff,List.mem_map];constructor
 ·rintro⟨e,he,rfl⟩;obtain⟨⟨k',hk,_⟩,_⟩:=Fh e he;have gg:Value.isStrOf k' e.2=true:=hk;refine⟨e,he,?_⟩;show Value.isStrOf (strOf e.2) e.2=true;rw[yW gg];exact gg
 ·rintro⟨e,he,hk⟩;exact⟨e,he,yW hk⟩
theorem u0 {h:Heap}{a:Addr}{o:Obj}{es:Array (Int×Value)}{ep:Nat}{t:SetTable}(ho:h.get? a=some o)(hd:o.data=.set es ep t)(Ff:Array (Int×Value))(t':SetTable):
  (h.update a (Obj.putSet Ff t')).get? a=some { o with data:=.set Ff (ep+1) t' }:=by
 have:=Heap.get?_update_self (Obj.putSet Ff t') ho (by rw[putSet_of Ff t' hd];rfl);rw[putSet_of Ff t' hd]at this;exact this
theorem yX {g:Bool->Sem Unit}(hg:∀(b:Bool)(s₁:Shared)(Q':Unit->Shared->Prop),Q' () s₁->wpAny (model prog w) A (g b) Q' E s₁)
  {a:Addr}{o:Obj}{es:Array (Int×Value)}{ep:Nat}{t:SetTable}(ho:s.heap.get? a=some o) (Lh:o.ExactSet) (hd:o.data=.set es ep t)
  {oB:Array (Int×Value)}{t2:SetTable}{ts:List Str}(Ie:ElemsOf (PySem.strKind prog w) oB.toList) (PQ:(oB.toList.map (λe=>strOf e.2)).Perm ts) (nd:ts.Nodup)
  (hb1:ts.length<scanBound) (Z4:t2.fits oB.size=true) (EW:t2.led = !w.params.followText "set-order") (nn:t2.plain=false) {A0:Bool}{R:Option Bool->Shared->Prop}
  (h:∀h',Heap.SameBut a s.heap h'->jx prog w h' a ts->R (some true) { s with heap:=h' }):
  wpAny (model prog w) A (do
    storeSet a oB t2
    if(!A0 && t2.tooFull)=true then do
      g (relayAll t2 oB (SetTable.grown oB.size)).2.2
      storeSet a (relayAll t2 oB (SetTable.grown oB.size)).1 (relayAll t2 oB (SetTable.grown oB.size)).2.1
      pure (some true)
     else pure (some true)) R E s:=by
 have Xl:oB.size=ts.length:=by rw[←PQ.length_eq,vI,vG]
 refine wX (wpAny_storeSet_of ho hd ?_ (fits_of_scanBound (by rw[Xl];exact hb1)));have PR:=u0 ho hd oB t2;have Sg:=vW s.heap a (Obj.putSet oB t2);split
 ·have hp:=relayAll_perm t2 oB (SetTable.grown oB.size);have Sh:=relayAll_fits t2 oB (SetTable.grown oB.size);have Lg:=El t2 oB (SetTable.grown oB.size);have Vp:=yV t2 oB (SetTable.grown oB.size) nn;generalize hRl:relayAll t2 oB (SetTable.grown oB.size)=Rl at hp Sh Lg Vp ⊢;obtain⟨T1,t3,Xm⟩:=Rl;dsimp only at hp Sh Lg Vp ⊢;have Vq:ElemsOf (PySem.strKind prog w) T1.toList:=Ie.perm hp;have hsz:T1.size=oB.size:=by rw[←vG,hp.length_eq,vG]
  refine wX (hg _ _ _ ?_);refine wX (wpAny_storeSet_of PR rfl ?_ (fits_of_scanBound (by rw[hsz,Xl];exact hb1)));have KY:=u0 PR rfl T1 t3;exact wY (h _ (Sg.trans (vW _ a _)) ⟨_,T1,_,t3,KY,Lh,rfl,Vq,(hp.map _).trans PQ,nd,hb1,Sh,Lg.trans EW,λ_=>Vp⟩)
 ·exact wY (h _ Sg ⟨_,oB,_,t2,PR,Lh,rfl,Ie,PQ,nd,hb1,Z4,EW,λ_=>nn⟩)
theorem Bg {a:Addr}{ts:List Str}{k:Str}{tk:Tok}{Q:Bool->Shared->Prop}(hS:jx prog w s.heap a ts)(Ig:ts.length+1<scanBound)
  (h:∀b h',Heap.SameBut a s.heap h'->jx prog w h' a (kj ts k)->Q b { s with heap:=h' }):
  wpAny (model prog w) A (setAddHashed a (.str k tk) ((PySem.strKind prog w).hash k)) Q E s:=by
 have hS0:=hS;obtain⟨o,es,ep,t,ho,Lh,hd,Fh,xX,nd,hb,hf,Li,nn⟩:=hS;have EQ:(PySem.strKind prog w).is k (.str k tk)=true:=strKind_is prog w k tk;have sz:es.size=ts.length:=by rw[←xX.length_eq,vI,vG]
 unfold setAddHashed setAddHashedIn;refine wpAny_holding (wX (wpAny_setState_of ho hd hf ?_));dsimp only;rw[byScan_of (x:=.str k tk) rfl (by rw[sz];exact hb) Fh];simp only[↓reduceIte];unfold setAddByScan;refine wX ?_;refine wX (wpAny_rule ?_);refine wX (wpAny_setScan_of EQ ho hd hf Fh ?_);cases hr:List.findIdx? (λe=>(PySem.strKind prog w).is k e.2) es.toList with
 |some j=>
  dsimp only;obtain⟨hj,Z5,_⟩:=List.findIdx?_eq_some_iff_getElem.mp hr;have hm:k∈ts:=(uz Fh xX k).mpr ⟨es.toList[j],List.getElem_mem hj,Z5⟩;refine wY (wY ?_);have e:kj ts k=ts:=by unfold kj;rw[if_pos hm]
  exact h false s.heap (Heap.SameBut.refl a s.heap) (by rw[e];exact hS0)
 |none=>
  dsimp only;have hm:k∉ts:=λz=>by
   obtain⟨e,he,hp⟩:=(uz Fh xX k).mp z;have:=List.findIdx?_eq_none_iff.mp hr e he;rw[hp]at this;exact Bool.noConfusion this
  have ea:kj ts k=ts++[k]:=by unfold kj;rw[if_neg hm]
  have Z6:∀(b:Bool){s₁:Shared}{Q':Unit->Shared->Prop},Q' () s₁->wpAny (model prog w) A (match b with|true=>rule "set.scan.the-table-gave-way" | false=>pure ()) Q' E s₁ :=
   λb s₁ Q' hq=>by cases b<;>first|exact wY hq|exact wpAny_rule hq
  have hV:=layNew_perm t es ((PySem.strKind prog w).hash k) (.str k tk);have D8:=layNew_fits t es ((PySem.strKind prog w).hash k) (.str k tk);have M0:=JN t es ((PySem.strKind prog w).hash k) (.str k tk);generalize hL:layNew t es ((PySem.strKind prog w).hash k) (.str k tk)=L at hV D8 M0 ⊢;obtain⟨oB,t1,A0,Vr⟩:=L;dsimp only at hV D8 M0 ⊢;rw[Array.toList_push]at hV;have Ie:ElemsOf (PySem.strKind prog w) oB.toList:=(Fh.push EQ rfl).perm hV;have PQ:(oB.toList.map (λe=>strOf e.2)).Perm (ts++[k]):=(hV.map _).trans (by rw[uW];exact xX.append_right _);have Xn:(ts++[k]).Nodup:=by
   rw[List.nodup_append];refine⟨nd,by simp,λx hx y hy=>?_⟩;rw[List.mem_singleton]at hy;subst hy;exact λz=>hm (z ▸ hx)
  have hb1:(ts++[k]).length<scanBound:=by rw[uZ];exact Ig
  refine wX (Z6 _ ?_);have Si:∀h',Heap.SameBut a s.heap h'->jx prog w h' a (ts++[k])->Q true { s with heap:=h' }:=λh' hsb Ih=>h true h' hsb (by rw[ea];exact Ih);split
  ·refine wX ?_;rw[hashByValue_scannable 8 (x:=.str k tk) rfl];refine wY ?_;refine yX ?_ ho Lh hd Ie PQ Xn hb1 ?_ ?_ ?_ ?_
   ·intro b s₁ Q' hq;cases b<;>first|exact wY hq|exact wpAny_rule hq
   ·exact SetTable.fits_plain_off D8
   ·exact M0.trans Li
   ·rfl
   ·intro h' hsb Ih;dsimp only;exact wY (Si h' hsb Ih)
  ·rename_i PU;refine wX (wY ?_);simp only[↓reduceIte];refine yX ?_ ho Lh hd Ie PQ Xn hb1 D8 (M0.trans Li) (by simpa using PU) ?_
   ·intro b s₁ Q' hq;cases b<;>first|exact wY hq|exact wpAny_rule hq
   ·intro h' hsb Ih;dsimp only;exact wY (Si h' hsb Ih)
end
noncomputable def iN (ss:List Str):List Str:=ss.foldl kj []
theorem Bh (h:ts.Nodup)(x:Str):(kj ts x).Nodup:=by
 unfold kj;split
 ·exact h
 ·rename_i hm;rw[List.nodup_append];refine⟨h,by simp,λy hy z hz=>?_⟩;rw[List.mem_singleton]at hz;subst hz;exact λe=>hm (e ▸ hy)
theorem qQ:y∈kj ts x↔y∈ts∨y=x:=by
 unfold kj;split
 ·rename_i hm;exact⟨.inl,λz=>z.elim id λe=>e ▸ hm⟩
 ·simp
theorem xh (ss:List Str):∀ts:List Str,(ss.foldl kj ts).length<=ts.length+ss.length:=by
 induction ss with
 |nil=>intro ts;simp
 |cons x r ih=>intro ts;rw[List.foldl_cons];have:=ih (kj ts x);have:=Gp ts x;simp only[vE];omega
theorem nG (ss:List Str):(iN ss).length<=ss.length:=by have:=xh ss [];simpa [iN]using this
theorem Em (ss:List Str)(x:Str):iN (ss++[x])=kj (iN ss) x:=by unfold iN;rw[List.foldl_append];rfl
theorem StrsAre.at:∀ {vs:List Value}{ss:List Str},StrsAre vs ss->∀(i:Nat)(v:Value),vs[i]? = some v->∃x t,v=.str x t/\ss[i]? = some x
 |_,_,.nil,i,v,h=>by simp at h
 |_,_,.cons x t hr,0,v,h=>by simp at h;exact⟨x,t,h.symm,rfl⟩
 |_,_,.cons x t hr,i+1,v,h=>by
  simp only[List.getElem?_cons_succ]at h;exact StrsAre.at hr i v h
theorem jx.at (x:jx prog w h a ts)(k:∀o,h.get? a=some o->h'.get? a=some o):jx prog w h' a ts:=by
 obtain⟨o,es,ep,t,ho,r⟩:=x;exact⟨o,es,ep,t,k o ho,r⟩
section
variable {prog:Program}{w:World}{A:Around}{R:Result->Shared->Prop}{I:Addr}{fp wr:List Addr}{G:Array GenState->Array GenState->Prop}{n:Nat}{P:Nat->Value->Prop}{St:Nat->Shared->Prop}
theorem xi (W:WalksS prog w A.in1 I fp wr G n P St)(S:Addr)(OX:S∉fp)(ss:List Str)(hn:ss.length=n)
  (OY:∀i v,P i v->∃x t,v=.str x t/\ss[i]? = some x) (hb:n+1<scanBound):
  ∀(k i:Nat)(s:Shared),n - i=k->i<=n->St i s->jx prog w s.heap S (iN (ss.take i)) ->
   (∀s',Moved (S::wr) G s s'->jx prog w s'.heap S (iN ss)->R (.ok (.ret .none)) s') ->
   codeAny (model prog w) A (.builtin "set.update.loop" ⟨[.ref S,.ref I],[]⟩) R s:=by
 have Xo:S∉wr:=λh=>OX (W.sub _ h);have Ic:∀b∈wr,b∈S::wr:=λb hb=>mZ _ hb;intro k;induction k with
 |zero=>
  intro i s hk hi ng hS hR;have Lj:i=n:=by omega
  subst Lj;refine codeAny_builtin PyProof.Rows.F.entry_set_update_loop ?_;rw[Around.under_plainId PyProof.Rows.F.plain_set_update_loop _];show wpAny _ A.in1 (pyNext (.ref I)>>=_) _ _ s;refine wX (W.done s _ _ ng λs' hm=>?_);show wpAny _ A.in1 (ret Value.none) _ _ s';refine wY (hR s' (hm.mono Ic) ?_);rw[List.take_of_length_le (by omega)]at hS;exact hS.at λo e=>hm.heap S _ Xo e
 |succ k ih=>
  intro i s hk hi ng hS hR;have gs:i<n:=by omega
  refine codeAny_builtin PyProof.Rows.F.entry_set_update_loop ?_;rw[Around.under_plainId PyProof.Rows.F.plain_set_update_loop _];show wpAny _ A.in1 (pyNext (.ref I)>>=_) _ _ s;refine wX (W.item i s _ _ gs ng λv s' hP hst' hm=>?_);obtain⟨x,t,rfl,hx⟩:=OY i v hP;have Ih:jx prog w s'.heap S (iN (ss.take i)):=hS.at λo e=>hm.heap S _ Xo e;show wpAny _ A.in1 (holding [Value.str x t] (setAdd S (.str x t))>>=_) _ _ s';refine wX (wpAny_holding ?_);unfold setAdd;refine wpAny_holding ?_;refine wX ((PySem.strKind prog w).pyHash (k:=x) (strKind_is prog w x t) ?_);have hl:(iN (ss.take i)).length+1<scanBound:=by have:=nG (ss.take i);rw[List.length_take]at this;omega
  refine Bg (s:={ s' with toks:=s'.toks+1 }) Ih hl λb h' hsb Sj=>?_;have Z7:jx prog w h' S (iN (ss.take (i+1))):=by
   rw[List.take_add_one,hx,Option.toList_some,Em];exact Sj
  refine wY ⟨plainId_quiet PyProof.Rows.F.plain_set_update_loop _,ih (i+1) _ (by omega) gs (W.frame _ s' _ _ hst' (Nat.le_succ _) λb hb o e=>?_) Z7 λFg hm'' hS''=>?_⟩
  ·rw[hsb.2 b (λh:b=S=>OX (by rw[←h];exact hb))];exact e
  ·refine hR Fg (Moved.trans W.gtrans ((hm.mono Ic).then_heap (Nat.le_succ _) λb o hb e=>?_) hm'') hS'';rw[hsb.2 b (λh:b=S=>hb (by rw[h];exact mX))];exact e
end
section
variable {prog:Program}{w:World}{A:Around}{E:Value->Shared->Prop}{s:Shared}
noncomputable abbrev fF (w:World):Obj:={ cls:=.type "set",dict:=none,data:=.set #[] 0 (.fresh 0 0 (!w.params.followText "set-order")) }
theorem yY (a:Value) 
  (h:Q₁ (.ref s.heap.objs.size) { s with heap:=s.heap.push (fF w) }):
  codeAny (model prog w) A (.call (.builtin "set.__new__") ⟨[.type "set",a],[]⟩) (wants Q₁ E) s:=by
 refine codeAny_of_tree ?_;show wpAny _ A.in1 (do checkBuiltinCall "set.__new__" ⟨[.type "set",a],[]⟩;again (.builtin "set.__new__" ⟨[.type "set",a],[]⟩)) _ _ s;refine wX (wpAny_of_eq (PySem.F.newCall_set_1 a) (wY ⟨plainId_quiet PySem.F.plain_set_new _,codeAny_builtin PySem.F.entry_set_new ?_⟩));rw[Around.under_plainId PySem.F.plain_set_new _];unfold Builtin.«set.__new__» Builtin.Frozenset.newClass;have Ic:=sub_set_self;obtain⟨hp,g,d,tk,os⟩:=s;dsimp only;wp_walk;refine wpAny_askSetting (wY ?_);dsimp only;simp only[newObj];refine wX (wpAny_alloc (wY ?_));exact wY h
set_option maxHeartbeats 3200000 in
theorem qR 
  (hh:A.handled=none) (hl:s.heap.IsList l items) (hi:StrsAre items.toList ss) (hb:items.size+1<scanBound)
  (h:∀(h':Heap)(tk:Nat),jx prog w h' s.heap.objs.size (iN ss) ->
   (∀b o,b<s.heap.objs.size->s.heap.get? b=some o->h'.get? b=some o)->Q (.ref s.heap.objs.size) { s with heap:=h',toks:=tk }):
  wpAny (model prog w) A (call (.type "set") [.ref l]) Q E s:=by
 obtain⟨c,tl,Z8⟩:=PySem.F.called_set.mro;have Xp:=PySem.F.called_set.made;have Ic:=PySem.F.called_set.sub;refine wpAny_call (codeAny_of_tree ?_);show wpAny _ _ (callAny (.type "set") _) _ _ _;refine wY ⟨Code.quiet_builtin _ (by decide +kernel),codeAny_builtin PySem.F.entry_type_call ?_⟩;rw[Around.under_plain (weight_type_call_type "set" [.ref l] []) rfl];have h1:=PySem.F.called_set.notType;have h2:=PySem.F.called_set.canCreate;have hct:=PySem.F.typeCall_set_1 (.ref l);have bP:ss.length=items.size:=by have:=hi.strs;rw[←this,vI,vG]
 repeat (any_goals (first|assumption|wp_step))
 refine codeAny_mono (yY (.ref l) (E:=E) (Q₁:=λobj s₁=>obj=.ref s.heap.objs.size/\s₁={ s with heap:=s.heap.push (fF w) }) ⟨rfl,rfl⟩) λr s₁ hr=>?_;cases r with
 |error e=>exact hr
 |ok fl=>
  cases fl with
  |ret obj=>
   obtain⟨rfl,rfl⟩:=hr;have hS:(s.heap.push (fF w)).get? s.heap.objs.size=some (fF w):=vY _ rfl;have hT:Shared.TypeIs { s with heap:=s.heap.push (fF w) } (.ref s.heap.objs.size) "set":=⟨_,hS,rfl⟩;have hli:=PySem.F.called_set.init.lookup;have hbi:=PySem.F.called_set.init.bind (.ref s.heap.objs.size);repeat (any_goals (first|assumption|wp_step))
   refine codeAny_mono (codeAny_call_builtin (R:=wants (λr s₂=>r=.none/\∃h' tk,s₂={ s with heap:=h',toks:=tk } /\
     jx prog w h' s.heap.objs.size (iN ss) /\
     (∀b o,b<s.heap.objs.size->s.heap.get? b=some o->h'.get? b=some o)) E) PySem.F.called_set.init.plain PySem.F.entry_set_init (check_set_init_1 hT ?_)) λr₂ s₂ hr₂=>?_
   ·obtain⟨ol,Ii,kQ,nl,PV⟩:=hl;obtain⟨Z9,Sk,Xq,OZ⟩:=ol;simp only at kQ PV;subst kQ;subst PV;have Vt:(s.heap.push (fF w)).get? l=some { cls:=.type "list",dict:=Sk,data:=.seq items nl,slots:=OZ }:=vZ _ Ii;have ZA:=PySem.F.sub_list_set;have ZB:=PySem.F.sub_list_frozenset;have oA:(Value.type "list" == Value.type "dict")=false:=by decide
    have M0:(s.heap.push (fF w)).IsList l items:=⟨_,Vt,rfl,nl,rfl⟩;unfold Builtin.«set.__init__» noKeywords Builtin.Frozenset.updateFrom;generalize hPI:pyIter=PI;wp_walk;subst hPI;refine wpAny_pyIter_list M0 ?_;refine wX (wpAny_runValue ?_);have Xr:l<s.heap.objs.size:=vX Ii;have ZC:A.in1.in1.in1.handled=none:=by simp[hh]
    have Vu:l≠(s.heap.push (fF w)).objs.size:=by
     rw[Heap.size_push];exact vS (Nat.lt_succ_of_lt Xr)
    have OX:s.heap.objs.size∉[(s.heap.push (fF w)).objs.size,l]:=by
     rw[Heap.size_push];simp only[List.mem_cons,List.mem_singleton,List.not_mem_nil,or_false,not_or];exact⟨vS (Nat.lt_succ_self _),Nat.ne_of_gt Xr⟩
    have OY:∀(i:Nat)(v:Value),items[i]? = some v->∃x t,v=.str x t/\ss[i]? = some x:=λi v hv=>
     StrsAre.at hi i v (by rw[Array.getElem?_toList];exact hv)
    refine xi ((Walks.list ZC _ l Vu items).toS) s.heap.objs.size
     OX ss bP OY hb (items.size - 0) 0 _ (by omega) (uN _)
     ⟨⟨_,vY _ rfl,rfl,rfl⟩,(M0.push _)⟩ ?hS0 ?hR
    case hS0=>
     have Vv:((s.heap.push (fF w)).push { cls:=.type "list_iterator",data:=.fields #[.ref l,.int 0 0] }).get? s.heap.objs.size
       = some (fF w):=vZ _ hS
     exact⟨_,#[],0,_,Vv,⟨rfl,rfl,rfl⟩,rfl,λe he=>by simp at he,List.Perm.refl _,List.nodup_nil,(by show(0:Nat)<scanBound;decide),rfl,rfl,λz=>absurd rfl z⟩
    case hR=>
     intro s' hm Ih
     obtain⟨h',g',d',IB,UU⟩:=s'
     have eg:g'=s.gens:=hm.gens
     have ed:d'=s.drawn:=hm.drawn
     have eo:UU=s.os:=hm.os
     subst eg;subst ed;subst eo
     show wpAny _ _ _ _ _ _
     refine wY ?_
     show wpAny _ _ (ret Value.none) _ _ _
     refine wY ⟨rfl,h',IB,rfl,Ih,λb o hb e=>?_⟩
     have hb1:b≠s.heap.objs.size:=vS hb
     have ZD:b≠(s.heap.push (fF w)).objs.size:=by
      rw[Heap.size_push];exact vS (Nat.lt_succ_of_lt hb)
     exact hm.heap b o (by simp only[List.mem_cons,List.mem_singleton,List.not_mem_nil,or_false,not_or];exact⟨hb1,ZD⟩) (vZ _ (vZ _ e))
   ·cases r₂ with
    |error e=>exact hr₂
    |ok fl₂=>
     cases fl₂ with
     |ret r=>
      obtain⟨rfl,h',tk,rfl,Ih,gg⟩:=hr₂;repeat (any_goals (first|assumption|wp_step))
      exact h _ _ Ih gg
     |_=>exact hr₂.elim
  |_=>exact hr.elim
end
open Sem (wp)
section
variable {M:Model}{A:Around}{E:Value->Shared->Prop}{s:Shared}
theorem JP (hn:n≠0)(h:∀k d,k<n->Q k { s with drawn:=d }):wpAny M A (choose src n) Q E s:=by
 intro Γ p hG;unfold choose;rw[Sem.wp_choose];refine⟨hn,?_⟩;have:=h _ (s.drawn.bump src) (Nat.mod_lt (M.w.draws src (s.drawn.get src)) (Nat.pos_of_ne_zero hn));simpa using this
end
theorem nH {α:Type}:∀(l:List α)(i:Nat),i<l.length->(l.eraseIdx i).length=l.length - 1:=λl i h=>by rw[List.length_eraseIdx,if_pos h]
theorem mJ {α:Type}:∀(l:List α)(i:Nat)(x:α),l[i]? = some x->(x::l.eraseIdx i).Perm l
 |[],i,x,h=>by simp at h
 |a::l,0,x,h=>by simp at h;subst h;exact List.Perm.refl _
 |a::l,i+1,x,h=>by
  rw[List.eraseIdx_cons_succ];simp only[List.getElem?_cons_succ]at h;exact(List.Perm.swap a x _).trans ((mJ l i x h).cons a)
theorem Cp {α:Type}:∀(n:Nat)(xs:List α)(s:Shared)(Q:List α->Shared->Prop),xs.length=n->(∀ys d,ys.Perm xs->Q ys { s with drawn:=d })->wpAny M A (drawOrder n xs) Q E s
 |0,xs,s,Q,hl,h=>by
  have:xs=[]:=List.eq_nil_of_length_eq_zero hl;subst this;exact wY (h [] s.drawn (List.Perm.refl _))
 |n+1,[],s,Q,hl,h=>by simp at hl
 |n+1,x::r,s,Q,hl,h=>by
  show wpAny M A (choose .order (x::r).length>>=λi=>match (x::r)[i]? with
   |some x'=>(do return x'::(←drawOrder n ((x::r).eraseIdx i)))
   |none=>unsupported "internal:drawOrder") Q E s
  refine wX (JP (by simp) λk d hk=>?_);obtain⟨y,hy⟩:∃y,(x::r)[k]? = some y:=⟨_,vU hk⟩;rw[hy];refine wX (Cp n _ _ _ (by rw[nH _ _ hk,hl];rfl) λys d' hp=>wY (h _ _ ((hp.cons y).trans (mJ _ _ _ hy))))
theorem Cq {α:Type}(next:Nat->Nat):∀(fuel k:Nat)(left:List α)(out:Array α),left.length=fuel->(pickOrder.go next fuel k left out).toList.Perm (out.toList++left)
 |0,k,left,out,hl=>by
  have:left=[]:=List.eq_nil_of_length_eq_zero hl;subst this;unfold pickOrder.go;simp
 |fuel+1,k,left,out,hl=>by
  unfold pickOrder.go;have hk:next k % left.length<left.length:=Nat.mod_lt _ (by omega);obtain⟨y,hy⟩:∃y,left[next k % left.length]? = some y:=⟨_,vU hk⟩;rw[hy];dsimp only;refine(Cq next fuel (k+1) _ _ (by rw[nH _ _ hk];omega)).trans ?_;rw[Array.toList_push,List.append_assoc];exact(mJ _ _ _ hy).append_left _
theorem En {α:Type}(next:Nat->Nat)(xs:Array α):(pickOrder next xs).toList.Perm xs.toList:=by
 have:=Cq next xs.size 0 xs.toList #[] (by simp);simpa [pickOrder]using this
theorem bJ:Slot "set_iterator" "__next__" "set_iterator.__next__" :=
 .of (owner:="set_iterator") (n:="__next__") (by rw[typeLookup_type,builtinLookup_eq_fast];kernel_rfl) (by decide +kernel) (by decide +kernel) (by decide +kernel)
  (by first|exact .inl (by decide +kernel)|exact .inr (by decide +kernel)) (by rw[isSubtype_type];kernel_rfl)
theorem fX:entryFor table "set_iterator.__next__" = some Builtin.«set_iterator.__next__»:=entryFor_of_tree (by kernel_rfl)
theorem gI (a:Value):argsOk "set_iterator.__next__" ⟨[a],[]⟩:=by unfold argsOk;kernel_rfl
theorem mq:Slot "set_iterator" "__iter__" "set_iterator.__iter__" :=
 .of (owner:="set_iterator") (n:="__iter__") (by rw[typeLookup_type,builtinLookup_eq_fast];kernel_rfl) (by decide +kernel) (by decide +kernel) (by decide +kernel)
  (by first|exact .inl (by decide +kernel)|exact .inr (by decide +kernel)) (by rw[isSubtype_type];kernel_rfl)
theorem qS:entryFor table "set_iterator.__iter__" = some Builtin.«dict_keyiterator.__iter__» :=
 entryFor_alias (id':="dict_keyiterator.__iter__") (by kernel_rfl) rfl (by decide +kernel) (by kernel_rfl)
theorem tJ (a:Value):argsOk "set_iterator.__iter__" ⟨[a],[]⟩:=by unfold argsOk;kernel_rfl
theorem qg:entryFor table "set.__iter__" = some Builtin.«frozenset.__iter__» :=
 entryFor_alias (id':="frozenset.__iter__") (by kernel_rfl) rfl (by decide +kernel) (by kernel_rfl)
noncomputable abbrev mK (fst:Value)(i:Nat)(S:Addr)(n ep:Nat):Obj:={ cls:=.type "set_iterator",data:=.fields #[fst,.int i 0,.ref S,.int n 0,.int ep 0] }
section
variable {prog:Program}{w:World}{A:Around}{E:Value->Shared->Prop}{s:Shared}{it S:Addr}{i ep:Nat}{o:Obj}{es:Array (Int×Value)}{t:SetTable}
theorem eG (ho:s.heap.get? it=some (mK fst i S n ep)):s.TypeIs (.ref it) "set_iterator":=⟨_,ho,rfl⟩
theorem xj {k k':Nat}{x:Value}{Q:Option Value->Shared->Prop}(ho:s.heap.get? it=some (mK (.int k 0) i S es.size ep))
  (hS:s.heap.get? S=some o) (hd:o.data=.set es ep t) (hf:t.fits es.size=true)
  (hN:∀(A':Around)(E':Value->Shared->Prop)(Q':Option (Value×Nat)->Shared->Prop),Q' (some (x,k')) s->wpAny (model prog w) A' (setNext S k i ep) Q' E' s)
  (hQ:∀h',h'.get? it=some (mK (.int k' 0) (i+1) S es.size ep)->Heap.SameBut it s.heap h'->Q (some x) { s with heap:=h' }):
  wpAny (model prog w) A (pyNext (.ref it)) Q E s:=by
 unfold pyNext;refine wX (wpAny_attempt (wpAny_callSpecial?_slot (name:=Str.ofString "__next__") (eG ho) bJ
  (wpAny_call_entry bJ (eG ho) fX ?_ (gI _))))
 show wpAny _ _ (fieldsOf (.ref it)>>=_) _ _ s;refine wX (wpAny_fieldsOf ho rfl ?_);show wpAny _ _ (setEntries S>>=_) _ _ s;refine wX (wpAny_setEntries_of hS hd hf ?_);rw[if_neg (by simp)];show wpAny _ _ (setNext S _ _ _>>=_) _ _ s;simp only[Int.toNat_natCast];refine wX (hN _ _ _ ?_);dsimp only;refine wX (wpAny_setField_rec ho (by simp) λh1 e1 b1=>?_);refine wX (wpAny_setField_rec e1 (by simp) λh2 e2 b2=>?_);exact wY ⟨x,rfl,wY (hQ h2 (by simpa [rawInt,mK]using e2) (b1.trans b2))⟩
theorem xl {k:Nat}{Q:Option Value->Shared->Prop}(hh:A.handled=none)(ho:s.heap.get? it=some (mK (.int k 0) i S es.size ep))
  (hS:s.heap.get? S=some o) (hd:o.data=.set es ep t) (hf:t.fits es.size=true)
  (hN:∀(A':Around)(E':Value->Shared->Prop)(Q':Option (Value×Nat)->Shared->Prop),Q' none s->wpAny (model prog w) A' (setNext S k i ep) Q' E' s)
  (hQ:∀h',Heap.ExtBut it s.heap h'->Q none { s with heap:=h' }):
  wpAny (model prog w) A (pyNext (.ref it)) Q E s:=by
 unfold pyNext;refine wX (wpAny_attempt (wpAny_callSpecial?_slot (name:=Str.ofString "__next__") (eG ho) bJ
  (wpAny_call_entry bJ (eG ho) fX ?_ (gI _))))
 show wpAny _ _ (fieldsOf (.ref it)>>=_) _ _ s;refine wX (wpAny_fieldsOf ho rfl ?_);show wpAny _ _ (setEntries S>>=_) _ _ s;refine wX (wpAny_setEntries_of hS hd hf ?_);rw[if_neg (by simp)];show wpAny _ _ (setNext S _ _ _>>=_) _ _ s;simp only[Int.toNat_natCast];refine wX (hN _ _ _ ?_);dsimp only;refine wX (wpAny_setField_rec ho (by simp) λh1 e1 b1=>?_);refine wX ?_;simp only[newExc,newTuple];refine wX (wpAny_newObj_type ?_ (by size_fits));refine wX (m:=firstArgMember _ _) (wpAny_of_eq (a:=Value.none) (by first|rfl|(simp only[firstArgMember];rfl)) ?_);refine wpAny_newObj_type ?_ (by size_fits);simp only[raiseNew];refine wX (wpAny_handled ?_);rw[show A.in1.handled=none from hh];refine wX (wY (wpAny_throw ?_));refine wX (wpAny_isInstance (T:="StopIteration") (b:=true) ⟨_,vY _ rfl,rfl⟩ isSubtype_stop ?_);exact wY (hQ _ ((b1.extBut.push _).push _))
theorem tK {T:Addr}{pl:List Nat}{p:Nat}{x:Int×Value}{nt:Nat}{Q:Option Value->Shared->Prop}(ho:s.heap.get? it=some (mK (.ref T) i S es.size ep))
  (hT:s.heap.get? T=some (seqObj "tuple" (pl.map λ(p:Nat)=>Value.int p 0).toArray nt))
  (hS:s.heap.get? S=some o) (hd:o.data=.set es ep t) (hf:t.fits es.size=true) (hp:pl[i]? = some p) (hx:es[p]? = some x)
  (hQ:∀h',h'.get? it=some (mK (.ref T) (i+1) S es.size ep)->Heap.SameBut it s.heap h'->Q (some x.2) { s with heap:=h' }):
  wpAny (model prog w) A (pyNext (.ref it)) Q E s:=by
 unfold pyNext;refine wX (wpAny_attempt (wpAny_callSpecial?_slot (name:=Str.ofString "__next__") (eG ho) bJ
  (wpAny_call_entry bJ (eG ho) fX ?_ (gI _))))
 show wpAny _ _ (fieldsOf (.ref it)>>=_) _ _ s;refine wX (wpAny_fieldsOf ho rfl ?_);show wpAny _ _ (setEntries S>>=_) _ _ s;refine wX (wpAny_setEntries_of hS hd hf ?_);rw[if_neg (by simp)];show wpAny _ _ (seqItems? (.ref T)>>=_) _ _ s;refine wX (wpAny_seqItems hT rfl ?_);have e1:(pl.map λ(p:Nat)=>Value.int p 0).toArray[(i:Int).toNat]? = some (.int p 0):=by simp[hp]
 dsimp only;rw[e1];dsimp only;have e2:wpAny (model prog w) A.in1 (setNextDrawn S (p:Int).toNat (ep:Int).toNat) (λy s'=>y=x.2/\s'=s) (λ_ _=>False) s:=by
  unfold setNextDrawn;refine wX (wpAny_setState_of hS hd hf ?_);dsimp only;rw[if_neg (by simp)];simp only[Int.toNat_natCast,hx];exact wY ⟨rfl,rfl⟩
 refine wX (wpAny_mono e2 (λy s' hy=>?_) λ_ _ z=>z.elim);obtain⟨rfl,rfl⟩:=hy;refine wX (wpAny_setField_rec ho (by simp) λh1 e1 b1=>?_);exact wY ⟨_,rfl,wY (hQ h1 (by simpa [rawInt,mK]using e1) b1)⟩
theorem tL {T:Addr}{pl:List Nat}{nt:Nat}{Q:Option Value->Shared->Prop}(hh:A.handled=none)(ho:s.heap.get? it=some (mK (.ref T) i S es.size ep))
  (hT:s.heap.get? T=some (seqObj "tuple" (pl.map λ(p:Nat)=>Value.int p 0).toArray nt))
  (hS:s.heap.get? S=some o) (hd:o.data=.set es ep t) (hf:t.fits es.size=true) (hp:pl[i]? = none)
  (hQ:∀h',Heap.ExtBut it s.heap h'->Q none { s with heap:=h' }):
  wpAny (model prog w) A (pyNext (.ref it)) Q E s:=by
 unfold pyNext;refine wX (wpAny_attempt (wpAny_callSpecial?_slot (name:=Str.ofString "__next__") (eG ho) bJ
  (wpAny_call_entry bJ (eG ho) fX ?_ (gI _))))
 show wpAny _ _ (fieldsOf (.ref it)>>=_) _ _ s;refine wX (wpAny_fieldsOf ho rfl ?_);show wpAny _ _ (setEntries S>>=_) _ _ s;refine wX (wpAny_setEntries_of hS hd hf ?_);rw[if_neg (by simp)];show wpAny _ _ (seqItems? (.ref T)>>=_) _ _ s;refine wX (wpAny_seqItems hT rfl ?_);have e1:(pl.map λ(p:Nat)=>Value.int p 0).toArray[(i:Int).toNat]? = none:=by simpa using hp
 dsimp only;rw[e1];dsimp only;refine wX (wpAny_setField_rec ho (by simp) λh0 e0 b0=>?_);refine wX (wpAny_setField_rec e0 (by simp) λh1 e1 b1=>?_);refine wX ?_;simp only[newExc,newTuple];refine wX (wpAny_newObj_type ?_ (by size_fits));refine wX (m:=firstArgMember _ _) (wpAny_of_eq (a:=Value.none) (by first|rfl|(simp only[firstArgMember];rfl)) ?_);refine wpAny_newObj_type ?_ (by size_fits);simp only[raiseNew];refine wX (wpAny_handled ?_);rw[show A.in1.handled=none from hh];refine wX (wY (wpAny_throw ?_));refine wX (wpAny_isInstance (T:="StopIteration") (b:=true) ⟨_,vY _ rfl,rfl⟩ isSubtype_stop ?_);exact wY (hQ _ (((b0.trans b1).extBut.push _).push _))
theorem yZ (ho:s.heap.get? it=some (mK fst i S n ep))(h:Q (.ref it) s):wpAny (model prog w) A (pyIter (.ref it)) Q E s:=by
 refine wpAny_pyIter_slot (eG ho) mq (wpAny_call_entry mq (eG ho) qS ?_ (tJ _));show wpAny _ _ (ret (.ref it)) _ _ s;exact wY ⟨_,rfl,"set_iterator",_,eG ho,bJ.lookup,h⟩
end
section
variable {prog:Program}{w:World}{A:Around}{E:Value->Shared->Prop}{s:Shared}{it S:Addr}{i k ep:Nat}{o:Obj}{es:Array (Int×Value)}{t:SetTable}
theorem u5 (hS:s.heap.get? S=some o)(hd:o.data=.set es ep t)(hf:t.fits es.size=true)(hb:w.params.followText "set-order" = true)
  (h:Q (((pickOrder (w.params.setOrder S ep) es)[i]?).map λe=>(e.2,k)) s):wpAny (model prog w) A (setNext S k i ep) Q E s:=by
 unfold setNext;refine wX (wpAny_setState_of hS hd hf ?_);dsimp only;unfold setsByText;refine wX (wX (wpAny_askSetting (wY ?_)));show wpAny _ _ (if w.params.followText "set-order" = true then _ else _) _ _ _;rw[if_pos hb,if_neg (by simp)];unfold setWalk setsByText;refine wX (wX (wpAny_setState_of hS hd hf ?_));dsimp only;refine wX (wX (wpAny_askSetting (wY ?_)));show wpAny _ _ (if w.params.followText "set-order" = true then _ else _) _ _ _;rw[if_pos hb];refine wX (wpAny_askSetting (wY ?_));exact wY h
theorem qT (hS:s.heap.get? S=some o)(hd:o.data=.set es ep t)(hf:t.fits es.size=true)(hb:w.params.followText "set-order" = false)(hl:t.led=true)(hz:es.size<=1)
  (h:Q (match es[SetTable.below t.place k]?,t.place[SetTable.below t.place k]? with
   |some (_,x),some j=>some (x,j+1)
   |_,_=>none) s):wpAny (model prog w) A (setNext S k i ep) Q E s:=by
 unfold setNext;refine wX (wpAny_setState_of hS hd hf ?_);dsimp only;unfold setsByText;refine wX (wX (wpAny_askSetting (wY ?_)));show wpAny _ _ (if w.params.followText "set-order" = true then _ else _) _ _ _;rw[if_neg (by rw[hb];simp)];show wpAny _ _ (if(!t.plain && decide (es.size > 1))=true then _ else _) _ _ _;rw[if_neg (by rw[decide_eq_false (by omega)];simp)];show wpAny _ _ ((if(!t.led && !es.isEmpty)=true then unsupported "set:maker-not-led" else pure ())>>=_) _ _ _;rw[hl,if_neg (by simp)];refine wX (wY ?_);exact wY h
theorem u6 (hh:A.handled=none)(hd:o.data=.set es ep t)(hf:t.fits es.size=true)(oA:S≠it)(vs:List Value)(hv:vs.length=es.size)(sl:Nat->Nat)
  (hN:∀i x,vs[i]? = some x->∀(A':Around)(E':Value->Shared->Prop)(s:Shared)(Q':Option (Value×Nat)->Shared->Prop),s.heap.get? S=some o->Q' (some (x,sl (i+1))) s->wpAny (model prog w) A' (setNext S (sl i) i ep) Q' E' s)
  (hE:∀(A':Around)(E':Value->Shared->Prop)(s:Shared)(Q':Option (Value×Nat)->Shared->Prop),s.heap.get? S=some o->Q' none s->wpAny (model prog w) A' (setNext S (sl es.size) es.size ep) Q' E' s):
  Walks prog w A it [it,S] [it] es.size (λi v=>vs[i]? = some v) (λi h=>h.get? it=some (mK (.int (sl i) 0) i S es.size ep)/\h.get? S=some o) where
 sub:=λb hb=>by simp at hb;simp[hb]
 frame:=λ_ _ _ st hk=>⟨hk it (by simp) _ st.1,hk S (by simp) _ st.2⟩
 item:=λi s Q E hi st hQ=>by
  obtain⟨x,hx⟩:∃x,vs[i]? = some x:=⟨_,vU (by omega)⟩;refine xj st.1 st.2 hd hf (λA' E' Q' q=>hN i x hx A' E' s Q' st.2 q) λh' h1 h2=>?_;exact hQ x h' s.toks hx ⟨h1,h2.extBut S _ oA st.2⟩ λb u hb e=>h2.extBut b u (λz=>hb (by simp[z])) e
 done:=λs Q E st hQ=>xl hh st.1 st.2 hd hf (λA' E' Q' q=>hE A' E' s Q' st.2 q) λh' h1=>hQ h' s.toks λb u hb e=>h1 b u (λz=>hb (by simp[z])) e
 self:=λ_ _ _ _ st hQ=>yZ st.1 hQ
theorem Bi {T:Addr}{pl:List Nat}{nt:Nat}(hh:A.handled=none)(hd:o.data=.set es ep t)(hf:t.fits es.size=true)(oA:S≠it)(ZE:T≠it)(hp:pl.Perm (List.range es.size)):
  Walks prog w A it [it,S,T] [it] es.size (λi v=>(pl.map λp=>(es.getD p (0,.none)).2)[i]? = some v)
   (λi h=>h.get? it=some (mK (.ref T) i S es.size ep)/\h.get? S=some o/\h.get? T=some (seqObj "tuple" (pl.map λ(p:Nat)=>Value.int p 0).toArray nt)) where
 sub:=λb hb=>by simp at hb;simp[hb]
 frame:=λ_ _ _ st hk=>⟨hk it (by simp) _ st.1,hk S (by simp) _ st.2.1,hk T (by simp) _ st.2.2⟩
 item:=λi s Q E hi st hQ=>by
  have bP:pl.length=es.size:=by rw[hp.length_eq,List.length_range]
  obtain⟨p,hx⟩:∃p,pl[i]? = some p:=⟨_,vU (by omega)⟩;have T2:p<es.size:=List.mem_range.mp (hp.mem_iff.mp (vL hx));have he:es[p]? = some (es.getD p (0,.none)):=by rw[Array.getD_eq_getD_getElem?,Array.getElem?_eq_getElem T2];rfl
  refine tK st.1 st.2.2 st.2.1 hd hf hx he λh' h1 h2=>?_;exact hQ _ h' s.toks (by simp[hx]) ⟨h1,h2.extBut S _ oA st.2.1,h2.extBut T _ ZE st.2.2⟩ λb u hb e=>h2.extBut b u (λz=>hb (by simp[z])) e
 done:=λs Q E st hQ=>by
  have bP:pl.length=es.size:=by rw[hp.length_eq,List.length_range]
  exact tL hh st.1 st.2.2 st.2.1 hd hf (List.getElem?_eq_none (by omega)) λh' h1=>hQ h' s.toks λb u hb e=>h1 b u (λz=>hb (by simp[z])) e
 self:=λ_ _ _ _ st hQ=>yZ st.1 hQ
end
theorem Bj {α:Type}(es:Array α)(d:α):(List.range es.size).map (λp=>es.getD p d)=es.toList:=by
 apply List.ext_getElem?;intro i;by_cases h:i<es.size
 ·simp[h,Array.getD_eq_getD_getElem?]
 ·simp[h]
section
variable {prog:Program}{w:World}{A:Around}{E:Value->Shared->Prop}{s:Shared}
theorem uA (h:xs=#[j]):SetTable.below xs k=if j<k then 1 else 0:=by
 subst h;by_cases h:j<k
 ·simp[SetTable.below,SetTable.below.go,h]
 ·simp[SetTable.below,SetTable.below.go,h]
theorem Gq {S:Addr}{ts:List Str}{Q:Value->Shared->Prop}(hS:jx prog w s.heap S ts)
  (hQ:∀(h':Heap)(d:Drawn)(it:Addr)(vs:List Value)(fp:List Addr)(St:Nat->Heap->Prop),(∀A',A'.handled=none->Walks prog w A' it fp [it] ts.length (λi v=>vs[i]? = some v) St)->St 0 h' ->
   (∀b u,s.heap.get? b=some u->h'.get? b=some u)->s.heap.objs.size<=it->(∀b∈fp,b=S∨s.heap.objs.size<=b)->vs.length=ts.length->(vs.map strOf).Perm ts->(∀v∈vs,∃x t,v=.str x t) ->
   Q (.ref it) { s with heap:=h',drawn:=d }):wpAny (model prog w) A (pyIter (.ref S)) Q E s:=by
 obtain⟨o,es,ep,t,ho,Lh,hd,Fh,hp,nd,hb,hf,Li,nn⟩:=hS;have sz:es.size=ts.length:=by rw[←hp.length_eq,vI,vG]
 have Pa:S<s.heap.objs.size:=vX ho;have Xs:s.TypeIs (.ref S) "set":=⟨_,ho,Lh.1⟩;have Ij:∀e∈es.toList,∃x t,e.2=.str x t:=λe he=>by
  obtain⟨⟨k,hk,_⟩,_⟩:=Fh e he;obtain⟨t,q⟩:=Value.isStrOf_shape (show Value.isStrOf k e.2=true from hk);exact⟨k,t,q⟩
 refine wpAny_pyIter_slot Xs PySem.F.slot_set_iter (wpAny_call_entry PySem.F.slot_set_iter Xs qg ?_ (PySem.F.args_set_iter_1 _));show wpAny _ _ (Builtin.Frozenset.sizeOf S>>=_) _ _ s;unfold Builtin.Frozenset.sizeOf;refine wX (wX (wpAny_setEntries_of ho hd hf (wY ?_)));unfold setDrawn setsByText;refine wX (wX (wpAny_setState_of ho hd hf ?_));dsimp only;refine wX (wX (wpAny_askSetting (wY (wY ?_))));show wpAny _ _ (if(!w.params.followText "set-order" && (!t.plain && decide (es.size > 1)))=true then _ else _) _ _ _;have Pb:(es.toList.map (·.2)).map strOf=es.toList.map (λe=>strOf e.2):=by rw[uP];rfl
 by_cases M2:w.params.followText "set-order" = true
 ·rw[if_neg (by rw[M2];simp)];refine wX (wY ?_);refine wX (wpAny_setEpoch_of ho hd hf ?_);have pp:=En (w.params.setOrder S ep) es;have bP:((pickOrder (w.params.setOrder S ep) es).toList.map (·.2)).length=es.size:=by rw[vI,pp.length_eq,vG]
  refine wX (wpAny_newObj_type (wY ⟨_,rfl,"set_iterator",_,⟨_,vY _ rfl,rfl⟩,bJ.lookup,?_⟩));refine hQ _ s.drawn s.heap.objs.size ((pickOrder (w.params.setOrder S ep) es).toList.map (·.2)) [s.heap.objs.size,S] (λi h=>h.get? s.heap.objs.size=some (mK (.int ((λ_=>0:Nat->Nat) i:Nat) 0) i S es.size ep)/\h.get? S=some o) (λA' hA=>?_) ?_ (λb u e=>vZ _ e) (vT _) (λb hb=>?_) (bP.trans sz) ?_ ?_
  ·rw[←sz];exact u6 hA hd hf (vS Pa) _ bP (λ_=>0) (λi x hx A' E' s Q' h1 h2=>u5 h1 hd hf M2 (by
    rw[vA,Array.getElem?_toList]at hx;obtain⟨e,he,rfl⟩:=oY hx;rw[he];exact h2)) (λA' E' s Q' h1 h2=>u5 h1 hd hf M2 (by
    rw[Array.getElem?_eq_none (by rw[←vG,pp.length_eq,vG];exact vT _)];exact h2))
  ·exact⟨vY _ rfl,vZ _ ho⟩
  ·simp only[List.mem_cons,List.not_mem_nil,or_false]at hb;rcases hb with rfl|rfl
   ·exact .inr (vT _)
   ·exact .inl rfl
  ·refine List.Perm.trans ?_ hp;rw[←Pb];exact(pp.map _).map _
  ·intro v hv;obtain⟨e,he,rfl⟩:=vO hv;exact Ij e (pp.mem_iff.mp he)
 ·rw[Bool.not_eq_true]at M2;have hl:t.led=true:=by rw[Li,M2];rfl
  by_cases h1:es.size<=1
  ·rw[if_neg (by rw[decide_eq_false (by omega)];simp)];refine wX (wY ?_);refine wX (wpAny_setEpoch_of ho hd hf ?_);refine wX (wpAny_newObj_type (wY ⟨_,rfl,"set_iterator",_,⟨_,vY _ rfl,rfl⟩,bJ.lookup,?_⟩));have hpz:t.place.size=es.size:=by
    simp only[SetTable.fits,vC,beq_iff_eq,decide_eq_true_eq]at hf;exact hf.1
   refine hQ _ s.drawn s.heap.objs.size (es.toList.map (·.2)) [s.heap.objs.size,S] (λi h=>h.get? s.heap.objs.size=some (mK (.int ((λi=>if i=0 then 0 else t.place.getD 0 0+1:Nat->Nat) i:Nat) 0) i S es.size ep)/\h.get? S=some o) (λA' hA=>?_) ?_ (λb u e=>vZ _ e) (vT _) (λb hb=>?_) (by rw[vI,vG,sz]) (by rw[Pb];exact hp) ?_
   ·rw[←sz];refine u6 hA hd hf (vS Pa) _ (by simp) (λi=>if i=0 then 0 else t.place.getD 0 0+1) (λi x hx A' E' s Q' q1 q2=>qT q1 hd hf M2 hl h1 ?_) (λA' E' s Q' q1 q2=>qT q1 hd hf M2 hl h1 ?_)
    ·have hi:i<es.size:=by have:=(vV hx).1;simpa using this
     have ZF:i=0:=by omega
     subst ZF;obtain⟨j,hj⟩:∃j,t.place=#[j]:=Array.size_eq_one_iff.mp (by omega);rw[if_pos rfl,uA hj,if_neg (by omega)];rw[vA,Array.getElem?_toList]at hx;obtain⟨e,he,rfl⟩:=oY hx;rw[he];simp only[hj]at q2 ⊢;simpa using q2
    ·by_cases h0:es.size=0
     ·have Vw:t.place=#[]:=Array.eq_empty_of_size_eq_zero (by omega);have ZG:es=#[]:=Array.eq_empty_of_size_eq_zero h0;rw[Vw,ZG];simpa using q2
     ·obtain⟨j,hj⟩:∃j,t.place=#[j]:=Array.size_eq_one_iff.mp (by omega);rw[if_neg h0,uA hj];have:t.place.getD 0 0=j:=by rw[hj];rfl
      rw[this,if_pos (by omega),Array.getElem?_eq_none (by omega)];exact q2
   ·exact⟨vY _ rfl,vZ _ ho⟩
   ·simp only[List.mem_cons,List.not_mem_nil,or_false]at hb;rcases hb with rfl|rfl
    ·exact .inr (vT _)
    ·exact .inl rfl
   ·intro v hv;obtain⟨e,he,rfl⟩:=vO hv;exact Ij e he
  ·have Vw:t.plain=false:=nn (by omega);rw[if_pos (by rw[M2,Vw,decide_eq_true (by omega)];rfl)];refine wX (Cp es.size (List.range es.size) _ _ (by simp) λpl d pp=>?_);refine wX (wpAny_newTuple ?_ (by rw[vI,pp.length_eq,List.length_range,sz];exact fits_of_scanBound hb));refine wX (wpAny_setEpoch_of (vZ _ ho) hd hf ?_);refine wX (wpAny_newObj_type (wY ⟨_,rfl,"set_iterator",_,⟨_,vY _ rfl,rfl⟩,bJ.lookup,?_⟩));have hsz:(s.heap.push (seqObj "tuple" (pl.map λ(p:Nat)=>Value.int p 0).toArray 0)).objs.size=s.heap.objs.size+1:=size_push' _ _;have hV:((pl.map λp=>(es.getD p (0,.none)).2)).Perm (es.toList.map (·.2)):=by
    have:=(pp.map λp=>es.getD p (0,Value.none)).map (·.2);rw[Bj]at this;rw[uP]at this;exact this
   refine hQ _ d _ (pl.map λp=>(es.getD p (0,.none)).2) [(s.heap.push (seqObj "tuple" (pl.map λ(p:Nat)=>Value.int p 0).toArray 0)).objs.size,S,s.heap.objs.size] (λi h=>h.get? (s.heap.push (seqObj "tuple" (pl.map λ(p:Nat)=>Value.int p 0).toArray 0)).objs.size=some (mK (.ref s.heap.objs.size) i S es.size ep)/\h.get? S=some o/\h.get? s.heap.objs.size=some (seqObj "tuple" (pl.map λ(p:Nat)=>Value.int p 0).toArray 0)) (λA' hA=>?_) ?_ (λb u e=>vZ _ (vZ _ e)) ?_ (λb hb=>?_) ?_ ?_ ?_
   ·rw[←sz];exact Bi (nt:=0) hA hd hf (by show S≠(s.heap.push _).objs.size;rw[size_push'];exact vS (Nat.lt_succ_of_lt Pa)) (by show s.heap.objs.size≠(s.heap.push _).objs.size;rw[size_push'];exact vS (Nat.lt_succ_self _)) pp
   ·exact⟨vY _ rfl,vZ _ (vZ _ ho),vZ _ (vY _ rfl)⟩
   ·show s.heap.objs.size<=(s.heap.push _).objs.size;rw[size_push'];omega
   ·simp only[List.mem_cons,List.not_mem_nil,or_false]at hb;rcases hb with rfl|rfl|rfl
    ·refine .inr ?_;show s.heap.objs.size<=(s.heap.push _).objs.size;rw[size_push'];omega
    ·exact .inl rfl
    ·exact .inr (vT _)
   ·rw[hV.length_eq,vI,vG,sz]
   ·exact((hV.map strOf).trans (by rw[Pb])).trans hp
   ·intro v hv;obtain⟨e,he,rfl⟩:=vO (hV.mem_iff.mp hv);exact Ij e he
end
theorem Eo (h:ItemsOf (λi v=>vs[i]? = some v) mh vs.length):mh.toList=vs:=by
 apply List.ext_getElem?;intro i;by_cases hi:i<mh.size
 ·have e:mh[i]? = some mh[i]:=Array.getElem?_eq_getElem hi;rw[Array.getElem?_toList,e,h.2 i _ e]
 ·rw[List.getElem?_eq_none (by rw[vG];omega),List.getElem?_eq_none (by rw[←h.1];omega)]
section
variable {prog:Program}{w:World}{A:Around}{E:Value->Shared->Prop}{s:Shared}
theorem za (hh:A.handled=none)(hS:jx prog w s.heap S ts)
  (hQ:∀s' vs,(∀b u,s.heap.get? b=some u->s'.heap.get? b=some u)->s'.gens=s.gens->s'.os=s.os->vs.length=ts.length->(vs.map strOf).Perm ts->(∀v∈vs,∃x t,v=.str x t)->Q vs s'):
  wpAny (model prog w) A (collect (.ref S)) Q E s:=by
 have Mw:∀(s1:Shared),jx prog w s1.heap S ts->s1.TypeIs (.ref S) "set":=λs1 h=>by
  obtain⟨o,_,_,_,ho,Lh,_⟩:=h;exact⟨o,ho,Lh.1⟩
 have gs:S<s.heap.objs.size:=by obtain⟨o,_,_,_,ho,_⟩:=hS;exact vX ho
 have Sl:ts.length<scanBound:=by obtain⟨_,_,_,_,_,_,_,_,_,_,h,_⟩:=hS;exact h
 unfold collect;refine wX (wpAny_runValue (codeAny_builtin PySem.F.entry_proto_collect ?_));rw[Around.under_plainId PySem.F.plain_proto_collect _];show wpAny _ A.in1 (newList []>>=λl=>again (.builtin "list.__iadd__" ⟨[l,.ref S],[]⟩)) _ _ s;refine wX (wpAny_newObj_type ?_);refine wY ⟨plainId_quiet PySem.F.plain_list_iadd _,codeAny_builtin PySem.F.entry_list_iadd ?_⟩;rw[Around.under_plainId PySem.F.plain_list_iadd _];show wpAny _ A.in1 (Builtin.List.listExtendWith (.ref s.heap.objs.size) (.ref S) (.ref s.heap.objs.size)) _ _ _;unfold Builtin.List.listExtendWith;have Vx:jx prog w (s.heap.push { cls:=.type "list",data:=.seq ([]:List Value).toArray }) S ts:=hS.at λo e=>vZ _ e;refine wX (wpAny_typeOf (Mw _ Vx) ?_);have Fi:s.heap.objs.size≠S:=Nat.ne_of_gt gs;have h1:Builtin.List.listSameRef (.ref s.heap.objs.size) (.ref S)=false:=by simp[Builtin.List.listSameRef,Fi]
 have h2:(Value.type "set" == Value.type "list")=false:=by decide
 have h3:(Value.type "set" == Value.type "tuple")=false:=by decide
 simp only[h1,h2,h3,Bool.or_false,uV,if_false];refine wX (Gq (s:={ s with heap:=s.heap.push { cls:=.type "list",data:=.seq ([]:List Value).toArray } }) Vx λh' d it vs fp St W ng hk EX hfp D7 hV Ib=>?_);have Sj:jx prog w h' S ts:=Vx.at λo e=>hk _ _ e;refine wX (wpAny_holding ?_);unfold Builtin.List.listLengthHint;refine wX (wpAny_specialOf (Mw _ Sj) PySem.F.slot_set_len.lookup ?_);wp_delta;refine wX (wpAny_isInstance (Mw _ Sj) sub_set_self ?_);show wpAny _ A.in1 (typeOf (Value.ref S)>>=_) _ _ _;refine wX (wpAny_typeOf (Mw _ Sj) ?_);refine wY ?_;rw[if_pos (by decide)];refine wX (wpAny_rule ?_);refine wX ?_;have Sm:(s.heap.push { cls:=.type "list",data:=.seq ([]:List Value).toArray }).objs.size=s.heap.objs.size+1:=size_push' _ _;have Xt:h'.get? s.heap.objs.size=some { cls:=.type "list",data:=.seq ([]:List Value).toArray }:=hk _ _ (vY _ rfl);show wpAny _ A.in1 (updateSeq s.heap.objs.size (·.push .none)>>=λ_=>updateSeq s.heap.objs.size (·.pop)) _ _ _;refine wX (wpAny_updateSeq Xt rfl ?_);have Xu:=Heap.get?_update_self (Obj.mapSeq (·.push Value.none)) Xt rfl;refine wpAny_updateSeq Xu rfl ?_;have ZH:=Heap.get?_update_self (Obj.mapSeq (·.pop)) Xu rfl;have OX:s.heap.objs.size∉fp:=λhm=>by
  rcases hfp _ hm with z|z
  ·exact Fi z
  ·rw[Sm]at z;exact absurd z (Nat.not_succ_le_self _)
 have Xv:∀b u,b≠s.heap.objs.size->h'.get? b=some u ->
   ((h'.update s.heap.objs.size (Obj.mapSeq (·.push Value.none))).update s.heap.objs.size (Obj.mapSeq (·.pop))).get? b=some u :=
  λb u hb e=>(Heap.get?_update_other _ _ (Ne.symm hb)).trans ((Heap.get?_update_other _ _ (Ne.symm hb)).trans e)
 have W0:=W A.in1 hh;refine wY ⟨plainId_quiet PySem.F.plain_extend_loop _,codeAny_extend_loopS W0.toS (fits_of_scanBound Sl) _ OX _ ts.length 0 _ _ _ rfl (uN _)
  (W0.frame 0 _ _ ng λb hb u e=>Xv b u (λz=>OX (z ▸ hb)) e) ZH (ItemsOf.nil _) λs' acc' c' hm hL' Ik=>?_⟩
 show wpAny _ A (load s.heap.objs.size>>=_) _ _ s';refine wX (wpAny_load hL' ?_);rw[←D7]at Ik;refine wY ?_;show Q acc'.toList s';rw[Eo Ik];refine hQ s' vs (λb u e=>hm.heap b u (λhb=>?_) (Xv b u (vS (vX e)) (hk _ _ (vZ _ e)))) hm.gens hm.os D7 hV Ib;have hl:=vX e;simp only[List.mem_cons,List.not_mem_nil,or_false]at hb;rcases hb with rfl|rfl
 ·exact absurd hl (Nat.lt_irrefl _)
 ·rw[Sm]at EX;exact absurd (vQ hl (Nat.le_of_succ_le EX)) (Nat.lt_irrefl _)
theorem Bk (hh:A.handled=none)(hS:jx prog w s.heap S ts)(EY:ts.length<64)
  (hQ:∀(s1:Shared)(h':Heap)(a:Addr)(out:Array Value)(n:Nat)(PX:List Str),(∀b u,s.heap.get? b=some u->s1.heap.get? b=some u)->s1.os=s.os->s1.gens=s.gens->(∀b u,s1.heap.get? b=some u->h'.get? b=some u)->s1.heap.objs.size<=a->h'.get? a=some (seqObj "list" out n) ->
   StrsAre out.toList PX->PX.Perm ts->sortedS PX=true->Q (.ref a) { s1 with heap:=h' }):
  wpAny (model prog w) A (call (.builtin "sorted") [.ref S]) Q E s:=by
 refine Calls.call_function_entry kind_sorted plain_sorted entry_sorted (args_sorted1 _) ?_;unfold Builtin.«sorted»;refine wX (m:=checkCount "sorted" 1 1 _) (wY ?_);refine wX (za (A:=A.in1) (by exact hh) hS λs1 vs hk hg KZ D7 hV Ib=>?_);have ng:StrsAre vs (vs.map strOf):=strsAre_map vs Ib;refine wX (wpAny_newList ?_ (by rw[D7,sizeLine_eq];omega));have KP:(s1.heap.push (seqObj "list" vs.toArray 0)).get? s1.heap.objs.size=some (seqObj "list" vs.toArray 0):=vY _ rfl;show wpAny _ _ _ _ _ { s1 with heap:=s1.heap.push (seqObj "list" vs.toArray 0) };refine wX (wpAny_holding (wpAny_call_entry slot_list_sort ⟨_,KP,rfl⟩ entry_list_sort (list_sort_treeK strKind_oneLt KP ng.keysOf (λv₁ v₂ aB e=>keyKind_strs (by rw[←e];exact ng)) (by rw[D7];exact EY) λmC a1 a2=>⟨_,rfl,?_⟩) (args_list_sort _)));obtain⟨PX,b1,b2,b3⟩:=sorted_out_str ng a1 a2;obtain⟨e,he⟩:=sortedHeap_at (out:=(arrOf mC).map (·.2)) KP;refine wY ⟨_,rfl,hQ s1 _ _ _ e PX hk KZ hg (λb u q=>?_) (vT _) he b1 (b2.trans hV) b3⟩;have hl:=vX q;rw[sortedHeap_old (vS hl) (by rw[size_push'];exact Nat.lt_succ_of_lt hl)];exact vZ _ q
end
end DL
namespace DL
open PySem PySem.Spec PyProof.Rows L2
def xm (a b:Str):Prop:=¬b.cps.toList<a.cps.toList
theorem Cr:ltCps b.cps.toList a.cps.toList=false↔xm a b:=by rw[ltCps_eq,decide_eq_false_iff_not];rfl
theorem uB (h:xm a b)(k:xm b c):xm a c:=by
 unfold xm at *;exact List.not_lt.mpr (List.le_trans (List.not_lt.mp h) (List.not_lt.mp k))
theorem Gr (h:xm a b)(k:xm b a):a=b:=by
 have e:a.cps.toList=b.cps.toList:=List.le_antisymm (List.not_lt.mp h) (List.not_lt.mp k);obtain⟨a⟩:=a;obtain⟨b⟩:=b;have:a=b:=Array.toList_inj.mp e;rw[this]
noncomputable def Bl (x:Str):List Str->List Str
 |[]=>[x]
 |y::r=>if ltCps y.cps.toList x.cps.toList then y::Bl x r else x::y::r
noncomputable def lf (l:List Str):List Str:=l.foldr Bl []
theorem oM (x:Str):∀l,(Bl x l).Perm (x::l)
 |[]=>List.Perm.refl _
 |y::r=>by
  unfold Bl;split
  ·exact((oM x r).cons y).trans (List.Perm.swap x y r)
  ·exact List.Perm.refl _
theorem dG:∀l,(lf l).Perm l
 |[]=>List.Perm.refl _
 |x::l=>(oM x (lf l)).trans ((dG l).cons x)
theorem uC (x:Str):∀l,l.Pairwise xm->(Bl x l).Pairwise xm
 |[],_=>by simp[Bl]
 |y::r,h=>by
  obtain⟨h1,h2⟩:=List.pairwise_cons.mp h;unfold Bl;split
  ·rename_i hl;refine List.pairwise_cons.mpr ⟨λz hz=>?_,uC x r h2⟩;rcases vP ((oM x r).mem_iff.mp hz)with rfl|hz
   ·rw[ltCps_eq,decide_eq_true_eq]at hl;exact λk=>List.lt_irrefl _ (List.lt_trans hl k)
   ·exact h1 z hz
  ·rename_i hl;rw[Bool.not_eq_true]at hl;have PY:xm x y:=Cr.mp hl;refine List.pairwise_cons.mpr ⟨λz hz=>?_,h⟩;rcases vP hz with rfl|hz
   ·exact PY
   ·exact uB PY (h1 z hz)
theorem qU:∀l,(lf l).Pairwise xm
 |[]=>List.Pairwise.nil
 |x::l=>uC x _ (qU l)
theorem p9:∀(l:List Str)(p:Str),risingS p l=true->(p::l).Pairwise xm
 |[],p,_=>List.pairwise_singleton _ _
 |x::r,p,h=>by
  have h':(!ltCps x.cps.toList p.cps.toList && risingS x r)=true:=h;rw[vC]at h';have Xw:xm p x:=Cr.mp (by simpa using h'.1);have ih:=p9 r x h'.2;refine List.pairwise_cons.mpr ⟨λz hz=>?_,ih⟩;rcases vP hz with rfl|hz
  ·exact Xw
  ·exact uB Xw ((List.pairwise_cons.mp ih).1 z hz)
theorem zb:∀(l:List Str),sortedS l=true->l.Pairwise xm
 |[],_=>List.Pairwise.nil
 |x::r,h=>p9 r x h
theorem zc (a:Str):xm a a:=List.lt_irrefl _
theorem qV:∀(l1 l2:List Str),l1.Perm l2->l1.Pairwise xm->l2.Pairwise xm->l1=l2
 |[],l2,p,_,_=>(List.nil_perm.mp p).symm
 |x::r1,[],p,_,_=>absurd p.length_eq (by simp)
 |x::r1,y::r2,p,h1,h2=>by
  have PY:xm x y:=by
   rcases vP (p.mem_iff.mpr (mX ..))with z|z
   ·rw[z];exact zc _
   ·exact(List.pairwise_cons.mp h1).1 y z
  have Vy:xm y x:=by
   rcases vP (p.mem_iff.mp (mX ..))with z|z
   ·rw[z];exact zc _
   ·exact(List.pairwise_cons.mp h2).1 x z
  have e:=Gr PY Vy;subst e;rw[qV r1 r2 (List.Perm.cons_inv p) (List.pairwise_cons.mp h1).2 (List.pairwise_cons.mp h2).2]
theorem Ep (p:l'.Perm l)(h:sortedS l'=true):l'=lf l:=qV _ _ (p.trans (dG l).symm) (zb _ h) (qU l)
section
variable {X:Cx}
noncomputable def Gs (X:Cx)(S:Addr)(ts:List Str):HO:=.ext λh=>jx X.prog X.w h S ts
theorem uE (I:Inv X af U H s)(k:∀b u,s.heap.get? b=some u->s1.heap.get? b=some u)(ho:s1.os=s.os)(hg:s1.gens=s.gens):Inv X af U H s1:=by
 have I1:=I.step (g':=s.gens) (d':=s1.drawn) (t':=s1.toks) (h':=s1.heap) (H':=H) (ch:=[]) (λ_ z=>nomatch z) (λb o _ _ _ e _=>k b o e) (λb o _ _ _ e _=>⟨o.slots,k b o e⟩) (λ_ _ _ _ n=>n)
  (λb o _ e=>⟨o,k b o e⟩) (λ_ _ e=>e) (λ_ _ _ e=>e) (λ_ _ e=>e) (λm hm=>?_) (I.hok.kept k) I.bare
 ·obtain⟨h1,g1,d1,t1,o1⟩:=s1;cases ho;cases hg
  exact I1
 ·obtain⟨o,es,ep,ho,r⟩:=hm;exact⟨o,es,ep,k _ o ho,r⟩
theorem zd (hc:X.calm=true):cm X (.type "set") (λxs H Q=>∃p ys ss,xs=[.ref p]/\jl X.K H p ys/\(∀its,bp ys its->StrsAre its ss)/\ss.length<4000/\∀S,H S=none->Q (.ref S) (upd H S (Gs X S (iN ss)))):=by
 intro af s U H xs us Q I r h;obtain⟨p,ys,ss,rfl,hq,hs,EY,q⟩:=h;obtain⟨u,rfl,rx⟩:=iH r;cases rx
 obtain⟨its,r',pl,hz⟩:=I.list hq;have ng:=hs its r';have bP:its.length=ss.length:=by rw[←ng.strs,vI]
 refine qR (I.ok.hd hc) pl.isList (by simpa using ng) (by simp only[vH];unfold scanBound;omega) λh' tk hS hk=>?_;refine⟨.ref s.heap.objs.size,_,I.laid (t':=tk) (λb u e=>hk b u (vX e) e) (vT _) ?_,rfl,q _ (I.hok.fresh (vT _))⟩;refine⟨hS,?_,λh1 h2 z k=>z.at k⟩;obtain⟨o,_,_,_,ho,_⟩:=hS;exact⟨o,ho⟩
theorem qh (hc:X.calm=true):cm X (.builtin "sorted") (λxs H Q=>∃S ts,xs=[.ref S]/\H S=some (Gs X S ts)/\ts.length<64/\∀l,H l=none->Q (.ref l) (upd H l (.lst ((lf ts).map .str)))):=by
 intro af s U H xs us Q I r h;obtain⟨S,ts,rfl,hS,EY,q⟩:=h;obtain⟨u,rfl,rx⟩:=iH r;cases rx
 have hT:jx X.prog X.w s.heap S ts:=(I.hok S _ hS).1;refine Bk (I.ok.hd hc) hT EY λs1 h' a out n PX k1 ho hg k2 hp he ng hV t7=>?_;have e:=Ep hV t7;subst e;have I1:=uE I k1 ho hg;have hv:∀ {its:List Value}{zs:List Str},StrsAre its zs->bp (zs.map V.str) its:=λz=>by
  induction z with
  |nil=>exact .nil
  |cons x t _ ih=>exact .cons ⟨t,rfl⟩ ih
 refine⟨.ref a,_,I1.laid (t':=s1.toks) k2 hp (show bZ X.prog X.w _ h' _ (.lst _)from ⟨?_,out.toList,n,hv ng,he⟩),rfl,q _ (I1.hok.fresh hp)⟩;rw[vI,(dG ts).length_eq,sizeLine_eq];omega
end
@[simp] def eI:D->OB
 |.lst ds=>(iq ds).bind λss=>if ss.length<64 then some (.lst ((lf (iN ss)).map .str),true)else none
 |_=>none
@[simp] def Tc:D->OB
 |.lst ds=>(iq ds).bind λss=>if ss.length<4000 then some (.int ((iN ss).length:Nat),false)else none
 |_=>none
theorem ze:bootBuiltins "sorted" = some (.builtin "sorted"):=by decide +kernel
theorem Rq:bootBuiltins "set" = some (.type "set"):=by decide +kernel
theorem qW {K:Frag}{N:Hp}:∀(zs:List Str),IsL K N (zs.map V.str) (zs.map D.str)
 |[]=>.nil
 |z::zs=>.cons (.str z) (qW zs)
section
variable {X:Cx}{e:Expr}{pos pos2 p p2:Pos}
theorem km (hc:X.calm=true)(m1:X.mg "sorted" = none)(m2:X.mg "set" = none)(he:JE X e f)(g1:Gl X "sorted":=by rfl)(g2:Gl X "set":=by rfl)
  (h1:starEach [e] X.env=(false,eval e X.env)::starEach [] X.env:=by rfl):JE X (.Call (.Name "sorted" p) [.Call (.Name "set" p2) [e] [] pos2] [] pos) (f1 eI f):=by
 refine PE.to (yp (qh hc) g1 m1 ze (jm (ue (zd hc) g2 m2 Rq (jm he kR h1) (he:=h1)) kR)) λU H Q q=>?_;obtain⟨B,Y,d',bb,sB,r,ee,q⟩:=q;obtain⟨x1,ex,ee⟩:=oX ee;refine⟨B,Y,x1.1,x1.2,sB,r,ex,λv H1 N1 xt i1 fr=>?_⟩;obtain⟨xd,xb⟩:=x1;cases i1<;>try (simp[eI]at ee;done)
 rename_i l0 vs ds h hl;simp only[eI]at ee;obtain⟨ss,ez,ee⟩:=oX ee;split at ee
 ·rename_i EY;cases ee
  refine⟨_,_,ss,rfl,xt.nh.seq h,λits r'=>lb r' hl ez,by omega,λS hS=>⟨S,_,rfl,aJ,Nat.lt_of_le_of_lt (nG ss) EY,λl EU=>?_⟩⟩;have x2:=Ext.laid (o:=Gs X S (iN ss)) xt.nh hS;have x3:=Ext.laid (o:=.lst ((lf (iN ss)).map V.str)) x2.nh EU;have ZJ:H l=none:=((xt.trans x2).hh).free EU;exact q _ _ _ ((xt.trans x2).trans x3) (.lst (jl.of aJ) (qW _)) λ_=>⟨_,_,_,rfl,rfl,ZJ,aJ,qW _⟩
 ·cases ee
end
end DL
namespace DL
open PySem PySem.Spec PySem.W PyProof.Rows
inductive Run (n:Nat)(lt:Nat->Nat->Bool){α:Type}:KasT α->α->Prop where
 |ret (a:α):Run n lt (.ret a) a
 |ask {i j:Nat}{k:Bool->KasT α}{a:α}(hi:i<n) (hj:j<n) (h:Run n lt (k (lt i j)) a):Run n lt (.ask i j k) a
theorem Run.bind {n:Nat}{lt:Nat->Nat->Bool}{α β:Type}{t:KasT α}{f:α->KasT β}{a:α}{b:β}(h:Run n lt t a)(k:Run n lt (f a) b):Run n lt (t.bind f) b:=by
 induction h with
 |ret a=>exact k
 |ask hi hj _ ih=>exact .ask hi hj (ih k)
theorem Run.wp {n:Nat}{lt:Nat->Nat->Bool}{α:Type}{Xx:Nat->Nat->(Bool->Shared->Prop)->Shared->Prop}{Q:α->Shared->Prop}{t:KasT α}{a:α}(J:Shared->Prop)
  (hc:∀i j C s,i<n->j<n->J s->(∀s',J s'->C (lt i j) s')->Xx i j C s) (h:Run n lt t a):∀ {s:Shared},J s->(∀s',J s'->Q a s')->t.kasWp Xx Q s:=by
 induction h with
 |ret a=>intro s hJ hQ;exact hQ s hJ
 |ask hi hj _ ih=>intro s hJ hQ;exact hc _ _ _ _ hi hj hJ λs' hJ'=>ih hJ' hQ
section
variable {n:Nat}{rk:Nat->Int}
noncomputable abbrev qX (rk:Nat->Int)(i j:Nat):Bool:=decide (rk i<rk j)
noncomputable def cD (rk:Nat->Int)(p:Array Nat)(k:Nat):Int:=rk (p.getD k 0)
structure qp (n:Nat)(p:Array Nat):Prop where
 size:p.size=n
 perm:p.toList.Perm (List.range n)
theorem qp.lt {p:Array Nat}(h:qp n p){k:Nat}(hk:k<n):p.getD k 0<n:=by
 have gg:k<p.size:=by rw[h.size];exact hk
 have:p.getD k 0=p[k]:=by rw[Array.getD_eq_getD_getElem?,Array.getElem?_eq_getElem gg];rfl
 rw[this];exact List.mem_range.mp (h.perm.mem_iff.mp (by simp))
theorem qp.rev {p:Array Nat}(h:qp n p)(i j:Nat):qp n (kas_rev p i j) :=
 ⟨(mirror_size _ _ _ _).trans h.size,(Array.perm_iff_toList_perm.mp (mirror_perm p i j _)).trans h.perm⟩
theorem qp.bub {p:Array Nat}(h:qp n p)(k d:Nat):qp n (bubble p k d) :=
 ⟨(bubble_size _ _ _).trans h.size,(Array.perm_iff_toList_perm.mp (bubble_perm p k d)).trans h.perm⟩
theorem xn {p:Array Nat}{i j:Nat}(hj:j<=p.size)(k:Nat):cD rk (kas_rev p i j) k=if i<=k/\k<j then cD rk p (i+j - 1 - k)else cD rk p k:=by
 unfold cD kas_rev;rw[Array.getD_eq_getD_getElem?,getElem?_mirror_all hj];split<;>rw[Array.getD_eq_getD_getElem?]
theorem Gu {p:Array Nat}{src d:Nat}(hs:src<p.size)(hd:d<=src)(k:Nat):cD rk (bubble p src d) k=if k=src - d then cD rk p src else if src - d<k/\k<=src then cD rk p (k - 1)else cD rk p k:=by
 unfold cD;simp only[Array.getD_eq_getD_getElem?];rw[getElem?_bubble hs d hd];repeat' split
 all_goals rfl
def Up (rk:Nat->Int)(p:Array Nat)(m:Nat):Prop:=∀i j,i<=j->j<m->cD rk p i<=cD rk p j
def xo (rk:Nat->Int)(p:Array Nat)(m:Nat):Prop:=∀i j,i<=j->j<m->cD rk p j<=cD rk p i
theorem Og (p:Array Nat):Up rk p 1:=λi j h1 h2=>by
 have:i=j:=by omega
 subst this;exact Int.le_refl _
theorem xp {p:Array Nat}(h:qp n p){r:Nat}(hr:r<=n):∀(f m:Nat),r - m=f->1<=m->m<=r->Up rk p m->∃m',Run n (qX rk) (kas_asc p f m) m'/\m<=m'/\m'<=r/\Up rk p m'/\(m'<r->cD rk p m'<cD rk p (m' - 1))
 |0,m,hf,h1,hm,hu=>⟨m,.ret m,vT _,hm,hu,λz=>by omega⟩
 |f+1,m,hf,h1,hm,hu=>by
  have a1:=h.lt (k:=m) (by omega);have a2:=h.lt (k:=m - 1) (by omega);by_cases hc:cD rk p m<cD rk p (m - 1)
  ·refine⟨m,.ask a1 a2 ?_,vT _,hm,hu,λ_=>hc⟩;have:qX rk (p.getD m 0) (p.getD (m - 1) 0)=true:=decide_eq_true hc;rw[this,if_pos rfl];exact .ret m
  ·have Lk:Up rk p (m+1):=λi j D9 hj=>by
    by_cases e:j=m
    ·subst e;by_cases e2:i=j
     ·subst e2;exact Int.le_refl _
     ·have:=hu i (j - 1) (by omega) (by omega);omega
    ·exact hu i j D9 (by omega)
   obtain⟨m',q1,q2,q3,q4,q5⟩:=xp h hr f (m+1) (by omega) (by omega) (by omega) Lk;refine⟨m',.ask a1 a2 ?_,by omega,q3,q4,q5⟩;have:qX rk (p.getD m 0) (p.getD (m - 1) 0)=false:=decide_eq_false hc;rw[this,if_neg uX];exact q1
def JQ (rk:Nat->Int)(p:Array Nat)(m q:Nat):Prop:=q+1<=m/\∀k,m - (q+1)<=k->k<m->cD rk p k=cD rk p (m - 1)
theorem zf {p:Array Nat}{m q:Nat}(hs:m<=p.size)(hf:JQ rk p m q)(k:Nat):cD rk (kas_rev p (m - (q+1)) m) k=cD rk p k:=by
 rw[xn hs];split
 ·rename_i hk;have h0:=hf.1;rw[hf.2 k hk.1 hk.2,hf.2 _ (by omega) (by omega)]
 ·rfl
theorem Cs {p p':Array Nat}{m:Nat}(e:∀k,cD rk p' k=cD rk p k)(h:xo rk p m):xo rk p' m:=λi j h1 h2=>by rw[e,e];exact h i j h1 h2
theorem qY (p:Array Nat){m:Nat}(h:1<=m):JQ rk p m 0:=⟨h,λk h1 h2=>by
 have:k=m - 1:=by omega
 rw[this]⟩
theorem nI {r:Nat}(hr:r<=n):∀(f:Nat)(p:Array Nat)(m q:Nat),qp n p->r - m=f->1<=m->m<=r->xo rk p m->JQ rk p m q->∃p' m' q',Run n (qX rk) (kas_desc f p m q) (p',m',q')/\qp n p'/\m<=m'/\m'<=r/\xo rk p' m'/\JQ rk p' m' q'
 |0,p,m,q,h,hf,h1,hm,hd,hq=>⟨p,m,q,.ret _,h,vT _,hm,hd,hq⟩
 |f+1,p,m,q,h,hf,h1,hm,hd,hq=>by
  have a1:=h.lt (k:=m) (by omega);have a2:=h.lt (k:=m - 1) (by omega);have step:∀p':Array Nat,(∀k,cD rk p' k=cD rk p k)->cD rk p m<=cD rk p (m - 1)->xo rk p' (m+1):=λp' e Lg i j D9 hj=>by
   rw[e,e];by_cases z:j=m
   ·subst z;by_cases z2:i=j
    ·subst z2;exact Int.le_refl _
    ·have:=hd i (j - 1) (by omega) (by omega);omega
   ·exact hd i j D9 (by omega)
  by_cases hc:cD rk p m<cD rk p (m - 1)
  ·have kQ:qX rk (p.getD m 0) (p.getD (m - 1) 0)=true:=decide_eq_true hc;by_cases hq0:q > 0
   ·have e:=zf (p:=p) (by rw[h.size];omega) hq;obtain⟨p',m',q',g1,g2,g3,g4,g5,g6⟩:=nI hr f (kas_rev p (m - (q+1)) m) (m+1) 0 (h.rev _ _) (by omega) (by omega) (by omega) (step _ e (by omega)) (qY _ (by omega));refine⟨p',m',q',.ask a1 a2 ?_,g2,by omega,g4,g5,g6⟩;rw[kQ,if_pos rfl,if_pos hq0];exact g1
   ·obtain⟨p',m',q',g1,g2,g3,g4,g5,g6⟩:=nI hr f p (m+1) 0 h (by omega) (by omega) (by omega) (step _ (λ_=>rfl) (by omega)) (qY _ (by omega));refine⟨p',m',q',.ask a1 a2 ?_,g2,by omega,g4,g5,g6⟩;rw[kQ,if_pos rfl,if_neg hq0];exact g1
  ·have kQ:qX rk (p.getD m 0) (p.getD (m - 1) 0)=false:=decide_eq_false hc;by_cases D4:cD rk p (m - 1)<cD rk p m
   ·have Pc:qX rk (p.getD (m - 1) 0) (p.getD m 0)=true:=decide_eq_true D4;refine⟨p,m,q,.ask a1 a2 ?_,h,vT _,hm,hd,hq⟩;rw[kQ,if_neg uX];refine .ask a2 a1 ?_;rw[Pc,if_pos rfl];exact .ret _
   ·have Pc:qX rk (p.getD (m - 1) 0) (p.getD m 0)=false:=decide_eq_false D4;have he:cD rk p m=cD rk p (m - 1):=by omega
    obtain⟨p',m',q',g1,g2,g3,g4,g5,g6⟩:=nI hr f p (m+1) (q+1) h (by omega) (by omega) (by omega) (step _ (λ_=>rfl) (by omega)) ⟨by have:=hq.1;omega,λk k1 k2=>by
     rw[Nat.add_sub_cancel];by_cases z:k=m
     ·rw[z]
     ·rw[hq.2 k (by omega) (by omega),he]⟩
    refine⟨p',m',q',.ask a1 a2 ?_,g2,by omega,g4,g5,g6⟩;rw[kQ,if_neg uX];refine .ask a2 a1 ?_;rw[Pc,if_neg uX];exact g1
theorem zg {r:Nat}(hr:r<=n){p:Array Nat}(h:qp n p){m:Nat}(h1:1<=m)(hm:m<=r)(hd:xo rk p m):∃m' p',Run n (qX rk) (kas_tail3 m r p) (m',p')/\qp n p'/\1<=m'/\m'<=r/\Up rk p' m':=by
 have hu:Up rk (kas_rev p 0 m) m:=λi j D9 hj=>by
  rw[xn (by rw[h.size];omega),xn (by rw[h.size];omega),if_pos (by omega),if_pos (by omega)];exact hd _ _ (by omega) (by omega)
 obtain⟨m',q1,q2,q3,q4,_⟩:=xp (h.rev 0 m) hr (r - m) m rfl h1 hm hu;exact⟨m',_,q1.bind (.ret _),h.rev 0 m,by omega,q3,q4⟩
theorem zh {r:Nat}(hr:r<=n){p:Array Nat}(h:qp n p){m:Nat}(hm:m+1<=r)(hd:xo rk p (m+1)):∃m' p',Run n (qX rk) (kas_descPart m r p) (m',p')/\qp n p'/\1<=m'/\m'<=r/\Up rk p' m':=by
 obtain⟨p1,m1,q1,g1,g2,g3,g4,g5,g6⟩:=nI hr (r - (m+1)) p (m+1) 0 h rfl (by omega) hm hd (qY _ (by omega));by_cases hq:q1 > 0
 ·obtain⟨m',p',k1,k2,k3,k4,k5⟩:=zg hr (g2.rev (m1 - (q1+1)) m1) (m:=m1) (by omega) g4 (Cs (zf (by rw[g2.size];omega) g6) g5);exact⟨m',p',g1.bind (by dsimp only;rw[if_pos hq];exact k1),k2,k3,k4,k5⟩
 ·obtain⟨m',p',k1,k2,k3,k4,k5⟩:=zg hr g2 (m:=m1) (by omega) g4 g5;exact⟨m',p',g1.bind (by dsimp only;rw[if_neg hq];exact k1),k2,k3,k4,k5⟩
theorem Er {p:Array Nat}(h:qp n p)(hn:1<=n):∃m' p',Run n (qX rk) (kas_count n p) (m',p')/\qp n p'/\1<=m'/\m'<=n/\Up rk p' m':=by
 obtain⟨m,q1,q2,q3,q4,q5⟩:=xp h (vT n) (n - 1) 1 rfl (vT 1) hn (Og (rk:=rk) p);by_cases e:m=n
 ·exact⟨m,p,q1.bind (by rw[if_pos (by simp[e])];exact .ret _),h,q2,q3,q4⟩
 ·have gs:=q5 (by omega);have e1:¬(m == n)=true:=by simp[e]
  by_cases PZ:m > 1
  ·by_cases hc:cD rk p 0<cD rk p (m - 1)
   ·refine⟨m,p,q1.bind ?_,h,q2,q3,q4⟩;rw[if_neg e1,if_pos PZ];refine .ask (h.lt (by omega)) (h.lt (by omega)) ?_;have:qX rk (p.getD 0 0) (p.getD (m - 1) 0)=true:=decide_eq_true hc;rw[this,if_pos rfl];exact .ret _
   ·have lG:∀k,k<m->cD rk p k=cD rk p 0:=λk hk=>by
     have z1:=q4 0 k (by omega) hk;have z2:=q4 k (m - 1) (by omega) (by omega);omega
    have er:∀k,cD rk (kas_rev p 0 m) k=cD rk p k:=λk=>by
     rw[xn (by rw[h.size];omega)];split
     ·rename_i z;rw[lG _ (by omega),lG k z.2]
     ·rfl
    have hd:xo rk p (m+1):=λi j D9 hj=>by
     by_cases z:j=m
     ·subst z;by_cases z2:i=j
      ·subst z2;exact Int.le_refl _
      ·rw[lG i (by omega)];rw[lG (j - 1) (by omega)]at gs;omega
     ·rw[lG i (by omega),lG j (by omega)];exact Int.le_refl _
    obtain⟨m',p',k1,k2,k3,k4,k5⟩:=zh (vT n) (h.rev 0 m) (m:=m) (by omega) (Cs er hd);refine⟨m',p',q1.bind ?_,k2,k3,k4,k5⟩;rw[if_neg e1,if_pos PZ];refine .ask (h.lt (by omega)) (h.lt (by omega)) ?_;have:qX rk (p.getD 0 0) (p.getD (m - 1) 0)=false:=decide_eq_false hc;rw[this,if_neg uX];exact k1
  ·have em:m=1:=by omega
   subst em;have hd:xo rk p 2:=λi j D9 hj=>by
    by_cases z2:i=j
    ·subst z2;exact Int.le_refl _
    ·have:i=0:=by omega
     have:j=1:=by omega
     subst_vars;have:=gs;simp at this;omega
   obtain⟨m',p',k1,k2,k3,k4,k5⟩:=zh (vT n) h (m:=1) (by omega) hd;refine⟨m',p',q1.bind ?_,k2,k3,k4,k5⟩;rw[if_neg e1,if_neg PZ];exact k1
theorem oN {p:Array Nat}(h:qp n p){k:Nat}(hk:k<n)(hu:Up rk p k):∀(f l r:Nat),r - l<=f->l<=r->r<=k->(∀i,i<l->cD rk p i<=cD rk p k)->(∀i,r<=i->i<k->cD rk p k<cD rk p i) ->
  ∃l',Run n (qX rk) (kas_place p k f l r) l'/\l'<=k/\(∀i,i<l'->cD rk p i<=cD rk p k)/\(∀i,l'<=i->i<k->cD rk p k<cD rk p i)
 |0,l,r,hf,hl,hr,h1,h2=>⟨l,.ret l,by omega,h1,λi a b=>h2 i (by omega) b⟩
 |f+1,l,r,hf,hl,hr,h1,h2=>by
  by_cases hge:l ≥ r
  ·refine⟨l,?_,by omega,h1,λi a b=>h2 i (by omega) b⟩;unfold kas_place;rw[if_pos hge];exact .ret l
  ·by_cases hc:cD rk p k<cD rk p ((l+r) / 2)
   ·obtain⟨l',q1,q2,q3,q4⟩:=oN h hk hu f l ((l+r) / 2) (by omega) (by omega) (by omega) h1 λi a b=>by
     have:=hu ((l+r) / 2) i a b;omega
    refine⟨l',?_,q2,q3,q4⟩;unfold kas_place;rw[if_neg hge];refine .ask (h.lt (by omega)) (h.lt (by omega)) ?_;have:qX rk (p.getD k 0) (p.getD ((l+r) / 2) 0)=true:=decide_eq_true hc;rw[this,if_pos rfl];exact q1
   ·obtain⟨l',q1,q2,q3,q4⟩:=oN h hk hu f ((l+r) / 2+1) r (by omega) (by omega) hr (λi a=>by
     have:=hu i ((l+r) / 2) (by omega) (by omega);omega) h2
    refine⟨l',?_,q2,q3,q4⟩;unfold kas_place;rw[if_neg hge];refine .ask (h.lt (by omega)) (h.lt (by omega)) ?_;have:qX rk (p.getD k 0) (p.getD ((l+r) / 2) 0)=false:=decide_eq_false hc;rw[this,if_neg uX];exact q1
theorem Ct:∀(f:Nat)(p:Array Nat)(k:Nat),qp n p->n - k=f->k<=n->Up rk p k->∃p',Run n (qX rk) (kas_bin f p k) p'/\qp n p'/\Up rk p' n
 |0,p,k,h,hf,hk,hu=>⟨p,.ret p,h,(show k=n by omega) ▸ hu⟩
 |f+1,p,k,h,hf,hk,hu=>by
  have gg:k<n:=by omega
  obtain⟨l,q1,q2,q3,q4⟩:=oN h gg hu k 0 k (by omega) (by omega) (vT _) (λi z=>by omega) (λi a b=>by omega);have hsz:k<p.size:=by rw[h.size];exact gg
  have Lk:Up rk (bubble p k (k - l)) (k+1):=λi j D9 hj=>by
   rw[Gu hsz (by omega),Gu hsz (by omega)];have e:k - (k - l)=l:=by omega
   rw[e];by_cases i1:i=l
   ·rw[if_pos i1];by_cases j1:j=l
    ·rw[if_pos j1];exact Int.le_refl _
    ·rw[if_neg j1,if_pos (by omega)];have:=q4 (j - 1) (by omega) (by omega);omega
   ·rw[if_neg i1];by_cases i2:l<i/\i<=k
    ·rw[if_pos i2,if_neg (by omega),if_pos (by omega)];exact hu _ _ (by omega) (by omega)
    ·rw[if_neg i2];by_cases j1:j=l
     ·rw[if_pos j1];exact q3 i (by omega)
     ·rw[if_neg j1];by_cases j2:l<j/\j<=k
      ·rw[if_pos j2];exact hu _ _ (by omega) (by omega)
      ·rw[if_neg j2];exact hu _ _ D9 (by omega)
  obtain⟨p',k1,k2,k3⟩:=Ct f (bubble p k (k - l)) (k+1) (h.bub _ _) (by omega) (by omega) Lk;exact⟨p',q1.bind k1,k2,k3⟩
theorem Gv (hn:1<=n):∃p,Run n (qX rk) (kas_sort n) p/\qp n p/\Up rk p n:=by
 have h0:qp n (List.toArray (List.range n)):=⟨by simp,by simp⟩;obtain⟨m,p,q1,q2,q3,q4,q5⟩:=Er (rk:=rk) h0 hn;by_cases e:m<n
 ·have ZK:max m 1=m:=by omega
  obtain⟨p',k1,k2,k3⟩:=Ct (n - max m 1) p (max m 1) q2 rfl (by omega) (by rw[ZK];exact q5);exact⟨p',q1.bind (by dsimp only;rw[if_pos e];exact k1),k2,k3⟩
 ·have:m=n:=by omega
  subst this;exact⟨p,q1.bind (by dsimp only;rw[if_neg e];exact .ret _),q2,q5⟩
end
theorem lL {a b c:List Int}(h:a<b)(k:b<c):a<c:=List.lt_trans h k
theorem Es {a b c:List Int}(h:¬b<a)(k:¬c<b):¬c<a:=List.not_lt.mpr (List.le_trans (List.not_lt.mp h) (List.not_lt.mp k))
theorem Gw {a b:List Int}(h:¬b<a)(k:¬a<b):a=b:=List.le_antisymm (List.not_lt.mp h) (List.not_lt.mp k)
section
variable {α:Type}(f:α->List Int)
def Iy (a b:α):Prop:=¬f b<f a
noncomputable def oP (x:α):List α->List α
 |[]=>[x]
 |y::r=>if f y<f x then y::oP x r else x::y::r
noncomputable def eY (l:List α):List α:=l.foldr (oP f) []
theorem oQ (x:α):∀l,(oP f x l).Perm (x::l)
 |[]=>List.Perm.refl _
 |y::r=>by
  unfold oP;split
  ·exact((oQ x r).cons y).trans (List.Perm.swap x y r)
  ·exact List.Perm.refl _
theorem bG:∀l,(eY f l).Perm l
 |[]=>List.Perm.refl _
 |x::l=>(oQ f x (eY f l)).trans ((bG l).cons x)
theorem uF (x:α):∀l,l.Pairwise (Iy f)->(oP f x l).Pairwise (Iy f)
 |[],_=>by simp[oP]
 |y::r,h=>by
  obtain⟨h1,h2⟩:=List.pairwise_cons.mp h;unfold oP;split
  ·rename_i hl;refine List.pairwise_cons.mpr ⟨λz hz=>?_,uF x r h2⟩;rcases vP ((oQ f x r).mem_iff.mp hz)with rfl|hz
   ·exact λk=>List.lt_irrefl _ (lL hl k)
   ·exact h1 z hz
  ·rename_i hl;refine List.pairwise_cons.mpr ⟨λz hz=>?_,h⟩;rcases vP hz with rfl|hz
   ·exact hl
   ·exact Es hl (h1 z hz)
theorem iO:∀l,(eY f l).Pairwise (Iy f)
 |[]=>List.Pairwise.nil
 |x::l=>uF f x _ (iO l)
theorem uG:∀(l1 l2:List α),(∀x∈l1,∀y∈l1,f x=f y->x=y)->l1.Perm l2->l1.Pairwise (Iy f)->l2.Pairwise (Iy f)->l1=l2
 |[],l2,_,p,_,_=>(List.nil_perm.mp p).symm
 |x::r1,[],_,p,_,_=>absurd p.length_eq (by simp)
 |x::r1,y::r2,hi,p,h1,h2=>by
  have hy:y∈x::r1:=p.mem_iff.mpr (mX ..);have PY:Iy f x y:=by
   rcases vP hy with z|z
   ·rw[z];exact List.lt_irrefl _
   ·exact(List.pairwise_cons.mp h1).1 y z
  have Vy:Iy f y x:=by
   rcases vP (p.mem_iff.mp (mX ..))with z|z
   ·rw[z];exact List.lt_irrefl _
   ·exact(List.pairwise_cons.mp h2).1 x z
  have e:x=y:=hi x (mX ..) y hy (Gw PY Vy);subst e;rw[uG r1 r2 (λa ha b hb=>hi a (mZ _ ha) b (mZ _ hb)) (List.Perm.cons_inv p) (List.pairwise_cons.mp h1).2 (List.pairwise_cons.mp h2).2]
theorem lg (hi:∀x∈l,∀y∈l,f x=f y->x=y)(p:l'.Perm l)(h:l'.Pairwise (Iy f)):l'=eY f l :=
 uG f _ _ (λx hx y hy=>hi x (p.mem_iff.mp hx) y (p.mem_iff.mp hy)) (p.trans (bG f l).symm) h (iO f l)
end
theorem mL {α:Type}{p q:α->Bool}(h:∀x,p x=true->q x=true):∀l:List α,(l.filter p).length<=(l.filter q).length
 |[]=>vT _
 |x::l=>by
  have ih:=mL h l;rw[List.filter_cons,List.filter_cons];by_cases z:p x=true
  ·rw[if_pos z,if_pos (h x z)];simp only[vE];omega
  ·rw[if_neg z];split
   ·simp only[vE];omega
   ·exact ih
noncomputable def nJ (cs:List (List Int))(c:List Int):Int:=((cs.filter λx=>decide (x<c)).length:Nat)
theorem JR {cs:List (List Int)}{a b:List Int}(h:¬b<a):nJ cs a<=nJ cs b:=by
 unfold nJ;refine Int.ofNat_le.mpr (mL (λx hx=>?_) cs);rw[decide_eq_true_eq]at hx ⊢;rcases List.le_iff_lt_or_eq.mp (List.not_lt.mp h)with z|z
 ·exact lL hx z
 ·rw[←z];exact hx
theorem Cu {cs:List (List Int)}{a b:List Int}(ha:a∈cs)(h:a<b):nJ cs a<nJ cs b:=by
 unfold nJ;apply Int.ofNat_lt.mpr;induction cs with
 |nil=>simp at ha
 |cons c cs ih=>
  have key:∀l:List (List Int),(l.filter λx=>decide (x<a)).length<=(l.filter λx=>decide (x<b)).length:=λl=>
   mL (λx hx=>by rw[decide_eq_true_eq]at hx ⊢;exact lL hx h) l
  rw[List.filter_cons,List.filter_cons];rcases vP ha with rfl|ha
  ·rw[if_neg (by simp[List.lt_irrefl]),if_pos (by simpa using h)];have:=key cs;simp only[vE];omega
  ·have:=ih ha;by_cases z:c<a
   ·rw[if_pos (by simpa using z),if_pos (by simpa using lL z h)];simp only[vE];omega
   ·rw[if_neg (by simpa using z)];split
    ·simp only[vE];omega
    ·exact this
theorem zi (ha:a∈cs):decide (nJ cs a<nJ cs b)=decide (a<b):=by
 by_cases h:a<b
 ·rw[decide_eq_true h,decide_eq_true (Cu ha h)]
 ·rw[decide_eq_false h,decide_eq_false];have:=JR (cs:=cs) h;omega
inductive At where
 |i (n:Int)
 |s (z:Str)
noncomputable def Oh:At->List Int
 |.i n=>[n]
 |.s z=>z.cps.toList.map (λ(c:Nat)=>(c:Int)+1)++[0]
noncomputable def cX (xs:List At):List Int:=xs.flatMap Oh
noncomputable def bd:List At->List At->Option Bool
 |[],ys=>some (!ys.isEmpty)
 |_::_,[]=>some false
 |.i a::xs,.i b::ys=>if a=b then bd xs ys else some (decide (a<b))
 |.s a::xs,.s b::ys=>if a=b then bd xs ys else some (decide (a.cps.toList<b.cps.toList))
 |_::_,_::_=>none
theorem xq:∀(a b:List Nat)(r r':List Int),(a.map (λ(c:Nat)=>(c:Int)+1)++0::r)<(b.map (λ(c:Nat)=>(c:Int)+1)++0::r')↔a<b∨(a=b/\r<r')
 |[],[],r,r'=>by simp[List.cons_lt_cons_iff]
 |[],y::b,r,r'=>by simp[List.cons_lt_cons_iff]
 |x::a,[],r,r'=>by simp[List.cons_lt_cons_iff];omega
 |x::a,y::b,r,r'=>by
  rw[uY,uY,List.cons_append,List.cons_append,List.cons_lt_cons_iff,xq a b r r',List.cons_lt_cons_iff];constructor
  ·rintro (h|⟨h,k|⟨k1,k2⟩⟩)
   ·exact .inl (.inl (by omega))
   ·exact .inl (.inr ⟨by omega,k⟩)
   ·exact .inr ⟨by rw[k1,show x=y by omega],k2⟩
  ·rintro ((h|⟨h,k⟩)|⟨h,k⟩)
   ·exact .inl (by omega)
   ·exact .inr ⟨by omega,.inl k⟩
   ·injection h with h1 h2;exact .inr ⟨by omega,.inr ⟨h2,k⟩⟩
theorem jG (x:At)(xs:List At):cX (x::xs)=Oh x++cX xs:=by unfold cX;rw[uO]
theorem Oi (x:At):Oh x≠[]:=by cases x<;>simp[Oh]
theorem Cv {a b:Str}:a.cps.toList=b.cps.toList↔a=b:=by
 constructor
 ·intro h;obtain⟨a⟩:=a;obtain⟨b⟩:=b;have:a=b:=Array.toList_inj.mp h;rw[this]
 ·rintro rfl;rfl
theorem xu:∀(xs ys:List At)(b:Bool),bd xs ys=some b->b=decide (cX xs<cX ys)
 |[],[],b,h=>by simp[bd]at h;subst h;simp[cX]
 |[],y::ys,b,h=>by
  simp[bd]at h;subst h;rw[jG];cases e:Oh y with
  |nil=>exact absurd e (Oi y)
  |cons c cs=>simp[cX]
 |x::xs,[],b,h=>by simp[bd]at h;subst h;simp[cX]
 |.i a::xs,.i c::ys,b,h=>by
  rw[bd]at h;rw[jG,jG];show b=decide (a::cX xs<c::cX ys);split at h
  ·rename_i e;subst e;rw[xu xs ys b h];exact decide_eq_decide.mpr (by rw[List.cons_lt_cons_iff];simp)
  ·rename_i e;cases h
   exact decide_eq_decide.mpr (by rw[List.cons_lt_cons_iff];simp[e])
 |.s a::xs,.s c::ys,b,h=>by
  rw[bd]at h;rw[jG,jG];have e0:∀(z:Str)(r:List Int),Oh (.s z)++r=z.cps.toList.map (λ(c:Nat)=>(c:Int)+1)++0::r:=λz r=>by simp[Oh]
  rw[e0,e0];split at h
  ·rename_i e;subst e;rw[xu xs ys b h];exact decide_eq_decide.mpr (by rw[xq];exact⟨λz=>.inr ⟨rfl,z⟩,λz=>z.elim (λq=>absurd q (List.lt_irrefl _)) (·.2)⟩)
  ·rename_i e;cases h
   exact decide_eq_decide.mpr (by rw[xq,Cv];exact⟨.inl,λz=>z.elim id λq=>absurd q.1 e⟩)
 |.i _::_,.s _::_,b,h=>by simp[bd]at h
 |.s _::_,.i _::_,b,h=>by simp[bd]at h
theorem Bm:∀(xs ys:List At),bd xs ys=some false->bd ys xs=some false->xs=ys
 |[],[],_,_=>rfl
 |[],y::ys,h,_=>by simp[bd]at h
 |x::xs,[],_,h=>by simp[bd]at h
 |.i a::xs,.i c::ys,h,k=>by
  rw[bd]at h k;by_cases e:a=c
  ·subst e;rw[if_pos rfl]at h k;rw[Bm xs ys h k]
  ·rw[if_neg e]at h;rw[if_neg (Ne.symm e)]at k;simp at h k;omega
 |.s a::xs,.s c::ys,h,k=>by
  rw[bd]at h k;by_cases e:a=c
  ·subst e;rw[if_pos rfl]at h k;rw[Bm xs ys h k]
  ·rw[if_neg e]at h;rw[if_neg (Ne.symm e)]at k;simp only[Option.some.injEq,decide_eq_false_iff_not]at h k;exact absurd (Cv.mp (List.le_antisymm (List.not_lt.mp k) (List.not_lt.mp h))) e
 |.i _::_,.s _::_,h,_=>by simp[bd]at h
 |.s _::_,.i _::_,h,_=>by simp[bd]at h
noncomputable def eZ (ks:List (List At)):Bool:=ks.all λx=>ks.all λy=>(bd x y).isSome
theorem iB (h:eZ ks=true)(hx:x∈ks)(hy:y∈ks):bd x y=some (decide (cX x<cX y)):=by
 have:=uR (uR h x hx) y hy;obtain⟨b,e⟩:=uU this;rw[e,xu _ _ _ e]
theorem oR (h:eZ ks=true)(hx:x∈ks)(hy:y∈ks)(e:cX x=cX y):x=y:=by
 refine Bm _ _ ?_ ?_
 ·rw[iB h hx hy,e,decide_eq_false (List.lt_irrefl _)]
 ·rw[iB h hy hx,e,decide_eq_false (List.lt_irrefl _)]
def A7:At->Value->Prop
 |.i n,v=>∃t,v=.int n t
 |.s z,v=>∃t,v=.str z t
def ia (h:Heap)(xs:List At)(v:Value):Prop:=∃a o its n,v=.ref a/\h.get? a=some o/\o.cls=.type "tuple"/\o.data=.seq its n/\Paired A7 xs its.toList
noncomputable def fY (ks:List (List At)):Bool:=ks.all (λx=>match x with|.i _::_=>true|_=>false) || ks.all (λx=>match x with|.s _::_=>true|_=>false)
section
variable {prog:Program}{w:World}{A:Around}{E:Value->Shared->Prop}{s:Shared}
theorem qZ:∀(xs ys:List At)(its hW:List Value)(i:Nat),Paired A7 xs its->Paired A7 ys hW->bd xs ys=some b->j9=decide (xs.length<ys.length)->Q b s->KatLex prog w A true j9 Q (its.zip hW) i s
 |[],ys,_,hW,i,.nil,r2,h,hf,q=>by
  rw[List.zip_nil_left];refine kat_nil ?_;cases ys with
  |nil=>simp[bd]at h;subst h;rw[hf];exact q
  |cons y ys=>simp[bd]at h;subst h;rw[hf];simpa using q
 |x::xs,[],_,_,i,_,.nil,h,hf,q=>by
  rw[List.zip_nil_right];refine kat_nil ?_;simp[bd]at h;subst h;rw[hf];simpa using q
 |.i a::xs,.i c::ys,_,_,i,.cons r1 Ia,.cons r2 r2',h,hf,q=>by
  obtain⟨t,rfl⟩:=r1;obtain⟨u,rfl⟩:=r2;rw[List.zip_cons_cons];refine kat_cons (wpAny_eqBool_int ?_);rw[bd]at h;by_cases e:a=c
  ·rw[if_pos e]at h;rw[show(a == c)=true by simp[e]];exact kat_yes (qZ xs ys _ _ (i+1) Ia r2' h (by rw[hf];simp) q)
  ·rw[if_neg e]at h;cases h
   rw[show(a == c)=false by simp[e]];refine kat_no ?_;cases hb:(true && i == 0) with
   |true=>exact oneLt_int q
   |false=>exact kat_one _ _ (PyProof.Rows.lt_int q)
 |.s a::xs,.s c::ys,_,_,i,.cons r1 Ia,.cons r2 r2',h,hf,q=>by
  obtain⟨t,rfl⟩:=r1;obtain⟨u,rfl⟩:=r2;rw[List.zip_cons_cons];refine kat_cons (wpAny_eqBool_str ?_);rw[bd]at h;by_cases e:a=c
  ·rw[if_pos e]at h;rw[decide_eq_true e];exact kat_yes (qZ xs ys _ _ (i+1) Ia r2' h (by rw[hf];simp) q)
  ·rw[if_neg e]at h;cases h
   rw[decide_eq_false e];refine kat_no ?_;cases hb:(true && i == 0) with
   |true=>exact oneLt_str q
   |false=>exact kat_one _ _ (PySem.P.lt_str q)
 |.i _::_,.s _::_,_,_,_,_,_,h,_,_=>by simp[bd]at h
 |.s _::_,.i _::_,_,_,_,_,_,h,_,_=>by simp[bd]at h
theorem g7 {α β:Type}{F:α->β->Prop}:∀ {l₁:List α}{l₂:List β},Paired F l₁ l₂->l₁.length=l₂.length
 |_,_,.nil=>rfl
 |_,_,.cons _ t=>by simp[g7 t]
theorem Oj {Q:Bool->Shared->Prop}{xs ys:List At}{x y:Value}{b:Bool}(hx:ia s.heap xs x)(hy:ia s.heap ys y)(h:bd xs ys=some b)(q:Q b s):wpAny (model prog w) A (keyLt' (tuples' true) x y) Q E s:=by
 obtain⟨a,o,its,n,rfl,ho,_,hd,r⟩:=hx;obtain⟨a',o',its',n',rfl,tQ,_,BL,r'⟩:=hy;refine kat_lt ho hd tQ BL (qZ xs ys _ _ 0 r r' h ?_ q);rw[←vG,←vG,g7 r,g7 r']
theorem pA:∀ {ks:List (List At)}{vs:List Value},Paired (ia h) ks vs->(∀k∈ks,k≠[])->∃fs,KatTups h vs fs/\fs.length=ks.length/\∀v∈fs,∃k r,(k::r)∈ks/\A7 k v
 |_,_,.nil,_=>⟨[],trivial,rfl,by simp⟩
 |k::ks,_,.cons x t,oA=>by
  obtain⟨fs,h1,h2,h3⟩:=pA t λz hz=>oA z (mZ _ hz);obtain⟨a,o,its,n,rfl,ho,hc,hd,r⟩:=x;cases r':its.toList with
  |nil=>
   rw[r']at r;cases r
   exact absurd rfl (oA [] (mX ..))
  |cons v vs=>
   rw[r']at r;obtain⟨p,r1⟩:∃p,its[0]? = some v:=⟨(),by rw[←Array.getElem?_toList,r'];rfl⟩;cases r with
   |cons q qs=>
    rename_i k0 kr;refine⟨v::fs,KatTups.cons ho hc hd r1 h1,by simp[h2],λu hu=>?_⟩;rcases vP hu with rfl|hu
    ·exact⟨k0,kr,mX ..,q⟩
    ·obtain⟨k1,r1,m1,m2⟩:=h3 u hu;exact⟨k1,r1,mZ _ m1,m2⟩
theorem Gx (hp:Paired (ia s.heap) ks vs)(hf:fY ks=true)(hn:0<ks.length)(q:Q (tuples' true) s):wpAny (model prog w) A (keyKind' vs.toArray) Q E s:=by
 have oA:∀k∈ks,k≠[]:=λk hk z=>by
  subst z;unfold fY at hf;rw[Bool.or_eq_true]at hf;rcases hf with hf|hf
  ·have:=uR hf [] hk;simp at this
  ·have:=uR hf [] hk;simp at this
 obtain⟨fs,h1,h2,h3⟩:=pA hp oA;unfold fY at hf;rw[Bool.or_eq_true]at hf;rcases hf with hf|hf
 ·refine kat_kind (T:=.type "int") h1 (by omega) (λv hv=>?_) (by decide) q;obtain⟨k,r,m,z⟩:=h3 v hv;have:=uR hf _ m;cases k with
  |i n=>obtain⟨t,rfl⟩:=z;exact .now
  |s z'=>simp at this
 ·refine kat_kind (T:=.type "str") h1 (by omega) (λv hv=>?_) (by decide) q;obtain⟨k,r,m,z⟩:=h3 v hv;have:=uR hf _ m;cases k with
  |s z'=>obtain⟨t,rfl⟩:=z;exact .now
  |i n=>simp at this
end
section
variable {prog:Program}{w:World}{A:Around}{E:Value->Shared->Prop}{s:Shared}
theorem fL {α β:Type}{F:α->β->Prop}(d:α)(e:β):∀ {l₁:List α}{l₂:List β},Paired F l₁ l₂->∀ {i:Nat},i<l₁.length->F (l₁.getD i d) (l₂.getD i e)
 |_,_,.cons r t,0,_=>r
 |_,_,.cons r t,i+1,h=>by
  simp only[List.getD_cons_succ];exact fL d e t (by simpa using h)
 |_,_,.nil,i,h=>by simp at h
def Iz (ks:List (List At))(i:Nat):Int:=nJ (ks.map cX) (cX (ks.getD i []))
theorem JU {ks:List (List At)}{vs:List Value}(hc:eZ ks=true)(hp:Paired (ia s.heap) ks vs):∀(i j:Nat)(C:Bool->Shared->Prop)(s1:Shared),i<ks.length->j<ks.length->s1=s->(∀s',s'=s->C (qX (Iz ks) i j) s')->kas_ask prog w A (tuples' true) vs i j C s1:=by
 intro i j C s1 hi hj e hC;subst e;unfold kas_ask;have mi:ks.getD i []∈ks:=by rw[vF,vU hi];exact List.getElem_mem hi
 have mj:ks.getD j []∈ks:=by rw[vF,vU hj];exact List.getElem_mem hj
 refine Oj (fL [] Value.none hp hi) (fL [] Value.none hp hj) (iB hc mi mj) ?_;have:=hC s1 rfl;unfold qX Iz at this;rw[zi (uS ⟨_,mi,rfl⟩)]at this;exact this
end
end DL
namespace DL
open PySem PySem.Spec PySem.W PyProof.Rows L2
noncomputable def Ma:D->Option At
 |.int n=>some (.i n)
 |.str z=>some (.s z)
 |_=>none
def eJ:List D->Option (List At)
 |[]=>some []
 |d::ds=>(Ma d).bind λa=>(eJ ds).map (a :: ·)
def zj:D->Option (List At)
 |.tup es=>eJ es
 |_=>none
def dU:List D->Option (List (List At))
 |[]=>some []
 |d::ds=>(zj d).bind λa=>(dU ds).map (a :: ·)
noncomputable def Gy:List D->Option (List Int)
 |[]=>some []
 |.int n::ds=>(Gy ds).map (n :: ·)
 |_::_=>none
def ra (ns:List Int):List Int:=eY (λn=>[n]) ns
theorem lM:∀ {ds:List D}{ks:List (List At)},dU ds=some ks->ks.length=ds.length
 |[],_,h=>by simp only[dU]at h;cases h;rfl
 |d::ds,_,h=>by
  simp only[dU]at h;obtain⟨a,h1,h⟩:=oX h;obtain⟨r,h2,h⟩:=oY h;subst h;simp[lM h2]
theorem uH:∀ {ds:List D}{ks:List (List At)},dU ds=some ks->∀ {i:Nat},i<ds.length->zj (ds.getD i .non)=some (ks.getD i [])
 |[],_,h,i,hi=>by simp at hi
 |d::ds,_,h,0,hi=>by
  simp only[dU]at h;obtain⟨a,h1,h⟩:=oX h;obtain⟨r,h2,h⟩:=oY h;subst h;exact h1
 |d::ds,_,h,i+1,hi=>by
  simp only[dU]at h;obtain⟨a,h1,h⟩:=oX h;obtain⟨r,h2,h⟩:=oY h;subst h;simp only[List.getD_cons_succ];exact uH h2 (by simpa using hi)
section
variable {X:Cx}
theorem zk {K:Frag}{B:Hp}:∀ {vs:List V}{es:List D}{k:List At}{its:List Value},bp vs its->IsL K B vs es->eJ es=some k->Paired A7 k its
 |_,_,_,_,.nil,.nil,h=>by simp only[eJ]at h;cases h;exact .nil
 |_,_,_,_,.cons r rr,.cons i ii,h=>by
  simp only[eJ]at h;obtain⟨a,h1,h⟩:=oX h;obtain⟨t,h2,h⟩:=oY h;subst h;refine .cons ?_ (zk rr ii h2);cases i<;>simp only[Ma]at h1<;>cases h1
  ·exact r
  ·exact r
theorem qx {af:List (Addr×Obj)}{U:St}{H:Hp}{s:Shared}(I:Inv X af U H s):∀ {ys:List V}{ds:List D}{ks:List (List At)}{its:List Value},bp ys its->IsL X.K H ys ds->dU ds=some ks->Paired (ia s.heap) ks its
 |_,_,_,_,.nil,.nil,h=>by simp only[dU]at h;cases h;exact .nil
 |_,_,_,_,.cons r rr,.cons i ii,h=>by
  simp only[dU]at h;obtain⟨a,h1,h⟩:=oX h;obtain⟨t,h2,h⟩:=oY h;subst h;refine .cons ?_ (qx I rr ii h2);cases i<;>simp only[zj]at h1<;>try (cases h1;done)
  rename_i hq hl;cases r
  obtain⟨its',r',⟨o,ho,hc,n,hd⟩,_⟩:=I.tuple hq;exact⟨_,o,_,n,rfl,ho,hc,hd,by simpa using zk r' hl h1⟩
theorem Cw {K:Frag}{B:Hp}:∀ {vs:List V}{ds:List D},IsL K B vs ds->∀ {i:Nat},i<ds.length->Is K B (vs.getD i .non) (ds.getD i .non)
 |_,_,.cons h _,0,_=>h
 |_,_,.cons _ t,i+1,hi=>by
  simp only[List.getD_cons_succ];exact Cw t (by simpa using hi)
 |_,_,.nil,i,hi=>by simp at hi
theorem zl:∀ {vs:List V}{us:List Value},bp vs us->∀ {i:Nat},i<vs.length->bf (vs.getD i .non) (us.getD i Value.none)
 |_,_,.cons h _,0,_=>h
 |_,_,.cons _ t,i+1,hi=>by
  simp only[List.getD_cons_succ];exact zl t (by simpa using hi)
 |_,_,.nil,i,hi=>by simp at hi
theorem zm {K:Frag}{B:Hp}{vs:List V}{ds:List D}(h:IsL K B vs ds):∀(l:List Nat),(∀i∈l,i<ds.length)->IsL K B (l.map λi=>vs.getD i .non) (l.map λi=>ds.getD i .non)
 |[],_=>.nil
 |i::l,hl=>.cons (Cw h (hl i (mX ..))) (zm h l λj hj=>hl j (mZ _ hj))
theorem uI (h:bp vs us):∀(l:List Nat),(∀i∈l,i<vs.length)->bp (l.map λi=>vs.getD i .non) (l.map λi=>us.getD i Value.none)
 |[],_=>.nil
 |i::l,hl=>.cons (zl h (hl i (mX ..))) (uI h l λj hj=>hl j (mZ _ hj))
end
section
variable {X:Cx}
theorem jD:∀ {its:List Value}{zs:List Int},IntsAre its zs->bp (zs.map V.int) its
 |_,_,.nil=>.nil
 |_,_,.cons x t r=>.cons ⟨t,rfl⟩ (jD r)
theorem rb {K:Frag}{N:Hp}:∀(zs:List Int),IsL K N (zs.map V.int) (zs.map D.int)
 |[]=>.nil
 |z::zs=>.cons (.int z) (rb zs)
theorem Gz (p:l'.Perm l)(h:l'.Pairwise (·<=·)):l'=ra l:=by
 refine lg _ (λx _ y _ e=>by injection e) p (h.imp λ{a b} hab=>?_);unfold Iy;intro z;rw[List.cons_lt_cons_iff]at z;rcases z with z|⟨_,z⟩
 ·omega
 ·exact List.lt_irrefl _ z
end
end DL
namespace DL
open PySem PySem.Spec PyProof.Rows L2
section
variable {X:Cx}{pos:Pos}
@[simp] def Yz (i:Nat)(f:FE):FS:=λY=>match Y[i]? with
 |some (some (.lst ds,true))=>(f Y).bind λx=>(Gy ds).bind λns=>match x.1 with
  |.int n=>if ns.findIdx (· == n)<ns.length then some (.nx (Y.set i (some (.lst ((ns.eraseIdx (ns.findIdx (· == n))).map .int),true))))else none
  |_=>none
 |_=>none
end
section
variable {prog:Program}{w:World}{A:Around}{E:Value->Shared->Prop}{s:Shared}
theorem Bn {a:Addr}{o:Obj}{its:Array Value}{n:Nat}{x:Value}{e:Value->Bool}{j:Nat}{P:PySem.Fin->Shared->Prop}(ho:s.heap.get? a=some o)(hd:o.data=.seq its n)
  (he:∀y∈its,MeetsSeq.EqGives y x (e y)) (hj:j<its.size) (EX:e its[j]=true) (PJ:∀m (hm:m<its.size),m<j->e its[m]=false)
  (h:P (.done (.ret (.int j s.toks))) { s with toks:=s.toks+1 }):wpAny (model prog w) A (Builtin.«tuple.index» ⟨[.ref a,x],[]⟩) P E s:=by
 show wpAny _ _ (Builtin.Tuple.tupleItemsOf (.ref a)>>=_) _ _ s;refine wX (wpAny_tupleItemsOf ho hd ?_);dsimp only;refine wX (wY (wX (wY (wX ?_))));rw[Std.Legacy.Range.forIn_eq_forIn_range'];refine wpAny_forIn_list _
  (λaB r s'=>r.1=none/\s'=s/\∃i,i<=j/\aB=List.range' i (its.size - i))
  _ ?_ ?_ _ _ ⟨rfl,rfl,0,uN _,?_⟩
 ·rintro k aB r s' ⟨hr,rfl,i,hi,hz⟩;have gs:i<its.size:=by omega
  obtain⟨m,hm⟩:∃m,its.size - i=m+1:=⟨its.size - i - 1,by omega⟩;rw[hm,List.range'_succ]at hz;injection hz with z1 z2;have z1:=z1.symm;subst z1;subst z2;have hg:its[i]? = some its[i]:=by simp[gs]
  simp only[hg];refine wX (he _ (Array.getElem_mem gs) prog w _ _ _ _ ?_);by_cases D9:i=j
  ·subst D9;rw[EX];simp only[if_true];refine wX ?_;show wpAny _ _ (mkInt (i:Int)>>=λv=>ret v) _ _ _;exact wX (wpAny_mkInt (wY (wY (wY h))))
  ·rw[PJ i gs (by omega)];simp only[uV,if_false];exact wY ⟨rfl,rfl,i+1,by omega,by rw[show its.size - (i+1)=m by omega]⟩
 ·rintro⟨r1,r2⟩ s' ⟨hr,rfl,i,hi,hz⟩;exfalso;have:(List.range' i (its.size - i)).length=0:=by rw[←hz];rfl
  rw[List.length_range']at this;omega
 ·simp
end
theorem CRows.findT {K:Frag}{P:Params}(y:Str){ds:List D}:∀ {es:List DictEntry}{aS:List (Str×D)},CRows K P es aS->aS.lookup y=some (.tup ds) ->
  ∃e a its n pY,es.find? (λe=>Value.isStrOf y e.key)=some e/\e.val=.ref a/\K.lookup a=some ⟨.type "tuple",none,.seq its n,pY⟩/\kg its.toList ds=true
 |_,_,.nil,h=>by simp at h
 |_,_,.tup (x:=x) (t:=t) (a:=a) (ds:=Ld) hh l f tl,h=>by
  by_cases e:y=x
  ·subst e;rw[List.lookup_cons_self]at h;cases h
   rw[vC]at f;exact⟨_,a,_,_,_,List.find?_cons_of_pos (by simp[Value.isStrOf]),rfl,l,f.2⟩
  ·rw[List.lookup_cons,beq_eq_false_iff_ne.mpr e]at h;have nf:Value.isStrOf y (Value.str x t)=false:=by
    rw[Bool.eq_false_iff];intro z;obtain⟨t',q⟩:=Value.isStrOf_shape z;injection q with q1;exact e q1.symm
   simp only[List.find?_cons,nf];exact tl.findT y h
 |_,_,.flat (x:=x) (t:=t) (u:=u) (d:=d) hh f tl,h=>by
  by_cases e:y=x
  ·subst e;rw[List.lookup_cons_self]at h;cases h
   cases u<;>simp[xf]at f
  ·rw[List.lookup_cons,beq_eq_false_iff_ne.mpr e]at h;have nf:Value.isStrOf y (Value.str x t)=false:=by
    rw[Bool.eq_false_iff];intro z;obtain⟨t',q⟩:=Value.isStrOf_shape z;injection q with q1;exact e q1.symm
   simp only[List.find?_cons,nf];exact tl.findT y h
section
variable {X:Cx}{b e:Expr}{pos:Pos}{x:Str}{p:Pos}
def U1 (K:Frag):V->List V->Hp->VK->Prop:=λx xs H Q=>∃(a:Addr)(o:Obj)(its:Array Value)(n:Nat)(zs:List Str)(y:Str),x=.ref a/\xs=[.str y]/\K.lookup a=some o/\o.cls=.type "tuple"/\o.data=.seq its n/\StrsAre its.toList zs/\zs.findIdx (· == y)<zs.length/\Q (.int (zs.findIdx (· == y):Nat)) H
noncomputable def Mb (y:Str):Value->Bool
 |.str z _=>z == y
 |_=>false
theorem Cy:∀ {its:List Value}{zs:List Str},StrsAre its zs->∀(i:Nat)(hi:i<its.length),∃(h:i<zs.length)(t:Tok),its[i]=.str zs[i] t
 |_,_,.cons z t h,0,_=>⟨by simp,t,rfl⟩
 |_,_,.cons z t h,i+1,hi=>by
  obtain⟨h',t',e⟩:=Cy h i (by simpa using hi);exact⟨by simpa using h',t',by simpa using e⟩
 |_,_,.nil,i,hi=>by simp at hi
theorem zn:∀ {its:List Value}{zs:List Str},StrsAre its zs->its.length=zs.length
 |_,_,.nil=>rfl
 |_,_,.cons _ _ h=>by rw[vE,vE,zn h]
theorem G0:Jb X "tuple.index" (U1 X.K):=by
 intro af s U H x xs v us Q I rx rv h;obtain⟨a,o,its,n,zs,y,rfl,rfl,lk,hc,hd,hz,hk,q⟩:=h;cases rx
 obtain⟨u,rfl,⟨t,rfl⟩⟩:=rv.one;have ho:=I.kIn a o lk;have hl:=zn hz;rw[vG]at hl;have at':∀(i:Nat)(hi:i<its.size),∃(h:i<zs.length)(t:Tok),its[i]=.str zs[i] t:=λi hi=>by
  obtain⟨h',t',e⟩:=Cy hz i (by simpa using hi);exact⟨h',t',by simpa using e⟩
 refine wpAny_call_entry PySem.F.slot_tuple_index ⟨o,ho,hc⟩ PySem.F.entry_tuple_index (Bn (e:=Mb y) (j:=zs.findIdx (· == y)) ho hd (λz hm=>?_) (by omega) ?_ (λm hm gs=>?_) ⟨_,rfl,.int (zs.findIdx (· == y):Nat),H,I.tok _,⟨_,rfl⟩,q⟩) (PySem.F.args_tuple_index_2 _ _)
 ·obtain⟨i,hi,rfl⟩:=Array.mem_iff_getElem.mp hm;obtain⟨_,t',e'⟩:=at' i hi;rw[e'];exact eqGives_str _ _ _ _
 ·obtain⟨_,t',e'⟩:=at' (zs.findIdx (· == y)) (by omega);rw[e'];exact List.findIdx_getElem (p:=(· == y)) (w:=hk)
 ·obtain⟨_,t',e'⟩:=at' m hm;rw[e'];have:=List.not_of_lt_findIdx (p:=(· == y)) (xs:=zs) gs;simpa [Mb]using this
@[simp] def qi (aS:List (Str×D)):D->D->OB
 |.str y,.str z=>match aS.lookup y with
  |some (.tup ds)=>(iq ds).bind λzs=>if zs.findIdx (· == z)<zs.length then some (.int (zs.findIdx (· == z):Nat),false)else none
  |_=>none
 |_,_=>none
theorem JV {aS:List (Str×D)}{f g:FE}{dP cN:Pos}(h:∃d,X.mg x=some (.ref d)/\ux X.K X.w.params d aS)(hb:JE X b f)(he:JE X e g)(hg:Gl X x:=by rfl)(tT:(x == ("__debug__" : Str))=false:=by decide)(hs:wD b:=by intro _ _;rfl)
  (ji:attributeBase (.Subscript (.Name x p) b pos) "index" X.env (eval (.Subscript (.Name x p) b pos) X.env)=eval (.Subscript (.Name x p) b pos) X.env:=by rfl)
  (BM:((backTo cN (starEach [e] X.env)).all (λx=>!x.1) && (backToKw cN (keywordEach [] X.env)).all (λx=>x.1.isSome)
   && decide ([e].length+([]:List Keyword).length+(if([]:List Keyword).isEmpty then 0 else 1)<30))=true:=by rfl)
  (jj:(dP.endLine == cN.line)=true:=by rfl) (ng:starEach [e] X.env=[(false,eval e X.env)]:=by rfl):
  JE X (.Call (.Attribute (.Subscript (.Name x p) b pos) "index" dP) [e] [] cN) (f2 (qi aS) f g):=by
 obtain⟨d,hm,cd⟩:=h;have ix:Iu X (λx y H Q=>∃z ds,x=.ref d/\y=.str z/\aS.lookup z=some (.tup ds)/\∀a its n pY,X.K.lookup a=some ⟨.type "tuple",none,.seq its n,pY⟩->kg its.toList ds=true->Q (.ref a) H):=by
  intro value slice af s U H x y v u Q I rx ry q hs;obtain⟨z,ds,rfl,rfl,el,q⟩:=q;cases rx
  obtain⟨t,rfl⟩:=ry;obtain⟨es,n,l,r,sm⟩:=cd;have hM:=PySem.W.mapOf_K (prog:=X.prog) (w:=X.w) I.kIn l r.lit;obtain⟨en,a,its,n',pY,e1,e2,e3,e4⟩:=r.findT z el;have ff:findBy Value.isStrOf es z=some (.ref a):=by
   unfold findBy;obtain⟨es⟩:=es;rw[List.find?_toArray,e1,←e2];rfl
  exact tail_any hM.typeIs slot_dict_getitem.lookup (wpAny_getItem_of (strKind_is X.prog X.w z t) hM ff ⟨.ref a,H,I.tok _,rfl,q a _ _ _ e3 e4⟩) hs
 refine PE.to (F3 (T:="tuple") PySem.F.plainAttrs_tuple PySem.F.slot_tuple_index PySem.F.type_tuple_index G0 (Ly ix (BQ (v:=.ref d) hg hm rfl tT) hb hs) (jm he kR ng) ji BM jj ng rfl) λU H Q q=>?_;obtain⟨B,Y,d',bb,sB,r,ee,q⟩:=q;obtain⟨x1,ex,ee⟩:=oX ee;obtain⟨y1,ey,ee⟩:=oX ee;obtain⟨xd,xb⟩:=x1;obtain⟨yd,yb⟩:=y1;cases xd with
 |str z=>
  cases yd with
  |str y=>
   refine⟨B,Y,_,xb,sB,r,ex,λv H1 N1 xt i1 _=>?_⟩;cases i1
   simp only[qi]at ee;split at ee
   ·rename_i ds el;obtain⟨zs,ez,ee⟩:=oX ee;split at ee
    ·rename_i hk;cases ee
     refine⟨z,ds,rfl,rfl,el,λa its n pY l fl=>⟨.inr (.inl ⟨rfl,_,l,rfl,rfl⟩),N1,Y,_,yb,xt.nh,r.mono xt.bn,ey,λv2 H2 N2 Se i2 _=>?_⟩⟩;cases i2
     obtain⟨vs,rv,iv⟩:=kh (K:=X.K) fl;exact⟨a,_,its,n,zs,y,rfl,rfl,l,rfl,rfl,lb rv (iv N2) ez,hk,(q.into (xt.trans Se)).one Se.nh (.int _)⟩
    ·cases ee
   ·cases ee
  |_=>simp[qi]at ee
 |_=>simp[qi]at ee
end
open PySem.W (tabIn tabObj CodeHd kla_fn kla_obj kla_eval kla_makeFunction kla_makeFunctionHit kla_callFunE kla_codeExpr envX)
def Rr (K:Frag)(c P:Addr):Prop:=∃o vs EZ tf wz tg Qa Fa tt,K.lookup c=some o/\o.cls=.type "code"/\o.data=.fields vs/\vs[11]? = some (.ref P)/\vs.getD 11 .none=.ref P/\vs.getD 18 .none=.str EZ tf /\
 vs.getD 7 .none=.int wz tg/\vs.getD 9 .none=.bool Qa/\vs.getD 10 .none=.int Fa tt/\c≠P
def Bo (K:Frag)(x:Str):Prop:=∃c P,tabIn K x=some (c,P)/\Rr K c P
def G1 (H:Hp)(f:Addr)(q:Str)(params:Arguments)(body:Expr)(scope:Scope)(cl:List (Str×Addr)):Prop :=
 ∃pm c DA u oc u' vs t,H f=some (.frz (kla_obj "<lambda>" q params body scope cl pm c DA) u)/\H c=some (.frz oc u')/\oc.data=.fields vs/\vs[1]? = some (.str q t)
theorem G1.mono (h:G1 H f q params body scope cl)(e:bg H H'):G1 H' f q params body scope cl :=
 let ⟨pm,c,DA,u,oc,u',vs,t,h1,h2,h3,h4⟩:=h;⟨pm,c,DA,u,oc,u',vs,t,e _ _ h1,e _ _ h2,h3,h4⟩
theorem lam_mk {K:Frag}{x:Str}{f c P:Addr}{oc:Value}{od Vk:Option Addr}{pY OU:Array (Option Value)}{fd:FuncData}{vs:Array Value}{EZ:Str}{tf tg tt:Tok}{wz Fa:Int}{Qa:Bool}(e1:nsIn K mainGlobals x=some (some (.ref f)))(e2:K.lookup f=some ⟨oc,od,.func fd,pY⟩)
  (e3:fd.code=.ref c) (e4:K.lookup c=some ⟨.type "code",Vk,.fields vs,OU⟩) (e5:vs[11]? = some (.ref P)) (e6:vs.getD 11 .none=.ref P) (e7:vs.getD 18 .none=.str EZ tf) (e8:vs.getD 7 .none=.int wz tg) (e9:vs.getD 9 .none=.bool Qa) (ZL:vs.getD 10 .none=.int Fa tt) (Xy:(c == P)=false):Bo K x :=
 ⟨c,P,tab_yes e1 e2 e3 e4 e5,_,vs,EZ,tf,wz,tg,Qa,Fa,tt,e4,rfl,rfl,e5,e6,e7,e8,e9,ZL,λz=>by rw[z]at Xy;simp at Xy⟩
theorem Bp (l:List Value)(h:TriplesOk l)(e:codeAmong pos (l++[rawInt a,rawInt b,c])=some cv):codeAmong pos l=some cv∨cv=c:=by
 fun_induction TriplesOk l with
 |case1=>
  simp only[List.nil_append,rawInt,codeAmong]at e;split at e
  ·cases e;exact .inr rfl
  ·cases e
 |case2 a' t b' u x aB ih=>
  simp only[List.cons_append,codeAmong]at e ⊢;split at e
  ·rename_i hc;rw[if_pos hc];exact .inl e
  ·rename_i hc;rw[if_neg hc];exact ih h e
 |case3 l h1 h2=>exact h.elim
section
variable {X:Cx}{af:List (Addr×Obj)}{U:St}{H:Hp}{s:Shared}
theorem G2 
  (hx:x∈nz) (L:Bo X.K x) (hc:∀c P,tabIn X.K x=some (c,P)->X.env.code=.ref c) (hq:X.env.qual ++ "<lambda>" = qJ x) (Pd:defaultsOf params X.env=([],[])) (kQ:closureFor scope X.env=pure cl)
  (I:Inv X af U H s) (tb:Tb X.K H) (k:∀f H' s',Inv X af U H' s'->bg H H'->G1 H' f (qJ x) params body scope cl->Q (.ref f) s'):
  wq X (eval (.Lambda params body scope pos) X.env) Q E s:=by
 refine kla_eval Pd ?_;rw[hq];obtain⟨c,P,ht,o,vs,EZ,tf,wz,tg,Qa,Fa,tt,lk,ck⟩:=L;have M3:=hc c P ht;have hP:=tb x hx c P ht;obtain⟨ps,e,tr,co⟩:=I.hok P _ hP;have C:CodeHd s.heap c P:=⟨o,vs,EZ,tf,wz,tg,Qa,Fa,tt,I.kIn c o lk,ck⟩;have hg:s.heap.Ns mainGlobals X.mg:=I.mod.glob.keeps I.bk;have nP:∀b,H b=none->b≠P:=λb n z=>by rw[z,hP]at n;cases n
 have ZM:mainGlobals≠P:=by
  obtain⟨og,_,_,eg,_⟩:=I.mod.glob;exact nP _ (I.bs _ _ eg).2
 have hb:s.heap.BuiltinsAt X.mg P:=by
  obtain⟨bm,ob,b1,b2,b3,b4,b5,b6⟩:=I.mod.bmain;refine⟨bm,ob,b1,b2,λz=>?_,nP _ (I.bs _ _ b3).2,I.bk _ _ b3,b4,b5,b6⟩;obtain⟨og,es,ep,eg,dg,_⟩:=I.mod.glob;rw[z,eg]at b3;cases b3;rw[dg]at b6;cases b6
 cases hf:codeAmong pos ps.toList with
 |some cv=>
  obtain⟨c',oc,u,ws,t,rfl,hH,hd,hv⟩:=co pos cv hf;refine kla_makeFunctionHit (mg:=X.mg) kQ I.ok.glob hg M3 C e tr hf hb λDA h' tk hk hsz=>?_;have hn:H h'.objs.size=none:=I.hok.fresh hsz;have sm:bg H (upd H h'.objs.size (.frz (kla_obj "<lambda>" (qJ x) params body scope cl ((X.mg "__name__").getD .none) c' DA) (.own h'.objs.size))):=λb u q=>by rw[aP (bi q hn)];exact q
  refine k _ _ _ (I.laid (t':=tk) (λb u q=>vZ _ (hk b u q)) hsz (show bZ X.prog X.w _ _ _ (.frz _ (.own h'.objs.size))from ⟨vY _ rfl,_,vY _ rfl⟩)) sm ?_;exact⟨_,c',DA,_,oc,u,ws,t,aJ,sm _ _ hH,hd,hv⟩
 |none=>
  refine kla_makeFunction (mg:=X.mg) kQ I.ok.glob hg M3 C e tr hf ZM hb λc' DA h' tk hx' hge gs hrec Vz=>?_;obtain⟨c2,oc,ws,t,e2,KR,hd,hv⟩:=hrec;cases e2
  have Sn:H c'=none:=I.hok.fresh hge;have hsz:s.heap.objs.size<=h'.objs.size:=vR hge (Nat.le_of_lt gs);have ZN:H h'.objs.size=none:=I.hok.fresh hsz;have ZO:c'≠h'.objs.size:=vS gs;let fo:Obj:=kla_obj "<lambda>" (qJ x) params body scope cl ((X.mg "__name__").getD .none) c' DA;let H1:Hp:=upd (upd H c' (.frz oc (.own c'))) h'.objs.size (.frz fo (.own h'.objs.size));have sm:bg H H1:=λb u q=>by
   show upd _ _ _ b=_;rw[aP (bi q ZN),aP (bi q Sn)];exact q
  have V0:H1 c'=some (.frz oc (.own c')):=by show upd _ _ _ c'=_;rw[aP ZO,aJ]
  have keep:∀b u,b≠P->s.heap.get? b=some u->(h'.push fo).get? b=some u:=λb u n q=>vZ _ (hx' b u n q);have lt:∀b u,s.heap.get? b=some u->b≠c'/\b≠h'.objs.size:=λb u q=>⟨vS (vQ (vX q) hge),vS (vQ (vX q) hsz)⟩;have So:(h'.push fo).get? P=some (tabObj (ps++#[rawInt pos.line,rawInt pos.col,.ref c'])):=vZ _ Vz;refine k _ H1 _ (I.un (t':=tk) (h':=h'.push fo) ⟨λb u q n _ _=>keep b u (nP b n) q,λb u q n _ _=>⟨u.slots,keep b u (nP b n) q⟩,λb u q n _=>?_,λb u q _=>?_,λb xs q=>sm _ _ q,λb ob u q=>sm _ _ q,λb u q=>sm _ _ q⟩ λb u q=>?_) sm ⟨_,c',DA,_,oc,_,ws,t,aJ,V0,hd,hv⟩
  ·show upd _ _ _ b=_;rw[aP (lt b u q).2,aP (lt b u q).1];exact n
  ·by_cases z:b=P
   ·subst z;exact⟨_,So⟩
   ·exact⟨u,keep b u z q⟩
  ·by_cases z1:b=h'.objs.size
   ·subst z1;have q':some (HO.frz fo (.own h'.objs.size))=some u:=by rw[←q];exact aJ.symm
    cases q'
    exact⟨vY _ rfl,_,vY _ rfl⟩
   ·by_cases z2:b=c'
    ·subst z2;rw[V0]at q;cases q;exact⟨vZ _ KR,_,vZ _ KR⟩
    ·have q':H b=some u:=by
      have:H1 b=H b:=by show upd _ _ _ b=_;rw[aP z1,aP z2]
      rw[←this];exact q
     by_cases z3:b=P
     ·subst z3;rw[hP]at q';cases q';refine⟨_,So,?_,λAy cv' ea=>?_⟩
      ·rw[Array.toList_append];exact TriplesOk_snoc _ _ _ _ tr
      ·rw[Array.toList_append]at ea;rcases Bp _ tr ea with ea|rfl
       ·obtain⟨c3,ZP,u3,ZQ,t3,y1,y2,y3⟩:=co Ay cv' ea;exact⟨c3,ZP,u3,ZQ,t3,y1,sm _ _ y2,y3⟩
       ·exact⟨c',oc,_,ws,t,rfl,V0,hd,hv⟩
     ·refine(I.hok b u q').stay (λd v BL r=>keep d v ?_ r) (λd r=>sm _ _ r) (λd xs r=>sm _ _ r) λd ob v r=>sm _ _ r;rcases BL with rfl|r
      ·exact z3
      ·intro z;rw[z,hP]at r;cases r
end
section
variable {P:Program}{w:World}{K:Frag}{mg:Str->Option Value}{base:Heap}
theorem dj.fnL {x:Str}{st:Stmt}{N ps:List Str}{k:Nat}{g:FS}{h:Heap}(F:dj K x st)(X:K.In h)(G:h.Ns mainGlobals mg)(S:FnScope N ps (bc st))
  (Lf:∀(kV doc pm:Value)(an:Option Addr)(ft ct:Value)(us:List Value),us.length=ps.length->bindArgs (fnOf x x (gH st) (cQ st) (bc st) .none kV doc pm an ft ct) ⟨us,[]⟩=pure (ps.zip us))
  (hb:∀(f:Addr)(ft:Value)(A:Around)(outer:List PySem.Env)(s:Shared)(H:Hp)(E:XK),(∀c P,tabIn K x=some (c,P)->ft=.ref c)->fD k (A.deeper (envOfC x (bc st) s.heap.objs.size f ft))->xZ (qc A3 P w K mg base N x (bc st) f ft A outer s H E).nox (cQ st) g):
  Fn P w K mg base (k+1) x (aO g ps.length (N.length - ps.length)):=by
 obtain⟨f,fd,F1,a⟩:=F;have F2:=F1;obtain⟨oc,od,kV,doc,pm,an,ft,ct,pY,rfl,lk,jT⟩:=F2.ex;have hc:∀c P,tabIn K x=some (c,P)->ft=.ref c:=λc P e=>by
  unfold tabIn at e;simp only[a,lk]at e;split at e
  ·rename_i c' _;split at e
   ·split at e
    ·cases e;rfl
    ·cases e
   ·cases e
  ·cases e
 have len:∀vs H Q E,J0 K (aO g ps.length (N.length - ps.length)) vs H Q E->vs.length=ps.length:=λvs H Q E h=>by
  obtain⟨B,ds,d,b,sB,i,e,q⟩:=h;unfold aO at e;split at e
  ·rename_i hl;rw[i.length];exact hl
  ·cases e
 refine⟨f,_,ps,Lx lk jT S len λA outer s H vs Q E hr h=>⟨_,w6.nox (hb f ft A outer s H E hc hr),?_⟩,mg_of X G a,F1.kp,F1.binds Lf⟩;have bP:=len vs H Q E h;obtain⟨B,ds,d,b,sB,i,e,q⟩:=h;unfold aO at e;rw[if_pos (by rw[←i.length];exact bP)]at e;have s0:=y4 (N:=N) sB.1 sB.2 i;rw[bP]at s0;split at e
 ·rename_i d' b' eg;cases e
  exact⟨B,H,_,_,⟨B,s0⟩,eg,λv H' N' x' i' f'=>q v H' N' x' i' f'⟩
 ·rename_i ρ' eg;cases e
  exact⟨B,H,_,_,⟨B,s0⟩,eg,λσ' H' ⟨N',s'⟩=>q .non H' N' s'.ext .non (by simp)⟩
 ·cases e
end
inductive mD (X:Cx)(N':List Str)(scope:Scope)(cl:List (Str×Addr)):Nat->List Nat->Prop where
 |nil {j:Nat}(h:N'.length=j):mD X N' scope cl j []
 |cons {j i:Nat}{r:List Nat}{x:Str}(h1:N'[j]? = some x) (h2:X.N[i]? = some x) (h3:X.env.kindOf x=some .cell∨X.env.kindOf x=some .free)
   (h4:scope.names.lookup x=some .free) (h5:cl.lookup x=X.env.cells.lookup x) (t:mD X N' scope cl (j+1) r):mD X N' scope cl j (i::r)
theorem mD.len:∀ {j:Nat}{cap:List Nat},mD X N' scope cl j cap->N'.length=j+cap.length
 |_,_,.nil h=>by rw[h];rfl
 |j,i::r,.cons _ _ _ _ _ t=>by rw[t.len,vE];omega
theorem mD.get:∀ {j:Nat}{cap:List Nat}{k i:Nat},mD X N' scope cl j cap->cap[k]? = some i->∃x,N'[j+k]? = some x/\X.N[i]? = some x/\(X.env.kindOf x=some .cell∨X.env.kindOf x=some .free) /\
  scope.names.lookup x=some .free/\cl.lookup x=X.env.cells.lookup x
 |_,_,_,_,.nil _,e=>by simp at e
 |j,_,0,_,.cons h1 h2 h3 h4 h5 _,e=>by simp at e;subst e;exact⟨_,h1,h2,h3,h4,h5⟩
 |j,_,k+1,i,.cons _ _ _ _ _ t,e=>by
  obtain⟨x,q,r⟩:=t.get (k:=k) (i:=i) (by simpa using e);exact⟨x,by rw[show j+(k+1)=j+1+k by omega];exact q,r⟩
noncomputable abbrev zo (X:Cx)(N':List Str)(scope:Scope)(cl:List (Str×Addr))(q:Str)(A:Around)(f c:Addr)(s:Shared)(H:Hp):Cx :=
 { X with A:=A.deeper (envX q scope s.heap.objs.size f (.ref c) cl),N:=N',s₀:=s,H₀:=H,env:=envX q scope s.heap.objs.size f (.ref c) cl,outer:=X.stack,stack:=envX q scope s.heap.objs.size f (.ref c) cl::X.stack,ex:=[],fn:=λ_=>false,calm:=true,pn:=[],xe:=λ_ _=>False }
structure LamSc (X:Cx)(scope:Scope)(cl:List (Str×Addr))(y:Str):Prop where
 clos:closureFor scope X.env=pure cl
 nocell:∀z∈scope.names,z.2≠.cell
 kind:scope.kind=.function
 co:scope.isCoroutine=false
 gen:scope.isGenerator=false
 par:scope.names.lookup y=some .local
 sub:∀x c,cl.lookup x=some c->X.env.cells.lookup x=some c
 has:∀x,scope.names.lookup x=some .free->∃c,cl.lookup x=some c
theorem Cz (h1:∀z∈scope.names,z.2≠.cell)(h2:scope.kind=.function)(h3:scope.isCoroutine=false)(T3:scope.isGenerator=false)(hp:scope.names.lookup y=some .local)
  (PK:(scope.names.all λz=>!(z.2 == NameKind.free) || (X.env.cells.lookup z.1).isSome)=true):LamSc X scope (eD scope.names X.env.cells []) y:=by
 have h4:∀z∈scope.names,z.2=.free->(X.env.cells.lookup z.1).isSome=true:=λz hz e=>by
  have:=uR PK z hz;rw[e]at this;simpa using this
 exact⟨uq scope.names [] h4,h1,h2,h3,T3,hp,λx c e=>nB scope.names [] (λy d q=>by cases q) e,λx h=>by
  have:=nD (x:=x) scope.names [] (gt h) (h4 _ (gt h) rfl);exact uU this⟩
section
variable {X:Cx}{af:List (Addr×Obj)}{U:St}{H:Hp}{s:Shared}{A:Around}{N':List Str}{scope:Scope}{cl:List (Str×Addr)}{q y:Str}{cap:List Nat}
theorem JX (S:LamSc X scope cl y)(N0:N'[0]? = some y)(cp:mD X N' scope cl 1 cap)(I:Inv X af U H s)(hA:A.frames=some X.stack)(hh:A.handled=none)(r:bf v u)
  (PL:h₁.Ns s.heap.objs.size (λx=>[(y,u)].reverse.lookup x)) (hk:∀b o,s.heap.get? b=some o->h₁.get? b=some o):
  Inv (zo X N' scope cl q A f c s H) [] (some v::tF 0 cap U) H { s with heap:=h₁,toks:=tk }:=by
 have KW:∀b:Addr,b∉(zo X N' scope cl q A f c s H).ex:=λb z=>absurd (show b∈([]:List Addr)from z) (by simp);refine⟨⟨I.ok.mod,S.kind,rfl,rfl,vT _,λx z d e1 e2=>I.ok.inj x z d (S.sub _ _ e1) (S.sub _ _ e2),λx hx=>?_,(λx d e=>by cases e),λ_=>hh,Around.frames_deeper hA,.inr ⟨rfl,rfl⟩,λb z=>absurd z (KW b),I.bs,vR I.ok.bsz I.sz,λb _ _=>KW b,λb z=>absurd z (KW b),I.stack,I.stkFree⟩,
  rfl,I.bare,Un.kept hk,⟨_,PL,λi x v' e1 e2 e3=>?_⟩,λx d e=>?_,I.hok.fresh (vT _),λx d e=>I.freeC x d (S.sub _ _ e),λp hp=>absurd (show p∈([]:List (Addr×Obj))from hp) (by simp),I.hok.kept hk,?_⟩
 ·have hx':scope.names.lookup x=some .cell∨scope.names.lookup x=some .free:=hx;rcases hx' with hx'|hx'
  ·exact absurd rfl (S.nocell _ (gt hx'))
  ·exact S.has x hx'
 ·cases i with
  |zero=>
   have Mx:N'[0]? = some x:=e1;rw[N0]at Mx;cases Mx;have V1:some v=some v':=by simpa using e2
   cases V1
   exact⟨u,r,.inl ⟨S.par,by simp⟩⟩
  |succ k=>
   have V1:(tF 0 cap U)[k]? = some (some v'):=by simpa using e2
   obtain⟨k',i',gg,g1,g2⟩:=wP V1;have:k=k':=by omega
   subst this;obtain⟨x',n1,n2,n3,n4,n5⟩:=cp.get g1;have:x'=x:=by
    have Mx:N'[k+1]? = some x:=e1;rw[show 1+k=k+1 by omega]at n1;rw[n1]at Mx;exact vK Mx
   subst this;have ZR:U[i']? = some (some v'):=by
    cases z:U[i']? with
    |none=>rw[z]at g2;cases g2
    |some w=>rw[z]at g2;cases w with
     |none=>cases g2
     |some w=>cases g2;rfl
   obtain⟨m,_,hl⟩:=I.loc;obtain⟨u',ru,lk⟩:=hl i' x' v' n2 ZR (by
    rcases n3 with n3|n3
    ·exact .inr (.inl n3)
    ·exact .inr (.inr n3))
   refine⟨u',ru,.inr ⟨.inr n4,?_⟩⟩;rcases lk with⟨l1,_⟩|⟨_,d,l2,l3⟩
   ·rcases n3 with n3|n3<;>(rw[l1]at n3;cases n3)
   ·obtain⟨ob,ho,hd⟩:=l3;exact⟨d,by show cl.lookup x'=_;rw[n5];exact l2,ob,hk _ _ ho,hd⟩
 ·obtain⟨w,ob,ho,hd⟩:=I.cell x d (S.sub _ _ e);exact⟨w,ob,hk _ _ ho,hd⟩
 ·have:=cp.len;show(some v::tF 0 cap U).length=N'.length;unfold tF;rw[this];simp;omega
theorem JY (S:LamSc X scope cl y)(N0:N'[0]? = some y)(cp:mD X N' scope cl 1 cap)(I:Inv X af U H s)
  (hA:A.frames=some X.stack) (hh:A.handled=none) (Ig:A.depth<recursionLimit) (lv:G1 H f q params body scope cl)
  (Az:∀pm c DA u,bindArgs (kla_fn "<lambda>" q params body scope cl pm (.ref c) DA) ⟨[u],[]⟩=pure [(y,u)])
  (hb:∀(f c:Addr)(s:Shared)(H:Hp),JE (zo X N' scope cl q A f c s H) body fb)
  (rep:gf X.K B U Y) (sB:bg B H) (r:bf v u) (i:Is X.K B v d) (e:fb (some (d,false)::eA 0 cap Y)=some (d',b')) (qf:Fin X.K B H d' b' Q):
  wpAny (model X.prog X.w) A (call (.ref f) [u]) (EP X af U Q) (λ_ _=>False) s:=by
 obtain⟨pm,c,DA,uf,oc,u',ws,t,hf,hc,hd,hv⟩:=lv;have ho:=(I.hok f _ hf).1;have KR:=(I.hok c _ hc).1;refine wpAny_call (codeAny_mono (R:=λr s'=>CR A3 X.stack X.prog X.w H s Q (λ_ _ _=>False) r s') ?_ λr s' hq=>?_)
 ·refine kla_callFunE Ig ho rfl S.co S.gen rfl ⟨c,oc,ws,t,rfl,KR,hd,hv⟩ ?_;rw[Az];refine wY (wpAny_newFunctionEnv S.nocell (λz hz=>by rw[uT hz];exact S.par) (λh₁ PL hsb=>⟨I.nolimit.fresh _ hsb,?_⟩) S.kind);have Sq:∀b o,s.heap.get? b=some o->h₁.get? b=some o:=λb o e=>hsb.extBut b o (vS (vX e)) (vZ _ e);have J:=JX (f:=f) (c:=c) (q:=q) (tk:=s.toks+1) S N0 cp I hA hh r PL Sq;refine kla_codeExpr (wpAny_mono (hb f c s H [] _ _ H Q J ⟨B,_,d',b',sB,⟨rep.tb,λj e0 b0 z=>?_⟩,e,qf⟩) (λw s' hw=>?_) λ_ _ z=>z.elim)
  ·cases j with
   |zero=>
    have z':some (d,false)=some (e0,b0):=by simpa using z
    cases z'
    exact⟨v,rfl,i⟩
   |succ j=>
    obtain⟨w,h1,h2⟩:=(rep.caps (nT:=0) (cap:=cap)).at' j e0 b0 (by simpa using z);exact⟨w,by simpa using h1,h2⟩
  ·obtain⟨v',H',J',rv,qv⟩:=hw;exact⟨v',H',J'.os,J'.bare,J'.base,J'.hok,rv,qv⟩
 ·cases r with
  |error e=>exact False.elim hq
  |ok fl=>
   cases fl with
   |ret w=>exact I.after hq
   |next=>exact False.elim hq
   |brk=>exact False.elim hq
   |cont=>exact False.elim hq
end
end DL
namespace DL
open PySem PySem.Spec PySem.W PyProof.Rows L2
section
variable {X:Cx}{af:List (Addr×Obj)}{U:St}{H:Hp}{s:Shared}{h':Heap}{t':Nat}
theorem oS (I:Inv X ((p,o)::af) U H s):∀x c,X.env.cells.lookup x=some c->c≠p:=λx c e z=>by
 have pf:=I.pin (p,o) (mY _ mX);obtain⟨v,ob,ho,hd⟩:=I.cell x c e;rw[z,pf.1]at ho;cases ho;exact pf.2.2.2.2 v hd
theorem lh (I:Inv X (p::af) U H s):Inv X af U H s:=I.pins_of λq hq=>I.pin q (mY _ (mZ _ hq))
theorem iP (I:Inv X ((p,o)::af) U H s)(h0:X.s₀.heap.objs.size<=p)(hp:∀q∈X.pn++af,q.1≠p)(k:∀b u,b≠p->s.heap.get? b=some u->h'.get? b=some u)(e':h'.get? p=some o')(nc:∀v,o'.data≠.cell v):
  Inv X ((p,o')::af) U H { s with heap:=h',toks:=t' }:=by
 have pf:=I.pin (p,o) (mY _ mX);have J:=(lh I).turned (t':=t') k pf.2.1 pf.2.2.1 (.inr h0) (oS I) hp;refine J.pins_of λq hq=>?_;rcases vP hq with rfl|hq
 ·exact⟨e',pf.2.1,pf.2.2.1,pf.2.2.2.1,nc⟩
 ·exact J.pin q (mY _ hq)
theorem qy (I:Inv X af U H s)(k:∀b u,s.heap.get? b=some u->h'.get? b=some u)(hs:s.heap.objs.size<=p)(e':h'.get? p=some o)(nc:∀v,o.data≠.cell v):Inv X ((p,o)::af) U H { s with heap:=h',toks:=t' }:=by
 have J:=I.kept (t':=t') k;refine J.pins_of λq hq=>?_;rcases vP hq with rfl|hq
 ·exact⟨e',I.hok.fresh hs,Nat.ne_of_gt (vQ I.lt hs),I.nofs hs,nc⟩
 ·exact J.pin q (mY _ hq)
theorem JZ (I:Inv X ((p,o)::af) U H s)(h0:X.s₀.heap.objs.size<=p)(hp:∀q∈X.pn++af,q.1≠p)(k:∀b u,b≠p->s.heap.get? b=some u->h'.get? b=some u)(eo:∃u,h'.get? p=some u)
  (new:bZ X.prog X.w (upd H p ob) h' p ob):Inv X af U (upd H p ob) { s with heap:=h',toks:=t' }:=by
 have pf:=I.pin (p,o) (mY _ mX);have hn:=pf.2.1;have hn:H p=none:=hn;have cs:=oS I;refine(lh I).step (g':=s.gens) (d':=s.drawn) (ch:=[p]) (λb hb=>?_) (λb u _ _ hc e _=>k b u (λz=>hc (by simp[z])) e) (λb u _ _ hc e _=>⟨u.slots,k b u (λz=>hc (by simp[z])) e⟩) (λb u hc _ n=>by rw[aP (λz=>hc (by simp[z]))];exact n)
  (λb u hc e=>⟨u,k b u (λz=>hc (by simp[z])) e⟩) (λb xs e=>by rw[aP (bi e hn)];exact e) (λb u w e=>by rw[aP (bi e hn)];exact e) (λb q e=>by rw[aP (bi e hn)];exact e) (λm hm=>?_) (λb u e=>?_) I.bare
 ·have z:b=p:=by simpa using hb
  subst z;exact⟨.inr h0,pf.2.2.1,cs,hp⟩
 ·obtain⟨ol,es,ep,ho,r⟩:=hm;exact⟨ol,es,ep,k _ ol (λz=>pf.2.2.1 z.symm) ho,r⟩
 ·by_cases z:b=p
  ·subst z;rw[aJ]at e;cases e;exact new
  ·rw[aP z]at e;refine(I.hok b u e).stay (λc v hc q=>k c v ?_ q) (λc q=>?_) (λc xs q=>?_) λc w xs q=>?_
   ·rcases hc with rfl|hc
    ·exact z
    ·exact bi hc hn
   ·rw[aP (bi q hn)];exact q
   ·rw[aP (bi q hn)];exact q
   ·rw[aP (bi q hn)];exact q
end
def C0 (X:Cx)(A:Around)(U:St)(qv:Value)(B H1:Hp)(kf:D->Option D):Prop :=
 ∀(af:List (Addr×Obj))(s:Shared)(H N:Hp)(v:V)(u:Value)(d d':D),Inv X af U H s->bg H1 H->bg B N->bg N H->Is X.K N v d->bf v u->kf d=some d' ->
  wpAny (model X.prog X.w) A (call qv [u]) (EP X af U λv' H'=>∃N',Ext N N' H H'/\Is X.K N' v' d') (λ_ _=>False) s
def JK (X:Cx)(A:Around)(e:Expr)(kf:Env->D->Option D):Prop:=∀(af:List (Addr×Obj))(s:Shared)(U:St)(H B:Hp)(Y:Env)(Q:Value->Shared->Prop)(E:Value->Shared->Prop),Inv X af U H s->bg B H->gf X.K B U Y ->
 (∀qa H1 s1,Inv X af U H1 s1->bg H H1->C0 X A U (.ref qa) B H1 (kf Y)->Q (.ref qa) s1)->wq X (eval e X.env) Q E s
section
variable {X:Cx}{A:Around}
@[simp] def re (cap:List Nat)(fb:FE):Env->D->Option D:=λY d=>(fb (some (d,false)::eA 0 cap Y)).map (·.1)
theorem xw (hx:x∈nz)(L:Bo X.K x)(hc:∀c P,tabIn X.K x=some (c,P)->X.env.code=.ref c)(hq:X.env.qual ++ "<lambda>" = qJ x)
  (Pd:defaultsOf params X.env=([],[])) (S:LamSc X scope (eD scope.names X.env.cells []) y) (N0:N'[0]? = some y) (cp:mD X N' scope (eD scope.names X.env.cells []) 1 cap) (hA:A.frames=X.A.frames) (hr:fD (k+1) A)
  (Az:∀pm c DA u,bindArgs (kla_fn "<lambda>" (qJ x) params body scope (eD scope.names X.env.cells []) pm (.ref c) DA) ⟨[u],[]⟩=pure [(y,u)])
  (hb:∀(f c:Addr)(s:Shared)(H:Hp),fD k (zo X N' scope (eD scope.names X.env.cells []) (qJ x) A f c s H).A->JE (zo X N' scope (eD scope.names X.env.cells []) (qJ x) A f c s H) body fb):JK X A (.Lambda params body scope pos) (re cap fb):=by
 intro af s U H B Y Q E I sB rep kk;refine G2 hx L hc hq Pd S.clos I (rep.tb.mono sB) λf H1 s1 I1 sm lv=>kk f H1 s1 I1 sm ?_;intro HQ s' H' N v u d d' I' m1 m2 m3 iv r e;simp only[re]at e;obtain⟨⟨d2,b2⟩,e1,e2⟩:=oY e;cases e2
 exact JY S N0 cp I' (hA.trans I'.ok.frames) hr.hd hr.depth (lv.mono m1) Az (λf c s H=>hb f c s H (hr.deeper _)) (rep.mono m2) m3 r iv e1 λv' H2 N2 x2 i2 _=>⟨N2,x2,i2⟩
@[simp] noncomputable def tM (g:List D->OB):Env->D->Option D:=λ_ d=>(g [d]).map (·.1)
theorem C1 (F:Fn X.prog X.w X.K X.mg X.base k x g)(hr:fD k A)(hA:A.frames=X.A.frames)(hg:Gl X x:=by rfl)(tT:(x == ("__debug__" : Str))=false:=by decide):JK X A (.Name x p) (tM g):=by
 intro af s U H B Y Q E I sB rep kk;obtain⟨ad,fd,ps,F1,hm,hk,hb⟩:=F.ex;refine wA I hg hm ?_ tT;refine kk ad H s I (.refl H) ?_;intro HQ s' H' N v u d d' I' m1 m2 m3 iv r e;simp only[tM]at e;obtain⟨⟨d2,b2⟩,e1,e2⟩:=oY e;cases e2
 have sp:J0 X.K g [v] H' (λv' H2=>∃N',Ext N N' H' H2/\Is X.K N' v' d2) (λ_ _ _=>False):=⟨N,[d],d2,b2,⟨m3,rep.tb.mono m2⟩,.cons iv .nil,e1,λv' H2 N2 x2 i2 _=>⟨N2,x2,i2⟩⟩;have hl:[u].length=ps.length:=by have:=F1.len _ _ _ _ sp;simpa using this
 have e0:=I'.env0;have bb:=hb s' [u] I'.kIn (by simpa using hl);rw[uQ]at bb;refine wpAny_call (codeAny_mono (F1.run A X.stack s' H' ⟨[u],[]⟩ [u] [v] _ (λ_ _ _=>False) hr ⟨hA.trans e0.frames,e0.mod,e0.bs,e0.bsz,e0.funs,e0.frf,e0.hok,e0.bare⟩ bb (.cons r .nil) sp) λr s' hq=>?_);cases r with
 |error e=>exact False.elim hq
 |ok fl=>
  cases fl with
  |ret w=>exact I'.after hq
  |next=>exact False.elim hq
  |brk=>exact False.elim hq
  |cont=>exact False.elim hq
end
noncomputable def jH (f:D->Option D):List D->Option (List D)
 |[]=>some []
 |d::ds=>(f d).bind λx=>(jH f ds).map (x :: ·)
theorem lm:∀ {ds ks:List D},jH f ds=some ks->ks.length=ds.length
 |[],_,h=>by simp only[jH]at h;cases h;rfl
 |d::ds,_,h=>by
  simp only[jH]at h;obtain⟨a,h1,h⟩:=oX h;obtain⟨r,h2,h⟩:=oY h;subst h;simp[lm h2]
theorem rf:∀ {ds ks:List D},jH f ds=some ks->∀ {i:Nat}{d:D},ds[i]? = some d->∃k,ks[i]? = some k/\f d=some k
 |[],_,h,i,d,e=>by simp at e
 |d::ds,_,h,0,e,q=>by
  simp only[jH]at h;obtain⟨a,h1,h⟩:=oX h;obtain⟨r,h2,h⟩:=oY h;subst h;simp at q;subst q;exact⟨a,by simp,h1⟩
 |d::ds,_,h,i+1,e,q=>by
  simp only[jH]at h;obtain⟨a,h1,h⟩:=oX h;obtain⟨r,h2,h⟩:=oY h;subst h;obtain⟨k,z1,z2⟩:=rf h2 (i:=i) (d:=e) (by simpa using q);exact⟨k,by simpa using z1,z2⟩
structure KK (X:Cx)(A:Around)(kd:List D->Option (List (List At)))(ok:List (List At)->Bool):Prop where
 len:∀ {ds:List D}{ks:List (List At)},kd ds=some ks->ks.length=ds.length
 ask:∀ {af:List (Addr×Obj)}{U:St}{H:Hp}{s:Shared}(_:Inv X af U H s) {ys:List V}{ds:List D}{ks:List (List At)}{its:List Value},bp ys its->IsL X.K H ys ds->kd ds=some ks->ok ks=true->eZ ks=true ->
  (0<ks.length->∀ {E:Value->Shared->Prop}{Q:SortKind->Shared->Prop},Q (tuples' true) s->wpAny (model X.prog X.w) A (keyKind' its.toArray) Q E s) /\
  ∀(i j:Nat)(C:Bool->Shared->Prop)(s1:Shared),i<ks.length->j<ks.length->s1=s->(∀s',s'=s->C (qX (Iz ks) i j) s')->kas_ask X.prog X.w A (tuples' true) its i j C s1
theorem G3:KK X A dU fY:=⟨lM,λI _ _ _ _ r i e hf hc=>have hp:=qx I r i e;⟨λhn _ _ q=>Gx hp hf hn q,JU hc hp⟩⟩
section
variable {X:Cx}{af:List (Addr×Obj)}{U:St}{s:Shared}
theorem uJ (r:bf x u):∀ {vs:List V}{us:List Value},bp vs us->bp (vs++[x]) (us++[u])
 |_,_,.nil=>.cons r .nil
 |_,_,.cons h t=>.cons h (uJ r t)
theorem dH:∀v,(Obj.mk c od (.seq its n) sl).data≠.cell v:=λv z=>by cases z
theorem Bq 
  (I:Inv X ((a,seqObj "list" its.toArray n)::af) U H s) (h0:X.s₀.heap.objs.size<=a) (hp:∀q∈X.pn++af,q.1≠a) (IC:C0 X A U qv B H kf) (rv:bp vs its) (iv:IsL X.K B vs ds) (sB:bg B H)
  (M:KK X A kd ok) (em:jH kf ds=some iu) (ek:kd iu=some ks) (hc:eZ ks=true) (hf:ok ks=true) (EY:its.length<64)
  (h:∀(p:Array Nat)(s':Shared)(H' N:Hp),qp its.length p->Up (Iz ks) p its.length->Inv X af U (upd H' a (.lst (p.toList.map λi=>vs.getD i .non))) s'->Ext B N H H'->H' a=none->P (.done (.ret .none)) s'):
  wpAny (model X.prog X.w) A (ksk_tree a qv false) P E s:=by
 have pa:=I.pin (a,seqObj "list" its.toArray n) (mY _ mX)
 have D7:vs.length=its.length:=rv.length
 have PV:ds.length=vs.length:=iv.length.symm
 have ZS:iu.length=ds.length:=lm em
 have Xz:ks.length=iu.length:=M.len ek
 have hz:its.length<=sizeLine:=by rw[sizeLine_eq];omega
 have hna:H a=none:=pa.2.1
 obtain⟨e1,PR⟩:∃e1,(s.heap.update a (Obj.mapSeq λ_=>(#[]:Array Value))).get? a=some (seqObj "list" #[] e1):=⟨_,get?_update_seq pa.1 λ_=>#[]⟩
 have u1:=vW s.heap a (Obj.mapSeq λ_=>(#[]:Array Value))
 have I1:Inv X ((a,seqObj "list" #[] e1)::af) U H { s with heap:=s.heap.update a (Obj.mapSeq λ_=>(#[]:Array Value)) }:=iP (t':=s.toks) I h0 hp (λb u n q=>(u1.2 b n).trans q) PR dH
 let h2:Heap:=(s.heap.update a (Obj.mapSeq λ_=>(#[]:Array Value))).push (seqObj "tuple" its.toArray 0)
 have I2:Inv X ((a,seqObj "list" #[] e1)::af) U H { s with heap:=h2 }:=I1.kept (t':=s.toks) λb u q=>vZ _ q
 let kS:Addr:=h2.objs.size
 have I3:Inv X ((kS,seqObj "list" #[] 0)::(a,seqObj "list" #[] e1)::af) U H { s with heap:=h2.push (seqObj "list" #[] 0) }:=qy (s:={ s with heap:=h2 }) (t':=s.toks) I2 (λb u q=>vZ _ q) (vT _) (vY _ rfl) dH
 have k0:X.s₀.heap.objs.size<=kS:=I2.sz
 have kp:∀q∈X.pn++((a,seqObj "list" #[] e1)::af),q.1≠kS:=λq hq=>vS (vX (I2.pin q hq).1)
 have kna:kS≠a:=λz=>kp (a,seqObj "list" #[] e1) (mY _ mX) z.symm
 unfold ksk_tree
 refine wX (listItems_at pa.1 rfl ?_)
 refine wX (listUpdate_at pa.1 rfl ?_ (by simpa using hz) (uN _))
 refine wX (seqEpoch_at PR rfl ?_)
 refine wX (wpAny_newTuple ?_ (by show its.length<=sizeLine;exact hz))
 refine wX (wpAny_newList ?_ (uN _))
 refine wpAny_holding ?_
 show wpAny (model X.prog X.w) A (ksk_rest a qv false its.toArray e1 (.ref kS)) P E { s with heap:=h2.push (seqObj "list" #[] 0) }
 unfold ksk_rest
 refine wX (wpAny_rule ?_)
 rw[List.forIn_toArray]
 refine wX (ksk_fold (λi s'=>∃(H' N:Hp)(kA:Array Value)(e:Nat)(aS:List V),Inv X ((kS,seqObj "list" kA e)::(a,seqObj "list" #[] e1)::af) U H' s'/\Ext B N H H'/\bp aS kA.toList/\IsL X.K N aS (iu.take i)) its 0 _
  ⟨H,B,#[],0,[],I3,.refl sB,.nil,by simpa using IsL.nil⟩ ?step ?done)
 case step=>
  rintro j u s' hu ⟨H',N,kA,e,aS,J,x1,rk,ik⟩
  simp only[Nat.zero_add]at ik ⊢
  have hj:j<its.length:=(vV hu).1
  obtain⟨d,hd⟩:∃d,ds[j]? = some d:=⟨_,vU (by omega)⟩
  obtain⟨v,hv,M4⟩:=iv.get hd
  obtain⟨kd,T4,V2⟩:=rf em hd
  obtain⟨u',Lk,ru⟩:=rv.get hv
  rw[hu]at Lk;cases Lk
  have kl:kA.size=j:=by
   have z1:=rk.length
   have z2:=ik.length
   rw[List.length_take]at z2
   rw[vG]at z1
   exact z1.symm.trans (z2.trans (Nat.min_eq_left (by omega)))
  refine wX (wpAny_attempt (wpAny_mono (IC _ s' H' N v u d kd J x1.hh x1.bn x1.nh (M4.mono x1.bn) ru V2) (λw Fg hw=>?_) λ_ _ hF=>hF.elim))
  obtain⟨v',ZT,J',ZU,N',x2,i2⟩:=hw
  have pk:=J'.pin (kS,seqObj "list" kA e) (mY _ mX)
  obtain⟨c2,D4⟩:∃c2,(Fg.heap.update kS (Obj.mapSeq (·.push w))).get? kS=some (seqObj "list" (kA.push w) c2):=⟨_,get?_update_seq pk.1 (·.push w)⟩
  have u2:=vW Fg.heap kS (Obj.mapSeq (·.push w))
  refine wX (listUpdate_at pk.1 rfl ?_ (by rw[sizeLine_eq];omega) (vR (Nat.le_of_eq (Array.size_push ..)) (by rw[sizeLine_eq];omega)))
  refine wY ⟨rfl,ZT,N',kA.push w,c2,aS++[v'],iP (t':=Fg.toks) J' k0 kp (λb q n z=>(u2.2 b n).trans z) D4 dH,x1.trans x2,?_,?_⟩
  ·rw[Array.toList_push];exact uJ ZU rk
  ·rw[List.take_add_one,T4];exact(ik.mono x2.bn).append (.cons i2 .nil)
 case done=>
  rintro s' ⟨H',N,kA,e,aS,J,x1,rk,ik⟩
  have X0:IsL X.K N aS iu:=by
   have z:iu.take (0+its.length)=iu:=List.take_of_length_le (by omega)
   rw[z]at ik;exact ik
  have pk:=J.pin (kS,seqObj "list" kA e) (mY _ mX)
  have ZV:=J.pin (a,seqObj "list" #[] e1) (mY _ (mZ _ mX))
  have UP:H' a=none:=ZV.2.1
  have kz:kA.toList.length=its.length:=by rw[←rk.length,X0.length];omega
  have X1:kA.size=its.length:=by rw[←vG];exact kz
  refine wX (listItems_at pk.1 rfl ?_)
  have X2:=M.ask J rk (X0.mono x1.nh) ek hf hc
  -- the end of the sort,for a permutation p
  have Sr:∀(st:SortSt)(p:Array Nat),arrOf st=p.map (kas_item (kA.toList.toArray.zip its.toArray))->failedOf st=none->qp its.length p->Up (Iz ks) p its.length ->
    wpAny (model X.prog X.w) A (ksk_tail a false e1 (.ref kS) st) P E s':=λst p ea ef ap up=>by
   have eo:(arrOf st).map (·.2)=List.toArray (p.toList.map λi=>its.getD i Value.none):=kat_snds kz ea
   have Lj:∀i∈p.toList,i<vs.length:=λi hi=>by
    have:=List.mem_range.mp (ap.perm.mem_iff.mp hi)
    omega
   obtain⟨c3,ZW⟩:∃c3,(s'.heap.update kS (Obj.mapSeq λ_=>(#[]:Array Value))).get? kS=some (seqObj "list" #[] c3):=⟨_,get?_update_seq pk.1 λ_=>#[]⟩
   have u3:=vW s'.heap kS (Obj.mapSeq λ_=>(#[]:Array Value))
   have J3:=lh (iP (t':=s'.toks) J k0 kp (λb q n z=>(u3.2 b n).trans z) ZW dH)
   have V3:=J3.pin (a,seqObj "list" #[] e1) (mY _ mX)
   obtain⟨c4,X3⟩:∃c4,((s'.heap.update kS (Obj.mapSeq λ_=>(#[]:Array Value))).update a (Obj.mapSeq λ_=>(arrOf st).map (·.2))).get? a=some (seqObj "list" ((arrOf st).map (·.2)) c4):=⟨_,get?_update_seq V3.1 λ_=>(arrOf st).map (·.2)⟩
   have u4:=vW (s'.heap.update kS (Obj.mapSeq λ_=>(#[]:Array Value))) a (Obj.mapSeq λ_=>(arrOf st).map (·.2))
   have so:((arrOf st).map (·.2)).size=its.length:=by rw[eo];simp only[vH,vI,vG,ap.size]
   unfold ksk_tail
   try dsimp only
   refine wX (listUpdate_at pk.1 rfl ?_ (by rw[X1,sizeLine_eq];omega) (uN _))
   refine wX (wpAny_letGo ?_)
   refine wX (seqEpoch_at V3.1 rfl ?_)
   refine wX (listUpdate_at V3.1 rfl ?_ (uN _) (by simp only[uV,if_false];rw[so,sizeLine_eq];omega))
   rw[ef]
   simp only[bne_self_eq_false,uV,if_false]
   refine wY (h p _ H' N ap up (JZ (s:={ s' with heap:=s'.heap.update kS (Obj.mapSeq λ_=>(#[]:Array Value)) }) (t':=s'.toks) J3 h0 hp (λb q n z=>(u4.2 b n).trans z) ⟨_,X3⟩ ?_) x1 UP)
   refine⟨by rw[vI,vG,ap.size];exact hz,p.toList.map λi=>its.getD i Value.none,c4,uI rv p.toList Lj,?_⟩
   rw[←eo];exact X3
  unfold ksk_end
  try dsimp only
  simp only[uV,if_false]
  have ZX:kA=kA.toList.toArray:=by simp
  by_cases HY:its.toArray.size<2
  ·rw[if_pos HY,if_pos HY]
   refine wX (wY ?_)
   rw[StateT.run_pure]
   refine wX (wY ?_)
   have X4:its.length<2:=by simpa using HY
   refine Sr _ (List.toArray (List.range its.length)) ?_ rfl ⟨by simp,by simp⟩ ?_
   ·show kA.zip its.toArray=_
    have:=kas_range (kA.toList.toArray.zip its.toArray)
    rw[show(kA.toList.toArray.zip its.toArray).size=its.length by simp[X1]]at this
    rw[this]
   ·intro i j D9 hj
    have:i=j:=by omega
    subst this;exact Int.le_refl _
  ·rw[if_neg HY,if_neg HY]
   have V4:2<=its.length:=by simp at HY;omega
   rw[ZX]
   refine wX (X2.1 (by omega) ?_)
   obtain⟨p,r1,r2,r3⟩:=Gv (n:=its.length) (rk:=Iz ks) (by omega)
   refine wX (wpAny_mono (kat_run (E:=E) (ks:=kA.toList) (vs:=its) (κ:=tuples' true) (s:=s') (Q:=λmC s2=>s2=s'/\arrOf mC=p.map (kas_item (kA.toList.toArray.zip its.toArray))/\failedOf mC=none)
    (G:=λp' s2=>p'=p/\s2=s') kz V4 EY (λp' mC s2 _ e2 e3 e4=>by
     obtain⟨rfl,rfl⟩:=e4
     exact⟨rfl,e2,e3⟩) (Run.wp (λs2=>s2=s') (λi j C s2 hi hj e hC=>X2.2 i j C s2 (by omega) (by omega) e hC) r1 rfl λs2 e=>⟨rfl,e⟩)) (λr s2 hr=>?_) λ_ _ z=>z)
   obtain⟨⟨⟩,mC⟩:=r
   obtain⟨rfl,e2,e3⟩:=hr
   exact Sr mC p e2 e3 r2 r3
end
theorem zp {α β:Type}{f:α->β}:∀ {l:List α},(l.map f).Nodup->l.Nodup
 |[],_=>List.nodup_nil
 |a::l,h=>by
  rw[uY,List.nodup_cons]at h;exact List.nodup_cons.mpr ⟨λz=>h.1 (uS ⟨a,z,rfl⟩),zp h.2⟩
def jI (ks:List (List At))(ds:List D):List D:=(eY (λp:List At×D=>cX p.1) (ks.zip ds)).map (·.2)
theorem G4 {α β:Type}(d:α)(e:β):∀ {l₁:List α}{l₂:List β},l₁.length=l₂.length->(List.range l₂.length).map (λi=>(l₁.getD i d,l₂.getD i e))=l₁.zip l₂:=λ{l₁ l₂} h=>by
 apply List.ext_getElem?;intro i;by_cases hi:i<l₂.length
 ·have My:i<l₁.length:=by omega
  have:=(List.getElem?_zip_eq_some (z:=(l₁[i],l₂[i]))).mpr ⟨vU My,vU hi⟩;rw[this];simp[hi,My]
 ·simp[hi,h]
theorem Ka {α β:Type}{l₁:List α}{l₂:List β}(nd:l₁.Nodup){a:α}{b c:β}(h1:(a,b)∈l₁.zip l₂)(h2:(a,c)∈l₁.zip l₂):b=c:=by
 obtain⟨i,hi⟩:=List.mem_iff_getElem?.mp h1;obtain⟨j,hj⟩:=List.mem_iff_getElem?.mp h2;obtain⟨i1,i2⟩:=List.getElem?_zip_eq_some.mp hi;obtain⟨j1,j2⟩:=List.getElem?_zip_eq_some.mp hj;obtain⟨li,ei⟩:=vV i1;obtain⟨lj,ej⟩:=vV j1;have:i=j:=(List.getElem_inj nd).mp (ei.trans ej.symm);subst this;rw[i2]at j2;exact vK j2
theorem Br {ds:List D}{ks:List (List At)}{p:Array Nat}(hl:ks.length=ds.length)(hc:eZ ks=true)(nd:ks.Nodup)(ap:qp ds.length p)(up:Up (Iz ks) p ds.length):p.toList.map (λi=>ds.getD i .non)=jI ks ds:=by
 unfold jI;have e:p.toList.map (λi=>(ks.getD i [],ds.getD i .non))=eY (λp:List At×D=>cX p.1) (ks.zip ds):=by
  apply lg
  ·intro x hx y hy e;have mx:=(List.of_mem_zip hx).1;have my:=(List.of_mem_zip hy).1;have:=oR hc mx my e;obtain⟨k1,d1⟩:=x;obtain⟨k2,d2⟩:=y;have z:k1=k2:=this;subst z;rw[Ka nd hx hy]
  ·have:=ap.perm.map (λi=>(ks.getD i [],ds.getD i D.non));rw[G4 [] D.non hl]at this;exact this
  ·rw[List.pairwise_iff_getElem];intro i j hi hj D9;have hsz:=ap.size;have My:i<p.size:=by simpa using hi
   have ZY:j<p.size:=by simpa using hj
   have:=up i j (Nat.le_of_lt D9) (by omega);unfold cD Iz at this;have gi:p.getD i 0=p[i]:=by rw[Array.getD_eq_getD_getElem?,Array.getElem?_eq_getElem My];rfl
   have gj:p.getD j 0=p[j]:=by rw[Array.getD_eq_getD_getElem?,Array.getElem?_eq_getElem ZY];rfl
   have lj:=ap.lt (k:=j) (by omega);have mj:ks.getD (p.getD j 0) []∈ks:=by
    have h':p.getD j 0<ks.length:=by omega
    rw[vF,vU h'];exact List.getElem_mem h'
   have nl:¬cX (ks.getD (p.getD j 0) [])<cX (ks.getD (p.getD i 0) []):=λz=>by
    have:=Cu (cs:=ks.map cX) (uS ⟨_,mj,rfl⟩) z;omega
   simp only[List.getElem_map,Array.getElem_toList];unfold Iy;rw[←gi,←gj];exact nl
 rw[←e,uP];rfl
@[simp] def xy (kd:List D->Option (List (List At)))(ok:List (List At)->Bool)(f:FE)(kf:Env->D->Option D):FE:=λY=>(f Y).bind λx=>match x.1 with
 |.lst ds=>(jH (kf Y) ds).bind λiu=>(kd iu).bind λks=>if ks.length<64/\eZ ks=true/\ok ks=true/\(ks.map cX).Nodup then some (.lst (jI ks ds),true)else none
 |_=>none
@[simp] abbrev rg:FE->(Env->D->Option D)->FE:=xy dU fY
section
variable {X:Cx}{e ke:Expr}{p pos kp:Pos}
theorem G5 {kd:List D->Option (List (List At))}{ok:List (List At)->Bool}(M:KK X X.A.in1.in1 kd ok){f:FE}{kf:Env->D->Option D}(hm:X.mg "sorted" = none)(he:JE X e f)(hk:JK X X.A.in1.in1 ke kf)(hg:Gl X "sorted":=by rfl)
  (V5:starEach [e] X.env=[(false,eval e X.env)]:=by rfl) (V6:backTo pos (starEach [e] X.env)=(false,eval e X.env)::backTo pos (starEach [] X.env):=by rfl) (nn:(backTo pos (starEach [e] X.env)).any (·.1)=false:=by rfl)
  (lG:(backToKw pos (keywordEach [⟨some "key",ke,kp⟩] X.env)).all (·.1.isSome)=true:=by rfl) (V7:(backToKw pos (keywordEach [⟨some "key",ke,kp⟩] X.env)).any (·.1.isNone)=false:=by rfl)
  (V8:(backToKw pos (keywordEach [⟨some "key",ke,kp⟩] X.env)).filterMap (·.1)=[("key" : Str)]:=by rfl):
  JE X (.Call (.Name "sorted" p) [e] [⟨some "key",ke,kp⟩] pos) (xy kd ok f kf):=by
 intro af s U H Q I h;obtain⟨B,Y,d,b,sB,rep,ee,q⟩:=h;obtain⟨⟨xd,xb⟩,ex,ee⟩:=oX ee;cases xd<;>try (cases ee;done)
 rename_i ds;obtain⟨iu,em,ee⟩:=oX ee;obtain⟨ks,ek,ee⟩:=oX ee;split at ee
 ·rename_i hh;obtain⟨EY,hc,hf,nd⟩:=hh;cases ee
  refine wpAny_Call_Name_kw (mF I hg hm (u:=.builtin "sorted") rfl ?_);refine callWith_kw (cL ((jm he kR V5) pos af s U H (λvs H1=>∃v N,vs=[v]/\Ext B N H H1/\Is X.K N v (.lst ds)) I ⟨B,Y,_,_,sB,rep,ex,λv H1 N x1 i1 _=>⟨v,N,rfl,x1,i1⟩⟩) λus s1 hA=>?_) V6 nn lG V7;obtain⟨ZZ,H1,I1,r1,v,N,rfl,x1,i1⟩:=hA;obtain⟨u,rfl,ru⟩:=iH r1;refine kws_cons (hk af s1 U H1 N Y _ _ I1 x1.nh (rep.mono x1.bn) λqa H2 s2 I2 m2 IC=>kws_nil ?_);rw[V8];show wpAny _ _ (call (.builtin "sorted") [u] [(("key" : Str),.ref qa)]) _ _ _;cases i1
  rename_i l vs hq il;cases ru
  have sN:bg N H2:=x1.nh.trans m2;obtain⟨its,rv,pl,hz⟩:=I2.list (sN.seq hq);have D7:vs.length=its.length:=rv.length;have PV:ds.length=vs.length:=il.length.symm;have ZS:iu.length=ds.length:=lm em;have Xz:ks.length=iu.length:=M.len ek;have V9:its.length<64:=by omega
  refine call_function_entry_kw kind_sorted plain_sorted entry_sorted (ksk_s1 _ _) ?_;unfold Builtin.«sorted»;refine wX (m:=checkCount "sorted" 1 1 _) (wY (wX (collect_list pl.isList (wX (wpAny_newList ?_ (by rw[sizeLine_eq];omega))) (by rw[sizeLine_eq];omega))));let h1:Heap:=(s2.heap.push (seqObj "list" #[] 0)).update s2.heap.objs.size (Obj.mapSeq (· ++ its.toArray));have hsz:h1.objs.size=s2.heap.objs.size+1:=by show(Heap.update _ _ _).objs.size=_;rw[Heap.size_update,size_push']
  have Ss:∀b o,s2.heap.get? b=some o->h1.get? b=some o:=λb o q=>(Heap.get?_update_ne _ _ _ _ (vS (vX q))).trans (vZ _ q);have I3:Inv X ((h1.objs.size,seqObj "list" its.toArray 0)::af) U H2 { s2 with heap:=h1.push (seqObj "list" its.toArray 0) } :=
   qy (t':=s2.toks) I2 (λb u q=>vZ _ (Ss b u q)) (by rw[hsz];exact Nat.le_succ _) (vY _ rfl) dH
  have p3:=I3.pin (h1.objs.size,seqObj "list" its.toArray 0) (mY _ mX);show wpAny (model X.prog X.w) X.A.in1 (holding [.ref h1.objs.size] (call (.builtin "list.sort") [.ref h1.objs.size] [(("key" : Str),.ref qa)])>>=_) _ _ { s2 with heap:=h1.push (seqObj "list" its.toArray 0) };refine wX (wpAny_holding (wpAny_call_entry_kw slot_list_sort ⟨_,p3.1,rfl⟩ entry_list_sort ?_ (ksk_l1 _ _)));show wpAny (model X.prog X.w) X.A.in1.in1 (Builtin.«list.sort» ⟨[.ref h1.objs.size],[(Str.ofString "key",.ref qa)]⟩) _ _ _;rw[ksk_t1];refine Bq I3 (vR I2.sz (by rw[hsz];exact Nat.le_succ _)) (λq hq=>by rw[hsz];exact vS (Nat.lt_succ_of_lt (vX (I2.pin q hq).1))) IC rv il sN M em ek hc hf V9 λpm s' H' N' ap up J x3 hn=>⟨_,rfl,wY ⟨_,rfl,?_⟩⟩;have nn:its.length=ds.length:=by omega
  rw[nn]at ap up;have er:=Br (by omega) hc (zp nd) ap up;have Lj:∀i∈pm.toList,i<ds.length:=λi hi=>List.mem_range.mp (ap.perm.mem_iff.mp hi);have ip:=zm (il.mono x3.bn) pm.toList Lj;rw[er]at ip;have x4:Ext B N' H H':=(x1.trans (.grow x1.nh m2)).trans x3;have hN:N' h1.objs.size=none:=x3.nh.free hn;have x5:=x4.trans (Ext.laid (o:=.lst (pm.toList.map λi=>vs.getD i .non)) x3.nh hn);exact⟨.ref h1.objs.size,_,J,rfl,q _ _ _ x5 (.lst (jl.of aJ) (ip.mono (Ext.laid (o:=.lst (pm.toList.map λi=>vs.getD i .non)) x3.nh hn).bn)) λ_=>⟨_,_,_,rfl,rfl,x4.hh.free hn,aJ,ip.mono (Ext.laid (o:=.lst (pm.toList.map λi=>vs.getD i .non)) x3.nh hn).bn⟩⟩
 ·cases ee
end
noncomputable def Y0 {f:String->CmpOp->Builtin}(_:f "__lt__" .Lt=Builtin.«tuple.__lt__»):=f
noncomputable def Wy:String->CmpOp->Builtin:=Y0 rfl
section
variable {prog:Program}{w:World}{A:Around}{E:Value->Shared->Prop}{s:Shared}{op:CmpOp}
theorem ia.type (h:ia s.heap xs v):s.TypeIs v "tuple":=by
 obtain⟨a,o,its,n,rfl,ho,hc,_⟩:=h;exact⟨o,ho,hc⟩
inductive GeW (prog:Program)(w:World)(A:Around)(s:Shared)(op:CmpOp)(j9 r:Bool):List (Value×Value)->Prop
 |nil (h:j9=r):GeW prog w A s op j9 r []
 |eq {u v:Value}{l:List (Value×Value)}(h:SeqAt.EqAt A s u v true) (t:GeW prog w A s op j9 r l):GeW prog w A s op j9 r ((u,v)::l)
 |ne {u v:Value}{l:List (Value×Value)}(h:SeqAt.EqAt A s u v false) (t:∀(Q E:Value->Shared->Prop),Q (.bool r) s->wpAny (model prog w) A (richCompare op u v) Q E s):GeW prog w A s op j9 r ((u,v)::l)
theorem Kb {nm:String}(hTb:s.TypeIs (.ref b) "tuple")(Vc:s.heap.get? a=some oa)(hda:oa.data=.seq its na)(VA:s.heap.get? b=some ob)(tT:ob.data=.seq hW nb)
  (W:GeW prog w A s op j9 r (its.toList.zip hW.toList)) (hz:Builtin.Tuple.tupleCompareSizes op its.size hW.size=.bool j9) (Su:op=.Lt∨op=.Gt∨op=.GtE) (q:P (.done (.ret (.bool r))) s):wpAny (model prog w) A (Wy nm op ⟨[.ref a,.ref b],[]⟩) P E s:=by
 show wpAny _ _ (isInstance (.ref _) (.type "tuple")>>=_) _ _ s;refine wX (wpAny_isInstance hTb isSubtype_tuple_tuple ?_);simp only[Bool.not_true,uV,if_false];refine wX (wpAny_tupleItemsOf Vc hda ?_);refine wX (wpAny_tupleItemsOf VA tT ?_);refine wX ?_;refine wpAny_forIn_list _ (λaB z s'=>z.1=none/\s'=s/\GeW prog w A s op j9 r aB) _ ?_ ?_ _ _ ⟨rfl,rfl,W⟩
 ·rintro⟨u,v⟩ aB z s' ⟨hz,rfl,W⟩;cases W with
  |eq h t=>
   refine wX (h _ _ _ _ ?_);simp only[Bool.not_true,uV,if_false];exact wY ⟨rfl,rfl,t⟩
  |ne h t=>
   refine wX (h _ _ _ _ ?_);simp only[Bool.not_false,if_true];have t:=t (λv Fg=>v=.bool r/\Fg=s') E ⟨rfl,rfl⟩;rcases Su with rfl|rfl|rfl<;>exact wX (wpAny_rule (wX (wpAny_mono t (λv Fg hv=>by obtain⟨rfl,rfl⟩:=hv;exact wX (wY (wY (wY q)))) λ_ _ z=>z)))
 ·rintro⟨z1,z2⟩ s' ⟨X5,rfl,W⟩;simp only at X5;subst X5;refine wY ?_;cases W with
  |nil h=>
   show P (.done (.ret (Builtin.Tuple.tupleCompareSizes op its.size hW.size))) s';rw[hz,h];exact q
structure CmR (prog:Program)(w:World)(A:Around)(s:Shared)(op:CmpOp)(R:List At->List At->Bool->Prop)(fl:Nat->Nat->Bool):Prop where
 ei:∀ {a xs ys r},R (.i a::xs) (.i a::ys) r->R xs ys r
 es:∀ {a xs ys r},R (.s a::xs) (.s a::ys) r->R xs ys r
 ni:∀ {a c xs ys r},a≠c->R (.i a::xs) (.i c::ys) r->∀t u (Q E:Value->Shared->Prop),Q (.bool r) s->wpAny (model prog w) A (richCompare op (.int a t) (.int c u)) Q E s
 ns:∀ {a c xs ys r},a≠c->R (.s a::xs) (.s c::ys) r->∀t u (Q E:Value->Shared->Prop),Q (.bool r) s->wpAny (model prog w) A (richCompare op (.str a t) (.str c u)) Q E s
 mx:∀ {a c xs ys r},¬R (.i a::xs) (.s c::ys) r/\¬R (.s c::xs) (.i a::ys) r
 en:∀ {xs r},(R [] xs r->fl 0 xs.length=r)/\(R xs [] r->fl xs.length 0=r)
 fs:∀ {m n},fl (m+1) (n+1)=fl m n
theorem rh (C:CmR prog w A s op R fl):∀(xs ys:List At)(its hW:List Value),Paired A7 xs its->Paired A7 ys hW->R xs ys r->GeW prog w A s op (fl xs.length ys.length) r (its.zip hW)
 |[],_,_,_,.nil,_,h=>.nil (C.en.1 h)
 |_::_,[],_,_,.cons _ _,.nil,h=>.nil (C.en.2 h)
 |.i _::_,.s _::_,_,_,_,_,h=>absurd h C.mx.1
 |.s _::_,.i _::_,_,_,_,_,h=>absurd h C.mx.2
 |.i a::xs,.i c::ys,_,_,.cons r1 Ia,.cons r2 r2',h=>by
  obtain⟨t,rfl⟩:=r1;obtain⟨u,rfl⟩:=r2;have he:=SeqAt.EqAt.int_int (A:=A) (s:=s) a t c u;rw[List.zip_cons_cons,vE,vE,C.fs];by_cases e:a=c
  ·subst e;rw[show(a == a)=true by simp]at he;exact .eq he (rh C xs ys _ _ Ia r2' (C.ei h))
  ·rw[show(a == c)=false by simp[e]]at he;exact .ne he (C.ni e h t u)
 |.s a::xs,.s c::ys,_,_,.cons r1 Ia,.cons r2 r2',h=>by
  obtain⟨t,rfl⟩:=r1;obtain⟨u,rfl⟩:=r2;have he:=SeqAt.EqAt.str_str (A:=A) (s:=s) a t c u;rw[List.zip_cons_cons,vE,vE,C.fs];by_cases e:a=c
  ·subst e;rw[show(a == a)=true by simp]at he;exact .eq he (rh C xs ys _ _ Ia r2' (C.es h))
  ·rw[show(a == c)=false by simp[e]]at he;exact .ne he (C.ns e h t u)
theorem Rt:CmR prog w A s .Lt (λxs ys r=>bd xs ys=some r) (λm n=>decide (m<n)) where
 ei h:=by rwa [bd,if_pos rfl]at h
 es h:=by rwa [bd,if_pos rfl]at h
 ni e h _ _ _ _ q:=by rw[bd,if_neg e]at h;cases h;exact PyProof.Rows.lt_int q
 ns e h _ _ _ _ q:=by rw[bd,if_neg e]at h;cases h;exact PySem.P.lt_str q
 mx:=by simp[bd]
 en:=λ{xs}=>by cases xs<;>simp[bd]
 fs:=by simp
theorem Ru:CmR prog w A s .Gt (λxs ys r=>bd ys xs=some r) (λm n=>decide (n<m)) where
 ei h:=by rwa [bd,if_pos rfl]at h
 es h:=by rwa [bd,if_pos rfl]at h
 ni e h _ _ _ _ q:=by rw[bd,if_neg (Ne.symm e)]at h;cases h;exact PyProof.Rows.gt_int q
 ns e h _ _ _ _ q:=by rw[bd,if_neg (Ne.symm e)]at h;cases h;exact PySem.P.gt_str q
 mx:=by simp[bd]
 en:=λ{xs}=>by cases xs<;>simp[bd]
 fs:=by simp
theorem G6 (hx:ia s.heap xs (.ref a)):∃o its n,s.heap.get? a=some o/\o.data=.seq its n/\Paired A7 xs its.toList/\xs.length=its.size:=by
 obtain⟨a',o,its,n,e,ho,hc,hd,p⟩:=hx;cases e
 exact⟨o,its,n,ho,hd,p,by rw[←vG];exact g7 p⟩
theorem G7 {nm:String}(C:CmR prog w A s op R fl)(hz:∀m n,Builtin.Tuple.tupleCompareSizes op m n=.bool (fl m n))(Su:op=.Lt∨op=.Gt∨op=.GtE)(hx:ia s.heap xs (.ref a))(hy:ia s.heap ys (.ref b))(h:R xs ys r)(q:P (.done (.ret (.bool r))) s):wpAny (model prog w) A (Wy nm op ⟨[.ref a,.ref b],[]⟩) P E s:=by
 have hb:=hy.type;obtain⟨_,_,_,ho,hd,p,l1⟩:=G6 hx;obtain⟨_,_,_,tQ,BL,p',l2⟩:=G6 hy;exact Kb hb ho hd tQ BL (rh C _ _ _ _ p p' h) (by rw[l1,l2];exact hz _ _) Su q
theorem G8 (hx:ia s.heap xs x)(hy:ia s.heap ys y)(h:bd xs ys=some r)(hu:A.units<cLine)(q:Q (.bool r) s):wpAny (model prog w) A (richCompare .Lt x y) Q E s:=by
 have tx:=hx.type;have ty:=hy.type;obtain⟨a,_,_,_,rfl,_⟩:=id hx;obtain⟨b,_,_,_,rfl,_⟩:=id hy;exact wpAny_richCompare_same_room (op:=.Lt) tx ty PySem.F.slot_tuple_lt (wpAny_call_entry PySem.F.slot_tuple_lt tx PySem.F.entry_tuple_lt (G7 Rt (λ_ _=>rfl) (.inl rfl) hx hy h ⟨_,rfl,(λe=>nomatch e),q⟩) (PySem.F.args_tuple_lt_2 _ _)) hu
theorem Rv (hx:ia s.heap xs x)(hy:ia s.heap ys y)(h:bd ys xs=some r)(hu:A.units<cLine)(q:Q (.bool r) s):wpAny (model prog w) A (richCompare .Gt x y) Q E s:=by
 have tx:=hx.type;have ty:=hy.type;obtain⟨a,_,_,_,rfl,_⟩:=id hx;obtain⟨b,_,_,_,rfl,_⟩:=id hy;exact wpAny_richCompare_same_room (op:=.Gt) tx ty PySem.F.slot_tuple_gt (wpAny_call_entry PySem.F.slot_tuple_gt tx PySem.F.entry_tuple_gt (G7 Ru (λ_ _=>rfl) (.inr (.inl rfl)) hx hy h ⟨_,rfl,(λe=>nomatch e),q⟩) (PySem.F.args_tuple_gt_2 _ _)) hu
end
def nL:List At×D->List (List At×D)->D
 |b,[]=>b.2
 |b,x::r=>if bd b.1 x.1=some true then nL x r else nL b r
def mr:List At×D->List (List At×D)->D
 |b,[]=>b.2
 |b,x::r=>if bd x.1 b.1=some true then mr x r else mr b r
noncomputable def Y1 {f:String->CmpOp->Builtin}(_:f "max" .Gt=Builtin.«max.loop»):=f
noncomputable def Y2:String->CmpOp->Builtin:=Y1 rfl
noncomputable def Y3 {f:String->Builtin}(_:f "max" = Builtin.«max»):=f
noncomputable def Y4:String->Builtin:=Y3 rfl
structure MM (nm lp:String)(ns:Str)(op:CmpOp)(lt:List At->List At->Option Bool)(go:List At×D->List (List At×D)->D):Prop where
 hn:(toString nm++toString ".loop" : String)=lp
 en:entryFor table lp=some (Y2 nm op)
 pl:plainId lp=true
 k2:builtinKind nm=none
 p2:plainId nm=true
 e2:entryFor table nm=some (Y4 nm)
 ka:∀a v:Value,argsOk nm ⟨[a],[(Str.ofString "key",v)]⟩
 bt:bootBuiltins ns=some (.builtin nm)
 n1:ns ≠ "__name__"
 n2:(ns == ("__debug__" : Str))=false
 g0:∀b,go b []=b.2
 g1:∀b x r,go b (x::r)=if lt b.1 x.1=some true then go x r else go b r
 cg:∀ {ks:List (List At)},eZ ks=true->∀ {a b},a∈ks->b∈ks->∃r,lt a b=some r
 rc:∀ {prog:Program}{w:World}{A:Around}{E:Value->Shared->Prop}{s:Shared}{xs ys:List At}{x y:Value}{r:Bool}{Q:Value->Shared->Prop},ia s.heap xs x->ia s.heap ys y->lt ys xs=some r->A.units<cLine->Q (.bool r) s->wpAny (model prog w) A (richCompare op x y) Q E s
theorem Wz:MM "max" "max.loop" "max" .Gt bd nL :=
 ⟨by decide,PySem.F.entry_max_loop,PySem.F.plain_max_loop,PySem.F.kind_max,PySem.F.plain_max,PySem.F.entry_max,λ_ _=>by unfold argsOk;kernel_rfl,rfl,by decide,by decide,λ_=>rfl,λ_ _ _=>rfl,λh _ _ a b=>⟨_,iB h a b⟩,Rv⟩
theorem U2:MM "min" "min.loop" "min" .Lt (λa b=>bd b a) mr :=
 ⟨by decide,PySem.F.entry_min_loop,PySem.F.plain_min_loop,PySem.F.kind_min,PySem.F.plain_min,PySem.F.entry_min,λ_ _=>by unfold argsOk;kernel_rfl,rfl,by decide,by decide,λ_=>rfl,λ_ _ _=>rfl,λh _ _ a b=>⟨_,iB h b a⟩,G8⟩
section
variable {X:Cx}{af:List (Addr×Obj)}{U:St}
theorem Bt (J:Inv X ((a1,o1)::(a2,o2)::af) U H' s'):Inv X ((a2,o2)::(a1,o1)::af) U H' s' :=
 J.pins_of λq hq=>J.pin q (by
  rcases vP hq with rfl|hq
  ·exact mY _ (mZ _ mX)
  ·rcases vP hq with rfl|hq
   ·exact mY _ mX
   ·exact mY _ (mZ _ (mZ _ hq)))
theorem rj (hp:∀q∈X.pn++af,q.1≠a)(h:S≠a):∀q∈X.pn++((S,o)::af),q.1≠a:=λq hq=>by
 rcases List.mem_append.mp hq with hq|hq
 ·exact hp q (List.mem_append_left _ hq)
 ·rcases vP hq with rfl|hq
  ·exact h
  ·exact hp q (mY _ hq)
theorem lN (I:Inv X af U H s)(r:bf v u)(i:Is X.K H v d)(e:zj d=some k):ia s.heap k u:=by
 have:=qx I (ys:=[v]) (ds:=[d]) (ks:=[k]) (its:=[u]) (.cons r .nil) (.cons i .nil) (by simp only[dU,e];rfl);cases this;assumption
inductive MK (X:Cx)(af:List (Addr×Obj))(U:St)(S It l:Addr)(o:Obj)(j:Nat)(N H:Hp)(y:List At×D)(u ku:Value)(s:Shared):Prop
 |mk (H2 N2:Hp) (v kv:V) (kd:D) (oI:Obj) (J:Inv X ((S,o)::(It,oI)::af) U H2 s) (EX:s.heap.IsListIter It l (j+1)) (x:Ext N N2 H H2) (ru:bf v u) (iv:Is X.K N2 v y.2) (rk:bf kv ku) (ik:Is X.K N2 kv kd) (ek:zj kd=some y.1)
theorem G9 {E:Value->Shared->Prop}{It:Addr}(hh:X.A.handled=none)(IC:C0 X X.A.in1 U (.ref qa) B H1 kf)(hq:jl X.K B l vs)(iv:IsL X.K B vs ds)(em:jH kf ds=some iu)(ek:dU iu=some ks)(I0:X.s₀.heap.objs.size<=It)(Pe:∀q∈X.pn++((S,o)::af),q.1≠It)
  (Pf:l≠It) (hz:(ks.zip ds)[j]? = some y) (I:Inv X ((S,o)::(It,oI)::af) U H s) (EX:s.heap.IsListIter It l j) (x1:Ext B N H1 H):
  wpAny (model X.prog X.w) X.A.in1 (pyNext (.ref It)) (λr s1=>∃u,r=some u/\wpAny (model X.prog X.w) X.A.in1 (call (.ref qa) [u]) (MK X af U S It l o j N H y u) (λ_ _=>False) s1) E s:=by
 obtain⟨its,rv,pl,_⟩:=I.list ((x1.bn.trans x1.nh).seq hq);obtain⟨hk,hd⟩:=List.getElem?_zip_eq_some.mp hz;obtain⟨v,hv,M4⟩:=iv.get hd;obtain⟨kd,T4,V2⟩:=rf em hd;obtain⟨u,hu,ru⟩:=rv.get hv;have Qb:zj kd=some y.1:=by
  have:=uH ek (i:=j) (vV T4).1;rw[vF,T4,vF,hk]at this;exact this
 refine(Walks.list (prog:=X.prog) (w:=X.w) (A:=X.A.in1) hh It l Pf its.toArray).item j _ _ _ (by simpa using(vV hu).1) ⟨EX,pl.isList⟩ λu' h' IB hP hst' gg=>?_;have Lk:its[j]? = some u':=by simpa using hP
 rw[hu]at Lk;cases Lk;obtain⟨M5,VB,KR,X6⟩:=id hst'.1;exact⟨u,rfl,cL (IC _ _ H N v u y.2 kd (Bt (iP (t':=IB) (Bt I) I0 Pe (λb o n e=>gg b o (by simpa using n) e) VB (λv z=>by rw[X6]at z;cases z))) x1.hh x1.bn x1.nh (M4.mono x1.bn) ru V2) λku s2 ⟨kv,H2,J4,rk,N2,x2,ik⟩=>
  ⟨H2,N2,v,kv,kd,M5,J4,⟨M5,(J4.pin (It,M5) (mY _ (mZ _ mX))).1,KR,X6⟩,x2,ru,M4.mono (x1.bn.trans x2.bn),rk,ik,Qb⟩⟩
theorem Kc {nm lp:String}{ns:Str}{op:CmpOp}{lt:List At->List At->Option Bool}{go:List At×D->List (List At×D)->D}(M:MM nm lp ns op lt go){qv:Value}{l S It:Addr}{vs:List V}{ds iu:List D}{ks:List (List At)}{B H1:Hp}{kf:D->Option D}{d0:D}{R:Result->Shared->Prop}(hh:X.A.handled=none)(hu:X.A.in1.units<cLine)(IC:C0 X X.A.in1 U qv B H1 kf)(hqv:∃a,qv=.ref a)(hq:jl X.K B l vs)(iv:IsL X.K B vs ds)
  (em:jH kf ds=some iu) (ek:dU iu=some ks) (hc:eZ ks=true) (S0:X.s₀.heap.objs.size<=S) (I0:X.s₀.heap.objs.size<=It) (Sv:∀q∈X.pn++af,q.1≠S) (Pe:∀q∈X.pn++af,q.1≠It) (Fi:S≠It) (T5:S≠l) (Pf:l≠It)
  (hR:∀(s':Shared)(H' N:Hp)(v:V)(u:Value),Inv X af U H' s'->Ext B N H1 H'->bf v u->Is X.K N v d0->R (.ok (.ret u)) s'):
  ∀(r j:Nat)(s:Shared)(H N:Hp)(ub Fb:Value)(vb Sw:V)(db Sx:D)(kb:List At)(c:Nat)(oI:Obj),vs.length - j=r->j<=vs.length->Inv X ((S,seqObj "list" #[ub,Fb] c)::(It,oI)::af) U H s->s.heap.IsListIter It l j->Ext B N H1 H ->
   bf vb ub->Is X.K N vb db->bf Sw Fb->Is X.K N Sw Sx->zj Sx=some kb->kb∈ks->go (kb,db) ((ks.zip ds).drop j)=d0 ->
   codeAny (model X.prog X.w) X.A (.builtin lp ⟨[.ref It,qv,.ref S],[]⟩) R s:=by
 obtain⟨qa,rfl⟩:=hqv;intro r;induction r with
 |zero=>
  intro j s H N ub Fb vb Sw db Sx kb c oI hr hj I EX x1 r1 i1 r2 i2 ekb mk hd;have pS:=I.pin (S,seqObj "list" #[ub,Fb] c) (mY _ mX);have sB:bg B H:=x1.bn.trans x1.nh;obtain⟨its,rv,pl,_⟩:=I.list (sB.seq hq);have hl:=pl.isList;have W:=Walks.list (prog:=X.prog) (w:=X.w) (A:=X.A.in1) hh It l Pf its.toArray;have hsz:its.toArray.size=its.length:=vH ..;have D7:vs.length=its.length:=rv.length;have PV:ds.length=its.length:=by rw[←iv.length];exact rv.length
  have X7:ks.length=ds.length:=by rw[lM ek,lm em]
  have BL:db=d0:=by
   rw[List.drop_of_length_le (by rw[List.length_zip];omega)]at hd;rw[M.g0]at hd;exact hd
  subst BL;refine codeAny_builtin M.en ?_;rw[Around.under_plainId M.pl _];show wpAny _ X.A.in1 (seqItems? (.ref S)>>=_) _ _ _;refine wX (wpAny_seqItems pS.1 rfl ?_);show wpAny _ X.A.in1 (tryCatch (pyNext (.ref It)) _>>=_) _ _ _;refine wX (wpAny_tryCatch (W.done _ _ _ ⟨by rw[hsz,show its.length=j by omega];exact EX,hl⟩ λh' IB gg=>?_));have J1:Inv X ((It,oI)::(S,seqObj "list" #[ub,Fb] c)::af) U H s:=Bt I;have VC:∀q∈X.pn++((S,seqObj "list" #[ub,Fb] c)::af),q.1≠It:=rj Pe Fi;have J2:Inv X ((S,seqObj "list" #[ub,Fb] c)::af) U H { s with heap:=h',toks:=IB } :=
   (lh J1).turned (t':=IB) (λb o n e=>gg b o (by simpa using n) e) (J1.pin (It,oI) (mY _ mX)).2.1 (J1.pin (It,oI) (mY _ mX)).2.2.1 (.inr I0) (oS J1) VC
  have X8:=J2.pin (S,seqObj "list" #[ub,Fb] c) (mY _ mX);obtain⟨c2,D4⟩:∃c2,(h'.update S (Obj.mapSeq λ_=>(#[]:Array Value))).get? S=some (seqObj "list" #[] c2):=⟨_,get?_update_seq X8.1 λ_=>#[]⟩;have u2:=vW h' S (Obj.mapSeq λ_=>(#[]:Array Value));show wpAny _ X.A.in1 (updateSeq S (λ_=>#[])>>=_) _ _ _;refine wX ?_;refine wpAny_updateSeq X8.1 rfl (wX (wpAny_letGo (wY ?_)));exact hR _ H N vb ub (lh (iP (t':=IB) J2 S0 Sv (λb o n e=>(u2.2 b n).trans e) D4 dH)) x1 r1 i1
 |succ r ih=>
  intro j s H N ub Fb vb Sw db Sx kb c oI hr hj I EX x1 r1 i1 r2 i2 ekb mk hd;have gs:j<(ks.zip ds).length:=by rw[List.length_zip,lM ek,lm em,←iv.length];omega
  have pS:=I.pin (S,seqObj "list" #[ub,Fb] c) (mY _ mX);have hz:=vU gs;rw[List.drop_eq_getElem_cons gs,M.g1]at hd;generalize (ks.zip ds)[j]=y at hz hd;have hm:y.1∈ks:=vL (List.getElem?_zip_eq_some.mp hz).1;obtain⟨r,VD⟩:=M.cg hc mk hm;refine codeAny_builtin M.en ?_;rw[Around.under_plainId M.pl _];show wpAny _ X.A.in1 (seqItems? (.ref S)>>=_) _ _ _;refine wX (wpAny_seqItems pS.1 rfl ?_);show wpAny _ X.A.in1 (tryCatch (pyNext (.ref It)) _>>=_) _ _ _;refine wX (wpAny_tryCatch (cL (G9 hh IC hq iv em ek I0 (rj Pe Fi) Pf hz I EX x1) λ_ s1 ⟨u,e,h1⟩=>?_));subst e;show wpAny _ X.A.in1 (tryCatch (holding [u] (call (.ref qa) [u])) _>>=_) _ _ _;refine wX (wpAny_tryCatch (wpAny_holding (wpAny_mono h1 (λku s2 ⟨H2,N2,v,kv,kd,M5,J4,Sy,x2,ru,M4,rk,ik,Qb⟩=>?_) λ_ _ z=>z.elim)));have t1:=lN J4 rk (ik.mono x2.nh) Qb;have t2:=lN J4 r2 (i2.mono (x2.bn.trans x2.nh)) ekb;show wpAny _ X.A.in1 (tryCatch (holding [u,ku] (richCompare op ku Fb>>=_)) _>>=_) _ _ _;refine wX (wpAny_tryCatch (wpAny_holding (wX (M.rc t1 t2 VD hu ?_))));refine wX (wpAny_holding (wpAny_truthy_bool ?_));refine wX (wpAny_letGo (wY ?_));cases r with
  |true=>
   rw[if_pos VD]at hd;have u2:=vW s2.heap S (Obj.mapSeq λ_=>#[u,ku]);simp only[if_true];have Sz:=J4.pin (S,seqObj "list" #[ub,Fb] c) (mY _ mX);refine wX (wpAny_updateSeq Sz.1 rfl (wX (wpAny_letGo ?_)));rw[M.hn];obtain⟨o,g1,g2⟩:=Sy;exact wY ⟨plainId_quiet M.pl _,ih (j+1) _ H2 N2 u ku v kv y.2 kd y.1 _ M5 (by omega) (by omega) (iP (t':=s2.toks) J4 S0 (rj Sv Fi.symm) (λb o n e=>(u2.2 b n).trans e) (get?_update_seq Sz.1 λ_=>#[u,ku]) dH) ⟨o,(u2.2 It Fi.symm).trans g1,g2⟩ (x1.trans x2) ru M4 rk ik Qb hm hd⟩
  |false=>
   rw[if_neg (by rw[VD];simp)]at hd;simp only[uV,if_false];refine wX (wpAny_letGo ?_);rw[M.hn];exact wY ⟨plainId_quiet M.pl _,ih (j+1) _ H2 N2 ub Fb vb Sw db Sx kb c M5 (by omega) (by omega) J4 Sy (x1.trans x2) r1 (i1.mono x2.bn) r2 (i2.mono x2.bn) ekb mk hd⟩
end
@[simp] def Ol (go:List At×D->List (List At×D)->D)(f:FE)(kf:Env->D->Option D):FE:=λY=>(f Y).bind λx=>match x.1 with
 |.lst ds=>(jH (kf Y) ds).bind λiu=>(dU iu).bind λks=>if eZ ks=true then match ks.zip ds with
  |[]=>none
  |y::r=>some (go y r,false)
  else none
 |_=>none
@[simp] def uK:=Ol nL
@[simp] def uL:=Ol mr
section
variable {X:Cx}{e ke:Expr}{p pos kp:Pos}
theorem zq {nm lp:String}{ns:Str}{op:CmpOp}{lt:List At->List At->Option Bool}{go:List At×D->List (List At×D)->D}(M:MM nm lp ns op lt go){f:FE}{kf:Env->D->Option D}{k:Nat}(hm:X.mg ns=none)(he:JE X e f)(hk:JK X X.A.in1 ke kf)(hr:fD k X.A)(hg:Gl X ns:=by rfl)
  (V5:starEach [e] X.env=[(false,eval e X.env)]:=by rfl) (V6:backTo pos (starEach [e] X.env)=(false,eval e X.env)::backTo pos (starEach [] X.env):=by rfl) (nn:(backTo pos (starEach [e] X.env)).any (·.1)=false:=by rfl)
  (lG:(backToKw pos (keywordEach [⟨some "key",ke,kp⟩] X.env)).all (·.1.isSome)=true:=by rfl) (V7:(backToKw pos (keywordEach [⟨some "key",ke,kp⟩] X.env)).any (·.1.isNone)=false:=by rfl)
  (V8:(backToKw pos (keywordEach [⟨some "key",ke,kp⟩] X.env)).filterMap (·.1)=[("key" : Str)]:=by rfl):
  JE X (.Call (.Name ns p) [e] [⟨some "key",ke,kp⟩] pos) (Ol go f kf):=by
 intro af s U H Q I h;obtain⟨B,Y,d,b,sB,rep,ee,q⟩:=h;obtain⟨⟨xd,xb⟩,ex,ee⟩:=oX ee;cases xd<;>try (cases ee;done)
 rename_i ds;obtain⟨iu,em,ee⟩:=oX ee;obtain⟨ks,ek,ee⟩:=oX ee;split at ee
 ·rename_i hc;split at ee
  ·cases ee
  ·rename_i y aB ez;cases ee
   refine wpAny_Call_Name_kw (mF I hg hm M.bt ?_ M.n1 M.n2);refine callWith_kw (cL ((jm he kR V5) pos af s U H (λvs H1=>∃v N,vs=[v]/\Ext B N H H1/\Is X.K N v (.lst ds)) I ⟨B,Y,_,_,sB,rep,ex,λv H1 N x1 i1 _=>⟨v,N,rfl,x1,i1⟩⟩) λus s1 hA=>?_) V6 nn lG V7;obtain⟨ZZ,H1,I1,r1,v,N,rfl,x1,i1⟩:=hA;obtain⟨u,rfl,ru⟩:=iH r1;refine kws_cons (hk af s1 U H1 N Y _ _ I1 x1.nh (rep.mono x1.bn) λqa H2 s2 I2 m2 IC=>kws_nil ?_);rw[V8];show wpAny _ _ (call (.builtin nm) [u] [(("key" : Str),.ref qa)]) _ _ _;cases i1
   rename_i l vs hq il;cases ru
   have sN:bg N H2:=x1.nh.trans m2;obtain⟨its,rv,pl,hz⟩:=I2.list (sN.seq hq);have Qc:l<s2.heap.objs.size:=by
    obtain⟨ol,Ii,_⟩:=pl.isList;exact vX Ii
   have z0:(ks.zip ds)[0]? = some y:=by rw[ez];rfl
   have hkz:=vL (List.getElem?_zip_eq_some.mp z0).1;refine kmk_tree M.k2 M.p2 M.e2 (M.ka _ _) ?_;show wpAny _ X.A.in1 (Builtin.Builtins.bindParams nm ["key","default"] 0 ⟨[],[(Str.ofString "key",.ref qa)]⟩>>=_) _ _ s2;refine wX (wpAny_of_eq (show Builtin.Builtins.bindParams nm ["key","default"] 0 ⟨[],[(Str.ofString "key",.ref qa)]⟩=pure [some (.ref qa),none]from rfl) ?_);refine wX (wY ?_);refine wX (wpAny_pyIter_list pl.isList ?_);refine wX (wpAny_newList ?_ (uN _));rw[M.hn];let It:Addr:=s2.heap.objs.size;let oI:Obj:={ cls:=.type "list_iterator",data:=.fields #[.ref l,.int 0 0] };let S:Addr:=(s2.heap.push oI).objs.size;have hS:S=s2.heap.objs.size+1:=size_push' ..;have Fi:S≠It:=by rw[hS];exact Nat.ne_of_gt (Nat.lt_succ_self _)
   have J1:Inv X ((It,oI)::af) U H2 { s2 with heap:=s2.heap.push oI }:=qy (t':=s2.toks) I2 (λb u q=>vZ _ q) (vT _) (vY _ rfl) (λv z=>by cases z);have J2:Inv X ((S,seqObj "list" #[] 0)::(It,oI)::af) U H2 { s2 with heap:=(s2.heap.push oI).push (seqObj "list" #[] 0) }:=qy (s:={ s2 with heap:=s2.heap.push oI }) (t':=s2.toks) J1 (λb u q=>vZ _ q) (vT _) (vY _ rfl) dH;have I0:X.s₀.heap.objs.size<=It:=I2.sz;have S0:X.s₀.heap.objs.size<=S:=by rw[hS];exact Nat.le_succ_of_le I2.sz
   have Pe:∀q∈X.pn++af,q.1≠It:=λq hq=>vS (vX (I2.pin q hq).1);have Sv:∀q∈X.pn++af,q.1≠S:=λq hq=>by rw[hS];exact vS (Nat.lt_succ_of_lt (vX (I2.pin q hq).1))
   have Pf:l≠It:=vS Qc;have T5:S≠l:=by rw[hS];exact Nat.ne_of_gt (Nat.lt_succ_of_lt Qc)
   have hh:X.A.handled=none:=hr.hd;have hu:X.A.in1.units<cLine:=by have:=hr.un;show X.A.units+1<cLine;omega
   have pS:=J2.pin (S,seqObj "list" #[] 0) (mY _ mX);have pI:=J2.pin (It,oI) (mY _ (mZ _ mX));refine wY ⟨plainId_quiet M.pl _,?_⟩;refine codeAny_builtin M.en ?_;rw[Around.under_plainId M.pl _];show wpAny _ X.A.in1 (seqItems? (.ref S)>>=_) _ _ { s2 with heap:=(s2.heap.push oI).push (seqObj "list" #[] 0) };refine wX (wpAny_seqItems pS.1 rfl ?_);show wpAny _ X.A.in1 (tryCatch (pyNext (.ref It)) _>>=_) _ _ _;refine wX (wpAny_tryCatch (cL (G9 hh IC hq il em ek I0 (rj Pe Fi) Pf z0 J2 ⟨oI,pI.1,rfl,rfl⟩ (.refl sN)) λ_ s1 ⟨u,e,h1⟩=>?_));subst e;show wpAny _ X.A.in1 (tryCatch (holding [u] (call (.ref qa) [u])) _>>=_) _ _ _;refine wX (wpAny_tryCatch (wpAny_holding (wpAny_mono h1 (λku s3 ⟨H3,N3,v,kv,kd,M5,J4,⟨o,g1,g2⟩,x3,ru,M4,rk,ik,Qb⟩=>?_) λ_ _ z=>z.elim)));have Sz:=J4.pin (S,seqObj "list" #[] 0) (mY _ mX);have u2:=vW s3.heap S (Obj.mapSeq λ_=>#[u,ku]);show wpAny _ X.A.in1 (updateSeq S (λ_=>#[u,ku])>>=_) _ _ _;refine wX (wpAny_updateSeq Sz.1 rfl ?_);rw[M.hn];have VE:1<=vs.length:=by
    have:=congrArg List.length ez;rw[List.length_zip,vE,←il.length]at this;omega
   exact wY ⟨plainId_quiet M.pl _,Kc M (S:=S) (It:=It) hh hu IC ⟨qa,rfl⟩ hq il em ek hc S0 I0 Sv Pe Fi T5 Pf (λs' H' N' v' u' J' x' r' i'=>⟨v',H',J',r',q _ _ _ ((x1.trans (.grow x1.nh m2)).trans x') i' (by simp)⟩) _ 1 _ H3 N3 u ku v kv y.2 kd y.1 _ M5 rfl VE
    (iP (t':=s3.toks) J4 S0 (rj Sv Fi.symm) (λb o n e=>(u2.2 b n).trans e) (get?_update_seq Sz.1 λ_=>#[u,ku]) dH) ⟨o,(u2.2 It Fi.symm).trans g1,g2⟩ x3 ru M4 rk ik Qb hkz (by rw[ez];rfl)⟩
 ·cases ee
end
section
variable {X:Cx}
@[simp] def ML:D->D->OB
 |.tup xs,.tup ys=>(eJ xs).bind λas=>(eJ ys).bind λbs=>(bd as bs).map λr=>(.bl r,false)
 |_,_=>none
@[simp] def Yl:D->D->OB
 |.tup xs,.tup ys=>(eJ xs).bind λas=>(eJ ys).bind λbs=>(bd bs as).map λr=>(.bl r,false)
 |_,_=>none
theorem Rw (hu:X.A.units+40<cLine):dQ X (compareOp .Lt) (rD X.K ML):=by
 intro af s U H x y v u Q I rx ry q;obtain⟨B,dx,dy,d,b,sB,ix,iy,e,q⟩:=q;cases dx<;>try (simp[ML]at e;done)
 cases dy<;>try (simp[ML]at e;done)
 simp only[ML]at e;obtain⟨as,e1,e⟩:=oX e;obtain⟨bs,e2,e⟩:=oX e;obtain⟨r,e3,e⟩:=oY e;cases e
 show wpAny _ _ (richCompare .Lt v u) _ _ _;exact G8 (lN I rx (ix.mono sB) e1) (lN I ry (iy.mono sB) e2) e3 (by omega) ⟨.bl r,H,I,rfl,q.one sB (.bl r)⟩
end
section
variable {X:Cx}{a b:Expr}{p pos:Pos}
@[simp] def Td (f g:FE):FA:=λY=>(f Y).bind λx=>(g Y).bind λy=>match x.1,y.1 with
 |.int i,.int j=>if -1000<=i/\i<=1000/\-1000<=j/\j<=1000 then some (gz i (j - i).toNat)else none
 |_,_=>none
end
@[simp] def W1:List D->OB
 |[.tup xs,.tup ys]=>(eJ xs).bind λas=>(eJ ys).bind λbs=>(bd as bs).map λr=>(if r=true then .tup ys else .tup xs,false)
 |_=>none
end DL
namespace DL
open PySem PySem.Spec PyProof.Rows L2
section
variable {X:Cx}
noncomputable def uM:D->D->OB
 |.tup xs,.tup ys=>if xs.isEmpty=true then some (.tup ys,false)else none
 |_,_=>none
theorem Kd:dQ X (binaryOp .Add) (rD X.K uM):=by
 intro af s U H x y v u Q I rx ry q;obtain⟨B,dx,dy,d,bb,sB,ix,iy,ee,q⟩:=q;cases ix<;>try (cases ee;done)
 cases iy<;>try (cases ee;done)
 rename_i l vs ds h hl l' ws es h' EU;simp only[uM]at ee;split at ee
 ·rename_i hz;cases ee
  cases rx
  cases ry
  obtain⟨its,r1,p1,_⟩:=I.tuple (b7 sB h);obtain⟨RJ,r2,p2,_⟩:=I.tuple (b7 sB h');have he:its.toArray.isEmpty=true:=by
   have e1:=hl.length;have e2:=r1.length;have e3:=List.isEmpty_iff.mp hz;rw[e3]at e1;cases its with
   |nil=>rfl
   |cons a b=>rw[e1]at e2;simp at e2
  obtain⟨⟨cls,dd,data,sl⟩,ho,hc,n,hd⟩:=id p1;obtain⟨⟨UV,ON,data2,Tp⟩,KY,D4,n2,RI⟩:=id p2;dsimp only at hc hd D4 RI;subst hc;subst hd;subst D4;subst RI;exact concat_meets ⟨_,ho,rfl⟩ ⟨_,KY,rfl⟩ noFill_tuple_add seq_tuple_add PySem.F.slot_tuple_add PySem.F.entry_tuple_add (PySem.F.args_tuple_add_2 _ _)
   (tuple_addW0 l l' its.toArray RJ.toArray n n2 dd ON sl Tp he) ⟨ho,KY,⟨.ref l',H,I,rfl,q.one sB (.tup h' EU)⟩⟩
 ·cases ee
@[simp] noncomputable def C2:D->D->OB
 |.tup xs,.tup ys=>if xs.length+ys.length<=sizeLine then some (.tup (xs++ys),false)else none
 |_,_=>none
theorem Ke (xs ys:List D)(z:xs.length+ys.length<=sizeLine):Fe tH uM (.tup xs) (.tup ys)=some (.tup (xs++ys),false):=by
 cases xs with
 |nil=>
  have:tH (.tup []) (.tup ys)=none:=if_neg (λh=>by cases h.2);show(match tH (.tup []) (.tup ys) with|some z=>some z|none=>uM (.tup []) (.tup ys))=_;rw[this];rfl
 |cons a l=>
  have:tH (.tup (a::l)) (.tup ys)=some (.tup (a::l++ys),false):=if_pos ⟨z,rfl⟩;show(match tH (.tup (a::l)) (.tup ys) with|some z=>some z|none=>uM (.tup (a::l)) (.tup ys))=_;rw[this]
theorem GA:dQ X (binaryOp .Add) (rD X.K C2):=by
 refine jw (r:=rD X.K (Fe tH uM)) (oJ Gb Kd) λx y H Q q=>?_;obtain⟨B,dx,dy,d,bb,sB,ix,iy,ee,q⟩:=q;refine⟨B,dx,dy,d,bb,sB,ix,iy,?_,q⟩;cases ix<;>try (cases ee;done)
 cases iy<;>try (cases ee;done)
 rename_i l vs ds h hl l' ws es h' EU;simp only[C2]at ee;split at ee
 ·rename_i hz;rw[Ke _ _ hz];exact ee
 ·cases ee
end
section
variable {X:Cx}
@[simp] def Te:List D->OB
 |[d,.tup [.ty n,.ty m]]=>if Rg d=true then none else if n = "list"/\m = "tuple" then some (.bl (kZ d == "list" || kZ d == "tuple"),false)else none
 |_=>none
end
@[simp] noncomputable def ln:D->Option cE
 |.int i=>some (.inl i)
 |.str x=>some (.inr x)
 |_=>none
theorem pB {K:Frag}{B:Hp}{v:V}{d:D}{k:cE}(i:Is K B v d)(e:ln d=some k):v=kV k:=by
 cases i<;>simp only[ln]at e<;>cases e<;>rfl
noncomputable def cz {κ:Type}[DecidableEq κ]:List κ->List D->κ->Option D
 |k'::ks,d::ds,k=>if k'=k then some d else cz ks ds k
 |_,_,_=>none
theorem rm {κ:Type}[DecidableEq κ]{K:Frag}{B:Hp}(k:κ):∀ {ks:List κ}{vs:List V}{ds:List D},ks.length=vs.length->IsL K B vs ds ->
  (∃v d,kK (ks.zip vs) k=some v/\cz ks ds k=some d/\Is K B v d)∨(kK (ks.zip vs) k=none/\cz ks ds k=none)
 |[],vs,ds,_,_=>.inr ⟨by cases vs<;>rfl,by cases ds<;>rfl⟩
 |k'::ks,[],_,h,_=>by simp at h
 |k'::ks,v::vs,_,h,.cons i is=>by
  rw[List.zip_cons_cons];unfold cz;by_cases e:k'=k
  ·rw[if_pos e];exact .inl ⟨v,_,nv (p:=(k',v)) e,rfl,i⟩
  ·rw[if_neg e,nw (p:=(k',v)) e];exact rm k (by simpa using h) is
section
variable {X:Cx}{o e i:Expr}{pos:Pos}
@[simp] def Bu:D->D->OB
 |.dk ks vs,y=>(ln y).map λk=>((cz ks vs k).getD .non,false)
 |_,_=>none
theorem zu {dP cN:Pos}{fo fe:FE}(hu:X.A.units+1<cLine)(ho:JE X o fo)(he:JE X e fe)(m:M1 X o "get" dP e cN):JE X (.Call (.Attribute o "get" dP) [e] [] cN) (f2 Bu fo fe):=by
 refine PE.to (yv hu ho he m) λU H Q q=>?_;obtain⟨B,Y,d,bb,sB,r,ee,q⟩:=q;obtain⟨x,ex,ee⟩:=oX ee;obtain⟨y,ey,ee⟩:=oX ee;refine⟨B,Y,x.1,x.2,sB,r,ex,λv H1 N1 x1 i1 ff=>?_⟩;obtain⟨xd,xb⟩:=x;cases i1 with
 |@dk a ks vs ds ob h hl hs=>
  simp only[Bu]at ee;obtain⟨k,hk,ee⟩:=oY ee;cases ee
  refine⟨a,rfl,.inl ⟨_,_,.inl (x1.nh _ _ h)⟩,N1,Y,y.1,y.2,x1.nh,r.mono x1.bn,ey,λv2 H2 N2 x2 i2 _=>?_⟩;have hv:=pB i2 hk;subst hv;refine⟨kK (ks.zip vs) k,.inl ⟨_,k,_,.inl (x2.nh _ _ (x2.bn _ _ h)),rfl,rfl⟩,?_⟩;have Qd:=hs.mono x2.bn;rcases rm k hl Qd with⟨v,d',e1,e2,i3⟩|⟨e1,e2⟩
  ·rw[e1];rw[e2]at q;exact(q.into (x1.trans x2)).one x2.nh i3
  ·rw[e1];rw[e2]at q;exact(q.into (x1.trans x2)).one x2.nh .non
 |_=>simp[Bu]at ee
@[simp] def Tf:D->D->OB
 |.dk ks vs,y=>(ln y).bind λk=>(cz ks vs k).map λd=>(d,false)
 |_,_=>none
theorem Om {fo fi:FE}(hu:X.A.units+1<cLine)(ho:JE X o fo)(hi:JE X i fi)(hs:Nw i):JE X (.Subscript o i pos) (f2 Tf fo fi):=by
 refine PE.to (Jg hu ho hi hs) λU H Q q=>?_;obtain⟨B,Y,d,bb,sB,r,ee,q⟩:=q;obtain⟨x,ex,ee⟩:=oX ee;obtain⟨y,ey,ee⟩:=oX ee;refine⟨B,Y,x.1,x.2,sB,r,ex,λv H1 N1 x1 i1 ff=>?_⟩;obtain⟨xd,xb⟩:=x;cases i1 with
 |@dk a ks vs ds ob h hl hs'=>
  simp only[Tf]at ee;obtain⟨k,hk,ee⟩:=oX ee;obtain⟨d0,hd,ee⟩:=oY ee;cases ee
  refine⟨N1,Y,y.1,y.2,x1.nh,r.mono x1.bn,ey,λv2 H2 N2 x2 i2 _=>?_⟩;have hv:=pB i2 hk;subst hv;rcases rm k hl (hs'.mono x2.bn)with⟨v,d',e1,e2,i3⟩|⟨_,e2⟩
  ·rw[hd]at e2;cases e2
   exact⟨a,v,rfl,.inl ⟨_,k,_,.inl (x2.nh _ _ (x2.bn _ _ h)),rfl,e1.symm⟩,(q.into (x1.trans x2)).one x2.nh i3⟩
  ·rw[hd]at e2;cases e2
 |_=>simp[Tf]at ee
@[simp] def Kf:D->D->OB
 |y,.dk ks vs=>(ln y).map λk=>(.bl (cz ks vs k).isSome,false)
 |_,_=>none
@[simp] def U3:D->D->OB
 |y,.dk ks vs=>(ln y).map λk=>(.bl (!(cz ks vs k).isSome),false)
 |_,_=>none
theorem vc {κ:Type}[DecidableEq κ]{K:Frag}{B:Hp}{k:κ}{ks:List κ}{vs:List V}{ds:List D}(hl:ks.length=vs.length)(hs:IsL K B vs ds):(kK (ks.zip vs) k).isSome=(cz ks ds k).isSome:=by
 rcases rm k hl hs with⟨v,d,e1,e2,_⟩|⟨e1,e2⟩
 ·rw[e1,e2];rfl
 ·rw[e1,e2];rfl
theorem Oo {fi fo:FE}(hu:X.A.units+1<cLine)(hi:JE X i fi)(ho:JE X o fo)(hm:behindInMarks .In o=false:=by first|exact jA _ (by decide) (by decide)|rfl):JT X (.Compare i [.In] [o] pos) (aU (f2 Kf fi fo)):=by
 refine PT.to (MO (F6 hu hi ho) hm) λU H Q q=>?_;obtain⟨B,Y,d,bb,sB,r,ee,q⟩:=AU q;obtain⟨y,ey,ee⟩:=oX ee;obtain⟨x,ex,ee⟩:=oX ee;refine⟨B,Y,y.1,y.2,sB,r,ey,λv2 H1 N1 x1 i2 _=>⟨N1,Y,x.1,x.2,x1.nh,r.mono x1.bn,ex,λv H2 N2 x2 i1 ff=>?_⟩⟩;obtain⟨xd,xb⟩:=x;cases i1 with
 |@dk a ks vs ds ob h hl hs=>
  simp only[Kf]at ee;obtain⟨k,hk,ee⟩:=oY ee;cases ee
  have hv:=pB i2 hk;subst hv;refine⟨a,kK (ks.zip vs) k,rfl,.inl ⟨_,k,_,.inl (x2.nh _ _ h),rfl,rfl⟩,?_⟩;rw[vc hl hs];exact(q.into (x1.trans x2)).one x2.nh (.bl _)
 |_=>simp[Kf]at ee
end
noncomputable def dW {κ:Type}[DecidableEq κ](ks:List κ)(k:κ):List κ:=if k∈ks then ks else ks++[k]
noncomputable def dX {κ α:Type}[DecidableEq κ](ks:List κ)(xs:List α)(k:κ)(x:α):List α:=if k∈ks then List.zipWith (λk' x'=>if k'=k then x else x') ks xs else xs++[x]
theorem C3 {κ:Type}[DecidableEq κ](k:κ):∀ {ks:List κ}{vs:List V},ks.length=vs.length->((ks.zip vs).any λkv=>decide (kv.1=k))=decide (k∈ks)
 |[],_,_=>by simp
 |k'::ks,[],h=>by simp at h
 |k'::ks,v::vs,h=>by
  have ih:=C3 k (ks:=ks) (vs:=vs) (by simpa using h);rw[List.zip_cons_cons,List.any_cons,ih];by_cases e:k'=k
  ·simp[e]
  ·have e':¬k=k':=λz=>e z.symm;simp[e,e']
theorem C4 {κ:Type}[DecidableEq κ](k:κ)(v:V):∀(ks:List κ)(vs:List V),(ks.zip vs).map (λkv=>if kv.1=k then (kv.1,v)else kv)=ks.zip (List.zipWith (λk' x'=>if k'=k then v else x') ks vs)
 |[],_=>by simp
 |_::_,[]=>by simp
 |k'::ks,w::vs=>by
  rw[List.zip_cons_cons,uY,C4 k v ks vs,List.zipWith_cons_cons,List.zip_cons_cons];by_cases e:k'=k
  ·simp[e]
  ·simp[e]
theorem qz {κ:Type}[DecidableEq κ]{ks:List κ}{vs:List V}(hl:ks.length=vs.length)(k:κ)(v:V):nu (ks.zip vs) k v=(dW ks k).zip (dX ks vs k v):=by
 unfold nu dW dX;rw[C3 k hl];by_cases h:k∈ks
 ·rw[if_pos (decide_eq_true h),if_pos h,if_pos h,C4]
 ·rw[if_neg (by simpa using h),if_neg h,if_neg h,List.zip_append hl];rfl
theorem nM {κ α:Type}[DecidableEq κ]{ks:List κ}{xs:List α}(hl:ks.length=xs.length)(k:κ)(x:α):(dW ks k).length=(dX ks xs k x).length:=by
 unfold dW dX;split<;>simp[hl]
theorem IsL.zipWith {κ:Type}[DecidableEq κ]{K:Frag}{B:Hp}{k:κ}{v:V}{d:D}(i:Is K B v d):∀ {ks:List κ}{vs:List V}{ds:List D},IsL K B vs ds->IsL K B (List.zipWith (λk' x'=>if k'=k then v else x') ks vs) (List.zipWith (λk' x'=>if k'=k then d else x') ks ds)
 |[],_,_,_=>by simpa using IsL.nil
 |_::_,_,_,.nil=>by simpa using IsL.nil
 |k'::ks,_,_,.cons h t=>by
  rw[List.zipWith_cons_cons,List.zipWith_cons_cons];refine .cons ?_ (IsL.zipWith i t);by_cases e:k'=k
  ·rw[if_pos e,if_pos e];exact i
  ·rw[if_neg e,if_neg e];exact h
theorem IsL.put {κ:Type}[DecidableEq κ]{K:Frag}{B:Hp}{k:κ}{v:V}{d:D}(i:Is K B v d){ks:List κ}{vs:List V}{ds:List D}(h:IsL K B vs ds):IsL K B (dX ks vs k v) (dX ks ds k d):=by
 unfold dX;split
 ·exact h.zipWith i
 ·exact h.append (.cons i .nil)
section
variable {K:Frag}{E:Ends}{U:St}{H:Hp}
noncomputable def C5 (i:Nat):FS:=λY=>some (.nx (Y.set i (some (.dk [] [],true))))
noncomputable def GB (i:Nat):FS:=λY=>some (.nx (Y.set i (some (.dt [] [],true))))
theorem eU.newBox (s:eU K B0 H0 N H U Y)(i:Nat)(hp:H p=none)(hb:∀C,Bx K C ob dd):eU K B0 H0 (upd N p ob) (upd H p ob) (U.set i (some (.ref p))) (Y.set i (some (dd,true))):=by
 have x:=Ext.laid (o:=ob) s.ext.nh hp;have s1:=s.grow x;have X9:N p=none:=s.ext.nh.free hp;have Su:¬own U Y p:=λz=>by obtain⟨ws,⟨q,_⟩,_⟩:=s.owned z;rw[X9]at q;cases q
 have c:bg (eC N (own U Y)) (eC (upd N p ob) (λb=>own U Y b∨b=p)):=fu λb u e q=>⟨x.bn _ _ e,λz=>z.elim q λz=>by subst z;rw[X9]at e;cases e⟩;refine s1.bindOwn aJ (s.ext.hh.free hp) (λj e q z=>Su ⟨j,e,q,z⟩) (λj e _ q=>?_) (λj e _ q=>?_) (hb _)
 ·obtain⟨w,h1,h2⟩:=s.sh j e q;exact⟨w,h1,h2.mono c⟩
 ·obtain⟨a',o',h1,h2,_,h4⟩:=s.ow j e q;exact⟨a',o',h1,x.bn _ _ h2,h4.mono c⟩
theorem GC (q:oG K (C5 i) E U H):yn F8 (kF i) E U H:=by
 obtain⟨B0,H0,Y,r,⟨N,s⟩,e,p⟩:=q;cases e
 exact λa ob ha=>p _ _ ⟨_,s.newBox i ha λ_=>.dk (ks:=[]) (vs:=[]) rfl .nil⟩
theorem GD (q:oG K (GB i) E U H):yn F9 (kF i) E U H:=by
 obtain⟨B0,H0,Y,r,⟨N,s⟩,e,p⟩:=q;cases e
 exact λa ha=>p _ _ ⟨_,s.newBox i ha λ_=>.dt (ks:=[]) (vs:=[]) rfl .nil⟩
def zv (i:Nat)(fk fv:FE):FS:=λY=>match Y[i]? with
 |some (some (.dk ks vs,true))=>(fv Y).bind λv=>(fk Y).bind λk=>(ln k.1).bind λkk=>if bq v.1=true/\ks.length<sizeLine then some (.nx (Y.set i (some (.dk (dW ks kk) (dX ks vs kk v.1),true))))else none
 |_=>none
theorem GF {i:Nat}{fk fv:FE}(q:oG K (zv i fk fv) E U H):BX (Fk i) (tD K fk) (tD K fv) E U H:=by
 obtain⟨B0,H0,Y,r,⟨N,s⟩,e,p⟩:=q;unfold zv at e;split at e
 ·rename_i ks ds ei;obtain⟨v,ev,e⟩:=oX e;obtain⟨k,ek,e⟩:=oX e;obtain⟨kk,hk,e⟩:=oX e;split at e
  ·rename_i hx;cases e
   refine⟨N,Y,v.1,v.2,s.ext.nh,s.rep,ev,λv1 H1 N1 x1 i1 _=>?_⟩;have s1:=s.grow x1;obtain⟨a,o,h1,h2,h3,h4⟩:=s1.ow i _ ei;refine⟨.ref a,h1,N1,Y,k.1,k.2,s1.ext.nh,s1.rep,ek,λv2 H2 N2 x2 i2 _=>?_⟩;have s2:=s1.grow x2;have hv:=pB i2 hk;subst hv;obtain⟨a',o',k1,k2,k3,k4⟩:=s2.ow i _ ei;rw[h1]at k1;cases k1
   cases k4 with
   |@dk ks vs ds hl h5 ob=>
    refine⟨a,rfl,.inl ⟨_,kk,_,s2.ext.nh _ _ k2,rfl,?_,λVb=>?_⟩⟩
    ·rw[List.length_zip];omega
    ·rw[qz hl];exact p U _ ⟨_,s2.writeB ei h1 (.dk (nM hl _ _) (h5.put (s2.flat (i1.mono x2.bn) hx.1)))⟩
  ·cases e
 ·cases e
end
section
variable {X:Cx}{pos:Pos}{e k:Expr}
theorem C6 (hN:X.N.Nodup)(hi:X.N[i]? = some x:=by rfl)(hx:Iq X.env.scope x:=by first|exact Or.inl rfl|exact Or.inr rfl)(hs:swapsWith (.Dict [] [] dp) (some (.Name x p)) pos.line X.env=pure false:=by rfl)
  (hf:X.fn x=true∨X.env.scope.names.lookup x=some .local:=by first|exact .inl rfl|exact .inr rfl):JS X (.Assign [.Name x p] (.Dict [] [] dp) pos) (C5 i):=PS.to (wB hN hi hx FC hs hf) λ_ _ _ q=>GC q
theorem Kg (hN:X.N.Nodup)(hi:X.N[i]? = some x:=by rfl)(hx:Iq X.env.scope x:=by first|exact Or.inl rfl|exact Or.inr rfl)(hs:swapsWith (.Dict [] [] dp) (some (.Name x p)) pos.line X.env=pure false:=by rfl)
  (hf:X.fn x=true∨X.env.scope.names.lookup x=some .local:=by first|exact .inl rfl|exact .inr rfl):JS X (.Assign [.Name x p] (.Dict [] [] dp) pos) (GB i):=PS.to (wB hN hi hx FD hs hf) λ_ _ _ q=>GD q
theorem Kh (hu:X.A.units+1<cLine)(hv:JE X e fv)(hk:JE X k fk)(hN:X.N[i]? = some y:=by rfl)(BO:Fj X.env.scope y:=by first|exact Or.inl rfl|exact Or.inr (Or.inl rfl)|exact Or.inr (Or.inr rfl))(hd:(y == ("__debug__" : Str))=false:=by decide)
  (jT:(y == ("__classdict__" : Str))=false:=by decide) (hs:swapsWith e (some (.Subscript (.Name y py) k pt)) pos.line X.env=pure false:=by rfl):JS X (.Assign [.Subscript (.Name y py) k pt] e pos) (zv i fk fv) :=
 PS.to (wM hu (mE hN BO hd jT) hk hv hs) λ_ _ _ q=>GF q
end
section
variable {prog:Program}{w:World}{A:Around}{E:Value->Shared->Prop}{s:Shared}
abbrev Op (h:Heap)(z TI TO T0:Addr)(f:Bool):Prop:=h.get? z=some { cls:=.type "zip",dict:=none,data:=.fields #[rawInt T0,.bool f,.bool false,.ref TI,.ref TO],slots:=#[] }
end
def W2 (k1 k2:Bool)(z TI TO i1 i2 l1 l2 S:Addr)(i:Nat)(h:Heap):Prop :=
 IsPair h TI (.ref i1) (.ref i2)/\Cn k1 h i1 l1 i/\Cn k2 h i2 l2 i/\((IsZip h z TI TO .none/\∃a b,IsPair h TO a b)∨∃T0 f oT oO,Op h z TI TO T0 f/\h.get? T0=some oT/\T0∉[z,TI,TO,i1,i2]/\T0≠S/\h.get? TO=some oO)
section
variable {prog:Program}{w:World}{A:Around}{E:Value->Shared->Prop}{s:Shared}{k1 k2:Bool}{z TI TO i1 i2 l1 l2 S:Addr}{j:Nat}{xs ys:Array Value}
theorem W2.ty (st:W2 k1 k2 z TI TO i1 i2 l1 l2 S j h):∃o,h.get? z=some o/\o.cls=.type "zip":=by
 obtain⟨_,_,_,a4⟩:=st;rcases a4 with⟨b1,_⟩|⟨T0,f,oT,oO,b1,_⟩
 ·exact⟨_,b1,rfl⟩
 ·exact⟨_,b1,rfl⟩
end
theorem rq (h:H a=none):bg H (upd H a o):=λb u e=>by rw[aP (bi e h)];exact e
@[simp] def fLZ (fa fb:FE):FE:=λY=>(Uw fa fb Y).map λds=>(.lst ds,true)
end DL
namespace DL
open PySem PySem.Spec PyProof.Rows
theorem xz:typeLookup (.type "list") "keys" = pure none:=by rw[typeLookup_type,builtinLookup_eq_fast];kernel_rfl
theorem Et 
  (hx:s.heap.get? a=some { cls:=.type "list",dict:=none,data:=.seq xs k,slots:=sl }) (hA:A.handled=none)
  (h:∀h' tk,(∀b o,s.heap.get? b=some o->h'.get? b=some o)->Q none { s with heap:=h',toks:=tk }):
  wpAny (model prog w) A (getAttr? (.ref a) "keys") Q E s:=by
 obtain⟨hp,g,d,tk,os⟩:=s;have hT:∀IB,(⟨hp,g,d,IB,os⟩:Shared).TypeIs (.ref a) "list":=λ_=>⟨_,hx,rfl⟩;have f1:=sub_AttributeError;have f3:=PySem.F.slot_list_getattribute.lookup;have f4:=PySem.F.slot_list_getattribute.bind (.ref a);have f5:=am_list_getattr_none;unfold getAttr? getAttrBy? getAttrBy;repeat (any_goals (first|assumption|exact hT _|((with_reducible show wpAny _ _ (call (Value.builtin "list.__getattribute__") _ _) _ _ _);refine call_meets PySem.F.slot_list_getattribute (hT _) am_entry_list_getattribute (PySem.F.args_list_getattribute_2 _ _) (meets_getattribute_miss_list a xs k sl "keys" _ xz (by decide) (by decide)) ⟨hx,hA,λh' IB e hx'=>?_⟩)|wp_step))
 obtain⟨t',u',he⟩:=hx'.there;show wpAny _ _ (getattributeRaised _ _ _ _ _ _ _) _ _ _;unfold getattributeRaised;repeat (any_goals (first|assumption|wp_step))
 exact h _ _ hx'.of.keeps
end DL
namespace DL
open PySem PySem.Spec PyProof.Rows L2
def jy:List D->Option (List (cE×D))
 |[]=>some []
 |.tup [k,v]::r=>(ln k).bind λkk=>(jy r).map λl=>(kk,v)::l
 |_=>none
noncomputable def rz (a:List cE×List D)(p:cE×D):List cE×List D:=(dW a.1 p.1,dX a.1 a.2 p.1 p.2)
noncomputable def bW (l:List (cE×D)):List cE×List D:=l.foldl rz ([],[])
theorem r0 (l:List (cE×D))(p:cE×D):bW (l++[p])=rz (bW l) p:=by unfold bW;rw[List.foldl_append];rfl
theorem rA:∀ {ds:List D}{l:List (cE×D)},jy ds=some l->l.length=ds.length
 |[],l,h=>by simp[jy]at h;subst h;rfl
 |d::r,l,h=>by
  unfold jy at h;split at h
  ·rename_i h0;cases h0
  ·rename_i k v r' h0;cases h0
   obtain⟨kk,_,h⟩:=oX h;obtain⟨l',h1,rfl⟩:=oY h;simp[rA h1]
  ·cases h
theorem rB:∀ {ds:List D}{l:List (cE×D)}{i:Nat}{d:D},jy ds=some l->ds[i]? = some d->∃k v kk,d=.tup [k,v]/\ln k=some kk/\l[i]? = some (kk,v)
 |[],l,i,d,_,h=>by simp at h
 |d0::r,l,i,d,h,hi=>by
  unfold jy at h;split at h
  ·rename_i h0;cases h0
  ·rename_i k v r' h0;cases h0
   obtain⟨kk,h2,h⟩:=oX h;obtain⟨l',h1,rfl⟩:=oY h;cases i with
   |zero=>simp at hi;subst hi;exact⟨k,v,kk,rfl,h2,rfl⟩
   |succ i=>simp only[List.getElem?_cons_succ]at hi ⊢;exact rB h1 hi
  ·cases h
theorem GG (l:List (cE×D)):∀a:List cE×List D,a.1.length=a.2.length->(l.foldl rz a).1.length=(l.foldl rz a).2.length/\(l.foldl rz a).1.length<=a.1.length+l.length:=by
 induction l with
 |nil=>intro a h;exact⟨h,vT _⟩
 |cons p l ih=>
  intro a h;have h1:(rz a p).1.length<=a.1.length+1:=by
   show(dW _ _).length<=_;unfold dW;split<;>simp
  have:=ih (rz a p) (nM h _ _);rw[List.foldl_cons,vE];exact⟨this.1,by omega⟩
theorem Eu (l:List (cE×D)):(bW l).1.length=(bW l).2.length/\(bW l).1.length<=l.length:=by
 have:=GG l ([],[]) rfl;exact⟨this.1,vR this.2 (by simp)⟩
theorem ve:entryFor table "dict.update.loop" = some Builtin.«dict.update.loop»:=entryFor_of_tree (by kernel_rfl)
theorem lO:plainId "dict.update.loop" = true:=by decide +kernel
section
variable {X:Cx}{af:List (Addr×Obj)}{U:St}{B H0:Hp}{A:Around}{R:Result->Shared->Prop}{it l d:Addr}{us:List V}{ds:List D}{iu:List (cE×D)}
theorem Bv (hA:A.handled=none)(nl:l≠it)(nd:d≠it)(hl:jl X.K B l us)(il:IsL X.K B us ds)(hp:jy ds=some iu)
  (hR:∀Hc N vs ob s',Inv X af U (upd Hc d (.dK ((bW iu).1.zip vs) ob)) s'->Hc d=none->Ext B N H0 Hc->(bW iu).1.length=vs.length->IsL X.K N vs (bW iu).2->R (.ok (.ret .none)) s'):
  ∀(k i:Nat)(tk:Nat)(s:Shared)(Hc N:Hp)(vs:List V)(ob:Obj),ds.length - i=k->i<=ds.length->Inv X af U (upd Hc d (.dK ((bW (iu.take i)).1.zip vs) ob)) s->Hc d=none->Ext B N H0 Hc->oC X af (upd Hc d (.dK ((bW (iu.take i)).1.zip vs) ob)) it ->
   s.heap.IsListIter it l i->(bW (iu.take i)).1.length=vs.length->IsL X.K N vs (bW (iu.take i)).2 ->
   codeAny (model X.prog X.w) A (.builtin "dict.update.loop" ⟨[.ref d,.ref it,.int i tk,.none],[]⟩) R s:=by
 have n1:=il.length;have n2:=rA hp;intro k;induction k with
 |zero=>
  intro i tk s Hc N vs ob hk hi I hc xt fp st hz hv;have Lj:i=ds.length:=by omega
  have sm:bg B (upd Hc d (.dK ((bW (iu.take i)).1.zip vs) ob)):=(xt.bn.trans xt.nh).trans (rq hc);obtain⟨its,r1,p1,z1⟩:=I.list (sm.seq hl);have e1:=r1.length;refine codeAny_builtin ve ?_;rw[Around.under_plainId lO _];show wpAny _ A.in1 (pyNext (.ref it)>>=_) _ _ s;refine wX (wpAny_pyNext_list_end (A:=A.in1) hA st p1.isList (by simp;omega) λh' gg=>?_);show wpAny _ _ (Builtin.Dict.addKeywords d []>>=_) _ _ _;refine wX (wY (wY ?_));have I1:=qw (t':=s.toks) (h':=h') (ch:=[it]) I (λb hb=>by rw[uT hb];exact fp) λb o hb e=>gg b o (λq=>hb (by simp[q])) e;rw[Lj,←n2,List.take_length]at I1 hz hv;exact hR Hc N vs ob _ I1 hc xt hz hv
 |succ k ih=>
  intro i tk s Hc N vs ob hk hi I hc xt fp st hz hv;have gs:i<ds.length:=by omega
  have sm:bg B (upd Hc d (.dK ((bW (iu.take i)).1.zip vs) ob)):=(xt.bn.trans xt.nh).trans (rq hc);obtain⟨its,r1,p1,z1⟩:=I.list (sm.seq hl);obtain⟨kd,vd,kk,ed,ek,el⟩:=rB hp (vU gs);obtain⟨x,hx,ix⟩:=il.get (vU gs);rw[ed]at ix;cases ix with
  |@tup T xs _ hT hxs=>
   cases hxs with
   |cons ik r=>
    cases r with
    |cons iv r=>
     cases r
     rename_i xk xv;have exk:=pB ik ek;subst exk;obtain⟨u,hu,ru⟩:=r1.get hx;cases (show u=Value.ref T from ru)
     refine codeAny_builtin ve ?_;rw[Around.under_plainId lO _];show wpAny _ A.in1 (pyNext (.ref it)>>=_) _ _ s;refine wX (wpAny_pyNext_list_item (A:=A.in1) st p1.isList (x:=.ref T) (by simpa using hu) λh' mC hs=>?_);have I1:=qw (t':=s.toks) (h':=h') (ch:=[it]) I (λb hb=>by rw[uT hb];exact fp) λb o hb e=>hs.extBut b o (λq=>hb (by simp[q])) e;obtain⟨ps,r2,p2,z2⟩:=I1.tuple (b7 sm hT);obtain⟨uk,uv,rfl,rk,rv⟩:=r2.two;have hpr:Shared.TypeIs { s with heap:=h' } (.ref T) "tuple":=by obtain⟨o,e,c,_⟩:=p2;exact⟨o,e,c⟩
     dsimp only;refine wX (wpAny_holding (wX (wpAny_tryCatch ?_)));unfold Builtin.Dict.pairItems;refine wX (wpAny_typeOf hpr ?_);obtain⟨oT,eT,cT,nT,dT⟩:=p2;rw[if_pos (by decide)];refine wX (wpAny_seqItems eT dT (wY ?_));show wpAny _ _ (holding [uk,uv] (dictSet d uk uv)) _ _ _;obtain⟨zz,X4,vs0,t6,dd⟩:=qH I1.hok (a:=d) aJ;have hz0:vs0.length<=sizeLine:=by rw[←t6.length];exact zz
     have nk:((bW (iu.take i)).1.zip vs).length<sizeLine:=by
      have a1:=(Eu (iu.take i)).2;have a2:=z1;rw[List.length_take]at a1;rw[List.length_zip];omega
     refine wpAny_holding (wpAny_dictSet_pairs (hsz:=hz0) (ui rk) dd λh2 ON Qd=>?_);have EW:(nu ((bW (iu.take i)).1.zip vs) kk xv).length<=sizeLine:=by have:=kU ((bW (iu.take i)).1.zip vs) kk xv;omega
     obtain⟨XA,PN⟩:∃q,h2.get? d=some q:=let ⟨q,_,_,hq,_⟩:=ON;⟨q,hq⟩;have I2:=wL (t':=s.toks+1) I1 (a:=d) (ob:=.dK (nu ((bW (iu.take i)).1.zip vs) kk xv) XA) (by rw[aJ];exact True.intro) Qd ⟨_,PN⟩ (F5 EW X4 (t6.put kk rv) ON PN);rw[IE,qz hz]at I2;have et:iu.take (i+1)=iu.take i++[(kk,vd)]:=by rw[List.take_add_one,el];rfl
     have XB:(bW (iu.take (i+1))).1=dW (bW (iu.take i)).1 kk:=by rw[et,r0];rfl
     have ed2:(bW (iu.take (i+1))).2=dX (bW (iu.take i)).1 (bW (iu.take i)).2 kk vd:=by rw[et,r0];rfl
     refine wY ⟨plainId_quiet lO _,?_⟩;refine ih (i+1) 0 _ Hc N (dX (bW (iu.take i)).1 vs kk xv) XA (by omega) gs (by rw[XB];exact I2) hc xt ?_ ?_ ?_ ?_
     ·obtain⟨f0,f1⟩:=fp;refine⟨?_,f1⟩;rw[aP nd.symm]at f0 ⊢;exact f0
     ·exact mC.at λo e=>(Qd.2 it nd.symm).trans e
     ·rw[XB];exact nM hz _ _
     ·rw[ed2];exact hv.put (iv.mono xt.bn)
end
@[simp] def kn:List D->OB
 |[.lst ds]=>(jy ds).map λiu=>(.dk (bW iu).1 (bW iu).2,false)
 |_=>none
theorem Oq:bootBuiltins "dict" = some (.type "dict"):=by decide +kernel
section
variable {X:Cx}
theorem Ot (VF:X.calm=true):cm X (.type "dict") (BY X.K kn):=by
 intro af s U H xs us Q I r h;obtain⟨B,dds,d0,bb,sB,i0,ee,q⟩:=h;cases i0 with
 |nil=>simp[kn]at ee
 |cons i1 i2=>
  cases i2 with
  |cons _ _=>cases i1<;>simp[kn]at ee
  |nil=>
   cases i1<;>try (simp[kn]at ee;done)
   rename_i l ws ds hl il;simp only[kn]at ee;obtain⟨iu,hp,ee⟩:=oY ee;cases ee
   obtain⟨u,rfl,rx⟩:=iH r;cases rx
   have hA:X.A.handled=none:=I.ok.hd VF;refine callType_codes (Q₁:=λobj s₁=>obj=.ref s.heap.objs.size/\s₁={ s with heap:=s.heap.push { cls:=.type "dict",data:=.dict #[] } }) PySem.F.kt_called_dict (PySem.F.kt_typeCall_dict_1 _) PySem.F.entry_dict_init (kt_code_dict_new _ ⟨rfl,rfl⟩) ?_;rintro obj s₁ ⟨rfl,rfl⟩;have I1:Inv X af U (upd H s.heap.objs.size (.dK [] { cls:=.type "dict",data:=.dict #[] })) { s with heap:=s.heap.push { cls:=.type "dict",data:=.dict #[] } }:=I.laid (t':=s.toks) (λb o e=>vZ _ e) (vT _) (yu s.heap I.big);have XC:H s.heap.objs.size=none:=I.fresh;have hT:Shared.TypeIs { s with heap:=s.heap.push { cls:=.type "dict",data:=.dict #[] } } (.ref s.heap.objs.size) "dict":=⟨_,vY _ rfl,rfl⟩;refine⟨hT,PySem.F.args_dict_init_2 _ _,?_⟩;unfold Builtin.«dict.__init__»;refine wX ?_;unfold Builtin.Dict.selfAndRest;refine wX (wpAny_notOrdered_dict hT ?_);show wpAny _ _ (pure (s.heap.objs.size,[Value.ref l])) _ _ _;refine wY ?_;show wpAny _ _ (Builtin.Dict.updateFrom "dict.__init__" s.heap.objs.size (.ref l) [] .none) _ _ _;unfold Builtin.Dict.updateFrom;have sm:bg B (upd H s.heap.objs.size (.dK [] { cls:=.type "dict",data:=.dict #[] })):=sB.trans (rq XC);obtain⟨its,r1,p1,z1⟩:=I1.list (sm.seq hl);have pl:=p1.isList;obtain⟨ol,nl,T6,cl,XD,dl⟩:=p1;have VG:Shared.TypeIs { s with heap:=s.heap.push { cls:=.type "dict",data:=.dict #[] } } (.ref l) "list":=⟨ol,T6,cl⟩;refine wX (wpAny_typeOf VG ?_);rw[if_pos (by decide)];obtain⟨oc,od,oo,os⟩:=ol;simp only at cl XD dl;subst cl XD dl;refine wX (Et T6 (by exact hA) λh' tk hk=>?_);dsimp only[Option.isNone_none];rw[if_pos rfl];have I2:Inv X af U (upd H s.heap.objs.size (.dK [] { cls:=.type "dict",data:=.dict #[] })) { s with heap:=h',toks:=tk }:=I1.kept (t':=tk) hk;refine wX (wpAny_rule ?_);refine wX (wpAny_pyIter_list (items:=its.toArray) ⟨_,hk _ _ T6,rfl,nl,rfl⟩ ?_);have I3:Inv X af U (upd H s.heap.objs.size (.dK [] { cls:=.type "dict",data:=.dict #[] })) { s with heap:=h'.push { cls:=.type "list_iterator",data:=.fields #[.ref l,.int 0 0] },toks:=tk }:=I2.kept (t':=tk) λb o e=>vZ _ e;have ld:s.heap.objs.size<h'.objs.size:=vX (hk _ _ (vY _ rfl));have ll:l<h'.objs.size:=vX (hk _ _ T6);refine wY ⟨plainId_quiet lO _,Bv (A:=X.A.in1) (B:=B) (H0:=H) (l:=l) (d:=s.heap.objs.size) (it:=h'.objs.size) hA (vS ll) (vS ld) hl il hp (λHc N vs ob s' I' KQ xt hz hv=>?_) _ 0 0 _ H B [] _ rfl (uN _) I3 XC (Ext.refl sB) (I2.fpOk (vT _) (I2.hok.fresh (vT _))) ⟨_,vY _ rfl,rfl,rfl⟩ rfl .nil⟩;refine⟨rfl,.ref s.heap.objs.size,_,I',rfl,?_⟩;have x3:=xt.trans (Ext.laid (o:=.dK ((bW iu).1.zip vs) ob) xt.nh KQ);exact q _ _ _ x3 (.dk aJ hz (hv.mono (Ext.laid (o:=.dK ((bW iu).1.zip vs) ob) xt.nh KQ).bn)) (by simp)
end
@[simp] noncomputable def W3:FE:=λ_=>none
@[simp] noncomputable def W4:FA:=λ_=>none
theorem Ki (h:n+40<cLine):n+1<cLine:=by omega
@[simp] noncomputable def Ou:D->D->OB
 |.lst ds,.int k=>if 0<=k/\ds.length*k.toNat<=1000/\k<=1000 then some (.lst (List.replicate k.toNat ds).flatten,true)else none
 |_,_=>none
@[simp] def Ev (fa fb:FE):FE:=λY=>(fa Y).bind λx=>if x.2=true then (fb Y).bind λy=>Ou x.1 y.1 else none
theorem IsL.rep {K:Frag}{H:Hp}{vs:List V}{ds:List D}(h:IsL K H vs ds):∀k:Nat,IsL K H (List.replicate k vs).flatten (List.replicate k ds).flatten
 |0=>.nil
 |k+1=>by rw[List.replicate_succ,List.replicate_succ,List.flatten_cons,List.flatten_cons];exact h.append (IsL.rep h k)
section
variable {X:Cx}{a b:Expr}{pos:Pos}
theorem GH {fa fb:FE}(ha:JE X a fa)(hb:JE X b fb):JE X (.BinOp a .Mult b pos) (Ev fa fb):=by
 refine PE.to (Lr Nu ha hb) λU H Q q=>?_;obtain⟨B,Y,d,bb,sB,r,ee,q⟩:=q;obtain⟨x,ex,ee⟩:=oX ee;split at ee
 ·rename_i hx;obtain⟨⟨yd,yb⟩,ey,ee⟩:=oX ee;refine⟨B,Y,x.1,x.2,sB,r,ex,λv H1 N1 x1 i1 fr=>⟨N1,Y,yd,yb,x1.nh,r.mono x1.bn,ey,λu H2 N2 x2 i2 Sh=>?_⟩⟩;obtain⟨a0,vs,ds,rfl,e1,h0,h1,il⟩:=fr hx;rw[e1]at ee;clear Sh;cases i2<;>try (simp[Ou]at ee;done)
  rename_i k;simp only[Ou]at ee;split at ee
  ·rename_i hk;cases ee
   have hl:=il.length;refine⟨a0,k,vs,rfl,rfl,x2.nh _ _ (x2.bn _ _ h1),by omega,by omega,by rw[hl];exact vR hk.2.1 (by decide:(1000:Nat)<=sizeLine),λp hp=>?_⟩;have x3:=Ext.laid (o:=.lst (List.replicate k.toNat vs).flatten) x2.nh hp;have XE:=((il.mono x2.bn).mono x3.bn).rep k.toNat;exact q _ _ _ ((x1.trans x2).trans x3) (.lst (jl.of aJ) XE) λ_=>⟨_,_,_,rfl,rfl,(x1.trans x2).hh.free hp,aJ,XE⟩
  ·cases ee
 ·cases ee
end
def jn:List D->Option (List cE)
 |[]=>some []
 |d::ds=>(ln d).bind λk=>(jn ds).map (k :: ·)
theorem Bw {K:Frag}{B:Hp}:∀ {vs:List V}{ds:List D}{ks:List cE},IsL K B vs ds->jn ds=some ks->vs=ks.map kV
 |_,_,ks,.nil,e=>by simp[jn]at e;subst e;rfl
 |_,_,ks,.cons i is,e=>by
  simp only[jn]at e;obtain⟨k,h1,e⟩:=oX e;obtain⟨r,h2,rfl⟩:=oY e;rw[pB i h1,Bw is h2];rfl
@[simp] def GI (fo:FE)(fa:FA):FE:=λY=>(fo Y).bind λx=>(fa Y).bind λds=>match x.1 with
 |.dt kss vs=>if ds.length<=sizeLine then (jn ds).map λk=>((cz kss vs k).getD .non,false)else none
 |_=>none
section
variable {X:Cx}{o:Expr}{es:List Expr}{pos:Pos}
theorem GJ {dP cN ER:Pos}{x1:Nat}{fo:FE}{fa:FA}(hu:X.A.units+1<cLine)(ho:JE X o fo)(ha:JA X es fa)(m:M1 X o "get" dP (.Tuple es x1 ER) cN):JE X (.Call (.Attribute o "get" dP) [.Tuple es x1 ER] [] cN) (GI fo fa):=by
 refine PE.to (yv hu ho (AH ha) m) λU H Q q=>?_;obtain⟨B,Y,d,bb,sB,r,ee,q⟩:=q;obtain⟨x,ex,ee⟩:=oX ee;obtain⟨ds,ey,ee⟩:=oX ee;refine⟨B,Y,x.1,x.2,sB,r,ex,λv H1 N1 x1 i1 ff=>?_⟩;obtain⟨xd,xb⟩:=x;cases i1 with
 |@dt a ks vs ES h hl hs=>
  simp only at ee;split at ee
  ·rename_i hz;obtain⟨k,hk,ee⟩:=oY ee;cases ee
   refine⟨a,rfl,.inr ⟨_,.inl (x1.nh _ _ h)⟩,N1,Y,ds,x1.nh,r.mono x1.bn,ey,λus H2 N2 x2 i2=>?_⟩;have hv:=Bw i2 hk;have hul:us.length<=sizeLine:=by rw[i2.length];exact hz
   refine⟨hul,λp hp=>?_⟩;have x3:=Ext.laid (o:=.tup us) x2.nh hp;have ha2:N2 a=some (.dT (ks.zip vs)):=x2.bn _ _ h;refine⟨kK (ks.zip vs) k,.inr ⟨_,k,p,.inl (x3.nh _ _ (x3.bn _ _ ha2)),rfl,by rw[aJ,hv],rfl⟩,?_⟩;have Qd:=(hs.mono x2.bn).mono x3.bn;rcases rm k hl Qd with⟨v,d',e1,e2,i3⟩|⟨e1,e2⟩
   ·rw[e1];rw[e2]at q;exact(q.into ((x1.trans x2).trans x3)).one x3.nh i3
   ·rw[e1];rw[e2]at q;exact(q.into ((x1.trans x2).trans x3)).one x3.nh .non
  ·cases ee
 |_=>simp at ee
end
section
variable {K:Frag}{E:Ends}{U:St}{H:Hp}
def vg (i:Nat)(fk:FA)(fv:FE):FS:=λY=>match Y[i]? with
 |some (some (.dt ks vs,true))=>(fv Y).bind λv=>(fk Y).bind λkd=>(jn kd).bind λkk=>if bq v.1=true/\ks.length<sizeLine/\kd.length<=sizeLine then some (.nx (Y.set i (some (.dt (dW ks kk) (dX ks vs kk v.1),true))))else none
 |_=>none
theorem GK {i:Nat}{fk:FA}{fv:FE}(q:oG K (vg i fk fv) E U H):BX (Fk i) (QD (Pu K fk)) (tD K fv) E U H:=by
 obtain⟨B0,H0,Y,r,⟨N,s⟩,e,p⟩:=q;unfold vg at e;split at e
 ·rename_i ks ds ei;obtain⟨v,ev,e⟩:=oX e;obtain⟨kd,ek,e⟩:=oX e;obtain⟨kk,hk,e⟩:=oX e;split at e
  ·rename_i hx;cases e
   refine⟨N,Y,v.1,v.2,s.ext.nh,s.rep,ev,λv1 H1 N1 x1 i1 _=>?_⟩;have s1:=s.grow x1;obtain⟨a,o,h1,h2,h3,h4⟩:=s1.ow i _ ei;refine⟨.ref a,h1,N1,Y,kd,s1.ext.nh,s1.rep,ek,λus H2 N2 x2 i2=>?_⟩;have s2:=s1.grow x2;have hv:=Bw i2 hk;refine⟨by rw[i2.length];exact hx.2.2,λpp hp=>?_⟩;have x3:=Ext.laid (o:=.tup us) s2.ext.nh hp;have s3:=s2.grow x3;obtain⟨a',o',k1,k2,k3,k4⟩:=s3.ow i _ ei;rw[h1]at k1;cases k1
   cases k4 with
   |@dt ks vs ds hl h5=>
    refine⟨a,rfl,.inr ⟨_,kk,pp,s3.ext.nh _ _ k2,rfl,by rw[aJ,hv],?_,?_⟩⟩
    ·rw[List.length_zip];omega
    ·rw[qz hl];exact p U _ ⟨_,s3.writeB ei h1 (.dt (nM hl _ _) (h5.put (s3.flat ((i1.mono x2.bn).mono x3.bn) hx.1)))⟩
  ·cases e
 ·cases e
end
section
variable {X:Cx}{pos:Pos}{e:Expr}{es:List Expr}
theorem Kj (hu:X.A.units+1<cLine)(hv:JE X e fv)(hk:JA X es fk)(hN:X.N[i]? = some y:=by rfl)(BO:Fj X.env.scope y:=by first|exact Or.inl rfl|exact Or.inr (Or.inl rfl)|exact Or.inr (Or.inr rfl))(hd:(y == ("__debug__" : Str))=false:=by decide)
  (jT:(y == ("__classdict__" : Str))=false:=by decide) (hs:swapsWith e (some (.Subscript (.Name y py) (.Tuple es x1 ER) pt)) pos.line X.env=pure false:=by rfl):JS X (.Assign [.Subscript (.Name y py) (.Tuple es x1 ER) pt] e pos) (vg i fk fv) :=
 PS.to (wM hu (mE hN BO hd jT) (AH hk) hv hs) λ_ _ _ q=>GK q
end
end DL
namespace DL
open PySem PySem.Spec PySem.W PyProof.Rows L2
section
variable {X:Cx}{a b c:Expr}{p pos:Pos}
noncomputable def Ov (lo c:Int)(n:Nat):List D:=(List.range n).map λ(k:Nat)=>.int (lo+(k:Int)*c)
@[simp] def Tg (f g h:FE):FA:=λY=>(f Y).bind λx=>(g Y).bind λy=>(h Y).bind λz=>match x.1,y.1,z.1 with
 |.int i,.int j,.int c=>if(-1000<=i/\i<=1000/\-1000<=j/\j<=1000)/\(c=1∨c=2∨c=3)then some (Ov i c (Builtin.Range.rangeSize i j c).toNat)else none
 |_,_,_=>none
end
end DL
namespace L2
open PySem PySem.Spec PyProof.Rows
noncomputable def U4 (a:Addr)(aS:List (cE×V))(ob:Obj):It:=⟨λi H=>H a=some (.dK aS ob)/\i<aS.length,λi H x H'=>H'=H/\∃k,aS[i]? = some (k,x),λi H=>H a=some (.dK aS ob)/\aS.length<=i⟩
theorem KV.get {aS:List (cE×V)}{vs:List (cE×Value)}(r:KV aS vs){i:Nat}{k:cE}{x:V}(h:aS[i]? = some (k,x)):∃u,vs[i]? = some (k,u)/\bf x u:=by
 unfold KV at r;induction r generalizing i with
 |nil=>simp at h
 |@cons p q ps qs hq t ih=>
  cases i with
  |zero=>
   cases (show p=(k,x)from vK h)
   obtain⟨q1,q2⟩:=q;exact⟨q2,by rw[show k=q1 from hq.1];rfl,hq.2⟩
  |succ i=>exact ih h
theorem Rx (h:(c9 P w).is k u=true):bf (kV k) u:=by
 cases k with
 |inl i=>exact Value.isInt_shape h
 |inr z=>exact Value.isStrOf_shape h
section
variable {P:Program}{w:World}{H:Hp}{h:Heap}{a:Addr}
theorem rC (ok:ma P w H h)(e:H a=some (.dK aS ob))(hd:ob.data=.dict es ep):∃vs,KV aS vs/\h.DictAt (c9 P w) a vs ep:=by
 obtain⟨_,_,vs,r,o,Ff,PD,h1,h2,h3,h4⟩:=qH ok e;rw[AQ ok e]at h1;cases h1
 rw[hd]at h3;cases h3
 exact⟨vs,r,ob,es,AQ ok e,h2,hd,h4⟩
theorem x0 (ok:ma P w H h)(e:H a=some (.dK aS ob)):∃es ep,ob.data=.dict es ep:=by
 obtain⟨_,_,vs,r,o,Ff,PD,h1,h2,h3,h4⟩:=qH ok e;rw[AQ ok e]at h1;cases h1
 exact⟨Ff,PD,h3⟩
end
theorem Ew {P:Program}{w:World}{K:Frag}{tg:Expr}(a it:Addr)(aS:List (cE×V))(ob:Obj){es:Array DictEntry}{ep:Nat}(hd:ob.data=.dict es ep):Turn P w K tg (U4 a aS ob) [it] it (λi h=>h.IsValIter it a i aS.length ep) where
 mem:=by simp
 obj:=λi h st b hb=>by
  have e:b=it:=by simpa using hb
  subst e;obtain⟨o,e,c,d⟩:=st;exact⟨o,e,λv z=>by rw[d]at z;cases z⟩
 keep:=λi h h' st k=>st.at λo e=>k it (by simp) o e
 item:=by
  intro X hP hw hK hc i af s U H E I hf st hg;subst hP hw hK;obtain⟨hH,gs⟩:=hg;obtain⟨vs,r,m⟩:=rC I.hok hH hd;obtain⟨f0,f1,f2,f3,f4,f5⟩:=hf it (by simp);have hl:vs.length=aS.length:=(Paired.length r).symm;obtain⟨u,hu,ru⟩:=r.get (k:=aS[i].1) (x:=aS[i].2) (vU gs);refine wpAny_pyNext_values_item (by rw[hl];exact st) m hu λh' mC sb=>?_;rw[hl]at mC;have I1:Inv X af U H { s with heap:=h' }:=I.turned (t':=s.toks) (λb o hb e=>(sb.2 b hb).trans e) f0 f1 f3 f4 f5;obtain⟨o,e,c,d⟩:=id mC;exact⟨u,rfl,tX (s:={ s with heap:=h' }) e c d (by decide) ⟨aS[i].2,H,I1,ru,⟨rfl,aS[i].1,vU gs⟩,mC,λb hb=>(hf b hb).1⟩⟩
 done:=by
  intro X hP hw hK hc i af s U H E I hf st hg;subst hP hw hK;obtain⟨hH,Lg⟩:=hg;obtain⟨vs,r,m⟩:=rC I.hok hH hd;obtain⟨f0,f1,f2,f3,f4,f5⟩:=hf it (by simp);have hl:vs.length=aS.length:=(Paired.length r).symm;exact wpAny_pyNext_values_end (I.ok.hd hc) (by rw[hl];exact st) m (List.getElem?_eq_none (by omega)) λh' eb=>⟨rfl,I.turned (t':=s.toks) (λb o hb e=>eb b o hb e) f0 f1 f3 f4 f5⟩
 self:=λ_ _ _ _ _ st h=>wpAny_pyIter_valiter st h
section
variable {X:Cx}{tg:Expr}
def Ry (td:TE):TI:=λU H R=>td U H λx H1=>∃a aS ob,x=.ref a/\H1 a=some (.dK aS ob)/\R (U4 a aS ob) H1
theorem Kk {o:Expr}{td:TE}{dP cN:Pos}(ho:PE X o td)(ji:attributeBase o "values" X.env (eval o X.env)=eval o X.env:=by rfl)(jj:(dP.endLine == cN.line)=true:=by rfl):PI X tg (.Call (.Attribute o "values" dP) [] [] cN) (Ry td):=by
 intro af s U H R I h;refine wpAny_Call_method0_late ji jj (cL (ho af s U H _ I h) λv s1 ⟨x,H1,I1,r1,a,aS,ob,ex,hH,q⟩=>?_);subst ex;obtain⟨h1,h2⟩:=AO I1 r1 (T:="dict") (.inr (.inr (.inl ⟨rfl,.inl ⟨aS,ob,hH⟩⟩)));cases r1
 obtain⟨es,ep,hd⟩:=x0 I1.hok hH;obtain⟨vs,r,m⟩:=rC I1.hok hH hd;have hl:vs.length=aS.length:=(Paired.length r).symm;refine⟨"dict","dict.values",PySem.F.plainAttrs_dict,PySem.F.slot_dict_values,PySem.F.type_dict_values,h1,h2,Calls.callWith_builtin rfl (PySem.evalArgs_none ?_)⟩;refine call_meetsIn PySem.F.slot_dict_values h1 PySem.F.entry_dict_values (PySem.F.args_dict_values_1 _) (meets_dict_values (c9 X.prog X.w) a (qH I1.hok hH).2.1) ⟨⟨vs,m.dictOf⟩,?_⟩;have I2:Inv X af U H1 { s1 with heap:=s1.heap.push { cls:=.type "dict_values",data:=.fields #[.ref a] } }:=I1.kept (t':=s1.toks) λb o e=>vZ _ e;refine wpAny_pyIter_values (v:=s1.heap.objs.size) ⟨_,vY _ rfl,rfl,rfl⟩ (m.keep λb o e=>vZ _ e) ?_;rw[hl];refine⟨(s1.heap.push { cls:=.type "dict_values",data:=.fields #[.ref a] }).objs.size,[(s1.heap.push { cls:=.type "dict_values",data:=.fields #[.ref a] }).objs.size],_,_,H1,rfl,I2.kept (t':=s1.toks) λb o e=>vZ _ e,Ew a _ aS ob hd,⟨_,vY _ rfl,rfl,rfl⟩,λb hb=>?_,q⟩;have e:b=(s1.heap.push { cls:=.type "dict_values",data:=.fields #[.ref a] }).objs.size:=by simpa using hb
 subst e;exact I2.fpOk (vT _) (I2.hok.fresh (vT _))
end
end L2
namespace DL
open PySem PySem.Spec PySem.W PyProof.Rows L2
noncomputable def kD:cE->D
 |.inl i=>.int i
 |.inr z=>.str z
theorem Rz {K:Frag}{B:Hp}(k:cE):Is K B (kV k) (kD k):=by
 cases k with
 |inl i=>exact .int i
 |inr z=>exact .str z
section
variable {K:Frag}{B:Hp}
theorem Kl {a:Addr}{ks:List cE}{vs:List V}{ds:List D}{ob:Obj}(h:B a=some (.dK (ks.zip vs) ob))(hl:ks.length=vs.length)(hs:IsL K B vs ds):qe K (U4 a (ks.zip vs) ob) B ds:=by
 intro i H s;have hz:(ks.zip vs).length=vs.length:=by rw[List.length_zip];omega
 refine⟨λd ed=>?_,λbP=>⟨s _ _ h,by rw[hz,hs.length];exact bP⟩⟩;obtain⟨v,ev,iv⟩:=hs.get ed;have gs:i<vs.length:=(vV ev).1;refine⟨⟨s _ _ h,by rw[hz];exact gs⟩,λy H3 hy=>?_⟩;obtain⟨rfl,k,e⟩:=hy;have:=(List.getElem?_zip_eq_some.mp e).2;rw[ev]at this;cases this
 exact⟨B,.refl s,iv⟩
end
section
variable {X:Cx}{e:Expr}{tg:Expr}
@[simp] noncomputable def rE (f:FE):FA:=λY=>(f Y).bind λx=>match x.1 with|.dk _ ds=>some ds|_=>none
@[simp] noncomputable def U5 (f:FE):FA:=λY=>(f Y).bind λx=>match x.1 with|.dk ks _=>some (ks.map kD)|_=>none
theorem C7 (h:JE X e f)(ji:attributeBase e "values" X.env (eval e X.env)=eval e X.env:=by rfl)(jj:(dP.endLine == cN.line)=true:=by rfl):JI X tg (.Call (.Attribute e "values" dP) [] [] cN) (rE f):=by
 intro af s U H R I q;obtain⟨B,Y,ds,sB,r,e',q⟩:=q;obtain⟨⟨xd,xb⟩,ex,es⟩:=oX e';cases xd<;>try (cases es;done)
 cases es
 refine Kk h ji jj af s U H R I ⟨B,Y,_,_,sB,r,ex,λv H1 N1 x1 i1 _=>?_⟩;cases i1 with
 |@dk a ks vs ds ob hd hl hs=>exact⟨a,_,ob,rfl,x1.nh _ _ hd,q _ H1 N1 x1 (Kl hd hl hs)⟩
end
end DL
namespace DL
open PySem PySem.Spec PyProof.Rows L2
@[simp] abbrev bC (i:Nat)(j:Int):FE:=f2 bA (aj i) (fC (.int j))
theorem aZ (F:Fn X.prog X.w X.K X.mg X.base k x f)(hr:fD j X.A)(ha:JA X (e::es) fa)(hj:k<=j:=by decide)(hg:Gl X x:=by rfl)(tT:(x == ("__debug__" : Str))=false:=by decide)(he:starEach (e::es) X.env=(false,eval e X.env)::starEach es X.env:=by rfl)(nn:(backTo pos (starEach es X.env)).any (·.1)=false:=by rfl):JE X (.Call (.Name x p) (e::es) [] pos) (fA f fa):=Ca F (hr.mono hj) ha hg tT he nn
theorem R0 (h1:∀y∈scope.names,y.2≠.cell:=by decide +kernel)(h2:scope.kind=.function:=by rfl)(h3:∀y∈scope.names,y.2=.local->scope.names.lookup y.1=some .local:=by decide +kernel)(PK:(scope.names.all λy=>!(y.2 == NameKind.free) || (X.env.cells.lookup y.1).isSome)=true:=by rfl):CompSc X scope (eD scope.names X.env.cells []):=NC h1 h2 h3 PK
theorem W5 (h1:N'[j]? = some x)(h2:X.N[i]? = some x)(t:o9 X N' scope (eD scope.names X.env.cells []) (j+1) r)(h3:X.env.kindOf x=some .cell∨X.env.kindOf x=some .free:=by exact Or.inl rfl)(h4:(relabel scope X.env).names.lookup x=some .cell∨(relabel scope X.env).names.lookup x=some .free:=by exact Or.inl rfl)(hf:(x,NameKind.free)∈scope.names:=by decide +kernel)(hc:(X.env.cells.lookup x).isSome=true:=by rfl):o9 X N' scope (eD scope.names X.env.cells []) j (i::r):=.cons h1 h2 h3 h4 (qr hf hc) t
end DL
namespace DL
open PySem PySem.Spec PySem.W PyProof.Rows L2
noncomputable def oU:At->D
 |.i n=>.int n
 |.s z=>.str z
section
variable {prog:Program}{w:World}{A:Around}{E:Value->Shared->Prop}{s:Shared}
theorem R1 (hx:A7 x u)(hy:A7 y v):SeqAt.EqAt A s u v (bE (oU x) (oU y)):=by
 cases x with
 |i a=>
  obtain⟨t,rfl⟩:=hx;cases y with
  |i c=>obtain⟨t',rfl⟩:=hy;simp only[oU,bE];exact SeqAt.EqAt.int_int _ _ _ _
  |s c=>obtain⟨t',rfl⟩:=hy;simp only[oU,bE];exact SeqAt.EqAt.int_str _ _ _ _
 |s a=>
  obtain⟨t,rfl⟩:=hx;cases y with
  |i c=>obtain⟨t',rfl⟩:=hy;simp only[oU,bE];exact SeqAt.EqAt.str_int _ _ _ _
  |s c=>obtain⟨t',rfl⟩:=hy;simp only[oU,bE];exact SeqAt.EqAt.str_str _ _ _ _
theorem C8:∀ {xs ys:List At}{vs:List Value},Paired A7 xs vs->Paired A7 ys vs->xs=ys
 |_,_,_,.nil,.nil=>rfl
 |x::xs,y::ys,_,.cons p ps,.cons q qs=>by
  rw[C8 ps qs];congr 1;cases x with
  |i a=>
   obtain⟨t,rfl⟩:=p;cases y with
   |i c=>obtain⟨t',e⟩:=q;cases e;rfl
   |s c=>obtain⟨t',e⟩:=q;cases e
  |s a=>
   obtain⟨t,rfl⟩:=p;cases y with
   |i c=>obtain⟨t',e⟩:=q;cases e
   |s c=>obtain⟨t',e⟩:=q;cases e;rfl
theorem Ow (x y:At):bE (oU x) (oU y)=true↔x=y:=by
 cases x<;>cases y<;>simp[oU]
theorem q8:∀xs ys:List At,dh (xs.map oU) (ys.map oU)=true↔xs=ys
 |[],[]=>by simp[dh]
 |[],_::_=>by simp[dh]
 |_::_,[]=>by simp[dh]
 |x::xs,y::ys=>by
  rw[uY,uY,dh,vC,Ow,q8 xs ys];simp
theorem Ox (hx:ia s.heap xs x)(hy:ia s.heap ys y)(hu:A.units<cLine):SeqAt.EqAt A s x y (dh (xs.map oU) (ys.map oU)):=by
 obtain⟨a,o,its,n,rfl,ho,hc,hd,r⟩:=hx;obtain⟨b,o',hW,m,rfl,tQ,KQ,BL,r'⟩:=hy;by_cases hab:a=b
 ·subst hab;rw[ho]at tQ;cases tQ;rw[hd]at BL;cases BL;rw[C8 r r',(q8 ys ys).mpr rfl];exact SeqAt.EqAt.same _
 ·have t1:s.heap.IsTuple a its:=⟨o,ho,hc,n,hd⟩;have t2:s.heap.IsTuple b hW:=⟨o',tQ,KQ,m,BL⟩;have l1:xs.length=its.size:=by rw[←vG];exact g7 r
  have l2:ys.length=hW.size:=by rw[←vG];exact g7 r'
  have he:∀j (h1:j<its.size) (h2:j<hW.size),SeqAt.EqAt A.in1 s its[j] hW[j] (bE ((xs.map oU).getD j .non) ((ys.map oU).getD j .non)):=λj h1 h2=>by
   have p:=fL (.i 0) Value.none r (i:=j) (by omega);have q:=fL (.i 0) Value.none r' (i:=j) (by omega);have e1:its.toList.getD j Value.none=its[j]:=by rw[vF,Array.getElem?_toList,Array.getElem?_eq_getElem h1];rfl
   have e2:hW.toList.getD j Value.none=hW[j]:=by rw[vF,Array.getElem?_toList,Array.getElem?_eq_getElem h2];rfl
   rw[e1]at p;rw[e2]at q;have e3:(xs.map oU).getD j .non=oU (xs.getD j (.i 0)):=by simp[vF,show j<xs.length by omega]
   have e4:(ys.map oU).getD j .non=oU (ys.getD j (.i 0)):=by simp[vF,show j<ys.length by omega]
   rw[e3,e4];exact R1 p q
  have rc:=SeqAt.RcAt.tuples t1 t2 hu he;have RY:((List.range (min its.size hW.size)).all (λj=>bE ((xs.map oU).getD j .non) ((ys.map oU).getD j .non)) && its.size == hW.size)=dh (xs.map oU) (ys.map oU):=by
   rw[←l1,←l2];by_cases hl:xs.length=ys.length
   ·rw[←hl,Nat.min_self,beq_self_eq_true,Bool.and_true];have:=jZ (λj=>bE ((xs.map oU).getD j .non) ((ys.map oU).getD j .non)) (xs:=xs.map oU) (ys:=ys.map oU) (by simpa using hl) λj x y e1 e2=>wR j x y e1 e2;rwa [vI]at this
   ·rw[wQ (by simpa using hl),beq_eq_false_iff_ne.mpr hl,Bool.and_false]
  rw[RY]at rc;exact SeqAt.EqAt.of_refs hab rc
theorem Ex (xs:List At):bd xs xs=some false:=by
 induction xs with
 |nil=>rfl
 |cons x xs ih=>cases x<;>rw[bd,if_pos rfl,ih]
theorem GL (hx:ia s.heap xs x)(hy:ia s.heap ys y)(h:bd (.i n::xs) (.i m::ys)=some b)(hu:A.units<cLine)(q:Q b s)(hn:A7 (.i n) u)(hm:A7 (.i m) v):KatLex prog w A true false Q [(u,v),(x,y)] 0 s:=by
 obtain⟨t,rfl⟩:=hn;obtain⟨t',rfl⟩:=hm;refine kat_cons (wpAny_eqBool_int ?_);rw[bd]at h;by_cases e:n=m
 ·rw[if_pos e]at h;rw[show(n == m)=true by simp[e]];refine kat_yes (kat_cons (Ox hx hy hu _ _ _ _ ?_));by_cases e2:xs=ys
  ·rw[(q8 xs ys).mpr e2];rw[e2,Ex]at h;cases h
   exact kat_yes (kat_nil q)
  ·rw[Bool.eq_false_iff.mpr λz=>e2 ((q8 xs ys).mp z)];refine kat_no (kat_one _ _ ?_);show wpAny _ _ (richCompare .Lt x y) _ _ _;exact G8 (Q:=W.BoolBack Q) hx hy h hu (by first|exact q|exact⟨b,rfl,q⟩)
 ·rw[if_neg e]at h;cases h
  rw[show(n == m)=false by simp[e]];exact kat_no (oneLt_int q)
end
def Ey (h:Heap)(xs:List At)(v:Value):Prop:=∃n k a o its m u x,xs=.i n::k/\v=.ref a/\h.get? a=some o/\o.cls=.type "tuple"/\o.data=.seq its m/\its.toList=[u,x]/\A7 (.i n) u/\ia h k x
section
variable {prog:Program}{w:World}{A:Around}{E:Value->Shared->Prop}{s:Shared}
theorem Km (hx:Ey s.heap xs x)(hy:Ey s.heap ys y)(h:bd xs ys=some b)(hu:A.units<cLine)(q:Q b s):wpAny (model prog w) A (keyLt' (tuples' true) x y) Q E s:=by
 obtain⟨n,k,a,o,its,m,u,x',rfl,rfl,ho,_,hd,ei,an,tx⟩:=hx;obtain⟨n',k',a',o',its',m',u',y',rfl,rfl,tQ,_,BL,XF,an',ty⟩:=hy;refine kat_lt ho hd tQ BL ?_;rw[ei,XF];have hf:decide (its.size<its'.size)=false:=by
  rw[←vG,←vG,ei,XF];rfl
 rw[hf];exact GL tx ty h hu q an an'
theorem pC:∀ {ks:List (List At)}{vs:List Value},Paired (Ey h) ks vs->∃fs,KatTups h vs fs/\fs.length=ks.length/\∀v∈fs,∃n,A7 (.i n) v
 |_,_,.nil=>⟨[],trivial,rfl,by simp⟩
 |k::ks,_,.cons x t=>by
  obtain⟨fs,h1,h2,h3⟩:=pC t;obtain⟨n,k,a,o,its,m,u,x',rfl,rfl,ho,hc,hd,ei,an,_⟩:=x;refine⟨u::fs,KatTups.cons ho hc hd (by rw[←Array.getElem?_toList,ei];rfl) h1,by simp[h2],λv hv=>?_⟩;rcases vP hv with rfl|hv
  ·exact⟨n,an⟩
  ·exact h3 v hv
theorem Ez (hp:Paired (Ey s.heap) ks vs)(hn:0<ks.length)(q:Q (tuples' true) s):wpAny (model prog w) A (keyKind' vs.toArray) Q E s:=by
 obtain⟨fs,h1,h2,h3⟩:=pC hp;refine kat_kind (T:=.type "int") h1 (by omega) (λv hv=>?_) (by decide) q;obtain⟨n,t,rfl⟩:=h3 v hv;exact .now
theorem GN (hc:eZ ks=true)(hu:A.units<cLine)(hp:Paired (Ey s.heap) ks vs):∀(i j:Nat)(C:Bool->Shared->Prop)(s1:Shared),i<ks.length->j<ks.length->s1=s->(∀s',s'=s->C (qX (Iz ks) i j) s')->kas_ask prog w A (tuples' true) vs i j C s1:=by
 intro i j C s1 hi hj e hC;subst e;unfold kas_ask;have mi:ks.getD i []∈ks:=by rw[vF,vU hi];exact List.getElem_mem hi
 have mj:ks.getD j []∈ks:=by rw[vF,vU hj];exact List.getElem_mem hj
 refine Km (fL [] Value.none hp hi) (fL [] Value.none hp hj) (iB hc mi mj) hu ?_;have:=hC s1 rfl;unfold qX Iz at this;rw[zi (uS ⟨_,mi,rfl⟩)]at this;exact this
end
def Oy:D->Option (List At)
 |.tup [.int n,.tup es]=>(eJ es).map (.i n :: ·)
 |_=>none
def jJ:List D->Option (List (List At))
 |[]=>some []
 |d::ds=>(Oy d).bind λa=>(jJ ds).map (a :: ·)
theorem vh:∀ {ds:List D}{ks:List (List At)},jJ ds=some ks->ks.length=ds.length
 |[],_,h=>by simp only[jJ]at h;cases h;rfl
 |d::ds,_,h=>by
  simp only[jJ]at h;obtain⟨a,h1,h⟩:=oX h;obtain⟨r,h2,h⟩:=oY h;subst h;simp[vh h2]
theorem zw (I:Inv X af U H s):∀ {ys:List V}{ds:List D}{ks:List (List At)}{its:List Value},bp ys its->IsL X.K H ys ds->jJ ds=some ks->Paired (Ey s.heap) ks its
 |_,_,_,_,.nil,.nil,h=>by simp only[jJ]at h;cases h;exact .nil
 |_,_,_,_,.cons r rr,.cons i ii,h=>by
  simp only[jJ]at h;obtain⟨a,h1,h⟩:=oX h;obtain⟨t,h2,h⟩:=oY h;subst h;refine .cons ?_ (zw I rr ii h2);unfold Oy at h1;split at h1
  ·rename_i n es;obtain⟨k,VH,rfl⟩:=oY h1;cases i with
   |tup hq hl=>
    cases r
    obtain⟨its',r',⟨o,ho,hc,m,hd⟩,_⟩:=I.tuple hq;cases hl with
    |cons i1 hl=>
     cases hl with
     |cons i2 hl=>
      cases hl
      cases r' with
      |cons r1 r'=>
       cases r' with
       |cons r2 r'=>
        cases r'
        cases i1
        have hk:dU [D.tup es]=some [k]:=by show(eJ es).bind _=_;rw[VH];rfl
        have ht:=qx I (.cons r2 .nil) (.cons i2 .nil) hk;cases ht with
        |cons ht _=>exact⟨n,k,_,o,_,m,_,_,rfl,rfl,ho,hc,hd,rfl,r1,ht⟩
  ·cases h1
theorem Kn (hu:A.units<cLine):KK X A jJ λ_=>true:=⟨vh,λI _ _ _ _ r i e _ hc=>have hp:=zw I r i e;⟨λhn _ _ q=>Ez hp hn q,GN hc hu hp⟩⟩
theorem GO (hu:X.A.units+40<cLine):KK X X.A.in1.in1 jJ λ_=>true:=Kn (show X.A.units+1+1<cLine by omega)
@[simp] abbrev By:FE->(Env->D->Option D)->FE:=xy jJ λ_=>true
end DL
namespace DL
open PySem PySem.Spec PyProof.Rows L2
def R3:Nat->(List Value->Prop)->Prop
 |0,P=>P []
 |n+1,P=>∀a,R3 n λl=>P (a::l)
theorem Oz:∀n P,R3 n P->∀us:List Value,us.length=n->P us
 |0,_,h,[],_=>h
 |n+1,_,h,a::us,e=>Oz n _ (h a) us (Nat.succ.inj e)
section
variable {P:Program}{w:World}{K:Frag}{mg:Str->Option Value}{base:Heap}
def KC (K:Frag)(mg:Str->Option Value)(x:Str)(c:D):Prop:=∃u v,mg x=some u/\bf v u/\∀B,Is K B v c
def KD (w:World)(K:Frag)(mg:Str->Option Value)(x:Str)(c:List (Str×D)):Prop:=∃d,mg x=some (.ref d)/\ux K w.params d c
theorem kc_of {x:Str}{c:D}{h:Heap}(X:K.In h)(G:h.Ns mainGlobals mg)(k:∃u v,nsIn K mainGlobals x=some (some u)/\bf v u/\∀B,Is K B v c):KC K mg x c:=let ⟨u,v,e,r⟩:=k;⟨u,v,mg_of X G e,r⟩
theorem kd_of {x:Str}{c:List (Str×D)}{h:Heap}(X:K.In h)(G:h.Ns mainGlobals mg)(k:∃d,nsIn K mainGlobals x=some (some (.ref d))/\ux K w.params d c):KD w K mg x c:=let ⟨d,e,r⟩:=k;⟨d,mg_of X G e,r⟩
theorem dj.fqL {x:Str}{st:Stmt}{k:Nat}{F':List D->OB}(F:dj K x st)(B:∃h,K.In h/\h.Ns mainGlobals mg)(g:FS)(N:List Str)(n:Nat)
  (hb:∀ {f:Addr}{ft:Value}{A:Around}{outer:List PySem.Env}{s:Shared}{H:Hp}{E:XK},N.Nodup->fD k (A.deeper (envOfC x (bc st) s.heap.objs.size f ft))->(A.deeper (envOfC x (bc st) s.heap.objs.size f ft)).units+40<cLine->(∀c P,PySem.W.tabIn K x=some (c,P)->ft=.ref c)->xZ (qc A3 P w K mg base N x (bc st) f ft A outer s H E).nox (cQ st) g)
  (S:FnScope N (N.take n) (bc st):=by refine⟨rfl,rfl,rfl,?_,rfl,?_,?_⟩<;>decide +kernel)
  (Lf:∀(kV doc pm:Value)(an:Option Addr)(ft ct:Value)(us:List Value),us.length=(N.take n).length->bindArgs (fnOf x x (gH st) (cQ st) (bc st) .none kV doc pm an ft ct) ⟨us,[]⟩=pure ((N.take n).zip us):=by
   exact λ_ _ _ _ _ _=>Oz _ _ (by(repeat intro);rfl))
  (e:aO g (N.take n).length (N.length - (N.take n).length)=F':=by rfl):
  Fn P w K mg base (k+1) x F':=let ⟨_,X,G⟩:=B;e ▸ F.fnL X G S Lf λ_ _ _ _ _ _ _ hc hr=>hb S.nd hr (Ec hr) hc
theorem dj.fq {x:Str}{st:Stmt}{k:Nat}{F':List D->OB}(F:dj K x st)(B:∃h,K.In h/\h.Ns mainGlobals mg)(g:FS)(N:List Str)(n:Nat)
  (hb:∀ {f:Addr}{ft:Value}{A:Around}{outer:List PySem.Env}{s:Shared}{H:Hp}{E:XK},N.Nodup->fD k (A.deeper (envOfC x (bc st) s.heap.objs.size f ft))->(A.deeper (envOfC x (bc st) s.heap.objs.size f ft)).units+40<cLine->xZ (qc A3 P w K mg base N x (bc st) f ft A outer s H E).nox (cQ st) g)
  (S:FnScope N (N.take n) (bc st):=by refine⟨rfl,rfl,rfl,?_,rfl,?_,?_⟩<;>decide +kernel)
  (Lf:∀(kV doc pm:Value)(an:Option Addr)(ft ct:Value)(us:List Value),us.length=(N.take n).length->bindArgs (fnOf x x (gH st) (cQ st) (bc st) .none kV doc pm an ft ct) ⟨us,[]⟩=pure ((N.take n).zip us):=by
   exact λ_ _ _ _ _ _=>Oz _ _ (by(repeat intro);rfl))
  (e:aO g (N.take n).length (N.length - (N.take n).length)=F':=by rfl):
  Fn P w K mg base (k+1) x F':=F.fqL B g N n (λn r u _=>hb n r u) S Lf e
end
section
variable {X:Cx}{x:Str}{pos:Pos}
theorem C9 (i:Nat)(hN:X.N.Nodup)(hi:X.N[i]? = some x:=by rfl)(hx:Iq X.env.scope x:=by first|exact Or.inl rfl|exact Or.inr rfl)(hf:X.fn x=true∨X.env.scope.names.lookup x=some .local:=by first|exact .inl rfl|exact .inr rfl):PG X (.Name x pos) (kF i):=BR hN hi hx hf
theorem P6 {fp}(i:Nat)(hN:N'.Nodup:=by decide +kernel)(hi:(ju X N' scope cl C s H fp).N[i]? = some x:=by rfl)(hx:Iq (ju X N' scope cl C s H fp).env.scope x:=by exact Or.inl rfl)(hf:(ju X N' scope cl C s H fp).fn x=true∨(ju X N' scope cl C s H fp).env.scope.names.lookup x=some .local:=by first|exact .inl rfl|exact .inr rfl):PG (ju X N' scope cl C s H fp) (.Name x pos) (kF i):=BR hN hi hx hf
theorem gn (N':List Str)(hi:JI X tg dB fi)(hc:∀ {C s H fp},JC (ju X N' scope (eD scope.names X.env.cells []) C s H fp) tu fc)(he:∀ {C s H fp},JE (ju X N' scope (eD scope.names X.env.cells []) C s H fp) tU fe)
  (HZ:L4 X.K nT qC g:=by first|exact yz (by decide)|exact LV (by decide)) (hg:∀ {C s H fp},PG (ju X N' scope (eD scope.names X.env.cells []) C s H fp) tg g:=by intros;first|exact P6 0|exact AA rfl (gK (P6 0) (gK (P6 1) qq)))
  (cp:o9 X N' scope (eD scope.names X.env.cells []) nT cap:=by repeat first|exact .nil rfl|refine W5 rfl rfl ?_)
  (S:CompSc X scope (eD scope.names X.env.cells []):=by exact R0) (kJ:X.calm=true:=by rfl)
  (hs:∀x,foldedSetIterable dB X.env x=pure x:=by intro _;rfl):
  JE X (.ListComp tU [⟨tg,dB,tu,0⟩] scope pos) (bV fi nT cap qC fc fe):=Jr kJ S cp hi (λ_ _ _ _=>hg) HZ (λ_ _ _ _=>hc) (λ_ _ _ _=>he) hs
theorem pD (N':List Str)(hN:X.N.Nodup)(hi:JI X tg dB fi)(hc:∀ {C s H fp},JC (ju X N' scope (eD scope.names X.env.cells []) C s H fp) tu fc)(he:∀ {C s H fp},JE (ju X N' scope (eD scope.names X.env.cells []) C s H fp) tU fe)
  (HZ:L4 X.K nT qC g:=by first|exact yz (by decide)|exact LV (by decide)) (hg:∀ {C s H fp},PG (ju X N' scope (eD scope.names X.env.cells []) C s H fp) tg g:=by intros;first|exact P6 0|exact AA rfl (gK (P6 0) (gK (P6 1) qq)))
  (cp:o9 X N' scope (eD scope.names X.env.cells []) nT cap:=by repeat first|exact .nil rfl|refine W5 rfl rfl ?_)
  (My:X.N[i]? = some y:=by rfl) (hy:X.env.kindOf y=some .local:=by rfl)
  (RX:swapsWith (.ListComp tU [⟨tg,dB,tu,0⟩] scope pos) (some (.Name y py)) spos.line X.env=pure true:=by rfl)
  (S:CompSc X scope (eD scope.names X.env.cells []):=by exact R0) (kJ:X.calm=true:=by rfl)
  (hs:∀x,foldedSetIterable dB X.env x=pure x:=by intro _;rfl):
  JS X (.Assign [.Name y py] (.ListComp tU [⟨tg,dB,tu,0⟩] scope pos) spos) (aQ i (bV fi nT cap qC fc fe)):=Js kJ hN My hy RX S cp hi (λ_ _ _ _=>hg) HZ (λ_ _ _ _=>hc) (λ_ _ _ _=>he) hs
theorem vi (hi:JI X tg dB fi)(hg:PG X tg t)(ht:Jo X.K qC t)(hb:xZ X body g)(hp:PassesOwn (model X.prog X.w) X.A X.env X.xe:=by exact PassesOwn.never)(hc:X.calm=true:=by rfl)
  (hs:∀x,foldedSetIterable dB X.env x=pure x:=by intro _;rfl):JS X (.For tg dB body [] pos) (qL fi qC g):=NJ hp hc hi hg ht hb hs
theorem zx (hi:PI X tg dB (SV X.K fi))(hg:PG X tg t)(ht:Jo X.K qC t)(hb:xZ X body g)(hp:PassesOwn (model X.prog X.w) X.A X.env X.xe:=by exact PassesOwn.never)(hc:X.calm=true:=by rfl)
  (hs:∀x,foldedSetIterable dB X.env x=pure x:=by intro _;rfl):JS X (.For tg dB body [] pos) (mm fi qC g):=Jz hp hc hi hg ht hb hs
end
end DL
namespace DL
open PySem PySem.Spec PySem.W PyProof.Rows L2
section
variable {prog:Program}{w:World}{A:Around}{E:Value->Shared->Prop}{s:Shared}
theorem R4:CmR prog w A s .GtE (λxs ys r=>bd xs ys=some (!r)) (λm n=>decide (n<=m)) where
 ei h:=by rwa [bd,if_pos rfl]at h
 es h:=by rwa [bd,if_pos rfl]at h
 ni {a c _ _ r} e h _ _ _ _ q:=by
  rw[bd,if_neg e]at h;have h:=vK h;exact PyProof.Rows.ge_int (by rw[show decide (c<=a)=r by rw[←Bool.not_not r,←h,←decide_not];congr 1;rw[Int.not_lt]];exact q)
 ns {a c _ _ r} e h _ _ _ _ q:=by
  rw[bd,if_neg e]at h;have h:=vK h;exact PySem.P.ge_str (by rw[show(!decide (a.cps.toList<c.cps.toList))=r by rw[h,Bool.not_not]];exact q)
 mx:=by simp[bd]
 en:=λ{xs r}=>by cases xs<;>cases r<;>simp[bd]
 fs:=by simp
theorem O0 (hx:ia s.heap xs x)(hy:ia s.heap ys y)(h:bd xs ys=some r)(hu:A.units<cLine)(q:Q (.bool (!r)) s):wpAny (model prog w) A (richCompare .GtE x y) Q E s:=by
 have tx:=hx.type;have ty:=hy.type;obtain⟨a,_,_,_,rfl,_⟩:=id hx;obtain⟨b,_,_,_,rfl,_⟩:=id hy;exact wpAny_richCompare_same_room (op:=.GtE) tx ty PySem.F.slot_tuple_ge (wpAny_call_entry PySem.F.slot_tuple_ge tx PySem.F.entry_tuple_ge (G7 R4 (λ_ _=>rfl) (.inr (.inr rfl)) hx hy (show bd xs ys=some (!!r) by rw[Bool.not_not];exact h) ⟨_,rfl,(λe=>nomatch e),q⟩) (PySem.F.args_tuple_ge_2 _ _)) hu
end
section
variable {X:Cx}
@[simp] def nGe:D->D->OB
 |.tup [.int n,.tup xs],.tup [.int m,.tup ys]=>(eJ xs).bind λas=>(eJ ys).bind λbs=>(bd (.i n::as) (.i m::bs)).map λr=>(.bl (!r),false)
 |_,_=>none
end
theorem rF:entryFor table "dict_itemiterator.__iter__" = some Builtin.«dict_keyiterator.__iter__»:=entryFor_alias (id':="dict_keyiterator.__iter__") (by kernel_rfl) rfl (by decide +kernel) (by kernel_rfl)
theorem xA (he:IsItemIter s.heap it d i n ep ok ov)(h:Q (.ref it) s):wpAny (model prog w) A (pyIter (.ref it)) Q E s:=by
 have hT:s.TypeIs (.ref it) "dict_itemiterator":=⟨_,he,rfl⟩;refine wpAny_pyIter_slot hT PySem.F.slot_dict_itemiterator_iter (wpAny_call_entry PySem.F.slot_dict_itemiterator_iter hT rF ?_ (PySem.F.args_dict_itemiterator_iter_1 _));show wpAny _ _ (ret (.ref it)) _ _ s;exact wY ⟨_,rfl,"dict_itemiterator",_,hT,PySem.F.slot_dict_itemiterator_next.lookup,h⟩
noncomputable def U6 (a:Addr)(aS:List (cE×V))(ob:Obj):It:=⟨λi H=>H a=some (.dK aS ob)/\i<aS.length,λi H y H'=>∃T k v,y=.ref T/\H T=none/\H'=upd H T (.tup [kV k,v])/\aS[i]? = some (k,v),λi H=>H a=some (.dK aS ob)/\aS.length<=i⟩
theorem Bz {P:Program}{w:World}{K:Frag}{es:List Expr}{kt:Nat}{pt:Pos}(a it:Addr)(aS:List (cE×V))(ob:Obj){ds:Array DictEntry}{ep:Nat}(hd:ob.data=.dict ds ep):Turn P w K (.Tuple es kt pt) (U6 a aS ob) [it] it (λi h=>∃ok ov,IsItemIter h it a i aS.length ep ok ov) where
 mem:=by simp
 obj:=λi h st b hb=>by
  have e:b=it:=by simpa using hb
  subst e;obtain⟨ok,ov,e⟩:=st;exact⟨_,e,λv z=>by cases z⟩
 keep:=λi h h' st k=>let ⟨ok,ov,e⟩:=st;⟨ok,ov,k it (by simp) _ e⟩
 item:=by
  intro X hP hw hK hc i af s U H E I hf st hg;subst hP hw hK;obtain⟨ok,ov,he⟩:=st;obtain⟨hH,gs⟩:=hg;obtain⟨vs,r,m⟩:=rC I.hok hH hd;have hl:vs.length=aS.length:=(Paired.length r).symm;obtain⟨u,hu,ru⟩:=r.get (k:=aS[i].1) (x:=aS[i].2) (vU gs);have fresh:H s.heap.objs.size=none:=I.hok.fresh (vT _);have Tz:it≠s.heap.objs.size:=vS (vX he);refine wpAny_pyNext_items_item (by rw[hl];exact he) m hu λkey h' EQ ho hT hsz hk=>?_;rw[hl]at ho;refine⟨_,rfl,wpAny_letOwnedTupleGo_items (s:={ s with heap:=h' }) ho λh2 PN s2=>?_⟩;have PP:Heap.SameBut it h' h2:=s2;have kk:∀b o,b∉[it]->s.heap.get? b=some o->h2.get? b=some o:=λb o hb q=>PP.extBut _ _ (λz=>hb (by simp[z])) (hk b o (λz=>hb (by simp[z])) q);have new:bZ X.prog X.w (upd H s.heap.objs.size (.tup [kV aS[i].1,aS[i].2])) h2 s.heap.objs.size (.tup [kV aS[i].1,aS[i].2]):=⟨by show 2<=sizeLine;decide,[key,u],.cons (Rx EQ) (.cons ru .nil),⟨_,PP.extBut _ _ Tz.symm hT,rfl,_,rfl⟩⟩;refine⟨.ref s.heap.objs.size,upd H s.heap.objs.size (.tup [kV aS[i].1,aS[i].2]),LW (s:=s) (t':=s.toks) I hf kk (vT _) new,rfl,⟨_,aS[i].1,aS[i].2,rfl,fresh,rfl,vU gs⟩,⟨_,_,PN⟩,λb hb=>?_⟩;have oA:b≠s.heap.objs.size:=by
   have e:b=it:=by simpa using hb
   rw[e];exact Tz
  rw[aP oA];exact(hf b hb).1
 done:=by
  intro X hP hw hK hc i af s U H E I hf st hg;subst hP hw hK;obtain⟨ok,ov,he⟩:=st;obtain⟨hH,Lg⟩:=hg;obtain⟨vs,r,m⟩:=rC I.hok hH hd;have hl:vs.length=aS.length:=(Paired.length r).symm;exact wpAny_pyNext_items_end (I.ok.hd hc) (by rw[hl];exact he) m (List.getElem?_eq_none (by omega)) λh' hk=>⟨rfl,qw (t':=s.toks) I hf λb o hb q=>hk b o (λz=>hb (by simp[z])) q⟩
 self:=λ_ _ _ _ _ st h=>let ⟨_,_,he⟩:=st;xA he h
section
variable {X:Cx}{es:List Expr}{kt:Nat}{pt:Pos}{e:Expr}
def U7 (td:TE):TI:=λU H R=>td U H λx H1=>∃a aS ob,x=.ref a/\H1 a=some (.dK aS ob)/\R (U6 a aS ob) H1
theorem GP {o:Expr}{td:TE}{dP cN:Pos}(ho:PE X o td)(ji:attributeBase o "items" X.env (eval o X.env)=eval o X.env:=by rfl)(jj:(dP.endLine == cN.line)=true:=by rfl):PI X (.Tuple es kt pt) (.Call (.Attribute o "items" dP) [] [] cN) (U7 td):=by
 intro af s U H R I h;refine wpAny_Call_method0_late ji jj (cL (ho af s U H _ I h) λv s1 ⟨x,H1,I1,r1,a,aS,ob,ex,hH,q⟩=>?_);subst ex;obtain⟨h1,h2⟩:=AO I1 r1 (T:="dict") (.inr (.inr (.inl ⟨rfl,.inl ⟨aS,ob,hH⟩⟩)));cases r1
 obtain⟨es,ep,hd⟩:=x0 I1.hok hH;obtain⟨vs,r,m⟩:=rC I1.hok hH hd;have hl:vs.length=aS.length:=(Paired.length r).symm;refine⟨"dict","dict.items",PySem.F.plainAttrs_dict,PySem.F.slot_dict_items,PySem.F.type_dict_items,h1,h2,Calls.callWith_builtin rfl (PySem.evalArgs_none ?_)⟩;refine call_meetsIn PySem.F.slot_dict_items h1 PySem.F.entry_dict_items (PySem.F.args_dict_items_1 _) (meets_dict_items (c9 X.prog X.w) a (qH I1.hok hH).2.1) ⟨⟨vs,m.dictOf⟩,?_⟩;have I2:Inv X af U H1 { s1 with heap:=s1.heap.push { cls:=.type "dict_items",data:=.fields #[.ref a] } }:=I1.kept (t':=s1.toks) λb o e=>vZ _ e;refine wpAny_pyIter_items (v:=s1.heap.objs.size) ⟨_,vY _ rfl,rfl,rfl⟩ (m.keep λb o e=>vZ _ e) ?_;rw[hl];refine⟨(s1.heap.push { cls:=.type "dict_items",data:=.fields #[.ref a] }).objs.size,[(s1.heap.push { cls:=.type "dict_items",data:=.fields #[.ref a] }).objs.size],_,_,H1,rfl,I2.kept (t':=s1.toks) λb o e=>vZ _ e,Bz a _ aS ob hd,⟨_,_,vY _ rfl⟩,λb hb=>?_,q⟩;have e:b=(s1.heap.push { cls:=.type "dict_items",data:=.fields #[.ref a] }).objs.size:=by simpa using hb
 subst e;exact I2.fpOk (vT _) (I2.hok.fresh (vT _))
noncomputable def mM (ks:List cE)(ds:List D):List D:=(ks.zip ds).map λx=>.tup [kD x.1,x.2]
theorem GQ {K:Frag}{B:Hp}{a:Addr}{ks:List cE}{vs:List V}{ds:List D}{ob:Obj}(h:B a=some (.dK (ks.zip vs) ob))(hl:ks.length=vs.length)(hs:IsL K B vs ds):qe K (U6 a (ks.zip vs) ob) B (mM ks ds):=by
 intro i H s;have hz:(ks.zip vs).length=vs.length:=by rw[List.length_zip];omega
 have hn:=hs.length;refine⟨λd ed=>?_,λbP=>⟨s _ _ h,by unfold mM at bP;rw[vI,List.length_zip]at bP;omega⟩⟩;unfold mM at ed;rw[vA]at ed;obtain⟨⟨k0,d0⟩,ek,rfl⟩:=oY ed;obtain⟨e1,e2⟩:=List.getElem?_zip_eq_some.mp ek;obtain⟨v,ev,iv⟩:=hs.get e2;have gs:i<vs.length:=(vV ev).1;refine⟨⟨s _ _ h,by rw[hz];exact gs⟩,λy H3 hy=>?_⟩;obtain⟨T,k,v',rfl,hT,rfl,e⟩:=hy;obtain⟨g1,g2⟩:=List.getElem?_zip_eq_some.mp e;rw[e1]at g1;cases g1;rw[ev]at g2;cases g2;have xt:=Ext.laid (o:=.tup [kV k0,v']) s hT;exact⟨_,xt,.tup (jB.of aJ) (.cons (Rz _) (.cons (iv.mono xt.bn) .nil))⟩
@[simp] def CA (f:FE):FA:=λY=>(f Y).bind λx=>match x.1 with|.dk ks ds=>some (mM ks ds)|_=>none
theorem GR (h:JE X e f)(ji:attributeBase e "items" X.env (eval e X.env)=eval e X.env:=by rfl)(jj:(dP.endLine == cN.line)=true:=by rfl):JI X (.Tuple es kt pt) (.Call (.Attribute e "items" dP) [] [] cN) (CA f):=by
 intro af s U H R I q;obtain⟨B,Y,ds,sB,r,e',q⟩:=q;obtain⟨⟨xd,xb⟩,ex,es⟩:=oX e';cases xd<;>try (cases es;done)
 cases es
 refine GP h ji jj af s U H R I ⟨B,Y,_,_,sB,r,ex,λv H1 N1 x1 i1 _=>?_⟩;cases i1 with
 |@dk a ks vs ds ob hd hl hs=>exact⟨a,_,ob,rfl,x1.nh _ _ hd,q _ H1 N1 x1 (GQ hd hl hs)⟩
end
section
variable {K:Frag}{E:Ends}{U:St}{H:Hp}
def rG (i:Nat)(fk fv:FE):FS:=λY=>match Y[i]? with
 |some (some (.dk ks vs,true))=>(fv (nA Y)).bind λv=>(fk Y).bind λk=>(ln k.1).bind λkk=>if ks.length<sizeLine then some (.nx (Y.set i (some (.dk (dW ks kk) (dX ks vs kk v.1),true))))else none
 |_=>none
theorem E1 (q:oG K (rG i fk fv) E U H):BX (Fk i) (tD K fk) (tD K fv) E U H:=by
 obtain⟨B0,H0,Y,r,⟨N,s⟩,e,p⟩:=q;unfold rG at e;split at e
 ·rename_i ks ds ei;obtain⟨v,ev,e⟩:=oX e;obtain⟨k,ek,e⟩:=oX e;obtain⟨kk,hk,e⟩:=oX e;split at e
  ·rename_i hx;cases e
   refine⟨eC N (own U Y),nA Y,v.1,v.2,ce.trans s.ext.nh,s.repH,ev,λv1 H1 N1 x1 i1 _=>?_⟩;obtain⟨s1,c⟩:=s.growH x1;obtain⟨a,o,h1,h2,h3,h4⟩:=s1.ow i _ ei;refine⟨.ref a,h1,_,Y,k.1,k.2,s1.ext.nh,s1.rep,ek,λv2 H2 N2 x2 i2 _=>?_⟩;have s2:=s1.grow x2;have hv:=pB i2 hk;subst hv;obtain⟨a',o',k1,k2,k3,k4⟩:=s2.ow i _ ei;rw[h1]at k1;cases k1
   cases k4 with
   |@dk ks vs ds hl h5 ob=>
    refine⟨a,rfl,.inl ⟨_,kk,_,s2.ext.nh _ _ k2,rfl,?_,λVb=>?_⟩⟩
    ·rw[List.length_zip];omega
    ·rw[qz hl];exact p U _ ⟨_,s2.writeB ei h1 (.dk (nM hl _ _) (h5.put ((i1.mono c).mono (fu λa o e q=>⟨x2.bn a o e,q⟩))))⟩
  ·cases e
 ·cases e
end
section
variable {X:Cx}{pos:Pos}{e k:Expr}
theorem GS (hu:X.A.units+1<cLine)(hv:JE X e fv)(hk:JE X k fk)(hN:X.N[i]? = some y:=by rfl)(BO:Fj X.env.scope y:=by first|exact Or.inl rfl|exact Or.inr (Or.inl rfl)|exact Or.inr (Or.inr rfl))(hd:(y == ("__debug__" : Str))=false:=by decide)
  (jT:(y == ("__classdict__" : Str))=false:=by decide) (hs:swapsWith e (some (.Subscript (.Name y py) k pt)) pos.line X.env=pure false:=by rfl):JS X (.Assign [.Subscript (.Name y py) k pt] e pos) (rG i fk fv) :=
 PS.to (wM hu (mE hN BO hd jT) hk hv hs) λ_ _ _ q=>E1 q
end
section
variable {prog:Program}{w:World}{A:Around}{E:Value->Shared->Prop}{s:Shared}
theorem CB:∀(vs:List Value)(ns:List Int),vs.length=ns.length->(∀(i:Nat)(v:Value),vs[i]? = some v->∃(m:Int)(t:Tok),ns[i]? = some m/\v=Value.int m t)->IntsAre vs ns
 |[],[],_,_=>.nil
 |v::vs,n::ns,h,k=>by
  obtain⟨m,t,e,rfl⟩:=k 0 v rfl;cases (show some n=some m from e)
  exact .cons n t (CB vs ns (by simpa using h) λi v hv=>k (i+1) v hv)
theorem zy (hh:A.handled=none)(lo:(a == sysModules)=false)(hm:s.heap.DictAt (c9 prog w) a aS ep)(hk:aS.map (·.1)=ns.map .inl)(EY:ns.length<64)
  (hQ:∀(h1 h':Heap)(tk:Nat)(b:Addr)(out:Array Value)(n:Nat)(Qe:List Int),(∀c u,s.heap.get? c=some u->h1.get? c=some u)->(∀c u,h1.get? c=some u->h'.get? c=some u)->h1.objs.size<=b->h'.get? b=some (seqObj "list" out n) ->
   IntsAre out.toList Qe->Qe.Perm ns->Qe.Pairwise (·<=·)->Q (.ref b) { s with heap:=h',toks:=tk }):
  wpAny (model prog w) A (call (.builtin "sorted") [.ref a]) Q E s:=by
 refine Calls.call_function_entry kind_sorted plain_sorted entry_sorted (args_sorted1 _) ?_;unfold Builtin.«sorted»;refine wX (m:=checkCount "sorted" 1 1 _) (wY ?_);have X7:aS.length=ns.length:=by have:=congrArg List.length hk;simpa using this
 refine wX (kdu_collect (A:=A.in1) (kdl_dict lo) (by exact hh) hm (by rw[sizeLine_eq];omega) λh1 tk mh hkeep Ik=>?_);have D7:mh.toList.length=ns.length:=by rw[vG,Ik.1,X7]
 have ng:IntsAre mh.toList ns:=CB mh.toList ns D7 λi v hv=>by
  obtain⟨k,x,e1,e2⟩:=Ik.2 i v (by simpa using hv);have e3:(aS.map (·.1))[i]? = some k:=by rw[vA,e1];rfl
  rw[hk,vA]at e3;obtain⟨m,e4,rfl⟩:=oY e3;obtain⟨t,rfl⟩:=Value.isInt_shape (k:=m) (v:=v) e2;exact⟨m,t,e4,rfl⟩
 refine wX (wpAny_newList ?_ (by rw[D7,sizeLine_eq];omega));have KP:(h1.push (seqObj "list" mh.toList.toArray 0)).get? h1.objs.size=some (seqObj "list" mh.toList.toArray 0):=vY _ rfl;show wpAny _ _ _ _ _ { s with heap:=h1.push (seqObj "list" mh.toList.toArray 0),toks:=tk };refine wX (wpAny_holding (wpAny_call_entry slot_list_sort ⟨_,KP,rfl⟩ entry_list_sort (list_sort_tree KP ng (by rw[D7];exact EY) λout Qe a1 a2 a3=>⟨_,rfl,?_⟩) (args_list_sort _)));obtain⟨n,he⟩:=sortedHeap_at (out:=out) KP;refine wY ⟨_,rfl,hQ h1 _ _ _ out n Qe hkeep (λb u q=>?_) (vT _) he a1 a2 a3⟩;have hl:=vX q;rw[sortedHeap_old (vS hl) (by rw[size_push'];exact Nat.lt_succ_of_lt hl)];exact vZ _ q
end
noncomputable def vj:List cE->Option (List Int)
 |[]=>some []
 |.inl n::ks=>(vj ks).map (n :: ·)
 |.inr _::_=>none
theorem z4:∀ {ks:List cE}{ns:List Int},vj ks=some ns->ks=ns.map .inl
 |[],_,h=>by cases h;rfl
 |.inl n::ks,_,h=>by
  obtain⟨r,h1,rfl⟩:=oY h;rw[z4 h1];rfl
 |.inr _::_,_,h=>by cases h
theorem Ko {aS:List (cE×V)}{vs:List (cE×Value)}(r:KV aS vs):vs.map (·.1)=aS.map (·.1):=by
 unfold KV at r;induction r with
 |nil=>rfl
 |cons h t ih=>rw[uY,uY,ih,h.1]
@[simp] def jK:List D->OB
 |[.dk ks _]=>(vj ks).bind λns=>if ns.length<64 then some (.lst ((ra ns).map .int),true)else none
 |_=>none
section
variable {X:Cx}
theorem E2 (hc:X.calm=true):cm X (.builtin "sorted") (BY X.K jK):=by
 intro af s U H xs us Q I r h;obtain⟨B,dl,d,bb,sB,i,ee,q⟩:=h;cases i with
 |nil=>simp[jK]at ee
 |cons i1 i2=>
  cases i2 with
  |cons _ _=>cases i1<;>simp[jK]at ee
  |nil=>
   cases i1 with
   |@dk a ks vs ds ob hd hl hs=>
    obtain⟨u,rfl,rx⟩:=iH r;cases rx
    simp only[jK]at ee;obtain⟨ns,en,ee⟩:=oX ee;split at ee
    ·rename_i EY;cases ee
     have hH:=sB _ _ hd;obtain⟨es,ep,hdd⟩:=x0 I.hok hH;obtain⟨Tr,r',m⟩:=rC I.hok hH hdd;have hkk:Tr.map (·.1)=ns.map .inl:=by rw[Ko r',List.map_fst_zip (by omega),z4 en]
     refine zy (I.ok.hd hc) (qH I.hok hH).2.1 m hkk EY λh1 h' tk b out n Qe k1 k2 hb he ng hV t7=>?_;have e:=Gz hV t7;subst e;have I1:Inv X af U H { s with heap:=h1,toks:=tk }:=uE I k1 rfl rfl;have hf:H b=none:=I1.hok.fresh hb;have xt:=Ext.laid (o:=.lst ((ra ns).map V.int)) sB hf;exact⟨.ref b,_,I1.laid (t':=tk) k2 hb (show bZ X.prog X.w _ h' _ (.lst ((ra ns).map V.int))from ⟨by rw[vI];unfold ra;rw[(bG _ ns).length_eq,sizeLine_eq];omega,out.toList,n,jD ng,he⟩),rfl,q _ _ _ xt (.lst (jl.of aJ) (rb _)) λ_=>⟨_,_,_,rfl,rfl,hf,aJ,rb _⟩⟩
    ·cases ee
   |_=>simp[jK]at ee
theorem O1 (hu:X.A.units+1<cLine)(hi:JE X i fi)(ho:JE X o fo)(hm:behindInMarks .In o=false:=by first|exact jA _ (by decide) (by decide)|rfl):JE X (.Compare i [.In] [o] pos) (f2 Kf fi fo):=by
 refine PE.to (MN (F6 hu hi ho) hm) λU H Q q=>?_;obtain⟨B,Y,d,bb,sB,r,ee,q⟩:=q;obtain⟨y,ey,ee⟩:=oX ee;obtain⟨x,ex,ee⟩:=oX ee;refine⟨B,Y,y.1,y.2,sB,r,ey,λv2 H1 N1 x1 i2 _=>⟨N1,Y,x.1,x.2,x1.nh,r.mono x1.bn,ex,λv H2 N2 x2 i1 ff=>?_⟩⟩;obtain⟨xd,xb⟩:=x;cases i1 with
 |@dk a ks vs ds ob h hl hs=>
  simp only[Kf]at ee;obtain⟨k,hk,ee⟩:=oY ee;cases ee
  have hv:=pB i2 hk;subst hv;refine⟨a,kK (ks.zip vs) k,rfl,.inl ⟨_,k,_,.inl (x2.nh _ _ h),rfl,rfl⟩,?_⟩;rw[vc hl hs];exact(q.into (x1.trans x2)).one x2.nh (.bl _)
 |_=>simp[Kf]at ee
end
end DL
namespace DL
open PySem PySem.Spec PyProof.Rows L2
@[simp] abbrev fV (i:Nat)(g:FA):FA:=ae (aj i) g
@[simp] abbrev fI (n:Int):FE:=fC (.int n)
@[simp] abbrev fS (s:PySem.Str):FE:=fC (.str s)
section
variable {X:Cx}{es:List Expr}{g:FA}{pos:Pos}
theorem aH {x:Str}{p:Pos}(i:Nat)(hr:JA X es g)(hN:X.N[i]? = some x:=by rfl)(hv:Fj X.env.scope x:=by first|exact Or.inl rfl|exact Or.inr (Or.inl rfl)|exact Or.inr (Or.inr rfl))(hd:(x == ("__debug__" : Str))=false:=by decide)(jT:(x == ("__classdict__" : Str))=false:=by decide)
  (hs:starEach (.Name x p::es) X.env=(false,eval (.Name x p) X.env)::starEach es X.env:=by rfl):JA X (.Name x p::es) (fV i g):=ag (ah i hN hv hd jT) hr hs
theorem cr {i:Int}{j:Nat}(hr:JA X es g):JA X (.Constant (.int i) j pos::es) (ae (fC (.int i)) g):=ag aw hr
theorem aA (F:Fn X.prog X.w X.K X.mg X.base k x f)(hr:fD j X.A)(ha:JA X (e::es) g:=by repeat first|exact am|refine aH _ ?_|refine ag a7 ?_)(hj:k<=j:=by decide)(hg:Gl X x:=by rfl)(tT:(x == ("__debug__" : Str))=false:=by decide)(he:starEach (e::es) X.env=(false,eval e X.env)::starEach es X.env:=by rfl)(nn:(backTo pos (starEach es X.env)).any (·.1)=false:=by rfl):JE X (.Call (.Name x p) (e::es) [] pos) (fA f g):=Ca F (hr.mono hj) ha hg tT he nn
theorem be (he:JE X e f):xZ X [.Return (some e) pos] (aT f):=bx (FW he)
theorem bH {c:Expr}{fc:FT}(hc:JT X c fc)(he:JE X e f):JS X (.If c [.Return (some e) p] [] pos) (cW fc (aT f) aV):=fz hc (bx (FW he)) eF
theorem aW (i:Nat)(hN:X.N[i]? = some x:=by rfl)(hv:Fj X.env.scope x:=by first|exact Or.inl rfl|exact Or.inr (Or.inl rfl)|exact Or.inr (Or.inr rfl))(hd:(x == ("__debug__" : Str))=false:=by decide)(jT:(x == ("__classdict__" : Str))=false:=by decide):JE X (.Subscript (.Name x p) (.Constant (.int n) j q) pos) (bC i n):=aL (ah i hN hv hd jT) aw
end
noncomputable def U8 (n:Int)(r:List Int):Int:=r.foldl (λb x=>if x<b then x else b) n
@[simp] def Y5:List D->OB
 |[.lst ds]=>match Gy ds with
  |some (n::r)=>some (.int (U8 n r),false)
  |_=>none
 |_=>none
@[simp] def Ln:D->D->OB
 |.tup xs,.tup ys=>(eJ xs).bind λas=>(eJ ys).bind λbs=>(bd as bs).map λr=>(.bl (!r),false)
 |_,_=>none
theorem R5 {X:Cx}(hu:X.A.units+40<cLine):dQ X (compareOp .GtE) (rD X.K Ln):=by
 intro af s U H x y v u Q I rx ry q;obtain⟨B,dx,dy,d,b,sB,ix,iy,e,q⟩:=q;cases dx<;>try (simp[Ln]at e;done)
 cases dy<;>try (simp[Ln]at e;done)
 simp only[Ln]at e;obtain⟨as,e1,e⟩:=oX e;obtain⟨bs,e2,e⟩:=oX e;obtain⟨r,e3,e⟩:=oY e;cases e
 show wpAny _ _ (richCompare .GtE v u) _ _ _;exact O0 (lN I rx (ix.mono sB) e1) (lN I ry (iy.mono sB) e2) e3 (by omega) ⟨.bl (!r),H,I,rfl,q.one sB (.bl (!r))⟩
end DL
namespace DL
open PySem L2
theorem iQ (I:Nat->Env->Prop)(ds:List D)(ρ0:Env)(h0:I 0 ρ0)
  (step:∀i d Y,ds[i]? = some d->I i Y->∃ρ1 ρ',tg d Y=some ρ1/\(g ρ1=some (.nx ρ')∨g ρ1=some (.ct ρ'))/\I (i+1) ρ'):
  ∃ρ',jt tg g ds ρ0=some (.nx ρ')/\I ds.length ρ':=by
 have key:∀(es:List D)(i:Nat)(Y:Env),ds.drop i=es->i+es.length=ds.length->I i Y->∃ρ',jt tg g es Y=some (.nx ρ')/\I ds.length ρ':=by
  intro es;induction es with
  |nil=>intro i Y e hl h;refine⟨Y,by rw[FM],?_⟩;rw[←hl];exact h
  |cons d es ih=>
   intro i Y e hl h;have hd:ds[i]? = some d:=by
    have:(ds.drop i)[0]? = some d:=by rw[e];rfl
    rwa [List.getElem?_drop,Nat.add_zero]at this
   obtain⟨ρ1,ρ',h1,h2,h3⟩:=step i d Y hd h;have he:ds.drop (i+1)=es:=by rw[←List.drop_drop,e];rfl
   obtain⟨ρ2,k1,k2⟩:=ih (i+1) ρ' he (by simp at hl;omega) h3;refine⟨ρ2,?_,k2⟩;rw[DW,h1];rcases h2 with h2|h2<;>simp only[vJ,h2]<;>exact k1
 exact key ds 0 ρ0 (by simp) (by simp) h0
theorem lq (n:Nat)(I:Nat->Env->Prop)(ρ0:Env)(h0:I 0 ρ0)
  (step:∀(i:Nat) Y,i<n->I i Y->∃ρ1 ρ',tg (.int (i:Int)) Y=some ρ1/\(g ρ1=some (.nx ρ')∨g ρ1=some (.ct ρ'))/\I (i+1) ρ'):
  ∃ρ',jt tg g (gz 0 n) ρ0=some (.nx ρ')/\I n ρ':=by
 have hl:(gz 0 n).length=n:=by simp[gz]
 obtain⟨ρ',h1,h2⟩:=iQ (tg:=tg) (g:=g) I (gz 0 n) ρ0 h0 λi d Y hd h=>by
  unfold gz at hd;rw[vA]at hd;obtain⟨k,hk,hd⟩:=oY hd;obtain⟨gs,hk⟩:=vV hk;rw[List.length_range]at gs;rw[List.getElem_range]at hk;subst hk;rw[Int.zero_add]at hd;subst hd;exact step i Y gs h
 rw[hl]at h2;exact⟨ρ',h1,h2⟩
theorem lr {α:Type}{xs:List α}{j:Nat}(h:j<xs.length):p6 xs (j:Int)=some xs[j]:=Ja (by simp[h])
theorem xB {α:Type}{xs:List α}{i:Int}(h0:0<=i)(h:i.toNat<xs.length):p6 xs i=some xs[i.toNat]:=by
 have:=lr h;rwa [Int.toNat_of_nonneg h0]at this
@[simp] theorem Mc (xs:List Int):bB (xs.map D.int)=true:=by
 induction xs with
 |nil=>simp
 |cons x xs ih=>simp[ih]
@[simp] theorem IA (n:Nat)(xs:List Int):(xs.map D.int).all (aq n)=true:=by
 induction xs with
 |nil=>simp
 |cons x xs ih=>simpa using ih
@[simp] theorem Kp (xs:List Int):(xs.map D.int).all gM=true:=by
 induction xs with
 |nil=>simp
 |cons x xs ih=>simpa using ih
theorem E3 (n:Nat):gz 0 n=((List.range n).map λ(k:Nat)=>(k:Int)).map D.int:=by
 unfold gz;rw[uP];apply List.map_congr_left;intro k _;simp
mutual
def nN:D->D->Bool
 |.non,.non=>true
 |.bl a,.bl b=>a == b
 |.int a,.int b=>decide (a=b)
 |.str a,.str b=>decide (a=b)
 |.ty a,.ty b=>decide (a=b)
 |.tup xs,.tup ys=>rH xs ys
 |.lst xs,.lst ys=>rH xs ys
 |_,_=>false
def rH:List D->List D->Bool
 |[],[]=>true
 |x::xs,y::ys=>nN x y && rH xs ys
 |_,_=>false
end
mutual
theorem CC:∀ {x y:D},nN x y=true->x=y
 |.non,.non,_=>rfl
 |.bl a,.bl b,h=>by simp[nN]at h;rw[h]
 |.int a,.int b,h=>by simp[nN]at h;rw[h]
 |.str a,.str b,h=>by simp[nN]at h;rw[h]
 |.ty a,.ty b,h=>by simp[nN]at h;rw[h]
 |.tup xs,.tup ys,h=>by rw[nN]at h;rw[rJ h]
 |.lst xs,.lst ys,h=>by rw[nN]at h;rw[rJ h]
theorem rJ:∀ {xs ys:List D},rH xs ys=true->xs=ys
 |[],[],_=>rfl
 |x::xs,y::ys,h=>by
  rw[rH,vC]at h;rw[CC h.1,rJ h.2]
end
def R6 (r:OB)(d:D)(b:Bool):Bool:=match r with
 |some (e,c)=>nN e d && c == b
 |none=>false
theorem B1 (h:R6 r d b=true):r=some (d,b):=by
 unfold R6 at h;split at h
 ·rw[vC]at h;rw[CC h.1,eq_of_beq h.2]
 ·cases h
section
variable {f:FE}{c:FT}{g g' h:FS}{Y ρ':Env}{i:Nat}{d:D}{b:Bool}{r:Option Res}{ds:List D}
theorem av (hl:ds.length=n)(e:g (ds.map (λd=>some (d,false))++List.replicate k none)=some (.rt d b)):aO g n k ds=some (d,b):=by
 unfold aO;rw[if_pos hl,e]
theorem vk (n:bq d=true):setE Y i d b=Y.set i (some (d,false)):=by unfold setE;rw[if_pos n]
theorem z5 (n:bB ds=true):setE Y i (.lst ds) true=Y.set i (some (.lst ds,true)):=by
 unfold setE;rw[if_neg (by simp),if_pos ⟨rfl,by simpa using n⟩]
theorem Kq (n:bq d=false)(m:b=false∨yw d=false):setE Y i d b=(unown Y).set i (some (d,false)):=by
 unfold setE;have hz:¬(b=true/\yw d=true):=λz=>by
  rcases m with m|m
  ·rw[m]at z;exact absurd z.1 (by decide)
  ·rw[m]at z;exact absurd z.2 (by decide)
 rw[if_neg (by simp[n]),if_neg hz]
theorem GU (e:f Y=some (d,b))(k:h (setE Y i d b)=r):a9 (aQ i f) h Y=r:=by simp[e];exact k
theorem GV (e:f Y=some (d,b))(n:bq d=true)(k:h (Y.set i (some (d,false)))=r):a9 (aQ i f) h Y=r:=GU e (by rw[vk n];exact k)
theorem cj (e:f Y=some (.lst ds,true))(n:bB ds=true)(k:h (Y.set i (some (.lst ds,true)))=r):a9 (aQ i f) h Y=r:=GU e (by rw[z5 n];exact k)
theorem U9 (e:f Y=some (d,b))(n:bq d=false)(m:b=false∨yw d=false)(k:h ((unown Y).set i (some (d,false)))=r):a9 (aQ i f) h Y=r:=GU e (by rw[Kq n m];exact k)
theorem dE (e:g Y=some (.nx ρ'))(k:h ρ'=r):a9 g h Y=r:=by unfold a9;rw[e];exact k
theorem UA (e:g Y=some (.rt d b)):a9 g h Y=some (.rt d b):=by unfold a9;rw[e]
theorem UB (e:g Y=some (.ct ρ')):a9 g h Y=some (.ct ρ'):=by unfold a9;rw[e]
theorem kM (e:c Y=some true)(k:g Y=r):cW c g g' Y=r:=by unfold cW;rw[e];exact k
theorem md (e:c Y=some false)(k:g' Y=r):cW c g g' Y=r:=by unfold cW;rw[e];exact k
theorem O2 (e:c Y=some x)(kt:x=true->g Y=r)(kf:x=false->g' Y=r):cW c g g' Y=r:=by
 cases x with
 |true=>exact kM e (kt rfl)
 |false=>exact md e (kf rfl)
theorem bj (e:c Y=some true)(k:g Y=some (.rt d b)):a9 (cW c g g') h Y=some (.rt d b):=UA (kM e k)
theorem aC (e:c Y=some false)(k:h Y=r):a9 (cW c g aV) h Y=r:=dE (md e rfl) k
theorem az (e:f Y=some (d,b)):aT f Y=some (.rt d b):=by simp[e]
theorem lP (e:Y[i]? = some (some (d,b)))(hb:L3 d=false:=by rfl):iI i Y=some (.rt d b):=by simp only[iI,e,hb];simp
theorem rK (e:f Y=some (d,b))(n:bq d=true):aQ i f Y=some (.nx (Y.set i (some (d,false)))):=by
 show(f Y).map _=_;rw[e,Option.map_some,vk n]
theorem xC (e:f Y=some (.lst ds,true))(n:bB ds=true):aQ i f Y=some (.nx (Y.set i (some (.lst ds,true)))):=by
 show(f Y).map _=_;rw[e,Option.map_some,z5 n]
theorem iR (e:Y[i]? = some (some (.lst ds,true)))(ef:f Y=some (d,b))(n:bq d=true)(l:ds.length<sizeLine):jV i f Y=some (.nx (Y.set i (some (.lst (ds++[d]),true)))):=by
 simp[e,ef,n,l]
theorem Md (e:Y[i]? = some (some (.lst ds,true)))(ef:f Y=some (d,b))(n:bq d=true)(l:ds.length<sizeLine)(k:h (Y.set i (some (.lst (ds++[d]),true)))=r):a9 (jV i f) h Y=r:=dE (iR e ef n l) k
theorem ls (e:fi Y=some ds)(k:jt tg g ds Y=some (.nx ρ')):mm fi tg g Y=some (.nx ρ'):=by unfold mm;rw[e];exact k
theorem lQ (e:fi (nA Y)=some ds)(k:jt tg g ds Y=some (.nx ρ')):qL fi tg g Y=some (.nx ρ'):=by unfold qL;rw[e];exact k
theorem iC {f:FE}{j:Nat}(e:f Y=some (.int j,b))(hj:j<=1000):fW f Y=some (gz 0 j):=by
 unfold fW;rw[e];simp only[];rw[if_pos (by omega)];simp
theorem O3 (e:f Y=some (.bl x,b)):aU f Y=some x:=by unfold aU;rw[e]
theorem CD (e:fa Y=some ds)(k:F ds=x):fA F fa Y=x:=by unfold fA;rw[e,vJ];exact k
theorem z6 {f1 g1:D->D->OB}{fa fb fc:FE}{x y z:D}{b1 b2 b3 b4 p q:Bool}(ea:fa Y=some (x,b1))(eb:fb Y=some (y,b2))(ec:fc Y=some (z,b3))(e1:f1 x y=some (.bl p,b4))(e2:p=true->g1 y z=some (.bl q,false)):oH f1 g1 fa fb fc Y=some (.bl (p && q),false):=by
 unfold oH;rw[ea,eb,ec];simp only[vJ,e1];cases p
 ·rfl
 ·exact e2 rfl
theorem dm {f1 f2:FE}{p q b1:Bool}(e1:f1 Y=some (.bl p,b1))(e2:p=true->f2 Y=some (.bl q,false)):kL f1 f2 Y=some (.bl (p && q),false):=by
 unfold kL;rw[e1];cases p
 ·rfl
 ·exact e2 rfl
theorem rL {f1 f2:FE}{p q b1:Bool}(e1:f1 Y=some (.bl p,b1))(e2:p=false->f2 Y=some (.bl q,false)):NE f1 f2 Y=some (.bl (p || q),false):=by
 unfold NE;rw[e1];cases p
 ·exact e2 rfl
 ·rfl
theorem aD (e1:f Y=some (d,b))(e2:fr Y=some xs):ae f fr Y=some (d::xs):=by
 unfold ae;rw[e1,vJ,e2,vJ]
theorem fZ (e1:fa Y=some (x,b1))(e2:fb Y=some (y,b2))(e3:op x y=z):f2 op fa fb Y=z:=by
 unfold f2;rw[e1,vJ,e2,vJ];exact e3
theorem cF (e1:c1 Y=some p)(e2:p=true->c2 Y=some q):cA c1 c2 Y=some (p && q):=by
 unfold cA;rw[e1];cases p
 ·rfl
 ·exact e2 rfl
theorem cY (e1:c1 Y=some p)(e2:p=false->c2 Y=some q):js c1 c2 Y=some (p || q):=by
 unfold js;rw[e1];cases p
 ·exact e2 rfl
 ·rfl
theorem bO (e1:c1 Y=some p):dS c1 Y=some (!p):=by
 unfold dS;rw[e1];rfl
end
theorem Th (a c:Nat):decide ([a]<[c])=decide (a<c):=by
 congr 1;rw[List.cons_lt_cons_iff];simp
@[simp] theorem Ti (a c:Nat):nE (.str ⟨#[a]⟩) (.str ⟨#[c]⟩)=some (.bl (decide (a<=c)),false):=by
 unfold nE;show some (D.bl (!decide ([c]<[a])),false)=_;rw[Th];congr 3;by_cases h:c<a
 ·rw[decide_eq_true h,decide_eq_false (by omega)];rfl
 ·rw[decide_eq_false h,decide_eq_true (by omega)];rfl
theorem bM (h:n<=100000):n<sizeLine:=Nat.lt_of_le_of_lt h (by decide)
theorem dJ (h:n<=100000):n<=sizeLine:=Nat.le_of_lt (bM h)
theorem gP {α:Type}(l:List α)(g:α->D)(p:α->Bool)(h:α->D)(e:fi Y=some (l.map g))(hl:l.length<=100000)
  (k:∀x∈l,∃ρ1,tg (g x) (eA nT cap Y)=some ρ1/\c ρ1=some (p x)/\(p x=true->∃b,fe ρ1=some (h x,b))):bV fi nT cap tg c fe Y=some (.lst ((l.filter p).map h),true):=by
 have key:∀l':List α,(∀x∈l',x∈l)->ij tg c fe (eA nT cap Y) (l'.map g)=some ((l'.filter p).map h):=by
  intro l';induction l' with
  |nil=>intro _;simp
  |cons x l' ih=>
   intro hm;obtain⟨ρ1,h1,h2,h3⟩:=k x (hm x mX);have ih:=ih λy hy=>hm y (mZ _ hy);rw[uY,AT,h1,vJ,h2,vJ];cases hp:p x with
   |false=>simp[hp,ih]
   |true=>
    obtain⟨b,h4⟩:=h3 hp;simp[hp,ih,h4]
 unfold bV;rw[e,vJ,if_pos (dJ (by simpa using hl)),key l λ_ h=>h,Option.map_some]
theorem nO {α:Type}(l:List α)(g:α->D)(h:α->D)(e:fi Y=some (l.map g))(hl:l.length<=100000)
  (k:∀x∈l,∃ρ1,tg (g x) (eA nT cap Y)=some ρ1/\∃b,fe ρ1=some (h x,b)):bV fi nT cap tg iJ fe Y=some (.lst (l.map h),true):=by
 have:=gP (c:=iJ) (fe:=fe) l g (λ_=>true) h e hl λx hx=>by
  obtain⟨ρ1,h1,h2⟩:=k x hx;exact⟨ρ1,h1,rfl,λ_=>h2⟩
 rw[List.filter_eq_self.mpr λ_ _=>rfl]at this;exact this
@[simp] theorem z7 {α:Type}(f:α->Bool)(l:List α):tI (l.map λx=>.bl (f x))=some (l.map f):=by
 induction l with
 |nil=>rfl
 |cons x l ih=>simp[ih]
theorem AL (h0:0<=i)(h:i.toNat<z.cps.size)(hz:z.length<=100000):bA (.str z) (.int i)=some (.str ⟨#[z.cps.toList.getD i.toNat 0]⟩,false):=by
 have hh:i.toNat<z.cps.toList.length:=by simpa using h
 simp only[bA];rw[if_pos (dJ hz),xB h0 hh];simp[List.getD,h]
theorem B3 (h0:0<=i)(h:i.toNat<ds.length):bA (.lst ds) (.int i)=some (ds.getD i.toNat .non,false):=by
 simp only[bA];rw[xB h0 h];simp[List.getD,h]
theorem wE (h0:0<=i)(h:i.toNat<ds.length):bA (.tup ds) (.int i)=some (ds.getD i.toNat .non,false):=by
 simp only[bA];rw[xB h0 h];simp[List.getD,h]
theorem CF {xs:List Int}{i:Int}(h0:0<=i)(h:i.toNat<xs.length):bA (.lst (xs.map .int)) (.int i)=some (.int (xs.getD i.toNat 0),false):=by
 rw[B3 h0 (by simpa using h)];simp[List.getD,h]
theorem mod_lt {x m:Int}(hm:0<m):0<=x % m/\x % m<m:=⟨Int.emod_nonneg _ (by omega),Int.emod_lt_of_pos _ hm⟩
theorem Kr:fU [.lst ds]=some (.int ds.length,false):=rfl
theorem CG:cC (.int i) (.int j)=some (.bl (decide (i=j)),false):=by simp
theorem bw (x y:D)(e1:fa Y=some (x,false))(e2:fb Y=some (y,false))(e3:op x y=z):f2 op fa fb Y=z:=fZ e1 e2 e3
theorem cw (e:f Y=some (.bl x,false)):aU f Y=some x:=O3 e
theorem bK (e1:f Y=some (d,false))(e2:fr Y=some xs):ae f fr Y=some (d::xs):=aD e1 e2
theorem aI (ds:List D)(e:fa Y=some ds)(k:F ds=x):fA F fa Y=x:=CD e k
theorem fB (d:D)(e:f Y=some (d,false))(n:bq d=true)(k:h (Y.set i (some (d,false)))=r):a9 (aQ i f) h Y=r:=GV e n k
@[simp] noncomputable abbrev rkE (Z:List D)(aa:Int)(t:Env):Env:=some (.tup Z,false)::some (.int aa,false)::t
@[simp] noncomputable abbrev eR (ns:List Int)(zs:List Str)(ms:Int)(dD:List Str)(R:List D)(a b:OB)(t:Env):Env:=some (.lst (ns.map .int),false)::some (.lst (zs.map .str),false)::some (.int ms,false)::a::some (.lst (dD.map .str),true)::some (.lst R,true)::b::t
end DL
namespace Lw
open PySem DL
noncomputable def z8:D:=(.tup [(.str "paper"),(.str "like"),(.str "copy")])
noncomputable def iw:List (PySem.Str×D):=[(("root" : Str),(.tup [(.str "office"),(.str "matters"),(.str "further"),(.str "rule")])),(("named" : Str),(.tup [(.str "day"),(.str "office"),(.str "person")])),(("chosen" : Str),(.tup [(.str "day"),(.str "by"),(.str "office"),(.str "person"),(.str "since")])),(("heir" : Str),(.tup [(.str "day"),(.str "by"),(.str "office"),(.str "person")])),(("death" : Str),(.tup [(.str "day"),(.str "person")])),(("lost" : Str),(.tup [(.str "day"),(.str "person")])),(("found" : Str),(.tup [(.str "day"),(.str "person")])),(("leave" : Str),(.tup [(.str "day"),(.str "by"),(.str "person"),(.str "matters"),(.str "stretch"),(.str "further")])),(("paper" : Str),(.tup [(.str "day"),(.str "by"),(.str "matters"),(.str "stretch"),(.str "whom"),(.str "pieces")])),(("like" : Str),(.tup [(.str "day"),(.str "by"),(.str "matters"),(.str "stretch"),(.str "whom"),(.str "of"),(.str "changes")])),(("copy" : Str),(.tup [(.str "day"),(.str "by"),(.str "of")])),(("call" : Str),(.tup [(.str "day"),(.str "by"),(.str "of")]))]
noncomputable def iS:D:=(.tup [(.str "chosen"),(.str "heir"),(.str "leave"),(.str "paper"),(.str "like"),(.str "copy"),(.str "call")])
def vn:FS :=
  (aT (f2 bA (bC 0 1) (fI 0)))
def aN:=aO vn 1 0
def vp:FS :=
  (aT (f2 bA (bC 0 1) (f2 bS (fI 1) (f2 (qi iw) (fA aN (fV 0 ai)) (aj 1)))))
def au:=aO vp 2 0
def z9:FS :=
  (a9 (cW (aU (f2 cC (fA aN (fV 0 ai)) (fS "root"))) (aT (fC .non)) aV)
  (aT (fA au (fV 0 (ae (fS "day") ai)))))
def aX:=aO z9 1 0
def rM:FS :=
  (aT (kL (oH nE Iw (fI 0) (aj 2) (fA fU (fV 0 ai))) (f2 nE (f2 bA (f2 bA (aj 0) (aj 2)) (fI 0)) (aj 1))))
def cH:=aO rM 3 0
def CH:FS :=
  (aT (bV (Go (aj 0)) 2 [1] (P5 [0,1]) (aU (f2 nE (bC 1 0) (aj 2))) (aj 0)))
def cM:=aO CH 2 0
def CJ:FS :=
  (aT (kL (f2 ya (fA aN (fV 0 ai)) (aj 1)) (kL (f2 cC (fA au (fV 0 (ae (fS "person") ai))) (aj 2)) (f2 nE (fA aX (fV 0 ai)) (aj 3)))))
def qA:=aO CJ 4 0
def vq:FS :=
  (aT (bV (cu (fA cM (fV 0 (fV 1 ai)))) 1 [2,3,4,0] (dC 0) (aU (fA qA (ae (f2 bA (aj 4) (aj 0)) (fV 1 (fV 2 (fV 3 ai)))))) (aj 0)))
def iD:=aO vq 5 0
def CK:FS :=
  (aT (f2 cC (fA fU (ae (fA iD (fV 0 (fV 1 (ae (fA aK (ae (fS "death") ai)) (fV 2 (fV 3 ai)))))) ai)) (fI 0)))
def nQ:=aO CK 4 0
def GW:FS :=
  (aT (fA aK (ae (fA aX (ae (f2 bA (aj 0) (aj 1)) ai)) (fV 1 ai))))
def fM:=aO GW 2 0
def rN:FS :=
  (a9 (aQ 4 (fA iD (fV 0 (fV 1 (ae (fA aK (ae (fS "lost") (ae (fS "found") ai))) (fV 2 (fV 3 ai)))))))
  (a9 (cW (aU (f2 cC (fA fU (fV 4 ai)) (fI 0))) (aT (fC (.bl true))) aV)
  (aT (f2 cC (fA aN (ae (f2 bA (aj 0) (uK (aj 4) (re [0] (fA fM (fV 1 (fV 0 ai)))))) ai)) (fS "found")))))
def mN:=aO rN 4 1
def rO:FS :=
  (a9 (cW (js (dS (aU (fA cH (fV 0 (fV 1 (fV 2 ai)))))) (aU (f2 fK (fA aN (ae (f2 bA (aj 0) (aj 2)) ai)) (fC iS)))) (aT (fC (.bl false))) aV)
  (a9 (aQ 3 (fA au (ae (f2 bA (aj 0) (aj 2)) (ae (fS "by") ai))))
  (a9 (aQ 4 (fA aX (ae (f2 bA (aj 0) (aj 2)) ai)))
  (aT (kL (fA nQ (fV 0 (fV 1 (fV 3 (fV 4 ai))))) (fA mN (fV 0 (fV 1 (fV 3 (fV 4 ai))))))))))
def cI:=aO rO 3 2
def rP:FS :=
  (a9 (aQ 2 (bV (cu (fA cM (fV 0 (fV 1 ai)))) 1 [0] (dC 0) (aU (f2 kY (fA aX (ae (f2 bA (aj 1) (aj 0)) ai)) (fC .non))) (aj 0)))
  (aT (rg (aj 2) (re [0] (fA fM (fV 1 (fV 0 ai)))))))
def eK:=aO rP 2 1
def pE:FS :=
  (aT (fA aK (ae (bC 0 0) (ae (bC 0 2) (ae (bC 0 4) ai)))))
def gQ:=aO pE 1 0
def CL:FS :=
  (a9 (aQ 2 (bV (cu (fA cM (fV 0 (fV 1 ai)))) 1 [0] (dC 0) iJ (f2 bA (aj 1) (aj 0))))
  (aT (fA kn (ae (bV (cu (aj 2)) 1 [] (dC 0) (aU (f2 cC (fA aN (fV 0 ai)) (fS "root"))) (fA aK (ae (fA au (fV 0 (ae (fS "office") ai))) (fV 0 ai)))) ai))))
def eW:=aO CL 2 1
def vt:FS :=
  (aT (kL (f2 nE (bC 1 0) (aj 0)) (NE (f2 A4 (bC 1 1) (fC .non)) (f2 Iw (aj 0) (bC 1 1)))))
def jL:=aO vt 2 0
def rQ:FS :=
  (aT (fA jL (fV 1 (ae (fA aK (ae (bC 0 2) (ae (bC 0 3) ai))) ai))))
def cZ:=aO rQ 2 0
def rR:FS :=
  (aT (fA aK (ae (bC 0 2) (ae (bC 0 4) ai))))
def dI:=aO rR 1 0
def rS:FS :=
  (a9 (cW (aU (f2 cC (aj 1) (fS "last"))) (aT (f2 bA (uK (aj 0) (tM dI)) (fI 1))) aV)
  (aT (f2 bA (uL (aj 0) (tM dI)) (fI 1))))
def mO:=aO rS 2 0
def pF:FS :=
  (a9 (aQ 3 (bV (cu (aj 0)) 1 [2,1] (dC 0) (cA (aU (f2 cC (bC 0 0) (fA au (fV 2 (ae (fS "office") ai))))) (aU (fA cZ (fV 0 (fV 1 ai))))) (aj 0)))
  (a9 (aQ 4 (f1 eI (bV (cu (aj 3)) 1 [] (dC 0) iJ (bC 0 1))))
  (a9 (cW (aU (f2 cC (fA fU (fV 4 ai)) (fI 0))) (aT (fA aK (ae (fS "none") ai))) aV)
  (a9 (cW (cA (aU (f2 DZ (fA fU (fV 4 ai)) (fI 1))) (aU (f2 cC (fA au (fV 1 (ae (fS "rule") ai))) (fS "open")))) (aT (fA aK (ae (fS "parted") (fV 4 ai)))) aV)
  (a9 (aQ 5 (fA mO (fV 3 (ae (fA au (fV 1 (ae (fS "rule") ai))) ai))))
  (a9 (aQ 6 (uL (bV (cu (aj 3)) 1 [5] (dC 0) (aU (f2 cC (bC 0 1) (aj 1))) (aj 0)) (tM dI)))
  (aT (fA aK (ae (fS "one") (fV 5 (ae (bC 6 4) ai)))))))))))
def dF:=aO pF 3 4
def nR:FS :=
  (aT (f2 cC (Gg (fA dF (fV 0 (fV 1 (fV 3 ai)))) mn (kX (fI 2))) (fA aK (ae (fS "one") (fV 2 ai)))))
def cR:=aO nR 4 0
def jM:FS :=
  (a9 (aQ 3 (f2 bA (aj 0) (aj 2)))
  (a9 (aQ 4 (fA iD (fV 0 (fV 1 (ae (fA aK (ae (fS "death") ai)) (ae (fA au (fV 3 (ae (fS "person") ai))) (ae (fA aX (fV 3 ai)) ai)))))))
  (aT (f2 cC (uL (aj 4) (re [0] (fA fM (fV 1 (fV 0 ai))))) (aj 2)))))
def g8:=aO jM 3 2
def zA:FS :=
  (a9 (aQ 4 (f2 bA (aj 0) (aj 3)))
  (a9 (cW (aU (f2 cC (fA aN (fV 4 ai)) (fS "death"))) (aT (fA g8 (fV 0 (fV 1 (fV 3 ai))))) aV)
  (a9 (cW (aU (f2 fK (fA aN (fV 4 ai)) (fA aK (ae (fS "named") (ae (fS "chosen") (ae (fS "heir") ai)))))) (aT (fC (.bl false))) aV)
  (a9 (aQ 5 (f2 Bu (fA eW (fV 0 (fV 1 ai))) (fA au (fV 4 (ae (fS "office") ai)))))
  (a9 (cW (aU (f2 A4 (aj 5) (fC .non))) (aT (fC (.bl false))) aV)
  (a9 (cW (aU (f2 cC (fA aN (fV 4 ai)) (fS "named"))) (aT (fC (.bl true))) aV)
  (aT (kL (fA cI (fV 0 (fV 1 (fV 3 ai)))) (fA cR (fV 2 (fV 5 (ae (fA au (fV 4 (ae (fS "by") ai))) (ae (fA aX (fV 4 ai)) ai)))))))))))))
def nS:=aO zA 4 2
def pG:FS :=
  (aT (fA aK (ae (fA au (fV 0 (ae (fS "office") ai))) (ae (fA au (fV 0 (ae (fS "person") ai))) (fV 1 (ae (fC .non) (fV 2 ai)))))))
def gR:=aO pG 3 0
def rT:FS :=
  (cW (js (aU (f2 fK (bC 5 0) (aj 1))) (js (aU (f2 tG (bC 5 1) (aj 2))) (dS (js (aU (fA cZ (fV 5 (fV 3 ai)))) (aU (f2 DZ (bC 5 2) (aj 3))))))) (jV 4 (aj 5)) (cW (aU (f2 Iw (bC 5 2) (aj 3))) (jV 4 (fA aK (ae (bC 5 0) (fV 2 (ae (bC 5 2) (fV 3 (ae (bC 5 4) ai))))))) aV))
def CM:FS :=
  (a9 (aQ 4 (fA br ai))
  (a9 (qL (cu (aj 0)) (dC 5) rT)
  (iI 4)))
def qB:=aO CM 4 2
def lu:FS :=
  (a9 (aQ 3 (fA au (fV 1 (ae (fS "since") ai))))
  (a9 (aQ 4 (fA qB (fV 0 (ae (fA br (ae (fA au (fV 1 (ae (fS "office") ai))) ai)) (ae (fA au (fV 1 (ae (fS "by") ai))) (fV 3 ai))))))
  (aT (f2 bS (aj 4) (fA br (ae (fA gR (fV 1 (fV 3 (fV 2 ai)))) ai))))))
def iT:=aO lu 3 2
def iz:FS :=
  (a9 (aQ 9 (GI (aj 3) (fV 8 (fV 5 ai))))
  (cW (cA (aU (f2 kY (aj 9) (fC .non))) (aU (fA nQ (fV 0 (fV 1 (fV 9 (fV 6 ai))))))) (jV 7 (fA aK (fV 8 (fV 9 (fV 6 (ae (fC .non) (fV 4 ai))))))) aV))
def pH:FS :=
  (a9 (aQ 5 (fA au (ae (f2 bA (aj 0) (aj 4)) (ae (fS "person") ai))))
  (a9 (aQ 6 (fA aX (ae (f2 bA (aj 0) (aj 4)) ai)))
  (a9 (aQ 7 (fA br ai))
  (a9 (Rp [5,6] (qL (cu (f1 eI (bV (cu (aj 2)) 1 [5,6] (dC 0) (cA (aU (f2 cC (bC 0 1) (aj 1))) (aU (fA cZ (fV 0 (fV 2 ai))))) (bC 0 0)))) (dC 8) iz))
  (iI 7)))))
def lw:=aO pH 5 5
def mv:FS :=
  (a9 (aQ 5 (bV (cu (aj 2)) 1 [] (dC 0) iJ (bC 0 0)))
  (a9 (aQ 6 (fA qB (fV 2 (fV 5 (ae (fA au (ae (f2 bA (aj 0) (aj 4)) (ae (fS "person") ai))) (ae (fA aX (ae (f2 bA (aj 0) (aj 4)) ai)) ai))))))
  (aT (f2 bS (aj 6) (fA lw (fV 0 (fV 1 (fV 2 (fV 3 (fV 4 ai))))))))))
def jz:=aO mv 5 2
def lR:FS :=
  (a9 (aQ 5 (f2 bA (aj 0) (aj 4)))
  (a9 (cW (dS (aU (fA nS (fV 0 (fV 1 (fV 2 (fV 4 ai))))))) LZ aV)
  (cW (aU (f2 cC (fA aN (fV 5 ai)) (fS "named"))) (aQ 2 (f2 bS (aj 2) (fA br (ae (fA gR (fV 5 (ae (fA aX (fV 5 ai)) (fV 4 ai)))) ai)))) (cW (aU (f2 cC (fA aN (fV 5 ai)) (fS "chosen"))) (aQ 2 (fA iT (fV 2 (fV 5 (fV 4 ai))))) (cW (aU (f2 cC (fA aN (fV 5 ai)) (fS "heir"))) (vg 3 (ae (fA au (fV 5 (ae (fS "office") ai))) (ae (fA au (fV 5 (ae (fS "by") ai))) ai)) (fA au (fV 5 (ae (fS "person") ai)))) (aQ 2 (fA jz (fV 0 (fV 1 (fV 2 (fV 3 (fV 4 ai))))))))))))
def zB:FS :=
  (a9 (aQ 2 (fA br ai))
  (a9 (GB 3)
  (a9 (qL (cu (fA eK (fV 0 (fV 1 ai)))) (dC 4) lR)
  (aT (rg (aj 2) (tM gQ))))))
def gS:=aO zB 2 4
def rV:FS :=
  (aT (kL (fA cH (fV 0 (fV 1 (fV 2 ai)))) (f2 ya (fA aN (ae (f2 bA (aj 0) (aj 2)) ai)) (fC z8))))
def fN:=aO rV 3 0
def rW:FS :=
  (aT (kL (fA cH (fV 0 (fV 1 (fV 2 ai)))) (f2 cC (fA aN (ae (f2 bA (aj 0) (aj 2)) ai)) (fS "leave"))))
def g9:=aO rW 3 0
def rX:FS :=
  (aT (NE (fA g9 (fV 0 (fV 1 (fV 2 ai)))) (fA fN (fV 0 (fV 1 (fV 2 ai))))))
def eM:=aO rX 3 0
def rY:FS :=
  (aT (f2 cC (f2 Jw (aj 0) (aj 1)) (aj 1)))
def iU:=aO rY 2 0
def rZ:FS :=
  (a9 (aQ 5 (f2 bA (aj 0) (aj 4)))
  (a9 (aQ 6 (fA au (ae (f2 bA (aj 0) (aj 3)) (ae (fS "by") ai))))
  (a9 (cW (aU (f2 cC (aj 6) (fA au (fV 5 (ae (fS "by") ai))))) (aT (fC (.bl true))) aV)
  (a9 (cW (aU (f2 cC (fA aN (fV 5 ai)) (fS "copy"))) (aT (fC (.bl false))) aV)
  (a9 (aQ 7 (bV (rE (fA eW (fV 0 (fV 1 ai)))) 1 [5] (dC 0) (aU (fA iU (ae (fA au (fV 0 (ae (fS "matters") ai))) (ae (fA au (fV 1 (ae (fS "matters") ai))) ai)))) (aj 0)))
  (aT (fA Gd (ae (bV (cu (aj 7)) 1 [2,6,0,3] (dC 0) iJ (fA cR (fV 1 (fV 0 (fV 2 (ae (fA aX (ae (f2 bA (aj 3) (aj 4)) ai)) ai)))))) ai))))))))
def mP:=aO rZ 5 3
def se:FS :=
  (a9 (aQ 6 (f2 bA (aj 0) (aj 3)))
  (a9 (cW (js (aU (f2 tG (fA aN (fV 6 ai)) (fS "call"))) (js (aU (f2 tG (fA au (fV 6 (ae (fS "of") ai))) (aj 4))) (aU (f2 DZ (fA aX (fV 6 ai)) (aj 5))))) (aT (fC (.bl false))) aV)
  (aT (kL (fA cI (fV 0 (fV 1 (fV 3 ai)))) (fA mP (fV 0 (fV 1 (fV 2 (fV 3 (fV 4 ai))))))))))
def ko:=aO se 6 1
def sf:FS :=
  (a9 (cW (dS (aU (fA eM (fV 0 (fV 1 (fV 3 ai)))))) (aT (fA br ai)) aV)
  (aT (bV (cu (fA cM (fV 0 (fV 1 ai)))) 1 [0,1,2,3,4] (dC 0) (aU (fA ko (fV 1 (fV 2 (fV 3 (fV 0 (fV 4 (fV 5 ai)))))))) (aj 0))))
def kq:=aO sf 5 0
def CN:FS :=
  (aT (fA kq (fV 0 (fV 1 (ae (fA gS (fV 0 (fV 1 ai))) (fV 2 (fV 3 ai)))))))
def lS:=aO CN 4 0
def pJ:FS :=
  (a9 (cW (dS (aU (fA iU (ae (fA au (fV 1 (ae (fS "matters") ai))) (ae (fA au (fV 0 (ae (fS "matters") ai))) ai))))) (aT (fS "matters")) aV)
  (a9 (cW (cA (aU (f2 cC (fA aN (fV 0 ai)) (fS "leave"))) (aU (f2 QS (fA au (fV 0 (ae (fS "further") ai))) (fA au (fV 1 (ae (fS "further") ai)))))) (aT (fS "further")) aV)
  (aT (fC .non))))
def jo:=aO pJ 2 0
def nU:FS :=
  (a9 (cW (dS (aU (fA cR (fV 0 (fV 2 (ae (fA au (fV 1 (ae (fS "by") ai))) (ae (fA aX (fV 1 ai)) ai))))))) (aT (fS "holder")) aV)
  (aT (fA jo (fV 1 (fV 2 ai)))))
def ga:=aO nU 3 0
def lx:FS :=
  (a9 (aQ 4 (f2 bA (aj 0) (aj 3)))
  (a9 (aQ 5 (bV (rE (fA eW (fV 0 (fV 1 ai)))) 1 [2,4] (dC 0) (aU (f2 A4 (fA ga (fV 1 (fV 2 (fV 0 ai)))) (fC .non))) (aj 0)))
  (aT (bV (cu (aj 5)) 1 [2,4] (dC 0) iJ (fA aK (ae (fS "office") (ae (fA au (fV 0 (ae (fS "office") ai))) (ae (f2 bA (fA dF (fV 1 (fV 0 (ae (fA aX (fV 2 ai)) ai)))) (fI 2)) ai))))))))
def iV:=aO lx 4 2
def mw:FS :=
  (a9 (cW (aU (f2 A4 (aj 1) (fC .non))) (aT (fC (.bl true))) aV)
  (aT (kL (f2 kY (aj 0) (fC .non)) (f2 nE (aj 0) (aj 1)))))
def j0:=aO mw 2 0
def pK:FS :=
  (aT (kL (f2 nE (bC 1 0) (bC 0 0)) (fA j0 (ae (bC 0 1) (ae (bC 1 1) ai)))))
def jp:=aO pK 2 0
def sg:FS :=
  (aT (f2 ML (fA fM (fV 0 (fV 1 ai))) (fA fM (fV 0 (fV 2 ai)))))
def gA:=aO sg 3 0
def pL:FS :=
  (a9 (aQ 3 (f2 bA (aj 0) (aj 1)))
  (a9 (aQ 4 (fA au (ae (f2 bA (aj 0) (aj 2)) (ae (fS "stretch") ai))))
  (a9 (cW (dS (aU (fA gA (fV 0 (fV 2 (fV 1 ai)))))) (aT (fS "order")) aV)
  (a9 (cW (js (dS (aU (fA jL (ae (fA aX (fV 3 ai)) (fV 4 ai))))) (dS (aU (fA jp (ae (fA au (fV 3 (ae (fS "stretch") ai))) (fV 4 ai)))))) (aT (fS "days")) aV)
  (aT (fA jo (fV 3 (ae (f2 bA (aj 0) (aj 2)) ai))))))))
def gT:=aO pL 3 2
def pM:FS :=
  (a9 (aQ 3 (bV (cu (fA cM (fV 0 (fV 1 ai)))) 1 [0,1] (dC 0) (aU (fA g9 (fV 1 (fV 2 (fV 0 ai))))) (aj 0)))
  (aT (bV (cu (aj 3)) 1 [2,0] (dC 0) (aU (f2 cC (fA au (ae (f2 bA (aj 2) (aj 0)) (ae (fS "person") ai))) (aj 1))) (aj 0))))
def jq:=aO pM 3 1
def mz:FS :=
  (a9 (aQ 3 (fA jq (fV 0 (fV 1 (ae (fA au (ae (f2 bA (aj 0) (aj 2)) (ae (fS "by") ai))) ai)))))
  (aT (bV (cu (aj 3)) 1 [0,2] (dC 0) (aU (f2 A4 (fA gT (fV 1 (fV 2 (fV 0 ai)))) (fC .non))) (fA aK (ae (fS "leave") (fV 0 ai))))))
def j3:=aO mz 3 1
def nV:FS :=
  (a9 (aQ 3 (fA au (ae (f2 bA (aj 0) (aj 2)) (ae (fS "of") ai))))
  (a9 (cW (cA (aU (fA fN (fV 0 (fV 1 (fV 3 ai))))) (aU (fA gA (fV 0 (fV 3 (fV 2 ai)))))) (aT (fA br (ae (fA aK (ae (fS "copy") (fV 3 ai))) ai))) aV)
  (aT (fA br ai))))
def ky:=aO nV 3 1
def si:FS :=
  (a9 (cW (dS (aU (fA eM (fV 0 (fV 1 (fV 3 ai)))))) (aT (fA br ai)) aV)
  (a9 (cW (aU (f2 cC (fA aN (ae (f2 bA (aj 0) (aj 3)) ai)) (fS "copy"))) (aT (fA ky (fV 0 (fV 1 (fV 3 ai))))) aV)
  (a9 (aQ 4 (f2 bS (fA iV (fV 0 (fV 1 (fV 2 (fV 3 ai))))) (fA j3 (fV 0 (fV 1 (fV 3 ai))))))
  (aT (By (aj 4) (re [] (fA aK (ae (f2 bA (aj 0) (f1 yJ (fI 1))) (fV 0 ai)))))))))
def eN:=aO si 4 1
def zC:FS :=
  (a9 (cW (js (dS (aU (fA cI (fV 0 (fV 1 (fV 3 ai)))))) (aU (f2 DZ (fA aX (ae (f2 bA (aj 0) (aj 3)) ai)) (aj 4)))) (aT (fC (.bl false))) aV)
  (aT (f2 cC (fA fU (ae (fA kq (fV 0 (fV 1 (fV 2 (fV 3 (fV 4 ai)))))) ai)) (fI 0))))
def nW:=aO zC 5 0
def zD:FS :=
  (cW (cA (aU (fA eM (fV 0 (fV 1 (fV 5 ai))))) (aU (fA nW (fV 0 (fV 1 (fV 3 (fV 5 (fV 2 ai)))))))) (rG 4 (aj 5) (fA eN (fV 0 (fV 1 (fV 3 (fV 5 ai)))))) aV)
def CO:FS :=
  (a9 (yx 3 (fA gS (fV 0 (fV 1 ai))))
  (a9 (C5 4)
  (a9 (qL (cu (fA eK (fV 0 (fV 1 ai)))) (dC 5) zD)
  (iI 4))))
def nX:=aO CO 3 3
def CP:FS :=
  (aT (NE (f2 cC (bC 0 0) (fS "office")) (f2 Kf (bC 0 1) (aj 1))))
def nY:=aO CP 2 0
def zE:FS :=
  (cW (aU (fA Gd (ae (bV (cu (aj 3)) 1 [1] (dC 0) iJ (fA nY (fV 0 (fV 1 ai)))) ai))) (zv 1 (aj 2) (fC (.bl true))) aV)
def CQ:FS :=
  (a9 (C5 1)
  (a9 (qL (CA (aj 0)) (P5 [2,3]) zE)
  (iI 1)))
def nZ:=aO CQ 1 3
def sj:FS :=
  (aT (fA jK (ae (fA nZ (ae (fA nX (fV 0 (fV 1 (fV 2 ai)))) ai)) ai)))
def mQ:=aO sj 3 0
def kI:FS :=
  (a9 (aQ 3 (f2 bA (aj 0) (aj 2)))
  (a9 (aQ 4 (fA gS (fV 0 (fV 1 ai))))
  (a9 (aQ 5 (fA eW (fV 0 (fV 1 ai))))
  (a9 (aQ 6 (f1 eI (bV (cu (aj 4)) 1 [3] (dC 0) (aU (f2 cC (bC 0 1) (fA au (fV 1 (ae (fS "by") ai))))) (bC 0 0))))
  (aT (bV (cu (aj 6)) 1 [4,3,5] (dC 0) iJ (fA aK (ae (fS "office") (fV 0 (ae (fA ga (fV 1 (fV 2 (ae (f2 Tf (aj 3) (aj 0)) ai)))) ai))))))))))
def fG:=aO kI 3 4
def m4:FS :=
  (a9 (aQ 3 (fA gT (fV 0 (fV 1 (fV 2 ai)))))
  (aT (fA aK (ae (fS "leave") (fV 2 (ae (Jk (aU (f2 A4 (aj 3) (fC .non))) (fS "falls") (aj 3)) ai))))))
def m5:=aO m4 3 1
def ly:FS :=
  (a9 (aQ 3 (fA jq (fV 0 (fV 1 (ae (fA au (ae (f2 bA (aj 0) (aj 2)) (ae (fS "by") ai))) ai)))))
  (aT (bV (cu (aj 3)) 1 [0,2] (dC 0) iJ (fA m5 (fV 1 (fV 2 (fV 0 ai)))))))
def gb:=aO ly 3 1
def CS:FS :=
  (aT (fA eN (fV 0 (fV 1 (ae (fA gS (fV 0 (fV 1 ai))) (fV 2 ai))))))
def k6:=aO CS 3 0
def oe:FS :=
  (a9 (aQ 3 (Jk (aU (f2 cC (fA fU (ae (fA k6 (fV 0 (fV 1 (fV 2 ai)))) ai)) (fI 0))) (fS "none") (fS "falls")))
  (aT (fA aK (ae (fS "copy") (ae (fA au (ae (f2 bA (aj 0) (aj 2)) (ae (fS "of") ai))) (fV 3 ai))))))
def k7:=aO oe 3 1
def m6:FS :=
  (a9 (cW (aU (f2 cC (fA aN (ae (f2 bA (aj 0) (aj 2)) ai)) (fS "copy"))) (aT (fA br (ae (fA k7 (fV 0 (fV 1 (fV 2 ai)))) ai))) aV)
  (a9 (aQ 3 (f2 bS (fA fG (fV 0 (fV 1 (fV 2 ai)))) (fA gb (fV 0 (fV 1 (fV 2 ai))))))
  (a9 (cW (aU (f2 cC (fA fU (fV 3 ai)) (fI 0))) (aT (fA br (ae (fA aK (ae (fS "none") ai)) ai))) aV)
  (iI 3))))
def gJ:=aO m6 3 1
def zF:FS :=
  (a9 (cW (aU (f2 Kf (aj 3) (fA nZ (ae (fA nX (fV 0 (fV 1 (fV 2 ai)))) ai)))) (aT (fA br ai)) aV)
  (a9 (cW (aU (f2 DZ (fA aX (ae (f2 bA (aj 0) (aj 3)) ai)) (aj 2))) (aT (fA br (ae (fA aK (ae (fS "early") ai)) ai))) aV)
  (a9 (cW (dS (aU (fA cI (fV 0 (fV 1 (fV 3 ai)))))) (aT (fA br (ae (fA aK (ae (fS "seal") ai)) ai))) aV)
  (a9 (aQ 4 (fA lS (fV 0 (fV 1 (fV 3 (fV 2 ai))))))
  (a9 (cW (aU (f2 DZ (fA fU (fV 4 ai)) (fI 0))) (aT (fA br (ae (fA aK (ae (fS "called") (ae (bC 4 0) ai))) ai))) aV)
  (aT (fA gJ (fV 0 (fV 1 (fV 3 ai))))))))))
def oh:=aO zF 4 1
def zG:FS :=
  (a9 (aQ 2 (fI 5))
  (a9 (cW (aU (f2 DZ (fA fU (fV 0 ai)) (fI 0))) (aQ 2 (f2 bA (aj 0) (f2 bR (aj 1) (fA fU (fV 0 ai))))) aV)
  (a9 (aQ 2 (f2 bR (f2 gL (f2 bS (f2 bS (f2 bR (aj 2) (fI 2147483629)) (f2 gL (fI 6151) (aj 1))) (fI 1)) (fI 48271)) (fI 2147483647)))
  (aT (f2 bR (f2 gL (aj 2) (f2 bS (f2 bS (f2 bR (aj 2) (fI 65519)) (aj 1)) (fI 2))) (fI 2147483629))))))
def dn:=aO zG 2 1
def mR:FS :=
  (a9 (aQ 6 (fA ki (fV 2 ai)))
  (a9 (Ej 6 (aj 3) (f2 bA (aj 1) (f2 bR (f2 bS (f2 da (aj 0) (fI 64)) (f2 gL (fI 3) (aj 5))) (fI 26))))
  (jV 4 (f2 p8 (fS "") (aj 6)))))
def vv:FS :=
  (a9 (aQ 1 (fS "abcdefghijklmnopqrstuvwxyz"))
  (a9 (aQ 2 (bV (fW (f2 bS (fI 1) (f2 bR (aj 0) (fI 8)))) 1 [1,0] (dC 0) iJ (f2 bA (aj 1) (f2 bR (f2 da (aj 2) (f2 bS (fI 3) (f2 gL (fI 4) (aj 0)))) (fI 26)))))
  (a9 (aQ 3 (f2 bR (f2 da (aj 0) (fI 8)) (fA fU (fV 2 ai))))
  (a9 (aQ 4 (fA br ai))
  (a9 (mm (fW (fI 7)) (dC 5) mR)
  (a9 (cW (aU (f2 cC (f2 bR (f2 da (aj 0) (fI 1000)) (fI 8)) (fI 1))) (Ej 4 (fI 5) (bC 4 0)) aV)
  (iI 4)))))))
def oV:=aO vv 1 6
def pN:FS :=
  (a9 (aQ 3 (fA br (ae (fA aK (ae (fI 0) (ae (fC .non) ai))) (ae (fA aK (fV 1 (ae (fC .non) ai))) (ae (fA aK (fV 1 (ae (f2 bS (aj 1) (f2 gL (fI 3) (aj 2))) ai))) (ae (fA aK (ae (fI 0) (ae (f2 bS (aj 1) (f2 gL (fI 2) (aj 2))) ai))) (ae (fA aK (ae (fI 0) (ae (f2 gL (fI 9) (aj 2)) ai))) ai)))))))
  (a9 (aQ 3 (f2 bS (aj 3) (fA br (ae (fA aK (ae (f2 bS (aj 1) (aj 2)) (ae (f2 bS (aj 1) (f2 gL (fI 4) (aj 2))) ai))) (ae (fA aK (ae (f2 da (aj 1) (fI 2)) (ae (f2 bS (aj 1) (f2 gL (fI 6) (aj 2))) ai))) (ae (fA aK (ae (fI 0) (ae (fC .non) ai))) ai))))))
  (aT (f2 bA (aj 3) (f2 bR (aj 0) (fI 8))))))
def gU:=aO pN 3 1
def zH:FS :=
  (a9 (aQ 7 (f2 bS (f2 bS (Ev (fA br (ae (fS "leave") ai)) (fI 5)) (Ev (fA br (ae (fS "paper") ai)) (fI 2))) (fA br (ae (fS "like") (ae (fS "copy") (ae (fS "copy") (ae (fS "call") (ae (fS "call") ai))))))))
  (a9 (aQ 7 (f2 bS (aj 7) (fA br (ae (fS "named") (ae (fS "death") (ae (fS "lost") (ae (fS "found") (ae (fS "chosen") (ae (fS "heir") ai)))))))))
  (a9 (aQ 8 (f2 bA (aj 7) (f2 bR (aj 1) (fI 18))))
  (a9 (aQ 9 (f2 bA (aj 5) (f2 AV (f1 yJ (fI 1)) (f2 bR (f2 da (aj 1) (fI 18)) (fA J8 (ae (fI 3) (ae (fA fU (fV 5 ai)) ai)))))))
  (a9 (cW (aU (f2 cC (f2 bR (f2 da (aj 1) (fI 54)) (fI 6)) (fI 1))) (aQ 9 (f2 bA (aj 3) (f2 bR (f2 da (aj 1) (fI 324)) (fI 5)))) aV)
  (a9 (aQ 10 (f2 bA (aj 3) (f2 bR (f2 da (aj 1) (fI 1620)) (fI 5))))
  (a9 (aQ 11 (fA J7 (ae (fI 0) (ae (f2 AV (f2 AV (aj 0) (fI 1)) (f2 bR (aj 2) (fI 4))) ai))))
  (a9 (cW (aU (f2 cC (f2 bR (f2 da (aj 2) (fI 4)) (fI 8)) (fI 1))) (aQ 11 (f2 bR (f2 da (aj 2) (fI 32)) (fI 60))) aV)
  (a9 (cW (aU (f2 cC (aj 8) (fS "leave"))) (a9 (aQ 12 (f2 bA (fA br (ae (fI 3) (ae (fI 1) (ae (fI 7) (ae (fI 2) (ae (fI 255) (ae (fI 5) (ae (fI 1) (ae (fI 3) ai))))))))) (f2 bR (f2 da (aj 1) (fI 8100)) (fI 8))))
  (a9 (aQ 13 (f2 bR (f2 da (aj 2) (fI 256)) (f2 bA (fA br (ae (fI 5) (ae (fI 5) (ae (fI 5) (ae (fI 10) ai))))) (f2 bR (f2 da (aj 2) (fI 2560)) (fI 4)))))
  (aT (fA aK (fV 8 (fV 4 (fV 9 (fV 10 (fV 12 (ae (fA gU (ae (f2 da (aj 2) (fI 32)) (fV 4 (fV 6 ai)))) (fV 13 ai))))))))))) aV)
  (a9 (cW (js (aU (f2 cC (aj 8) (fS "paper"))) (aU (f2 cC (aj 8) (fS "like")))) (a9 (aQ 12 (f2 bA (fA br (ae (fI 1) (ae (fI 1) (ae (fI 3) (ae (fI 2) (ae (fI 4) (ae (fI 5) (ae (fI 128) (ae (fI 7) ai))))))))) (f2 bR (f2 da (aj 1) (fI 8100)) (fI 8))))
  (a9 (aQ 14 (fA aK (fV 8 (fV 4 (fV 9 (fV 12 (ae (fA gU (ae (f2 da (aj 2) (fI 32)) (fV 4 (fV 6 ai)))) (ae (f2 bA (fA br (ae (fC .non) (fV 10 ai))) (f2 bR (f2 da (aj 2) (fI 256)) (fI 2))) ai))))))))
  (a9 (cW (aU (f2 cC (aj 8) (fS "like"))) (aT (f2 C2 (aj 14) (fA aK (fV 11 (ae (fA aK (ae (fA aK (ae (fI 0) (fV 10 ai))) ai)) ai))))) aV)
  (aT (f2 C2 (aj 14) (fA aK (ae (fA aK (fV 10 ai)) ai))))))) aV)
  (a9 (cW (aU (f2 ya (aj 8) (fA aK (ae (fS "copy") (ae (fS "call") ai))))) (aT (fA aK (fV 8 (fV 4 (fV 9 (fV 11 ai)))))) aV)
  (a9 (cW (aU (f2 cC (aj 8) (fS "named"))) (aT (fA aK (fV 8 (fV 4 (ae (f2 bA (aj 3) (f2 bS (fI 5) (f2 bR (aj 2) (fI 2)))) (fV 10 ai)))))) aV)
  (a9 (cW (aU (f2 cC (aj 8) (fS "chosen"))) (aT (fA aK (fV 8 (fV 4 (fV 9 (ae (f2 bA (aj 3) (f2 bS (fI 5) (f2 bR (aj 2) (fI 2)))) (fV 10 (ae (f2 bS (aj 4) (f2 gL (f2 bR (f2 da (aj 2) (fI 32)) (fI 3)) (aj 6))) ai)))))))) aV)
  (a9 (cW (aU (f2 cC (aj 8) (fS "heir"))) (aT (fA aK (fV 8 (fV 4 (fV 9 (ae (f2 bA (aj 3) (f2 bS (fI 5) (f2 bR (aj 2) (fI 2)))) (fV 10 ai))))))) aV)
  (aT (fA aK (fV 8 (fV 4 (fV 9 ai)))))))))))))))))))
def sk:=aO zH 7 8
def oW:FS :=
  (a9 (aQ 8 (f2 bA (fA br (ae (fS "open") (ae (fS "first") (ae (fS "last") ai)))) (f2 bR (f2 da (aj 4) (f2 bS (fI 64) (f2 gL (fI 9) (aj 7)))) (fI 3))))
  (a9 (aQ 9 (f2 bA (fA br (ae (fI 7) (ae (fI 255) (ae (fI 3) (ae (fI 15) ai))))) (f2 bR (f2 da (aj 4) (f2 bS (fI 2) (f2 gL (fI 8) (aj 7)))) (fI 4))))
  (a9 (aQ 10 (f2 gL (f2 gL (fA mI (ae (f2 cC (f2 bR (f2 da (aj 4) (f2 bS (fI 512) (aj 7))) (fI 8)) (fI 1)) ai)) (fI 4)) (aj 2)))
  (a9 (aQ 11 (f2 bR (f2 da (aj 4) (f2 bS (fI 1024) (f2 gL (fI 5) (aj 7)))) (f2 bA (fA br (ae (fI 5) (ae (fI 5) (ae (fI 10) ai)))) (f2 bR (f2 da (aj 4) (f2 bS (fI 31) (aj 7))) (fI 3)))))
  (a9 (jV 5 (fA aK (fV 10 (ae (fA aK (ae (fS "root") (ae (f2 bA (aj 1) (f2 bS (fI 5) (aj 7))) (fV 9 (fV 11 (fV 8 ai)))))) ai))))
  (a9 (jV 5 (fA aK (ae (fI 0) (ae (fA aK (ae (fS "named") (ae (fI 0) (ae (f2 bA (aj 1) (f2 bS (fI 5) (aj 7))) (ae (f2 bA (aj 1) (aj 7)) ai))))) ai))))
  (jV 6 (f2 bA (aj 1) (aj 7)))))))))
def oZ:FS :=
  (a9 (aQ 12 (fA dn (fV 0 (ae (f2 bS (fI 5) (aj 7)) ai))))
  (a9 (aQ 13 (f2 gL (f2 bS (f2 da (aj 7) (fI 2)) (f2 bR (f2 da (aj 12) (fI 7)) (fI 3))) (aj 2)))
  (a9 (aQ 14 (fA sk (ae (fA fU (fV 5 ai)) (ae (fA dn (fV 0 (ae (f2 bS (fI 30) (aj 7)) ai))) (ae (fA dn (fV 0 (ae (f2 bS (fI 60) (aj 7)) ai))) (fV 1 (fV 13 (fV 6 (fV 2 ai)))))))))
  (a9 (cW (aU (f2 ya (bC 14 0) (fA aK (ae (fS "leave") (ae (fS "named") ai))))) (jV 6 (bC 14 3)) aV)
  (a9 (cW (aU (f2 cC (bC 14 0) (fS "chosen"))) (jV 6 (bC 14 4)) aV)
  (jV 5 (fA aK (ae (f2 bS (aj 13) (f2 gL (f2 bA (fA br (ae (fI 0) (ae (fI 0) (ae (fI 0) (ae (fI 0) (ae (fI 1) (ae (fI 4) ai))))))) (f2 bR (f2 da (aj 12) (fI 21)) (fI 6))) (aj 2))) (fV 14 ai)))))))))
def zI:FS :=
  (a9 (aQ 4 (fA dn (fV 0 (ae (fI 1) ai))))
  (a9 (aQ 5 (fA br ai))
  (a9 (aQ 6 (fA br ai))
  (a9 (mm (fW (f2 bS (fI 1) (f2 bR (aj 4) (fI 2)))) (dC 7) oW)
  (a9 (mm (fW (f2 bS (fI 3) (f2 bR (fA dn (fV 0 (ae (fI 2) ai))) (aj 3)))) (dC 7) oZ)
  (aT (fA iM (fV 5 ai))))))))
def sn:=aO zI 4 11
def zJ:FS :=
  (a9 (aQ 4 (f2 Bu (fA eW (fV 0 (fV 1 ai))) (aj 2)))
  (a9 (cW (aU (f2 A4 (aj 4) (fC .non))) (aT (fA aK (ae (fS "none") ai))) aV)
  (aT (fA dF (ae (fA gS (fV 0 (fV 1 ai))) (fV 4 (fV 3 ai)))))))
def jN:=aO zJ 4 1
def su:FS :=
  (aT (fA Rj (ae (bV (fW (fI 8)) 1 [0,1] (dC 0) (aU (f2 cC (f2 Jw (f2 NH (aj 2) (aj 0)) (fI 1)) (fI 1))) (f2 cC (f2 Jw (f2 NH (aj 1) (aj 0)) (fI 1)) (fI 1))) ai)))
def fO:=aO su 2 0
def m7:FS :=
  (a9 (cW (aU (f2 tG (Gg (fA jN (fV 0 (fV 1 (ae (bC 3 1) (ae (bC 2 1) ai))))) mn (kX (fI 2))) (fA aK (ae (fS "one") (ae (bC 2 2) ai))))) (aT (fS "holder")) aV)
  (a9 (cW (dS (aU (fA fO (ae (bC 3 2) (ae (f2 bA (aj 2) (f2 bS (fI 3) (fA mI (ae (f2 cC (bC 2 0) (fS "leave")) ai)))) ai))))) (aT (fS "matters")) aV)
  (aT (fS "further"))))
def j4:=aO m7 4 0
def oi:FS :=
  (a9 (cW (js (aU (f2 Iw (aj 0) (bC 2 0))) (aU (f2 Iw (bC 1 0) (bC 2 0)))) (aT (fC (.bl false))) aV)
  (a9 (cW (aU (f2 A4 (bC 2 1) (fC .non))) (aT (fC (.bl true))) aV)
  (aT (kL (f2 Iw (aj 0) (bC 2 1)) (kL (f2 kY (bC 1 1) (fC .non)) (f2 nE (bC 1 1) (bC 2 1)))))))
def i6:=aO oi 3 0
def oj:FS :=
  (a9 (aQ 3 (f2 bA (f2 bA (aj 0) (aj 1)) (fI 1)))
  (a9 (aQ 4 (f2 bA (f2 bA (aj 0) (aj 2)) (fI 1)))
  (a9 (aQ 5 (fA mI (ae (f2 cC (bC 3 0) (fS "leave")) ai)))
  (a9 (cW (aU (f2 Ln (fA aK (ae (bC 4 1) (fV 2 ai))) (fA aK (ae (bC 3 1) (fV 1 ai))))) (aT (fS "order")) aV)
  (a9 (cW (dS (aU (fA i6 (ae (bC 3 1) (ae (f2 bA (aj 3) (f2 bS (fI 4) (aj 5))) (ae (bC 4 5) ai)))))) (aT (fS "days")) aV)
  (a9 (cW (dS (aU (fA fO (ae (bC 4 4) (ae (f2 bA (aj 3) (f2 bS (fI 3) (aj 5))) ai))))) (aT (fS "matters")) aV)
  (a9 (cW (cA (aU (f2 cC (aj 5) (fI 1))) (aU (f2 QS (bC 3 6) (bC 4 6)))) (aT (fS "further")) aV)
  (aT (fS "falls")))))))))
def k8:=aO oj 3 3
def zK:FS :=
  (a9 (aQ 8 (f2 bA (bV (cu (aj 0)) 1 [1,7] (dC 0) (cA (aU (f2 nE (bC 0 0) (aj 1))) (aU (f2 cC (Gg (bC 0 1) mn (kX (fI 2))) (fA aK (ae (fS "root") (fV 2 ai)))))) (bC 0 1)) (fI 0)))
  (jV 6 (fA aK (ae (fS "office") (fV 7 (ae (fA j4 (fV 0 (fV 1 (fV 4 (fV 8 ai))))) ai))))))
def zL:FS :=
  (a9 (aQ 10 (f2 bA (f2 bA (aj 0) (aj 9)) (fI 1)))
  (cW (cA (aU (f2 nE (f2 bA (f2 bA (aj 0) (aj 9)) (fI 0)) (aj 1))) (cA (aU (f2 cC (bC 10 0) (fS "leave"))) (aU (f2 cC (bC 10 3) (bC 4 2))))) (jV 6 (fA aK (ae (fS "leave") (fV 9 (ae (fA k8 (fV 0 (fV 2 (fV 9 ai)))) ai))))) aV))
def xD:FS :=
  (a9 (aQ 4 (f2 bA (f2 bA (aj 0) (aj 2)) (fI 1)))
  (a9 (cW (aU (f2 cC (bC 4 0) (fS "copy"))) (aT (fA br (ae (fA aK (ae (fS "copy") (ae (bC 4 3) (ae (f2 bA (fA br (ae (fS "none") (ae (fS "falls") ai))) (fA mI (ae (f2 tG (fA k6 (fV 0 (fV 1 (fV 2 ai)))) (fA br ai)) ai))) ai)))) ai))) aV)
  (a9 (aQ 5 (f1 eI (bV (cu (aj 3)) 1 [4] (dC 0) (aU (f2 cC (bC 0 1) (bC 1 2))) (bC 0 0))))
  (a9 (aQ 6 (fA br ai))
  (a9 (Rp [5] (qL (cu (aj 5)) (dC 7) zK))
  (a9 (mm (fW (fA fU (fV 0 ai))) (dC 9) zL)
  (a9 (cW (aU (f2 cC (aj 6) (fA br ai))) (aT (fA br (ae (fA aK (ae (fS "none") ai)) ai))) aV)
  (iI 6))))))))
def om:=aO xD 4 7
def GX:FS :=
  (a9 (yS [9,10] (f2 bA (aj 3) (aj 8)))
  (cW (cA (aU (f2 nE (aj 9) (aj 4))) (cA (aU (f2 ya (bC 10 0) (fA aK (ae (fS "leave") (ae (fS "paper") (ae (fS "like") (ae (fS "copy") ai))))))) (cA (aU (f2 nE (bC 10 1) (aj 5))) (aU (f2 fK (aj 8) (aj 6)))))) (cW (cA (aU (fA cI (fV 3 (fV 4 (fV 8 ai))))) (aU (f2 cC (fA lS (fV 3 (fV 4 (fV 8 (fV 5 ai))))) (fA br ai)))) (a9 (aQ 11 (fA oh (fV 3 (fV 4 (fV 5 (fV 8 ai))))))
  (cW (js (dS (aU (fA gN (fV 11 (ae (fC (.ty "list")) ai))))) (aU (f2 tG (aj 11) (fA om (fV 3 (fV 4 (fV 8 (fV 7 ai)))))))) (aT (fC (.bl false))) aV)) aV) aV))
def Me:FS :=
  (a9 (aQ 1 (fA oV (ae (fA dn (fV 0 (ae (fI 0) ai))) ai)))
  (a9 (aQ 2 (f2 bA (fA br (ae (fI 1) (ae (fI 1) (ae (fI 500) ai)))) (f2 bR (fA dn (fV 0 (ae (fI 3) ai))) (fI 3))))
  (a9 (aQ 3 (fA sn (fV 0 (fV 1 (fV 2 (ae (fI 14) ai))))))
  (a9 (aQ 4 (f2 bA (fA br (ae (fI 9999) (ae (f2 gL (f2 bR (f2 da (fA dn (fV 0 (ae (fI 3) ai))) (fI 3)) (fI 13)) (aj 2)) ai))) (f2 da (f2 bR (fA dn (fV 0 (ae (fI 4) ai))) (fI 3)) (fI 2))))
  (a9 (aQ 5 (f2 bA (fA br (ae (fI 9999) (ae (f2 gL (f2 bR (f2 da (fA dn (fV 0 (ae (fI 90) ai))) (fI 2)) (fI 13)) (aj 2)) ai))) (f2 bR (fA dn (fV 0 (ae (fI 90) ai))) (fI 2))))
  (a9 (aQ 6 (fA mQ (fV 3 (fV 4 (fV 5 ai)))))
  (a9 (aQ 7 (fA gS (fV 3 (fV 4 ai))))
  (a9 (mm (fW (fA fU (fV 3 ai))) (dC 8) GX)
  (aT (fC (.bl true)))))))))))
def F_law:=aO Me 1 11
end Lw
namespace DL
open PySem L2
theorem iW:∀(n m:Nat)(d:D),n<=m->aq n d=true->aq m d=true
 |n,m,.non,_,_=>by simp
 |n,m,.bl _,_,_=>by simp
 |n,m,.int _,_,_=>by simp
 |n,m,.str _,_,_=>by simp
 |n,m,.ty _,_,h=>by cases n<;>simp[aq]at h
 |n,m,.dk _ _,_,h=>by simp at h
 |n,m,.dt _ _,_,h=>by simp at h
 |0,m,.tup _,_,h=>by simp[aq]at h
 |0,m,.lst _,_,h=>by simp[aq]at h
 |n+1,0,_,h,_=>by omega
 |n+1,m+1,.tup ds,hl,h=>by
  simp only[aq,List.all_eq_true]at h ⊢;exact λd hd=>iW n m d (by omega) (h d hd)
 |n+1,m+1,.lst ds,hl,h=>by
  simp only[aq,List.all_eq_true]at h ⊢;exact λd hd=>iW n m d (by omega) (h d hd)
theorem pb:∀(ds:List D),(∀d∈ds,bE d d=true)->dh ds ds=true
 |[],_=>by simp only[dh]
 |d::ds,h=>by
  simp only[dh,h d mX,Bool.true_and];exact pb ds λe he=>h e (mZ _ he)
theorem sv:∀(n:Nat)(d:D),aq n d=true->bE d d=true
 |n,.non,_=>by simp
 |n,.bl _,_=>by simp
 |n,.int _,_=>by simp
 |n,.str _,_=>by simp
 |n,.ty _,h=>by cases n<;>simp[aq]at h
 |n,.dk _ _,h=>by simp at h
 |n,.dt _ _,h=>by simp at h
 |0,.tup _,h=>by simp[aq]at h
 |0,.lst _,h=>by simp[aq]at h
 |n+1,.tup ds,h=>by
  simp only[aq,List.all_eq_true]at h;simp only[bE];exact pb ds λd hd=>sv n d (h d hd)
 |n+1,.lst ds,h=>by
  simp only[aq,List.all_eq_true]at h;simp only[bE];exact pb ds λd hd=>sv n d (h d hd)
end DL
namespace DL
@[simp] noncomputable abbrev sF (d:D):OB:=some (d,false)
@[simp] noncomputable abbrev lT (ds:List D):OB:=some (.lst ds,true)
theorem dr {r:OB}{d:D}{b:Bool}(h:R6 r d b=true:=by decide +kernel):r=some (d,b):=B1 h
theorem O4 {r:OB}{d:D}{b:Bool}(h:R6 r d b=true:=by rfl):r=some (d,b):=B1 h
theorem cS {p q:Prop}[Decidable p](h:p)(n:decide p=false:=by decide +kernel):q:=absurd h (of_decide_eq_false n)
end DL
namespace Lw
open PySem DL L2
theorem CT (d:D)(r:List D):p6 (d::r) 0=some d:=by have:=lr (xs:=d::r) (j:=0) (by simp);simpa using this
theorem xE (d e:D)(r:List D):p6 (d::e::r) 1=some e:=by have:=lr (xs:=d::e::r) (j:=1) (by simp);simpa using this
theorem W6 (d e f:D)(r:List D):p6 (d::e::f::r) 2=some f:=by have:=lr (xs:=d::e::f::r) (j:=2) (by simp);simpa using this
noncomputable def dc (k:Str):Bool:=decide (k = "death") || decide (k = "lost") || decide (k = "found")
noncomputable def eO (k:Str):Bool:=decide (k = "chosen") || decide (k = "heir") || decide (k = "leave") || decide (k = "paper") || decide (k = "like") || decide (k = "copy") || decide (k = "call")
structure DeedP (kind:Str)(aB:List D):Prop where
 flat:bB aB=true
 plain:aB.all (aq 5)=true
 three:dc kind=true->∃(day:Int)(p:Str),aB=[.int day,.str p]
 slg:eO kind=true->∃(day:Int)(p:Str)(r:List D),aB=.int day::.str p::r
noncomputable def row (h:Int)(kind:Str)(aB:List D):D:=.tup [.int h,.tup (.str kind::aB)]
def pe (r:D):Prop:=∃h kind aB,r=row h kind aB/\DeedP kind aB
theorem pe.flat (h:pe r):bq r=true:=by obtain⟨a,k,aB,rfl,dp⟩:=h;simp[row,dp.flat]
theorem pe.plain (h:pe r):aq 39 r=true:=by
 obtain⟨a,k,aB,rfl,dp⟩:=h;refine iW 7 39 _ (by decide) ?_;have:=dp.plain;simp only[row,aq,List.all_cons,List.all_nil,Bool.and_true,Bool.true_and];exact this
theorem bT (h:∀d∈ds,bq d=true):bB ds=true:=by
 induction ds with
 |nil=>rfl
 |cons d r ih=>simp[h d (by simp),ih λe he=>h e (by simp[he])]
theorem cU (zs:List Str):bB (zs.map D.str)=true:=by
 induction zs with
 |nil=>rfl
 |cons a l ih=>simp[ih]
noncomputable def ba:D->Int
 |.tup (.int h::_)=>h
 |_=>0
noncomputable def kindOf:D->Str
 |.tup [_,.tup (.str k::_)]=>k
 |_=>("" : Str)
noncomputable def aF:D->Int
 |.tup [_,.tup (_::.int d::_)]=>d
 |_=>0
noncomputable def vw (p:Str)(day:Int):List D->Bool
 |[.int d,.str q]=>decide (q=p) && decide (d<=day)
 |_=>false
def told (ws:List Str)(p:Str)(day:Int):D->Bool
 |.tup [_,.tup (.str kind::aB)]=>decide (kind∈ws) && vw p day aB
 |_=>false
theorem jr (h:Int)(kind:Str)(aB:List D):aN [row h kind aB]=sF (.str kind):=av rfl (az (by simp[row,xE,CT]))
theorem lz (h:dc k=true):k = "death" ∨ k = "lost" ∨ k = "found":=by
 unfold dc at h;simp only[Bool.or_eq_true,decide_eq_true_eq]at h;rcases h with (h|h)|h
 ·exact .inl h
 ·exact .inr (.inl h)
 ·exact .inr (.inr h)
theorem mS (h:eO k=true):k = "chosen" ∨ k = "heir" ∨ k = "leave" ∨ k = "paper" ∨ k = "like" ∨ k = "copy" ∨ k = "call":=by
 unfold eO at h;simp only[Bool.or_eq_true,decide_eq_true_eq]at h;rcases h with (((((h|h)|h)|h)|h)|h)|h
 ·exact .inl h
 ·exact .inr (.inl h)
 ·exact .inr (.inr (.inl h))
 ·exact .inr (.inr (.inr (.inl h)))
 ·exact .inr (.inr (.inr (.inr (.inl h))))
 ·exact .inr (.inr (.inr (.inr (.inr (.inl h)))))
 ·exact .inr (.inr (.inr (.inr (.inr (.inr h)))))
theorem Ks (h:dc k=true∨eO k=true):qi iw (.str k) (.str "day")=sF (.int 0):=by
 rcases h with h|h
 ·rcases lz h with rfl|rfl|rfl<;>exact dr
 ·rcases mS h with rfl|rfl|rfl|rfl|rfl|rfl|rfl<;>exact dr
theorem B4 (h:dc k=true):qi iw (.str k) (.str "person")=sF (.int 1):=by
 rcases lz h with rfl|rfl|rfl<;>exact dr
theorem GY (h:dc k=true∨eO k=true):cC (.str k) (.str "root")=sF (.bl false):=by
 rcases h with h|h
 ·rcases lz h with rfl|rfl|rfl<;>exact dr
 ·rcases mS h with rfl|rfl|rfl|rfl|rfl|rfl|rfl<;>exact dr
theorem bz {h:Int}{k:Str}{aB:List D}{part:Str}{i:Nat}{d:D}(hi:qi iw (.str k) (.str part)=sF (.int i))(hd:aB[i]? = some d):au [row h k aB,.str part]=some (d,false):=by
 refine av rfl (az ?_);refine bw (.tup (.str k::aB)) (.int (1+i)) (by simp[row,xE]) (bw (.int 1) (.int i) rfl (bw (.str k) (.str part) (aI [row h k aB] rfl (jr _ _ _)) rfl hi) (by simp)) ?_;have gs:i<aB.length:=(vV hd).1;have:p6 (.str k::aB) (1+(i:Int))=some d:=by
  have:=lr (xs:=(.str k:D)::aB) (j:=i+1) (by simp;omega);rw[show(1+(i:Int))=((i+1:Nat):Int) by omega,this];simp only[List.getElem_cons_succ];rw[vU gs]at hd;exact hd
 simp[this]
theorem jO {h:Int}{k:Str}{aB:List D}{d:Int}{r:List D}(hk:dc k=true∨eO k=true)(hr:aB=.int d::r):aX [row h k aB]=sF (.int d):=by
 subst hr;refine av rfl (aC (cw (bw (.str k) (.str "root") (aI [row h k (.int d::r)] rfl (jr _ _ _)) rfl (GY hk))) (az (aI [row h k (.int d::r),.str "day"] rfl (bz (i:=0) (Ks hk) rfl))))
theorem sw (k:Str)(ws:List Str):Ix (.str k) (ws.map .str)=decide (k∈ws):=by
 induction ws with
 |nil=>simp[Ix]
 |cons w ws ih=>
  have:Ix (.str k) ((w::ws).map .str)=(bE (.str w) (.str k) || Ix (.str k) (ws.map .str)):=rfl;rw[this,ih,p7];by_cases e:w=k
  ·simp[e]
  ·have e':¬k=w:=λz=>e z.symm;simp[e,e']
theorem ph (ws:List Str):(ws.map D.str).all gM=true:=by
 induction ws with
 |nil=>rfl
 |cons w ws ih=>simp[gM]
theorem iX (k:Str)(ws:List Str):ya (.str k) (.tup (ws.map .str))=sF (.bl (decide (k∈ws))):=by
 simp only[ya,gk,vJ,sw];rw[if_pos ⟨rfl,ph ws⟩]
theorem GZ (hr:pe r)(ws:List Str)(hw:∀w∈ws,dc w=true)(p:Str)(day:Int):qA [r,.tup (ws.map .str),.str p,.int day]=sF (.bl (told ws p day r)):=by
 obtain⟨h,kind,aB,rfl,dp⟩:=hr;have Lj:f2 ya (fA aN (fV 0 ai)) (aj 1) [some (row h kind aB,false),sF (.tup (ws.map .str)),sF (.str p),sF (.int day)]=sF (.bl (decide (kind∈ws))) :=
  bw (.str kind) (.tup (ws.map .str)) (aI [row h kind aB] rfl (jr _ _ _)) rfl (iX kind ws)
 have ht:told ws p day (row h kind aB)=(decide (kind∈ws) && vw p day aB):=rfl;rw[ht];refine av rfl (az (dm (b1:=false) Lj λhk=>?_));have h3:=hw kind (of_decide_eq_true hk);obtain⟨d,q,rfl⟩:=dp.three h3;show kL _ _ _=sF (.bl (decide (q=p) && decide (d<=day)));refine dm (b1:=false) ?_ λ_=>?_
 ·exact bw (.str q) (.str p) (aI [row h kind [.int d,.str q],.str "person"] rfl (bz (i:=1) (B4 h3) rfl)) rfl (by simp)
 ·exact bw (.int d) (.int day) (aI [row h kind [.int d,.str q]] rfl (jO (.inl h3) rfl)) rfl (by simp)
theorem Ha (ds:List D):uy ds=ds.zipIdx.map λx=>.tup [.int x.2,x.1]:=by
 unfold uy;apply List.ext_getElem?;intro i;simp[List.getElem?_mapIdx,List.getElem?_zipIdx];cases ds[i]?<;>simp
noncomputable def ak (Z:List D)(aa:Int):List (D×Nat):=Z.zipIdx.filter λx=>decide (ba x.1<=aa)
theorem l5 (Z:List D)(hr:∀r∈Z,pe r)(hl:Z.length<=1000)(aa:Int):cM [.tup Z,.int aa]=lT ((ak Z aa).map λx=>.int x.2):=by
 have hc:=gP (fi:=Go (aj 0)) (nT:=2) (cap:=[1]) (tg:=P5 [0,1]) (c:=aU (f2 nE (bC 1 0) (aj 2))) (fe:=aj 0) (Y:=[sF (.tup Z),sF (.int aa)]) Z.zipIdx (λx=>.tup [.int x.2,x.1]) (λx=>decide (ba x.1<=aa)) (λx=>.int x.2)
  (by simp[Ha]) (by simp;omega) λx hx=>by
   obtain⟨h,kind,aB,e,_⟩:=hr x.1 (List.fst_mem_of_mem_zipIdx hx);refine⟨_,rfl,cw ?_,λ_=>⟨false,by simp[eA]⟩⟩;simp[eA,e,row,CT,ba]
 exact av rfl (az hc)
def qj (Z:List D)(aa:Int)(ws:List Str)(p:Str)(day:Int):List (D×Nat):=(ak Z aa).filter λx=>told ws p day x.1
theorem CU (h:x∈qj Z aa ws p day):Z[x.2]? = some x.1/\told ws p day x.1=true:=by
 obtain⟨h1,h2⟩:=vN h;exact⟨(List.mk_mem_zipIdx_iff_getElem? (x:=x.1) (i:=x.2)).mp (vN h1).1,h2⟩
theorem bU {Z:List D}{i:Nat}{r:D}(h:Z[i]? = some r):p6 Z (i:Int)=some r:=by
 obtain⟨gs,e⟩:=vV h;rw[lr gs,e]
theorem Kt (Z:List D)(aa:Int)(ws:List Str)(p:Str)(day:Int):(qj Z aa ws p day).length<=Z.length:=by
 have h1:=vM (λx:D×Nat=>told ws p day x.1) (ak Z aa);have h2:=vM (λx:D×Nat=>decide (ba x.1<=aa)) Z.zipIdx;rw[List.length_zipIdx]at h2;exact vR h1 h2
theorem xF (Z:List D)(hr:∀r∈Z,pe r)(hl:Z.length<=1000)(aa:Int)(ws:List Str)(hw:∀w∈ws,dc w=true)(p:Str)(day:Int):
  iD [.tup Z,.int aa,.tup (ws.map .str),.str p,.int day]=lT ((qj Z aa ws p day).map λx=>.int x.2):=by
 have hc:=gP (fi:=cu (fA cM (fV 0 (fV 1 ai)))) (nT:=1) (cap:=[2,3,4,0]) (tg:=dC 0) (c:=aU (fA qA (ae (f2 bA (aj 4) (aj 0)) (fV 1 (fV 2 (fV 3 ai)))))) (fe:=aj 0)
  (Y:=[sF (.tup Z),sF (.int aa),sF (.tup (ws.map .str)),sF (.str p),sF (.int day)]) (ak Z aa) (λx=>.int x.2) (λx=>told ws p day x.1) (λx=>.int x.2)
  (by
   show(fA cM (fV 0 (fV 1 ai)) _).bind _=_;rw[aI [.tup Z,.int aa] rfl (l5 Z hr hl aa)];rfl) (by have:=vM (λx:D×Nat=>decide (ba x.1<=aa)) Z.zipIdx;rw[List.length_zipIdx]at this;exact vR this (by omega)) λx hx=>by
   have hg:Z[x.2]? = some x.1:=(List.mk_mem_zipIdx_iff_getElem? (x:=x.1) (i:=x.2)).mp (vN hx).1;refine⟨_,rfl,cw (aI [x.1,.tup (ws.map .str),.str p,.int day] ?_ (GZ (hr _ (vL hg)) ws hw p day)),λ_=>⟨false,by simp[eA]⟩⟩;have ha:=bU hg;simp[eA,ha]
 exact av rfl (az hc)
def kA (x:D×Nat):List At:=[.i (aF x.1),.i x.2]
def fg (a b:D×Nat):Bool:=decide (aF a.1<aF b.1∨(aF a.1=aF b.1/\(a.2:Int)<b.2))
def ib:D×Nat->List (D×Nat)->D×Nat
 |b,[]=>b
 |b,x::r=>if fg b x=true then ib x r else ib b r
def Mf:List (D×Nat)->Option (D×Nat)
 |[]=>none
 |x::r=>some (ib x r)
theorem Ku (a b c d:Int):bd [.i a,.i b] [.i c,.i d]=some (decide (a<c∨(a=c/\b<d))):=by
 rw[bd];by_cases h:a=c
 ·rw[if_pos h,bd];by_cases h2:b=d
  ·rw[if_pos h2,bd];simp[h,h2]
  ·rw[if_neg h2];simp[h]
 ·rw[if_neg h];simp[h]
theorem B5 (a b:D×Nat):bd (kA a) (kA b)=some (fg a b):=Ku _ _ _ _
theorem xG (l:List (D×Nat)):eZ (l.map kA)=true:=by
 unfold eZ;simp[List.all_eq_true,B5]
theorem pi:∀(r:List (D×Nat))(b:D×Nat),nL (kA b,.int b.2) (r.map λx=>(kA x,D.int x.2))=.int (ib b r).2
 |[],b=>rfl
 |x::r,b=>by
  rw[uY,nL,ib];show(if bd (kA b) (kA x)=some true then _ else _)=_;rw[B5];by_cases h:fg b x=true
  ·rw[if_pos h,if_pos (by rw[h])];exact pi r x
  ·rw[if_neg h,if_neg (by simpa using h)];exact pi r b
theorem sx:∀(r:List (D×Nat))(b:D×Nat),ib b r∈b::r
 |[],b=>by simp[ib]
 |x::r,b=>by
  rw[ib];split
  ·exact mZ _ (sx r x)
  ·rcases vP (sx r b)with h|h
   ·rw[h];exact mX
   ·exact mZ _ (mZ _ h)
theorem iY {α:Type}{f:D->Option D}{g h:α->D}:∀(l:List α),(∀x∈l,f (g x)=some (h x))->jH f (l.map g)=some (l.map h)
 |[],_=>rfl
 |x::l,hx=>by
  rw[uY,jH,hx x mX,vJ,iY l λy hy=>hx y (mZ _ hy)];rfl
theorem iE {α:Type}{g:α->D}{h:α->List At}:∀(l:List α),(∀x∈l,zj (g x)=some (h x))->dU (l.map g)=some (l.map h)
 |[],_=>rfl
 |x::l,hx=>by
  rw[uY,dU,hx x mX,vJ,iE l λy hy=>hx y (mZ _ hy)];rfl
noncomputable def oq:List Str:=[("lost" : Str),"found"]
theorem pO:∀w∈oq,dc w=true:=by
 intro w hw;rcases vP hw with rfl|hw
 ·decide +kernel
 ·rcases vP hw with rfl|hw
  ·decide +kernel
  ·cases hw
def zM (Z:List D)(aa:Int)(p:Str)(day:Int):Bool:=match Mf (qj Z aa oq p day) with
 |none=>true
 |some b=>decide (kindOf b.1 = "found")
theorem sy (hw:∀w∈ws,dc w=true)(hr:pe r)(ht:told ws p day r=true):∃h k d,r=row h k [.int d,.str p]/\dc k=true/\k∈ws/\d<=day:=by
 obtain⟨h,kind,aB,rfl,dp⟩:=hr;have Sb:(decide (kind∈ws) && vw p day aB)=true:=ht;rw[vC]at Sb;have hm:=of_decide_eq_true Sb.1;obtain⟨d,q,rfl⟩:=dp.three (hw _ hm);have hq:(decide (q=p) && decide (d<=day))=true:=Sb.2;rw[vC]at hq;have:=of_decide_eq_true hq.1;subst this;exact⟨h,kind,d,rfl,hw _ hm,hm,of_decide_eq_true hq.2⟩
theorem CV {Z:List D}{i:Nat}{h d:Int}{k p:Str}(hg:Z[i]? = some (row h k [.int d,.str p]))(h3:dc k=true):fM [.tup Z,.int i]=sF (.tup [.int d,.int i]):=by
 have ha:=bU hg;refine av rfl (az (aI [.int d,.int i] (aD (d:=.int d) (b:=false) (aI [row h k [.int d,.str p]] (by simp[ha]) (jO (.inl h3) rfl)) rfl) (by simp[sizeLine])))
theorem Kv (Z:List D)(hr:∀r∈Z,pe r)(hl:Z.length<=1000)(aa:Int)(p:Str)(day:Int):mN [.tup Z,.int aa,.str p,.int day]=sF (.bl (zM Z aa p day)):=by
 have ht:=xF Z hr hl aa oq pO p day;have hsl:=Kt Z aa oq p day;have key:∀x∈qj Z aa oq p day,∃h k d,Z[x.2]? = some (row h k [.int d,.str p])/\x.1=row h k [.int d,.str p]/\dc k=true:=λx hx=>by
  obtain⟨hg,VJ⟩:=CU hx;obtain⟨h,k,d,e,h3,_⟩:=sy pO (hr _ (vL hg)) VJ;exact⟨h,k,d,by rw[hg,e],e,h3⟩
 unfold zM;generalize hsel:qj Z aa oq p day=sel at ht key hsl ⊢;have Ll:fA iD (fV 0 (fV 1 (ae (fA aK (ae (fS "lost") (ae (fS "found") ai))) (fV 2 (fV 3 ai))))) [sF (.tup Z),sF (.int aa),sF (.str p),sF (.int day),none]=lT (sel.map λx=>.int x.2) :=
  aI [.tup Z,.int aa,.tup (oq.map .str),.str p,.int day] (by simp[oq,sizeLine]) ht
 have T7:bB (sel.map λx=>D.int x.2)=true:=bT λd hd=>by obtain⟨x,_,rfl⟩:=vO hd;rfl
 cases sel with
 |nil=>exact av rfl (cj Ll T7 (bj (cw (by simp)) (az rfl)))
 |cons x r=>
  refine av rfl (cj Ll T7 (aC (cw (by simp;omega)) (az ?_)));obtain⟨h,k,d,hg,e,h3⟩:=key (ib x r) (sx r x);have hb:kindOf (ib x r).1=k:=by rw[e];rfl
  show _=some (D.bl (decide (kindOf (ib x r).1 = "found")),false);rw[hb];refine bw (.str k) (.str "found") (aI [row h k [.int d,.str p]] (aD (d:=row h k [.int d,.str p]) (b:=false) (bw (.tup Z) (.int (ib x r).2) rfl ?_ (by simp[bU hg])) rfl) (jr _ _ _)) rfl (by simp);have hm:∀Y:DL.Env,Y[0]? = some (sF (.tup Z))->jH (re [0] (fA fM (fV 1 (fV 0 ai))) Y) ((x::r).map λx=>D.int x.2)=some ((x::r).map λx=>.tup [.int (aF x.1),.int x.2]):=λY h0=>
   iY (x::r) λy hy=>by
    obtain⟨h,k,d,hg,e,h3⟩:=key y hy;have hd:aF y.1=d:=by rw[e];rfl
    rw[hd];show(fA fM _ _).map _=_;rw[aI [.tup Z,.int y.2] (by simp[eA,h0]) (CV hg h3)];rfl
  have hk:dU ((x::r).map λx=>D.tup [.int (aF x.1),.int x.2])=some ((x::r).map kA):=iE (x::r) λy _=>rfl;have hz:((x::r).map kA).zip ((x::r).map λx=>D.int x.2)=(kA x,.int x.2)::r.map λx=>(kA x,D.int x.2):=by
   rw[List.zip_map'];rfl
  show(uK (aj 4) _ _)=_;unfold uK Ol;show((some (D.lst ((x::r).map λx=>D.int x.2),false)).bind _)=_;simp only[vJ];rw[hm _ rfl];simp only[vJ];rw[hk];simp only[vJ];rw[if_pos (xG _),hz];simp only[pi]
noncomputable def eP:List Str:=[("death" : Str)]
theorem k9:∀w∈eP,dc w=true:=by
 intro w hw;rcases vP hw with rfl|hw
 ·decide +kernel
 ·cases hw
def pj (Z:List D)(aa:Int)(p:Str)(day:Int):Bool:=(qj Z aa eP p day).isEmpty
theorem zN (Z:List D)(hr:∀r∈Z,pe r)(hl:Z.length<=1000)(aa:Int)(p:Str)(day:Int):nQ [.tup Z,.int aa,.str p,.int day]=sF (.bl (pj Z aa p day)):=by
 have ht:=xF Z hr hl aa eP k9 p day;unfold pj;generalize qj Z aa eP p day=sel at ht ⊢;refine av rfl (az (bw (.int ((sel.map λx=>D.int x.2).length:Nat)) (.int 0) ?_ rfl ?_))
 ·exact aI [.lst (sel.map λx=>.int x.2)] (aD (d:=.lst (sel.map λx=>.int x.2)) (b:=true) (aI [.tup Z,.int aa,.tup (eP.map .str),.str p,.int day] (by simp[sizeLine,eP]) ht) rfl) Kr
 ·rw[CG];cases sel<;>simp
  omega
noncomputable def b9:D->Str
 |.tup [_,.tup (_::_::.str p::_)]=>p
 |_=>("" : Str)
noncomputable def zO:List Str:=[("chosen" : Str),"heir","leave","paper","like","copy","call"]
theorem sA (k:Str):eO k=decide (k∈zO):=by
 unfold eO zO;simp[List.mem_cons,Bool.or_assoc]
theorem B6:iS=.tup (zO.map .str):=rfl
theorem pP (k:Str)(ws:List Str):fK (.str k) (.tup (ws.map .str))=sF (.bl (!decide (k∈ws))):=by
 simp only[fK,gk,vJ,sw];rw[if_pos ⟨rfl,ph ws⟩]
theorem Hb (h:eO k=true):qi iw (.str k) (.str "by")=sF (.int 1):=by
 rcases mS h with rfl|rfl|rfl|rfl|rfl|rfl|rfl<;>exact dr
def gB (Z:List D)(aa:Int)(r:D):Bool:=(decide (ba r<=aa) && eO (kindOf r)) && (pj Z aa (b9 r) (aF r) && zM Z aa (b9 r) (aF r))
theorem l7 {Z:List D}{i:Nat}{h:Int}{kind:Str}{aB:List D}(hg:Z[i]? = some (row h kind aB))(aa:Int):cH [.tup Z,.int aa,.int i]=sF (.bl (decide (h<=aa))):=by
 have gs:i<Z.length:=(vV hg).1;have ha:=bU hg;refine av rfl (az ?_);have:=dm (f1:=oH nE Iw (fI 0) (aj 2) (fA fU (fV 0 ai))) (f2:=f2 nE (f2 bA (f2 bA (aj 0) (aj 2)) (fI 0)) (aj 1)) (Y:=[sF (.tup Z),sF (.int aa),sF (.int i)]) (p:=true) (q:=decide (h<=aa)) (b1:=false)
  (by
   refine(z6 (x:=.int 0) (y:=.int i) (z:=.int Z.length) (b1:=false) (b2:=false) (b3:=false) (b4:=false) (p:=true) (q:=true) rfl rfl (by simp) (by simp) λ_=>?_).trans rfl;simp;omega) λ_=>by simp[ha,row,CT]
 exact this
theorem l8 (Z:List D)(hr:∀r∈Z,pe r)(hl:Z.length<=1000)(aa:Int){i:Nat}{r:D}(hg:Z[i]? = some r):cI [.tup Z,.int aa,.int i]=sF (.bl (gB Z aa r)):=by
 obtain⟨h,kind,aB,rfl,dp⟩:=hr r (vL hg);have hk:=l7 hg aa;have ha:=bU hg;have S1:∀(Y:DL.Env),f2 bA (aj 0) (aj 2) Y=some (row h kind aB,false)->fA aN (ae (f2 bA (aj 0) (aj 2)) ai) Y=sF (.str kind):=λY e=>aI [row h kind aB] (aD e rfl) (jr _ _ _);have Il:f2 bA (aj 0) (aj 2) [sF (.tup Z),sF (.int aa),sF (.int i),none,none]=some (row h kind aB,false):=by simp[ha]
 have hc:(js (dS (aU (fA cH (fV 0 (fV 1 (fV 2 ai)))))) (aU (f2 fK (fA aN (ae (f2 bA (aj 0) (aj 2)) ai)) (fC iS)))) [sF (.tup Z),sF (.int aa),sF (.int i),none,none]=some (!decide (h<=aa) || !eO kind):=by
  refine cY (bO (cw (aI [.tup Z,.int aa,.int i] rfl hk))) λ_=>cw (bw (.str kind) iS (S1 _ Il) rfl ?_);rw[B6,sA];exact pP kind zO
 have hs:gB Z aa (row h kind aB)=((decide (h<=aa) && eO kind) && (pj Z aa (b9 (row h kind aB)) (aF (row h kind aB)) && zM Z aa (b9 (row h kind aB)) (aF (row h kind aB)))):=rfl;cases hb:(decide (h<=aa) && eO kind) with
 |false=>
  rw[hs,hb];refine av rfl (bj (hc.trans ?_) (az rfl));rw[←Bool.not_and,hb];rfl
 |true=>
  rw[hs,hb];rw[vC]at hb;obtain⟨day,p,r',rfl⟩:=dp.slg hb.2;show _=some (D.bl (true && (pj Z aa p day && zM Z aa p day)),false);rw[Bool.true_and];refine av rfl (aC (hc.trans (by rw[hb.1,hb.2];rfl)) (fB (.str p) (aI [row h kind (.int day::.str p::r'),.str "by"] (aD Il rfl) (bz (i:=1) (Hb hb.2) rfl)) rfl (fB (.int day) (aI [row h kind (.int day::.str p::r')] (aD (d:=row h kind (.int day::.str p::r')) (b:=false) (by simp[ha]) rfl) (jO (.inr hb.2) rfl)) rfl (az ?_))));exact dm (b1:=false) (aI [.tup Z,.int aa,.str p,.int day] (by simp) (zN Z hr hl aa p day)) λ_=>aI [.tup Z,.int aa,.str p,.int day] (by simp) (Kv Z hr hl aa p day)
inductive Cd:Str->List D->Prop
 |root (o r:Str) (m f:Int):Cd ("root" : Str) [.str o,.int m,.int f,.str r]
 |named (d:Int) (o p:Str):Cd ("named" : Str) [.int d,.str o,.str p]
 |chosen (d:Int) (b o p:Str) (s:Int):Cd ("chosen" : Str) [.int d,.str b,.str o,.str p,.int s]
 |heir (d:Int) (b o p:Str):Cd ("heir" : Str) [.int d,.str b,.str o,.str p]
 |three (k:Str) (hk:k = "death" ∨ k = "lost" ∨ k = "found") (d:Int) (p:Str):Cd k [.int d,.str p]
 |other (k:Str) (hk:k = "leave" ∨ k = "paper" ∨ k = "like" ∨ k = "copy" ∨ k = "call") (d:Int) (b:Str) (r:List D) (hf:bB r=true) (hp:r.all (aq 5)=true):Cd k (.int d::.str b::r)
theorem Cd.deed (h:Cd k r):DeedP k r:=by
 cases h with
 |root o rl m f=>exact⟨rfl,by simp,λh=>cS h,λh=>cS h⟩
 |named d o p=>exact⟨rfl,by simp,λh=>cS h,λh=>cS h⟩
 |chosen d b o p s=>exact⟨rfl,by simp,λh=>cS h,λ_=>⟨d,b,_,rfl⟩⟩
 |heir d b o p=>exact⟨rfl,by simp,λh=>cS h,λ_=>⟨d,b,_,rfl⟩⟩
 |three k hk d p=>exact⟨rfl,by simp,λ_=>⟨d,p,rfl⟩,λh=>by rcases hk with rfl|rfl|rfl<;>exact cS h⟩
 |other k hk d b r hf hp=>exact⟨by simp[hf],by simp only[List.all_cons,hp,aq,Bool.and_true],λh=>by rcases hk with rfl|rfl|rfl|rfl|rfl<;>exact cS h,λ_=>⟨d,b,r,rfl⟩⟩
def xH (r:D):Prop:=∃h k aB,r=row h k aB/\Cd k aB
theorem xH.rp (h:xH r):pe r:=by obtain⟨a,k,aB,rfl,d⟩:=h;exact⟨a,k,aB,rfl,d.deed⟩
def bo (r:D):Bool:=decide (kindOf r = "root")
theorem Cd.day (h:Cd k r)(hk:k ≠ "root"):∃d q,r=.int d::q:=by
 cases h with
 |root=>exact absurd rfl hk
 |named d=>exact⟨d,_,rfl⟩
 |chosen d=>exact⟨d,_,rfl⟩
 |heir d=>exact⟨d,_,rfl⟩
 |three _ _ d=>exact⟨d,_,rfl⟩
 |other _ _ d=>exact⟨d,_,rfl⟩
theorem Cd.day_idx (h:Cd k r)(hk:k ≠ "root"):qi iw (.str k) (.str "day")=sF (.int 0):=by
 cases h with
 |root=>exact absurd rfl hk
 |named=>exact dr
 |chosen=>exact dr
 |heir=>exact dr
 |three _ hh=>rcases hh with rfl|rfl|rfl<;>exact dr
 |other _ hh=>rcases hh with rfl|rfl|rfl|rfl|rfl<;>exact dr
theorem bY (e:f Y=some (.str a,bb))(h:decide (a=b)=x):aU (f2 cC f (fS b)) Y=some x:=cw (fZ (x:=.str a) (y:=.str b) (b1:=bb) (b2:=false) e rfl (by rw[←h];simp))
def tN (r:D):D:=if bo r=true then .non else .int (aF r)
theorem j5 (g:xH r):aN [r]=sF (.str (kindOf r)):=by
 obtain⟨h,k,aB,rfl,_⟩:=g;exact jr h k aB
theorem sC (g:xH r):aX [r]=some (tN r,false):=by
 obtain⟨h,k,aB,rfl,d⟩:=g;unfold tN;by_cases hk:k = "root"
 ·have:bo (row h k aB)=true:=decide_eq_true hk;rw[if_pos this];exact av rfl (bj (bY (a:=k) (bb:=false) (aI [row h k aB] rfl (jr _ _ _)) (decide_eq_true hk)) (az rfl))
 ·have:bo (row h k aB)=false:=decide_eq_false hk;rw[if_neg (by rw[this];decide)];obtain⟨dd,q,rfl⟩:=d.day hk;exact av rfl (aC (bY (a:=k) (bb:=false) (aI [row h k (.int dd::q)] rfl (jr _ _ _)) (decide_eq_false hk)) (az (aI [row h k (.int dd::q),.str "day"] rfl (bz (i:=0) (d.day_idx hk) rfl))))
def fP (Z:List D):Prop:=Z.length<=60/\∀r∈Z,xH r
theorem fP.rp (g:fP Z):∀r∈Z,pe r:=λr hr=>(g.2 r hr).rp
theorem fP.le (g:fP Z):Z.length<=1000:=vR g.1 (by decide)
theorem bI (h:x∈ak Z aa):Z[x.2]? = some x.1:=by
 obtain⟨h1,_⟩:=vN h;exact List.mem_zipIdx_iff_getElem?.mp h1
theorem cB (Z:List D)(aa:Int):(ak Z aa).length<=Z.length:=by
 have:=vM (λx:D×Nat=>decide (ba x.1<=aa)) Z.zipIdx;rw[List.length_zipIdx]at this;exact this
theorem eX (Z:List D)(aa:Int):((ak Z aa).map (·.2)).Nodup:=by
 have h1:(Z.zipIdx.map (·.2)).Nodup:=by rw[List.zipIdx_map_snd];exact List.nodup_range'
 exact List.Nodup.sublist (List.Sublist.map _ (List.filter_sublist)) h1
def du (Z:List D)(aa:Int):List (D×Nat):=(ak Z aa).filter λx=>!bo x.1
def R7 (Z:List D)(aa:Int):List (D×Nat):=eY (λx=>cX (kA x)) (du Z aa)
theorem Hd (h:cX (kA a)=cX (kA b)):a.2=b.2:=by
 have h:[aF a.1,(a.2:Int)]=[aF b.1,(b.2:Int)]:=h;injection h with _ h;injection h with h;omega
theorem Kw (ha:a∈ak Z aa)(hb:b∈ak Z aa)(h:a.2=b.2):a=b:=by
 have h1:=bI ha;have h2:=bI hb;rw[h,h2]at h1;exact Prod.ext (vK h1).symm h
theorem pQ (g:fP Z)(aa:Int):eK [.tup Z,.int aa]=lT ((R7 Z aa).map λx=>.int x.2):=by
 have hl:=g.1;have Qc:=cB Z aa;have Il:∀x∈ak Z aa,p6 Z (x.2:Int)=some x.1/\xH x.1:=λx hx=>⟨bU (bI hx),g.2 _ (vL (bI hx))⟩;have hc:=gP (fi:=cu (fA cM (fV 0 (fV 1 ai)))) (nT:=1) (cap:=[0]) (tg:=dC 0) (c:=aU (f2 kY (fA aX (ae (f2 bA (aj 1) (aj 0)) ai)) (fC .non))) (fe:=aj 0) (Y:=[sF (.tup Z),sF (.int aa),none]) (ak Z aa) (λx=>.int x.2) (λx=>!bo x.1) (λx=>.int x.2)
  (by
   show(fA cM (fV 0 (fV 1 ai)) _).bind _=_;rw[aI [.tup Z,.int aa] rfl (l5 Z g.rp g.le aa)];rfl) (by omega) λx hx=>by
   obtain⟨ha,gx⟩:=Il x hx;refine⟨_,rfl,cw (bw (tN x.1) .non (aI [x.1] (by simp[eA,ha]) (sC gx)) rfl ?_),λ_=>⟨false,by simp[eA]⟩⟩;unfold tN;cases bo x.1<;>simp[Ed]
 have KQ:bV (cu (fA cM (fV 0 (fV 1 ai)))) 1 [0] (dC 0) (aU (f2 kY (fA aX (ae (f2 bA (aj 1) (aj 0)) ai)) (fC .non))) (aj 0) [sF (.tup Z),sF (.int aa),none]=lT ((du Z aa).map λx=>.int x.2):=hc;have yf:bB ((du Z aa).map λx=>D.int x.2)=true:=bT λd hd=>by obtain⟨x,_,rfl⟩:=vO hd;rfl
 have PV:(du Z aa).length<=60:=vR (vM _ _) (by omega);have p4:∀x∈du Z aa,x∈ak Z aa/\bo x.1=false:=λx hx=>by
  obtain⟨h1,h2⟩:=vN hx;exact⟨h1,by simpa using h2⟩
 have hm:∀Y:DL.Env,Y[0]? = some (sF (.tup Z))->jH (re [0] (fA fM (fV 1 (fV 0 ai))) Y) ((du Z aa).map λx=>.int x.2)=some ((du Z aa).map λx=>.tup [.int (aF x.1),.int x.2]):=λY h0=>
  iY (du Z aa) λx hx=>by
   obtain⟨h1,h2⟩:=p4 x hx;obtain⟨ha,gx⟩:=Il x h1;have hd:=sC gx;unfold tN at hd;rw[h2,if_neg (by decide)]at hd;have hr:fM [.tup Z,.int x.2]=sF (.tup [.int (aF x.1),.int x.2]):=av rfl (az (aI [.int (aF x.1),.int x.2] (aD (d:=.int (aF x.1)) (b:=false) (aI [x.1] (by simp[ha]) hd) rfl) (by simp[sizeLine])));show(fA fM _ _).map _=_;rw[aI [.tup Z,.int x.2] (by simp[eA,h0]) hr];rfl
 have hk:dU ((du Z aa).map λx=>D.tup [.int (aF x.1),.int x.2])=some ((du Z aa).map kA):=iE _ λx _=>rfl;have hz:((du Z aa).map kA).zip ((du Z aa).map λx=>D.int x.2)=(du Z aa).map λx=>(kA x,D.int x.2):=by rw[List.zip_map']
 have Lm:((du Z aa).map (·.2)).Nodup:=List.Nodup.sublist (List.Sublist.map _ (List.filter_sublist)) (eX Z aa);have jS:((du Z aa).map kA).length<64/\eZ ((du Z aa).map kA)=true/\fY ((du Z aa).map kA)=true/\(((du Z aa).map kA).map cX).Nodup:=by
  refine⟨by rw[vI];omega,xG _,?_,?_⟩
  ·unfold fY;rw[Bool.or_eq_true];left;simp[List.all_eq_true,kA]
  ·rw[uP];exact List.Pairwise.map _ (λa b h e=>h (Hd e)) (List.pairwise_map.mp Lm)
 refine av rfl (cj KQ yf (az ?_));show(rg (aj 2) _ _)=_;unfold rg;show((some (D.lst ((du Z aa).map λx=>D.int x.2),false)).bind _)=_;simp only[vJ];rw[hm _ rfl];simp only[vJ];rw[hk];simp only[vJ];rw[if_pos jS];unfold jI;rw[hz];have key:((R7 Z aa).map λx=>(kA x,D.int x.2))=eY (λp:List At×D=>cX p.1) ((du Z aa).map λx=>(kA x,D.int x.2)):=by
  refine lg _ (λx hx y hy e=>?_) ((bG _ _).map _) ?_
  ·obtain⟨a,ha,rfl⟩:=vO hx;obtain⟨b,hb,rfl⟩:=vO hy;rw[Kw (p4 a ha).1 (p4 b hb).1 (Hd e)]
  ·exact List.pairwise_map.mpr (iO _ _)
 rw[←key,uP];rfl
structure Cl where
 o:Str
 p:Str
 s:Int
 u:Option Int
 n:Nat
noncomputable def uD:Option Int->D
 |none=>.non
 |some x=>.int x
def aY (c:Cl):D:=.tup [.str c.o,.str c.p,.int c.s,uD c.u,.int c.n]
theorem CW (u:Option Int):bq (uD u)=true:=by cases u<;>rfl
theorem ot (c:Cl):bq (aY c)=true:=by simp[aY,CW]
theorem gV (cs:List Cl):bB (cs.map aY)=true:=bT λd hd=>by obtain⟨c,_,rfl⟩:=vO hd;exact ot c
noncomputable def iZ (c:Cl)(day:Int):Bool:=decide (c.s<=day) && (match c.u with|none=>true|some x=>decide (day<x))
theorem Y6 (d e f g:D)(r:List D):p6 (d::e::f::g::r) 3=some g:=by have:=lr (xs:=d::e::f::g::r) (j:=3) (by simp);simpa using this
theorem Y7 (d e f g h:D)(r:List D):p6 (d::e::f::g::h::r) 4=some h:=by have:=lr (xs:=d::e::f::g::h::r) (j:=4) (by simp);simpa using this
theorem O5 (c:Cl):bA (aY c) (.int 0)=sF (.str c.o):=by simp[aY,CT]
theorem Mg (c:Cl):bA (aY c) (.int 1)=sF (.str c.p):=by simp[aY,xE]
theorem Tj (c:Cl):bA (aY c) (.int 2)=sF (.int c.s):=by simp[aY,W6]
theorem Y8 (c:Cl):bA (aY c) (.int 3)=some (uD c.u,false):=by simp[aY,Y6]
theorem Tk (c:Cl):bA (aY c) (.int 4)=sF (.int c.n):=by simp[aY,Y7]
theorem bL (ds:List D)(h:ds.length<=100):aK ds=sF (.tup ds):=if_pos (dJ (by omega))
theorem dw (ds:List D)(h:ds.length<=100):br ds=lT ds:=if_pos (dJ (by omega))
theorem CY (s day:Int)(u:Option Int):jL [.int day,.tup [.int s,uD u]]=sF (.bl (decide (s<=day) && (match u with|none=>true|some x=>decide (day<x)))):=by
 refine av rfl (az (dm (b1:=false) (by simp[CT]) λ_=>?_));cases u with
 |none=>exact rL (p:=true) (q:=true) (b1:=false) (by simp[xE,uD]) (by simp)
 |some x=>exact rL (p:=false) (q:=decide (day<x)) (b1:=false) (by simp[xE,uD]) λ_=>by simp[xE,uD]
theorem sD (c:Cl)(day:Int):cZ [aY c,.int day]=sF (.bl (iZ c day)) :=
 av rfl (az (aI [.int day,.tup [.int c.s,uD c.u]] (bK rfl (bK (aI [.int c.s,uD c.u] (aD (bw (aY c) (.int 2) rfl rfl (Tj c)) (aD (bw (aY c) (.int 3) rfl rfl (Y8 c)) rfl)) (bL _ (by simp))) rfl)) (CY c.s day c.u)))
theorem zP (c:Cl):dI [aY c]=sF (.tup [.int c.s,.int c.n]) :=
 av rfl (az (aI [.int c.s,.int c.n] (aD (bw (aY c) (.int 2) rfl rfl (Tj c)) (aD (bw (aY c) (.int 4) rfl rfl (Tk c)) rfl)) (bL _ (by simp))))
theorem xI (c:Cl):gQ [aY c]=sF (.tup [.str c.o,.int c.s,.int c.n]) :=
 av rfl (az (aI [.str c.o,.int c.s,.int c.n] (aD (bw (aY c) (.int 0) rfl rfl (O5 c)) (aD (bw (aY c) (.int 2) rfl rfl (Tj c)) (aD (bw (aY c) (.int 4) rfl rfl (Tk c)) rfl))) (bL _ (by simp))))
noncomputable def kS (c:Cl):List At:=[.i c.s,.i c.n]
def ou:Cl->List Cl->Cl
 |b,[]=>b
 |b,x::r=>if bd (kS x) (kS b)=some true then ou x r else ou b r
def tO:Cl->List Cl->Cl
 |b,[]=>b
 |b,x::r=>if bd (kS b) (kS x)=some true then tO x r else tO b r
theorem sE:∀(r:List Cl)(b:Cl),mr (kS b,aY b) (r.map λx=>(kS x,aY x))=aY (ou b r)
 |[],b=>rfl
 |x::r,b=>by
  rw[uY,mr,ou];split
  ·exact sE r x
  ·exact sE r b
theorem sG:∀(r:List Cl)(b:Cl),nL (kS b,aY b) (r.map λx=>(kS x,aY x))=aY (tO b r)
 |[],b=>rfl
 |x::r,b=>by
  rw[uY,nL,tO];split
  ·exact sG r x
  ·exact sG r b
theorem CZ (cs:List Cl):eZ (cs.map kS)=true:=by
 unfold eZ;simp[List.all_eq_true,kS,Ku]
theorem sI (Y:DL.Env)(cs:List Cl):jH (tM dI Y) (cs.map aY)=some (cs.map λc=>.tup [.int c.s,.int c.n]):=iY cs λc _=>by
 show(dI [aY c]).map _=_;rw[zP];rfl
theorem pR (cs:List Cl):dU (cs.map λc=>D.tup [.int c.s,.int c.n])=some (cs.map kS):=iE cs λc _=>rfl
theorem He (e:f Y=some (.lst ((b::r).map aY),bb)):uL f (tM dI) Y=some (aY (ou b r),false):=by
 unfold uL Ol;rw[e,vJ];dsimp only;rw[sI,vJ,pR,vJ,if_pos (CZ _)];have:((b::r).map kS).zip ((b::r).map aY)=(kS b,aY b)::r.map λx=>(kS x,aY x):=by rw[List.zip_map'];rfl
 rw[this];show some (mr _ _,false)=_;rw[sE]
theorem O6 (e:f Y=some (.lst ((b::r).map aY),bb)):uK f (tM dI) Y=some (aY (tO b r),false):=by
 unfold uK Ol;rw[e,vJ];dsimp only;rw[sI,vJ,pR,vJ,if_pos (CZ _)];have:((b::r).map kS).zip ((b::r).map aY)=(kS b,aY b)::r.map λx=>(kS x,aY x):=by rw[List.zip_map'];rfl
 rw[this];show some (nL _ _,false)=_;rw[sG]
def ja (rl:Str)(b:Cl)(r:List Cl):Cl:=if rl = "last" then tO b r else ou b r
theorem Hf (rl:Str)(b:Cl)(r:List Cl):mO [.lst ((b::r).map aY),.str rl]=sF (.str (ja rl b r).p):=by
 unfold ja;by_cases h:rl = "last"
 ·rw[if_pos h];exact av rfl (bj (bY (a:=rl) (bb:=false) rfl (decide_eq_true h)) (az (bw (aY (tO b r)) (.int 1) (O6 (bb:=false) rfl) rfl (Mg _))))
 ·rw[if_neg h];exact av rfl (aC (bY (a:=rl) (bb:=false) rfl (decide_eq_false h)) (az (bw (aY (ou b r)) (.int 1) (He (bb:=false) rfl) rfl (Mg _))))
theorem sJ:∀(r:List Cl)(b:Cl),ou b r∈b::r
 |[],b=>by simp[ou]
 |x::r,b=>by
  rw[ou];split
  ·exact mZ _ (sJ r x)
  ·rcases vP (sJ r b)with h|h
   ·rw[h];exact mX
   ·exact mZ _ (mZ _ h)
theorem sK:∀(r:List Cl)(b:Cl),tO b r∈b::r
 |[],b=>by simp[tO]
 |x::r,b=>by
  rw[tO];split
  ·exact mZ _ (sK r x)
  ·rcases vP (sK r b)with h|h
   ·rw[h];exact mX
   ·exact mZ _ (mZ _ h)
theorem E4 (rl:Str)(b:Cl)(r:List Cl):ja rl b r∈b::r:=by
 unfold ja;split
 ·exact sK r b
 ·exact sJ r b
noncomputable def O7 (cs:List Cl)(o:Str)(day:Int):List Cl:=cs.filter λc=>decide (c.o=o) && iZ c day
def mT (cs:List Cl):List Str:=lf (iN (cs.map (·.p)))
def R8:List Cl->Nat
 |[]=>0
 |b::r=>(ou b r).n
def pT (rl:Str):List Cl->D
 |[]=>.tup [.str "none"]
 |b::r=>if 1<(mT (b::r)).length/\rl = "open" then .tup [.str "parted",.lst ((mT (b::r)).map .str)]
  else .tup [.str "one",.str (ja rl b r).p,.int (R8 ((b::r).filter λc=>decide (c.p=(ja rl b r).p)))]
def ir (cs:List Cl)(o rl:Str)(day:Int):D:=pT rl (O7 cs o day)
theorem Kx {z:Str}:iN (z::zs)≠[]:=by
 have:∀(ss:List Str)(ts:List Str),z∈ts->z∈ss.foldl kj ts:=λss=>by
  induction ss with
  |nil=>intro ts h;exact h
  |cons a l ih=>intro ts h;exact ih _ (qQ.mpr (.inl h))
 have h:=this zs (kj [] z) (qQ.mpr (.inr rfl));intro e;unfold iN at e;rw[List.foldl_cons]at e;rw[e]at h;cases h
theorem lA:au [row h ("root" : Str) [.str o,.int m,.int f,.str rl],.str "office"]=sF (.str o):=bz (i:=0) dr rfl
theorem E5:au [row h ("root" : Str) [.str o,.int m,.int f,.str rl],.str "rule"]=sF (.str rl):=bz (i:=3) dr rfl
theorem oy (zs:List Str):iq (zs.map .str)=some zs:=by
 induction zs with
 |nil=>rfl
 |cons z zs ih=>simp[ih]
theorem kB (cs:List Cl)(hl:cs.length<=60)(day:Int):dF [.lst (cs.map aY),row h ("root" : Str) [.str o,.int m,.int f,.str rl],.int day]=some (ir cs o rl day,false):=by
 let rt:D:=row h ("root" : Str) [.str o,.int m,.int f,.str rl];have h1:=gP (fi:=cu (aj 0)) (nT:=1) (cap:=[2,1]) (tg:=dC 0) (c:=cA (aU (f2 cC (bC 0 0) (fA au (fV 2 (ae (fS "office") ai))))) (aU (fA cZ (fV 0 (fV 1 ai))))) (fe:=aj 0)
  (Y:=[sF (.lst (cs.map aY)),some (rt,false),sF (.int day),none,none,none,none]) cs aY (λc=>decide (c.o=o) && iZ c day) aY (by simp) (by omega) λc hc=>by
   refine⟨_,rfl,cF (cw (bw (.str c.o) (.str o) (bw (aY c) (.int 0) (by simp[eA]) rfl (O5 c)) (aI [rt,.str "office"] (by simp[eA]) lA) (by simp))) λ_=>cw (aI [aY c,.int day] (by simp[eA]) (sD c day)),λ_=>⟨false,by simp[eA]⟩⟩
 have Tq:bV (cu (aj 0)) 1 [2,1] (dC 0) (cA (aU (f2 cC (bC 0 0) (fA au (fV 2 (ae (fS "office") ai))))) (aU (fA cZ (fV 0 (fV 1 ai))))) (aj 0) [sF (.lst (cs.map aY)),some (rt,false),sF (.int day),none,none,none,none]=lT ((O7 cs o day).map aY):=h1;have T8:(O7 cs o day).length<=60:=vR (vM _ _) hl;unfold ir;generalize O7 cs o day=al at Tq T8;have h2:∀Y:DL.Env,Y[3]? = some (lT (al.map aY))->f1 eI (bV (cu (aj 3)) 1 [] (dC 0) iJ (bC 0 1)) Y=lT ((mT al).map .str):=λY h3=>by
  have hc:=nO (fi:=cu (aj 3)) (nT:=1) (cap:=[]) (tg:=dC 0) (fe:=bC 0 1) (Y:=Y) al aY (λc=>.str c.p) (by simp[h3]) (by omega) λc hc=>⟨_,rfl,false,bw (aY c) (.int 1) (by simp[eA]) rfl (Mg c)⟩;have e2:al.map (λc=>D.str c.p)=(al.map (·.p)).map .str:=by rw[uP];rfl
  rw[e2]at hc;unfold f1;rw[hc,vJ];show(iq ((al.map (·.p)).map .str)).bind _=_;rw[oy,vJ,if_pos (by rw[vI];omega)];rfl
 have nn:bB ((mT al).map D.str)=true:=cU _;refine av rfl (cj (ds:=al.map aY) Tq (gV al) (cj (ds:=(mT al).map .str) (h2 _ rfl) nn ?_));cases al with
 |nil=>exact bj (cw (by simp[mT,iN,lf])) (az (aI [.str "none"] rfl (bL _ (by simp))))
 |cons b r=>
  have oA:(mT (b::r)).length≠0:=by
   unfold mT;rw[(dG _).length_eq];intro e;exact Kx (List.length_eq_zero_iff.mp e)
  refine aC (cw (by simp[oA])) ?_;have Im:∀Y:DL.Env,Y[1]? = some (some (rt,false))->fA au (fV 1 (ae (fS "rule") ai)) Y=sF (.str rl):=λY q1=>aI [rt,.str "rule"] (by simp[q1]) E5;by_cases hp:1<(mT (b::r)).length/\rl = "open"
  ·have:pT rl (b::r)=.tup [.str "parted",.lst ((mT (b::r)).map .str)]:=by rw[pT,if_pos hp]
   rw[this];exact bj (cF (p:=true) (q:=true) (cw (by simp;omega)) λ_=>bY (bb:=false) (Im _ rfl) (decide_eq_true hp.2)) (az (aI [.str "parted",.lst ((mT (b::r)).map .str)] (by simp) (bL _ (by simp))))
  ·have:pT rl (b::r)=.tup [.str "one",.str (ja rl b r).p,.int (R8 ((b::r).filter λc=>decide (c.p=(ja rl b r).p)))]:=by rw[pT,if_neg hp]
   rw[this];have jS:cA (aU (f2 DZ (fA fU (fV 4 ai)) (fI 1))) (aU (f2 cC (fA au (fV 1 (ae (fS "rule") ai))) (fS "open"))) [sF (.lst (cs.map aY)),some (rt,false),sF (.int day),lT ((b::r).map aY),lT ((mT (b::r)).map .str),none,none]=some false:=by
    by_cases h5:1<(mT (b::r)).length
    ·exact cF (p:=true) (q:=false) (cw (by simp;omega)) λ_=>bY (bb:=false) (Im _ rfl) (decide_eq_false λe=>hp ⟨h5,e⟩)
    ·exact cF (p:=false) (q:=false) (cw (by simp;omega)) (by simp)
   have p4:=E4 rl b r;let ch:=ja rl b r;have h6:=gP (fi:=cu (aj 3)) (nT:=1) (cap:=[5]) (tg:=dC 0) (c:=aU (f2 cC (bC 0 1) (aj 1))) (fe:=aj 0) (Y:=[sF (.lst (cs.map aY)),some (rt,false),sF (.int day),lT ((b::r).map aY),lT ((mT (b::r)).map .str),sF (.str ch.p),none]) (b::r) aY (λc=>decide (c.p=ch.p)) aY (by simp) (by omega) λc hc=>⟨_,rfl,cw (bw (.str c.p) (.str ch.p) (bw (aY c) (.int 1) (by simp[eA]) rfl (Mg c)) (by simp[eA]) (by simp)),λ_=>⟨false,by simp[eA]⟩⟩;obtain⟨b2,r2,hf⟩:∃b2 r2,(b::r).filter (λc=>decide (c.p=ch.p))=b2::r2:=by
    cases hq:(b::r).filter (λc=>decide (c.p=ch.p)) with
    |nil=>
     have:=List.filter_eq_nil_iff.mp hq _ p4;simp[ch]at this
    |cons b2 r2=>exact⟨b2,r2,rfl⟩
   rw[hf]at h6 ⊢;refine aC jS (fB (.str ch.p) (aI [.lst ((b::r).map aY),.str rl] (bK (by simp) (aD (Im _ rfl) rfl)) (Hf rl b r)) rfl (fB (aY (ou b2 r2)) (He (bb:=true) h6) (ot _) (az (aI [.str "one",.str ch.p,.int (ou b2 r2).n] (bK rfl (bK rfl (aD (bw (aY (ou b2 r2)) (.int 4) rfl rfl (Tk _)) rfl))) (bL _ (by simp))))))
def zQ:D->D
 |.tup ds=>.tup (oK ds none (some 2))
 |d=>d
def gW (cs:List Cl)(o rl p:Str)(day:Int):Bool:=bE (zQ (ir cs o rl day)) (.tup [.str "one",.str p])
theorem B7 (n:Nat)(zs:List Str):(zs.map D.str).all (aq n)=true:=by
 induction zs with
 |nil=>rfl
 |cons a l ih=>simp
theorem vx (rl:Str)(al:List Cl):∃ds,pT rl al=.tup ds/\ds.all (aq 5)=true:=by
 cases al with
 |nil=>exact⟨_,rfl,by simp⟩
 |cons b r=>
  rw[pT];split
  ·exact⟨_,rfl,by simp only[List.all_cons,List.all_nil,aq,Bool.and_true,Bool.true_and];exact B7 _ _⟩
  ·exact⟨_,rfl,by simp⟩
theorem sL (h:ds.all (aq 5)=true):(oK ds lo hi).all (aq 5)=true:=by
 rw[List.all_eq_true]at h ⊢;exact λd hd=>h d (List.mem_of_mem_drop (List.mem_of_mem_take hd))
theorem lU (h:ds.all (aq 5)=true):aq 40 (.tup ds)=true:=iW 6 40 _ (by decide) (by simpa only[aq]using h)
theorem xJ (cs:List Cl)(hl:cs.length<=60)(p:Str)(day:Int):cR [.lst (cs.map aY),row h ("root" : Str) [.str o,.int m,.int f,.str rl],.str p,.int day]=sF (.bl (gW cs o rl p day)):=by
 have hb:=kB cs hl (h:=h) (o:=o) (rl:=rl) (m:=m) (f:=f) day;obtain⟨ds,e,hd⟩:=vx rl (O7 cs o day);have e':ir cs o rl day=.tup ds:=e;refine av rfl (az (bw (zQ (ir cs o rl day)) (.tup [.str "one",.str p]) ?_ (by simp[sizeLine]) ?_))
 ·have hc:=CD (F:=dF) (fa:=fV 0 (fV 1 (fV 3 ai))) (Y:=[sF (.lst (cs.map aY)),some (row h ("root" : Str) [.str o,.int m,.int f,.str rl],false),sF (.str p),sF (.int day)]) (ds:=[.lst (cs.map aY),row h ("root" : Str) [.str o,.int m,.int f,.str rl],.int day]) rfl hb;rw[e']at hc ⊢;show Gg (fA dF (fV 0 (fV 1 (fV 3 ai)))) mn (kX (fI 2)) _=_;unfold Gg;rw[show(List.map (λd=>some (d,false)) [D.lst (cs.map aY),row h ("root" : Str) [.str o,.int m,.int f,.str rl],.str p,.int day]++List.replicate 0 none:DL.Env)=[sF (.lst (cs.map aY)),some (row h ("root" : Str) [.str o,.int m,.int f,.str rl],false),sF (.str p),sF (.int day)]from rfl,hc];rfl
 ·unfold gW cC;rw[if_pos];rw[e'];exact⟨lU (sL hd),lU (by simp)⟩
noncomputable def ay (j:Nat):D->Str
 |.tup [_,.tup (_::aB)]=>match aB[j]? with
  |some (.str s)=>s
  |_=>("" : Str)
 |_=>("" : Str)
noncomputable def jb (j:Nat):D->Int
 |.tup [_,.tup (_::aB)]=>match aB[j]? with
  |some (.int s)=>s
  |_=>0
 |_=>0
theorem Cd.root_of (h:Cd ("root" : Str) r):∃o rl,∃m f:Int,r=[.str o,.int m,.int f,.str rl]:=by
 generalize hk:("root" : Str)=k at h;cases h with
 |root o rl m f=>exact⟨o,rl,m,f,rfl⟩
 |named=>exact cS hk
 |chosen=>exact cS hk
 |heir=>exact cS hk
 |three _ hh=>rcases hh with rfl|rfl|rfl<;>exact cS hk
 |other _ hh=>rcases hh with rfl|rfl|rfl|rfl|rfl<;>exact cS hk
theorem vy {κ α:Type}[DecidableEq κ]{ks:List κ}{k:κ}{x y:α}:∀ {xs:List α},y∈dX ks xs k x->y=x∨y∈xs:=by
 intro xs h;unfold dX at h;split at h
 ·rename_i hk0;clear hk0;induction ks generalizing xs with
  |nil=>simp at h
  |cons a ks ih=>
   cases xs with
   |nil=>simp at h
   |cons b xs=>
    rw[List.zipWith_cons_cons,List.mem_cons]at h;rcases h with h|h
    ·split at h
     ·exact .inl h
     ·exact .inr (by rw[h];exact mX)
    ·rcases ih h with h|h
     ·exact .inl h
     ·exact .inr (mZ _ h)
 ·rcases List.mem_append.mp h with h|h
  ·exact .inr h
  ·exact .inl (uT h)
theorem vz:∀(l:List (cE×D))(a:List cE×List D)(y:D),y∈(l.foldl rz a).2->y∈a.2∨∃p∈l,p.2=y
 |[],a,y,h=>.inl h
 |p::l,a,y,h=>by
  rw[List.foldl_cons]at h;rcases vz l _ y h with h|⟨q,hq,e⟩
  ·rcases vy (show y∈dX a.1 a.2 p.1 p.2 from h)with h|h
   ·exact .inr ⟨p,mX,h.symm⟩
   ·exact .inl h
  ·exact .inr ⟨q,mZ _ hq,e⟩
theorem v0 {α:Type}(f:α->Str)(g:α->D):∀(l:List α),jy (l.map λx=>D.tup [.str (f x),g x])=some (l.map λx=>(.inr (f x),g x))
 |[]=>rfl
 |x::l=>by
  rw[uY,jy,v0 f g l];rfl
theorem oz {κ:Type}[DecidableEq κ]:∀ {ks:List κ}{vs:List D}{k:κ}{v:D},cz ks vs k=some v->v∈vs
 |k'::ks,d::ds,k,v,h=>by
  unfold cz at h;split at h
  ·cases h;exact mX
  ·exact mZ _ (oz h)
 |[],_,_,_,h=>by simp[cz]at h
 |_::_,[],_,_,h=>by simp[cz]at h
noncomputable def jP (KL:List (D×Nat)):List (cE×D):=(KL.filter λx=>bo x.1).map λx=>(.inr (ay 0 x.1),x.1)
def gp (KL:List (D×Nat))(o:Str):Option D:=cz (bW (jP KL)).1 (bW (jP KL)).2 (.inr o)
theorem sM (g:xH r)(h:bo r=true):∃a o rl,∃m f:Int,r=row a ("root" : Str) [.str o,.int m,.int f,.str rl]:=by
 obtain⟨a,k,aB,rfl,d⟩:=g;have hk:k = "root":=of_decide_eq_true h;subst hk;obtain⟨o,rl,m,f,rfl⟩:=d.root_of;exact⟨a,o,rl,m,f,rfl⟩
theorem dM (g:fP Z)(hx:x∈ak Z aa):p6 Z (x.2:Int)=some x.1/\xH x.1:=⟨bU (bI hx),g.2 _ (vL (bI hx))⟩
theorem zR (g:fP Z)(h:gp (ak Z aa) o=some v):∃a o2 rl,∃m f:Int,v=row a ("root" : Str) [.str o2,.int m,.int f,.str rl]:=by
 have hv:=oz h;rcases vz _ ([],[]) v hv with h|⟨p,hp,e⟩
 ·cases h
 ·obtain⟨x,hx,rfl⟩:=vO hp;obtain⟨h1,h2⟩:=vN hx;rw[←e];exact sM (dM g h1).2 h2
theorem lB (g:fP Z)(aa:Int):eW [.tup Z,.int aa]=sF (.dk (bW (jP (ak Z aa))).1 (bW (jP (ak Z aa))).2):=by
 have hl:=cB Z aa;have EW:=g.1;have h1:=nO (fi:=cu (fA cM (fV 0 (fV 1 ai)))) (nT:=1) (cap:=[0]) (tg:=dC 0) (fe:=f2 bA (aj 1) (aj 0)) (Y:=[sF (.tup Z),sF (.int aa),none]) (ak Z aa) (λx=>.int x.2) Prod.fst
  (by
   show(fA cM (fV 0 (fV 1 ai)) _).bind _=_;rw[aI [.tup Z,.int aa] rfl (l5 Z g.rp g.le aa)];rfl) (by omega) λx hx=>by
   have ha:=(dM g hx).1;exact⟨_,rfl,false,by simp[eA,ha]⟩
 have hn:bB ((ak Z aa).map Prod.fst)=true:=bT λd hd=>by
  obtain⟨x,hx,rfl⟩:=vO hd;exact(dM g hx).2.rp.flat
 have h2:=gP (fi:=cu (aj 2)) (nT:=1) (cap:=[]) (tg:=dC 0) (c:=aU (f2 cC (fA aN (fV 0 ai)) (fS "root"))) (fe:=fA aK (ae (fA au (fV 0 (ae (fS "office") ai))) (fV 0 ai)))
  (Y:=[sF (.tup Z),sF (.int aa),lT ((ak Z aa).map Prod.fst)]) (ak Z aa) Prod.fst (λx=>bo x.1) (λx=>.tup [.str (ay 0 x.1),x.1]) (by simp) (by omega) λx hx=>by
   have gr:=(dM g hx).2;refine⟨_,rfl,bY (a:=kindOf x.1) (bb:=false) (aI [x.1] rfl (j5 gr)) rfl,λhp=>⟨false,?_⟩⟩;obtain⟨a,o,rl,m,f,e⟩:=sM gr hp;refine aI [.str (ay 0 x.1),x.1] (bK (aI [x.1,.str "office"] rfl ?_) rfl) (bL _ (by simp));rw[e];exact lA
 refine av rfl (cj (ds:=(ak Z aa).map Prod.fst) h1 hn (az (aI [.lst (((ak Z aa).filter λx:D×Nat=>bo x.1).map λx:D×Nat=>D.tup [.str (ay 0 x.1),x.1])] (aD h2 rfl) ?_)));rw[kn,v0 (λx:D×Nat=>ay 0 x.1) Prod.fst];rfl
def qk:D×Nat->List (D×Nat)->D×Nat
 |b,[]=>b
 |b,x::r=>if bd (kA x) (kA b)=some true then qk x r else qk b r
theorem xK:∀(r:List (D×Nat))(b:D×Nat),mr (kA b,.int b.2) (r.map λx=>(kA x,D.int x.2))=.int (qk b r).2
 |[],b=>rfl
 |x::r,b=>by
  rw[uY,mr,qk];split
  ·exact xK r x
  ·exact xK r b
def jc (KL:List (D×Nat))(p:Str)(day:Int)(i:Nat):Bool:=match KL.filter (λx=>told eP p day x.1) with
 |[]=>false
 |b::r=>decide ((qk b r).2=i)
theorem Hg (g:fP Z)(aa:Int)(hx:x∈ak Z aa)(e:x.1=row a ("death" : Str) [.int d,.str p]):g8 [.tup Z,.int aa,.int x.2]=sF (.bl (jc (ak Z aa) p d x.2)):=by
 have ha:=(dM g hx).1;have gx:=(dM g hx).2;have ht:=xF Z g.rp g.le aa eP k9 p d;have A1:au [x.1,.str "person"]=sF (.str p):=by rw[e];exact bz (i:=1) dr rfl
 have xY:aX [x.1]=sF (.int d):=by rw[e];exact jO (.inl (by decide +kernel)) rfl
 have p4:x∈qj Z aa eP p d:=List.mem_filter.mpr ⟨hx,by rw[e];simp[told,row,eP,vw]⟩;have VL:jc (ak Z aa) p d x.2=match qj Z aa eP p d with|[]=>false|b::r=>decide ((qk b r).2=x.2):=rfl
 have key:∀y∈qj Z aa eP p d,∃h k dd,Z[y.2]? = some (row h k [.int dd,.str p])/\y.1=row h k [.int dd,.str p]/\dc k=true:=λy hy=>by
  obtain⟨hg,VJ⟩:=CU hy;obtain⟨h,k,dd,e2,h3,_⟩:=sy k9 (g.rp _ (vL hg)) VJ;exact⟨h,k,dd,by rw[hg,e2],e2,h3⟩
 rw[VL];cases hs:qj Z aa eP p d with
 |nil=>rw[hs]at p4;cases p4
 |cons b r=>
  rw[hs]at ht key;have hm:∀Y:DL.Env,Y[0]? = some (sF (.tup Z))->jH (re [0] (fA fM (fV 1 (fV 0 ai))) Y) ((b::r).map λy=>.int y.2)=some ((b::r).map λy=>.tup [.int (aF y.1),.int y.2]):=λY h0=>
   iY (b::r) λy hy=>by
    obtain⟨h,k,dd,hg,e2,h3⟩:=key y hy;show(fA fM _ _).map _=_;rw[aI [.tup Z,.int y.2] (by simp[eA,h0]) (CV hg h3),e2];rfl
  have hk:dU ((b::r).map λy=>D.tup [.int (aF y.1),.int y.2])=some ((b::r).map kA):=iE _ λy _=>rfl;have hz:((b::r).map kA).zip ((b::r).map λy=>D.int y.2)=(kA b,D.int b.2)::r.map λy=>(kA y,D.int y.2):=by rw[List.zip_map'];rfl
  have yf:bB ((b::r).map λy=>D.int y.2)=true:=bT λd hd=>by obtain⟨y,_,rfl⟩:=vO hd;rfl
  refine av rfl (fB x.1 (by simp[ha]) gx.rp.flat (cj (ds:=(b::r).map λy=>.int y.2) (aI [.tup Z,.int aa,.tup (eP.map .str),.str p,.int d] (bK rfl (bK rfl (bK (aI [.str "death"] rfl (bL _ (by simp))) (aD (aI [x.1,.str "person"] rfl A1) (aD (aI [x.1] rfl xY) rfl))))) ht) yf (az (bw (.int (qk b r).2) (.int x.2) ?_ rfl ?_))))
  ·unfold uL Ol;show((some (D.lst ((b::r).map λy=>D.int y.2),false)).bind _)=_;rw[vJ];dsimp only;rw[hm _ rfl,vJ,hk,vJ,if_pos (xG _),hz];show some (mr _ _,false)=_;rw[xK]
  ·rw[CG];congr 3;apply decide_eq_decide.mpr;omega
abbrev KL:=List (D×Nat)
noncomputable def sO (K:KL)(p:Str)(day:Int):Bool:=(K.filter λx=>told eP p day x.1).isEmpty
def R9 (K:KL)(p:Str)(day:Int):Bool:=match Mf (K.filter λx=>told oq p day x.1) with
 |none=>true
 |some x=>decide (kindOf x.1 = "found")
def xL (K:KL)(r:D):Bool:=eO (kindOf r) && (sO K (b9 r) (aF r) && R9 K (b9 r) (aF r))
def xM (r:D):Str:=if kindOf r = "named" then ay 1 r else ay 2 r
noncomputable def tP:List Str:=[("named" : Str),"chosen","heir"]
def cG (K:KL)(so:List Cl)(x:D×Nat):Bool :=
 if kindOf x.1 = "death" then jc K (ay 1 x.1) (aF x.1) x.2
 else if kindOf x.1∈tP then match gp K (xM x.1) with
  |none=>false
  |some v=>if kindOf x.1 = "named" then true else xL K x.1 && gW so (ay 0 v) (ay 3 v) (ay 1 x.1) (aF x.1)
 else false
theorem Ky (Z:List D)(aa:Int)(p:Str)(day:Int):pj Z aa p day=sO (ak Z aa) p day:=rfl
theorem Kz (h:ba r<=aa):gB Z aa r=xL (ak Z aa) r:=by
 unfold gB xL;rw[decide_eq_true h,Bool.true_and];rfl
theorem E6 (g:fP Z)(aa:Int)(so:List Cl)(t7:so.length<=60)(hx:x∈ak Z aa)(Qf:bo x.1=false):nS [.tup Z,.int aa,.lst (so.map aY),.int x.2]=sF (.bl (cG (ak Z aa) so x)):=by
 obtain⟨ha,gx⟩:=dM g hx;have hh:ba x.1<=aa:=of_decide_eq_true (vN hx).2;have hf:bq x.1=true:=gx.rp.flat;have hw:∀Y:DL.Env,Y[4]? = some (some (x.1,false))->fA aN (fV 4 ai) Y=sF (.str (kindOf x.1)):=λY h4=>aI [x.1] (by simp[h4]) (j5 gx);have T9:∀Y:DL.Env,Y[4]? = some (some (x.1,false))->aU (f2 fK (fA aN (fV 4 ai)) (fA aK (ae (fS "named") (ae (fS "chosen") (ae (fS "heir") ai))))) Y=some (!decide (kindOf x.1∈tP)):=λY h4=>
  cw (bw (.str (kindOf x.1)) (.tup (tP.map .str)) (hw Y h4) (by simp[sizeLine,tP]) (pP _ _))
 by_cases hd:kindOf x.1 = "death"
 ·obtain⟨a,k,aB,e,d⟩:=gx;have hk:k = "death":=by rw[e]at hd;exact hd
  subst hk;obtain⟨dd,p,rfl⟩:=d.deed.three (by decide +kernel);have hc:cG (ak Z aa) so x=jc (ak Z aa) p dd x.2:=by
   unfold cG;rw[if_pos hd,e];rfl
  rw[hc];exact av rfl (fB x.1 (by simp[ha]) hf (bj (bY (bb:=false) (hw _ rfl) (decide_eq_true hd)) (az (aI [.tup Z,.int aa,.int x.2] rfl (Hg g aa hx e)))))
 ·by_cases h3:kindOf x.1∈tP
  ·have Pg:au [x.1,.str "office"]=sF (.str (xM x.1)):=by
    obtain⟨a,k,aB,e,d⟩:=gx;rw[e]at h3 hd Qf ⊢;replace h3:k∈tP:=h3;clear hd Qf;cases d with
    |root=>exact cS h3
    |named d o p=>exact bz (i:=1) dr rfl
    |chosen d b o p s=>exact bz (i:=2) dr rfl
    |heir d b o p=>exact bz (i:=2) dr rfl
    |three _ hk=>rcases hk with rfl|rfl|rfl<;>exact cS h3
    |other _ hk=>rcases hk with rfl|rfl|rfl|rfl|rfl<;>exact cS h3
   have e5:∀Y:DL.Env,Y[0]? = some (sF (.tup Z))->Y[1]? = some (sF (.int aa))->Y[4]? = some (some (x.1,false))->f2 Bu (fA eW (fV 0 (fV 1 ai))) (fA au (fV 4 (ae (fS "office") ai))) Y=some ((gp (ak Z aa) (xM x.1)).getD .non,false):=λY q0 q1 q4=>
    bw (.dk (bW (jP (ak Z aa))).1 (bW (jP (ak Z aa))).2) (.str (xM x.1)) (aI [.tup Z,.int aa] (by simp[q0,q1]) (lB g aa)) (aI [x.1,.str "office"] (by simp[q4]) Pg) rfl
   cases hr:gp (ak Z aa) (xM x.1) with
   |none=>
    rw[hr]at e5;have hc:cG (ak Z aa) so x=false:=by unfold cG;rw[if_neg hd,if_pos h3,hr]
    rw[hc];exact av rfl (fB x.1 (by simp[ha]) hf (aC (bY (bb:=false) (hw _ rfl) (decide_eq_false hd)) (aC (by rw[T9 _ rfl,decide_eq_true h3];rfl) (fB .non (e5 _ rfl rfl rfl) rfl (bj (cw (bw .non .non rfl rfl (by simp))) (az rfl))))))
   |some v=>
    rw[hr]at e5;obtain⟨va,vo,VM,vm,vf,ev⟩:=zR g hr;have XG:bq v=true:=by rw[ev];rfl
    have XH:A4 v .non=sF (.bl false):=by rw[ev];simp[row]
    by_cases hn:kindOf x.1 = "named"
    ·have hc:cG (ak Z aa) so x=true:=by unfold cG;rw[if_neg hd,if_pos h3,hr];dsimp only;rw[if_pos hn]
     rw[hc];exact av rfl (fB x.1 (by simp[ha]) hf (aC (bY (bb:=false) (hw _ rfl) (decide_eq_false hd)) (aC (by rw[T9 _ rfl,decide_eq_true h3];rfl) (fB v (e5 _ rfl rfl rfl) XG (aC (cw (bw v .non rfl rfl XH)) (bj (bY (bb:=false) (hw _ rfl) (decide_eq_true hn)) (az rfl)))))))
    ·have hc:cG (ak Z aa) so x=(xL (ak Z aa) x.1 && gW so (ay 0 v) (ay 3 v) (ay 1 x.1) (aF x.1)):=by unfold cG;rw[if_neg hd,if_pos h3,hr];dsimp only;rw[if_neg hn]
     have XI:au [x.1,.str "by"]=sF (.str (ay 1 x.1))/\aX [x.1]=sF (.int (aF x.1)):=by
      refine⟨?_,by rw[sC gx];unfold tN;rw[Qf];rfl⟩;obtain⟨a,k,aB,e,d⟩:=gx;rw[e]at h3 hn ⊢;replace h3:k∈tP:=h3;cases d with
      |root=>exact cS h3
      |named=>exact absurd rfl hn
      |chosen d b o p s=>exact bz (i:=1) dr rfl
      |heir d b o p=>exact bz (i:=1) dr rfl
      |three _ hk=>rcases hk with rfl|rfl|rfl<;>exact cS h3
      |other _ hk=>rcases hk with rfl|rfl|rfl|rfl|rfl<;>exact cS h3
     have hs:=l8 Z g.rp g.le aa (bI hx);rw[Kz hh]at hs;have Io:cR [.lst (so.map aY),v,.str (ay 1 x.1),.int (aF x.1)]=sF (.bl (gW so (ay 0 v) (ay 3 v) (ay 1 x.1) (aF x.1))):=by
      rw[ev];exact xJ so t7 _ _
     rw[hc];refine av rfl (fB x.1 (by simp[ha]) hf (aC (bY (bb:=false) (hw _ rfl) (decide_eq_false hd)) (aC (by rw[T9 _ rfl,decide_eq_true h3];rfl) (fB v (e5 _ rfl rfl rfl) XG (aC (cw (bw v .non rfl rfl XH)) (aC (bY (bb:=false) (hw _ rfl) (decide_eq_false hn)) (az ?_)))))));exact dm (b1:=false) (aI [.tup Z,.int aa,.int x.2] rfl hs) λ_=>aI [.lst (so.map aY),v,.str (ay 1 x.1),.int (aF x.1)] (bK rfl (bK rfl (aD (aI [x.1,.str "by"] rfl XI.1) (aD (aI [x.1] rfl XI.2) rfl)))) Io
  ·have hc:cG (ak Z aa) so x=false:=by unfold cG;rw[if_neg hd,if_neg h3]
   rw[hc];exact av rfl (fB x.1 (by simp[ha]) hf (aC (bY (bb:=false) (hw _ rfl) (decide_eq_false hd)) (bj (by rw[T9 _ rfl,decide_eq_false h3];rfl) (az rfl))))
def gD (dD:List Str)(p:Str)(day:Int)(c:Cl):List Cl :=
 if(!decide (c.o∈dD) || (!decide (c.p=p) || !(iZ c day || decide (day<c.s))))=true then [c]else if c.s<day then [⟨c.o,p,c.s,some day,c.n⟩]else []
noncomputable def cx (so:List Cl)(dD:List Str)(p:Str)(day:Int):List Cl:=so.flatMap (gD dD p day)
theorem gE (dD:List Str)(p:Str)(day:Int):∀so:List Cl,(cx so dD p day).length<=so.length
 |[]=>vT _
 |c::so=>by
  unfold cx;rw[uO,uZ,vE];have h1:=gE dD p day so;have h2:(gD dD p day c).length<=1:=by
   unfold gD;split
   ·simp
   ·split<;>simp
  unfold cx at h1;omega
theorem B8 (k:Str)(ws:List Str):fK (.str k) (.lst (ws.map .str))=sF (.bl (!decide (k∈ws))):=by
 simp only[fK,gk,vJ,sw];rw[if_pos ⟨rfl,ph ws⟩]
theorem zS (so:List Cl)(t7:so.length<=60)(dD:List Str)(p:Str)(day:Int):qB [.lst (so.map aY),.lst (dD.map .str),.str p,.int day]=lT ((cx so dD p day).map aY):=by
 obtain⟨ρ',e,v5,rfl⟩:=iQ (tg:=dC 5) (g:=rT) (λj Y=>∃v5:OB,Y=[sF (.lst (so.map aY)),sF (.lst (dD.map .str)),sF (.str p),sF (.int day),lT ((cx (so.take j) dD p day).map aY),v5]) (so.map aY)
  [sF (.lst (so.map aY)),sF (.lst (dD.map .str)),sF (.str p),sF (.int day),lT [],none] ⟨none,rfl⟩ (by
   rintro j d Y hd ⟨v5,rfl⟩;rw[vA]at hd;obtain⟨c,hc,rfl⟩:=oY hd;have hj:j<so.length:=(vV hc).1;have et:cx (so.take (j+1)) dD p day=cx (so.take j) dD p day++gD dD p day c:=by
    unfold cx;rw[List.take_add_one,hc,Option.toList_some,List.flatMap_append,uO,List.flatMap_nil,uQ]
   have bP:(cx (so.take j) dD p day).length<=60:=vR (gE dD p day _) (by rw[List.length_take];omega);let ρ1:DL.Env:=[sF (.lst (so.map aY)),sF (.lst (dD.map .str)),sF (.str p),sF (.int day),lT ((cx (so.take j) dD p day).map aY),some (aY c,false)];have q0:bC 5 0 ρ1=sF (.str c.o):=bw (aY c) (.int 0) rfl rfl (O5 c);have q1:bC 5 1 ρ1=sF (.str c.p):=bw (aY c) (.int 1) rfl rfl (Mg c);have q2:bC 5 2 ρ1=sF (.int c.s):=bw (aY c) (.int 2) rfl rfl (Tj c);have q4:bC 5 4 ρ1=sF (.int c.n):=bw (aY c) (.int 4) rfl rfl (Tk c);have jS:js (aU (f2 fK (bC 5 0) (aj 1))) (js (aU (f2 tG (bC 5 1) (aj 2))) (dS (js (aU (fA cZ (fV 5 (fV 3 ai)))) (aU (f2 DZ (bC 5 2) (aj 3)))))) ρ1=some (!decide (c.o∈dD) || (!decide (c.p=p) || !(iZ c day || decide (day<c.s)))) :=
    cY (cw (bw (.str c.o) (.lst (dD.map .str)) q0 rfl (B8 _ _))) λ_=>cY (cw (bw (.str c.p) (.str p) q1 rfl (by simp))) λ_=>bO (cY (cw (aI [aY c,.int day] rfl (sD c day))) λ_=>cw (bw (.int c.s) (.int day) q2 rfl (by simp)))
   by_cases h1:(!decide (c.o∈dD) || (!decide (c.p=p) || !(iZ c day || decide (day<c.s))))=true
   ·have eo:gD dD p day c=[c]:=by unfold gD;rw[if_pos h1]
    rw[h1]at jS;refine⟨_,_,rfl,.inl (kM jS (iR (ds:=(cx (so.take j) dD p day).map aY) (d:=aY c) (b:=false) rfl rfl (ot c) (bM (by simp;omega)))),some (aY c,false),?_⟩;rw[et,eo,uW];rfl
   ·rw[Bool.not_eq_true]at h1;rw[h1]at jS;by_cases h2:c.s<day
    ·have eo:gD dD p day c=[⟨c.o,p,c.s,some day,c.n⟩]:=by unfold gD;rw[if_neg (by rw[h1];decide),if_pos h2]
     refine⟨_,_,rfl,.inl (md jS (kM (cw (bw (.int c.s) (.int day) q2 rfl (by simp[h2]))) (iR (ds:=(cx (so.take j) dD p day).map aY) (d:=aY ⟨c.o,p,c.s,some day,c.n⟩) (b:=false) rfl (aI [.str c.o,.str p,.int c.s,.int day,.int c.n] (aD q0 (bK rfl (aD q2 (bK rfl (aD q4 rfl))))) (bL _ (by simp))) (ot _) (bM (by simp;omega))))),some (aY c,false),?_⟩;rw[et,eo,uW];rfl
    ·have eo:gD dD p day c=[]:=by unfold gD;rw[if_neg (by rw[h1];decide),if_neg h2]
     refine⟨_,_,rfl,.inl (md jS (md (cw (bw (.int c.s) (.int day) q2 rfl (by simp;omega))) rfl)),some (aY c,false),?_⟩;rw[et,eo,uQ];rfl)
 have e':jt (dC 5) rT (so.map aY) [sF (.lst (so.map aY)),sF (.lst (dD.map .str)),sF (.str p),sF (.int day),lT [],none]=some (.nx [sF (.lst (so.map aY)),sF (.lst (dD.map .str)),sF (.str p),sF (.int day),lT ((cx so dD p day).map aY),v5]):=by
  rw[e];have:so.take (so.map aY).length=so:=by rw[vI,List.take_length]
  rw[this]
 exact av rfl (cj (ds:=[]) (by simp[sizeLine]) rfl (dE (lQ (ds:=so.map aY) (by simp[nA]) e') (lP rfl)))
theorem Mh (ho:au [r,.str "office"]=sF (.str o))(hp:au [r,.str "person"]=sF (.str p))(s:Int)(n:Nat):gR [r,.int s,.int n]=some (aY ⟨o,p,s,none,n⟩,false) :=
 av rfl (az (aI [.str o,.str p,.int s,.non,.int n] (aD (aI [r,.str "office"] rfl ho) (aD (aI [r,.str "person"] rfl hp) rfl)) (bL _ (by simp))))
theorem E7 (so:List Cl)(t7:so.length<=60)(n:Nat):iT [.lst (so.map aY),row a ("chosen" : Str) [.int d,.str b,.str o,.str p,.int s],.int n]=lT ((cx so [o] b s++[(⟨o,p,s,none,n⟩:Cl)]).map aY):=by
 let r:D:=row a ("chosen" : Str) [.int d,.str b,.str o,.str p,.int s];have ho:au [r,.str "office"]=sF (.str o):=bz (i:=2) dr rfl;have hp:au [r,.str "person"]=sF (.str p):=bz (i:=3) dr rfl;have hb:au [r,.str "by"]=sF (.str b):=bz (i:=1) dr rfl;have hs:au [r,.str "since"]=sF (.int s):=bz (i:=4) dr rfl;have hl:=gE [o] b s so;refine av rfl (fB (.int s) (aI [r,.str "since"] rfl hs) rfl (cj (ds:=(cx so [o] b s).map aY) (aI [.lst (so.map aY),.lst ([o].map .str),.str b,.int s] (bK rfl (aD (b:=true) (aI [.str o] (aD (aI [r,.str "office"] rfl ho) rfl) (dw _ (by simp))) (aD (aI [r,.str "by"] rfl hb) rfl))) (zS so t7 [o] b s)) (gV _) (az ?_)));refine fZ (x:=.lst ((cx so [o] b s).map aY)) (y:=.lst [aY ⟨o,p,s,none,n⟩]) (b1:=false) (b2:=true) rfl (aI [aY ⟨o,p,s,none,n⟩] (aD (aI [r,.int s,.int n] rfl (Mh ho hp s n)) rfl) (dw _ (by simp))) ?_;rw[uW];exact if_pos (dJ (by rw[vI,List.length_singleton];omega))
noncomputable def zT (hk:List (List cE))(hv:List D)(o p:Str):Option Str:=match cz hk hv [.inr o,.inr p] with
 |some (.str h)=>some h
 |_=>none
def dN (K:KL)(hk:List (List cE))(hv:List D)(p:Str)(day:Int)(n:Nat)(o:Str):List Cl:=match zT hk hv o p with
 |some h=>if sO K h day=true then [⟨o,h,day,none,n⟩]else []
 |none=>[]
def de (so:List Cl)(p:Str)(day:Int):List Str:=lf (iN ((so.filter λc=>decide (c.p=p) && iZ c day).map (·.o)))
def sP (K:KL)(so:List Cl)(hk:List (List cE))(hv:List D)(p:Str)(day:Int)(n:Nat):List Cl:=(de so p day).flatMap (dN K hk hv p day n)
theorem mU (K:KL)(hk:List (List cE))(hv:List D)(p:Str)(day:Int)(n:Nat)(o:Str):(dN K hk hv p day n o).length<=1:=by
 unfold dN;split
 ·split<;>simp
 ·simp
theorem sQ {α β:Type}(f:α->List β)(h:∀a,(f a).length<=1):∀l:List α,(l.flatMap f).length<=l.length
 |[]=>vT _
 |a::l=>by
  rw[uO,uZ,vE];have:=h a;have:=sQ f h l;omega
theorem zU (so:List Cl)(p:Str)(day:Int):(de so p day).length<=so.length:=by
 unfold de;rw[(dG _).length_eq];refine vR (nG _) ?_;rw[vI];exact vM _ _
theorem xN (g:fP Z)(aa:Int)(so:List Cl)(t7:so.length<=60)(hk:List (List cE))(hv:List D)(VN:∀v∈hv,∃s,v=.str s)(hx:x∈ak Z aa)(e:x.1=row a ("death" : Str) [.int d,.str p]):
  lw [.tup Z,.int aa,.lst (so.map aY),.dt hk hv,.int x.2]=lT ((sP (ak Z aa) so hk hv p d x.2).map aY):=by
 have ha:=(dM g hx).1;have A1:au [x.1,.str "person"]=sF (.str p):=by rw[e];exact bz (i:=1) dr rfl
 have xY:aX [x.1]=sF (.int d):=by rw[e];exact jO (.inl (by decide +kernel)) rfl
 have XJ:=zU so p d;have S2:∀(o:Str)(l:List Cl)(v9:OB),l.length<=60->iz [sF (.tup Z),sF (.int aa),sF (.lst (so.map aY)),sF (.dt hk hv),sF (.int x.2),sF (.str p),sF (.int d),lT (l.map aY),sF (.str o),v9]=some (.nx [sF (.tup Z),sF (.int aa),sF (.lst (so.map aY)),sF (.dt hk hv),sF (.int x.2),sF (.str p),sF (.int d),lT ((l++dN (ak Z aa) hk hv p d x.2 o).map aY),sF (.str o),some ((cz hk hv [.inr o,.inr p]).getD .non,false)]):=λo l v9 hl=>by
  have eg:GI (aj 3) (fV 8 (fV 5 ai)) [sF (.tup Z),sF (.int aa),sF (.lst (so.map aY)),sF (.dt hk hv),sF (.int x.2),sF (.str p),sF (.int d),lT (l.map aY),sF (.str o),v9]=some ((cz hk hv [.inr o,.inr p]).getD .non,false):=by
   simp[jn,sizeLine]
  cases hlk:cz hk hv [.inr o,.inr p] with
  |none=>
   rw[hlk]at eg;have ei:dN (ak Z aa) hk hv p d x.2 o=[]:=by unfold dN zT;rw[hlk]
   rw[ei,uQ];exact fB .non eg rfl (md (cF (p:=false) (q:=false) (cw (by simp)) (by simp)) rfl)
  |some v=>
   obtain⟨h,rfl⟩:=VN v (oz hlk);rw[hlk]at eg;have M6:=zN Z g.rp g.le aa h d;rw[Ky]at M6;have S3:∀Y:DL.Env,Y[0]? = some (sF (.tup Z))->Y[1]? = some (sF (.int aa))->Y[6]? = some (sF (.int d))->Y[9]? = some (sF (.str h))->cA (aU (f2 kY (aj 9) (fC .non))) (aU (fA nQ (fV 0 (fV 1 (fV 9 (fV 6 ai)))))) Y=some (true && sO (ak Z aa) h d):=λY q0 q1 q6 q9=>
    cF (cw (by simp[q9])) λ_=>cw (aI [.tup Z,.int aa,.str h,.int d] (by simp[q0,q1,q6,q9]) M6)
   cases EW:sO (ak Z aa) h d with
   |false=>
    have ei:dN (ak Z aa) hk hv p d x.2 o=[]:=by unfold dN zT;rw[hlk];dsimp only;rw[EW];rfl
    rw[ei,uQ];exact fB (.str h) eg rfl (md (by rw[S3 _ rfl rfl rfl rfl,EW];rfl) rfl)
   |true=>
    have ei:dN (ak Z aa) hk hv p d x.2 o=[⟨o,h,d,none,x.2⟩]:=by unfold dN zT;rw[hlk];dsimp only;rw[EW];rfl
    rw[ei,uW];exact fB (.str h) eg rfl (kM (by rw[S3 _ rfl rfl rfl rfl,EW];rfl) (iR (ds:=l.map aY) (d:=aY ⟨o,h,d,none,x.2⟩) (b:=false) rfl (aI [.str o,.str h,.int d,.non,.int x.2] rfl (bL _ (by simp))) rfl (bM (by simp;omega))))
 obtain⟨ρ',el,v8,v9,rfl⟩:=iQ (tg:=dC 8) (g:=iz) (λj Y=>∃v8 v9:OB,Y=[sF (.tup Z),sF (.int aa),sF (.lst (so.map aY)),sF (.dt hk hv),sF (.int x.2),sF (.str p),sF (.int d),lT ((((de so p d).take j).flatMap (dN (ak Z aa) hk hv p d x.2)).map aY),v8,v9]) ((de so p d).map .str)
  [sF (.tup Z),sF (.int aa),sF (.lst (so.map aY)),sF (.dt hk hv),sF (.int x.2),sF (.str p),sF (.int d),lT [],none,none] ⟨none,none,rfl⟩ (by
   rintro j dd Y hd ⟨v8,v9,rfl⟩;rw[vA]at hd;obtain⟨o,ho,rfl⟩:=oY hd;have hl:(((de so p d).take j).flatMap (dN (ak Z aa) hk hv p d x.2)).length<=60:=vR (sQ _ (mU _ _ _ _ _ _) _) (by rw[List.length_take];omega);refine⟨_,_,rfl,.inl (S2 o _ v9 hl),sF (.str o),some ((cz hk hv [.inr o,.inr p]).getD .non,false),?_⟩;rw[List.take_add_one,ho,Option.toList_some,List.flatMap_append,uO,List.flatMap_nil,uQ])
 have e':jt (dC 8) iz ((de so p d).map .str) [sF (.tup Z),sF (.int aa),sF (.lst (so.map aY)),sF (.dt hk hv),sF (.int x.2),sF (.str p),sF (.int d),lT [],none,none]=some (.nx [sF (.tup Z),sF (.int aa),sF (.lst (so.map aY)),sF (.dt hk hv),sF (.int x.2),sF (.str p),sF (.int d),lT ((sP (ak Z aa) so hk hv p d x.2).map aY),v8,v9]):=by
  rw[el];have:(de so p d).take ((de so p d).map D.str).length=de so p d:=by rw[vI,List.take_length]
  rw[this];rfl
 have Ll:∀Y:DL.Env,Y[2]? = some (sF (.lst (so.map aY)))->Y[5]? = some (sF (.str p))->Y[6]? = some (sF (.int d))->cu (f1 eI (bV (cu (aj 2)) 1 [5,6] (dC 0) (cA (aU (f2 cC (bC 0 1) (aj 1))) (aU (fA cZ (fV 0 (fV 2 ai))))) (bC 0 0))) Y=some ((de so p d).map .str):=λY q2 q5 q6=>by
  have hc:=gP (fi:=cu (aj 2)) (nT:=1) (cap:=[5,6]) (tg:=dC 0) (c:=cA (aU (f2 cC (bC 0 1) (aj 1))) (aU (fA cZ (fV 0 (fV 2 ai))))) (fe:=bC 0 0) (Y:=Y) so aY (λc=>decide (c.p=p) && iZ c d) (λc=>.str c.o) (by simp[q2]) (by omega) λc hc=>
   ⟨_,rfl,cF (cw (bw (.str c.p) (.str p) (bw (aY c) (.int 1) (by simp[eA]) rfl (Mg c)) (by simp[eA,q5]) (by simp))) λ_=>cw (aI [aY c,.int d] (by simp[eA,q6]) (sD c d)),λ_=>⟨false,bw (aY c) (.int 0) (by simp[eA]) rfl (O5 c)⟩⟩
  have e2:(so.filter λc=>decide (c.p=p) && iZ c d).map (λc=>D.str c.o)=((so.filter λc=>decide (c.p=p) && iZ c d).map (·.o)).map .str:=by rw[uP];rfl
  rw[e2]at hc;show(f1 eI _ Y).bind _=_;unfold f1;rw[hc,vJ];have hln:((so.filter λc=>decide (c.p=p) && iZ c d).map (·.o)).length<64:=by rw[vI];exact Nat.lt_of_le_of_lt (vM _ _) (by omega)
  show((iq _).bind _).bind _=_;rw[oy,vJ,if_pos hln];rfl
 refine av rfl (fB (.str p) (aI [x.1,.str "person"] (by simp[ha]) A1) rfl (fB (.int d) (aI [x.1] (by simp[ha]) xY) rfl (cj (ds:=[]) (by simp[sizeLine]) rfl (dE (ρ':=[sF (.tup Z),sF (.int aa),sF (.lst (so.map aY)),sF (.dt hk hv),sF (.int x.2),sF (.str p),sF (.int d),lT ((sP (ak Z aa) so hk hv p d x.2).map aY),v8,v9]) ?_ (lP rfl)))));exact lQ (Y:=[sF (.tup Z),sF (.int aa),sF (.lst (so.map aY)),sF (.dt hk hv),sF (.int x.2),sF (.str p),sF (.int d),lT [],none,none]) (Ll _ rfl rfl rfl) e'
theorem Hh (g:fP Z)(aa:Int)(so:List Cl)(t7:so.length<=60)(hk:List (List cE))(hv:List D)(VN:∀v∈hv,∃s,v=.str s)(hx:x∈ak Z aa)(e:x.1=row a ("death" : Str) [.int d,.str p]):
  jz [.tup Z,.int aa,.lst (so.map aY),.dt hk hv,.int x.2]=lT ((cx so (so.map Cl.o) p d++sP (ak Z aa) so hk hv p d x.2).map aY):=by
 have ha:=(dM g hx).1;have A1:au [x.1,.str "person"]=sF (.str p):=by rw[e];exact bz (i:=1) dr rfl
 have xY:aX [x.1]=sF (.int d):=by rw[e];exact jO (.inl (by decide +kernel)) rfl
 have h1:=nO (fi:=cu (aj 2)) (nT:=1) (cap:=[]) (tg:=dC 0) (fe:=bC 0 0) (Y:=[sF (.tup Z),sF (.int aa),sF (.lst (so.map aY)),sF (.dt hk hv),sF (.int x.2),none,none]) so aY (λc=>.str c.o) (by simp) (by omega) λc hc=>⟨_,rfl,false,bw (aY c) (.int 0) (by simp[eA]) rfl (O5 c)⟩;have e2:so.map (λc=>D.str c.o)=(so.map Cl.o).map .str:=by rw[uP];rfl
 rw[e2]at h1;have M0:=gE (so.map Cl.o) p d so;have EW:(sP (ak Z aa) so hk hv p d x.2).length<=60:=vR (sQ _ (mU _ _ _ _ _ _) _) (vR (zU so p d) t7);refine av rfl (cj (ds:=(so.map Cl.o).map .str) h1 (cU _) (cj (ds:=(cx so (so.map Cl.o) p d).map aY) (aI [.lst (so.map aY),.lst ((so.map Cl.o).map .str),.str p,.int d] (bK rfl (bK rfl (bK (aI [x.1,.str "person"] (by simp[ha]) A1) (bK (aI [x.1] (by simp[ha]) xY) rfl)))) (zS so t7 _ p d)) (gV _) (az ?_)));refine fZ (x:=.lst ((cx so (so.map Cl.o) p d).map aY)) (y:=.lst ((sP (ak Z aa) so hk hv p d x.2).map aY)) (b1:=false) (b2:=true) rfl (aI [.tup Z,.int aa,.lst (so.map aY),.dt hk hv,.int x.2] rfl (xN g aa so t7 hk hv VN hx e)) ?_;rw[uW];exact if_pos (dJ (by rw[vI,vI];omega))
abbrev Mi:=List Cl×List (List cE)×List D
def dY (K:KL)(st:Mi)(x:D×Nat):Mi :=
 if cG K st.1 x=true then
  if kindOf x.1 = "named" then (st.1++[⟨ay 1 x.1,ay 2 x.1,aF x.1,none,x.2⟩],st.2)
  else if kindOf x.1 = "chosen" then (cx st.1 [ay 2 x.1] (ay 1 x.1) (jb 4 x.1)++[⟨ay 2 x.1,ay 3 x.1,jb 4 x.1,none,x.2⟩],st.2)
  else if kindOf x.1 = "heir" then (st.1,dW st.2.1 [.inr (ay 2 x.1),.inr (ay 1 x.1)],dX st.2.1 st.2.2 [.inr (ay 2 x.1),.inr (ay 1 x.1)] (.str (ay 3 x.1)))
  else (cx st.1 (st.1.map Cl.o) (ay 1 x.1) (aF x.1)++sP K st.1 st.2.1 st.2.2 (ay 1 x.1) (aF x.1) x.2,st.2)
 else st
def cJ (K:KL):KL:=eY (λx=>cX (kA x)) (K.filter λx=>!bo x.1)
noncomputable def o0 (K:KL)(l:KL):Mi:=l.foldl (dY K) ([],[],[])
noncomputable def kC (c:Cl):List At:=[.s c.o,.i c.s,.i c.n]
def aR (K:KL):List Cl:=eY (λc=>cX (kC c)) (o0 K (cJ K)).1
noncomputable def B9:List cE->Str
 |[_,.inr p]=>p
 |_=>("" : Str)
noncomputable def K0 (dd:List Str)(ks:List (List cE)):Nat:=(ks.filter λk=>decide (B9 k∉dd)).length
structure A2 (K l:KL)(dd:List Str)(st:Mi):Prop where
 len:st.1.length+K0 dd st.2.1<=l.length
 ded:∀q∈dd,∃y∈l,jc K q (aF y.1) y.2=true
 nod:(st.1.map λc=>(c.o,c.n)).Nodup
 num:∀c∈st.1,c.n∈l.map (·.2)
 hs:∀v∈st.2.2,∃s,v=D.str s
 hk:st.2.1.length<=l.length
theorem Db (h:told ws p d r=true):aF r<=d/\∀d',aF r<=d'->told ws p d' r=true:=by
 unfold told at h;split at h
 ·rename_i k aB;rw[vC]at h;obtain⟨h1,h2⟩:=h;unfold vw at h2;split at h2
  ·rename_i dd q;rw[vC]at h2;refine⟨of_decide_eq_true h2.2,λd' hd=>?_⟩;unfold told;rw[vC];refine⟨h1,?_⟩;unfold vw;rw[vC];exact⟨h2.1,decide_eq_true hd⟩
  ·cases h2
 ·cases h
theorem sR:∀(r:KL)(b:D×Nat),qk b r∈b::r/\∀y∈b::r,fg y (qk b r)=false
 |[],b=>⟨by simp[qk],λy hy=>by rw[uT hy];simp[qk,fg]⟩
 |x::r,b=>by
  rw[qk,B5];by_cases h:fg x b=true
  ·rw[if_pos (by rw[h])];obtain⟨h1,h2⟩:=sR r x;refine⟨mZ _ h1,λy hy=>?_⟩;rcases vP hy with rfl|hy
   ·have:=h2 x mX;unfold fg at *;simp at *;omega
   ·exact h2 y hy
  ·rw[if_neg (by simpa using h)];obtain⟨h1,h2⟩:=sR r b;refine⟨?_,λy hy=>?_⟩
   ·rcases vP h1 with e|e
    ·rw[e];exact mX
    ·exact mZ _ (mZ _ e)
   ·rcases vP hy with rfl|hy
    ·exact h2 _ mX
    ·rcases vP hy with rfl|hy
     ·have:=h2 b mX;unfold fg at *;simp at *;omega
     ·exact h2 y (mZ _ hy)
theorem sS (h:jc K p d i=true):∃m∈K,told eP p d m.1=true/\m.2=i/\∀y∈K,told eP p d y.1=true->fg y m=false:=by
 unfold jc at h;split at h
 ·cases h
 ·rename_i b r e;obtain⟨h1,h2⟩:=sR r b;rw[←e]at h1 h2;obtain⟨h3,h4⟩:=vN h1;exact⟨_,h3,h4,of_decide_eq_true h,λy hy ht=>h2 y (List.mem_filter.mpr ⟨hy,ht⟩)⟩
theorem BA (h1:jc K p d1 i1=true)(h2:jc K p d2 i2=true):i1=i2:=by
 obtain⟨m1,k1,t1,e1,q1⟩:=sS h1;obtain⟨m2,k2,t2,e2,q2⟩:=sS h2;have a1:=Db t1;have a2:=Db t2;by_cases hd:d1<=d2
 ·have z1:=q2 m1 k1 (a1.2 d2 (by omega));have hm:aF m2.1<=aF m1.1:=by unfold fg at z1;simp at z1;omega
  have z2:=q1 m2 k2 (a2.2 d1 (by omega));unfold fg at z1 z2;simp at z1 z2;omega
 ·have z1:=q1 m2 k2 (a2.2 d1 (by omega));have hm:aF m1.1<=aF m2.1:=by unfold fg at z1;simp at z1;omega
  have z2:=q2 m1 k1 (a1.2 d2 (by omega));unfold fg at z1 z2;simp at z1 z2;omega
theorem zV {κ:Type}[DecidableEq κ]:∀ {ks:List κ}{vs:List D}{k:κ}{v:D},cz ks vs k=some v->k∈ks
 |k'::ks,d::ds,k,v,h=>by
  unfold cz at h;split at h
  ·rename_i e;rw[←e];exact mX
  ·exact mZ _ (zV h)
 |[],_,_,_,h=>by simp[cz]at h
 |_::_,[],_,_,h=>by simp[cz]at h
theorem sT (p:Str)(dd:List Str)(hp:p∉dd):∀ks:List (List cE),K0 dd ks=K0 (p::dd) ks+(ks.filter λk=>decide (B9 k=p)).length
 |[]=>rfl
 |k::ks=>by
  have ih:=sT p dd hp ks;unfold K0 at ih ⊢;by_cases e:B9 k=p
  ·rw[List.filter_cons_of_pos (by simpa [e]using hp),List.filter_cons_of_neg (by simp[e]),List.filter_cons_of_pos (by simp[e]),vE,vE];omega
  ·by_cases h:B9 k∈dd
   ·rw[List.filter_cons_of_neg (by simp[h]),List.filter_cons_of_neg (by simp[h]),List.filter_cons_of_neg (by simp[e])];exact ih
   ·rw[List.filter_cons_of_pos (by simp[h]),List.filter_cons_of_pos (by simp[h,e]),List.filter_cons_of_neg (by simp[e]),vE,vE];omega
theorem lV (dD:List Str)(p:Str)(day:Int):∀so:List Cl,((cx so dD p day).map λc=>(c.o,c.n)).Sublist (so.map λc=>(c.o,c.n))
 |[]=>List.Sublist.slnil
 |c::so=>by
  have ih:=lV dD p day so;unfold cx at ih ⊢;rw[uO,uW,uY];have:((gD dD p day c).map λc=>(c.o,c.n))=[(c.o,c.n)]∨((gD dD p day c).map λc=>(c.o,c.n))=[]:=by
   unfold gD;split
   ·exact .inl rfl
   ·split
    ·exact .inl rfl
    ·exact .inr rfl
  rcases this with h|h
  ·rw[h];exact ih.cons₂ _
  ·rw[h];exact ih.cons _
theorem iF (h:c∈cx so dD p day):∃c'∈so,c'.o=c.o/\c'.n=c.n:=by
 have:=(lV dD p day so).subset (uS ⟨c,h,rfl⟩);obtain⟨c',h1,h2⟩:=vO this;injection h2 with h3 h4;exact⟨c',h1,h3,h4⟩
theorem jQ:∀(ss ts:List Str),ts.Nodup->(ss.foldl kj ts).Nodup
 |[],_,h=>h
 |s::ss,ts,h=>jQ ss _ (Bh h s)
theorem jd:∀(ss ts:List Str)(x:Str),x∈ss.foldl kj ts->x∈ts∨x∈ss
 |[],_,_,h=>.inl h
 |s::ss,ts,x,h=>by
  rcases jd ss _ x h with h|h
  ·rcases qQ.mp h with h|h
   ·exact .inl h
   ·exact .inr (by rw[h];exact mX)
  ·exact .inr (mZ _ h)
theorem sU (so:List Cl)(p:Str)(day:Int):(de so p day).Nodup:=(dG _).nodup_iff.mpr (jQ _ [] List.nodup_nil)
theorem Hi (h:o∈de so p day):∃c∈so,c.o=o:=by
 have h1:=(dG _).mem_iff.mp h;rcases jd _ _ _ h1 with h|h
 ·cases h
 ·obtain⟨c,hc,e⟩:=vO h;exact⟨c,(vN hc).1,e⟩
theorem zW (K:KL)(hk:List (List cE))(hv:List D)(p:Str)(day:Int)(n:Nat):∀os:List Str,((os.flatMap (dN K hk hv p day n)).map λc=>(c.o,c.n)).Sublist (os.map λo=>(o,n))
 |[]=>List.Sublist.slnil
 |o::os=>by
  have ih:=zW K hk hv p day n os;rw[uO,uW,uY];have:((dN K hk hv p day n o).map λc=>(c.o,c.n))=[(o,n)]∨((dN K hk hv p day n o).map λc=>(c.o,c.n))=[]:=by
   unfold dN;split
   ·split
    ·exact .inl rfl
    ·exact .inr rfl
   ·exact .inr rfl
  rcases this with h|h
  ·rw[h];exact ih.cons₂ _
  ·rw[h];exact ih.cons _
theorem wa {α:Type}[DecidableEq α]:∀(l m:List α),l.Nodup->(∀x∈l,x∈m)->l.length<=m.length
 |[],_,_,_=>uN _
 |x::l,m,h,s=>by
  rw[List.nodup_cons]at h;have hx:=s x mX;have:=wa l (m.erase x) h.2 λy hy=>(List.mem_erase_of_ne (a:=y) (b:=x) (λe=>h.1 (by rw[←e];exact hy))).mpr (s y (mZ _ hy));rw[List.length_erase_of_mem hx]at this;have:0<m.length:=List.length_pos_of_mem hx;rw[vE];omega
theorem wb {α β:Type}(f:α->List β)(q:α->Bool)(h:∀a,(f a).length<=1/\(q a=false->f a=[])):∀l:List α,(l.flatMap f).length<=(l.filter q).length
 |[]=>vT _
 |a::l=>by
  have ih:=wb f q h l;rw[uO,uZ];cases hq:q a with
  |true=>rw[List.filter_cons_of_pos hq,vE];have:=(h a).1;omega
  |false=>rw[List.filter_cons_of_neg (by rw[hq];decide),(h a).2 hq];simpa using ih
theorem K1 (K:KL)(so:List Cl)(hk:List (List cE))(hv:List D)(p:Str)(day:Int)(n:Nat):(sP K so hk hv p day n).length<=(hk.filter λk=>decide (B9 k=p)).length:=by
 refine vR (wb _ (λo=>(cz hk hv [.inr o,.inr p]).isSome) (λo=>⟨mU _ _ _ _ _ _ _,λh=>?_⟩) _) ?_
 ·have hl:cz hk hv [.inr o,.inr p]=none:=by simpa using h
  unfold dN zT;rw[hl]
 ·have Lm:(((de so p day).filter λo=>(cz hk hv [.inr o,.inr p]).isSome).map λo=>([.inr o,.inr p]:List cE)).Nodup:=List.Pairwise.map _ (λa b hab e=>hab (by injection e with e _;injection e)) ((sU so p day).filter _);have:=wa _ (hk.filter λk=>decide (B9 k=p)) Lm λk hm=>by
   obtain⟨o,ho,rfl⟩:=vO hm;obtain⟨v,hv⟩:=uU (vN ho).2;exact List.mem_filter.mpr ⟨zV hv,decide_eq_true rfl⟩
  rwa [vI]at this
theorem A2.step {K l:KL}{dd:List Str}{st:Mi}(h:A2 K l dd st){x:D×Nat}(hx:x.2∉l.map (·.2)):∃Lb,A2 K (l++[x]) Lb (dY K st x):=by
 have up:∀ {n:Nat},n∈l.map (·.2)->n∈(l++[x]).map (·.2):=λh=>by rw[uW];exact List.mem_append_left _ h
 have me:x.2∈(l++[x]).map (·.2):=by simp
 have ll:(l++[x]).length=l.length+1:=by simp
 have S4:∀q∈dd,∃y∈l++[x],jc K q (aF y.1) y.2=true:=λq hq=>by
  obtain⟨y,h1,h2⟩:=h.ded q hq;exact⟨y,List.mem_append_left _ h1,h2⟩
 have wk:A2 K (l++[x]) dd st:=⟨by have:=h.len;omega,S4,h.nod,λc hc=>up (h.num c hc),h.hs,by have:=h.hk;omega⟩;have bP:=h.len;unfold dY;split
 ·rename_i hcount;split
  ·refine⟨dd,by simp;omega,S4,?_,λc hc=>?_,h.hs,by rw[ll];exact Nat.le_succ_of_le h.hk⟩
   ·rw[uW,List.nodup_append];refine⟨h.nod,by simp,λa ha b hb e=>?_⟩;obtain⟨c,hc,rfl⟩:=vO ha;simp at hb;subst hb;injection e with _ e2;exact hx (e2 ▸ h.num c hc)
   ·rcases List.mem_append.mp hc with hc|hc
    ·exact up (h.num c hc)
    ·rw[uT hc];exact me
  ·split
   ·have hl:=gE [ay 2 x.1] (ay 1 x.1) (jb 4 x.1) st.1;refine⟨dd,by simp;omega,S4,?_,λc hc=>?_,h.hs,by rw[ll];exact Nat.le_succ_of_le h.hk⟩
    ·rw[uW,List.nodup_append];refine⟨h.nod.sublist (lV _ _ _ _),by simp,λa ha b hb e=>?_⟩;obtain⟨c,hc,rfl⟩:=vO ha;simp at hb;subst hb;injection e with _ e2;obtain⟨c',h1,_,h3⟩:=iF hc;exact hx (e2 ▸ h3 ▸ h.num c' h1)
    ·rcases List.mem_append.mp hc with hc|hc
     ·obtain⟨c',h1,_,h3⟩:=iF hc;rw[←h3];exact up (h.num c' h1)
     ·rw[uT hc];exact me
   ·split
    ·have hp:∀k:List cE,K0 dd (dW st.2.1 k)<=K0 dd st.2.1+1/\(dW st.2.1 k).length<=st.2.1.length+1:=λk=>by
      unfold dW;split
      ·omega
      ·have:([k].filter λk=>decide (B9 k∉dd)).length<=1:=vM _ _;unfold K0;rw[List.filter_append,uZ,uZ,List.length_singleton];omega
     refine⟨dd,?_,S4,wk.nod,wk.num,λv hv=>?_,?_⟩
     ·have:=(hp [.inr (ay 2 x.1),.inr (ay 1 x.1)]).1;rw[ll];show st.1.length+K0 dd (dW st.2.1 [.inr (ay 2 x.1),.inr (ay 1 x.1)])<=_;omega
     ·rcases vy hv with hv|hv
      ·exact⟨_,hv⟩
      ·exact h.hs v hv
     ·have:=(hp [.inr (ay 2 x.1),.inr (ay 1 x.1)]).2;have:=h.hk;rw[ll];show(dW _ _).length<=_;omega
    ·rename_i n1 n2 n3;have hd:kindOf x.1 = "death":=by
      unfold cG at hcount;by_cases hd:kindOf x.1 = "death"
      ·exact hd
      ·rw[if_neg hd,if_neg (by simp[tP,n1,n2,n3])]at hcount;cases hcount
     have hf:jc K (ay 1 x.1) (aF x.1) x.2=true:=by unfold cG at hcount;rwa [if_pos hd]at hcount
     have PU:ay 1 x.1∉dd:=λhm=>by
      obtain⟨y,h1,h2⟩:=h.ded _ hm;exact hx (by rw[←BA h2 hf];exact uS ⟨y,h1,rfl⟩)
     have hl:=gE (st.1.map Cl.o) (ay 1 x.1) (aF x.1) st.1;have hio:=K1 K st.1 st.2.1 st.2.2 (ay 1 x.1) (aF x.1) x.2;have Xz:=sT (ay 1 x.1) dd PU st.2.1;have XM:=zW K st.2.1 st.2.2 (ay 1 x.1) (aF x.1) x.2 (de st.1 (ay 1 x.1) (aF x.1));have XN:∀c∈sP K st.1 st.2.1 st.2.2 (ay 1 x.1) (aF x.1) x.2,c.o∈de st.1 (ay 1 x.1) (aF x.1)/\c.n=x.2:=λc hc=>by
      have:=XM.subset (uS ⟨c,hc,rfl⟩);obtain⟨o,h1,h2⟩:=vO this;injection h2 with h3 h4;exact⟨h3 ▸ h1,h4.symm⟩
     refine⟨ay 1 x.1::dd,?_,λq hq=>?_,?_,λc hc=>?_,h.hs,by rw[ll];exact Nat.le_succ_of_le h.hk⟩
     ·rw[ll];show(cx st.1 (st.1.map Cl.o) (ay 1 x.1) (aF x.1)++sP K st.1 st.2.1 st.2.2 (ay 1 x.1) (aF x.1) x.2).length+K0 _ st.2.1<=_;rw[uZ];omega
     ·rcases vP hq with rfl|hq
      ·exact⟨x,by simp,hf⟩
      ·exact S4 q hq
     ·rw[uW,List.nodup_append];refine⟨h.nod.sublist (lV _ _ _ _),List.Nodup.sublist XM (List.Pairwise.map _ (λa b hab e=>hab (by injection e)) (sU _ _ _)),λa ha b hb e=>?_⟩;obtain⟨c,hc,rfl⟩:=vO ha;obtain⟨c2,D4,rfl⟩:=vO hb;injection e with _ e2;obtain⟨c',h1,_,h3⟩:=iF hc;exact hx ((XN c2 D4).2 ▸ e2 ▸ h3 ▸ h.num c' h1)
     ·rcases List.mem_append.mp hc with hc|hc
      ·obtain⟨c',h1,_,h3⟩:=iF hc;rw[←h3];exact up (h.num c' h1)
      ·rw[(XN c hc).2];exact me
 ·exact⟨dd,wk⟩
theorem K2 (e:Y[i]? = some (some (.dt ks vs,true)))(ev:fv Y=some (d,b))(ek:fk Y=some kd)(hk:jn kd=some kk)(hf:bq d=true)(h1:ks.length<=1000)(h2:kd.length<=1000):vg i fk fv Y=some (.nx (Y.set i (some (.dt (dW ks kk) (dX ks vs kk d),true)))):=by
 unfold vg;rw[e];dsimp only;rw[ev,vJ,ek,vJ,hk,vJ,if_pos ⟨hf,bM (by omega),dJ (by omega)⟩]
theorem UC (a b:Cl):(bd (kC a) (kC b)).isSome=true:=by
 unfold kC;rw[bd];split
 ·rw[bd];split
  ·rw[bd];split
   ·rw[bd];rfl
   ·rfl
  ·rfl
 ·rfl
theorem Dc (cs:List Cl):eZ (cs.map kC)=true:=by
 unfold eZ;simp[List.all_eq_true,UC]
theorem pq {α β:Type}(f:α->β):∀ {l:List α},(l.map f).Nodup->∀ {a b:α},a∈l->b∈l->f a=f b->a=b
 |[],_,_,_,ha,_,_=>by cases ha
 |c::l,h,a,b,ha,hb,e=>by
  rw[uY,List.nodup_cons]at h;rcases vP ha with ea|ha1
  ·rcases vP hb with eb|hb1
   ·rw[ea,eb]
   ·exact absurd (uS ⟨b,hb1,by rw[←e,ea]⟩) h.1
  ·rcases vP hb with eb|hb1
   ·exact absurd (uS ⟨a,ha1,by rw[e,eb]⟩) h.1
   ·exact pq f h.2 ha1 hb1 e
theorem Hj {cs:List Cl}{a b:Cl}(ha:a∈cs)(hb:b∈cs)(e:cX (kC a)=cX (kC b)):(a.o,a.n)=(b.o,b.n):=by
 have h:=oR (Dc cs) (uS ⟨a,ha,rfl⟩) (uS ⟨b,hb,rfl⟩) e;unfold kC at h;injection h with h1 h2;injection h1 with h1;injection h2 with _ h3;injection h3 with h3 _;injection h3 with h3;rw[h1,show a.n=b.n by omega]
theorem K3 (g:fP Z)(aa:Int)(h:A2 (ak Z aa) l dd st)(hj:l.length<=60)(hx:x∈ak Z aa)(Qf:bo x.1=false)(v5:OB):
  ∃w5,(lR [sF (.tup Z),sF (.int aa),lT (st.1.map aY),some (.dt st.2.1 st.2.2,true),sF (.int x.2),v5]=some (.nx [sF (.tup Z),sF (.int aa),lT ((dY (ak Z aa) st x).1.map aY),some (.dt (dY (ak Z aa) st x).2.1 (dY (ak Z aa) st x).2.2,true),sF (.int x.2),w5])
   ∨ lR [sF (.tup Z),sF (.int aa),lT (st.1.map aY),some (.dt st.2.1 st.2.2,true),sF (.int x.2),v5]=some (.ct [sF (.tup Z),sF (.int aa),lT ((dY (ak Z aa) st x).1.map aY),some (.dt (dY (ak Z aa) st x).2.1 (dY (ak Z aa) st x).2.2,true),sF (.int x.2),w5])):=by
 obtain⟨ha,gx⟩:=dM g hx;have t7:st.1.length<=60:=by have:=h.len;omega
 have hf:bq x.1=true:=gx.rp.flat;have ec:=E6 g aa st.1 t7 hx Qf;have DB:dS (aU (fA nS (fV 0 (fV 1 (fV 2 (fV 4 ai)))))) [sF (.tup Z),sF (.int aa),lT (st.1.map aY),some (.dt st.2.1 st.2.2,true),sF (.int x.2),some (x.1,false)]=some (!cG (ak Z aa) st.1 x) :=
  bO (cw (aI [.tup Z,.int aa,.lst (st.1.map aY),.int x.2] (by simp) ec))
 have hw:fA aN (fV 5 ai) [sF (.tup Z),sF (.int aa),lT (st.1.map aY),some (.dt st.2.1 st.2.2,true),sF (.int x.2),some (x.1,false)]=sF (.str (kindOf x.1)):=aI [x.1] rfl (j5 gx);refine⟨some (x.1,false),?_⟩;cases hc:cG (ak Z aa) st.1 x with
 |false=>
  rw[hc]at DB;have es:dY (ak Z aa) st x=st:=by unfold dY;rw[hc];rfl
  rw[es];exact .inr (fB x.1 (by simp[ha]) hf (UB (kM DB rfl)))
 |true=>
  rw[hc]at DB;left;refine fB x.1 (by simp[ha]) hf (dE (md DB rfl) ?_);by_cases hn:kindOf x.1 = "named"
  ·have es:dY (ak Z aa) st x=(st.1++[⟨ay 1 x.1,ay 2 x.1,aF x.1,none,x.2⟩],st.2):=by unfold dY;rw[hc,if_pos rfl,if_pos hn]
   rw[es];refine kM (bY (bb:=false) hw (decide_eq_true hn)) ?_;have Qg:au [x.1,.str "office"]=sF (.str (ay 1 x.1))/\au [x.1,.str "person"]=sF (.str (ay 2 x.1)):=by
    obtain⟨a,k,aB,e,d⟩:=gx;rw[e]at hn ⊢;replace hn:k = "named":=hn;cases d with
    |named d o p=>exact⟨bz (i:=1) dr rfl,bz (i:=2) dr rfl⟩
    |root=>exact cS hn
    |chosen=>exact cS hn
    |heir=>exact cS hn
    |three _ hk=>rcases hk with rfl|rfl|rfl<;>exact cS hn
    |other _ hk=>rcases hk with rfl|rfl|rfl|rfl|rfl<;>exact cS hn
   have xY:aX [x.1]=sF (.int (aF x.1)):=by rw[sC gx];unfold tN;rw[Qf];rfl
   have e2:f2 bS (aj 2) (fA br (ae (fA gR (fV 5 (ae (fA aX (fV 5 ai)) (fV 4 ai)))) ai)) [sF (.tup Z),sF (.int aa),lT (st.1.map aY),some (.dt st.2.1 st.2.2,true),sF (.int x.2),some (x.1,false)]=lT (st.1.map aY++[aY ⟨ay 1 x.1,ay 2 x.1,aF x.1,none,x.2⟩]):=by
    refine fZ (x:=.lst (st.1.map aY)) (y:=.lst [aY ⟨ay 1 x.1,ay 2 x.1,aF x.1,none,x.2⟩]) (b1:=false) (b2:=true) rfl ?_ (if_pos (dJ (by rw[vI,List.length_singleton];omega)));exact aI [aY ⟨ay 1 x.1,ay 2 x.1,aF x.1,none,x.2⟩] (aD (aI [x.1,.int (aF x.1),.int x.2] (bK rfl (bK (aI [x.1] rfl xY) rfl)) (Mh Qg.1 Qg.2 _ _)) rfl) (dw _ (by simp))
   have:=xC (i:=2) e2 (by have hq:=gV (st.1++[(⟨ay 1 x.1,ay 2 x.1,aF x.1,none,x.2⟩:Cl)]);rwa [uW]at hq);rw[uW];exact this
  ·refine md (bY (bb:=false) hw (decide_eq_false hn)) ?_;by_cases qo:kindOf x.1 = "chosen"
   ·have es:dY (ak Z aa) st x=(cx st.1 [ay 2 x.1] (ay 1 x.1) (jb 4 x.1)++[⟨ay 2 x.1,ay 3 x.1,jb 4 x.1,none,x.2⟩],st.2):=by unfold dY;rw[hc,if_pos rfl,if_neg hn,if_pos qo]
    rw[es];refine kM (bY (bb:=false) hw (decide_eq_true qo)) (xC (i:=2) (aI [.lst (st.1.map aY),x.1,.int x.2] rfl ?_) (gV _));obtain⟨a,k,aB,e,d⟩:=gx;rw[e]at qo ⊢;replace qo:k = "chosen":=qo;cases d with
    |chosen d b o p s=>exact E7 st.1 t7 x.2
    |root=>exact cS qo
    |named=>exact cS qo
    |heir=>exact cS qo
    |three _ hk=>rcases hk with rfl|rfl|rfl<;>exact cS qo
    |other _ hk=>rcases hk with rfl|rfl|rfl|rfl|rfl<;>exact cS qo
   ·refine md (bY (bb:=false) hw (decide_eq_false qo)) ?_;by_cases hh:kindOf x.1 = "heir"
    ·have es:dY (ak Z aa) st x=(st.1,dW st.2.1 [.inr (ay 2 x.1),.inr (ay 1 x.1)],dX st.2.1 st.2.2 [.inr (ay 2 x.1),.inr (ay 1 x.1)] (.str (ay 3 x.1))):=by unfold dY;rw[hc,if_pos rfl,if_neg hn,if_neg qo,if_pos hh]
     rw[es];have Qg:au [x.1,.str "office"]=sF (.str (ay 2 x.1))/\au [x.1,.str "by"]=sF (.str (ay 1 x.1))/\au [x.1,.str "person"]=sF (.str (ay 3 x.1)):=by
      obtain⟨a,k,aB,e,d⟩:=gx;rw[e]at hh ⊢;replace hh:k = "heir":=hh;cases d with
      |heir d b o p=>exact⟨bz (i:=2) dr rfl,bz (i:=1) dr rfl,bz (i:=3) dr rfl⟩
      |root=>exact cS hh
      |named=>exact cS hh
      |chosen=>exact cS hh
      |three _ hk=>rcases hk with rfl|rfl|rfl<;>exact cS hh
      |other _ hk=>rcases hk with rfl|rfl|rfl|rfl|rfl<;>exact cS hh
     exact kM (bY (bb:=false) hw (decide_eq_true hh)) (K2 (ks:=st.2.1) (vs:=st.2.2) (kd:=[.str (ay 2 x.1),.str (ay 1 x.1)]) (b:=false) rfl (aI [x.1,.str "person"] rfl Qg.2.2) (aD (aI [x.1,.str "office"] rfl Qg.1) (aD (aI [x.1,.str "by"] rfl Qg.2.1) rfl)) rfl rfl (by have:=h.hk;omega) (by simp))
    ·refine md (bY (bb:=false) hw (decide_eq_false hh)) ?_;have es:dY (ak Z aa) st x=(cx st.1 (st.1.map Cl.o) (ay 1 x.1) (aF x.1)++sP (ak Z aa) st.1 st.2.1 st.2.2 (ay 1 x.1) (aF x.1) x.2,st.2):=by unfold dY;rw[hc,if_pos rfl,if_neg hn,if_neg qo,if_neg hh]
     rw[es];have hd:kindOf x.1 = "death":=by
      unfold cG at hc;by_cases hd:kindOf x.1 = "death"
      ·exact hd
      ·rw[if_neg hd,if_neg (by simp[tP,hn,qo,hh])]at hc;cases hc
     refine xC (i:=2) (aI [.tup Z,.int aa,.lst (st.1.map aY),.dt st.2.1 st.2.2,.int x.2] (by simp) ?_) (gV _);obtain⟨a,k,aB,e,d⟩:=gx;have hk:k = "death":=by rw[e]at hd;exact hd
     subst hk;obtain⟨dd,p,rfl⟩:=d.deed.three (by decide +kernel);have:=Hh g aa st.1 t7 st.2.1 st.2.2 h.hs hx e;rw[this,e];rfl
theorem De (K:KL):∀(l l0:KL)(st:Mi)(dd:List Str),A2 K l0 dd st->((l0++l).map (·.2)).Nodup->∃Lb,A2 K (l0++l) Lb (l.foldl (dY K) st)
 |[],l0,st,dd,h,_=>⟨dd,by rw[uQ];exact h⟩
 |x::l,l0,st,dd,h,hn=>by
  have hx:x.2∉l0.map (·.2):=λhm=>by
   rw[uW,List.nodup_append]at hn;exact hn.2.2 _ hm x.2 (by simp) rfl
  obtain⟨Lb,h'⟩:=h.step hx;have e:l0++x::l=(l0++[x])++l:=by simp
  rw[e]at hn ⊢;exact De K l _ _ _ h' hn
theorem Df (K l:KL)(h:(l.map (·.2)).Nodup):∃dd,A2 K l dd (o0 K l):=by
 have:=De K l [] ([],[],[]) [] ⟨uN _,by simp,by simp,by simp,by simp,uN _⟩ h;exact this
theorem lW (h:(K.map (·.2)).Nodup):((cJ K).map (·.2)).Nodup:=((bG _ _).map _).nodup_iff.mpr (List.Nodup.sublist (List.Sublist.map _ List.filter_sublist) h)
theorem iG {Z:List D}(g:fP Z)(aa:Int)(bP:(cJ (ak Z aa)).length<=60):gS [.tup Z,.int aa]=lT ((aR (ak Z aa)).map aY)/\(aR (ak Z aa)).length<=60:=by
 have eL:eK [.tup Z,.int aa]=lT ((cJ (ak Z aa)).map λx=>.int x.2):=pQ g aa;generalize hK:ak Z aa=K at bP eL ⊢;have p4:∀x∈cJ K,x∈K/\bo x.1=false:=λx hx=>by
  obtain⟨h1,h2⟩:=vN ((bG _ _).mem_iff.mp hx);exact⟨h1,by simpa using h2⟩
 have Lm:((cJ K).map (·.2)).Nodup:=lW (by rw[←hK];exact eX Z aa);obtain⟨ρ',e,v4,v5,rfl⟩:=iQ (tg:=dC 4) (g:=lR) (λj Y=>∃v4 v5:OB,Y=[sF (.tup Z),sF (.int aa),lT ((o0 K ((cJ K).take j)).1.map aY),some (.dt (o0 K ((cJ K).take j)).2.1 (o0 K ((cJ K).take j)).2.2,true),v4,v5]) ((cJ K).map λx=>.int x.2)
  [sF (.tup Z),sF (.int aa),lT [],some (.dt [] [],true),none,none] ⟨none,none,rfl⟩ (by
   rintro j d Y hd ⟨v4,v5,rfl⟩;rw[vA]at hd;obtain⟨x,hx,rfl⟩:=oY hd;have hjl:j<(cJ K).length:=(vV hx).1;have et:(cJ K).take (j+1)=(cJ K).take j++[x]:=by rw[List.take_add_one,hx];rfl
   have ef:o0 K ((cJ K).take (j+1))=dY K (o0 K ((cJ K).take j)) x:=by rw[et];unfold o0;rw[List.foldl_append];rfl
   obtain⟨TB,hxr⟩:=p4 x (vL hx);obtain⟨dd,h⟩:=Df K ((cJ K).take j) (List.Nodup.sublist (List.Sublist.map _ (List.take_sublist _ _)) Lm);rw[←hK]at h;have ng:=K3 g aa h (by rw[hK,List.length_take];omega) (x:=x) (by rw[hK];exact TB) hxr v5;rw[hK]at ng;obtain⟨w5,ng⟩:=ng;exact⟨_,_,rfl,ng,sF (.int x.2),w5,by rw[ef]⟩)
 have lG:(cJ K).take ((cJ K).map λx=>D.int x.2).length=cJ K:=by rw[vI,List.take_length]
 rw[lG]at e;obtain⟨dd,t7⟩:=Df K (cJ K) Lm;generalize ye:(o0 K (cJ K))=st at e t7;have kQ:st.1.length<=60:=by have:=t7.len;omega
 have XO:aR K=eY (λc=>cX (kC c)) st.1:=by unfold aR;rw[ye]
 have hm:∀Y:DL.Env,jH (tM gQ Y) (st.1.map aY)=some (st.1.map λc=>.tup [.str c.o,.int c.s,.int c.n]):=λY=>iY st.1 λc _=>by
  show(gQ [aY c]).map _=_;rw[xI];rfl
 have hk:dU (st.1.map λc=>D.tup [.str c.o,.int c.s,.int c.n])=some (st.1.map kC):=iE st.1 λc _=>rfl;have jS:(st.1.map kC).length<64/\eZ (st.1.map kC)=true/\fY (st.1.map kC)=true/\((st.1.map kC).map cX).Nodup:=by
  refine⟨by rw[vI];omega,Dc _,?_,?_⟩
  ·unfold fY;rw[Bool.or_eq_true];right;simp[List.all_eq_true,kC]
  ·rw[uP];have h1:st.1.Pairwise λa b=>(a.o,a.n)≠(b.o,b.n):=List.pairwise_map.mp t7.nod;have h2:st.1.Pairwise λa b=>cX (kC a)≠cX (kC b):=by
    refine List.Pairwise.imp_of_mem ?_ h1;intro a b ha hb oA e;exact oA (Hj ha hb e)
   exact List.pairwise_map.mpr h2
 have hz:(st.1.map kC).zip (st.1.map aY)=st.1.map λc=>(kC c,aY c):=by rw[List.zip_map']
 have key:((aR K).map λc=>(kC c,aY c))=eY (λp:List At×D=>cX p.1) (st.1.map λc=>(kC c,aY c)):=by
  rw[XO];refine lg _ (λx hx y hy e=>?_) ((bG _ _).map _) ?_
  ·obtain⟨a,ha,rfl⟩:=vO hx;obtain⟨b,hb,rfl⟩:=vO hy;rw[pq (λc:Cl=>(c.o,c.n)) t7.nod ha hb (Hj ha hb e)]
  ·exact List.pairwise_map.mpr (iO _ _)
 refine⟨av rfl (cj (ds:=[]) (by simp[sizeLine]) rfl (dE (ρ':=[sF (.tup Z),sF (.int aa),lT [],some (.dt [] [],true),none,none]) rfl (dE (lQ (ds:=(cJ K).map λx=>.int x.2) ?_ e) (az ?_)))),by rw[XO,(bG _ _).length_eq];exact kQ⟩
 ·show(fA eK (fV 0 (fV 1 ai)) _).bind _=_;rw[aI [.tup Z,.int aa] rfl eL];rfl
 ·unfold rg;show((some (D.lst (st.1.map aY),false)).bind _)=_;simp only[vJ];rw[hm];simp only[vJ];rw[hk];simp only[vJ];rw[if_pos jS];unfold jI;rw[hz,←key,uP];rfl
end Lw
namespace Lw
open PySem PySem.Spec DL L2
theorem zX (ns:List Int)(k:Nat)(x:Int):∃c:Int,(a9 (aQ 2 (f2 bR (f2 gL (f2 bS (f2 bS (f2 bR (aj 2) (fI 2147483629)) (f2 gL (fI 6151) (aj 1))) (fI 1)) (fI 48271)) (fI 2147483647)))
  (aT (f2 bR (f2 gL (aj 2) (f2 bS (f2 bS (f2 bR (aj 2) (fI 65519)) (aj 1)) (fI 2))) (fI 2147483629)))) [sF (.lst (ns.map .int)),sF (.int k),sF (.int x)]=some (.rt (.int c) false)/\0<=c:=by
 obtain⟨y,hy⟩:∃y,((x % 2147483629+6151*k+1)*48271) % 2147483647=y:=⟨_,rfl⟩;have hb:0<=y/\y<2147483647:=by rw[←hy];exact mod_lt (by decide)
 have hc : -18446744073709551616<y/\y<18446744073709551616:=by omega
 exact⟨(y*(y % 65519+k+2)) % 2147483629,fB (.int y) (by simp[hy]) rfl (az (by simp[hc])),(mod_lt (by decide)).1⟩
theorem i7 (ns:List Int)(k:Nat):∃c:Int,dn [.lst (ns.map .int),.int k]=sF (.int c)/\0<=c:=by
 by_cases h:ns.length=0
 ·have e:ns=[]:=List.length_eq_zero_iff.mp h;subst e;obtain⟨c,h1,h2⟩:=zX [] k 5;exact⟨c,av rfl (fB (.int 5) rfl rfl (aC (cw (by simp)) h1)),h2⟩
 ·have hm:=mod_lt (x:=(k:Int)) (m:=ns.length) (by omega);obtain⟨c,h1,h2⟩:=zX ns k (ns.getD ((k:Int) % ns.length).toNat 0);refine⟨c,av rfl (fB (.int 5) rfl rfl (dE (kM (cw (by simp;omega)) (rK (d:=.int (ns.getD ((k:Int) % ns.length).toNat 0)) (b:=false) ?_ rfl)) h1)),h2⟩;refine bw (.lst (ns.map .int)) (.int ((k:Int) % ns.length)) rfl ?_ (CF hm.1 (by omega));refine bw (.int k) (.int ns.length) rfl (by simp) ?_;have oA:¬ns=[]:=λe=>h (by rw[e];rfl);simp[bR,oA]
theorem Hk {Y:DL.Env}{i n:Nat}{ds:List D}{fk fv:FE}{d:D}{b b':Bool}(e:Y[i]? = some (lT ds))(ev:fv Y=some (d,b))(ek:fk Y=some (.int n,b'))(hn:n<ds.length)(hf:bq d=true):Ej i fk fv Y=some (.nx (Y.set i (lT (ds.set n d)))):=by
 have hx:DP ds.length (n:Int)=some n:=by
  unfold DP;rw[if_pos (by omega)];simp[hn]
 simp only[Ej,e,ev,ek,vJ,hx,if_pos hf]
theorem Dg:∀(zs:List Str),(∀z∈zs,z.length=1)->(zs.map (·.length)).sum=zs.length
 |[],_=>rfl
 |z::zs,h=>by
  rw[uY,List.sum_cons,Dg zs λy hy=>h y (mZ _ hy),h z mX,vE];omega
theorem Dh (x:Int):0<=x % 26/\x % 26<26:=mod_lt (by decide)
noncomputable def o3:PySem.Str:="abcdefghijklmnopqrstuvwxyz"
theorem E8:o3.cps.size=26:=by decide +kernel
def RA (x:Int):Str:=⟨#[o3.cps.toList.getD (x % 26).toNat 0]⟩
theorem Hl (x:Int):bA (.str o3) (.int (x % 26))=sF (.str (RA x)):=DL.AL (Dh x).1 (by rw[E8];have:=Dh x;omega) (by decide +kernel)
theorem zY:∀(zs:List Str)(y:Str),(Str.join ("" : Str) (y::zs)).cps.toList=(y::zs).flatMap λz=>z.cps.toList
 |[],y=>by rw[uO,List.flatMap_nil,uQ];rfl
 |z::r,y=>by
  have e3:∀a b:Str,(a++b).cps.toList=a.cps.toList++b.cps.toList:=λa b=>by show(a.cps++b.cps).toList=_;simp
  show(y++("" : Str)++Str.join ("" : Str) (z::r)).cps.toList=_;rw[e3,e3,zY r z,show("" : Str).cps.toList=[]from rfl,uQ];rfl
theorem Hm (h:zs≠[]):(Txt.join ("" : Str) zs).cps.toList=zs.flatMap λz=>z.cps.toList:=by
 cases zs with
 |nil=>exact absurd rfl h
 |cons y zs=>
  unfold Txt.join;rw[StrLaws.glued_eq_join];exact zY zs y
theorem o4 (x y:Nat):∀(bs:List Str)(a:Nat),a<bs.length->(∀z∈bs,∃c,z.cps.toList=[c])->((bs.set a ⟨#[x]⟩).flatMap λz=>z.cps.toList)=((bs.set a ⟨#[y]⟩).flatMap λz=>z.cps.toList)->x=y
 |b::bs,0,_,_,h=>by
  rw[List.set_cons_zero,List.set_cons_zero,uO,uO]at h;exact(List.cons.inj h).1
 |b::bs,a+1,hl,hb,h=>by
  rw[List.set_cons_succ,List.set_cons_succ,uO,uO]at h;exact o4 x y bs a (by simpa using hl) (λz hz=>hb z (mZ _ hz)) (List.append_cancel_left h)
theorem Hn:∀i j:Fin 26,o3.cps.toList.getD i.val 0=o3.cps.toList.getD j.val 0->i=j:=by decide +kernel
def zZ (bs:List Str)(a:Nat)(c:Int)(i:Nat):Str:=Txt.join ("" : Str) (bs.set a (RA (c / 64+3*(i:Int))))
theorem Mj {bs:List Str}{a:Nat}{c:Int}{i j:Nat}(ha:a<bs.length)(hb:∀z∈bs,∃c,z.cps.toList=[c])(D9:(3*(i:Int) - 3*(j:Int)) % 26≠0):zZ bs a c i≠zZ bs a c j:=by
 intro e;have e:=congrArg (λs:Str=>s.cps.toList) e;unfold zZ at e;have oA:∀x,bs.set a x≠[]:=λx z=>by have:=congrArg List.length z;rw[List.length_set,List.length_nil]at this;omega
 simp only[Hm (oA _)]at e;have:=o4 _ _ bs a ha hb e;have h1:=Dh (c / 64+3*(i:Int));have h2:=Dh (c / 64+3*(j:Int));have:=Hn ⟨((c / 64+3*(i:Int)) % 26).toNat,by omega⟩ ⟨((c / 64+3*(j:Int)) % 26).toNat,by omega⟩ this;have:=congrArg Fin.val this;simp only at this;omega
theorem Ho (c:Int)(hc:0<=c):∃zs:List Str,oV [.int c]=lT (zs.map .str)/\zs.length=7/\∀x y,zs[5]? = some x->zs[6]? = some y->x≠y:=by
 have h8:=mod_lt (x:=c) (m:=8) (by decide);obtain⟨n,hn⟩:∃n:Nat,1+c % 8=n:=⟨(1+c % 8).toNat,by omega⟩;have TC:1<=n:=by omega
 have hn8:n<=8:=by omega
 let bs:List Str:=(List.range n).map λ(k:Nat)=>RA (c / (3+4*k));have Qh:bs.length=n:=by simp[bs]
 have hb:=nO (fi:=fW (f2 bS (fI 1) (f2 bR (aj 0) (fI 8)))) (nT:=1) (cap:=[1,0]) (tg:=dC 0) (fe:=f2 bA (aj 1) (f2 bR (f2 da (aj 2) (f2 bS (fI 3) (f2 gL (fI 4) (aj 0)))) (fI 26)))
  (Y:=[sF (.int c),sF (.str o3),none,none,none,none,none]) (List.range n) (λ(k:Nat)=>.int k) (λ(k:Nat)=>.str (RA (c / (3+4*k))))
  (by rw[iC (j:=n) (b:=false) (by simp;omega) (by omega),E3];simp) (by simp;omega) λk hk=>by
   have hk:=List.mem_range.mp hk;refine⟨_,rfl,false,bw (.str o3) (.int (c / (3+4*k) % 26)) (by simp[eA]) ?_ (Hl _)⟩;have h1:(0:Int)<3+4*k:=by omega
   have h2:(3:Int)+4*k<1073741824:=by omega
   simp[eA,h1,h2]
 have hb':bV (fW (f2 bS (fI 1) (f2 bR (aj 0) (fI 8)))) 1 [1,0] (dC 0) iJ (f2 bA (aj 1) (f2 bR (f2 da (aj 2) (f2 bS (fI 3) (f2 gL (fI 4) (aj 0)))) (fI 26))) [sF (.int c),sF (.str o3),none,none,none,none,none]=lT (bs.map .str):=by
  rw[hb];simp[bs]
 have hat:=mod_lt (x:=c / 8) (m:=n) (by omega);obtain⟨a,ha⟩:∃a:Nat,c / 8 % n=a:=⟨(c / 8 % n).toNat,by omega⟩;obtain⟨zs,v5,v6,e,hz,Ph⟩:∃(zs:List Str)(v5 v6:OB),jt (dC 5) mR (gz 0 7) [sF (.int c),sF (.str o3),lT (bs.map .str),sF (.int (c / 8 % n)),lT [],none,none]=some (.nx [sF (.int c),sF (.str o3),lT (bs.map .str),sF (.int (c / 8 % n)),lT (zs.map .str),v5,v6])/\zs.length=7/\zs=(List.range 7).map (zZ bs a c):=by
  obtain⟨ρ',e,zs,v5,v6,rfl,hz,Ph⟩:=lq (tg:=dC 5) (g:=mR) 7 (λi Y=>∃(zs:List Str)(v5 v6:OB),Y=[sF (.int c),sF (.str o3),lT (bs.map .str),sF (.int (c / 8 % n)),lT (zs.map .str),v5,v6]/\zs.length=i/\zs=(List.range i).map (zZ bs a c))
   [sF (.int c),sF (.str o3),lT (bs.map .str),sF (.int (c / 8 % n)),lT [],none,none] ⟨[],none,none,rfl,rfl,rfl⟩ (by
    rintro i Y hi ⟨zs,v5,v6,rfl,hz,Ph⟩;let l:=RA (c / 64+3*i);let nm:=bs.set a l;have h1:∀z∈nm,z.length=1:=λz hz=>by
     rcases List.mem_or_eq_of_mem_set hz with h|h
     ·obtain⟨k,_,rfl⟩:=vO h;rfl
     ·rw[h];rfl
    have T7:nm.length=n:=by simp[nm,Qh]
    refine⟨_,_,rfl,.inl (cj (ds:=bs.map .str) (by simp) (cU _) (dE (Hk (n:=a) (ds:=bs.map .str) (d:=.str l) (b:=false) (b':=false) rfl ?_ ?_ (by simp[Qh];omega) rfl) (iR (ds:=zs.map .str) (d:=.str (Txt.join ("" : Str) nm)) (b:=false) rfl ?_ rfl (bM (by simp;omega))))),zs++[Txt.join ("" : Str) nm],sF (.int i),lT (nm.map .str),?_,by simp[hz],by rw[Ph,List.range_succ,uW];rfl⟩
    ·exact bw (.str o3) (.int ((c / 64+3*i) % 26)) rfl (by simp) (Hl _)
    ·simp[ha]
    ·refine bw (.str "") (.lst (nm.map .str)) rfl (by simp[nm]) ?_;show(iq (nm.map .str)).bind _=_;rw[oy];have:=Dg nm h1;have h0:("" : Str).length=0:=rfl;show(if _ then _ else _)=_;rw[if_pos (by rw[this,h0,T7];omega)]
    ·simp[nm])
  exact⟨zs,v5,v6,e,hz,Ph⟩
 have hsz:(bs.length:Int)=n:=by omega
 refine⟨if c / 1000 % 8=1 then zs.set 5 (zs.getD 0 ⟨#[]⟩)else zs,?_,by split<;>simp[hz],?_⟩
 refine av rfl (fB (.str o3) rfl rfl (cj (ds:=bs.map .str) hb' (cU _) (fB (.int (c / 8 % n)) ?_ rfl (cj (ds:=[]) (by simp[sizeLine]) (by simp) (dE (ls (iC (j:=7) (b:=false) rfl (by decide)) e) ?_)))))
 ·have:(bs.length:Int)≠0:=by omega
  refine bw (.int (c / 8)) (.int n) (by simp) (by simp[Qh]) ?_;have h1:(0:Int)<n:=by omega
  show(if decide ((0:Int)<n)=true then _ else _)=_;rw[if_pos (decide_eq_true h1)]
 ·by_cases h:c / 1000 % 8=1
  ·rw[if_pos h];have h5:5<(zs.map D.str).length:=by simp[hz]
   obtain⟨z0,zr,rfl⟩:∃z0 zr,zs=z0::zr:=by cases zs with|nil=>simp at hz|cons a b=>exact⟨a,b,rfl⟩
   refine dE (kM (cw (by simp[h])) (Hk (n:=5) (ds:=(z0::zr).map .str) (d:=.str z0) (b:=false) (b':=false) rfl ?_ rfl h5 rfl)) (lP ?_)
   ·exact bw (.lst ((z0::zr).map .str)) (.int 0) rfl rfl (by simp[CT])
   ·simp
  ·rw[if_neg h];exact aC (cw (by simp[h])) (lP rfl)
 ·have T8:a<bs.length:=by omega
  have XQ:∀z∈bs,∃c,z.cps.toList=[c]:=λz hz=>by obtain⟨k,_,rfl⟩:=vO hz;exact⟨_,rfl⟩
  intro x y hx hy;have h0:zs[0]? = some (zZ bs a c 0):=by rw[Ph];rfl
  have h5:zs[5]? = some (zZ bs a c 5):=by rw[Ph];rfl
  have h6:zs[6]? = some (zZ bs a c 6):=by rw[Ph];rfl
  split at hx
  ·rename_i hc8;rw[if_pos hc8,vB (by decide),h6]at hy;rw[List.getElem?_set_self (by omega),vF,h0]at hx;cases hx;cases hy
   exact Mj T8 XQ (by decide)
  ·rename_i hc8;rw[if_neg hc8,h6]at hy;rw[h5]at hx;cases hx;cases hy
   exact Mj T8 XQ (by decide)
def fQ (x:Int×Option Int):D:=.tup [.int x.1,uD x.2]
theorem je (x:Int×Option Int):bq (fQ x)=true:=by simp[fQ,CW]
theorem wc (x:Int×Option Int):aq 5 (fQ x)=true:=by obtain⟨s,u⟩:=x;cases u<;>simp[fQ,uD]
theorem BB (a d m:Int):∃x,gU [.int a,.int d,.int m]=some (fQ x,false):=by
 have h8:=mod_lt (x:=a) (m:=8) (by decide);let L1:List (Int×Option Int):=[(0,none),(d,none),(d,some (d+3*m)),(0,some (d+2*m)),(0,some (9*m))];let L2:List (Int×Option Int):=[(d+m,some (d+4*m)),(d / 2,some (d+6*m)),(0,none)];have yf:∀L:List (Int×Option Int),bB (L.map fQ)=true:=λL=>bT λd hd=>by obtain⟨x,_,rfl⟩:=vO hd;exact je x
 have hi:(a % 8).toNat<((L1++L2).map fQ).length:=by show _<8;omega
 refine⟨(L1++L2).getD (a % 8).toNat (0,none),av rfl (cj (ds:=L1.map fQ) (by simp[L1,fQ,uD,sizeLine]) (yf _) (cj (ds:=(L1++L2).map fQ) ?_ (yf _) (az (bw (.lst ((L1++L2).map fQ)) (.int (a % 8)) rfl (by simp) ((B3 h8.1 hi).trans ?_)))))⟩
 ·refine fZ (x:=.lst (L1.map fQ)) (y:=.lst (L2.map fQ)) (b1:=false) (b2:=true) rfl (by simp[L2,fQ,uD,sizeLine]) ?_;simp[L1,L2,sizeLine]
 ·rw[vF,vA,vF];rw[vI]at hi;rw[vU hi];rfl
theorem lC {zs:List Str}{i:Int}(h1 : -(zs.length:Int)<=i)(h2:i<zs.length):∃z∈zs,bA (.lst (zs.map .str)) (.int i)=sF (.str z):=by
 obtain⟨j,hj,hl⟩:∃j,DP (zs.map D.str).length i=some j/\j<zs.length:=by
  unfold DP;rw[vI];by_cases h0:0<=i
  ·rw[if_pos h0,if_pos h2];exact⟨_,rfl,by omega⟩
  ·rw[if_neg h0,if_pos (by omega)];exact⟨_,rfl,by omega⟩
 refine⟨zs[j],List.getElem_mem hl,?_⟩;have:p6 (zs.map D.str) i=some (.str zs[j]):=by unfold p6;rw[hj,vJ,vA,vU hl];rfl
 simp[this]
noncomputable def MR:List Nat:=[7,255,3,15]
noncomputable def MS:List Nat:=[1,2,3,4,5,7,128,255]
inductive Dd:Str->List D->Prop
 |root (o r:Str) (m:Nat) (hm:m∈MR) (f:Int):Dd ("root" : Str) [.str o,.int m,.int f,.str r]
 |named (d:Int) (o p:Str):Dd ("named" : Str) [.int d,.str o,.str p]
 |chosen (d:Int) (b o p:Str) (s:Int):Dd ("chosen" : Str) [.int d,.str b,.str o,.str p,.int s]
 |heir (d:Int) (b o p:Str):Dd ("heir" : Str) [.int d,.str b,.str o,.str p]
 |three (k:Str) (hk:k = "death" ∨ k = "lost" ∨ k = "found") (d:Int) (p:Str):Dd k [.int d,.str p]
 |leave (d:Int) (b p:Str) (m:Nat) (hm:m∈MS) (x:Int×Option Int) (f:Int):Dd ("leave" : Str) [.int d,.str b,.str p,.int m,fQ x,.int f]
 |paper (k:Str) (hk:k = "paper" ∨ k = "like") (d:Int) (b:Str) (m:Nat) (hm:m∈MS) (x:Int×Option Int) (r:List D) (hf:bB r=true) (hp:r.all (aq 5)=true):Dd k (.int d::.str b::.int m::fQ x::r)
 |copy (k:Str) (hk:k = "copy" ∨ k = "call") (d:Int) (b:Str) (n:Nat):Dd k [.int d,.str b,.int n]
theorem Dd.cd (h:Dd k r):Cd k r:=by
 cases h with
 |root o r m hm f=>exact .root _ _ _ _
 |named d o p=>exact .named _ _ _
 |chosen d b o p s=>exact .chosen _ _ _ _ _
 |heir d b o p=>exact .heir _ _ _ _
 |three k hk d p=>exact .three _ hk _ _
 |leave d b p m hm x f=>exact .other _ (.inl rfl) _ _ _ (by simp[je]) (by simp only[List.all_cons,List.all_nil,wc,aq,Bool.and_true])
 |paper k hk d b m hm x r hf hp=>exact .other _ (hk.elim (λh=>.inr (.inl h)) λh=>.inr (.inr (.inl h))) _ _ _ (by simp[hf,je]) (by simp only[List.all_cons,hp,wc,aq,Bool.and_true])
 |copy k hk d b n=>exact .other _ (hk.elim (λh=>.inr (.inr (.inr (.inl h)))) λh=>.inr (.inr (.inr (.inr h)))) _ _ _ rfl (by simp)
theorem Dd.had3 (h:Dd k r)(hk:k = "leave" ∨ k = "named"):∃p,r[2]? = some (.str p):=by
 have hk:k∈[("leave" : Str),"named"]:=by simpa using hk
 cases h with
 |named d o p=>exact⟨p,rfl⟩
 |leave d b p=>exact⟨p,rfl⟩
 |root=>exact cS hk
 |chosen=>exact cS hk
 |heir=>exact cS hk
 |three k gg=>rcases gg with rfl|rfl|rfl<;>exact cS hk
 |paper k gg=>rcases gg with rfl|rfl<;>exact cS hk
 |copy k gg=>rcases gg with rfl|rfl<;>exact cS hk
theorem Dd.had4 (h:Dd k r)(hk:k = "chosen"):∃p,r[3]? = some (.str p):=by
 cases h with
 |chosen d b o p=>exact⟨p,rfl⟩
 |root=>exact cS hk
 |named=>exact cS hk
 |leave=>exact cS hk
 |heir=>exact cS hk
 |three k gg=>rcases gg with rfl|rfl|rfl<;>exact cS hk
 |paper k gg=>rcases gg with rfl|rfl<;>exact cS hk
 |copy k gg=>rcases gg with rfl|rfl<;>exact cS hk
theorem Dd.flat (h:Dd k r):bB r=true:=h.cd.deed.flat
noncomputable def gd:List Str:=[("leave" : Str),"leave","leave","leave","leave","paper","paper","like","copy","copy","call","call","named","death","lost","found","chosen","heir"]
theorem E9 (h:w∈gd):w = "leave" ∨ w = "paper" ∨ w = "like" ∨ w = "copy" ∨ w = "call" ∨ w = "named" ∨ w = "death" ∨ w = "lost" ∨ w = "found" ∨ w = "chosen" ∨ w = "heir":=by
 simp only[gd,List.mem_cons,List.not_mem_nil,or_false]at h;rcases h with rfl|rfl|rfl|rfl|rfl|rfl|rfl|rfl|rfl|rfl|rfl|rfl|rfl|rfl|rfl|rfl|rfl|rfl<;>simp
theorem Hq (many c o day m:Int)(zs jk:List Str)(hz:zs.length=7)(hh:jk≠[]):
  ∃(w pZ p:Str)(M7:Nat),w∈gd/\∀(h:FS)(r:Option Res),h [sF (.int many),sF (.int c),sF (.int o),sF (.lst (zs.map .str)),sF (.int day),sF (.lst (jk.map .str)),sF (.int m),lT (gd.map .str),sF (.str w),sF (.str pZ),sF (.str p),sF (.int M7),none,none,none]=r ->
   (a9 (aQ 7 (f2 bS (f2 bS (Ev (fA br (ae (fS "leave") ai)) (fI 5)) (Ev (fA br (ae (fS "paper") ai)) (fI 2))) (fA br (ae (fS "like") (ae (fS "copy") (ae (fS "copy") (ae (fS "call") (ae (fS "call") ai)))))))) (a9 (aQ 7 (f2 bS (aj 7) (fA br (ae (fS "named") (ae (fS "death") (ae (fS "lost") (ae (fS "found") (ae (fS "chosen") (ae (fS "heir") ai))))))))) (a9 (aQ 8 (f2 bA (aj 7) (f2 bR (aj 1) (fI 18)))) (a9 (aQ 9 (f2 bA (aj 5) (f2 AV (f1 yJ (fI 1)) (f2 bR (f2 da (aj 1) (fI 18)) (fA J8 (ae (fI 3) (ae (fA fU (fV 5 ai)) ai))))))) (a9 (cW (aU (f2 cC (f2 bR (f2 da (aj 1) (fI 54)) (fI 6)) (fI 1))) (aQ 9 (f2 bA (aj 3) (f2 bR (f2 da (aj 1) (fI 324)) (fI 5)))) aV) (a9 (aQ 10 (f2 bA (aj 3) (f2 bR (f2 da (aj 1) (fI 1620)) (fI 5)))) (a9 (aQ 11 (fA J7 (ae (fI 0) (ae (f2 AV (f2 AV (aj 0) (fI 1)) (f2 bR (aj 2) (fI 4))) ai)))) (a9 (cW (aU (f2 cC (f2 bR (f2 da (aj 2) (fI 4)) (fI 8)) (fI 1))) (aQ 11 (f2 bR (f2 da (aj 2) (fI 32)) (fI 60))) aV) h)))))))) [sF (.int many),sF (.int c),sF (.int o),sF (.lst (zs.map .str)),sF (.int day),sF (.lst (jk.map .str)),sF (.int m),none,none,none,none,none,none,none,none]=r:=by
 have h18:=mod_lt (x:=c) (m:=18) (by decide);obtain⟨w,hw,ew⟩:=lC (zs:=gd) (i:=c % 18) (by simp[gd];omega) (by simp[gd];omega);obtain⟨n,hn,TC,hn3⟩:∃n:Int,(if(jk.length:Int)<3 then (jk.length:Int)else 3)=n/\0<n/\n<=jk.length:=by
  have:0<jk.length:=List.length_pos_iff.mpr hh;split
  ·exact⟨_,rfl,by omega,by omega⟩
  ·exact⟨_,rfl,by omega,by omega⟩
 have hmn:=mod_lt (x:=c / 18) (m:=n) TC;obtain⟨b0,_,eb0⟩:=lC (zs:=jk) (i:=-1 - c / 18 % n) (by omega) (by omega);have h5:=mod_lt (x:=c / 324) (m:=5) (by decide);obtain⟨b1,_,eb1⟩:=lC (zs:=zs) (i:=c / 324 % 5) (by omega) (by omega);have h5':=mod_lt (x:=c / 1620) (m:=5) (by decide);obtain⟨p,_,ep⟩:=lC (zs:=zs) (i:=c / 1620 % 5) (by omega) (by omega);have h60:=mod_lt (x:=o / 32) (m:=60) (by decide);obtain⟨f0,hf0⟩:∃f0:Nat,(if many - 1 - o % 4 > 0 then many - 1 - o % 4 else 0)=(f0:Int):=by
  split
  ·exact⟨(many - 1 - o % 4).toNat,by omega⟩
  ·exact⟨0,rfl⟩
 obtain⟨f1,hf1⟩:∃f1:Nat,o / 32 % 60=(f1:Int):=⟨(o / 32 % 60).toNat,by omega⟩;refine⟨w,if c / 54 % 6=1 then b1 else b0,p,if o / 4 % 8=1 then f1 else f0,hw,λh r hr=>?_⟩;refine cj (ds:=(gd.take 12).map .str) ?_ (cU _) (cj (ds:=gd.map .str) ?_ (cU _) (fB (.str w) (bw (.lst (gd.map .str)) (.int (c % 18)) rfl (by simp) ew) rfl (fB (.str b0) ?_ rfl (dE (ρ':=[sF (.int many),sF (.int c),sF (.int o),sF (.lst (zs.map .str)),sF (.int day),sF (.lst (jk.map .str)),sF (.int m),lT (gd.map .str),sF (.str w),sF (.str (if c / 54 % 6=1 then b1 else b0)),none,none,none,none,none]) ?_ (fB (.str p) ?_ rfl (fB (.int f0) ?_ rfl (dE ?_ hr)))))))
 ·have e1:∀(s:Str)(k:Nat),k<=100->Ev (fA br (ae (fS s) ai)) (fC (.int k)) [sF (.int many),sF (.int c),sF (.int o),sF (.lst (zs.map .str)),sF (.int day),sF (.lst (jk.map .str)),sF (.int m),none,none,none,none,none,none,none,none]=lT (List.replicate k (.str s)):=λs k hk=>by
   have h1:(k:Int)<=1000:=by omega
   have h2:k<=1000:=by omega
   have h3:∀n:Nat,(List.replicate n [D.str s]).flatten=List.replicate n (.str s):=λn=>by
    induction n with
    |zero=>rfl
    |succ n ih=>rw[List.replicate_succ,List.flatten_cons,ih,List.replicate_succ];rfl
   simp[sizeLine,h1,h2,h3]
  have z:∀n:Nat,n<=100->n<=sizeLine:=λn h=>dJ (by omega);refine fZ (x:=.lst ((gd.take 7).map .str)) (y:=.lst (((gd.drop 7).take 5).map .str)) (b1:=true) (b2:=true) (fZ (x:=.lst ((gd.take 5).map .str)) (y:=.lst (List.replicate 2 (.str "paper"))) (b1:=true) (b2:=true) (e1 _ 5 (by decide)) (e1 _ 2 (by decide)) ?_) (aI (((gd.drop 7).take 5).map .str) rfl (dw _ (by simp[gd]))) ?_
  ·refine(if_pos (c:=7<=sizeLine) (e:=none) (z 7 (by decide))).trans ?_;rfl
  ·refine(if_pos (c:=12<=sizeLine) (e:=none) (z 12 (by decide))).trans ?_;rfl
 ·refine fZ (x:=.lst ((gd.take 12).map .str)) (y:=.lst ((gd.drop 12).map .str)) (b1:=false) (b2:=true) rfl (aI ((gd.drop 12).map .str) rfl (dw _ (by decide))) ?_;refine(if_pos (c:=18<=sizeLine) (e:=none) (dJ (by decide))).trans ?_;rfl
 ·refine bw (.lst (jk.map .str)) (.int (-1 - c / 18 % n)) rfl ?_ eb0;refine bw (.int (-1)) (.int (c / 18 % n)) rfl ?_ rfl;refine bw (.int (c / 18)) (.int n) (by simp) (by simp[hn]) ?_;show(if decide ((0:Int)<n)=true then _ else _)=_;rw[if_pos (decide_eq_true TC)]
 ·by_cases hx:c / 54 % 6=1
  ·rw[if_pos hx];exact kM (cw (by simp[hx])) (rK (d:=.str b1) (b:=false) (bw (.lst (zs.map .str)) (.int (c / 324 % 5)) rfl (by simp) eb1) rfl)
  ·rw[if_neg hx];exact md (cw (by simp[hx])) rfl
 ·exact bw (.lst (zs.map .str)) (.int (c / 1620 % 5)) rfl (by simp) ep
 ·show some (D.int (if many - 1 - o % 4 > 0 then many - 1 - o % 4 else 0),false)=_;rw[hf0]
 ·by_cases hx:o / 4 % 8=1
  ·simp only[if_pos hx];exact kM (cw (by simp[hx])) (rK (d:=.int f1) (b:=false) (by simp[hf1]) rfl)
  ·simp only[if_neg hx];exact md (cw (by simp[hx])) rfl
theorem o5 {ns:List Int}{i:Int}(h1:0<=i)(h2:i<ns.length):∃m∈ns,bA (.lst (ns.map .int)) (.int i)=sF (.int m):=by
 have h:i.toNat<ns.length:=by omega
 refine⟨ns.getD i.toNat 0,?_,CF h1 h⟩;rw[vF,vU h];exact List.getElem_mem h
theorem pv (h : -1000<=a/\a<=1000):NG (.int a) (.int b)=sF (.int (a*b)):=by
 have : -18446744073709551616<a/\a<18446744073709551616:=by omega
 simp[this]
theorem dz (e:Y[i]? = some (sF (.str a)))(h:decide (a=b)=false:=by decide +kernel):aU (f2 cC (aj i) (fS b)) Y=some false:=bY (a:=a) (bb:=false) (by simp[e]) h
theorem BC (e:Y[i]? = some (sF (.str a)))(h:decide (a=b)=true:=by decide +kernel):aU (f2 cC (aj i) (fS b)) Y=some true:=bY (a:=a) (bb:=false) (by simp[e]) h
theorem Aa (x:Bool)(e:Y[i]? = some (sF (.str a)))(h:decide (a∈[b,c])=x:=by decide +kernel):aU (f2 ya (aj i) (fA aK (ae (fS b) (ae (fS c) ai)))) Y=some x:=cw (bw (.str a) (.tup ([b,c].map .str)) (by simp[e]) (by simp[sizeLine]) (by rw[iX,h]))
theorem Mk {l:List Int}{x:Int}(h:x∈l)(hl:l.all (λy=>decide (0<=y/\y.toNat∈MS))=true):∃m:Nat,x=m/\m∈MS:=by
 have:=of_decide_eq_true (uR hl x h);exact⟨x.toNat,by omega,this.2⟩
theorem K4 (many c o day m:Int)(zs jk:List Str)(hz:zs.length=7)(hh:jk≠[]):
  ∃k r,sk [.int many,.int c,.int o,.lst (zs.map .str),.int day,.lst (jk.map .str),.int m]=sF (.tup (.str k::r))/\Dd k r/\k ≠ "root":=by
 obtain⟨w,pZ,p,M7,hw,pre⟩:=Hq many c o day m zs jk hz hh;obtain⟨s,es⟩:=BB (o / 32) day m;have h8:=mod_lt (x:=c / 8100) (m:=8) (by decide);obtain⟨m1i,VO,em1⟩:=o5 (ns:=[3,1,7,2,255,5,1,3]) (i:=c / 8100 % 8) h8.1 h8.2;obtain⟨m2i,VP,XR⟩:=o5 (ns:=[1,1,3,2,4,5,128,7]) (i:=c / 8100 % 8) h8.1 h8.2;obtain⟨m1,rfl,PZ⟩:=Mk VO (by decide);obtain⟨m2,rfl,TD⟩:=Mk VP (by decide);have h4:=mod_lt (x:=o / 2560) (m:=4) (by decide);obtain⟨dv,VQ,ed⟩:=o5 (ns:=[5,5,5,10]) (i:=o / 2560 % 4) h4.1 h4.2;have VR:0<dv:=by simp only[List.mem_cons,List.not_mem_nil,or_false]at VQ;omega
 have h2:=mod_lt (x:=o / 256) (m:=2) (by decide);obtain⟨wv,ewv,TF,XS⟩:∃wv,bA (.lst [.non,.str p]) (.int (o / 256 % 2))=some (wv,false)/\bq wv=true/\aq 5 wv=true:=by
  rcases (show o / 256 % 2=0∨o / 256 % 2=1 by omega)with h|h
  ·rw[h];exact⟨.non,by simp[CT],rfl,by simp⟩
  ·rw[h];exact⟨.str p,by simp[xE],rfl,by simp⟩
 have HY:=mod_lt (x:=o) (m:=2) (by decide);have PK:=mod_lt (x:=o) (m:=2) (by decide);obtain⟨off,_,eo⟩:=lC (zs:=zs) (i:=5+o % 2) (by omega) (by omega);obtain⟨S5,_,eo4⟩:=lC (zs:=zs) (i:=5+o % 2) (by omega) (by omega);have h3o:=mod_lt (x:=o / 32) (m:=3) (by decide);have VS:∀(Y:DL.Env),Y[2]? = some (sF (.int o))->Y[4]? = some (sF (.int day))->Y[6]? = some (sF (.int m))->fA gU (ae (f2 da (aj 2) (fI 32)) (fV 4 (fV 6 ai))) Y=some (fQ s,false):=λY q1 q2 q3=>
  aI [.int (o / 32),.int day,.int m] (by simp[q1,q2,q3]) es
 have S6:∀(Y:DL.Env),Y[2]? = some (sF (.int o))->Y[3]? = some (sF (.lst (zs.map .str)))->f2 bA (aj 3) (f2 bS (fI 5) (f2 bR (aj 2) (fI 2))) Y=sF (.str off):=λY q1 q2=>bw (.lst (zs.map .str)) (.int (5+o % 2)) (by simp[q2]) (by simp[q1]) eo;have VT:∀(ns:List Int)(M:Nat)(Y:DL.Env)(fl:FE),fl Y=lT (ns.map .int)->Y[1]? = some (sF (.int c))->bA (.lst (ns.map .int)) (.int (c / 8100 % 8))=sF (.int M)->f2 bA fl (f2 bR (f2 da (aj 1) (fI 8100)) (fI 8)) Y=sF (.int M):=λns M Y fl e1 q e=>fZ (x:=.lst (ns.map .int)) (y:=.int (c / 8100 % 8)) (b1:=true) (b2:=false) e1 (by simp[q]) e;have XT:∀(Y:DL.Env),Y[2]? = some (sF (.int o))->Y[10]? = some (sF (.str p))->f2 bA (fA br (ae (fC .non) (fV 10 ai))) (f2 bR (f2 da (aj 2) (fI 256)) (fI 2)) Y=some (wv,false):=λY q1 q2=>fZ (x:=.lst [.non,.str p]) (y:=.int (o / 256 % 2)) (b1:=true) (b2:=false) (by simp[sizeLine,q2]) (by simp[q1]) ewv;rcases E9 hw with rfl|rfl|rfl|rfl|rfl|rfl|rfl|rfl|rfl|rfl|rfl
 ·refine⟨_,[.int day,.str pZ,.str p,.int m1,fQ s,.int (o / 256 % dv)],av rfl (pre _ _ ?_),.leave _ _ _ _ PZ _ _,by decide +kernel⟩;refine bj (BC rfl) (fB (.int m1) (VT [3,1,7,2,255,5,1,3] _ _ _ (by simp[sizeLine]) rfl em1) rfl (fB (.int (o / 256 % dv)) ?_ rfl (az (aI [.str "leave",.int day,.str pZ,.str p,.int m1,fQ s,.int (o / 256 % dv)] (bK rfl (bK rfl (bK rfl (bK rfl (bK rfl (aD (VS _ rfl rfl rfl) (bK rfl rfl))))))) (bL _ (by simp))))));refine bw (.int (o / 256)) (.int dv) (by simp) (fZ (x:=.lst (([5,5,5,10]:List Int).map .int)) (y:=.int (o / 2560 % 4)) (b1:=true) (b2:=false) (by simp[sizeLine]) (by simp) ed) ?_;show(if decide ((0:Int)<dv)=true then _ else _)=_;rw[if_pos (decide_eq_true VR)]
 ·refine⟨_,[.int day,.str pZ,.int m2,fQ s,wv,.tup [.str p]],av rfl (pre _ _ ?_),.paper _ (.inl rfl) _ _ _ TD _ _ (by simp[TF]) (by simp[XS]),by decide +kernel⟩;exact aC (dz rfl) (bj (cY (p:=true) (q:=false) (BC rfl) λ_=>dz rfl) (fB (.int m2) (VT [1,1,3,2,4,5,128,7] _ _ _ (by simp[sizeLine]) rfl XR) rfl (fB (.tup [.str "paper",.int day,.str pZ,.int m2,fQ s,wv]) (aI [.str "paper",.int day,.str pZ,.int m2,fQ s,wv] (bK rfl (bK rfl (bK rfl (bK rfl (aD (VS _ rfl rfl rfl) (aD (XT _ rfl rfl) rfl)))))) (bL _ (by simp))) (by simp[je,TF]) (aC (dz rfl) (az (bw (.tup [.str "paper",.int day,.str pZ,.int m2,fQ s,wv]) (.tup [.tup [.str p]]) rfl (by simp[sizeLine]) (by simp[sizeLine])))))))
 ·refine⟨_,[.int day,.str pZ,.int m2,fQ s,wv,.int M7,.tup [.tup [.int 0,.str p]]],av rfl (pre _ _ ?_),.paper _ (.inr rfl) _ _ _ TD _ _ (by simp[TF]) (by simp[XS]),by decide +kernel⟩;exact aC (dz rfl) (bj (cY (p:=false) (q:=true) (dz rfl) λ_=>BC rfl) (fB (.int m2) (VT [1,1,3,2,4,5,128,7] _ _ _ (by simp[sizeLine]) rfl XR) rfl (fB (.tup [.str "like",.int day,.str pZ,.int m2,fQ s,wv]) (aI [.str "like",.int day,.str pZ,.int m2,fQ s,wv] (bK rfl (bK rfl (bK rfl (bK rfl (aD (VS _ rfl rfl rfl) (aD (XT _ rfl rfl) rfl)))))) (bL _ (by simp))) (by simp[je,TF]) (bj (BC rfl) (az (bw (.tup [.str "like",.int day,.str pZ,.int m2,fQ s,wv]) (.tup [.int M7,.tup [.tup [.int 0,.str p]]]) rfl (by simp[sizeLine]) (by simp[sizeLine])))))))
 ·exact⟨_,[.int day,.str pZ,.int M7],av rfl (pre _ _ (aC (dz rfl) (aC (cY (p:=false) (q:=false) (dz rfl) λ_=>dz rfl) (bj (Aa true rfl) (az (aI [.str "copy",.int day,.str pZ,.int M7] rfl (bL _ (by simp)))))))),.copy _ (.inl rfl) _ _ _,by decide +kernel⟩
 ·exact⟨_,[.int day,.str pZ,.int M7],av rfl (pre _ _ (aC (dz rfl) (aC (cY (p:=false) (q:=false) (dz rfl) λ_=>dz rfl) (bj (Aa true rfl) (az (aI [.str "call",.int day,.str pZ,.int M7] rfl (bL _ (by simp)))))))),.copy _ (.inr rfl) _ _ _,by decide +kernel⟩
 ·exact⟨_,[.int day,.str off,.str p],av rfl (pre _ _ (aC (dz rfl) (aC (cY (p:=false) (q:=false) (dz rfl) λ_=>dz rfl) (aC (Aa false rfl) (bj (BC rfl) (az (aI [.str "named",.int day,.str off,.str p] (bK rfl (bK rfl (aD (S6 _ rfl rfl) (bK rfl rfl)))) (bL _ (by simp))))))))),.named _ _ _,by decide +kernel⟩
 ·exact⟨_,[.int day,.str pZ],av rfl (pre _ _ (aC (dz rfl) (aC (cY (p:=false) (q:=false) (dz rfl) λ_=>dz rfl) (aC (Aa false rfl) (aC (dz rfl) (aC (dz rfl) (aC (dz rfl) (az (aI [.str "death",.int day,.str pZ] rfl (bL _ (by simp))))))))))),.three _ (.inl rfl) _ _,by decide +kernel⟩
 ·exact⟨_,[.int day,.str pZ],av rfl (pre _ _ (aC (dz rfl) (aC (cY (p:=false) (q:=false) (dz rfl) λ_=>dz rfl) (aC (Aa false rfl) (aC (dz rfl) (aC (dz rfl) (aC (dz rfl) (az (aI [.str "lost",.int day,.str pZ] rfl (bL _ (by simp))))))))))),.three _ (.inr (.inl rfl)) _ _,by decide +kernel⟩
 ·exact⟨_,[.int day,.str pZ],av rfl (pre _ _ (aC (dz rfl) (aC (cY (p:=false) (q:=false) (dz rfl) λ_=>dz rfl) (aC (Aa false rfl) (aC (dz rfl) (aC (dz rfl) (aC (dz rfl) (az (aI [.str "found",.int day,.str pZ] rfl (bL _ (by simp))))))))))),.three _ (.inr (.inr rfl)) _ _,by decide +kernel⟩
 ·refine⟨_,[.int day,.str pZ,.str S5,.str p,.int (day+o / 32 % 3*m)],av rfl (pre _ _ (aC (dz rfl) (aC (cY (p:=false) (q:=false) (dz rfl) λ_=>dz rfl) (aC (Aa false rfl) (aC (dz rfl) (bj (BC rfl) (az (aI [.str "chosen",.int day,.str pZ,.str S5,.str p,.int (day+o / 32 % 3*m)] ?_ (bL _ (by simp)))))))))),.chosen _ _ _ _ _,by decide +kernel⟩;exact bK rfl (bK rfl (bK rfl (aD (bw (.lst (zs.map .str)) (.int (5+o % 2)) rfl (by simp) eo4) (bK rfl (bK (bw (.int day) (.int (o / 32 % 3*m)) rfl (bw (.int (o / 32 % 3)) (.int m) (by simp) rfl (pv (by omega))) rfl) rfl)))))
 ·exact⟨_,[.int day,.str pZ,.str off,.str p],av rfl (pre _ _ (aC (dz rfl) (aC (cY (p:=false) (q:=false) (dz rfl) λ_=>dz rfl) (aC (Aa false rfl) (aC (dz rfl) (aC (dz rfl) (bj (BC rfl) (az (aI [.str "heir",.int day,.str pZ,.str off,.str p] (bK rfl (bK rfl (bK rfl (aD (S6 _ rfl rfl) (bK rfl rfl))))) (bL _ (by simp))))))))))),.heir _ _ _ _,by decide +kernel⟩
def cy (r:D):Prop:=∃h k aB,r=row h k aB/\Dd k aB
theorem cy.c (g:cy r):xH r:=by obtain⟨h,k,aB,e,d⟩:=g;exact⟨h,k,aB,e,d.cd⟩
theorem cy.flat (g:cy r):bq r=true:=g.c.rp.flat
theorem K5 (p:Prop)[Decidable p]:mI [.bl (decide p)]=sF (.int (if p then 1 else 0)):=by show some (D.int (if decide p=true then 1 else 0),false)=_;simp only[decide_eq_true_eq]
theorem RB (c1 m most:Int)(xs zs jk:List Str)(ns:List Int)(Z:List D)(hz:zs.length=7)(i:Nat)(hi:i<2)(hr:Z.length<=100)(hh:jk.length<=100)(v8 v9 qE w4:OB):
  ∃r1 r2 p w8 w9 VU Qi,(cy r1/\bo r1=true/\zs[5+i]? = some (ay 0 r1))/\(cy r2/\bo r2=false)/\oW [sF (.lst (ns.map .int)),sF (.lst (zs.map .str)),sF (.int m),sF (.int most),sF (.int c1),lT Z,lT (jk.map .str),sF (.int i),v8,v9,qE,w4,none,none,none]
   = some (.nx [sF (.lst (ns.map .int)),sF (.lst (zs.map .str)),sF (.int m),sF (.int most),sF (.int c1),lT (Z++[r1]++[r2]),lT ((jk++[p]).map .str),sF (.int i),w8,w9,VU,Qi,none,none,none]):=by
 have h3:=mod_lt (x:=c1 / (64+9*i)) (m:=3) (by decide);obtain⟨rl,_,erl⟩:=lC (zs:=[("open" : Str),"first","last"]) (i:=c1 / (64+9*i) % 3) (by simp;omega) (by simp;omega);have h4:=mod_lt (x:=c1 / (2+8*i)) (m:=4) (by decide);obtain⟨mti,S7,VV⟩:=o5 (ns:=[7,255,3,15]) (i:=c1 / (2+8*i) % 4) h4.1 h4.2;obtain⟨mt,VW,hmt⟩:∃mt:Nat,mti=mt/\mt∈MR:=by
  simp only[List.mem_cons,List.not_mem_nil,or_false]at S7;rcases S7 with rfl|rfl|rfl|rfl<;>first|exact⟨7,rfl,by decide⟩|exact⟨255,rfl,by decide⟩|exact⟨3,rfl,by decide⟩|exact⟨15,rfl,by decide⟩
 have XU:=VV;rw[VW]at XU;have T3:=mod_lt (x:=c1 / (31+i)) (m:=3) (by decide);obtain⟨dv,VQ,ed⟩:=o5 (ns:=[5,5,10]) (i:=c1 / (31+i) % 3) T3.1 T3.2;have VR:0<dv:=by simp only[List.mem_cons,List.not_mem_nil,or_false]at VQ;omega
 obtain⟨of,Qj,XV⟩:∃of,zs[5+i]? = some of/\bA (.lst (zs.map .str)) (.int (5+i))=sF (.str of):=by
  have hl:5+i<zs.length:=by omega
  refine⟨zs[5+i],vU hl,?_⟩;have EW:((5:Int)+i).toNat<(zs.map D.str).length:=by rw[vI];omega
  rw[DL.B3 (by omega) EW,show((5:Int)+i).toNat=5+i by omega,vF,vA,vU hl];rfl
 obtain⟨pn,_,XW⟩:=lC (zs:=zs) (i:=i) (by omega) (by omega);have b64:(0:Int)<64+9*i/\(64:Int)+9*i<1073741824:=by omega
 have b2:(0:Int)<2+8*i/\(2:Int)+8*i<1073741824:=by omega
 have VX:(0:Int)<512+i/\(512:Int)+i<1073741824:=by omega
 have S8:(0:Int)<1024+5*i/\(1024:Int)+5*i<1073741824:=by omega
 have b31:(0:Int)<31+i/\(31:Int)+i<1073741824:=by omega
 let t:Int:=if c1 / (512+i) % 8=1 then 1 else 0;have ht:0<=t/\t<=1:=by show 0<=(if _ then (1:Int)else 0)/\(if _ then (1:Int)else 0)<=1;split<;>omega
 refine⟨row (t*4*m) ("root" : Str) [.str of,.int mt,.int (c1 / (1024+5*i) % dv),.str rl],row 0 ("named" : Str) [.int 0,.str of,.str pn],pn,sF (.str rl),sF (.int mt),sF (.int (t*4*m)),sF (.int (c1 / (1024+5*i) % dv)),⟨⟨_,_,_,rfl,.root _ _ _ hmt _⟩,decide_eq_true rfl,Qj⟩,⟨⟨_,_,_,rfl,.named _ _ _⟩,show decide (("named" : Str) = "root")=false by decide +kernel⟩,?_⟩;refine fB (.str rl) ?_ rfl (fB (.int mt) ?_ rfl (fB (.int (t*4*m)) ?_ rfl (fB (.int (c1 / (1024+5*i) % dv)) ?_ rfl (Md (ds:=Z) (d:=row (t*4*m) ("root" : Str) [.str of,.int mt,.int (c1 / (1024+5*i) % dv),.str rl]) (b:=false) rfl ?_ rfl (bM (by omega)) (Md (ds:=Z++[row (t*4*m) ("root" : Str) [.str of,.int mt,.int (c1 / (1024+5*i) % dv),.str rl]]) (d:=row 0 ("named" : Str) [.int 0,.str of,.str pn]) (b:=false) rfl ?_ rfl (bM (by simp;omega)) ((iR (ds:=jk.map .str) (d:=.str pn) (b:=false) rfl ?_ rfl (bM (by simp;omega))).trans ?_))))))
 ·exact fZ (x:=.lst (([("open" : Str),"first","last"]:List Str).map .str)) (y:=.int (c1 / (64+9*i) % 3)) (b1:=true) (b2:=false) (by simp[sizeLine]) (by simp[b64]) erl
 ·exact fZ (x:=.lst (([7,255,3,15]:List Int).map .int)) (y:=.int (c1 / (2+8*i) % 4)) (b1:=true) (b2:=false) (by simp[sizeLine]) (by simp[b2]) XU
 ·refine bw (.int (t*4)) (.int m) (bw (.int t) (.int 4) ?_ rfl (by simp)) rfl (pv (by omega));refine aI [.bl (decide (c1 / (512+i) % 8=1))] (bK (bw (.int (c1 / (512+i) % 8)) (.int 1) (by simp[VX]) rfl (by simp)) rfl) ?_;simp[t]
 ·refine bw (.int (c1 / (1024+5*i))) (.int dv) (by simp[S8]) (fZ (x:=.lst (([5,5,10]:List Int).map .int)) (y:=.int (c1 / (31+i) % 3)) (b1:=true) (b2:=false) (by simp[sizeLine]) (by simp[b31]) ed) ?_;show(if decide ((0:Int)<dv)=true then _ else _)=_;rw[if_pos (decide_eq_true VR)]
 ·refine aI [.int (t*4*m),.tup [.str "root",.str of,.int mt,.int (c1 / (1024+5*i) % dv),.str rl]] (bK rfl (bK (aI [.str "root",.str of,.int mt,.int (c1 / (1024+5*i) % dv),.str rl] (bK rfl (aD (bw (.lst (zs.map .str)) (.int (5+i)) rfl (by simp) XV) (bK rfl (bK rfl (bK rfl rfl))))) (bL _ (by simp))) rfl)) (bL _ (by simp))
 ·refine aI [.int 0,.tup [.str "named",.int 0,.str of,.str pn]] (bK rfl (bK (aI [.str "named",.int 0,.str of,.str pn] (bK rfl (bK rfl (aD (bw (.lst (zs.map .str)) (.int (5+i)) rfl (by simp) XV) (aD (bw (.lst (zs.map .str)) (.int i) rfl rfl XW) rfl)))) (bL _ (by simp))) rfl)) (bL _ (by simp))
 ·exact bw (.lst (zs.map .str)) (.int i) rfl rfl XW
 ·simp
noncomputable def m8 (Z:List D):List Str:=(Z.filter bo).map (ay 0)
theorem pw (Z:List D)(r:D):m8 (Z++[r])=m8 Z++if bo r=true then [ay 0 r]else []:=by
 unfold m8;rw[List.filter_append,uW,List.filter_cons];split
 ·rename_i h;rfl
 ·rename_i h;rfl
theorem RC (c1 m most:Int)(zs jk:List Str)(ns:List Int)(Z:List D)(hz:zs.length=7)(i:Nat)(hi:i<100)(hr:Z.length<=200)(hh:jk≠[])(hh2:jk.length<=200)(v8 v9 qE w4 S9 SA SD:OB):
  ∃r1 tz TH TJ TK,(cy r1/\bo r1=false)/\tz≠[]/\tz.length<=jk.length+1/\oZ [sF (.lst (ns.map .int)),sF (.lst (zs.map .str)),sF (.int m),sF (.int most),sF (.int c1),lT Z,lT (jk.map .str),sF (.int i),v8,v9,qE,w4,S9,SA,SD]
   = some (.nx [sF (.lst (ns.map .int)),sF (.lst (zs.map .str)),sF (.int m),sF (.int most),sF (.int c1),lT (Z++[r1]),lT (tz.map .str),sF (.int i),v8,v9,qE,w4,TH,TJ,TK]):=by
 obtain⟨ca,eca,ca0⟩:=i7 ns (5+i);obtain⟨cb,ecb,cb0⟩:=i7 ns (30+i);obtain⟨cc,ecc,cc0⟩:=i7 ns (60+i);have h3:=mod_lt (x:=ca / 7) (m:=3) (by decide);obtain⟨day,xY⟩:∃day:Int,((i:Int) / 2+ca / 7 % 3)*m=day:=⟨_,rfl⟩;obtain⟨k,r,ed,hD,VH⟩:=K4 Z.length cb cc day m zs jk hz hh;have hk3:=λh=>hD.had3 h;have hk4:=λh=>hD.had4 h;have h6:=mod_lt (x:=ca / 21) (m:=6) (by decide);obtain⟨tv,htv,etv⟩:=o5 (ns:=[0,0,0,0,1,4]) (i:=ca / 21 % 6) h6.1 h6.2;have Vz : -1000<=tv/\tv<=1000:=by simp only[List.mem_cons,List.not_mem_nil,or_false]at htv;omega
 have RL:bq (.tup (.str k::r))=true:=by simp[hD.flat]
 have e4:∀(Y:DL.Env),Y[14]? = some (sF (.tup (.str k::r)))->bC 14 0 Y=sF (.str k):=λY h=>bw (.tup (.str k::r)) (.int 0) (by simp[h]) rfl (by simp[CT]);have e1:∀(b:Bool),decide (k = "leave" ∨ k = "named")=b->aU (f2 ya (bC 14 0) (fA aK (ae (fS "leave") (ae (fS "named") ai)))) [sF (.lst (ns.map .int)),sF (.lst (zs.map .str)),sF (.int m),sF (.int most),sF (.int c1),lT Z,lT (jk.map .str),sF (.int i),v8,v9,qE,w4,sF (.int ca),sF (.int day),sF (.tup (.str k::r))]=some b:=λb hb=>cw (bw (.str k) (.tup (([("leave" : Str),"named"]:List Str).map .str)) (e4 _ rfl) (by simp[sizeLine]) (by rw[iX,←hb];simp));have at_:∀(j:Nat)(p:Str),r[j]? = some (.str p)->∀Y:DL.Env,Y[14]? = some (sF (.tup (.str k::r)))->f2 bA (aj 14) (fC (.int ((j+1:Nat):Int))) Y=sF (.str p):=λj p hp Y hρ=>by
  have hl:j<r.length:=(vV hp).1;refine bw (.tup (.str k::r)) (.int ((j+1:Nat):Int)) (by simp[hρ]) rfl ?_;rw[DL.wE (by omega) (by simp;omega),show((j+1:Nat):Int).toNat=j+1 by omega,vF];show some ((r[j]?).getD .non,false)=_;rw[hp];rfl
 obtain⟨tz,VY,SE,hgo⟩:∃tz:List Str,tz≠[]/\tz.length<=jk.length+1/\∀(h:FS)(rr:Option Res),h [sF (.lst (ns.map .int)),sF (.lst (zs.map .str)),sF (.int m),sF (.int most),sF (.int c1),lT Z,lT (tz.map .str),sF (.int i),v8,v9,qE,w4,sF (.int ca),sF (.int day),sF (.tup (.str k::r))]=rr->a9 (cW (aU (f2 ya (bC 14 0) (fA aK (ae (fS "leave") (ae (fS "named") ai))))) (jV 6 (bC 14 3)) aV) (a9 (cW (aU (f2 cC (bC 14 0) (fS "chosen"))) (jV 6 (bC 14 4)) aV) h) [sF (.lst (ns.map .int)),sF (.lst (zs.map .str)),sF (.int m),sF (.int most),sF (.int c1),lT Z,lT (jk.map .str),sF (.int i),v8,v9,qE,w4,sF (.int ca),sF (.int day),sF (.tup (.str k::r))]=rr:=by
  by_cases hx:k = "leave" ∨ k = "named"
  ·obtain⟨p,hp⟩:=hk3 hx;have Sn:k ≠ "chosen":=by rcases hx with rfl|rfl<;>decide +kernel
   refine⟨jk++[p],by simp,by simp,λh rr hr=>dE (kM (e1 true (decide_eq_true hx)) (iR (ds:=jk.map .str) (d:=.str p) (b:=false) rfl (at_ 2 p hp _ rfl) rfl (bM (by simp;omega)))) (aC (bY (a:=k) (bb:=false) (e4 _ rfl) (decide_eq_false Sn)) ?_)⟩;rw[uW]at hr;exact hr
  ·by_cases hy:k = "chosen"
   ·obtain⟨p,hp⟩:=hk4 hy;refine⟨jk++[p],by simp,by simp,λh rr hr=>aC (e1 false (decide_eq_false hx)) (dE (kM (bY (a:=k) (bb:=false) (e4 _ rfl) (decide_eq_true hy)) (iR (ds:=jk.map .str) (d:=.str p) (b:=false) rfl (at_ 3 p hp _ rfl) rfl (bM (by simp;omega)))) ?_)⟩;rw[uW]at hr;exact hr
   ·exact⟨jk,hh,by omega,λh rr hr=>aC (e1 false (decide_eq_false hx)) (aC (bY (a:=k) (bb:=false) (e4 _ rfl) (decide_eq_false hy)) hr)⟩
 refine⟨row (day+tv*m) k r,tz,sF (.int ca),sF (.int day),sF (.tup (.str k::r)),⟨⟨_,_,_,rfl,hD⟩,decide_eq_false VH⟩,VY,SE,?_⟩;refine fB (.int ca) (aI [.lst (ns.map .int),.int ((5+i:Nat):Int)] (by simp) eca) rfl (fB (.int day) ?_ rfl (fB (.tup (.str k::r)) ?_ RL (hgo _ _ ((iR (ds:=Z) (d:=row (day+tv*m) k r) (b:=false) rfl ?_ (by simp[row,hD.flat]) (bM (by omega))).trans ?_))))
 ·refine bw (.int ((i:Int) / 2+ca / 7 % 3)) (.int m) (by simp) rfl ?_;rw[←xY];exact pv (by omega)
 ·refine aI [.int Z.length,.int cb,.int cc,.lst (zs.map .str),.int day,.lst (jk.map .str),.int m] (bK (by simp) (aD (aI [.lst (ns.map .int),.int ((30+i:Nat):Int)] (by simp) ecb) (aD (aI [.lst (ns.map .int),.int ((60+i:Nat):Int)] (by simp) ecc) (bK rfl (bK rfl (bK rfl (bK rfl rfl))))))) ed
 ·refine aI [.int (day+tv*m),.tup (.str k::r)] (bK (bw (.int day) (.int (tv*m)) rfl (bw (.int tv) (.int m) (fZ (x:=.lst (([0,0,0,0,1,4]:List Int).map .int)) (y:=.int (ca / 21 % 6)) (b1:=true) (b2:=false) (by simp[sizeLine]) (by simp) etv) rfl (pv Vz)) rfl) (bK rfl rfl)) (bL _ (by simp))
 ·simp
theorem K6 (ns:List Int)(zs:List Str)(hz:zs.length=7)(m:Int):∃Z:List D,sn [.lst (ns.map .int),.lst (zs.map .str),.int m,.int 14]=sF (.tup Z)/\(∀r∈Z,cy r)/\Z.length<=24/\m8 Z=(zs.drop 5).take (m8 Z).length:=by
 obtain⟨c1,e1,h1⟩:=i7 ns 1;obtain⟨c2,e2,h2⟩:=i7 ns 2;have PZ:=mod_lt (x:=c1) (m:=2) (by decide);have TD:=mod_lt (x:=c2) (m:=14) (by decide);obtain⟨n1,TC⟩:∃n1:Nat,1+c1 % 2=n1:=⟨(1+c1 % 2).toNat,by omega⟩;obtain⟨n2,VZ⟩:∃n2:Nat,3+c2 % 14=n2:=⟨(3+c2 % 14).toNat,by omega⟩;obtain⟨ρ1,f1,M8,SF,u7,u8,u9,Wa,Wb,rfl,g1,l1,k1,o1⟩:=lq (tg:=dC 7) (g:=oW) n1 (λi Y=>∃(Z:List D)(jk:List Str)(v7 v8 v9 qE w4:OB),Y=[sF (.lst (ns.map .int)),sF (.lst (zs.map .str)),sF (.int m),sF (.int 14),sF (.int c1),lT Z,lT (jk.map .str),v7,v8,v9,qE,w4,none,none,none]/\(∀r∈Z,cy r)/\Z.length=2*i/\jk.length=i/\m8 Z=(zs.drop 5).take i)
  [sF (.lst (ns.map .int)),sF (.lst (zs.map .str)),sF (.int m),sF (.int 14),sF (.int c1),lT [],lT [],none,none,none,none,none,none,none,none] ⟨[],[],none,none,none,none,none,rfl,by simp,rfl,rfl,rfl⟩ (by
   rintro i Y hi ⟨Z,jk,v7,v8,v9,qE,w4,rfl,g,l,k,o⟩;obtain⟨r1,r2,p,w8,w9,VU,Qi,q1,q2,e⟩:=RB c1 m 14 [] zs jk ns Z hz i (by omega) (by omega) (by omega) v8 v9 qE w4;refine⟨_,_,rfl,.inl e,Z++[r1]++[r2],jk++[p],_,w8,w9,VU,Qi,rfl,?_,by simp;omega,by simp[k],by rw[pw,pw,if_pos q1.2.1,if_neg (by rw[q2.2];decide),uQ,o,List.take_add_one,List.getElem?_drop,q1.2.2];rfl⟩;intro r hr;simp only[List.mem_append,List.mem_singleton]at hr;rcases hr with (hr|rfl)|rfl
   ·exact g r hr
   ·exact q1.1
   ·exact q2.1)
 obtain⟨ρ2,TL,M9,aaC,w7,TH,TJ,TK,rfl,g2,l2,k2,k3,o2⟩:=lq (tg:=dC 7) (g:=oZ) n2 (λi Y=>∃(Z:List D)(jk:List Str)(v7 S9 SA SD:OB),Y=[sF (.lst (ns.map .int)),sF (.lst (zs.map .str)),sF (.int m),sF (.int 14),sF (.int c1),lT Z,lT (jk.map .str),v7,u8,u9,Wa,Wb,S9,SA,SD]/\(∀r∈Z,cy r)/\Z.length=2*n1+i/\jk≠[]/\jk.length<=n1+i/\m8 Z=(zs.drop 5).take n1)
  [sF (.lst (ns.map .int)),sF (.lst (zs.map .str)),sF (.int m),sF (.int 14),sF (.int c1),lT M8,lT (SF.map .str),u7,u8,u9,Wa,Wb,none,none,none] ⟨M8,SF,u7,none,none,none,rfl,g1,by omega,λe=>by rw[e]at k1;simp at k1;omega,by omega,o1⟩ (by
   rintro i Y hi ⟨Z,jk,v7,S9,SA,SD,rfl,g,l,k,k',o⟩;obtain⟨r1,tz,TH,TJ,TK,q1,q2,q3,e⟩:=RC c1 m 14 zs jk ns Z hz i (by omega) (by omega) k (by omega) u8 u9 Wa Wb S9 SA SD;refine⟨_,_,rfl,.inl e,Z++[r1],tz,_,TH,TJ,TK,rfl,?_,by simp;omega,q2,by omega,by rw[pw,if_neg (by rw[q1.2];decide),uQ,o]⟩;intro r hr;simp only[List.mem_append,List.mem_singleton]at hr;rcases hr with hr|rfl
   ·exact g r hr
   ·exact q1.1)
 refine⟨M9,av rfl (fB (.int c1) (aI [.lst (ns.map .int),.int ((1:Nat):Int)] (by simp) e1) rfl (cj (ds:=[]) (by simp[sizeLine]) rfl (cj (ds:=[]) (by simp[sizeLine]) rfl (dE (ls (iC (j:=n1) (b:=false) (by simp;omega) (by omega)) f1) (dE (ls (iC (j:=n2) (b:=false) ?_ (by omega)) TL) (az (by simp))))))),g2,by omega,?_⟩
 ·refine bw (.int 3) (.int (c2 % 14)) rfl (bw (.int c2) (.int 14) (aI [.lst (ns.map .int),.int ((2:Nat):Int)] (by simp) e2) rfl (by simp)) ?_;rw[←VZ];rfl
 ·have hl:(m8 M9).length<=n1:=by rw[o2,List.length_take];omega
  rw[o2,List.length_take];congr 1;rw[List.length_drop];omega
theorem we (a b:Nat):iU [.int a,.int b]=sF (.bl (decide (a &&& b=b))):=by
 have:Builtin.bitAnd (a:Int) (b:Int)=((a &&& b:Nat):Int):=by simp[Builtin.bitAnd]
 simp[iU,rY,this];omega
def gh (r:D):Nat:=(if kindOf r = "root" then jb 1 r else if kindOf r = "leave" then jb 3 r else jb 2 r).toNat
theorem ge (a:Int)(k:Str)(aB:List D):kindOf (row a k aB)=k:=rfl
noncomputable def cK:List Str:=[("leave" : Str),"paper","like"]
theorem lD (g:cy r)(h:bo r=true):∃a o rl,∃m:Nat,∃f:Int,r=row a ("root" : Str) [.str o,.int m,.int f,.str rl]/\m∈MR/\gh r=m:=by
 obtain⟨a,k,aB,rfl,d⟩:=g;have hk:k = "root":=of_decide_eq_true h;clear h;cases d with
 |root o rl m hm f=>exact⟨a,o,rl,m,f,rfl,hm,by unfold gh;rw[ge,if_pos rfl];rfl⟩
 |named=>exact cS hk
 |chosen=>exact cS hk
 |heir=>exact cS hk
 |three k gg=>rcases gg with rfl|rfl|rfl<;>exact cS hk
 |leave=>exact cS hk
 |paper k gg=>rcases gg with rfl|rfl<;>exact cS hk
 |copy k gg=>rcases gg with rfl|rfl<;>exact cS hk
theorem Di (g:cy r)(h:bo r=true):au [r,.str "matters"]=sF (.int (gh r)):=by
 obtain⟨a,o,rl,m,f,rfl,_,e⟩:=lD g h;rw[e];exact bz (i:=1) dr rfl
theorem BD {a:Int}{k:Str}{aB:List D}(d:Dd k aB)(h:k∈cK):gh (row a k aB)∈MS/\(∃i:Nat,qi iw (.str k) (.str "matters")=sF (.int i)/\aB[i]? = some (.int (gh (row a k aB))))/\(D.str k::aB).getD (3+if k = "leave" then 1 else 0) .non=.int (gh (row a k aB))/\(3+if k = "leave" then 1 else 0)<(D.str k::aB).length:=by
 cases d with
 |leave d b p m hm x f=>
  have e:gh (row a ("leave" : Str) [.int d,.str b,.str p,.int m,fQ x,.int f])=m:=by unfold gh;rw[ge,if_neg (by decide +kernel),if_pos rfl];rfl
  rw[e];refine⟨hm,⟨3,dr,rfl⟩,?_,?_⟩
  ·rw[if_pos rfl];rfl
  ·rw[if_pos rfl];simp
 |paper k hk d b m hm x r hf hp=>
  have hl:k ≠ "leave":=by rcases hk with rfl|rfl<;>decide +kernel
  have hr:k ≠ "root":=by rcases hk with rfl|rfl<;>decide +kernel
  have e:gh (row a k (.int d::.str b::.int m::fQ x::r))=m:=by unfold gh;rw[ge,if_neg hr,if_neg hl];rfl
  rw[e];refine⟨hm,⟨2,by rcases hk with rfl|rfl<;>exact dr,rfl⟩,?_,?_⟩
  ·rw[if_neg hl];rfl
  ·rw[if_neg hl];simp
 |root=>exact cS h
 |named=>exact cS h
 |chosen=>exact cS h
 |heir=>exact cS h
 |three k gg=>rcases gg with rfl|rfl|rfl<;>exact cS h
 |copy k gg=>rcases gg with rfl|rfl<;>exact cS h
theorem xO (g:cy r)(h:kindOf r∈cK):au [r,.str "matters"]=sF (.int (gh r)):=by
 obtain⟨a,k,aB,rfl,d⟩:=g;obtain⟨_,⟨i,h1,h2⟩,_⟩:=BD (a:=a) d h;exact bz h1 h2
noncomputable def bN:List Str:=[("leave" : Str),"paper","like","copy"]
theorem eQ (h:k∈bN∨k = "call"):eO k=true:=by
 rw[sA];refine decide_eq_true ?_;rcases h with h|rfl
 ·have:∀k∈bN,k∈zO:=by decide +kernel
  exact this k h
 ·decide +kernel
theorem xP {k:Str}{aB:List D}(d:Dd k aB)(h:eO k=true):∃(dd:Int)(b:Str)(r:List D),aB=.int dd::.str b::r:=d.cd.deed.slg h
theorem wg (g:cy r)(h:eO (kindOf r)=true):au [r,.str "by"]=sF (.str (b9 r)):=by
 obtain⟨a,k,aB,rfl,d⟩:=g;obtain⟨dd,b,q,rfl⟩:=xP d h;exact bz (i:=1) (Hb h) rfl
noncomputable def b8 (K:KL):List D:=(K.filter λx=>bo x.1).map (·.1)
theorem Ab:∀(l:List (cE×D))(a:List cE×List D),(a.1++l.map (·.1)).Nodup->l.foldl rz a=(a.1++l.map (·.1),a.2++l.map (·.2))
 |[],a,_=>by simp
 |p::l,a,h=>by
  have hn:p.1∉a.1:=by
   rw[uY,List.nodup_append]at h;exact λz=>h.2.2 _ z _ mX rfl
  have e:rz a p=(a.1++[p.1],a.2++[p.2]):=by unfold rz dW dX;rw[if_neg hn,if_neg hn]
  rw[List.foldl_cons,e,Ab l _ (by rw[List.append_assoc];exact h)];simp
theorem Dj:∀ {vs:List D}{v:D},(vs.map (ay 0)).Nodup->v∈vs->cz (vs.map λv=>(.inr (ay 0 v):cE)) vs (.inr (ay 0 v))=some v
 |w::vs,v,h,hv=>by
  rw[uY,List.nodup_cons]at h;rw[uY,cz];rcases vP hv with rfl|hv
  ·rw[if_pos rfl]
  ·rw[if_neg λz=>h.1 (by have e:ay 0 w=ay 0 v:=Sum.inr.inj z;rw[e];exact List.mem_map_of_mem hv)];exact Dj h.2 hv
section
variable {K:KL}(hn:((b8 K).map (ay 0)).Nodup)
include hn
theorem jf:bW (jP K)=((b8 K).map λv=>(.inr (ay 0 v):cE),b8 K):=by
 have e:jP K=(b8 K).map λv=>((.inr (ay 0 v):cE),v):=by unfold jP b8;rw[uP];rfl
 have VZ:((b8 K).map λv=>(.inr (ay 0 v):cE)).Nodup:=by
  refine List.pairwise_map.mpr ((List.pairwise_map.mp hn).imp λh z=>h (Sum.inr.inj z))
 rw[e];unfold bW;rw[Ab _ _ (by rw[uP];exact VZ),uP,uP];simp only[List.nil_append];congr 1;exact List.map_id _
theorem EA (hv:v∈b8 K):gp K (ay 0 v)=some v:=by
 unfold gp;rw[jf hn];exact Dj hn hv
end
noncomputable def K7 (j:Nat):D->Int×Option Int
 |.tup [_,.tup (_::aB)]=>match aB[j]? with
  |some (.tup [.int s,.int u])=>(s,some u)
  |some (.tup [.int s,.non])=>(s,none)
  |_=>(0,none)
 |_=>(0,none)
theorem xQ {h:Int}{k:Str}{aB:List D}{j:Nat}{x:Int×Option Int}(e:aB[j]? = some (fQ x)):K7 j (row h k aB)=x:=by
 unfold K7 row;simp only[e];obtain⟨s,u⟩:=x;cases u<;>rfl
def fm (r:D):Int×Option Int:=if kindOf r = "leave" then K7 4 r else K7 3 r
def eS (r:D):Int:=if kindOf r = "root" then jb 2 r else jb 5 r
def jg (r:D):Bool:=decide (kindOf r = "leave")
theorem gX {r:D}(g:cy r)(h:kindOf r = "leave"):∃a d b p,∃m:Nat,∃x f,r=row a ("leave" : Str) [.int d,.str b,.str p,.int m,fQ x,.int f]/\m∈MS/\gh r=m/\fm r=x/\eS r=f:=by
 obtain⟨a,k,aB,rfl,d⟩:=g;have hk:k = "leave":=h;clear h;cases d with
 |leave d b p m hm x f=>exact⟨a,d,b,p,m,x,f,rfl,hm,by unfold gh;rw[ge,if_neg (by decide +kernel),if_pos rfl];rfl,by unfold fm;rw[ge,if_pos rfl];exact xQ rfl,by unfold eS;rw[ge,if_neg (by decide +kernel)];rfl⟩
 |root=>exact cS hk
 |named=>exact cS hk
 |chosen=>exact cS hk
 |heir=>exact cS hk
 |three k gg=>rcases gg with rfl|rfl|rfl<;>exact cS hk
 |paper k gg=>rcases gg with rfl|rfl<;>exact cS hk
 |copy k gg=>rcases gg with rfl|rfl<;>exact cS hk
theorem Dk {a:Int}{k:Str}{aB:List D}(d:Dd k aB)(h:k∈cK):(∃i:Nat,qi iw (.str k) (.str "stretch")=sF (.int i)/\aB[i]? = some (fQ (fm (row a k aB))))/\(D.str k::aB).getD (4+if k = "leave" then 1 else 0) .non=fQ (fm (row a k aB))/\(4+if k = "leave" then 1 else 0)<(D.str k::aB).length:=by
 cases d with
 |leave d b p m hm x f=>
  have e:fm (row a ("leave" : Str) [.int d,.str b,.str p,.int m,fQ x,.int f])=x:=by unfold fm;rw[ge,if_pos rfl];exact xQ rfl
  rw[e,if_pos rfl];exact⟨⟨4,dr,rfl⟩,rfl,by simp⟩
 |paper k hk d b m hm x r hf hp=>
  have hl:k ≠ "leave":=by rcases hk with rfl|rfl<;>decide +kernel
  have e:fm (row a k (.int d::.str b::.int m::fQ x::r))=x:=by unfold fm;rw[ge,if_neg hl];exact xQ rfl
  rw[e,if_neg hl];exact⟨⟨3,by rcases hk with rfl|rfl<;>exact dr,rfl⟩,rfl,by simp⟩
 |root=>exact cS h
 |named=>exact cS h
 |chosen=>exact cS h
 |heir=>exact cS h
 |three k gg=>rcases gg with rfl|rfl|rfl<;>exact cS h
 |copy k gg=>rcases gg with rfl|rfl<;>exact cS h
theorem Dl (g:cy r)(h:kindOf r∈cK):au [r,.str "stretch"]=some (fQ (fm r),false):=by
 obtain⟨a,k,aB,rfl,d⟩:=g;obtain⟨⟨i,h1,h2⟩,_⟩:=Dk (a:=a) d h;exact bz h1 h2
theorem xR (h:kindOf r = "leave"):kindOf r∈cK:=by rw[h];decide +kernel
theorem Ml (g:cy r)(h:bo r=true∨kindOf r = "leave"):au [r,.str "further"]=sF (.int (eS r)):=by
 rcases h with h|h
 ·obtain⟨a,o,rl,m,f,rfl,_,_⟩:=lD g h;rw[show eS (row a ("root" : Str) [.str o,.int m,.int f,.str rl])=f by unfold eS;rw[ge,if_pos rfl];rfl];exact bz (i:=2) dr rfl
 ·obtain⟨a,d,b,p,m,x,f,e,_,_,_,ef⟩:=gX g h;rw[ef,e];exact bz (i:=5) dr rfl
def mV (r v:D):Bool:=decide (gh v &&& gh r=gh r) && !(jg r && decide (eS v<=eS r))
def j6 (r v:D):D:=if decide (gh v &&& gh r=gh r)=true then (if(jg r && decide (eS v<=eS r))=true then .str "further" else .non)else .str "matters"
theorem Ac (gr:cy r)(gv:cy v)(kr:kindOf r∈cK)(kv:bo v=true∨kindOf v = "leave"):∃d,jo [r,v]=some (d,false)/\A4 d .non=sF (.bl (mV r v))/\d=j6 r v:=by
 have pmv:au [v,.str "matters"]=sF (.int (gh v)):=kv.elim (Di gv) λh=>xO gv (xR h);have t1:aU (fA iU (ae (fA au (fV 1 (ae (fS "matters") ai))) (ae (fA au (fV 0 (ae (fS "matters") ai))) ai))) [some (r,false),some (v,false)]=some (decide (gh v &&& gh r=gh r)):=cw (aI [.int (gh v),.int (gh r)] (aD (aI [v,.str "matters"] rfl pmv) (aD (aI [r,.str "matters"] rfl (xO gr kr)) rfl)) (we _ _));have t2:aU (f2 cC (fA aN (fV 0 ai)) (fS "leave")) [some (r,false),some (v,false)]=some (jg r):=bY (a:=kindOf r) (bb:=false) (aI [r] rfl (j5 gr.c)) rfl;have t3:jg r=true->aU (f2 QS (fA au (fV 0 (ae (fS "further") ai))) (fA au (fV 1 (ae (fS "further") ai)))) [some (r,false),some (v,false)]=some (decide (eS v<=eS r)):=λh=>cw (bw (.int (eS r)) (.int (eS v)) (aI [r,.str "further"] rfl (Ml gr (.inr (of_decide_eq_true h)))) (aI [v,.str "further"] rfl (Ml gv kv)) rfl);have t4:=cF t2 t3;unfold mV;cases hA:decide (gh v &&& gh r=gh r) with
 |false=>exact⟨.str "matters",av rfl (bj (bO (p:=false) (t1.trans (by rw[hA]))) (az rfl)),rfl,by simp only[j6,hA];rfl⟩
 |true=>
  cases hB:(jg r && decide (eS v<=eS r)) with
  |true=>exact⟨.str "further",av rfl (aC (bO (p:=true) (t1.trans (by rw[hA]))) (bj (t4.trans (by rw[hB])) (az rfl))),rfl,by simp only[j6,hA,hB];rfl⟩
  |false=>exact⟨.non,av rfl (aC (bO (p:=true) (t1.trans (by rw[hA]))) (aC (t4.trans (by rw[hB])) (az rfl))),rfl,by simp only[j6,hA,hB];rfl⟩
theorem gF (h:k∈cK):k∈bN:=by
 have:∀k∈cK,k∈bN:=by decide +kernel
 exact this k h
theorem gY (h:kindOf r∈cK):bo r=false:=by
 have:∀k∈cK,decide (k = "root")=false:=by decide +kernel
 exact this _ h
theorem px (g:cy r)(h:bo r=false):aX [r]=sF (.int (aF r)):=by
 have:=sC g.c;unfold tN at this;rwa [h,if_neg (by decide)]at this
def pz (cs:List Cl)(r v:D):Bool:=gW cs (ay 0 v) (ay 3 v) (b9 r) (aF r) && mV r v
def lE (cs:List Cl)(r v:D):D:=if gW cs (ay 0 v) (ay 3 v) (b9 r) (aF r)=true then j6 r v else .str "holder"
theorem Dm (cs:List Cl)(ye:cs.length<=60)(gr:cy r)(gv:cy v)(kr:kindOf r∈cK)(hv:bo v=true):∃d,ga [.lst (cs.map aY),r,v]=some (d,false)/\A4 d .non=sF (.bl (pz cs r v))/\d=lE cs r v:=by
 obtain⟨d,e1,e2,e3⟩:=Ac gr gv kr (.inl hv);have t1:aU (fA cR (fV 0 (fV 2 (ae (fA au (fV 1 (ae (fS "by") ai))) (ae (fA aX (fV 1 ai)) ai))))) [sF (.lst (cs.map aY)),some (r,false),some (v,false)]=some (gW cs (ay 0 v) (ay 3 v) (b9 r) (aF r)):=by
  refine cw (aI [.lst (cs.map aY),v,.str (b9 r),.int (aF r)] (bK rfl (bK rfl (aD (aI [r,.str "by"] rfl (wg gr (eQ (.inl (gF kr))))) (aD (aI [r] rfl (px gr (gY kr))) rfl)))) ?_);obtain⟨a,o,rl,m,f,rfl,_,_⟩:=lD gv hv;exact xJ cs ye _ _
 unfold pz;cases hA:gW cs (ay 0 v) (ay 3 v) (b9 r) (aF r) with
 |false=>exact⟨.str "holder",av rfl (bj (bO (p:=false) (t1.trans (by rw[hA]))) (az rfl)),rfl,by simp only[lE,hA];rfl⟩
 |true=>exact⟨d,av rfl (aC (bO (p:=true) (t1.trans (by rw[hA]))) (az (aI [r,v] rfl e1))),e2,by rw[e3];simp only[lE,hA];rfl⟩
def Hr (cs:List Cl)(r v:D):Int:=match ir cs (ay 0 v) (ay 3 v) (aF r) with
 |.tup [_,_,.int n]=>n
 |_=>0
theorem Hs (h:gW cs o rl p day=true):∃n:Int,ir cs o rl day=.tup [.str "one",.str p,.int n]:=by
 unfold gW ir at h;unfold ir;generalize O7 cs o day=al at h ⊢;cases al with
 |nil=>
  have h:bE (.tup [.str "none"]) (.tup [.str "one",.str p])=true:=h;simp[dh]at h
 |cons b r=>
  rw[pT]at h ⊢;split at h
  ·have h:bE (.tup [.str "parted",.lst ((mT (b::r)).map .str)]) (.tup [.str "one",.str p])=true:=h;simp[dh]at h
  ·rename_i hn;rw[if_neg hn];have h:bE (.tup [.str "one",.str (ja rl b r).p]) (.tup [.str "one",.str p])=true:=h;have h:(ja rl b r).p=p:=by simpa [dh]using h
   exact⟨_,by rw[h]⟩
theorem K8 (h:gW cs (ay 0 v) (ay 3 v) (b9 r) (aF r)=true):ir cs (ay 0 v) (ay 3 v) (aF r)=.tup [.str "one",.str (b9 r),.int (Hr cs r v)]:=by
 obtain⟨n,e⟩:=Hs h;unfold Hr;rw[e]
def O8 (cs:List Cl)(r v:D):D:=.tup [.str "office",.str (ay 0 v),.int (Hr cs r v)]
theorem jh (g:∀r∈Z,cy r)(hv:v∈b8 (ak Z aa)):cy v/\bo v=true:=by
 obtain⟨x,hx,rfl⟩:=vO hv;obtain⟨h1,h2⟩:=vN hx;exact⟨g _ (vL (bI h1)),h2⟩
theorem Ht (hl:Z.length<=60)(aa:Int):(b8 (ak Z aa)).length<=60:=by
 unfold b8;rw[vI];exact vR (vM _ _) (vR (cB Z aa) hl)
theorem EB {Z:List D}(g:∀r∈Z,cy r)(hl:Z.length<=60)(aa:Int)(hn:((b8 (ak Z aa)).map (ay 0)).Nodup)(cs:List Cl)(ye:cs.length<=60){ri:Nat}{r:D}(hr:Z[ri]? = some r)(kr:kindOf r∈cK):
  iV [.tup Z,.int aa,.lst (cs.map aY),.int ri]=lT (((b8 (ak Z aa)).filter (pz cs r)).map (O8 cs r)):=by
 have gC:fP Z:=⟨hl,λr hr=>(g r hr).c⟩;have gr:=g r (vL hr);have SG:=Ht hl aa;have h1:=gP (fi:=rE (fA eW (fV 0 (fV 1 ai)))) (nT:=1) (cap:=[2,4]) (tg:=dC 0) (c:=aU (f2 A4 (fA ga (fV 1 (fV 2 (fV 0 ai)))) (fC .non))) (fe:=aj 0)
  (Y:=[sF (.tup Z),sF (.int aa),sF (.lst (cs.map aY)),sF (.int ri),some (r,false),none]) (b8 (ak Z aa)) id (pz cs r) id
  (by show(fA eW _ _).bind _=_;rw[aI [.tup Z,.int aa] rfl (lB gC aa),jf hn];simp) (by omega) λv hv=>by
   obtain⟨gv,BP⟩:=jh g hv;obtain⟨d,e1,e2,_⟩:=Dm cs ye gr gv kr BP;exact⟨[some (v,false),sF (.lst (cs.map aY)),some (r,false)],rfl,cw (bw d .non (aI [.lst (cs.map aY),r,v] rfl e1) rfl e2),λ_=>⟨false,rfl⟩⟩
 rw[List.map_id]at h1;have yf:bB ((b8 (ak Z aa)).filter (pz cs r))=true:=bT λv hv=>(jh g (vN hv).1).1.flat;refine av rfl (fB r (bw (.tup Z) (.int ri) rfl rfl (by simp[bU hr])) gr.flat (cj h1 yf (az ?_)));refine nO (fi:=cu (aj 5)) (nT:=1) (cap:=[2,4]) (tg:=dC 0) (fe:=fA aK (ae (fS "office") (ae (fA au (fV 0 (ae (fS "office") ai))) (ae (f2 bA (fA dF (fV 1 (fV 0 (ae (fA aX (fV 2 ai)) ai)))) (fI 2)) ai))))
  (Y:=[sF (.tup Z),sF (.int aa),sF (.lst (cs.map aY)),sF (.int ri),some (r,false),lT ((b8 (ak Z aa)).filter (pz cs r))]) ((b8 (ak Z aa)).filter (pz cs r)) id (O8 cs r) (by simp) (vR (vM _ _) (by omega)) λv hv=>?_
 obtain⟨VE,hv3⟩:=vN hv;obtain⟨gv,BP⟩:=jh g VE;have XX:(gW cs (ay 0 v) (ay 3 v) (b9 r) (aF r) && mV r v)=true:=hv3;rw[vC]at XX;have hh:=K8 XX.1;refine⟨[some (v,false),sF (.lst (cs.map aY)),some (r,false)],rfl,false,?_⟩;obtain⟨a,o,rl,m,f,rfl,_,_⟩:=lD gv BP;refine aI [.str "office",.str o,.int (Hr cs r _)] (bK rfl (aD (aI [row a ("root" : Str) [.str o,.int m,.int f,.str rl],.str "office"] rfl lA) (bK (bw (ir cs o rl (aF r)) (.int 2) (aI [.lst (cs.map aY),row a ("root" : Str) [.str o,.int m,.int f,.str rl],.int (aF r)] (bK rfl (bK rfl (aD (aI [r] rfl (px gr (gY kr))) rfl))) (kB cs ye _)) rfl ?_) rfl))) (bL _ (by simp));have hh:ir cs o rl (aF r)=_:=hh;rw[hh];simp[W6]
noncomputable def lF (day:Int)(x:Int×Option Int):Bool:=decide (x.1<=day) && (match x.2 with|none=>true|some u=>decide (day<u))
noncomputable def O9:Option Int->Option Int->Bool
 |_,none=>true
 |none,some _=>false
 |some x,some y=>decide (x<=y)
theorem K9 (a b:Option Int):j0 [uD a,uD b]=sF (.bl (O9 a b)):=by
 cases b with
 |none=>exact av rfl (bj (cw (by simp[uD])) (az (by cases a<;>rfl)))
 |some y=>
  refine av rfl (aC (cw (by simp[uD])) (az ?_));cases a with
  |none=>exact dm (p:=false) (q:=false) (b1:=false) (by simp[uD]) (by simp)
  |some x=>exact dm (p:=true) (q:=decide (x<=y)) (b1:=false) (by simp[uD]) λ_=>by simp[uD]
def ql (a b:Int×Option Int):Bool:=decide (b.1<=a.1) && O9 a.2 b.2
theorem OA (a b:Int×Option Int):jp [fQ a,fQ b]=sF (.bl (ql a b)) :=
 av rfl (az (dm (b1:=false) (by simp[fQ,CT]) λ_=>aI [uD a.2,uD b.2] (bK (by simp[fQ,xE]) (bK (by simp[fQ,xE]) rfl)) (K9 _ _)))
theorem Mm {Z:List D}{i:Nat}{r:D}(hr:Z[i]? = some r)(g:cy r)(h:bo r=false):fM [.tup Z,.int i]=sF (.tup [.int (aF r),.int i]) :=
 av rfl (az (aI [.int (aF r),.int i] (bK (aI [r] (by simp[bU hr]) (px g h)) rfl) (by simp[sizeLine])))
theorem UD (a b c d:Int):ML (.tup [.int a,.int b]) (.tup [.int c,.int d])=sF (.bl (decide (a<c∨(a=c/\b<d)))):=by
 show(bd [.i a,.i b] [.i c,.i d]).map _=_;rw[Ku];rfl
theorem Ad {Z:List D}{i j:Nat}{x y:D}(hx:Z[i]? = some x)(hy:Z[j]? = some y)(gx:cy x)(gy:cy y)(nx:bo x=false)(ny:bo y=false):gA [.tup Z,.int i,.int j]=sF (.bl (fg (x,i) (y,j))) :=
 av rfl (az (bw (.tup [.int (aF x),.int i]) (.tup [.int (aF y),.int j]) (aI [.tup Z,.int i] rfl (Mm hx gx nx)) (aI [.tup Z,.int j] rfl (Mm hy gy ny)) (UD _ _ _ _)))
def qm (r:D)(ri:Nat)(x:D×Nat):Bool:=fg x (r,ri) && ((lF (aF r) (fm x.1) && ql (fm r) (fm x.1)) && mV r x.1)
def o6 (r:D)(ri:Nat)(x:D×Nat):D:=if fg x (r,ri)=true then (if(lF (aF r) (fm x.1) && ql (fm r) (fm x.1))=true then j6 r x.1 else .str "days")else .str "order"
theorem Dn {Z:List D}{ri li:Nat}{r l:D}(hr:Z[ri]? = some r)(hl:Z[li]? = some l)(gr:cy r)(gl:cy l)(kr:kindOf r∈cK)(kl:kindOf l = "leave"):∃d,gT [.tup Z,.int ri,.int li]=some (d,false)/\A4 d .non=sF (.bl (qm r ri (l,li)))/\d=o6 r ri (l,li):=by
 have nr:=gY kr;have nl:=gY (xR kl);obtain⟨d,e1,e2,e3⟩:=Ac gr gl kr (.inr kl);let E:DL.Env:=[sF (.tup Z),sF (.int ri),sF (.int li),some (r,false),some (fQ (fm l),false)];have al:∀Y:DL.Env,Y[0]? = some (sF (.tup Z))->Y[2]? = some (sF (.int li))->f2 bA (aj 0) (aj 2) Y=some (l,false):=λY h0 h2=>bw (.tup Z) (.int li) (by simp[h0]) (by simp[h2]) (by simp[bU hl]);have t1:aU (fA gA (fV 0 (fV 2 (fV 1 ai)))) E=some (fg (l,li) (r,ri)):=cw (aI [.tup Z,.int li,.int ri] rfl (Ad hl hr gl gr nl nr));have t2:aU (fA jL (ae (fA aX (fV 3 ai)) (fV 4 ai))) E=some (lF (aF r) (fm l)):=cw (aI [.int (aF r),fQ (fm l)] (aD (aI [r] rfl (px gr nr)) (bK rfl rfl)) (CY _ _ _));have t3:aU (fA jp (ae (fA au (fV 3 (ae (fS "stretch") ai))) (fV 4 ai))) E=some (ql (fm r) (fm l)):=cw (aI [fQ (fm r),fQ (fm l)] (aD (aI [r,.str "stretch"] rfl (Dl gr kr)) (bK rfl rfl)) (OA _ _));have t4:=cY (bO t2) λ_=>bO t3;have go:∀(h:FS)(res:Option Res),h E=res->a9 (aQ 3 (f2 bA (aj 0) (aj 1))) (a9 (aQ 4 (fA au (ae (f2 bA (aj 0) (aj 2)) (ae (fS "stretch") ai)))) h) [sF (.tup Z),sF (.int ri),sF (.int li),none,none]=res:=λh res k=>
  fB r (bw (.tup Z) (.int ri) rfl rfl (by simp[bU hr])) gr.flat (fB (fQ (fm l)) (aI [l,.str "stretch"] (aD (al _ rfl rfl) rfl) (Dl gl (xR kl))) (je _) k)
 unfold qm;cases hA:fg (l,li) (r,ri) with
 |false=>exact⟨.str "order",av rfl (go _ _ (bj (bO (p:=false) (t1.trans (by rw[hA]))) (az rfl))),rfl,by simp only[o6,hA];rfl⟩
 |true=>
  cases hB:(lF (aF r) (fm l) && ql (fm r) (fm l)) with
  |false=>exact⟨.str "days",av rfl (go _ _ (aC (bO (p:=true) (t1.trans (by rw[hA]))) (bj (t4.trans (by rw[←Bool.not_and,hB];rfl)) (az rfl)))),rfl,by simp only[o6,hA,hB];rfl⟩
  |true=>exact⟨d,av rfl (go _ _ (aC (bO (p:=true) (t1.trans (by rw[hA]))) (aC (t4.trans (by rw[←Bool.not_and,hB];rfl)) (az (aI [r,l] (bK rfl (aD (al _ rfl rfl) rfl)) e1))))),e2,by rw[e3];simp only[o6,hA,hB];rfl⟩
theorem mW {Z:List D}{aa:Int}{i:Nat}{r:D}(hr:Z[i]? = some r)(g:cy r):g9 [.tup Z,.int aa,.int i]=sF (.bl (decide (ba r<=aa) && jg r)):=by
 have ID:cH [.tup Z,.int aa,.int i]=sF (.bl (decide (ba r<=aa))):=by
  obtain⟨a,k,aB,rfl,d⟩:=g;exact l7 hr aa
 exact av rfl (az (dm (aI [.tup Z,.int aa,.int i] rfl ID) λ_=>bw (.str (kindOf r)) (.str "leave") (aI [r] (bK (bw (.tup Z) (.int i) rfl rfl (by simp[bU hr])) rfl) (j5 g.c)) rfl (by simp[jg])))
noncomputable def j7 (K:KL)(p:Str):KL:=(K.filter λx=>jg x.1).filter λx=>decide (ay 2 x.1=p)
theorem Ae (g:∀r∈Z,cy r)(h:x∈j7 (ak Z aa) p):Z[x.2]? = some x.1/\cy x.1/\kindOf x.1 = "leave":=by
 obtain⟨h1,_⟩:=vN h;obtain⟨h2,h3⟩:=vN h1;exact⟨bI h2,g _ (vL (bI h2)),of_decide_eq_true h3⟩
theorem wj {Z:List D}(g:∀r∈Z,cy r)(hl:Z.length<=60)(aa:Int)(p:Str):jq [.tup Z,.int aa,.str p]=lT ((j7 (ak Z aa) p).map λx=>.int x.2):=by
 have Qc:=cB Z aa;have h1:=gP (fi:=cu (fA cM (fV 0 (fV 1 ai)))) (nT:=1) (cap:=[0,1]) (tg:=dC 0) (c:=aU (fA g9 (fV 1 (fV 2 (fV 0 ai))))) (fe:=aj 0)
  (Y:=[sF (.tup Z),sF (.int aa),sF (.str p),none]) (ak Z aa) (λx=>.int x.2) (λx=>jg x.1) (λx=>.int x.2)
  (by show(fA cM _ _).bind _=_;rw[aI [.tup Z,.int aa] rfl (l5 Z (λr hr=>(g r hr).c.rp) (by omega) aa)];rfl) (by omega) λx hx=>by
   have hk:decide (ba x.1<=aa)=true:=(vN hx).2;have:=mW (aa:=aa) (bI hx) (g _ (vL (bI hx)));rw[hk,Bool.true_and]at this;exact⟨_,rfl,cw (aI [.tup Z,.int aa,.int x.2] rfl this),λ_=>⟨false,rfl⟩⟩
 have yf:bB (((ak Z aa).filter λx=>jg x.1).map λx=>D.int x.2)=true:=bT λd hd=>by obtain⟨x,_,rfl⟩:=vO hd;rfl
 refine av rfl (cj h1 yf (az ?_));refine gP (fi:=cu (aj 3)) (nT:=1) (cap:=[2,0]) (tg:=dC 0) (c:=aU (f2 cC (fA au (ae (f2 bA (aj 2) (aj 0)) (ae (fS "person") ai))) (aj 1))) (fe:=aj 0)
  (Y:=[sF (.tup Z),sF (.int aa),sF (.str p),lT (((ak Z aa).filter λx=>jg x.1).map λx=>.int x.2)]) ((ak Z aa).filter λx=>jg x.1) (λx=>.int x.2) (λx=>decide (ay 2 x.1=p)) (λx=>.int x.2) (by simp) (vR (vM _ _) (by omega)) λx hx=>?_
 obtain⟨h2,h3⟩:=vN hx;obtain⟨a,d,b,q,m,st,f,e,_⟩:=gX (g _ (vL (bI h2))) (of_decide_eq_true h3);refine⟨[sF (.int x.2),sF (.str p),sF (.tup Z)],rfl,cw (bw (.str (ay 2 x.1)) (.str p) (aI [x.1,.str "person"] (bK (bw (.tup Z) (.int x.2) rfl rfl (by simp[bU (bI h2)])) rfl) ?_) rfl (by simp)),λ_=>⟨false,rfl⟩⟩;rw[e];exact bz (i:=2) dr rfl
theorem EC {Z:List D}(g:∀r∈Z,cy r)(hl:Z.length<=60)(aa:Int){ri:Nat}{r:D}(hr:Z[ri]? = some r)(kr:kindOf r∈cK):
  j3 [.tup Z,.int aa,.int ri]=lT (((j7 (ak Z aa) (b9 r)).filter (qm r ri)).map λx=>.tup [.str "leave",.int x.2]):=by
 have gr:=g r (vL hr);have Qc:=cB Z aa;have M6:(j7 (ak Z aa) (b9 r)).length<=60:=vR (vM _ _) (vR (vM _ _) (by omega));have yf:bB ((j7 (ak Z aa) (b9 r)).map λx=>D.int x.2)=true:=bT λd hd=>by obtain⟨x,_,rfl⟩:=vO hd;rfl
 refine av rfl (cj (ds:=(j7 (ak Z aa) (b9 r)).map λx=>.int x.2) (aI [.tup Z,.int aa,.str (b9 r)] (bK rfl (bK rfl (aD (aI [r,.str "by"] (bK (bw (.tup Z) (.int ri) rfl rfl (by simp[bU hr])) rfl) (wg gr (eQ (.inl (gF kr))))) rfl))) (wj g hl aa _)) yf (az ?_));refine gP (fi:=cu (aj 3)) (nT:=1) (cap:=[0,2]) (tg:=dC 0) (c:=aU (f2 A4 (fA gT (fV 1 (fV 2 (fV 0 ai)))) (fC .non))) (fe:=fA aK (ae (fS "leave") (fV 0 ai)))
  (Y:=[sF (.tup Z),sF (.int aa),sF (.int ri),lT ((j7 (ak Z aa) (b9 r)).map λx=>.int x.2)]) (j7 (ak Z aa) (b9 r)) (λx=>.int x.2) (qm r ri) (λx=>.tup [.str "leave",.int x.2]) (by simp) (by omega) λx hx=>?_
 obtain⟨h1,h2,h3⟩:=Ae g hx;obtain⟨d,e1,e2,_⟩:=Dn hr h1 gr h2 kr h3;exact⟨[sF (.int x.2),sF (.tup Z),sF (.int ri)],rfl,cw (bw d .non (aI [.tup Z,.int ri,.int x.2] rfl e1) rfl e2),λ_=>⟨false,aI [.str "leave",.int x.2] rfl (bL _ (by simp))⟩⟩
abbrev Bs:=Option Str×Int
noncomputable def A8:Bs->D
 | (some o,n)=>.tup [.str "office",.str o,.int n]
 | (none,n)=>.tup [.str "leave",.int n]
noncomputable def Af:Bs->List At
 | (some o,n)=>[.i n,.s ("office" : Str),.s o,.i n]
 | (none,n)=>[.i n,.s ("leave" : Str),.i n]
theorem Hu (b:Bs):bq (A8 b)=true:=by rcases b with⟨_|o,n⟩<;>rfl
theorem KA (b:Bs):bA (A8 b) (.int (-1))=sF (.int b.2):=by rcases b with⟨_|o,n⟩<;>rfl
theorem Hv (a b:Bs):(bd (Af a) (Af b)).isSome=true:=by
 have Ii:("office" : Str) ≠ "leave":=by decide +kernel
 rcases a with⟨_|o,n⟩<;>rcases b with⟨_|o',n'⟩
 ·show(bd [.i n,.s ("leave" : Str),.i n] [.i n',.s ("leave" : Str),.i n']).isSome=true;rw[bd];split
  ·rw[bd,if_pos rfl,bd];split
   ·rw[bd];rfl
   ·rfl
  ·rfl
 ·show(bd [.i n,.s ("leave" : Str),.i n] [.i n',.s ("office" : Str),.s o',.i n']).isSome=true;rw[bd];split
  ·rw[bd,if_neg (Ne.symm Ii)];rfl
  ·rfl
 ·show(bd [.i n,.s ("office" : Str),.s o,.i n] [.i n',.s ("leave" : Str),.i n']).isSome=true;rw[bd];split
  ·rw[bd,if_neg Ii];rfl
  ·rfl
 ·show(bd [.i n,.s ("office" : Str),.s o,.i n] [.i n',.s ("office" : Str),.s o',.i n']).isSome=true;rw[bd];split
  ·rw[bd,if_pos rfl,bd];split
   ·rw[bd];split
    ·rw[bd];rfl
    ·rfl
   ·rfl
  ·rfl
theorem KE (h:Af a=Af b):a=b:=by
 rcases a with⟨_|o,n⟩<;>rcases b with⟨_|o',n'⟩<;>simp[Af]at h
 ·rw[h]
 ·rw[h.1,h.2.1]
theorem Dp (l:List Bs):eZ (l.map Af)=true:=by
 unfold eZ;simp[List.all_eq_true,Hv]
theorem Hw (e:cX (Af a)=cX (Af b)):a=b:=KE (oR (Dp [a,b]) (by simp) (by simp) e)
def W7 (cs:List Cl)(r v:D):Bs:=(some (ay 0 v),Hr cs r v)
def xS (K:KL)(cs:List Cl)(r:D)(ri:Nat):List Bs:=((b8 K).filter (pz cs r)).map (W7 cs r)++((j7 K (b9 r)).filter (qm r ri)).map λx=>(none,(x.2:Int))
def KG (K:KL)(cs:List Cl)(r:D)(ri:Nat):List Bs:=eY (λb=>cX (Af b)) (xS K cs r ri)
theorem ED (hn:((b8 (ak Z aa)).map (ay 0)).Nodup)(cs:List Cl)(r:D)(ri:Nat):(xS (ak Z aa) cs r ri).Nodup:=by
 unfold xS;rw[List.nodup_append];refine⟨?_,?_,?_⟩
 ·exact List.pairwise_map.mpr ((List.Pairwise.sublist List.filter_sublist (List.pairwise_map.mp hn)).imp λh e=>h (vK (Prod.mk.inj e).1))
 ·refine List.pairwise_map.mpr ((List.Pairwise.sublist (List.filter_sublist.trans (List.filter_sublist.trans List.filter_sublist)) (List.pairwise_map.mp (eX Z aa))).imp λh e=>h ?_);have:=(Prod.mk.inj e).2;omega
 ·intro a ha b hb e;obtain⟨v,_,rfl⟩:=vO ha;obtain⟨x,_,rfl⟩:=vO hb;cases (Prod.mk.inj e).1
theorem wl {α:Type}{g:α->D}{h:α->List At}:∀(l:List α),(∀x∈l,Oy (g x)=some (h x))->jJ (l.map g)=some (l.map h)
 |[],_=>rfl
 |x::l,k=>by
  rw[uY,jJ,k x mX,vJ,wl l λy hy=>k y (mZ _ hy)];rfl
theorem Dq (hl:Z.length<=30)(aa:Int)(cs:List Cl)(r:D)(ri:Nat):(xS (ak Z aa) cs r ri).length<=60:=by
 have h1:((b8 (ak Z aa)).filter (pz cs r)).length<=30:=by
  refine vR (vM _ _) ?_;unfold b8;rw[vI];exact vR (vM _ _) (vR (cB Z aa) hl)
 have h2:((j7 (ak Z aa) (b9 r)).filter (qm r ri)).length<=30:=vR (vM _ _) (vR (vM _ _) (vR (vM _ _) (vR (cB Z aa) hl)));unfold xS;rw[uZ,vI,vI];omega
theorem Hx {f:FE}{Y:DL.Env}{b:Bool}(l:List Bs)(hl:l.length<=60)(hn:l.Nodup)(e:f Y=some (.lst (l.map A8),b)):By f (re [] (fA aK (ae (f2 bA (aj 0) (f1 yJ (fI 1))) (fV 0 ai)))) Y=lT ((eY (λb=>cX (Af b)) l).map A8):=by
 have hm:jH (re [] (fA aK (ae (f2 bA (aj 0) (f1 yJ (fI 1))) (fV 0 ai))) Y) (l.map A8)=some (l.map λb=>.tup [.int b.2,A8 b]):=iY l λb _=>by
  show(fA aK _ _).map _=_;rw[aI [.int b.2,A8 b] (bK (bw (A8 b) (.int (-1)) rfl rfl (KA b)) (bK rfl rfl)) (bL _ (by simp))];rfl
 have hk:jJ (l.map λb=>D.tup [.int b.2,A8 b])=some (l.map Af):=wl l λb _=>by rcases b with⟨_|o,n⟩<;>rfl
 have jS:(l.map Af).length<64/\eZ (l.map Af)=true/\True/\((l.map Af).map cX).Nodup:=by
  refine⟨by rw[vI];omega,Dp l,trivial,?_⟩;rw[uP];exact List.pairwise_map.mpr (List.Pairwise.imp (λh e=>h (Hw e)) hn)
 unfold By xy;rw[e];simp only[vJ];rw[hm];simp only[vJ];rw[hk];simp only[vJ];rw[if_pos jS];unfold jI;have key:((eY (λb=>cX (Af b)) l).map λb=>(Af b,A8 b))=eY (λp:List At×D=>cX p.1) (l.map λb=>(Af b,A8 b)):=by
  refine lg _ (λx hx y hy e=>?_) ((bG _ _).map _) ?_
  ·obtain⟨a,_,rfl⟩:=vO hx;obtain⟨b,_,rfl⟩:=vO hy;rw[Hw e]
  ·exact List.pairwise_map.mpr (iO _ _)
 rw[List.zip_map',←key,uP];rfl
section
variable {Z:List D}(g:∀r∈Z,cy r) (hl:Z.length<=30) (aa:Int) (hn:((b8 (ak Z aa)).map (ay 0)).Nodup)
include g hl hn
theorem Ag (cs:List Cl)(ye:cs.length<=60){ri:Nat}{r:D}(hr:Z[ri]? = some r)(kr:kindOf r∈cK)(hk:ba r<=aa):eN [.tup Z,.int aa,.lst (cs.map aY),.int ri]=lT ((KG (ak Z aa) cs r ri).map A8):=by
 have gr:=g r (vL hr);have wd:∀(Y:DL.Env)(j:Nat),Y[0]? = some (sF (.tup Z))->Y[j]? = some (sF (.int ri))->fA aN (ae (f2 bA (aj 0) (aj j)) ai) Y=sF (.str (kindOf r)):=λY j h0 h2=>aI [r] (bK (bw (.tup Z) (.int ri) (by simp[h0]) (by simp[h2]) (by simp[bU hr])) rfl) (j5 gr.c);have ID:cH [.tup Z,.int aa,.int ri]=sF (.bl true):=by
  obtain⟨a,k,aB,rfl,d⟩:=id gr;rw[l7 hr aa,decide_eq_true (show a<=aa from hk)]
 have Wc:fN [.tup Z,.int aa,.int ri]=sF (.bl (decide (kindOf r∈[("paper" : Str),"like","copy"]))):=av rfl (az (dm (p:=true) (aI [.tup Z,.int aa,.int ri] rfl ID) λ_=>bw (.str (kindOf r)) (.tup ([("paper" : Str),"like","copy"].map .str)) (wd _ 2 rfl rfl) rfl (iX _ _)));have hb:eM [.tup Z,.int aa,.int ri]=sF (.bl true):=by
  refine(av rfl (az (rL (aI [.tup Z,.int aa,.int ri] rfl (mW hr gr)) λ_=>aI [.tup Z,.int aa,.int ri] rfl Wc))).trans ?_;rw[decide_eq_true hk,Bool.true_and];have:∀k∈cK,(decide (k = "leave") || decide (k∈[("paper" : Str),"like","copy"]))=true:=by decide +kernel
  unfold jg;rw[this _ kr]
 have Sn:decide (kindOf r = "copy")=false:=by
  have:∀k∈cK,decide (k = "copy")=false:=by decide +kernel
  exact this _ kr
 have Qh:=Dq hl aa cs r ri;have yf:bB ((xS (ak Z aa) cs r ri).map A8)=true:=bT λd hd=>by obtain⟨b,_,rfl⟩:=vO hd;exact Hu b
 refine av rfl (aC (bO (p:=true) (cw (aI [.tup Z,.int aa,.int ri] rfl hb))) (aC (bY (a:=kindOf r) (bb:=false) (wd _ 3 rfl rfl) Sn) (cj (ds:=(xS (ak Z aa) cs r ri).map A8) ?_ yf (az (Hx (b:=false) _ Qh (ED hn cs r ri) rfl)))));have ho:=EB g (by omega) aa hn cs ye hr kr;have hv:=EC g (by omega) aa hr kr;refine fZ (x:=.lst (((b8 (ak Z aa)).filter (pz cs r)).map (O8 cs r))) (y:=.lst (((j7 (ak Z aa) (b9 r)).filter (qm r ri)).map λx=>.tup [.str "leave",.int x.2])) (b1:=true) (b2:=true) (aI [.tup Z,.int aa,.lst (cs.map aY),.int ri] rfl ho) (aI [.tup Z,.int aa,.int ri] rfl hv) ?_;have SH:=Qh;unfold xS at SH ⊢;rw[uZ,vI,vI]at SH;refine(if_pos (dJ (by rw[vI,vI];omega))).trans ?_;rw[uW,uP,uP];rfl
end
def OC (K:KL)(c r:D):Bool:=decide (b9 c=b9 r) || (!decide (kindOf r = "copy") && (b8 K).any λv=>decide (gh v &&& gh r=gh r) && gW (aR K) (ay 0 v) (ay 3 v) (b9 c) (aF c))
theorem BE {α:Type}(l:List α)(p f:α->Bool):((l.filter p).map f).any id=l.any λx=>p x && f x:=by
 induction l with
 |nil=>rfl
 |cons x l ih=>
  rw[List.filter_cons,List.any_cons,←ih];cases h:p x with
  |true=>rw[if_pos rfl,uY,List.any_cons];rfl
  |false=>rw[if_neg (by decide)];rfl
theorem OD {Z:List D}(g:∀r∈Z,cy r)(hl:Z.length<=60)(aa:Int)(bP:(aR (ak Z aa)).length<=60)(hn:((b8 (ak Z aa)).map (ay 0)).Nodup){ci ri:Nat}{c r:D}(hc:Z[ci]? = some c)(hr:Z[ri]? = some r)(kc:kindOf c = "call")(kr:kindOf r∈bN):
  mP [.tup Z,.int aa,.lst ((aR (ak Z aa)).map aY),.int ci,.int ri]=sF (.bl (OC (ak Z aa) c r)):=by
 have gC:fP Z:=⟨hl,λr hr=>(g r hr).c⟩;have gc:=g c (vL hc);have gr:=g r (vL hr);have ac:=bU hc;have ar:=bU hr;have pc:=wg gc (eQ (.inr kc));have pr:=wg gr (eQ (.inl kr));have SG:∀v∈b8 (ak Z aa),cy v/\bo v=true:=λv hv=>by
  obtain⟨x,hx,rfl⟩:=vO hv;obtain⟨h1,h2⟩:=vN hx;exact⟨g _ (vL (bI h1)),h2⟩
 have hrn:(b8 (ak Z aa)).length<=60:=by
  unfold b8;rw[vI];exact vR (vM _ _) (vR (cB Z aa) hl)
 have jT:aX [c]=sF (.int (aF c)):=by
  have:=sC gc.c;unfold tN at this;rwa [if_neg (by unfold bo;rw[kc];decide +kernel)]at this
 have XY:∀(v7:OB),aU (f2 cC (aj 6) (fA au (fV 5 (ae (fS "by") ai)))) [sF (.tup Z),sF (.int aa),sF (.lst ((aR (ak Z aa)).map aY)),sF (.int ci),sF (.int ri),some (r,false),sF (.str (b9 c)),v7]=some (decide (b9 c=b9 r)):=λv7=>cw (bw (.str (b9 c)) (.str (b9 r)) rfl (aI [r,.str "by"] rfl pr) (by simp));have XZ:∀(v7:OB),aU (f2 cC (fA aN (fV 5 ai)) (fS "copy")) [sF (.tup Z),sF (.int aa),sF (.lst ((aR (ak Z aa)).map aY)),sF (.int ci),sF (.int ri),some (r,false),sF (.str (b9 c)),v7]=some (decide (kindOf r = "copy")):=λv7=>bY (a:=kindOf r) (bb:=false) (aI [r] rfl (j5 gr.c)) rfl;refine av rfl (fB r (bw (.tup Z) (.int ri) rfl rfl (by simp[ar])) gr.flat (fB (.str (b9 c)) (aI [c,.str "by"] (bK (bw (.tup Z) (.int ci) rfl rfl (by simp[ac])) rfl) pc) rfl ?_));unfold OC;cases h1:decide (b9 c=b9 r) with
 |true=>exact bj ((XY none).trans (by rw[h1])) (az rfl)
 |false=>
  refine aC ((XY none).trans (by rw[h1])) ?_;cases h2:decide (kindOf r = "copy") with
  |true=>exact bj ((XZ none).trans (by rw[h2])) (az rfl)
  |false=>
   have kb:kindOf r∈cK:=by
    have oA:=of_decide_eq_false h2;have:∀k∈bN,k ≠ "copy"->k∈cK:=by decide +kernel
    exact this _ kr oA
   have pm:=xO gr kb;refine aC ((XZ none).trans (by rw[h2])) ?_;have MA:=gP (fi:=rE (fA eW (fV 0 (fV 1 ai)))) (nT:=1) (cap:=[5]) (tg:=dC 0) (c:=aU (fA iU (ae (fA au (fV 0 (ae (fS "matters") ai))) (ae (fA au (fV 1 (ae (fS "matters") ai))) ai)))) (fe:=aj 0)
    (Y:=[sF (.tup Z),sF (.int aa),sF (.lst ((aR (ak Z aa)).map aY)),sF (.int ci),sF (.int ri),some (r,false),sF (.str (b9 c)),none]) (b8 (ak Z aa)) id (λv=>decide (gh v &&& gh r=gh r)) id
    (by show(fA eW _ _).bind _=_;rw[aI [.tup Z,.int aa] rfl (lB gC aa),jf hn];simp) (by omega) λv hv=>by
     obtain⟨gv,BP⟩:=SG v hv;exact⟨[some (v,false),some (r,false)],rfl,cw (aI [.int (gh v),.int (gh r)] (aD (aI [v,.str "matters"] rfl (Di gv BP)) (aD (aI [r,.str "matters"] rfl pm) rfl)) (we _ _)),λ_=>⟨false,rfl⟩⟩
   rw[List.map_id]at MA;refine cj (ds:=(b8 (ak Z aa)).filter λv=>decide (gh v &&& gh r=gh r)) MA (bT λv hv=>(SG v (vN hv).1).1.flat) (az ?_);have Io:=nO (fi:=cu (aj 7)) (nT:=1) (cap:=[2,6,0,3]) (tg:=dC 0) (fe:=fA cR (fV 1 (fV 0 (fV 2 (ae (fA aX (ae (f2 bA (aj 3) (aj 4)) ai)) ai)))))
    (Y:=[sF (.tup Z),sF (.int aa),sF (.lst ((aR (ak Z aa)).map aY)),sF (.int ci),sF (.int ri),some (r,false),sF (.str (b9 c)),lT ((b8 (ak Z aa)).filter λv=>decide (gh v &&& gh r=gh r))]) ((b8 (ak Z aa)).filter λv=>decide (gh v &&& gh r=gh r)) id (λv=>.bl (gW (aR (ak Z aa)) (ay 0 v) (ay 3 v) (b9 c) (aF c)))
    (by simp) (vR (vM _ _) (by omega)) λv hv=>by
     obtain⟨gv,BP⟩:=SG v (vN hv).1;obtain⟨a,o,rl,m,f,rfl,_,_⟩:=lD gv BP;exact⟨[some (row a ("root" : Str) [.str o,.int m,.int f,.str rl],false),sF (.lst ((aR (ak Z aa)).map aY)),sF (.str (b9 c)),sF (.tup Z),sF (.int ci)],rfl,false,aI [.lst ((aR (ak Z aa)).map aY),row a ("root" : Str) [.str o,.int m,.int f,.str rl],.str (b9 c),.int (aF c)] (bK rfl (bK rfl (bK rfl (aD (aI [c] (bK (bw (.tup Z) (.int ci) rfl rfl (by simp[ac])) rfl) jT) rfl)))) (xJ _ bP _ _)⟩
   refine(aI [_] (aD Io rfl) ?_);show(tI _).map _=_;rw[z7,Option.map_some,BE];rfl
theorem BF (g:cy r)(h:kindOf r = "call"):∃a d b,∃n:Nat,r=row a ("call" : Str) [.int d,.str b,.int n]:=by
 obtain⟨a,k,aB,rfl,d⟩:=g;have hk:k = "call":=h;clear h;cases d with
 |copy k gg d b n=>subst hk;exact⟨a,d,b,n,rfl⟩
 |root=>exact cS hk
 |named=>exact cS hk
 |chosen=>exact cS hk
 |heir=>exact cS hk
 |three k gg=>rcases gg with rfl|rfl|rfl<;>exact cS hk
 |leave=>exact cS hk
 |paper k gg=>rcases gg with rfl|rfl<;>exact cS hk
def KH (Z:List D)(aa:Int)(ri:Nat)(r:D)(day:Int)(c:D):Bool:=decide (kindOf c = "call") && (decide (jb 2 c=ri) && (decide (aF c<=day) && (gB Z aa c && OC (ak Z aa) c r)))
theorem OE (e:f Y=some (.str a,bb)):aU (f2 tG f (fS b)) Y=some (!decide (a=b)):=cw (fZ (x:=.str a) (y:=.str b) (b1:=bb) (b2:=false) e rfl (by simp))
section
variable {Z:List D}(g:∀r∈Z,cy r) (hl:Z.length<=60) (aa:Int) (bP:(aR (ak Z aa)).length<=60) (hn:((b8 (ak Z aa)).map (ay 0)).Nodup)
include g hl bP hn
theorem Ah {ci ri:Nat}{c r:D}(hc:Z[ci]? = some c)(hr:Z[ri]? = some r)(kr:kindOf r∈bN)(day:Int):ko [.tup Z,.int aa,.lst ((aR (ak Z aa)).map aY),.int ci,.int ri,.int day]=sF (.bl (KH Z aa ri r day c)):=by
 have gc:=g c (vL hc);have ac:=bU hc;have tw:aU (f2 tG (fA aN (fV 6 ai)) (fS "call")) [sF (.tup Z),sF (.int aa),sF (.lst ((aR (ak Z aa)).map aY)),sF (.int ci),sF (.int ri),sF (.int day),some (c,false)]=some (!decide (kindOf c = "call")):=OE (a:=kindOf c) (bb:=false) (aI [c] rfl (j5 gc.c));refine av rfl (fB c (bw (.tup Z) (.int ci) rfl rfl (by simp[ac])) gc.flat ?_);unfold KH;by_cases hk:kindOf c = "call"
 ·obtain⟨a,d,b,n,ec⟩:=BF gc hk;have e1:jb 2 c=(n:Int):=by rw[ec];rfl
  have e2:aF c=d:=by rw[ec];rfl
  have po:au [c,.str "of"]=sF (.int n):=by rw[ec];exact bz (i:=2) dr rfl
  have pd:aX [c]=sF (.int d):=by
   have:=sC gc.c;unfold tN at this;rwa [if_neg (by unfold bo;rw[hk];decide +kernel),e2]at this
  have t2:aU (f2 tG (fA au (fV 6 (ae (fS "of") ai))) (aj 4)) [sF (.tup Z),sF (.int aa),sF (.lst ((aR (ak Z aa)).map aY)),sF (.int ci),sF (.int ri),sF (.int day),some (c,false)]=some (!decide ((n:Int)=ri)):=cw (bw (.int n) (.int ri) (aI [c,.str "of"] rfl po) rfl (by simp));have t3:aU (f2 DZ (fA aX (fV 6 ai)) (aj 5)) [sF (.tup Z),sF (.int aa),sF (.lst ((aR (ak Z aa)).map aY)),sF (.int ci),sF (.int ri),sF (.int day),some (c,false)]=some (decide (day<d)):=cw (bw (.int d) (.int day) (aI [c] rfl pd) rfl rfl);have tt:=cY tw λ_=>cY t2 λ_=>t3;rw[e1,e2,decide_eq_true hk,Bool.true_and];rw[decide_eq_true hk]at tt;by_cases h1:(n:Int)=ri
  ·by_cases h2:d<=day
   ·rw[decide_eq_true h1,decide_eq_true h2,Bool.true_and,Bool.true_and];rw[decide_eq_true h1,decide_eq_false (by omega)]at tt;exact aC tt (az (dm (aI [.tup Z,.int aa,.int ci] rfl (l8 Z (λr hr=>(g r hr).c.rp) (by omega) aa hc)) λ_=>aI [.tup Z,.int aa,.lst ((aR (ak Z aa)).map aY),.int ci,.int ri] rfl (OD g hl aa bP hn hc hr hk kr)))
   ·rw[decide_eq_false h2,Bool.false_and,Bool.and_false];rw[decide_eq_true h1,decide_eq_true (show day<d by omega)]at tt;exact bj tt (az rfl)
  ·rw[decide_eq_false h1,Bool.false_and];rw[decide_eq_false h1]at tt;exact bj tt (az rfl)
 ·rw[decide_eq_false hk,Bool.false_and];refine bj (cY (p:=true) (q:=false) (tw.trans (by rw[decide_eq_false hk];rfl)) λh=>by cases h) (az rfl)
def ie (Z:List D)(aa:Int)(ri:Nat)(r:D)(day:Int):List Nat:=if ba r<=aa/\kindOf r∈bN then ((ak Z aa).filter λx=>KH Z aa ri r day x.1).map (·.2)else []
theorem pU {ri:Nat}{r:D}(hr:Z[ri]? = some r)(day:Int):kq [.tup Z,.int aa,.lst ((aR (ak Z aa)).map aY),.int ri,.int day]=lT ((ie Z aa ri r day).map λn:Nat=>.int n):=by
 have gr:=g r (vL hr);have ar:=bU hr;have ID:cH [.tup Z,.int aa,.int ri]=sF (.bl (decide (ba r<=aa))):=by
  obtain⟨a,k,aB,e,d⟩:=gr;rw[e]at hr;rw[show ba r=a by rw[e];rfl];exact l7 hr aa
 have wd:∀Y:DL.Env,Y[0]? = some (sF (.tup Z))->Y[2]? = some (sF (.int ri))->fA aN (ae (f2 bA (aj 0) (aj 2)) ai) Y=sF (.str (kindOf r)):=λY h0 h2=>aI [r] (bK (bw (.tup Z) (.int ri) (by simp[h0]) (by simp[h2]) (by simp[ar])) rfl) (j5 gr.c);have M6:g9 [.tup Z,.int aa,.int ri]=sF (.bl (decide (ba r<=aa) && decide (kindOf r = "leave"))):=av rfl (az (dm (aI [.tup Z,.int aa,.int ri] rfl ID) λ_=>bw (.str (kindOf r)) (.str "leave") (wd _ rfl rfl) rfl (by simp)));have Wc:fN [.tup Z,.int aa,.int ri]=sF (.bl (decide (ba r<=aa) && decide (kindOf r∈[("paper" : Str),"like","copy"]))):=av rfl (az (dm (aI [.tup Z,.int aa,.int ri] rfl ID) λ_=>bw (.str (kindOf r)) (.tup ([("paper" : Str),"like","copy"].map .str)) (wd _ rfl rfl) rfl (iX _ _)));have hb:eM [.tup Z,.int aa,.int ri]=sF (.bl (decide (ba r<=aa/\kindOf r∈bN))):=by
  refine(av rfl (az (rL (aI [.tup Z,.int aa,.int ri] rfl M6) λ_=>aI [.tup Z,.int aa,.int ri] rfl Wc))).trans ?_;congr 3;simp only[bN,List.mem_cons,List.not_mem_nil,or_false];by_cases h1:ba r<=aa
  ·simp[h1]
  ·simp[h1]
 unfold ie;by_cases hx:ba r<=aa/\kindOf r∈bN
 ·rw[if_pos hx];refine av rfl (aC (bO (p:=true) (cw (aI [.tup Z,.int aa,.int ri] rfl (by rw[hb,decide_eq_true hx])))) (az ?_));have SI:=gP (fi:=cu (fA cM (fV 0 (fV 1 ai)))) (nT:=1) (cap:=[0,1,2,3,4]) (tg:=dC 0) (c:=aU (fA ko (fV 1 (fV 2 (fV 3 (fV 0 (fV 4 (fV 5 ai)))))))) (fe:=aj 0)
   (Y:=[sF (.tup Z),sF (.int aa),sF (.lst ((aR (ak Z aa)).map aY)),sF (.int ri),sF (.int day)]) (ak Z aa) (λx=>.int x.2) (λx=>KH Z aa ri r day x.1) (λx=>.int x.2)
   (by show(fA cM _ _).bind _=_;rw[aI [.tup Z,.int aa] rfl (l5 Z (λr hr=>(g r hr).c.rp) (by omega) aa)];rfl) (vR (cB Z aa) (by omega)) λx hx2=>by
    exact⟨_,rfl,cw (aI [.tup Z,.int aa,.lst ((aR (ak Z aa)).map aY),.int x.2,.int ri,.int day] rfl (Ah g hl aa bP hn (bI hx2) hr hx.2 day)),λ_=>⟨false,rfl⟩⟩
  rw[uP];exact SI
 ·rw[if_neg hx];exact av rfl (bj (bO (p:=false) (cw (aI [.tup Z,.int aa,.int ri] rfl (by rw[hb,decide_eq_false hx])))) (az (aI [] rfl (dw _ (by simp)))))
omit bP in
theorem Ai (ho:(cJ (ak Z aa)).length<=60){ri:Nat}{r:D}(hr:Z[ri]? = some r)(day:Int):lS [.tup Z,.int aa,.int ri,.int day]=lT ((ie Z aa ri r day).map λn:Nat=>.int n):=by
 obtain⟨ec,kQ⟩:=iG (Z:=Z) ⟨hl,λr hr=>(g r hr).c⟩ aa ho;exact av rfl (az (aI [.tup Z,.int aa,.lst ((aR (ak Z aa)).map aY),.int ri,.int day] (bK rfl (bK rfl (aD (aI [.tup Z,.int aa] rfl ec) (bK rfl (bK rfl rfl))))) (pU g hl aa kQ hn hr day)))
end
noncomputable def lX:List Str:=[("paper" : Str),"like","copy"]
noncomputable def yc (w:Str):Bs->D
 | (some o,n)=>.tup [.str "office",.str o,.int n]
 | (none,n)=>.tup [.str w,.int n]
def Dr (r:D):Str:=if kindOf r = "copy" then ("copy" : Str)else ("leave" : Str)
theorem EE (b:Bs):yc ("leave" : Str) b=A8 b:=by rcases b with⟨_|o,n⟩<;>rfl
theorem EF {Z:List D}{n:Nat}(h:Z.length<=n)(aa:Int):cH [.tup Z,.int aa,.int n]=sF (.bl false):=by
 refine av rfl (az (dm (p:=false) (q:=false) (b1:=false) ?_ λz=>by cases z));have h1:¬(n:Int)<Z.length:=by omega
 exact(z6 (p:=true) (q:=false) (x:=.int 0) (y:=.int n) (z:=.int Z.length) (b1:=false) (b2:=false) (b3:=false) (b4:=false) rfl rfl (by simp) (by simp) λ_=>by simp[h1])
theorem Hy {Z:List D}{i:Nat}{r:D}(hr:Z[i]? = some r)(g:cy r)(aa:Int):cH [.tup Z,.int aa,.int i]=sF (.bl (decide (ba r<=aa))):=by
 obtain⟨a,k,aB,rfl,d⟩:=g;exact l7 hr aa
theorem xT {Z:List D}{i:Nat}{r:D}(hr:Z[i]? = some r)(g:cy r){Y:DL.Env}{j:Nat}(h0:Y[0]? = some (sF (.tup Z)))(hj:Y[j]? = some (sF (.int i))):fA aN (ae (f2 bA (aj 0) (aj j)) ai) Y=sF (.str (kindOf r)) :=
 aI [r] (bK (bw (.tup Z) (.int i) (by simp[h0]) (by simp[hj]) (by simp[bU hr])) rfl) (j5 g.c)
theorem Aj {Z:List D}{i:Nat}{r:D}(hr:Z[i]? = some r)(g:cy r)(aa:Int):fN [.tup Z,.int aa,.int i]=sF (.bl (decide (ba r<=aa) && decide (kindOf r∈lX))) :=
 av rfl (az (dm (aI [.tup Z,.int aa,.int i] rfl (Hy hr g aa)) λ_=>bw (.str (kindOf r)) (.tup (lX.map .str)) (xT hr g rfl rfl) rfl (iX _ _)))
theorem Ak {Z:List D}{i:Nat}{r:D}(hr:Z[i]? = some r)(g:cy r)(aa:Int):eM [.tup Z,.int aa,.int i]=sF (.bl (decide (ba r<=aa) && decide (kindOf r∈bN))):=by
 refine(av rfl (az (rL (aI [.tup Z,.int aa,.int i] rfl (mW hr g)) λ_=>aI [.tup Z,.int aa,.int i] rfl (Aj hr g aa)))).trans ?_;congr 3;unfold jg;simp only[bN,lX,List.mem_cons,List.not_mem_nil,or_false];by_cases h1:ba r<=aa
 ·simp[h1]
 ·simp[h1]
def Al (Z:List D)(aa:Int)(r:D)(ri n:Nat):Bool:=match Z[n]? with
 |none=>false
 |some q=>(decide (ba q<=aa) && decide (kindOf q∈lX)) && fg (q,n) (r,ri)
theorem sV (g:cy r)(h:kindOf r = "copy"):∃a d b,∃n:Nat,r=row a ("copy" : Str) [.int d,.str b,.int n]:=by
 obtain⟨a,k,aB,rfl,d⟩:=g;have hk:k = "copy":=h;clear h;cases d with
 |copy k gg d b n=>subst hk;exact⟨a,d,b,n,rfl⟩
 |root=>exact cS hk
 |named=>exact cS hk
 |chosen=>exact cS hk
 |heir=>exact cS hk
 |three k gg=>rcases gg with rfl|rfl|rfl<;>exact cS hk
 |leave=>exact cS hk
 |paper k gg=>rcases gg with rfl|rfl<;>exact cS hk
theorem sW (h:kindOf r∈lX):bo r=false:=by
 have:∀k∈lX,decide (k = "root")=false:=by decide +kernel
 exact this _ h
theorem EG {Z:List D}(g:∀r∈Z,cy r)(aa:Int){ri:Nat}{r:D}(hr:Z[ri]? = some r)(kc:kindOf r = "copy"):∃n:Nat,jb 2 r=n/\ky [.tup Z,.int aa,.int ri]=lT ((if Al Z aa r ri n=true then [((none,(n:Int)):Bs)]else []).map (yc ("copy" : Str))):=by
 have gr:=g r (vL hr);obtain⟨a,d,b,n,er⟩:=sV gr kc;have nr:bo r=false:=sW (by rw[kc];decide +kernel);have po:au [r,.str "of"]=sF (.int n):=by rw[er];exact bz (i:=2) dr rfl
 refine⟨n,by rw[er];rfl,?_⟩;let E:DL.Env:=[sF (.tup Z),sF (.int aa),sF (.int ri),sF (.int n)];refine av rfl (fB (.int n) (aI [r,.str "of"] (bK (bw (.tup Z) (.int ri) rfl rfl (by simp[bU hr])) rfl) po) rfl ?_);have tt:cA (aU (fA fN (fV 0 (fV 1 (fV 3 ai))))) (aU (fA gA (fV 0 (fV 3 (fV 2 ai))))) E=some (Al Z aa r ri n):=by
  unfold Al;cases hq:Z[n]? with
  |none=>
   have hn:Z.length<=n:=List.getElem?_eq_none_iff.mp hq;exact cF (p:=false) (q:=false) (cw (aI [.tup Z,.int aa,.int n] rfl (av rfl (az (dm (p:=false) (q:=false) (aI [.tup Z,.int aa,.int n] rfl (EF hn aa)) λz=>by cases z))))) λz=>by cases z
  |some q=>
   have gq:=g q (vL hq);exact cF (cw (aI [.tup Z,.int aa,.int n] rfl (Aj hq gq aa))) λh=>by
    rw[vC]at h;exact cw (aI [.tup Z,.int n,.int ri] rfl (Ad hq hr gq gr (sW (of_decide_eq_true h.2)) nr))
 cases hv:Al Z aa r ri n with
 |true=>
  rw[hv]at tt;rw[if_pos rfl];exact bj tt (az (aI [.tup [.str "copy",.int n]] (bK (aI [.str "copy",.int n] rfl (bL _ (by simp))) rfl) (dw _ (by simp))))
 |false=>
  rw[hv]at tt;rw[if_neg (by decide)];exact aC tt (az (aI [] rfl (dw _ (by simp))))
def sX (Z:List D)(aa:Int)(cs:List Cl)(x:D×Nat):List Bs:=if kindOf x.1 = "copy" then (if Al Z aa x.1 x.2 (jb 2 x.1).toNat=true then [(none,jb 2 x.1)]else [])else KG (ak Z aa) cs x.1 x.2
section
variable {Z:List D}(g:∀r∈Z,cy r) (hl:Z.length<=30) (aa:Int) (hn:((b8 (ak Z aa)).map (ay 0)).Nodup)
include g hl hn
theorem Ds (cs:List Cl)(ye:cs.length<=60){ri:Nat}{r:D}(hr:Z[ri]? = some r)(kr:kindOf r∈bN)(hk:ba r<=aa):eN [.tup Z,.int aa,.lst (cs.map aY),.int ri]=lT ((sX Z aa cs (r,ri)).map (yc (Dr r))):=by
 have gr:=g r (vL hr);unfold sX Dr;by_cases kc:kindOf r = "copy"
 ·rw[if_pos kc,if_pos kc];obtain⟨n,e1,e2⟩:=EG g aa hr kc;rw[e1,Int.toNat_natCast];refine av rfl (aC (bO (p:=true) (cw (aI [.tup Z,.int aa,.int ri] rfl ((Ak hr gr aa).trans (by rw[decide_eq_true hk,decide_eq_true kr];rfl))))) (bj (bY (a:=kindOf r) (bb:=false) (xT hr gr rfl rfl) (decide_eq_true kc)) (az (aI [.tup Z,.int aa,.int ri] rfl e2))))
 ·rw[if_neg kc,if_neg kc];have kb:kindOf r∈cK:=by
   have:∀k∈bN,k ≠ "copy"->k∈cK:=by decide +kernel
   exact this _ kr kc
  rw[show yc ("leave" : Str)=A8 from funext EE];exact Ag g hl aa hn cs ye hr kb hk
end
theorem OF (e:f (nA Y)=some (d,b))(k:h (Y.set i (some (d,false)))=r):a9 (yx i f) h Y=r:=dE (ρ':=Y.set i (some (d,false))) (by simp only[yx,e,Option.map_some]) k
theorem Dt (e:Y[i]? = some (some (.dk ks vs,b))):iI i Y=some (.rt (.dk ks vs) false):=by simp[iI,e]
noncomputable def kN (x:D×Nat):cE:=.inl (x.2:Int)
def xU (Z:List D)(aa day:Int)(x:D×Nat):Bool:=(gB Z aa x.1 && decide (aF x.1<=day)) && (ie Z aa x.2 x.1 day).isEmpty
theorem Du {α:Type}(l:List α)(f:α->D):decide ((((l.map f).length:Nat):Int)=0)=l.isEmpty:=by
 cases l with
 |nil=>rfl
 |cons a l=>rw[uY,vE];exact decide_eq_false (by omega)
noncomputable def mf (Z:List D)(aa day:Int)(l:KL):KL:=l.filter λx=>decide (kindOf x.1∈bN) && xU Z aa day x
section
variable {Z:List D}(g:∀r∈Z,cy r) (hl:Z.length<=30) (aa:Int) (hn:((b8 (ak Z aa)).map (ay 0)).Nodup)
include g hl hn
theorem OG (bP:(aR (ak Z aa)).length<=60){ri:Nat}{r:D}(hr:Z[ri]? = some r)(kr:kindOf r∈bN)(day:Int):nW [.tup Z,.int aa,.lst ((aR (ak Z aa)).map aY),.int ri,.int day]=sF (.bl (xU Z aa day (r,ri))):=by
 have gr:=g r (vL hr);have nr:bo r=false:=by
  have:∀k∈bN,decide (k = "root")=false:=by decide +kernel
  exact this _ kr
 let E:DL.Env:=[sF (.tup Z),sF (.int aa),sF (.lst ((aR (ak Z aa)).map aY)),sF (.int ri),sF (.int day)];have t1:aU (fA cI (fV 0 (fV 1 (fV 3 ai)))) E=some (gB Z aa r):=cw (aI [.tup Z,.int aa,.int ri] rfl (l8 Z (λr hr=>(g r hr).c.rp) (by omega) aa hr));have t2:aU (f2 DZ (fA aX (ae (f2 bA (aj 0) (aj 3)) ai)) (aj 4)) E=some (decide (day<aF r)):=cw (bw (.int (aF r)) (.int day) (aI [r] (bK (bw (.tup Z) (.int ri) rfl rfl (by simp[bU hr])) rfl) (px gr nr)) rfl rfl);have tt:=cY (bO t1) λ_=>t2;have e:(!gB Z aa r || decide (day<aF r)) = !(gB Z aa r && decide (aF r<=day)):=by
  rw[Bool.not_and];congr 1;rw[←decide_not];congr 1;rw[Int.not_le]
 rw[e]at tt;unfold xU;cases hA:(gB Z aa r && decide (aF r<=day)) with
 |false=>
  rw[hA]at tt;exact av rfl (bj tt (az rfl))
 |true=>
  rw[hA]at tt;refine av rfl (aC tt (az ?_));rw[Bool.true_and,←Du (ie Z aa ri r day) λn:Nat=>.int n];exact bw (.int (((ie Z aa ri r day).map λn:Nat=>D.int n).length:Nat)) (.int 0) (aI [.lst ((ie Z aa ri r day).map λn:Nat=>.int n)] (aD (aI [.tup Z,.int aa,.lst ((aR (ak Z aa)).map aY),.int ri,.int day] rfl (pU g (by omega) aa bP hn hr day)) rfl) rfl) rfl (by simp)
theorem Am (ho:(cJ (ak Z aa)).length<=60)(day:Int):nX [.tup Z,.int aa,.int day]=sF (.dk ((mf Z aa day (cJ (ak Z aa))).map kN) ((mf Z aa day (cJ (ak Z aa))).map λx=>.lst ((sX Z aa (aR (ak Z aa)) x).map (yc (Dr x.1))))):=by
 have gC:fP Z:=⟨by omega,λr hr=>(g r hr).c⟩;obtain⟨ec,kQ⟩:=iG (Z:=Z) gC aa ho;have eL:eK [.tup Z,.int aa]=lT ((cJ (ak Z aa)).map λx=>.int x.2):=pQ gC aa;generalize ye:aR (ak Z aa)=cs at ec kQ ⊢;have p4:∀x∈cJ (ak Z aa),x∈ak Z aa:=λx hx=>(vN ((bG _ _).mem_iff.mp hx)).1;have Lm:((cJ (ak Z aa)).map (·.2)).Nodup:=lW (eX Z aa);generalize cJ (ak Z aa)=O at ho eL p4 Lm ⊢;let vD:D×Nat->D:=λx=>.lst ((sX Z aa cs x).map (yc (Dr x.1)));let E:KL->OB->DL.Env:=λL v5=>[sF (.tup Z),sF (.int aa),sF (.int day),sF (.lst (cs.map aY)),some (.dk (L.map kN) (L.map vD),true),v5];obtain⟨ρ',e,v5,rfl⟩:=iQ (tg:=dC 5) (g:=zD) (λj Y=>∃v5,Y=E (mf Z aa day (O.take j)) v5) (O.map λx=>.int x.2) (E [] none) ⟨none,rfl⟩ (by
  rintro j d Y hd ⟨v5,rfl⟩;rw[vA]at hd;obtain⟨x,hx,rfl⟩:=oY hd;have TB:=p4 x (vL hx);have hr:=bI TB;have ID:ba x.1<=aa:=of_decide_eq_true (vN TB).2;have gx:=g x.1 (vL hr);have et:O.take (j+1)=O.take j++[x]:=by rw[List.take_add_one,hx];rfl
  have ef:mf Z aa day (O.take (j+1))=mf Z aa day (O.take j)++if(decide (kindOf x.1∈bN) && xU Z aa day x)=true then [x]else []:=by
   unfold mf;rw[et,List.filter_append,List.filter_cons];split<;>rfl
  have Ya:x.2∉(mf Z aa day (O.take j)).map (·.2):=by
   have h2:((O.take (j+1)).map (·.2)).Nodup:=List.Nodup.sublist (List.Sublist.map _ (List.take_sublist _ _)) Lm;rw[et,uW,List.nodup_append]at h2;intro hm;obtain⟨y,hy,ey⟩:=vO hm;exact h2.2.2 _ (uS ⟨y,(vN hy).1,rfl⟩) _ (by simp) ey
  have hLl:(mf Z aa day (O.take j)).length<=60:=vR (vM _ _) (vR (List.length_take_le' _ _) ho);generalize mf Z aa day (O.take j)=L at ef Ya hLl;let F:DL.Env:=E L (sF (.int x.2));have t1:aU (fA eM (fV 0 (fV 1 (fV 5 ai)))) F=some (decide (kindOf x.1∈bN)):=cw (aI [.tup Z,.int aa,.int x.2] rfl ((Ak hr gx aa).trans (by rw[decide_eq_true ID,Bool.true_and])));have tt:=cF t1 λh=>cw (f:=fA nW (fV 0 (fV 1 (fV 3 (fV 5 (fV 2 ai)))))) (aI [.tup Z,.int aa,.lst (cs.map aY),.int x.2,.int day] rfl (by rw[←ye];exact OG g hl aa hn (by rw[ye];exact kQ) hr (of_decide_eq_true h) day));refine⟨F,E (L++if(decide (kindOf x.1∈bN) && xU Z aa day x)=true then [x]else []) (sF (.int x.2)),rfl,.inl (O2 tt (λh=>?_) λh=>?_),sF (.int x.2),by rw[ef]⟩
  ·rw[if_pos h];have kb:kindOf x.1∈bN:=by rw[vC]at h;exact of_decide_eq_true h.1
   have Pj:rG 4 (aj 5) (fA eN (fV 0 (fV 1 (fV 3 (fV 5 ai))))) F=some (.nx (F.set 4 (some (.dk (dW (L.map kN) (kN x)) (dX (L.map kN) (L.map vD) (kN x) (vD x)),true)))):=by
    have ev:fA eN (fV 0 (fV 1 (fV 3 (fV 5 ai)))) (nA F)=some (vD x,true):=aI [.tup Z,.int aa,.lst (cs.map aY),.int x.2] rfl (Ds g hl aa hn cs kQ hr kb ID);show((fA eN _ (nA F)).bind _)=_;rw[ev];simp only[vJ];exact if_pos (c:=(L.map kN).length<sizeLine) (bM (by rw[vI];omega))
   rw[Pj];have hk:kN x∉L.map kN:=λhm=>by
    obtain⟨y,hy,ey⟩:=vO hm;exact Ya (uS ⟨y,hy,by have:=Sum.inl.inj (show(Sum.inl (y.2:Int):cE)=Sum.inl (x.2:Int)from ey);omega⟩)
   unfold dW dX;rw[if_neg hk,if_neg hk];simp[F,E]
  ·rw[h,if_neg (by decide),uQ];rfl)
 rw[vI,List.take_length]at e;exact av rfl (OF (aI [.tup Z,.int aa] rfl ec) (dE (ρ':=E [] none) rfl (dE (lQ (ds:=O.map λx=>.int x.2) (by show(fA eK _ _).bind _=_;rw[aI [.tup Z,.int aa] rfl eL];rfl) e) (Dt (b:=true) rfl))))
end
noncomputable def nK (n:Nat):cE:=.inl (n:Int)
noncomputable def EH:Nat->D:=λ_=>.bl true
noncomputable def m9 (S:List Nat)(b:Bs):Bool:=b.1.isSome || S.any λn=>decide ((n:Int)=b.2)
noncomputable def gZ (S:List Nat)(p:Nat×List Bs):List Nat:=if p.2.any (m9 S)=true then S++[p.1]else S
noncomputable def j8 (l:List (Nat×List Bs)):List Nat:=l.foldl gZ []
theorem sY (n:Int):∀S:List Nat,(cz (S.map nK) (S.map EH) (.inl n)).isSome=S.any λm=>decide ((m:Int)=n)
 |[]=>rfl
 |m::S=>by
  rw[uY,uY,cz,List.any_cons];by_cases h:(m:Int)=n
  ·rw[if_pos (show nK m=.inl n by unfold nK;rw[h]),decide_eq_true h];rfl
  ·rw[if_neg (show ¬nK m=.inl n from λz=>h (Sum.inl.inj z)),decide_eq_false h,sY n S];rfl
theorem Hz (hw:decide (w=("office" : Str))=false)(S:List Nat)(b:Bs):nY [yc w b,.dk (S.map nK) (S.map EH)]=sF (.bl (m9 S b)):=by
 unfold m9;rcases b with⟨_|o,n⟩
 ·refine av rfl (az (rL (p:=false) (b1:=false) (bw (.str w) (.str "office") rfl rfl (by simp[of_decide_eq_false hw])) λ_=>bw (.int n) (.dk (S.map nK) (S.map EH)) rfl rfl ?_));show some (D.bl (cz (S.map nK) (S.map EH) (.inl n)).isSome,false)=_;rw[sY]
 ·exact av rfl (az (rL (p:=true) (q:=S.any λm=>decide ((m:Int)=n)) (b1:=false) (bw (.str "office") (.str "office") rfl rfl (by simp)) λh=>by cases h))
theorem any_map {α:Type}(l:List α)(f:α->Bool):Gd [.lst (l.map λx=>.bl (f x))]=sF (.bl (l.any f)):=by
 show(tI _).map _=_;rw[z7,Option.map_some,List.any_map];rfl
theorem HA (h:m∈gZ S p):m∈S∨m=p.1:=by
 unfold gZ at h;split at h
 ·simpa using h
 ·exact .inl h
theorem wm:∀(l:List (Nat×List Bs))(S:List Nat)(m:Nat),m∈l.foldl gZ S->m∈S∨m∈l.map (·.1)
 |[],_,_,h=>.inl h
 |p::l,S,m,h=>by
  rcases wm l _ m h with h|h
  ·rcases HA h with h|rfl
   ·exact .inl h
   ·exact .inr (by simp)
  ·exact .inr (mZ _ h)
abbrev Rs:=Nat×Str×List Bs
noncomputable def Mn (p:Rs):D:=.lst (p.2.2.map (yc p.2.1))
noncomputable def Dv (p:Rs):Nat×List Bs:=(p.1,p.2.2)
theorem An (l:List Rs)(hl:l.length<=60)(hw:∀p∈l,decide (p.2.1 = "office")=false)(hb:∀p∈l,p.2.2.length<=100)(hn:(l.map (·.1)).Nodup):nZ [.dk (l.map λp=>nK p.1) (l.map Mn)]=sF (.dk ((j8 (l.map Dv)).map nK) ((j8 (l.map Dv)).map EH)):=by
 let E:List Nat->OB->OB->DL.Env:=λS v2 v3=>[sF (.dk (l.map λp=>nK p.1) (l.map Mn)),some (.dk (S.map nK) (S.map EH),true),v2,v3];have EX:mM (l.map λp=>nK p.1) (l.map Mn)=l.map λp=>.tup [.int (p.1:Int),Mn p]:=by
  unfold mM;rw[List.zip_map',uP];rfl
 obtain⟨ρ',e,v2,v3,rfl⟩:=iQ (tg:=P5 [2,3]) (g:=zE) (λj Y=>∃v2 v3,Y=E (j8 ((l.take j).map Dv)) v2 v3) (l.map λp=>.tup [.int (p.1:Int),Mn p]) (E [] none none) ⟨none,none,rfl⟩ (by
  rintro j d Y hd ⟨v2,v3,rfl⟩;rw[vA]at hd;obtain⟨p,hp,rfl⟩:=oY hd;have T2:=vL hp;have et:l.take (j+1)=l.take j++[p]:=by rw[List.take_add_one,hp];rfl
  have es:j8 ((l.take (j+1)).map Dv)=gZ (j8 ((l.take j).map Dv)) (Dv p):=by
   rw[et,uW];unfold j8;rw[List.foldl_append];rfl
  have PU:p.1∉j8 ((l.take j).map Dv):=λhm=>by
   have h2:((l.take (j+1)).map (·.1)).Nodup:=List.Nodup.sublist (List.Sublist.map _ (List.take_sublist _ _)) hn;rw[et,uW,List.nodup_append]at h2;rcases wm _ _ _ hm with h|h
   ·cases h
   ·rw[uP]at h;exact h2.2.2 _ h _ (by simp) rfl
  have T5:(j8 ((l.take j).map Dv)).length<=60:=by
   have:∀(q:List (Nat×List Bs))(S:List Nat),(q.foldl gZ S).length<=S.length+q.length:=λq=>by
    induction q with
    |nil=>intro S;exact vT _
    |cons a q ih=>
     intro S;refine vR (ih _) ?_;unfold gZ;split
     ·rw[uZ,vE,List.length_nil,vE];omega
     ·rw[vE];omega
   have h3:=this ((l.take j).map Dv) [];rw[vI,List.length_take,List.length_nil]at h3;exact vR h3 (by omega)
  generalize j8 ((l.take j).map Dv)=S at es PU T5;let F:DL.Env:=E S (sF (.int (p.1:Int))) (some (Mn p,false));have hc:=nO (fi:=cu (aj 3)) (nT:=1) (cap:=[1]) (tg:=dC 0) (fe:=fA nY (fV 0 (fV 1 ai))) (Y:=F) p.2.2 (yc p.2.1) (λb=>.bl (m9 S b)) rfl (by have:=hb p T2;omega) λb _=>⟨[some (yc p.2.1 b,false),sF (.dk (S.map nK) (S.map EH))],rfl,false,aI [yc p.2.1 b,.dk (S.map nK) (S.map EH)] rfl (Hz (hw p T2) S b)⟩;have t1:aU (fA Gd (ae (bV (cu (aj 3)) 1 [1] (dC 0) iJ (fA nY (fV 0 (fV 1 ai)))) ai)) F=some (p.2.2.any (m9 S)):=cw (aI [.lst (p.2.2.map λb=>.bl (m9 S b))] (aD hc rfl) (any_map _ _));refine⟨F,E (gZ S (Dv p)) (sF (.int (p.1:Int))) (some (Mn p,false)),rfl,.inl (O2 t1 (λh=>?_) λh=>?_),_,_,by rw[es]⟩
  ·have hk:nK p.1∉S.map nK:=λhm=>by
    obtain⟨y,hy,ey⟩:=vO hm;have:=Sum.inl.inj (show(Sum.inl (y:Int):cE)=Sum.inl (p.1:Int)from ey);exact PU (by rw[show p.1=y by omega];exact hy)
   have Pj:zv 1 (aj 2) (fC (.bl true)) F=some (.nx (F.set 1 (some (.dk (dW (S.map nK) (nK p.1)) (dX (S.map nK) (S.map EH) (nK p.1) (.bl true)),true)))):=if_pos (c:=bq (.bl true)=true/\(S.map nK).length<sizeLine) ⟨rfl,bM (by rw[vI];omega)⟩;rw[Pj];unfold dW dX gZ;rw[if_neg hk,if_neg hk,if_pos (show(Dv p).2.any (m9 S)=true from h)];simp[F,E,Dv,EH]
  ·unfold gZ;rw[if_neg (show ¬(Dv p).2.any (m9 S)=true by show ¬p.2.2.any (m9 S)=true;rw[h];decide)];rfl)
 rw[vI,List.take_length]at e;exact av rfl (dE (ρ':=E [] none none) rfl (dE (lQ (ds:=l.map λp=>.tup [.int (p.1:Int),Mn p]) (by show some (mM _ _)=_;rw[EX]) e) (Dt (b:=true) rfl)))
theorem wn:∀S:List Nat,vj (S.map nK)=some (S.map λ(n:Nat)=>(n:Int))
 |[]=>rfl
 |n::S=>by
  show(vj (S.map nK)).map _=_;rw[wn S];rfl
theorem Ao {α β:Type}(g:α->β)(f:β->List Int)(x:α):∀l:List α,oP f (g x) (l.map g)=(oP (λa=>f (g a)) x l).map g
 |[]=>rfl
 |y::r=>by
  rw[uY,oP,oP];split
  ·rw[uY,Ao g f x r]
  ·rfl
theorem wo {α β:Type}(g:α->β)(f:β->List Int):∀l:List α,eY f (l.map g)=(eY (λa=>f (g a)) l).map g
 |[]=>rfl
 |x::l=>by
  show oP f (g x) (eY f (l.map g))=(oP (λa=>f (g a)) x (eY (λa=>f (g a)) l)).map g;rw[wo g f l,Ao]
theorem OH (e:f Y=some (.tup [x,y],b))(hx:bq x=true)(hy:bq y=true)(k:h ((Y.set i (some (x,false))).set j (some (y,false)))=r):a9 (yS [i,j] f) h Y=r:=by
 refine dE (ρ':=(Y.set i (some (x,false))).set j (some (y,false))) ?_ k;have hn:bB [x,y]=true:=by simp[hx,hy]
 simp only[yS,e,vJ,gk,hn,if_true];simp[gm]
theorem HB (n:Int)(S:List Nat):Ix (.int n) (S.map λ(m:Nat)=>D.int (m:Int))=S.any λm=>decide ((m:Int)=n):=by
 unfold Ix;induction S with
 |nil=>rfl
 |cons m S ih=>
  rw[uY,List.any_cons,ih,List.any_cons];by_cases h:(m:Int)=n
  ·simp[h]
  ·simp[h,Ne.symm h]
def mB (Z:List D)(aa:Int)(x:D×Nat):List Bs:=sX Z aa (aR (ak Z aa)) x
def ig (Z:List D)(aa day:Int):List Nat:=j8 ((mf Z aa day (cJ (ak Z aa))).map λx=>(x.2,mB Z aa x))
def pV (S:List Nat):List D:=(ra (S.map λ(n:Nat)=>(n:Int))).map .int
theorem HC (r:D):decide (Dr r = "office")=false:=by
 unfold Dr;split
 ·decide +kernel
 ·decide +kernel
theorem xV (h:kindOf r∈bN):bo r=false:=by
 have:∀k∈bN,decide (k = "root")=false:=by decide +kernel
 exact this _ h
section
variable {Z:List D}(g:∀r∈Z,cy r) (hl:Z.length<=30) (aa:Int) (hn:((b8 (ak Z aa)).map (ay 0)).Nodup) (ho:(cJ (ak Z aa)).length<=60)
include hl
theorem Ap (x:D×Nat):(mB Z aa x).length<=60:=by
 unfold mB sX;split
 ·split
  ·exact(by decide:1<=60)
  ·exact uN _
 ·unfold KG;rw[(bG _ _).length_eq];exact Dq hl aa _ _ _
theorem EI (day:Int):(ig Z aa day).length<=60:=by
 have:∀(q:List (Nat×List Bs))(S:List Nat),(q.foldl gZ S).length<=S.length+q.length:=λq=>by
  induction q with
  |nil=>intro S;exact vT _
  |cons a q ih=>
   intro S;refine vR (ih _) ?_;unfold gZ;split
   ·rw[uZ,vE,List.length_nil,vE];omega
   ·rw[vE];omega
 have h3:=this ((mf Z aa day (cJ (ak Z aa))).map λx=>(x.2,mB Z aa x)) [];have h4:(cJ (ak Z aa)).length<=30:=by
  unfold cJ;rw[(bG _ _).length_eq];exact vR (vM _ _) (vR (cB Z aa) hl)
 have h5:(mf Z aa day (cJ (ak Z aa))).length<=30:=vR (vM _ _) h4;rw[vI,List.length_nil]at h3;exact vR h3 (by omega)
include g hn ho
theorem Aq (day:Int):mQ [.tup Z,.int aa,.int day]=lT (pV (ig Z aa day)):=by
 have el:=Am g hl aa hn ho day;have h4:(mf Z aa day (cJ (ak Z aa))).length<=60:=vR (vM _ _) ho;have es:=An ((mf Z aa day (cJ (ak Z aa))).map λx=>(x.2,Dr x.1,mB Z aa x)) (by rw[vI];exact h4)
  (λp hp=>by obtain⟨x,_,rfl⟩:=vO hp;exact HC _) (λp hp=>by obtain⟨x,_,rfl⟩:=vO hp;exact vR (Ap hl aa x) (by decide))
  (by rw[uP];exact List.Nodup.sublist (List.Sublist.map _ List.filter_sublist) (lW (eX Z aa)))
 rw[uP,uP,uP]at es;refine av rfl (az (aI [_] (aD (aI [_] (aD (aI [.tup Z,.int aa,.int day] rfl el) rfl) es) rfl) ?_));show(vj ((ig Z aa day).map nK)).bind _=_;rw[wn,vJ,if_pos (by rw[vI];have:=EI hl aa day;omega)];rfl
end
def P7 (K:KL)(so:List Cl):Prop:=∀c∈so,(gp K c.o).isSome=true
theorem pW (h:cG K so x=true)(hk:kindOf x.1∈tP):(gp K (xM x.1)).isSome=true:=by
 unfold cG at h;rw[if_neg (by intro e;rw[e]at hk;exact cS hk),if_pos hk]at h;cases e:gp K (xM x.1) with
 |none=>rw[e]at h;cases h
 |some v=>rfl
theorem HD {K:KL}{st:Mi}{x:D×Nat}(h:P7 K st.1):P7 K (dY K st x).1:=by
 unfold dY;split
 ·rename_i hc;split
  ·rename_i hk;intro c hm;rcases List.mem_append.mp hm with hm|hm
   ·exact h c hm
   ·rw[uT hm];have:=pW hc (by rw[hk];decide +kernel);unfold xM at this;rwa [if_pos hk]at this
  ·rename_i hn;have Qj:xM x.1=ay 2 x.1:=if_neg hn;split
   ·rename_i hk;intro c hm;rcases List.mem_append.mp hm with hm|hm
    ·obtain⟨c',h1,h2,_⟩:=iF hm;rw[←h2];exact h c' h1
    ·rw[uT hm,←Qj];exact pW hc (by rw[hk];decide +kernel)
   ·split
    ·exact h
    ·intro c hm;rcases List.mem_append.mp hm with hm|hm
     ·obtain⟨c',h1,h2,_⟩:=iF hm;rw[←h2];exact h c' h1
     ·obtain⟨o,h1,h2⟩:=List.mem_flatMap.mp hm;have ho:c.o=o:=by
       unfold dN at h2;split at h2
       ·split at h2
        ·rw[uT h2]
        ·cases h2
       ·cases h2
      obtain⟨c',h3,h4⟩:=Hi h1;rw[ho,←h4];exact h c' h3
 ·exact h
theorem Ar (K:KL):∀(l:KL)(st:Mi),P7 K st.1->P7 K (l.foldl (dY K) st).1
 |[],_,h=>h
 |_::l,_,h=>Ar K l _ (HD h)
theorem Dw (K:KL):P7 K (aR K):=λc hc=>Ar K (cJ K) ([],[],[]) (λ_ h=>nomatch h) c ((bG _ _).mem_iff.mp hc)
theorem lY (hn:((b8 K).map (ay 0)).Nodup)(h:gp K o=some v):v∈b8 K:=by
 unfold gp at h;rw[jf hn]at h;exact oz h
theorem wt:∀ {vs:List D}{o:Str}{v:D},cz (vs.map λv=>(.inr (ay 0 v):cE)) vs (.inr o)=some v->ay 0 v=o
 |w::vs,o,v,h=>by
  rw[uY,cz]at h;split at h
  ·rename_i e;cases h
   exact Sum.inr.inj e
  ·exact wt h
theorem sZ (hn:((b8 K).map (ay 0)).Nodup)(h:gp K o=some v):ay 0 v=o:=by
 unfold gp at h;rw[jf hn]at h;exact wt h
def Sd (d:D):Prop:=d=.non∨∃s,d=.str s
theorem Sd.flat (h:Sd d):bq d=true:=by rcases h with rfl|⟨s,rfl⟩<;>rfl
theorem Sd.plain (h:Sd d)(n:Nat):aq n d=true:=by rcases h with rfl|⟨s,rfl⟩<;>simp
theorem As (r v:D):Sd (j6 r v):=by unfold j6;repeat' (first|exact .inr ⟨_,rfl⟩|exact .inl rfl|split)
theorem Dx (cs:List Cl)(r v:D):Sd (lE cs r v):=by unfold lE;split<;>first|exact As _ _|exact .inr ⟨_,rfl⟩
theorem Dy (r:D)(ri:Nat)(x:D×Nat):Sd (o6 r ri x):=by unfold o6;repeat' (first|exact As _ _|exact .inr ⟨_,rfl⟩|split)
def BG (K:KL)(o:Str):D:=(gp K o).getD .non
def pX (cs:List Cl)(p:Str):List Str:=lf (iN ((cs.filter λc=>decide (c.p=p)).map (·.o)))
def Mo (K:KL)(cs:List Cl)(r:D)(o:Str):D:=.tup [.str "office",.str o,lE cs r (BG K o)]
def KI (r:D)(ri:Nat)(x:D×Nat):D:=.tup [.str "leave",.int x.2,if qm r ri x=true then .str "falls" else o6 r ri x]
def Pl (d:D):Prop:=bq d=true/\aq 5 d=true
theorem HE (hd:Sd d):Pl (.tup [.str w,.str o,d])/\Pl (.tup [.str w,.int n,d]):=⟨⟨by simp[hd.flat],by simp[hd.plain]⟩,⟨by simp[hd.flat],by simp[hd.plain]⟩⟩
theorem Dz {ds:List D}(h:∀d∈ds,Pl d):bB ds=true:=bT λd hd=>(h d hd).1
theorem Au {ds:List D}(h:∀d∈ds,Pl d):aq 40 (.lst ds)=true:=by
 simp only[aq,List.all_eq_true];exact λd hd=>iW 5 39 _ (by decide) (h d hd).2
theorem Mp (r:D)(ri:Nat)(x:D×Nat):Pl (KI r ri x):=by unfold KI;refine(HE (o:=("" : Str)) ?_).2;split<;>first|exact Dy _ _ _|exact .inr ⟨_,rfl⟩
theorem Mq {c:FT}{f g:FE}(e:c Y=some true)(k:f Y=x):Jk c f g Y=x:=by unfold Jk;rw[e];exact k
theorem Mr {c:FT}{f g:FE}(e:c Y=some false)(k:g Y=x):Jk c f g Y=x:=by unfold Jk;rw[e];exact k
theorem wu (hr:P7 K cs)(h:o∈pX cs p):∃v,gp K o=some v:=by
 rcases jd _ _ _ ((dG _).mem_iff.mp h)with h|h
 ·cases h
 ·obtain⟨c,hc,rfl⟩:=vO h;exact uU (hr c (vN hc).1)
theorem ww (kQ:cs.length<=60)(p:Str):(pX cs p).length<=60:=by
 unfold pX;rw[(dG _).length_eq];exact vR (nG _) (by rw[vI];exact vR (vM _ _) kQ)
theorem D0 {f:FE}{Y:DL.Env}(kQ:cs.length<=60)(p:Str)(hc:f Y=lT ((cs.filter λc=>decide (c.p=p)).map λc=>.str c.o)):f1 eI f Y=lT ((pX cs p).map .str):=by
 have e2:(cs.filter λc=>decide (c.p=p)).map (λc=>D.str c.o)=((cs.filter λc=>decide (c.p=p)).map (·.o)).map .str:=by rw[uP];rfl
 rw[e2]at hc;unfold f1;rw[hc,vJ];show(iq (((cs.filter λc=>decide (c.p=p)).map (·.o)).map .str)).bind _=_;rw[oy,vJ,if_pos (by rw[vI];exact Nat.lt_of_le_of_lt (vM _ _) (by omega))];rfl
section
variable {Z:List D}(g:∀r∈Z,cy r) (hl:Z.length<=30) (aa:Int) (hn:((b8 (ak Z aa)).map (ay 0)).Nodup) (ho:(cJ (ak Z aa)).length<=60)
include g hl hn ho
theorem BH {ri:Nat}{r:D}(hr:Z[ri]? = some r)(kr:kindOf r∈cK):fG [.tup Z,.int aa,.int ri]=lT ((pX (aR (ak Z aa)) (b9 r)).map (Mo (ak Z aa) (aR (ak Z aa)) r)):=by
 have gC:fP Z:=⟨by omega,λr hr=>(g r hr).c⟩;have gr:=g r (vL hr);obtain⟨ec,kQ⟩:=iG (Z:=Z) gC aa ho;have SJ:=Dw (ak Z aa);generalize aR (ak Z aa)=cs at ec kQ SJ;let R:D:=.dk (bW (jP (ak Z aa))).1 (bW (jP (ak Z aa))).2;have Ii:=ww kQ (b9 r);let E:OB->DL.Env:=λv6=>[sF (.tup Z),sF (.int aa),sF (.int ri),some (r,false),sF (.lst (cs.map aY)),sF R,v6];have hc:=gP (fi:=cu (aj 4)) (nT:=1) (cap:=[3]) (tg:=dC 0) (c:=aU (f2 cC (bC 0 1) (fA au (fV 1 (ae (fS "by") ai))))) (fe:=bC 0 0) (Y:=E none) cs aY (λc=>decide (c.p=b9 r)) (λc=>.str c.o) rfl (by omega) λc _=>⟨[some (aY c,false),some (r,false)],rfl,cw (bw (.str c.p) (.str (b9 r)) (bw (aY c) (.int 1) rfl rfl (Mg c)) (aI [r,.str "by"] rfl (wg gr (eQ (.inl (gF kr))))) (by simp)),λ_=>⟨false,bw (aY c) (.int 0) rfl rfl (O5 c)⟩⟩;have hs:=D0 kQ (b9 r) hc;refine av rfl (fB r (bw (.tup Z) (.int ri) rfl rfl (by simp[bU hr])) gr.flat (cj (ds:=cs.map aY) (aI [.tup Z,.int aa] rfl ec) (gV cs) (U9 (d:=R) (b:=false) (aI [.tup Z,.int aa] rfl (lB gC aa)) (by simp[R,bq]) (.inl rfl) (cj (ds:=(pX cs (b9 r)).map .str) hs (cU _) (az (nO (fi:=cu (aj 6)) (nT:=1) (cap:=[4,3,5]) (tg:=dC 0) (pX cs (b9 r)) .str _ rfl (by omega) λo h=>?_))))));obtain⟨v,hv⟩:=wu SJ h;obtain⟨gv,BP⟩:=jh g (lY hn hv);obtain⟨d,e1,_,e3⟩:=Dm cs kQ gr gv kr BP;have eb:Mo (ak Z aa) cs r o=.tup [.str "office",.str o,d]:=by unfold Mo BG;rw[hv,e3];rfl
 rw[eb];exact⟨[sF (.str o),sF (.lst (cs.map aY)),some (r,false),sF R],rfl,false,aI [.str "office",.str o,d] (bK rfl (bK rfl (aD (aI [.lst (cs.map aY),r,v] (bK rfl (bK rfl (aD (bw R (.str o) rfl rfl (show(gp (ak Z aa) o).map (λd=>(d,false))=some (v,false) by rw[hv];rfl)) rfl))) e1) rfl))) (bL _ (by simp))⟩
omit hn ho in
theorem BI {ri:Nat}{r:D}(hr:Z[ri]? = some r)(kr:kindOf r∈cK):gb [.tup Z,.int aa,.int ri]=lT ((j7 (ak Z aa) (b9 r)).map (KI r ri))/\(j7 (ak Z aa) (b9 r)).length<=60:=by
 have gr:=g r (vL hr);have Qc:=cB Z aa;have M6:(j7 (ak Z aa) (b9 r)).length<=60:=vR (vM _ _) (vR (vM _ _) (by omega));have yf:bB ((j7 (ak Z aa) (b9 r)).map λx=>D.int x.2)=true:=bT λd hd=>by obtain⟨x,_,rfl⟩:=vO hd;rfl
 refine⟨av rfl (cj (ds:=(j7 (ak Z aa) (b9 r)).map λx=>.int x.2) (aI [.tup Z,.int aa,.str (b9 r)] (bK rfl (bK rfl (aD (aI [r,.str "by"] (bK (bw (.tup Z) (.int ri) rfl rfl (by simp[bU hr])) rfl) (wg gr (eQ (.inl (gF kr))))) rfl))) (wj g (by omega) aa _)) yf (az (nO (fi:=cu (aj 3)) (nT:=1) (cap:=[0,2]) (tg:=dC 0) (j7 (ak Z aa) (b9 r)) (λx=>.int x.2) (KI r ri) (by simp) (by omega) λx hx=>?_))),M6⟩;obtain⟨h1,h2,h3⟩:=Ae g hx;obtain⟨d,e1,e2,e3⟩:=Dn hr h1 gr h2 kr h3;have sd:Sd d:=by rw[e3];exact Dy _ _ _
 refine⟨[sF (.int x.2),sF (.tup Z),sF (.int ri)],rfl,false,aI [.tup Z,.int ri,.int x.2] rfl ?_⟩;have tt:aU (f2 A4 (aj 3) (fC .non)) [sF (.tup Z),sF (.int ri),sF (.int x.2),some (d,false)]=some (qm r ri x):=cw (bw d .non rfl rfl e2);unfold KI;cases hb:qm r ri x with
 |true=>exact av rfl (fB d (aI [.tup Z,.int ri,.int x.2] rfl e1) sd.flat (az (aI [.str "leave",.int x.2,.str "falls"] (bK rfl (bK rfl (bK (Mq (tt.trans (by rw[hb])) rfl) rfl))) (bL _ (by simp)))))
 |false=>exact av rfl (fB d (aI [.tup Z,.int ri,.int x.2] rfl e1) sd.flat (az (aI [.str "leave",.int x.2,d] (bK rfl (bK rfl (bK (Mr (tt.trans (by rw[hb])) rfl) rfl))) (by rw[←e3];exact bL _ (by simp)))))
end
noncomputable def gG:D->D
 |.tup [_,d]=>d
 |_=>.non
theorem BJ:∀a∈MR++MS,∀b∈MS,R6 (fO [.int (a:Int),.int (b:Int)]) (.bl (decide (a &&& b=b))) false=true:=by decide +kernel
theorem wx {a b:Nat}(ha:a∈MR++MS)(hb:b∈MS):fO [.int a,.int b]=sF (.bl (decide (a &&& b=b))):=B1 (BJ a ha b hb)
theorem cO {Y:DL.Env}{i j:Nat}{xs:List D}{d:D}{b:Bool}(h:Y[i]? = some (some (.tup xs,b)))(hj:xs[j]? = some d):bC i j Y=some (d,false):=bw (.tup xs) (.int j) (by simp[h]) rfl (by simp[bU hj])
theorem HF {k:Str}{aB:List D}{Y:DL.Env}{i j:Nat}{d:D}{f:FE}(h1:Y[i]? = some (sF (.tup (.str k::aB))))(h2:f Y=sF (.int (if k = "leave" then 1 else 0)))(hg:(D.str k::aB).getD (j+if k = "leave" then 1 else 0) .non=d)(hl:(j+if k = "leave" then 1 else 0)<(D.str k::aB).length):
  f2 bA (aj i) (f2 bS (fI j) f) Y=some (d,false):=by
 refine bw (.tup (.str k::aB)) (.int ((j+if k = "leave" then 1 else 0:Nat):Int)) (by simp[h1]) (bw (.int j) (.int (if k = "leave" then 1 else 0)) rfl h2 ?_) ?_
 ·by_cases hh:k = "leave"
  ·rw[if_pos hh,if_pos hh];rfl
  ·rw[if_neg hh,if_neg hh];rfl
 ·rw[DL.wE (by omega) (by omega),Int.toNat_natCast,hg]
theorem KJ (day:Int)(a b:Int×Option Int):i6 [.int day,fQ a,fQ b]=sF (.bl (lF day b && ql a b)):=by
 let E:DL.Env:=[sF (.int day),some (fQ a,false),some (fQ b,false)];have t1:aU (f2 Iw (aj 0) (bC 2 0)) E=some (decide (day<b.1)):=cw (by simp[E,fQ,CT]);have t2:aU (f2 Iw (bC 1 0) (bC 2 0)) E=some (decide (a.1<b.1)):=cw (by simp[E,fQ,CT]);have TM:=cY t1 λ_=>t2;cases h12:(decide (day<b.1) || decide (a.1<b.1)) with
 |true=>
  rw[h12]at TM;have:(lF day b && ql a b)=false:=by
   unfold lF ql;rw[Bool.or_eq_true]at h12;rcases h12 with h|h
   ·have h:=of_decide_eq_true h;rw[decide_eq_false (show ¬b.1<=day by omega),Bool.false_and,Bool.false_and]
   ·have h:=of_decide_eq_true h;rw[decide_eq_false (show ¬b.1<=a.1 by omega),Bool.false_and,Bool.and_false]
  rw[this];exact av rfl (bj TM (az rfl))
 |false=>
  rw[h12]at TM;rw[Bool.or_eq_false_iff]at h12;have g1:b.1<=day:=by have:=of_decide_eq_false h12.1;omega
  have g2:b.1<=a.1:=by have:=of_decide_eq_false h12.2;omega
  have e:(lF day b && ql a b)=((match b.2 with|none=>true|some u=>decide (day<u)) && O9 a.2 b.2):=by
   unfold lF ql;rw[decide_eq_true g1,decide_eq_true g2,Bool.true_and,Bool.true_and]<;>cases b.2<;>rfl
  rw[e];refine av rfl (aC TM ?_);obtain⟨a1,a2⟩:=a;obtain⟨b1,b2⟩:=b;cases b2 with
  |none=>exact bj (cw (by simp[fQ,uD,xE])) (az (by cases a2<;>rfl))
  |some y=>
   refine aC (cw (by simp[fQ,uD,xE])) (az (dm (p:=decide (day<y)) (b1:=false) (by simp[fQ,uD,xE]) λ_=>?_));cases a2 with
   |none=>exact dm (p:=false) (q:=false) (b1:=false) (by simp[fQ,uD,xE]) (by simp)
   |some x=>exact dm (p:=true) (q:=decide (x<=y)) (b1:=false) (by simp[fQ,uD,xE]) λ_=>by simp[fQ,uD,xE]
theorem UE (a b c d:Int):Ln (.tup [.int a,.int b]) (.tup [.int c,.int d])=sF (.bl (!decide (a<c∨(a=c/\b<d)))):=by
 show(bd [.i a,.i b] [.i c,.i d]).map _=_;rw[Ku];rfl
theorem xW {k:Str}{aB:List D}(dk:Dd k aB)(kr:k∈cK)(a:Int):(D.str k::aB)[1]? = some (.int (aF (row a k aB)))/\(D.str k::aB)[2]? = some (.str (b9 (row a k aB)))/\(k = "leave"->(D.str k::aB)[6]? = some (.int (eS (row a k aB)))):=by
 obtain⟨dd,b2,q,er⟩:=xP dk (eQ (.inl (gF kr)));refine⟨by rw[er];rfl,by rw[er];rfl,λh=>?_⟩;obtain⟨a',d',b',p',m',x',f',e',_,_,_,ef⟩:=gX (r:=row a k aB) ⟨_,_,_,rfl,dk⟩ h;unfold row at e';injection e' with e';injection e' with _ e';injection e' with e' _;injection e' with e';injection e' with _ e';rw[ef,e'];rfl
theorem tm {Y:DL.Env}{i:Nat}{k:Str}{aB:List D}(h:Y[i]? = some (sF (.tup (.str k::aB)))):fA mI (ae (f2 cC (bC i 0) (fS "leave")) ai) Y=sF (.int (if k = "leave" then 1 else 0)):=aI [.bl (decide (k = "leave"))] (bK (bw (.str k) (.str "leave") (cO (j:=0) h rfl) rfl (by simp)) rfl) (K5 _)
section
variable {Z:List D}(g:∀r∈Z,cy r) (hl:Z.length<=30) (aa:Int) (hn:((b8 (ak Z aa)).map (ay 0)).Nodup) (ho:(cJ (ak Z aa)).length<=60)
include g hl hn ho
theorem EJ (hv:v∈b8 (ak Z aa))(day:Int):jN [.tup Z,.int aa,.str (ay 0 v),.int day]=some (ir (aR (ak Z aa)) (ay 0 v) (ay 3 v) day,false):=by
 have gC:fP Z:=⟨by omega,λr hr=>(g r hr).c⟩;obtain⟨ec,kQ⟩:=iG gC aa ho;have e4:f2 Bu (fA eW (fV 0 (fV 1 ai))) (aj 2) [sF (.tup Z),sF (.int aa),sF (.str (ay 0 v)),sF (.int day),none]=some ((gp (ak Z aa) (ay 0 v)).getD .non,false) :=
  bw (.dk (bW (jP (ak Z aa))).1 (bW (jP (ak Z aa))).2) (.str (ay 0 v)) (aI [.tup Z,.int aa] rfl (lB gC aa)) rfl rfl
 rw[EA hn hv]at e4;obtain⟨gv,BP⟩:=jh g hv;obtain⟨va,vo,VM,vm,vf,rfl,_⟩:=lD gv BP;exact av rfl (fB (row va ("root" : Str) [.str vo,.int vm,.int vf,.str VM]) e4 rfl (aC (cw (by simp[row])) (az (aI [.lst ((aR (ak Z aa)).map aY),row va ("root" : Str) [.str vo,.int vm,.int vf,.str VM],.int day] (aD (aI [.tup Z,.int aa] rfl ec) rfl) (kB _ kQ day)))))
theorem OI {ri:Nat}{r:D}(hr:Z[ri]? = some r)(kr:kindOf r∈cK)(hv:v∈b8 (ak Z aa))(hf:pz (aR (ak Z aa)) r v=false):j4 [.tup Z,.int aa,gG r,gG v]=some (lE (aR (ak Z aa)) r v,false):=by
 have eh:=EJ g hl aa hn ho hv (aF r);generalize aR (ak Z aa)=cs at hf eh;obtain⟨a,k,aB,rfl,dk⟩:=g r (vL hr);obtain⟨r1,r2,_⟩:=xW dk kr a;obtain⟨Qk,_,SK,Pk⟩:=BD (a:=a) dk kr;obtain⟨gv,BP⟩:=jh g hv;obtain⟨va,o,rl,m,f,ev,hm,em⟩:=lD gv BP;have so:ay 0 v=o:=by rw[ev];rfl
 have sr:ay 3 v=rl:=by rw[ev];rfl
 have dv:gG v=.tup [.str "root",.str o,.int m,.int f,.str rl]:=by rw[ev];rfl
 rw[dv];unfold pz mV at hf;unfold lE j6;rw[so,sr,em]at hf ⊢;rw[so,sr]at eh;generalize Vh:row a k aB=R at Qk SK r1 r2 hf eh ⊢;have dR:gG R=.tup (.str k::aB):=by rw[←Vh];rfl
 rw[dR];let E:DL.Env:=[sF (.tup Z),sF (.int aa),sF (.tup (.str k::aB)),sF (.tup [.str "root",.str o,.int m,.int f,.str rl])];obtain⟨ds,TN,hd5⟩:=vx rl (O7 cs o (aF R));have TN:ir cs o rl (aF R)=.tup ds:=TN;have c3:aU (f2 tG (Gg (fA jN (fV 0 (fV 1 (ae (bC 3 1) (ae (bC 2 1) ai))))) mn (kX (fI 2))) (fA aK (ae (fS "one") (ae (bC 2 2) ai)))) E=some (!gW cs o rl (b9 R) (aF R)):=by
  refine cw (bw (zQ (ir cs o rl (aF R))) (.tup [.str "one",.str (b9 R)]) ?_ (aI [.str "one",.str (b9 R)] (bK rfl (aD (cO (j:=2) rfl r2) rfl)) (bL _ (by simp))) ?_)
  ·show(fA jN _ E).bind _=_;rw[show fA jN (fV 0 (fV 1 (ae (bC 3 1) (ae (bC 2 1) ai)))) E=some (ir cs o rl (aF R),false)from aI [.tup Z,.int aa,.str o,.int (aF R)] (bK rfl (bK rfl (aD (cO (j:=1) rfl rfl) (aD (cO (j:=1) rfl r1) rfl)))) eh,TN];rfl
  ·unfold tG;rw[if_pos ⟨by rw[TN];exact lU (sL hd5),by simp[aq]⟩];rfl
 have c4:aU (fA fO (ae (bC 3 2) (ae (f2 bA (aj 2) (f2 bS (fI 3) (fA mI (ae (f2 cC (bC 2 0) (fS "leave")) ai)))) ai))) E=some (decide (m &&& gh R=gh R)):=cw (aI [.int m,.int (gh R)] (aD (cO (j:=2) rfl rfl) (aD (HF (j:=3) rfl (tm rfl) SK Pk) rfl)) (wx (List.mem_append_left _ hm) Qk));cases hA:gW cs o rl (b9 R) (aF R) with
 |false=>rw[hA]at c3;exact av rfl (bj c3 (az rfl))
 |true=>
  rw[hA]at c3 hf;cases hB:decide (m &&& gh R=gh R) with
  |false=>rw[hB]at c4;exact av rfl (aC c3 (bj (bO c4) (az rfl)))
  |true=>
   rw[hB]at c4 hf;have:(jg R && decide (eS v<=eS R))=true:=by simpa using hf
   rw[this];exact av rfl (aC c3 (aC (bO c4) (az rfl)))
omit hl hn ho in
theorem OJ {ri:Nat}{r:D}(hr:Z[ri]? = some r)(kr:kindOf r∈cK){x:D×Nat}(hx:Z[x.2]? = some x.1)(kx:kindOf x.1 = "leave"):k8 [.tup Z,.int ri,.int x.2]=some (if qm r ri x=true then .str "falls" else o6 r ri x,false):=by
 have gr:=g r (vL hr);obtain⟨a,k,aB,er,dk⟩:=id gr;have Wd:k∈cK:=by rw[er]at kr;exact kr
 obtain⟨r1,_,r6⟩:=xW dk Wd a;obtain⟨Qk,_,SK,Pk⟩:=BD (a:=a) dk Wd;obtain⟨_,Yb,We⟩:=Dk (a:=a) dk Wd;have Pm:jg r=decide (k = "leave"):=by rw[er];rfl
 rw[←show r=row a k aB from er]at r1 r6 Qk SK Yb;obtain⟨a',d',b',p',m',x',f',ex,hm',em,ep,ef⟩:=gX (g _ (vL hx)) kx;have edx:aF x.1=d':=by rw[ex];rfl
 let L:List D:=[.str "leave",.int d',.str b',.str p',.int m',fQ x',.int f'];let E:DL.Env:=[sF (.tup Z),sF (.int ri),sF (.int x.2),sF (.tup (.str k::aB)),sF (.tup L),sF (.int (if k = "leave" then 1 else 0))];have Yc:∀(Y:DL.Env)(i j:Nat)(y:D),Y[0]? = some (sF (.tup Z))->Y[i]? = some (sF (.int j))->Z[j]? = some y->∀(a:Int)(k:Str)(q:List D),y=row a k q->f2 bA (f2 bA (aj 0) (aj i)) (fI 1) Y=sF (.tup (.str k::q)):=λY i j y h0 hi hy a k q e=>bw y (.int 1) (bw (.tup Z) (.int j) (by simp[h0]) (by simp[hi]) (by simp[bU hy])) rfl (by rw[e];simp[row,xE]);have go:∀(h:FS)(res:Option Res),h E=res->a9 (aQ 3 (f2 bA (f2 bA (aj 0) (aj 1)) (fI 1))) (a9 (aQ 4 (f2 bA (f2 bA (aj 0) (aj 2)) (fI 1))) (a9 (aQ 5 (fA mI (ae (f2 cC (bC 3 0) (fS "leave")) ai))) h)) [sF (.tup Z),sF (.int ri),sF (.int x.2),none,none,none]=res:=λh res kk=>
  fB (.tup (.str k::aB)) (Yc _ 1 ri r rfl rfl hr a k aB er) (by simp[dk.flat]) (fB (.tup L) (Yc _ 2 x.2 x.1 rfl rfl hx _ _ _ ex) (by simp[L,je]) (fB (.int (if k = "leave" then 1 else 0)) (tm rfl) rfl kk))
 have t1:aU (f2 Ln (fA aK (ae (bC 4 1) (fV 2 ai))) (fA aK (ae (bC 3 1) (fV 1 ai)))) E=some (!fg x (r,ri)):=by
  refine cw (bw (.tup [.int d',.int x.2]) (.tup [.int (aF r),.int ri]) (aI [.int d',.int x.2] (aD (cO (xs:=L) (j:=1) rfl rfl) (bK rfl rfl)) (bL _ (by simp))) (aI [.int (aF r),.int ri] (aD (cO (j:=1) rfl r1) (bK rfl rfl)) (bL _ (by simp))) ((UE _ _ _ _).trans ?_));unfold fg;rw[edx]
 have t2:aU (fA i6 (ae (bC 3 1) (ae (f2 bA (aj 3) (f2 bS (fI 4) (aj 5))) (ae (bC 4 5) ai)))) E=some (lF (aF r) (fm x.1) && ql (fm r) (fm x.1)):=by
  rw[ep];exact cw (aI [.int (aF r),fQ (fm r),fQ x'] (aD (cO (j:=1) rfl r1) (aD (HF (j:=4) rfl rfl Yb We) (aD (cO (xs:=L) (j:=5) rfl rfl) rfl))) (KJ _ _ _))
 have t3:aU (fA fO (ae (bC 4 4) (ae (f2 bA (aj 3) (f2 bS (fI 3) (aj 5))) ai))) E=some (decide (gh x.1 &&& gh r=gh r)):=by
  rw[em];exact cw (aI [.int m',.int (gh r)] (aD (cO (xs:=L) (j:=4) rfl rfl) (aD (HF (j:=3) rfl rfl SK Pk) rfl)) (wx (mY _ hm') Qk))
 have t4:aU (f2 cC (aj 5) (fI 1)) E=some (jg r):=by
  rw[Pm];refine cw (bw (.int (if k = "leave" then 1 else 0)) (.int 1) rfl rfl ?_);by_cases h:k = "leave"
  ·rw[if_pos h,decide_eq_true h];simp
  ·rw[if_neg h,decide_eq_false h];simp
 have t5:jg r=true->aU (f2 QS (bC 3 6) (bC 4 6)) E=some (decide (eS x.1<=eS r)):=λh=>by
  rw[ef];exact cw (bw (.int (eS r)) (.int f') (cO (j:=6) rfl (r6 (of_decide_eq_true (by rw[←Pm];exact h)))) (cO (xs:=L) (j:=6) rfl rfl) rfl)
 have TQ:=cF t4 t5;refine av rfl (go _ _ ?_);unfold qm o6 mV j6;cases hA:fg x (r,ri) with
 |false=>rw[hA]at t1;exact bj t1 (az rfl)
 |true=>
  rw[hA]at t1;refine aC t1 ?_;cases hB:(lF (aF r) (fm x.1) && ql (fm r) (fm x.1)) with
  |false=>rw[hB]at t2;exact bj (bO t2) (az rfl)
  |true=>
   rw[hB]at t2;refine aC (bO t2) ?_;cases hC:decide (gh x.1 &&& gh r=gh r) with
   |false=>rw[hC]at t3;exact bj (bO t3) (az rfl)
   |true=>
    rw[hC]at t3;refine aC (bO t3) ?_;cases hD:(jg r && decide (eS x.1<=eS r)) with
    |true=>rw[hD]at TQ;exact bj TQ (az rfl)
    |false=>rw[hD]at TQ;exact aC TQ (az rfl)
end
theorem D1 (n:Nat)(S:List Nat):(S.any λm=>decide ((m:Int)=(n:Int)))=decide (n∈S):=by
 rw[Bool.eq_iff_iff,List.any_eq_true,decide_eq_true_iff];constructor
 ·rintro⟨m,h,e⟩;have:=of_decide_eq_true e;rw[show n=m by omega];exact h
 ·exact λh=>⟨n,h,decide_eq_true rfl⟩
theorem HG (n:Nat)(S:List Nat):(cz (S.map nK) (S.map EH) (.inl (n:Int))).isSome=decide (n∈S):=by rw[sY,D1]
theorem HH (n:Int)(S:List Nat):ya (.int n) (.lst (S.map λ(m:Nat)=>.int (m:Int)))=sF (.bl (S.any λm=>decide ((m:Int)=n))):=by
 have yf:(S.map λ(n:Nat)=>D.int (n:Int)).all gM=true:=by
  rw[List.all_eq_true];intro d hd;obtain⟨m,_,rfl⟩:=vO hd;rfl
 simp only[ya,gk,vJ];rw[if_pos ⟨rfl,yf⟩,HB]
theorem HI (h:aq 40 d=true):tG d d=sF (.bl false):=by
 unfold tG;rw[if_pos ⟨h,h⟩,sv 40 _ h];rfl
theorem EK (S:List Nat):bB (pV S)=true:=bT λd hd=>by obtain⟨n,_,rfl⟩:=vO hd;rfl
theorem Av (Z:List D)(aa:Int):b8 (ak Z aa)=Z.filter λv=>bo v && decide (ba v<=aa):=by
 unfold b8 ak;rw[List.filter_filter];have:∀(l:List (D×Nat))(q:D->Bool),(l.filter λx=>q x.1).map (·.1)=(l.map (·.1)).filter q:=λl q=>by rw[List.filter_map];rfl
 refine(this Z.zipIdx λv=>bo v && decide (ba v<=aa)).trans ?_;rw[List.zipIdx_map_fst]
theorem HJ (Z:List D)(aa:Int):((b8 (ak Z aa)).map (ay 0)).Sublist (m8 Z):=by
 rw[Av];unfold m8;refine List.Sublist.map _ ?_;have:(Z.filter λv=>bo v && decide (ba v<=aa))=(Z.filter bo).filter λv=>decide (ba v<=aa):=by rw[List.filter_filter];congr 1;funext v;rw[Bool.and_comm]
 rw[this];exact List.filter_sublist
def HK (S:List Nat):List Nat:=eY (λn:Nat=>[(n:Int)]) S
theorem KN (S:List Nat):pV S=(HK S).map λ(n:Nat)=>.int (n:Int):=by
 unfold pV ra HK;rw[wo,uP];rfl
theorem EL {m:Nat}{S:List Nat}:m∈HK S↔m∈S:=(bG _ _).mem_iff
theorem KO (n:Nat)(S:List Nat):ya (.int (n:Int)) (.lst (pV S))=sF (.bl (decide (n∈S))):=by
 rw[KN,HH,D1];congr 3;exact propext EL
theorem HL (h:m∈S):m∈gZ S p:=by
 unfold gZ;split
 ·exact List.mem_append_left _ h
 ·exact h
theorem Aw:∀(q:List (Nat×List Bs))(S:List Nat),m∈S->m∈q.foldl gZ S
 |[],_,h=>h
 |_::q,_,h=>Aw q _ (HL h)
theorem Ax {p:Nat×List Bs}(hb:∀S,p.2.any (m9 S)=true):∀(l:List (Nat×List Bs))(S:List Nat),p∈l->p.1∈l.foldl gZ S
 |q::l,S,h=>by
  rcases vP h with rfl|h
  ·exact Aw l _ (by unfold gZ;rw[if_pos (hb S)];simp)
  ·exact Ax hb l _ h
theorem EM {Z:List D}{aa day:Int}{n:Nat}{r:D}(hr:Z[n]? = some r)(kr:kindOf r∈cK)(hk:ba r<=aa)(hf:xU Z aa day (r,n)=true)(hS:n∉ig Z aa day)(hv:v∈b8 (ak Z aa)):pz (aR (ak Z aa)) r v=false:=by
 rw[Bool.eq_false_iff];intro ho;refine hS (Ax (p:=(n,mB Z aa (r,n))) (λS=>?_) _ [] (uS ⟨(r,n),?_,rfl⟩))
 ·rw[List.any_eq_true];refine⟨W7 (aR (ak Z aa)) r v,?_,rfl⟩;unfold mB sX;rw[if_neg (by intro e;have e:kindOf r = "copy":=e;rw[e]at kr;exact cS kr)];unfold KG;refine(bG _ _).mem_iff.mpr ?_;unfold xS;exact List.mem_append_left _ (uS ⟨v,List.mem_filter.mpr ⟨hv,ho⟩,rfl⟩)
 ·refine List.mem_filter.mpr ⟨(bG _ _).mem_iff.mpr (List.mem_filter.mpr ⟨List.mem_filter.mpr ⟨?_,decide_eq_true hk⟩,by simp[gY kr]⟩),by rw[hf,decide_eq_true (gF kr)];rfl⟩;exact List.mem_iff_getElem?.mpr ⟨n,by rw[List.getElem?_zipIdx,hr];simp⟩
theorem UF (a b:D)(q:List D):oK (a::b::q) none (some 2)=[a,b]:=by
 have h:HT.dZ (a::b::q).length (a::b::q).length (some 2)=2:=by simp[HT.dZ]
 have h0:HT.dZ (a::b::q).length 0 none=0:=rfl;unfold oK;rw[h,h0];rfl
theorem wy {v:D}(gv:cy v)(aa:Int)(o:Str):cA (aU (f2 nE (bC 0 0) (aj 1))) (aU (f2 cC (Gg (bC 0 1) mn (kX (fI 2))) (fA aK (ae (fS "root") (fV 2 ai))))) [some (v,false),sF (.int aa),sF (.str o)]=some ((bo v && decide (ba v<=aa)) && decide (ay 0 v=o))/\bC 0 1 [some (v,false),sF (.int aa),sF (.str o)]=some (gG v,false):=by
 obtain⟨a,k,aB,rfl,dk⟩:=gv;let E:DL.Env:=[some (row a k aB,false),sF (.int aa),sF (.str o)];have x1:bC 0 1 E=sF (.tup (.str k::aB)):=cO (xs:=[.int a,.tup (.str k::aB)]) (j:=1) rfl rfl;refine⟨?_,x1⟩;have c1:aU (f2 nE (bC 0 0) (aj 1)) E=some (decide (a<=aa)):=cw (bw (.int a) (.int aa) (cO (xs:=[.int a,.tup (.str k::aB)]) (j:=0) rfl rfl) rfl (by simp));have c2:aU (f2 cC (Gg (bC 0 1) mn (kX (fI 2))) (fA aK (ae (fS "root") (fV 2 ai)))) E=some (decide (k = "root") && decide (ay 0 (row a k aB)=o)):=by
  refine cw (bw (zQ (.tup (.str k::aB))) (.tup [.str "root",.str o]) ?_ (aI [.str "root",.str o] rfl (bL _ (by simp))) ?_)
  ·show(bC 0 1 E).bind _=_;rw[x1];rfl
  ·have hp:aq 40 (zQ (.tup (.str k::aB)))=true:=lU (sL (by simp only[List.all_cons,aq,Bool.true_and];exact dk.cd.deed.plain));unfold cC;rw[if_pos ⟨hp,by simp[aq]⟩];congr 3;by_cases hk:k = "root"
   ·subst hk;obtain⟨o',rl,m,f,rfl⟩:=dk.cd.root_of;rw[decide_eq_true rfl,Bool.true_and];show bE (.tup [.str "root",.str o']) (.tup [.str "root",.str o])=decide (o'=o);simp[dh]
   ·rw[decide_eq_false hk,Bool.false_and];have hq:∃y q,aB=y::q:=by obtain⟨d,q,e⟩:=dk.cd.day hk;exact⟨_,q,e⟩
    obtain⟨y,q,rfl⟩:=hq;show bE (.tup (oK (.str k::y::q) none (some 2))) (.tup [.str "root",.str o])=false;rw[UF];simp[dh,hk]
 have tt:=cF c1 λ_=>c2;rw[tt];congr 1;show(decide (a<=aa) && (decide (k = "root") && decide (ay 0 (row a k aB)=o)))=((decide (k = "root") && decide (a<=aa)) && decide (ay 0 (row a k aB)=o));cases decide (a<=aa)<;>cases decide (k = "root")<;>rfl
theorem BK {Z:List D}(g:∀r∈Z,cy r)(hl:Z.length<=30){aa:Int}(hn:((b8 (ak Z aa)).map (ay 0)).Nodup)(hv:gp (ak Z aa) o=some v){Y:DL.Env}(h0:Y[0]? = some (sF (.tup Z)))(h1:Y[1]? = some (sF (.int aa)))(h7:Y[7]? = some (sF (.str o))):
  f2 bA (bV (cu (aj 0)) 1 [1,7] (dC 0) (cA (aU (f2 nE (bC 0 0) (aj 1))) (aU (f2 cC (Gg (bC 0 1) mn (kX (fI 2))) (fA aK (ae (fS "root") (fV 2 ai)))))) (bC 0 1)) (fI 0) Y=some (gG v,false):=by
 have hc:=gP (fi:=cu (aj 0)) (nT:=1) (cap:=[1,7]) (tg:=dC 0) (c:=cA (aU (f2 nE (bC 0 0) (aj 1))) (aU (f2 cC (Gg (bC 0 1) mn (kX (fI 2))) (fA aK (ae (fS "root") (fV 2 ai)))))) (fe:=bC 0 1) (Y:=Y) Z id (λv=>(bo v && decide (ba v<=aa)) && decide (ay 0 v=o)) gG (by simp[h0]) (by omega) λv hv=>⟨[some (v,false),sF (.int aa),sF (.str o)],by simp[eA,h1,h7],(wy (g v hv) aa o).1,λ_=>⟨false,(wy (g v hv) aa o).2⟩⟩;have e:Z.filter (λv=>(bo v && decide (ba v<=aa)) && decide (ay 0 v=o))=(b8 (ak Z aa)).filter λv=>decide (ay 0 v=o):=by
  rw[Av,List.filter_filter];congr 1;funext v;rw[Bool.and_comm]
 rw[e]at hc;have hm:v∈(b8 (ak Z aa)).filter λv=>decide (ay 0 v=o):=List.mem_filter.mpr ⟨lY hn hv,decide_eq_true (sZ hn hv)⟩;have lG:∀y∈(b8 (ak Z aa)).filter λv=>decide (ay 0 v=o),y=v:=λy hy=>pq (ay 0) hn (vN hy).1 (lY hn hv) ((of_decide_eq_true (vN hy).2).trans (sZ hn hv).symm);generalize (b8 (ak Z aa)).filter (λv=>decide (ay 0 v=o))=l at hc hm lG;cases l with
 |nil=>cases hm
 |cons y l=>
  rw[lG y mX]at hc;exact fZ (x:=.lst (gG v::l.map gG)) (y:=.int 0) (b1:=true) (b2:=false) hc rfl (by simp[CT])
def HM (aa:Int)(p:Str)(x:D×Nat):Bool:=decide (ba x.1<=aa) && (jg x.1 && decide (ay 2 x.1=p))
theorem OK (Z:List D)(aa:Int)(p:Str):j7 (ak Z aa) p=Z.zipIdx.filter (HM aa p):=by
 unfold j7 ak;rw[List.filter_filter,List.filter_filter];congr 1;funext x;unfold HM;cases decide (ba x.1<=aa)<;>cases jg x.1<;>cases decide (ay 2 x.1=p)<;>rfl
section
variable {Z:List D}(g:∀r∈Z,cy r) (hl:Z.length<=30) (aa:Int) (hn:((b8 (ak Z aa)).map (ay 0)).Nodup) (ho:(cJ (ak Z aa)).length<=60)
include g hl hn ho
theorem HN (day:Int){n:Nat}{r:D}(hr:Z[n]? = some r)(kr:kindOf r∈bN)(hk:ba r<=aa)(hf:xU Z aa day (r,n)=true)(hS:n∉ig Z aa day):
  ∃ds,gJ [.tup Z,.int aa,.int n]=lT ds/\om [.tup Z,.int aa,.int n,.lst ((aR (ak Z aa)).map aY)]=lT ds/\∀d∈ds,Pl d:=by
 have gr:=g r (vL hr);have gC:fP Z:=⟨by omega,λr hr=>(g r hr).c⟩;obtain⟨ec,kQ⟩:=iG (Z:=Z) gC aa ho;obtain⟨a,k,aB,er,dk⟩:=id gr;have Pm:kindOf r=k:=by rw[er];rfl
 have ax:=bU hr;rw[show r=.tup [.int a,.tup (.str k::aB)]from er]at ax;have dq:∀(h:FS)(res:Option Res),h [sF (.tup Z),sF (.int aa),sF (.int n),sF (.lst ((aR (ak Z aa)).map aY)),sF (.tup (.str k::aB)),none,none,none,none,none,none]=res->a9 (aQ 4 (f2 bA (f2 bA (aj 0) (aj 2)) (fI 1))) h [sF (.tup Z),sF (.int aa),sF (.int n),sF (.lst ((aR (ak Z aa)).map aY)),none,none,none,none,none,none,none]=res:=λh res kk=>fB (.tup (.str k::aB)) (bw (.tup [.int a,.tup (.str k::aB)]) (.int 1) (bw (.tup Z) (.int n) rfl rfl (by simp[ax])) rfl (by simp[xE])) (by simp[dk.flat]) kk;have wd:aU (f2 cC (fA aN (ae (f2 bA (aj 0) (aj 2)) ai)) (fS "copy")) [sF (.tup Z),sF (.int aa),sF (.int n),none]=some (decide (k = "copy")):=bY (a:=k) (bb:=false) (by rw[←Pm];exact xT hr gr rfl rfl) rfl;have wq:∀Y:DL.Env,Y[4]? = some (sF (.tup (.str k::aB)))->aU (f2 cC (bC 4 0) (fS "copy")) Y=some (decide (k = "copy")):=λY h=>cw (bw (.str k) (.str "copy") (cO (j:=0) h rfl) rfl (by simp));by_cases kc:k = "copy"
 ·have Wf:k6 [.tup Z,.int aa,.int n]=lT ((mB Z aa (r,n)).map (yc (Dr r))):=av rfl (az (aI [.tup Z,.int aa,.lst ((aR (ak Z aa)).map aY),.int n] (bK rfl (bK rfl (aD (aI [.tup Z,.int aa] rfl ec) (bK rfl rfl)))) (Ds g hl aa hn _ kQ hr kr hk)));generalize mB Z aa (r,n)=R at Wf;obtain⟨a2,d2,b2,m,TR⟩:=sV gr (Pm.trans kc);have ee:(.str k::aB:List D)=[.str "copy",.int d2,.str b2,.int m]:=by
   rw[er]at TR;unfold row at TR;injection TR with e;injection e with _ e;injection e with e _;injection e
  let B:Bool:=(R).isEmpty;let W:Str:=if B=true then "none" else "falls";have hpb:aq 40 (.lst ((R).map (yc (Dr r))))=true:=by
   simp only[aq,List.all_eq_true];intro d hd;obtain⟨b,_,rfl⟩:=vO hd;rcases b with⟨_|o,m⟩<;>simp[yc]
  have t1:aU (f2 cC (fA fU (ae (fA k6 (fV 0 (fV 1 (fV 2 ai)))) ai)) (fI 0)) [sF (.tup Z),sF (.int aa),sF (.int n),none]=some B:=by
   show _=some (R).isEmpty;rw[←Du (R) (yc (Dr r))];exact cw (bw (.int ((((R).map (yc (Dr r))).length:Nat):Int)) (.int 0) (aI [.lst ((R).map (yc (Dr r)))] (aD (aI [.tup Z,.int aa,.int n] rfl Wf) rfl) rfl) rfl (by simp))
  have hw:Jk (aU (f2 cC (fA fU (ae (fA k6 (fV 0 (fV 1 (fV 2 ai)))) ai)) (fI 0))) (fS "none") (fS "falls") [sF (.tup Z),sF (.int aa),sF (.int n),none]=sF (.str W):=by
   show _=sF (.str (if B=true then "none" else "falls"));cases hB:B with
   |true=>exact Mq (t1.trans (by rw[hB])) rfl
   |false=>exact Mr (t1.trans (by rw[hB])) rfl
  have hcf:k7 [.tup Z,.int aa,.int n]=sF (.tup [.str "copy",.int m,.str W]):=av rfl (fB (.str W) hw rfl (az (aI [.str "copy",.int m,.str W] (bK rfl (aD (aI [r,.str "of"] (bK (bw (.tup Z) (.int n) rfl rfl (by simp[bU hr])) rfl) (by rw[TR];exact bz (i:=2) dr rfl)) (bK rfl rfl))) (bL _ (by simp)))));have hix:∀Y:DL.Env,Y[0]? = some (sF (.tup Z))->Y[1]? = some (sF (.int aa))->Y[2]? = some (sF (.int n))->f2 bA (fA br (ae (fS "none") (ae (fS "falls") ai))) (fA mI (ae (f2 tG (fA k6 (fV 0 (fV 1 (fV 2 ai)))) (fA br ai)) ai)) Y=sF (.str W):=λY h0 h1 h2=>by
   have oA:tG (.lst ((R).map (yc (Dr r)))) (.lst [])=sF (.bl (!B)):=by
    unfold tG;rw[if_pos ⟨hpb,by simp[aq]⟩];show _=sF (.bl (!(R).isEmpty));cases R with
    |nil=>simp
    |cons=>simp
   refine fZ (x:=.lst [.str "none",.str "falls"]) (y:=.int (if(!B)=true then 1 else 0)) (b1:=true) (b2:=false) (aI [.str "none",.str "falls"] rfl (dw _ (by simp))) (aI [.bl (!B)] (bK (fZ (b1:=true) (b2:=true) (aI [.tup Z,.int aa,.int n] (by simp[h0,h1,h2]) Wf) (aI [] rfl (dw _ (by simp))) oA) rfl) rfl) ?_;show _=sF (.str (if B=true then "none" else "falls"));cases B
   ·simp[xE]
   ·simp[CT]
  refine⟨[.tup [.str "copy",.int m,.str W]],av rfl (bj (wd.trans (by rw[decide_eq_true kc])) (az (aI [.tup [.str "copy",.int m,.str W]] (bK (aI [.tup Z,.int aa,.int n] rfl hcf) rfl) (dw _ (by simp))))),av rfl (dq _ _ (bj ((wq _ rfl).trans (by rw[decide_eq_true kc])) (az (aI [.tup [.str "copy",.int m,.str W]] (bK (aI [.str "copy",.int m,.str W] (bK rfl (aD (cO (j:=3) rfl (by rw[ee];rfl)) (aD (hix _ rfl rfl rfl) rfl))) (bL _ (by simp))) rfl) (dw _ (by simp)))))),λd hd=>?_⟩;rw[uT hd];exact(HE (o:=("" : Str)) (.inr ⟨_,rfl⟩)).2
 ·have kb:k∈cK:=by
   have:∀k∈bN,k≠("copy" : Str)->k∈cK:=by decide +kernel
   exact this _ (Pm ▸ kr) kc
  have SM:kindOf r∈cK:=Pm ▸ kb;have e1:=BH g hl aa hn ho hr SM;obtain⟨e2,M6⟩:=BI g hl aa hr SM;have Qj:=λv hv=>EM (v:=v) hr SM hk hf hS hv;have Yd:=λv hv=>OI (v:=v) g hl aa hn ho hr SM hv (Qj v hv);have SJ:=Dw (ak Z aa);generalize aR (ak Z aa)=cs at e1 ec kQ Qj Yd SJ dq;let O:List Str:=pX cs (b9 r);have Ii:O.length<=60:=ww kQ (b9 r);let dO:List Str->List D:=λl=>l.map (Mo (ak Z aa) cs r);let dL:KL->List D:=λl=>l.map (KI r n);obtain⟨r1,r2,_⟩:=xW dk kb a;have eby:b9 (row a k aB)=b9 r:=by rw[er]
  rw[eby]at r2;let E:List D->OB->OB->OB->OB->DL.Env:=λl v7 v8 v9 qE=>[sF (.tup Z),sF (.int aa),sF (.int n),sF (.lst (cs.map aY)),sF (.tup (.str k::aB)),sF (.lst (O.map .str)),lT l,v7,v8,v9,qE];obtain⟨ρ1,Ye,v7,v8,rfl⟩:=iQ (tg:=dC 7) (g:=zK) (λj Y=>∃v7 v8,Y=E (dO (O.take j)) v7 v8 none none) (O.map .str) (E [] none none none none) ⟨none,none,rfl⟩ (by
   rintro j d Y hd ⟨v7,v8,rfl⟩;rw[vA]at hd;obtain⟨o,hx,rfl⟩:=oY hd;obtain⟨v,hv⟩:=wu SJ (vL hx);have Yf:=lY hn hv;have et:dO (O.take (j+1))=dO (O.take j)++[Mo (ak Z aa) cs r o]:=by
    show List.map _ (O.take (j+1))=_;rw[List.take_add_one,hx];simp[dO]
   have bP:(dO (O.take j)).length<=60:=by show(List.map _ _).length<=60;rw[vI];exact vR (List.length_take_le' _ _) Ii
   have VL:bq (gG v)=true:=by
    obtain⟨gv,BP⟩:=jh g Yf;obtain⟨_,_,_,_,_,ev,_⟩:=lD gv BP;rw[ev];rfl
   have VA:Mo (ak Z aa) cs r o=.tup [.str "office",.str o,lE cs r v]:=by unfold Mo BG;rw[hv];rfl
   have hdr:gG r=.tup (.str k::aB):=by rw[er];rfl
   have Yg:=Yd v Yf;rw[hdr]at Yg;refine⟨_,E (dO (O.take j)++[Mo (ak Z aa) cs r o]) (sF (.str o)) (some (gG v,false)) none none,rfl,.inl (GV (BK g hl hn hv rfl rfl rfl) VL ?_),_,_,by rw[et]⟩;rw[VA];exact iR (ds:=dO (O.take j)) (d:=.tup [.str "office",.str o,lE cs r v]) (b:=false) rfl (aI [.str "office",.str o,lE cs r v] (bK rfl (bK rfl (aD (aI [.tup Z,.int aa,.tup (.str k::aB),gG v] rfl Yg) rfl))) (bL _ (by simp))) (by simp[(Dx cs r v).flat]) (bM (by omega)))
  rw[vI,List.take_length]at Ye;obtain⟨ρ2,TL,v9,qE,rfl⟩:=lq (tg:=dC 9) (g:=zL) Z.length (λi Y=>∃v9 qE,Y=E (dO O++dL ((Z.zipIdx.take i).filter (HM aa (b9 r)))) v7 v8 v9 qE) (E (dO O) v7 v8 none none) ⟨none,none,by simp[dL]⟩ (by
   rintro i Y hi ⟨v9,qE,rfl⟩;have hx:Z[i]? = some Z[i]:=vU hi;generalize Z[i]=x at hx;have gx:=g x (vL hx);obtain⟨xa,xk,xr,ex,xd⟩:=id gx;have ax:=bU hx;rw[show x=.tup [.int xa,.tup (.str xk::xr)]from ex]at ax;have et:dL ((Z.zipIdx.take (i+1)).filter (HM aa (b9 r)))=dL ((Z.zipIdx.take i).filter (HM aa (b9 r)))++if HM aa (b9 r) (x,i)=true then [KI r n (x,i)]else []:=by
    rw[List.take_add_one,List.getElem?_zipIdx,hx,List.filter_append];show List.map _ (_++List.filter _ [(x,0+i)])=_;rw[Nat.zero_add,List.filter_cons,uW];split<;>rfl
   have bP:(dL ((Z.zipIdx.take i).filter (HM aa (b9 r)))).length<=60:=by
    show(List.map _ _).length<=60;rw[vI];exact vR (vM _ _) (vR (List.length_take_le' _ _) (by rw[List.length_zipIdx];omega))
   generalize dL ((Z.zipIdx.take i).filter (HM aa (b9 r)))=l at et bP;let F:DL.Env:=E (dO O++l) v7 v8 (sF (.int i)) (sF (.tup (.str xk::xr)));have Yh:∀Y:DL.Env,Y[0]? = some (sF (.tup Z))->Y[9]? = some (sF (.int i))->f2 bA (aj 0) (aj 9) Y=sF (.tup [.int xa,.tup (.str xk::xr)]):=λY h0 h9=>bw (.tup Z) (.int i) (by simp[h0]) (by simp[h9]) (by simp[ax]);have c1:aU (f2 nE (f2 bA (f2 bA (aj 0) (aj 9)) (fI 0)) (aj 1)) F=some (decide (ba x<=aa)):=by rw[ex];exact cw (bw (.int xa) (.int aa) (bw _ (.int 0) (Yh F rfl rfl) rfl (by simp[CT])) rfl (show nE (.int xa) (.int aa)=sF (.bl (decide (xa<=aa))) by simp))
   have c2:aU (f2 cC (bC 10 0) (fS "leave")) F=some (jg x):=by rw[ex];exact cw (bw (.str xk) (.str "leave") (cO (j:=0) rfl rfl) rfl (show cC (.str xk) (.str "leave")=sF (.bl (decide (xk = "leave"))) by simp))
   have c3:jg x=true->aU (f2 cC (bC 10 3) (bC 4 2)) F=some (decide (ay 2 x=b9 r)):=λh=>by
    obtain⟨a',d',b',p',m',x',f',e',_⟩:=gX gx (of_decide_eq_true h);have e2:(.str xk::xr:List D)=[.str "leave",.int d',.str b',.str p',.int m',fQ x',.int f']:=by
     rw[ex]at e';unfold row at e';injection e' with e;injection e with _ e;injection e with e _;injection e
    rw[show ay 2 x=p' by rw[e'];rfl];exact cw (bw (.str p') (.str (b9 r)) (cO (j:=3) rfl (by rw[e2];rfl)) (cO (j:=2) rfl r2) (by simp))
   have tt:=cF c1 λ_=>cF c2 c3;refine⟨_,E (dO O++(l++if HM aa (b9 r) (x,i)=true then [KI r n (x,i)]else [])) v7 v8 (sF (.int i)) (sF (.tup (.str xk::xr))),rfl,.inl (fB (.tup (.str xk::xr)) (bw _ (.int 1) (Yh _ rfl rfl) rfl (by simp[xE])) (by simp[xd.flat]) (show cW _ _ _ F=_ from O2 tt (λh=>?_) λh=>?_)),_,_,by rw[et]⟩
   ·have hq:HM aa (b9 r) (x,i)=true:=h;rw[hq,if_pos rfl];rw[vC,vC]at h;have:=OJ g hr SM (x:=(x,i)) hx (of_decide_eq_true h.2.1);refine(iR (ds:=dO O++l) (d:=KI r n (x,i)) (b:=false) rfl (aI [.str "leave",.int i,_] (bK rfl (bK rfl (aD (aI [.tup Z,.int n,.int i] rfl this) rfl))) (bL _ (by simp))) (Mp _ _ _).1 (bM ?_)).trans ?_
    ·have:(dO O).length<=60:=by show(List.map _ _).length<=60;rw[vI];exact Ii
     rw[uZ];omega
    ·simp[F,E]
   ·have hq:HM aa (b9 r) (x,i)=false:=h;rw[hq,if_neg (by decide),uQ];rfl)
  rw[show Z.zipIdx.take Z.length=Z.zipIdx from List.take_of_length_le (by rw[List.length_zipIdx];exact vT _),←OK]at TL;let T:List D:=dO O++dL (j7 (ak Z aa) (b9 r));have hT:∀d∈T,Pl d:=λd hd=>by
   rcases List.mem_append.mp hd with hd|hd
   ·obtain⟨o,_,rfl⟩:=vO hd;exact(HE (n:=0) (Dx _ _ _)).1
   ·obtain⟨x,_,rfl⟩:=vO hd;exact Mp _ _ _
  have VG:T.length<=200:=by show(List.map _ _++List.map _ _).length<=200;rw[uZ,vI,vI];omega
  have ea:f2 bS (fA fG (fV 0 (fV 1 (fV 2 ai)))) (fA gb (fV 0 (fV 1 (fV 2 ai)))) [sF (.tup Z),sF (.int aa),sF (.int n),none]=lT T:=fZ (x:=.lst (dO O)) (y:=.lst (dL (j7 (ak Z aa) (b9 r)))) (b1:=true) (b2:=true) (aI [.tup Z,.int aa,.int n] rfl e1) (aI [.tup Z,.int aa,.int n] rfl e2) (if_pos (dJ (by rw[uZ]at VG;omega)));have hc:=gP (fi:=cu (aj 3)) (nT:=1) (cap:=[4]) (tg:=dC 0) (c:=aU (f2 cC (bC 0 1) (bC 1 2))) (fe:=bC 0 0) (Y:=[sF (.tup Z),sF (.int aa),sF (.int n),sF (.lst (cs.map aY)),sF (.tup (.str k::aB)),none,none,none,none,none,none]) cs aY (λc=>decide (c.p=b9 r)) (λc=>.str c.o) rfl (by omega) λc _=>⟨[some (aY c,false),sF (.tup (.str k::aB))],rfl,cw (bw (.str c.p) (.str (b9 r)) (bw (aY c) (.int 1) rfl rfl (Mg c)) (cO (j:=2) rfl r2) (by simp)),λ_=>⟨false,bw (aY c) (.int 0) rfl rfl (O5 c)⟩⟩;have hs:=D0 kQ (b9 r) hc;have Wg:∀res:Option Res,(a9 (cW (aU (f2 cC (aj 6) (fA br ai))) (aT (fA br (ae (fA aK (ae (fS "none") ai)) ai))) aV) (iI 6)) (E T v7 v8 v9 qE)=res->xD [sF (.tup Z),sF (.int aa),sF (.int n),sF (.lst (cs.map aY)),none,none,none,none,none,none,none]=res:=λres kk=>
   dq _ _ (aC ((wq _ rfl).trans (by rw[decide_eq_false kc])) (cj (ds:=O.map .str) hs (cU _) (cj (ds:=[]) (aI [] rfl (dw _ (by simp))) rfl (dE (show Rp [5] _ _=_ from lQ (Y:=E [] none none none none) (ds:=O.map .str) rfl Ye) (dE (ls (iC (j:=Z.length) (b:=false) (by simp[E]) (by omega)) TL) kk)))))
  by_cases h0:T=[]
  ·rw[h0]at ea Wg;refine⟨[.tup [.str "none"]],av rfl (aC (wd.trans (by rw[decide_eq_false kc])) (cj (ds:=[]) ea rfl (bj (cw (bw (.int 0) (.int 0) (aI [.lst []] rfl rfl) rfl (by simp))) (az (aI [.tup [.str "none"]] (bK (aI [.str "none"] rfl (bL _ (by simp))) rfl) (dw _ (by simp))))))),av rfl (Wg _ (bj (cw (fZ (x:=.lst []) (y:=.lst []) (b1:=false) (b2:=true) rfl (aI [] rfl (dw _ (by simp))) O4)) (az (aI [.tup [.str "none"]] (bK (aI [.str "none"] rfl (bL _ (by simp))) rfl) (dw _ (by simp)))))),λd hd=>?_⟩;rw[uT hd];exact⟨rfl,by simp⟩
  ·have oA:0<T.length:=List.length_pos_iff.mpr h0;refine⟨T,av rfl (aC (wd.trans (by rw[decide_eq_false kc])) (cj (ds:=T) ea (Dz hT) (aC (cw (bw (.int ((T.length:Nat):Int)) (.int 0) (aI [.lst T] rfl rfl) rfl ?_)) (lP rfl)))),av rfl (Wg _ (aC (cw (fZ (x:=.lst T) (y:=.lst []) (b1:=false) (b2:=true) rfl (aI [] rfl (dw _ (by simp))) ?_)) (lP rfl))),hT⟩
   ·have:¬((T.length:Nat):Int)=0:=by omega
    simp only[cC,aq,and_self,if_true,bE];rw[decide_eq_false this]
   ·unfold cC;rw[if_pos ⟨Au hT,by simp[aq]⟩];cases hh:T with
    |nil=>exact absurd hh h0
    |cons=>simp
end
section
variable {Z:List D}(g:∀r∈Z,cy r) (hl:Z.length<=30) (aa:Int) (hn:((b8 (ak Z aa)).map (ay 0)).Nodup) (ho:(cJ (ak Z aa)).length<=60)
include g hl hn ho
theorem EN (day:Int){n:Nat}{r:D}(hr:Z[n]? = some r)(kr:kindOf r∈bN)(hd:aF r<=day)(hs:gB Z aa r=true)(kQ:ie Z aa n r day=[])(hS:n∉ig Z aa day)(eb:gJ [.tup Z,.int aa,.int n]=lT ds):oh [.tup Z,.int aa,.int day,.int n]=lT ds:=by
 have gr:=g r (vL hr);have el:=Am g hl aa hn ho day;have h4:(mf Z aa day (cJ (ak Z aa))).length<=60:=vR (vM _ _) ho;have es:=An ((mf Z aa day (cJ (ak Z aa))).map λx=>(x.2,Dr x.1,mB Z aa x)) (by rw[vI];exact h4)
  (λp hp=>by obtain⟨x,_,rfl⟩:=vO hp;exact HC _) (λp hp=>by obtain⟨x,_,rfl⟩:=vO hp;exact vR (Ap hl aa x) (by decide))
  (by rw[uP];exact List.Nodup.sublist (List.Sublist.map _ List.filter_sublist) (lW (eX Z aa)))
 rw[uP,uP,uP]at es;have tS:aU (f2 Kf (aj 3) (fA nZ (ae (fA nX (fV 0 (fV 1 (fV 2 ai)))) ai))) [sF (.tup Z),sF (.int aa),sF (.int day),sF (.int n),none]=some false:=by
  refine cw (bw (.int n) (.dk ((ig Z aa day).map nK) ((ig Z aa day).map EH)) rfl (aI [_] (aD (aI [.tup Z,.int aa,.int day] rfl el) rfl) es) ?_);show some (D.bl (cz ((ig Z aa day).map nK) ((ig Z aa day).map EH) (.inl (n:Int))).isSome,false)=_;rw[HG,decide_eq_false hS]
 have tD:aU (f2 DZ (fA aX (ae (f2 bA (aj 0) (aj 3)) ai)) (aj 2)) [sF (.tup Z),sF (.int aa),sF (.int day),sF (.int n),none]=some false:=cw (bw (.int (aF r)) (.int day) (aI [r] (bK (bw (.tup Z) (.int n) rfl rfl (by simp[bU hr])) rfl) (px gr (xV kr))) rfl (show sF (.bl (decide (day<aF r)))=_ by rw[decide_eq_false (by omega)]));have tC:aU (fA cI (fV 0 (fV 1 (fV 3 ai)))) [sF (.tup Z),sF (.int aa),sF (.int day),sF (.int n),none]=some true:=cw (aI [.tup Z,.int aa,.int n] rfl ((l8 Z (λr hr=>(g r hr).c.rp) (by omega) aa hr).trans (by rw[hs])));have ec:=Ai g (by omega) aa hn ho hr day;rw[kQ]at ec;exact av rfl (aC tS (aC tD (aC (bO tC) (cj (ds:=[]) (aI [.tup Z,.int aa,.int n,.int day] rfl ec) rfl (aC (cw (bw (.int 0) (.int 0) (aI [.lst []] rfl rfl) rfl rfl)) (az (aI [.tup Z,.int aa,.int n] rfl eb)))))))
end
theorem law_true (ns:List Int)(_:ns.length<=63):∃b,F_law [.lst (ns.map .int)]=some (.bl true,b):=by
 obtain⟨c0,e0,h0⟩:=i7 ns 0;obtain⟨c3,e3,h3⟩:=i7 ns 3;obtain⟨c4,e4,h4⟩:=i7 ns 4;obtain⟨Ip,Yi,h90⟩:=i7 ns 90;obtain⟨zs,ez,hz,hzd⟩:=Ho c0 h0;have Yj:=mod_lt (x:=c3) (m:=3) (by decide);obtain⟨ms,Qk,ems⟩:=o5 (ns:=[1,1,500]) (i:=c3 % 3) Yj.1 Yj.2;obtain⟨Z,erw,MB,SG,Pg⟩:=K6 ns zs hz ms;have aaQ:=mod_lt (x:=c3 / 3) (m:=13) (by decide);have hm4:=mod_lt (x:=c4) (m:=3) (by decide);have aaR:=mod_lt (x:=Ip / 2) (m:=13) (by decide);have TD:=mod_lt (x:=Ip) (m:=2) (by decide);obtain⟨aa,ID,ekn⟩:=o5 (ns:=[9999,c3 / 3 % 13*ms]) (i:=c4 % 3 / 2) (by omega) (by simp;omega);obtain⟨day,hdy,edy⟩:=o5 (ns:=[9999,Ip / 2 % 13*ms]) (i:=Ip % 2) (by omega) (by simp;omega);have SN:bq (.tup Z)=true:=by simp[bT λd hd=>(MB d hd).flat]
 have hn:((b8 (ak Z aa)).map (ay 0)).Nodup:=by
  refine List.Nodup.sublist (HJ Z aa) ?_;rw[Pg];refine List.Nodup.sublist (List.take_sublist _ _) ?_;obtain⟨x,hx⟩:∃x,zs[5]? = some x:=⟨_,vU (by omega)⟩;obtain⟨y,hy⟩:∃y,zs[6]? = some y:=⟨_,vU (by omega)⟩;have e:zs.drop 5=[x,y]:=by
   refine List.ext_getElem? λj=>?_;rw[List.getElem?_drop];match j with
   |0=>exact hx
   |1=>exact hy
   |j+2=>rw[List.getElem?_eq_none (by omega)];rfl
  rw[e];simp[hzd x y hx hy]
 have ho:(cJ (ak Z aa)).length<=60:=by
  unfold cJ;rw[(bG _ _).length_eq];exact vR (vM _ _) (vR (cB Z aa) (by omega))
 have es:=Aq MB (by omega) aa hn ho day;obtain⟨ecl,kQ⟩:=iG (Z:=Z) ⟨by omega,λr hr=>(MB r hr).c⟩ aa ho;let S:List Nat:=ig Z aa day;let C:List D:=(aR (ak Z aa)).map aY;let E:OB->OB->OB->OB->DL.Env:=λv8 v9 qE w4=>[sF (.lst (ns.map .int)),lT (zs.map .str),sF (.int ms),sF (.tup Z),sF (.int aa),sF (.int day),lT (pV S),lT C,v8,v9,qE,w4];obtain⟨ρ',ell,v8,v9,qE,w4,rfl⟩:=lq (tg:=dC 8) (g:=GX) Z.length (λ_ Y=>∃v8 v9 qE w4,Y=E v8 v9 qE w4) (E none none none none) ⟨none,none,none,none,rfl⟩ (by
  rintro n Y hi ⟨v8,v9,qE,w4,rfl⟩;have hr:Z[n]? = some Z[n]:=vU hi;generalize Z[n]=r at hr;have gr:=MB r (vL hr);obtain⟨xa,xk,xr,ex,xd⟩:=id gr;have ax:=bU hr;rw[show r=.tup [.int xa,.tup (.str xk::xr)]from ex]at ax;have hxk:kindOf r=xk:=by rw[ex];rfl
  have hxa:ba r=xa:=by rw[ex];rfl
  let F:DL.Env:=E (sF (.int n)) (sF (.int xa)) (sF (.tup (.str xk::xr))) w4;have c1:aU (f2 nE (aj 9) (aj 4)) F=some (decide (xa<=aa)):=cw (bw (.int xa) (.int aa) rfl rfl (by simp));have c2:aU (f2 ya (bC 10 0) (fA aK (ae (fS "leave") (ae (fS "paper") (ae (fS "like") (ae (fS "copy") ai)))))) F=some (decide (xk∈bN)):=cw (bw (.str xk) (.tup (bN.map .str)) (cO (j:=0) rfl rfl) (aI (bN.map .str) rfl (bL _ (by decide))) (iX _ _));have c3:decide (xk∈bN)=true->aU (f2 nE (bC 10 1) (aj 5)) F=some (decide (aF r<=day)):=λh=>by
   obtain⟨dd,b2,q,er⟩:=xP xd (eQ (.inl (of_decide_eq_true h)));rw[show aF r=dd by rw[ex,er];rfl];exact cw (bw (.int dd) (.int day) (cO (j:=1) rfl (by rw[er];rfl)) rfl (by simp))
  have c4:aU (f2 fK (aj 8) (aj 6)) F=some (!decide (n∈S)):=by
   refine cw (bw (.int n) (.lst (pV S)) rfl rfl ?_);have:=KO n S;simp only[ya,gk,vJ]at this;simp only[fK,gk,vJ];split at this
   ·rename_i hc;rw[if_pos hc];have e:=(vK this);injection e with e _;injection e with e;rw[e]
   ·cases this
  have tt:=cF c1 λ_=>cF c2 λh=>cF (c3 h) λ_=>c4;have t1:aU (fA cI (fV 3 (fV 4 (fV 8 ai)))) F=some (gB Z aa r):=cw (aI [.tup Z,.int aa,.int n] rfl (l8 Z (λr hr=>(MB r hr).c.rp) (by omega) aa hr));have t2:aU (f2 cC (fA lS (fV 3 (fV 4 (fV 8 (fV 5 ai))))) (fA br ai)) F=some (ie Z aa n r day).isEmpty:=by
   refine cw (fZ (x:=.lst ((ie Z aa n r day).map λn:Nat=>.int n)) (y:=.lst []) (b1:=true) (b2:=true) (aI [.tup Z,.int aa,.int n,.int day] rfl (Ai MB (by omega) aa hn ho hr day)) (aI [] rfl (dw _ (by simp))) ?_);cases ie Z aa n r day with
   |nil=>exact O4
   |cons a l=>
    unfold cC;rw[if_pos ⟨by
     simp only[aq,List.all_eq_true];intro d hd;obtain⟨n,_,rfl⟩:=vO hd;simp,by simp[aq]⟩]
    simp
  have ts:=cF t1 λ_=>t2;have hxf:bq (.tup (.str xk::xr))=true:=by simp[xd.flat]
  have key:∃Qi,cW (cA (aU (f2 nE (aj 9) (aj 4))) (cA (aU (f2 ya (bC 10 0) (fA aK (ae (fS "leave") (ae (fS "paper") (ae (fS "like") (ae (fS "copy") ai))))))) (cA (aU (f2 nE (bC 10 1) (aj 5))) (aU (f2 fK (aj 8) (aj 6)))))) (cW (cA (aU (fA cI (fV 3 (fV 4 (fV 8 ai))))) (aU (f2 cC (fA lS (fV 3 (fV 4 (fV 8 (fV 5 ai))))) (fA br ai)))) (a9 (aQ 11 (fA oh (fV 3 (fV 4 (fV 5 (fV 8 ai)))))) (cW (js (dS (aU (fA gN (fV 11 (ae (fC (.ty "list")) ai))))) (aU (f2 tG (aj 11) (fA om (fV 3 (fV 4 (fV 8 (fV 7 ai)))))))) (aT (fC (.bl false))) aV)) aV) aV F=some (.nx (E (sF (.int n)) (sF (.int xa)) (sF (.tup (.str xk::xr))) Qi)):=by
   cases hA:(decide (xa<=aa) && (decide (xk∈bN) && (decide (aF r<=day) && !decide (n∈S)))) with
   |false=>rw[hA]at tt;exact⟨w4,md tt rfl⟩
   |true=>
    rw[hA]at tt;cases hB:(gB Z aa r && (ie Z aa n r day).isEmpty) with
    |false=>rw[hB]at ts;exact⟨w4,kM tt (md ts rfl)⟩
    |true=>
     rw[hB]at ts;have hf:xU Z aa day (r,n)=true:=by
      simp only[vC]at hA hB;unfold xU;rw[hB.1,hB.2,hA.2.2.1];rfl
     simp only[vC]at hA hB;have kr:kindOf r∈bN:=by rw[hxk];exact of_decide_eq_true hA.2.1
     have hk:ba r<=aa:=by rw[hxa];exact of_decide_eq_true hA.1
     have hS:n∉ig Z aa day:=by simpa using hA.2.2.2
     obtain⟨ds,eb,ed,hP⟩:=HN MB (by omega) aa hn ho day hr kr hk hf hS;have ef:=EN MB (by omega) aa hn ho day hr kr (of_decide_eq_true hA.2.2.1) hB.1 (List.isEmpty_iff.mp hB.2) hS eb;let G:DL.Env:=E (sF (.int n)) (sF (.int xa)) (sF (.tup (.str xk::xr))) (lT ds);have u1:aU (fA gN (fV 11 (ae (fC (.ty "list")) ai))) G=some true:=cw (aI [.lst ds,.ty "list"] rfl O4);have u2:aU (f2 tG (aj 11) (fA om (fV 3 (fV 4 (fV 8 (fV 7 ai)))))) G=some false:=cw (fZ (x:=.lst ds) (y:=.lst ds) (b1:=false) (b2:=true) rfl (aI [.tup Z,.int aa,.int n,.lst C] rfl ed) (HI (Au hP)));exact⟨lT ds,kM tt (kM ts (cj (ds:=ds) (aI [.tup Z,.int aa,.int day,.int n] rfl ef) (Dz hP) (md (cY (p:=false) (q:=false) (bO u1) λ_=>u2) rfl)))⟩
  obtain⟨Qi,key⟩:=key;exact⟨_,_,rfl,.inl (OH (x:=.int xa) (y:=.tup (.str xk::xr)) (b:=false) (bw (.tup Z) (.int n) rfl rfl (by simp[ax])) rfl hxf key),_,_,_,_,rfl⟩)
 refine⟨false,av rfl (cj (ds:=zs.map .str) (aI [.int c0] (aD (aI [.lst (ns.map .int),.int ((0:Nat):Int)] rfl e0) rfl) ez) (cU zs) (fB (.int ms) ?_ rfl (fB (.tup Z) (aI [.lst (ns.map .int),.lst (zs.map .str),.int ms,.int 14] rfl erw) SN (fB (.int aa) ?_ rfl (fB (.int day) ?_ rfl (cj (ds:=pV S) (aI [.tup Z,.int aa,.int day] rfl es) (EK S) (cj (ds:=C) (aI [.tup Z,.int aa] rfl ecl) (gV _) (dE (ls (iC (j:=Z.length) (b:=false) (by simp) (by omega)) ell) (az rfl)))))))))⟩
 ·exact fZ (x:=.lst (([1,1,500]:List Int).map .int)) (y:=.int (c3 % 3)) (b1:=true) (b2:=false) (by simp[sizeLine]) (bw (.int c3) (.int 3) (aI [.lst (ns.map .int),.int ((3:Nat):Int)] rfl e3) rfl (by simp)) ems
 ·exact fZ (x:=.lst (([9999,c3 / 3 % 13*ms]:List Int).map .int)) (y:=.int (c4 % 3 / 2)) (b1:=true) (b2:=false) (aI [.int 9999,.int (c3 / 3 % 13*ms)] (bK rfl (bK (bw (.int (c3 / 3 % 13)) (.int ms) (bw (.int (c3 / 3)) (.int 13) (bw (.int c3) (.int 3) (aI [.lst (ns.map .int),.int ((3:Nat):Int)] rfl e3) rfl (by simp)) rfl (by simp)) rfl (pv (by omega))) rfl)) (dw _ (by simp))) (bw (.int (c4 % 3)) (.int 2) (bw (.int c4) (.int 3) (aI [.lst (ns.map .int),.int ((4:Nat):Int)] rfl e4) rfl (by simp)) rfl (by simp)) ekn
 ·exact fZ (x:=.lst (([9999,Ip / 2 % 13*ms]:List Int).map .int)) (y:=.int (Ip % 2)) (b1:=true) (b2:=false) (aI [.int 9999,.int (Ip / 2 % 13*ms)] (bK rfl (bK (bw (.int (Ip / 2 % 13)) (.int ms) (bw (.int (Ip / 2)) (.int 13) (bw (.int Ip) (.int 2) (aI [.lst (ns.map .int),.int ((90:Nat):Int)] rfl Yi) rfl (by simp)) rfl (by simp)) rfl (pv (by omega))) rfl)) (dw _ (by simp))) (bw (.int Ip) (.int 2) (aI [.lst (ns.map .int),.int ((90:Nat):Int)] rfl Yi) rfl (by simp)) edy
end Lw
namespace Lw
open PySem PySem.Spec PyProof.Rows L2 DL
noncomputable def eB (i:Nat):Stmt:=PySem.Challenge.pw_sealchain_k34_faults_link_by_link.main.body.getD i (.Pass ⟨0,0,0,0⟩)
structure Tx (w:World)(K:Frag)(mg:Str->Option Value):Prop where
 hX:∃h,K.In h/\h.Ns mainGlobals mg
 d0:dj K "word_of" (eB 7)
 d1:dj K "part_of" (eB 8)
 d2:dj K "day_of" (eB 9)
 d3:dj K "is_known" (eB 12)
 d4:dj K "heard" (eB 11)
 d5:dj K "tells" (eB 19)
 d6:dj K "told_of" (eB 20)
 d7:dj K "lives" (eB 21)
 d8:dj K "rank" (eB 13)
 d9:dj K "has_seal" (eB 22)
 d10:dj K "is_sound" (eB 23)
 d11:dj K "in_order" (eB 15)
 d12:dj K "by_office" (eB 27)
 d13:dj K "roots" (eB 16)
 d14:dj K "lies_in" (eB 1)
 d15:dj K "is_alive" (eB 25)
 d16:dj K "by_since" (eB 26)
 d17:dj K "chief_of" (eB 28)
 d18:dj K "holder_by" (eB 29)
 d19:dj K "is_held_by" (eB 30)
 d20:dj K "is_first_death" (eB 31)
 d21:dj K "counts" (eB 32)
 d22:dj K "new_claim" (eB 33)
 d23:dj K "ended" (eB 34)
 d24:dj K "after_choice" (eB 35)
 d25:dj K "inherited" (eB 36)
 d26:dj K "after_death" (eB 37)
 d27:dj K "claims" (eB 38)
 d28:dj K "is_paper" (eB 42)
 d29:dj K "is_leave" (eB 43)
 d30:dj K "is_borne" (eB 44)
 d31:dj K "covers" (eB 4)
 d32:dj K "may_call" (eB 45)
 d33:dj K "calls_in" (eB 46)
 d34:dj K "calls_by" (eB 47)
 d35:dj K "calls" (eB 48)
 d36:dj K "reach_bar" (eB 49)
 d37:dj K "office_bar" (eB 50)
 d38:dj K "office_bases" (eB 53)
 d39:dj K "ends_within" (eB 3)
 d40:dj K "is_within" (eB 2)
 d41:dj K "is_ahead" (eB 14)
 d42:dj K "leave_bar" (eB 51)
 d43:dj K "leaves_to" (eB 52)
 d44:dj K "leave_bases" (eB 54)
 d45:dj K "copy_bases" (eB 55)
 d46:dj K "bases_by" (eB 56)
 d47:dj K "is_fit" (eB 58)
 d48:dj K "links" (eB 59)
 d49:dj K "bears" (eB 60)
 d50:dj K "stood" (eB 61)
 d51:dj K "standing" (eB 62)
 d52:dj K "office_faults" (eB 64)
 d53:dj K "leave_fault" (eB 65)
 d54:dj K "leave_faults" (eB 66)
 d55:dj K "bases" (eB 57)
 d56:dj K "copy_fault" (eB 67)
 d57:dj K "base_faults" (eB 68)
 d58:dj K "faults" (eB 69)
 d59:dj K "_law_cell" (eB 71)
 d60:dj K "_law_names" (eB 72)
 d61:dj K "_law_stretch" (eB 73)
 d62:dj K "_law_deed" (eB 74)
 d63:dj K "_law_rows" (eB 75)
 d64:dj K "holder" (eB 39)
 d65:dj K "_law_within" (eB 76)
 d66:dj K "_law_of_office" (eB 78)
 d67:dj K "_law_days_fit" (eB 77)
 d68:dj K "_law_of_leave" (eB 79)
 d69:dj K "_law_due" (eB 80)
 d70:dj K "law" (eB 81)
 n0:mg "all" = none
 n1:mg "any" = none
 n2:mg "dict" = none
 n3:mg "enumerate" = none
 n4:mg "int" = none
 n5:mg "isinstance" = none
 n6:mg "len" = none
 n7:mg "list" = none
 n8:mg "max" = none
 n9:mg "min" = none
 n10:mg "range" = none
 n11:mg "set" = none
 n12:mg "sorted" = none
 n13:mg "tuple" = none
 k0:KC K mg "PAPERS" z8
 k1:KD w K mg "PARTS" iw
 k2:KC K mg "SEALINGS" iS
 l9:Bo K "has_seal"
 l11:Bo K "in_order"
 l20:Bo K "is_first_death"
 l46:Bo K "bases_by"
section
variable {P:Program}{w:World}{K:Frag}{mg:Str->Option Value}{base:Heap}(T:Tx w K mg)
include T
theorem f0:Fn P w K mg base 1 "word_of" aN:=T.d0.fq T.hX vn ["row"] 1 λnd hr hu=>
  (be (aL (aW 0) aw))
theorem f1:Fn P w K mg base 2 "part_of" au:=T.d1.fq T.hX vp ["row","part"] 2 λnd hr hu=>
  (be (aL (aW 0) (a8 bv aw (JV T.k1 (aA (f0 T) hr) (ah 1)))))
theorem f2:Fn P w K mg base 3 "day_of" aX:=T.d2.fq T.hX z9 ["row"] 1 λnd hr hu=>
  (ao (bH (aG (cq hu) (aA (f0 T) hr) a7) df)
   (be (aA (f1 T) hr)))
theorem f3:Fn P w K mg base 1 "is_known" cH:=T.d3.fq T.hX rM ["book","known","number"] 3 λnd hr hu=>
  (be (gu (FQ kH ut aw (ah 2) (bF im T.n6 io (aH 0 am))) (fT (cn kH (aL (aL (ah 0) (ah 2)) aw) (ah 1)))))
theorem f4:Fn P w K mg base 1 "heard" cM:=T.d4.fq T.hX CH ["book","known"] 2 λnd hr hu=>
  (be (gn ["number","row","known"] (JM T.n3 (ah 0)) (eE (aG kH (aW 1) (ah 2))) (ah 0)))
theorem f5:Fn P w K mg base 4 "tells" qA:=T.d5.fq T.hX CJ ["row","words","person","day"] 4 λnd hr hu=>
  (be (gu (cn yM (aA (f0 T) hr) (ah 1)) (gu (cn (cq hu) (aA (f1 T) hr) (ah 2)) (fT (cn kH (aA (f2 T) hr) (ah 3))))))
theorem f6:Fn P w K mg base 5 "told_of" iD:=T.d6.fq T.hX vq ["book","known","words","person","day"] 5 λnd hr hu=>
  (be (gn ["number","words","person","day","book"] (c8 (aA (f4 T) hr)) (eE (cf (aZ (f5 T) hr (ag (aL (ah 4) (ah 0)) (aH 1 (aH 2 (aH 3 am))))))) (ah 0)))
theorem f7:Fn P w K mg base 6 "lives" nQ:=T.d7.fq T.hX CK ["book","known","person","day"] 4 λnd hr hu=>
  (be (cn (cq hu) (bF im T.n6 io (ag (aZ (f6 T) hr (aH 0 (aH 1 (ag (aM (ag a7 am)) (aH 2 (aH 3 am)))))) am)) aw))
theorem f8:Fn P w K mg base 4 "rank" fM:=T.d8.fq T.hX GW ["book","number"] 2 λnd hr hu=>
  (be (aM (ag (aZ (f2 T) hr (ag (aL (ah 0) (ah 1)) am)) (aH 1 am))))
theorem f9:Fn P w K mg base 8 "has_seal" mN:=T.d9.fqL T.hX rN ["book","known","person","day","told"] 4 λnd hr hu jT=>
  (ao (aE nd (aZ (f6 T) hr (aH 0 (aH 1 (ag (aM (ag a7 (ag a7 am))) (aH 2 (aH 3 am)))))))
   (ao (bH (aG (cq hu) (bF im T.n6 io (aH 4 am)) aw) iK)
   (be (cn (cq hu) (aZ (f0 T) hr (ag (aL (ah 0) (zq Wz T.n8 (ah 4) (xw (cap:=[0]) (N':=["number","book"]) (by decide +kernel) T.l9 jT rfl rfl (Cz (by decide +kernel) rfl rfl rfl rfl rfl) rfl (.cons rfl rfl (Or.inl rfl) rfl (qr (by decide +kernel) rfl) (.nil rfl)) rfl hr.in1 (λ_ _ _ _=>rfl) λ_ _ _ _ hr=>have hu:=Ec hr;(aA (f8 T) hr)) hr)) am)) a7))))
theorem f10:Fn P w K mg base 9 "is_sound" cI:=T.d10.fq T.hX rO ["book","known","number","sealer","day"] 3 λnd hr hu=>
  (ao (bH (jv (kW (fj (cf (aA (f3 T) hr))) (jX (aG nF (aZ (f0 T) hr (ag (aL (ah 0) (ah 2)) am)) (yI T.k2))))) iK)
   (ao (aE nd (aZ (f1 T) hr (ag (aL (ah 0) (ah 2)) (ag a7 am))))
   (ao (aE nd (aZ (f2 T) hr (ag (aL (ah 0) (ah 2)) am)))
   (be (gu (aA (f7 T) hr) (fT (aA (f9 T) hr)))))))
theorem f11:Fn P w K mg base 8 "in_order" eK:=T.d11.fqL T.hX rP ["book","known","dated"] 2 λnd hr hu jT=>
  (ao (pD ["number","book"] nd (c8 (aA (f4 T) hr)) (eE (aG qu (aZ (f2 T) hr (ag (aL (ah 1) (ah 0)) am)) df)) (ah 0))
   (be (G5 G3 T.n12 (ah 2) (xw (cap:=[0]) (N':=["number","book"]) (by decide +kernel) T.l11 jT rfl rfl (Cz (by decide +kernel) rfl rfl rfl rfl rfl) rfl (.cons rfl rfl (Or.inl rfl) rfl (qr (by decide +kernel) rfl) (.nil rfl)) rfl hr.in1.in1 (λ_ _ _ _=>rfl) λ_ _ _ _ hr=>have hu:=Ec hr;(aA (f8 T) hr)))))
theorem Y9:Fn P w K mg base 1 "by_office" gQ:=T.d12.fq T.hX pE ["claim"] 1 λnd hr hu=>
  (be (aM (ag (aW 0) (ag (aW 0) (ag (aW 0) am)))))
theorem RD:Fn P w K mg base 3 "roots" eW:=T.d13.fq T.hX CL ["book","known","known_rows"] 2 λnd hr hu=>
  (ao (pD ["number","book"] nd (c8 (aA (f4 T) hr)) jW (aL (ah 1) (ah 0)))
   (be (gw (Ot rfl) T.n2 Oq (ag (gn ["row"] (c8 (ah 2)) (eE (aG (cq hu) (aA (f0 T) hr) a7)) (aM (ag (aA (f1 T) hr) (aH 0 am)))) am))))
theorem W8:Fn P w K mg base 1 "lies_in" jL:=T.d14.fq T.hX vt ["day","stretch"] 2 λnd hr hu=>
  (be (gu (cn kH (aW 1) (ah 0)) (fT (FR (cn yK (aW 1) df) (fT (cn ut (ah 0) (aW 1)))))))
theorem UG:Fn P w K mg base 2 "is_alive" cZ:=T.d15.fq T.hX rQ ["claim","day"] 2 λnd hr hu=>
  (be (aZ (W8 T) hr (aH 1 (ag (aM (ag (aW 0) (ag (aW 0) am))) am))))
theorem UH:Fn P w K mg base 1 "by_since" dI:=T.d16.fq T.hX rR ["claim"] 1 λnd hr hu=>
  (be (aM (ag (aW 0) (ag (aW 0) am))))
theorem YA:Fn P w K mg base 5 "chief_of" mO:=T.d17.fq T.hX rS ["alive","rule"] 2 λnd hr hu=>
  (ao (bH (aG (cq hu) (ah 1) a7) (aL (zq Wz T.n8 (ah 0) (C1 (UH T) (hr.in1.mono (by decide)) rfl) hr) aw))
   (be (aL (zq U2 T.n9 (ah 0) (C1 (UH T) (hr.in1.mono (by decide)) rfl) hr) aw)))
theorem UI:Fn P w K mg base 6 "holder_by" dF:=T.d18.fq T.hX pF ["claimed","root","day","alive","people","person","oldest"] 3 λnd hr hu=>
  (ao (pD ["claim","day","root"] nd (c8 (ah 0)) (eE (jv (fJ (aG (cq hu) (aW 0) (aA (f1 T) hr)) (fE (cf (aA (UG T) hr)))))) (ah 0))
   (ao (aE nd (km rfl T.n12 T.n11 (gn ["claim"] (c8 (ah 3)) jW (aW 0))))
   (ao (bH (aG (cq hu) (bF im T.n6 io (aH 4 am)) aw) (aM (ag a7 am)))
   (ao (bH (jv (fJ (aG AW (bF im T.n6 io (aH 4 am)) aw) (fE (aG (cq hu) (aA (f1 T) hr) a7)))) (aM (ag a7 (aH 4 am))))
   (ao (aE nd (aZ (YA T) hr (aH 3 (ag (aA (f1 T) hr) am))))
   (ao (aE nd (zq U2 T.n9 (gn ["claim","person"] (c8 (ah 3)) (eE (aG (cq hu) (aW 0) (ah 1))) (ah 0)) (C1 (UH T) (hr.in1.mono (by decide)) rfl) hr))
   (be (aM (ag a7 (aH 5 (ag (aW 6) am)))))))))))
theorem UJ:Fn P w K mg base 7 "is_held_by" cR:=T.d19.fq T.hX nR ["claimed","root","person","day"] 4 λnd hr hu=>
  (be (cn (cq hu) (qP (aA (UI T) hr) wS (wT aw)) (aM (ag a7 (aH 2 am)))))
theorem YB:Fn P w K mg base 8 "is_first_death" g8:=T.d20.fqL T.hX jM ["book","known","number","row","deaths"] 3 λnd hr hu jT=>
  (ao (aE nd (aL (ah 0) (ah 2)))
   (ao (aE nd (aZ (f6 T) hr (aH 0 (aH 1 (ag (aM (ag a7 am)) (ag (aA (f1 T) hr) (ag (aA (f2 T) hr) am)))))))
   (be (cn (cq hu) (zq U2 T.n9 (ah 4) (xw (cap:=[0]) (N':=["each","book"]) (by decide +kernel) T.l20 jT rfl rfl (Cz (by decide +kernel) rfl rfl rfl rfl rfl) rfl (.cons rfl rfl (Or.inl rfl) rfl (qr (by decide +kernel) rfl) (.nil rfl)) rfl hr.in1 (λ_ _ _ _=>rfl) λ_ _ _ _ hr=>have hu:=Ec hr;(aA (f8 T) hr)) hr) (ah 2)))))
theorem YC:Fn P w K mg base 10 "counts" nS:=T.d21.fq T.hX zA ["book","known","so_far","number","row","root"] 4 λnd hr hu=>
  (ao (aE nd (aL (ah 0) (ah 3)))
   (ao (bH (aG (cq hu) (aA (f0 T) hr) a7) (aA (YB T) hr))
   (ao (bH (aG nF (aA (f0 T) hr) (aM (ag a7 (ag a7 (ag a7 am))))) iK)
   (ao (aE nd (zu (Ki hu) (aA (RD T) hr) (aA (f1 T) hr) ⟨rfl,rfl,rfl,rfl⟩))
   (ao (bH (aG yK (ah 5) df) iK)
   (ao (bH (aG (cq hu) (aA (f0 T) hr) a7) iK)
   (be (gu (aA (f10 T) hr) (fT (aZ (UJ T) hr (aH 2 (aH 5 (ag (aA (f1 T) hr) (ag (aA (f2 T) hr) am))))))))))))))
theorem W9:Fn P w K mg base 3 "new_claim" gR:=T.d22.fq T.hX pG ["row","since","number"] 3 λnd hr hu=>
  (be (aM (ag (aA (f1 T) hr) (ag (aA (f1 T) hr) (aH 1 (ag df (aH 2 am)))))))
theorem WA:Fn P w K mg base 3 "ended" qB:=T.d23.fq T.hX CM ["so_far","offices","person","day","left","claim"] 4 λnd hr hu=>
  (ao (aE nd (bu am))
   (ao (vi (c8 (ah 0)) (C9 5 nd) fw (bx (fz (jv (kW (aG nF (aW 5) (ah 1)) (kW (aG (Eb hu) (aW 5) (ah 2)) (jX (fj (jv (kW (cf (aA (UG T) hr)) (jX (aG AW (aW 5) (ah 3)))))))))) (bx (hZ (i:=4) (ah 5))) (bx (fz (aG ut (aW 5) (ah 3)) (bx (hZ (i:=4) (aM (ag (aW 5) (aH 2 (ag (aW 5) (aH 3 (ag (aW 5) am)))))))) eF)))))
   (bx (jY 4))))
theorem YD:Fn P w K mg base 4 "after_choice" iT:=T.d24.fq T.hX lu ["so_far","row","number","since","left"] 3 λnd hr hu=>
  (ao (aE nd (aA (f1 T) hr))
   (ao (aE nd (aZ (WA T) hr (aH 0 (ag (bu (ag (aA (f1 T) hr) am)) (ag (aA (f1 T) hr) (aH 3 am))))))
   (be (a8 bv (ah 4) (bu (ag (aA (W9 T) hr) am))))))
theorem YE:Fn P w K mg base 7 "inherited" lw:=T.d25.fq T.hX pH ["book","known","so_far","heirs","number","person","day","told","office","heir"] 5 λnd hr hu=>
  (ao (aE nd (aZ (f1 T) hr (ag (aL (ah 0) (ah 4)) (ag a7 am))))
   (ao (aE nd (aZ (f2 T) hr (ag (aL (ah 0) (ah 4)) am)))
   (ao (aE nd (bu am))
   (ao (LY [5,6] (vi (c8 (km rfl T.n12 T.n11 (gn ["claim","person","day"] (c8 (ah 2)) (eE (jv (fJ (aG (cq hu) (aW 0) (ah 1)) (fE (cf (aA (UG T) hr)))))) (aW 0)))) (C9 8 nd) fw (ao (aE nd (GJ (Ki hu) (ah 3) (aH 8 (aH 5 am)) ⟨rfl,rfl,rfl,rfl⟩))
   (bx (fz (jv (fJ (aG qu (ah 9) df) (fE (cf (aA (f7 T) hr))))) (bx (hZ (i:=7) (aM (aH 8 (aH 9 (aH 6 (ag df (aH 4 am)))))))) eF)))))
   (bx (jY 7))))))
theorem YF:Fn P w K mg base 8 "after_death" jz:=T.d26.fq T.hX mv ["book","known","so_far","heirs","number","offices","left"] 5 λnd hr hu=>
  (ao (pD ["claim"] nd (c8 (ah 2)) jW (aW 0))
   (ao (aE nd (aZ (WA T) hr (aH 2 (aH 5 (ag (aZ (f1 T) hr (ag (aL (ah 0) (ah 4)) (ag a7 am))) (ag (aZ (f2 T) hr (ag (aL (ah 0) (ah 4)) am)) am))))))
   (be (a8 bv (ah 6) (aA (YE T) hr)))))
theorem P8:Fn P w K mg base 11 "claims" gS:=T.d27.fq T.hX zB ["book","known","so_far","heirs","number","row"] 2 λnd hr hu=>
  (ao (aE nd (bu am))
   (ao (Kg (i:=3) nd)
   (ao (vi (c8 (aA (f11 T) hr)) (C9 4 nd) fw (ao (aE nd (aL (ah 0) (ah 4)))
   (ao (fz (fj (cf (aA (YC T) hr))) (bx JG) eF)
   (bx (fz (aG (cq hu) (aA (f0 T) hr) a7) (bx (aE nd (a8 bv (ah 2) (bu (ag (aZ (W9 T) hr (aH 5 (ag (aA (f2 T) hr) (aH 4 am)))) am))))) (bx (fz (aG (cq hu) (aA (f0 T) hr) a7) (bx (aE nd (aA (YD T) hr))) (bx (fz (aG (cq hu) (aA (f0 T) hr) a7) (bx (Kj (i:=3) (Ki hu) (aA (f1 T) hr) (ag (aA (f1 T) hr) (ag (aA (f1 T) hr) am)))) (bx (aE nd (aA (YF T) hr))))))))))))
   (be (G5 G3 T.n12 (ah 2) (C1 (Y9 T) (hr.in1.in1.mono (by decide)) rfl))))))
theorem WB:Fn P w K mg base 2 "is_paper" fN:=T.d28.fq T.hX rV ["book","known","number"] 3 λnd hr hu=>
  (be (gu (aA (f3 T) hr) (fT (cn yM (aZ (f0 T) hr (ag (aL (ah 0) (ah 2)) am)) (yI T.k0)))))
theorem WC:Fn P w K mg base 2 "is_leave" g9:=T.d29.fq T.hX rW ["book","known","number"] 3 λnd hr hu=>
  (be (gu (aA (f3 T) hr) (fT (cn (cq hu) (aZ (f0 T) hr (ag (aL (ah 0) (ah 2)) am)) a7))))
theorem UK:Fn P w K mg base 3 "is_borne" eM:=T.d30.fq T.hX rX ["book","known","number"] 3 λnd hr hu=>
  (be (FR (aA (WC T) hr) (fT (aA (WB T) hr))))
theorem WD:Fn P w K mg base 1 "covers" iU:=T.d31.fq T.hX rY ["matters","some"] 2 λnd hr hu=>
  (be (cn (cq hu) (a8 FV (ah 0) (ah 1)) (ah 1)))
theorem YG:Fn P w K mg base 8 "may_call" mP:=T.d32.fq T.hX rZ ["book","known","claimed","call","number","row","caller","over"] 5 λnd hr hu=>
  (ao (aE nd (aL (ah 0) (ah 4)))
   (ao (aE nd (aZ (f1 T) hr (ag (aL (ah 0) (ah 3)) (ag a7 am))))
   (ao (bH (aG (cq hu) (ah 6) (aA (f1 T) hr)) iK)
   (ao (bH (aG (cq hu) (aA (f0 T) hr) a7) iK)
   (ao (pD ["root","row"] nd (C7 (aA (RD T) hr)) (eE (cf (aZ (WD T) hr (ag (aA (f1 T) hr) (ag (aA (f1 T) hr) am))))) (ah 0))
   (be (bF LS T.n1 LU (ag (gn ["root","claimed","caller","book","call"] (c8 (ah 7)) jW (aZ (UJ T) hr (aH 1 (aH 0 (aH 2 (ag (aZ (f2 T) hr (ag (aL (ah 3) (ah 4)) am)) am)))))) am))))))))
theorem YH:Fn P w K mg base 10 "calls_in" ko:=T.d33.fq T.hX se ["book","known","claimed","call","number","day","row"] 6 λnd hr hu=>
  (ao (aE nd (aL (ah 0) (ah 3)))
   (ao (bH (jv (kW (aG (Eb hu) (aA (f0 T) hr) a7) (kW (aG (Eb hu) (aA (f1 T) hr) (ah 4)) (jX (aG AW (aA (f2 T) hr) (ah 5)))))) iK)
   (be (gu (aA (f10 T) hr) (fT (aA (YG T) hr))))))
theorem WE:Fn P w K mg base 11 "calls_by" kq:=T.d34.fq T.hX sf ["book","known","claimed","number","day"] 5 λnd hr hu=>
  (ao (bH (fj (cf (aA (UK T) hr))) (bu am))
   (be (gn ["call","book","known","claimed","number","day"] (c8 (aA (f4 T) hr)) (eE (cf (aA (YH T) hr))) (ah 0))))
theorem WG:Fn P w K mg base 12 "calls" lS:=T.d35.fq T.hX CN ["book","known","number","day"] 4 λnd hr hu=>
  (be (aZ (WE T) hr (aH 0 (aH 1 (ag (aA (P8 T) hr) (aH 2 (aH 3 am)))))))
theorem WH:Fn P w K mg base 3 "reach_bar" jo:=T.d36.fq T.hX pJ ["row","above"] 2 λnd hr hu=>
  (ao (bH (fj (cf (aZ (WD T) hr (ag (aA (f1 T) hr) (ag (aA (f1 T) hr) am))))) a7)
   (ao (bH (jv (fJ (aG (cq hu) (aA (f0 T) hr) a7) (fE (aG QV (aA (f1 T) hr) (aA (f1 T) hr))))) a7)
   (be df)))
theorem WI:Fn P w K mg base 8 "office_bar" ga:=T.d37.fq T.hX nU ["claimed","row","root"] 3 λnd hr hu=>
  (ao (bH (fj (cf (aZ (UJ T) hr (aH 0 (aH 2 (ag (aA (f1 T) hr) (ag (aA (f2 T) hr) am))))))) a7)
   (be (aA (WH T) hr)))
theorem YI:Fn P w K mg base 9 "office_bases" iV:=T.d38.fq T.hX lx ["book","known","claimed","number","row","bearing"] 4 λnd hr hu=>
  (ao (aE nd (aL (ah 0) (ah 3)))
   (ao (pD ["root","claimed","row"] nd (C7 (aA (RD T) hr)) (eE (aG yK (aA (WI T) hr) df)) (ah 0))
   (be (gn ["root","claimed","row"] (c8 (ah 5)) jW (aM (ag a7 (ag (aA (f1 T) hr) (ag (aL (aZ (UI T) hr (aH 1 (aH 0 (ag (aA (f2 T) hr) am)))) aw) am))))))))
theorem YJ:Fn P w K mg base 1 "ends_within" j0:=T.d39.fq T.hX mw ["stop","bound"] 2 λnd hr hu=>
  (ao (bH (aG yK (ah 1) df) iK)
   (be (gu (cn qu (ah 0) df) (fT (cn kH (ah 0) (ah 1))))))
theorem YK:Fn P w K mg base 2 "is_within" jp:=T.d40.fq T.hX pK ["one","other"] 2 λnd hr hu=>
  (be (gu (cn kH (aW 1) (aW 0)) (fT (aZ (YJ T) hr (ag (aW 0) (ag (aW 1) am))))))
theorem WJ:Fn P w K mg base 5 "is_ahead" gA:=T.d41.fq T.hX sg ["book","one","other"] 3 λnd hr hu=>
  (be (cn (Rw hu) (aA (f8 T) hr) (aA (f8 T) hr)))
theorem WK:Fn P w K mg base 6 "leave_bar" gT:=T.d42.fq T.hX pL ["book","number","leave","row","stretch"] 3 λnd hr hu=>
  (ao (aE nd (aL (ah 0) (ah 1)))
   (ao (aE nd (aZ (f1 T) hr (ag (aL (ah 0) (ah 2)) (ag a7 am))))
   (ao (bH (fj (cf (aA (WJ T) hr))) a7)
   (ao (bH (jv (kW (fj (cf (aZ (W8 T) hr (ag (aA (f2 T) hr) (aH 4 am))))) (jX (fj (cf (aZ (YK T) hr (ag (aA (f1 T) hr) (aH 4 am)))))))) a7)
   (be (aZ (WH T) hr (aH 3 (ag (aL (ah 0) (ah 2)) am))))))))
theorem WL:Fn P w K mg base 3 "leaves_to" jq:=T.d43.fq T.hX pM ["book","known","person","leaves"] 3 λnd hr hu=>
  (ao (pD ["number","book","known"] nd (c8 (aA (f4 T) hr)) (eE (cf (aA (WC T) hr))) (ah 0))
   (be (gn ["number","person","book"] (c8 (ah 3)) (eE (aG (cq hu) (aZ (f1 T) hr (ag (aL (ah 2) (ah 0)) (ag a7 am))) (ah 1))) (ah 0))))
theorem YL:Fn P w K mg base 7 "leave_bases" j3:=T.d44.fq T.hX mz ["book","known","number","leaves"] 3 λnd hr hu=>
  (ao (aE nd (aZ (WL T) hr (aH 0 (aH 1 (ag (aZ (f1 T) hr (ag (aL (ah 0) (ah 2)) (ag a7 am))) am)))))
   (be (gn ["leave","book","number"] (c8 (ah 3)) (eE (aG yK (aA (WK T) hr) df)) (aM (ag a7 (aH 0 am))))))
theorem YM:Fn P w K mg base 6 "copy_bases" ky:=T.d45.fq T.hX nV ["book","known","number","of"] 3 λnd hr hu=>
  (ao (aE nd (aZ (f1 T) hr (ag (aL (ah 0) (ah 2)) (ag a7 am))))
   (ao (bH (jv (fJ (cf (aA (WB T) hr)) (fE (cf (aA (WJ T) hr))))) (bu (ag (aM (ag a7 (aH 3 am))) am)))
   (be (bu am))))
theorem WM:Fn P w K mg base 10 "bases_by" eN:=T.d46.fqL T.hX si ["book","known","claimed","number","found"] 4 λnd hr hu jT=>
  (ao (bH (fj (cf (aA (UK T) hr))) (bu am))
   (ao (bH (aG (cq hu) (aZ (f0 T) hr (ag (aL (ah 0) (ah 3)) am)) a7) (aA (YM T) hr))
   (ao (aE nd (a8 bv (aA (YI T) hr) (aA (YL T) hr)))
   (be (G5 (GO hu) T.n12 (ah 4) (xw (cap:=[]) (N':=["base"]) (by decide +kernel) T.l46 jT rfl rfl (Cz (by decide +kernel) rfl rfl rfl rfl rfl) rfl (.nil rfl) rfl hr.in1.in1 (λ_ _ _ _=>rfl) λ_ _ _ _ hr=>have hu:=Ec hr;(aM (ag (aL (ah 0) (L5 LR aw)) (aH 0 am)))))))))
theorem YN:Fn P w K mg base 12 "is_fit" nW:=T.d47.fq T.hX zC ["book","known","claimed","number","day"] 5 λnd hr hu=>
  (ao (bH (jv (kW (fj (cf (aA (f10 T) hr))) (jX (aG AW (aZ (f2 T) hr (ag (aL (ah 0) (ah 3)) am)) (ah 4))))) iK)
   (be (cn (cq hu) (bF im T.n6 io (ag (aA (WE T) hr) am)) aw)))
theorem WN:Fn P w K mg base 13 "links" nX:=T.d48.fq T.hX CO ["book","known","day","claimed","found","number"] 3 λnd hr hu=>
  (ao (Jy (i:=3) nd (aA (P8 T) hr))
   (ao (C6 (i:=4) nd)
   (ao (vi (c8 (aA (f11 T) hr)) (C9 5 nd) fw (bx (fz (jv (fJ (cf (aA (UK T) hr)) (fE (cf (aA (YN T) hr))))) (bx (GS (i:=4) (Ki hu) (aA (WM T) hr) (ah 5))) eF)))
   (bx (jY 4)))))
theorem YO:Fn P w K mg base 1 "bears" nY:=T.d49.fq T.hX CP ["base","among"] 2 λnd hr hu=>
  (be (FR (cn (cq hu) (aW 0) a7) (fT (O1 (Ki hu) (aW 0) (ah 1)))))
theorem WO:Fn P w K mg base 2 "stood" nZ:=T.d50.fq T.hX CQ ["found","stands","number","resting"] 1 λnd hr hu=>
  (ao (C6 (i:=1) nd)
   (ao (vi (GR (ah 0)) (AA rfl (gK (C9 2 nd) (gK (C9 3 nd) qq))) Ro (bx (fz (cf (bF LS T.n1 LU (ag (gn ["base","stands"] (c8 (ah 3)) jW (aA (YO T) hr)) am))) (bx (Kh (i:=1) (Ki hu) iK (ah 2))) eF)))
   (bx (jY 1))))
theorem YQ:Fn P w K mg base 14 "standing" mQ:=T.d51.fq T.hX sj ["book","known","day"] 3 λnd hr hu=>
  (be (bF (E2 rfl) T.n12 ze (ag (aZ (WO T) hr (ag (aA (WN T) hr) am)) am)))
theorem YR:Fn P w K mg base 12 "office_faults" fG:=T.d52.fq T.hX kI ["book","known","number","row","claimed","by_name","offices"] 3 λnd hr hu=>
  (ao (aE nd (aL (ah 0) (ah 2)))
   (ao (aE nd (aA (P8 T) hr))
   (ao (aE nd (aA (RD T) hr))
   (ao (aE nd (km rfl T.n12 T.n11 (gn ["claim","row"] (c8 (ah 4)) (eE (aG (cq hu) (aW 0) (aA (f1 T) hr))) (aW 0))))
   (be (gn ["office","claimed","row","by_name"] (c8 (ah 6)) jW (aM (ag a7 (aH 0 (ag (aZ (WI T) hr (aH 1 (aH 2 (ag (Om (Ki hu) (ah 3) (ah 0) (by intro _ _;rfl)) am)))) am))))))))))
theorem YS:Fn P w K mg base 7 "leave_fault" m5:=T.d53.fq T.hX m4 ["book","number","leave","bar"] 3 λnd hr hu=>
  (ao (aE nd (aA (WK T) hr))
   (be (aM (ag a7 (aH 2 (ag (L6 (aG yK (ah 3) df) a7 (ah 3)) am))))))
theorem YT:Fn P w K mg base 8 "leave_faults" gb:=T.d54.fq T.hX ly ["book","known","number","leaves"] 3 λnd hr hu=>
  (ao (aE nd (aZ (WL T) hr (aH 0 (aH 1 (ag (aZ (f1 T) hr (ag (aL (ah 0) (ah 2)) (ag a7 am))) am)))))
   (be (gn ["leave","book","number"] (c8 (ah 3)) jW (aA (YS T) hr))))
theorem WP:Fn P w K mg base 12 "bases" k6:=T.d55.fq T.hX CS ["book","known","number"] 3 λnd hr hu=>
  (be (aZ (WM T) hr (aH 0 (aH 1 (ag (aA (P8 T) hr) (aH 2 am))))))
theorem YU:Fn P w K mg base 13 "copy_fault" k7:=T.d56.fq T.hX oe ["book","known","number","word"] 3 λnd hr hu=>
  (ao (aE nd (L6 (aG (cq hu) (bF im T.n6 io (ag (aA (WP T) hr) am)) aw) a7 a7))
   (be (aM (ag a7 (ag (aZ (f1 T) hr (ag (aL (ah 0) (ah 2)) (ag a7 am))) (aH 3 am))))))
theorem YV:Fn P w K mg base 14 "base_faults" gJ:=T.d57.fq T.hX m6 ["book","known","number","told"] 3 λnd hr hu=>
  (ao (bH (aG (cq hu) (aZ (f0 T) hr (ag (aL (ah 0) (ah 2)) am)) a7) (bu (ag (aA (YU T) hr) am)))
   (ao (aE nd (a8 bv (aA (YR T) hr) (aA (YT T) hr)))
   (ao (bH (aG (cq hu) (bF im T.n6 io (aH 3 am)) aw) (bu (ag (aM (ag a7 am)) am)))
   (bx (jY 3)))))
theorem YW:Fn P w K mg base 15 "faults" oh:=T.d58.fq T.hX zF ["book","known","day","number","called"] 4 λnd hr hu=>
  (ao (bH (Oo (Ki hu) (ah 3) (aZ (WO T) hr (ag (aA (WN T) hr) am))) (bu am))
   (ao (bH (aG AW (aZ (f2 T) hr (ag (aL (ah 0) (ah 3)) am)) (ah 2)) (bu (ag (aM (ag a7 am)) am)))
   (ao (bH (fj (cf (aA (f10 T) hr))) (bu (ag (aM (ag a7 am)) am)))
   (ao (aE nd (aA (WG T) hr))
   (ao (bH (aG AW (bF im T.n6 io (aH 4 am)) aw) (bu (ag (aM (ag a7 (ag (aW 4) am))) am)))
   (be (aA (YV T) hr)))))))
theorem HP:Fn P w K mg base 1 "_law_cell" dn:=T.d59.fq T.hX zG ["_law_script","_law_k","_law_cell_here"] 2 λnd hr hu=>
  (ao (aE nd aw)
   (ao (fz (aG AW (bF im T.n6 io (aH 0 am)) aw) (bx (aE nd (aL (ah 0) (a8 bQ (ah 1) (bF im T.n6 io (aH 0 am)))))) eF)
   (ao (aE nd (a8 bQ (a8 di (a8 bv (a8 bv (a8 bQ (ah 2) aw) (a8 di aw (ah 1))) aw) aw) aw))
   (be (a8 bQ (a8 di (ah 2) (a8 bv (a8 bv (a8 bQ (ah 2) aw) (ah 1)) aw)) aw)))))
theorem YX:Fn P w K mg base 1 "_law_names" oV:=T.d60.fq T.hX vv ["_law_cell_here","_law_letters","_law_base","_law_at","_law_names_here","_law_k","_law_name"] 1 λnd hr hu=>
  (ao (aE nd a7)
   (ao (pD ["_law_k","_law_letters","_law_cell_here"] nd (yO T.n10 (a8 bv aw (a8 bQ (ah 0) aw))) jW (aL (ah 1) (a8 bQ (a8 bX (ah 2) (a8 bv aw (a8 di aw (ah 0)))) aw)))
   (ao (aE nd (a8 bQ (a8 bX (ah 0) aw) (bF im T.n6 io (aH 2 am))))
   (ao (aE nd (bu am))
   (ao (zx (jE T.n10 aw) (C9 5 nd) fw (ao (aE nd (gw Oc T.n7 FY (aH 2 am)))
   (ao (Gm (i:=6) (aL (ah 1) (a8 bQ (a8 bv (a8 bX (ah 0) aw) (a8 di aw (ah 5))) aw)) (ah 3))
   (bx (hZ (i:=4) (NX PySem.F.slot_str_join PySem.F.type_str_join NZ Gh a7 (ah 6)))))))
   (ao (fz (aG (cq hu) (a8 bQ (a8 bX (ah 0) aw) aw) aw) (bx (Gm (i:=4) (aW 4) aw)) eF)
   (bx (jY 4))))))))
theorem WQ:Fn P w K mg base 1 "_law_stretch" gU:=T.d61.fq T.hX pN ["_law_cell_here","_law_day","_law_measure","_law_some"] 3 λnd hr hu=>
  (ao (aE nd (bu (ag (aM (cr (ag df am))) (ag (aM (aH 1 (ag df am))) (ag (aM (aH 1 (ag (a8 bv (ah 1) (a8 di aw (ah 2))) am))) (ag (aM (cr (ag (a8 bv (ah 1) (a8 di aw (ah 2))) am))) (ag (aM (cr (ag (a8 di aw (ah 2)) am))) am)))))))
   (ao (aE nd (a8 bv (ah 3) (bu (ag (aM (ag (a8 bv (ah 1) (ah 2)) (ag (a8 bv (ah 1) (a8 di aw (ah 2))) am))) (ag (aM (ag (a8 bX (ah 1) aw) (ag (a8 bv (ah 1) (a8 di aw (ah 2))) am))) (ag (aM (cr (ag df am))) am))))))
   (be (aL (ah 3) (a8 bQ (ah 0) aw)))))
theorem YY:Fn P w K mg base 2 "_law_deed" sk:=T.d62.fq T.hX zH ["_law_many","_law_cell_here","_law_other","_law_names_here","_law_day","_law_had","_law_measure","_law_kinds","_law_word","_law_by","_law_person","_law_of","_law_matters","_law_further","_law_start"] 7 λnd hr hu=>
  (ao (aE nd (a8 bv (a8 bv (GH (bu (ag a7 am)) aw) (GH (bu (ag a7 am)) aw)) (bu (ag a7 (ag a7 (ag a7 (ag a7 (ag a7 am))))))))
   (ao (aE nd (a8 bv (ah 7) (bu (ag a7 (ag a7 (ag a7 (ag a7 (ag a7 (ag a7 am)))))))))
   (ao (aE nd (aL (ah 7) (a8 bQ (ah 1) aw)))
   (ao (aE nd (aL (ah 5) (a8 FU (L5 LR aw) (a8 bQ (a8 bX (ah 1) aw) (bF Rf T.n9 Rb (cr (ag (bF im T.n6 io (aH 5 am)) am)))))))
   (ao (fz (aG (cq hu) (a8 bQ (a8 bX (ah 1) aw) aw) aw) (bx (aE nd (aL (ah 3) (a8 bQ (a8 bX (ah 1) aw) aw)))) eF)
   (ao (aE nd (aL (ah 3) (a8 bQ (a8 bX (ah 1) aw) aw)))
   (ao (aE nd (bF Re T.n8 Ra (cr (ag (a8 FU (a8 FU (ah 0) aw) (a8 bQ (ah 2) aw)) am))))
   (ao (fz (aG (cq hu) (a8 bQ (a8 bX (ah 2) aw) aw) aw) (bx (aE nd (a8 bQ (a8 bX (ah 2) aw) aw))) eF)
   (ao (fz (aG (cq hu) (ah 8) a7) (ao (aE nd (by refine aL (hs:=?_) ?_ ?_;refine bu ?_;refine cr ?_;refine cr ?_;refine cr ?_;refine cr ?_;refine cr ?_;refine cr ?_;refine cr ?_;refine cr ?_;exact am;exact(a8 bQ (a8 bX (ah 1) aw) aw);intro _ _;rfl))
   (ao (aE nd (a8 bQ (a8 bX (ah 2) aw) (aL (bu (cr (cr (cr (cr am))))) (a8 bQ (a8 bX (ah 2) aw) aw))))
   (be (aM (aH 8 (aH 4 (aH 9 (aH 10 (aH 12 (ag (aZ (WQ T) hr (ag (a8 bX (ah 2) aw) (aH 4 (aH 6 am)))) (aH 13 am))))))))))) eF)
   (ao (fz (jv (kW (aG (cq hu) (ah 8) a7) (jX (aG (cq hu) (ah 8) a7)))) (ao (aE nd (by refine aL (hs:=?_) ?_ ?_;refine bu ?_;refine cr ?_;refine cr ?_;refine cr ?_;refine cr ?_;refine cr ?_;refine cr ?_;refine cr ?_;refine cr ?_;exact am;exact(a8 bQ (a8 bX (ah 1) aw) aw);intro _ _;rfl))
   (ao (aE nd (aM (aH 8 (aH 4 (aH 9 (aH 12 (ag (aZ (WQ T) hr (ag (a8 bX (ah 2) aw) (aH 4 (aH 6 am)))) (ag (aL (bu (ag df (aH 10 am))) (a8 bQ (a8 bX (ah 2) aw) aw)) am))))))))
   (ao (bH (aG (cq hu) (ah 8) a7) (a8 GA (ah 14) (aM (aH 11 (ag (aM (ag (aM (cr (aH 10 am))) am)) am)))))
   (be (a8 GA (ah 14) (aM (ag (aM (aH 10 am)) am))))))) eF)
   (ao (bH (aG yM (ah 8) (aM (ag a7 (ag a7 am)))) (aM (aH 8 (aH 4 (aH 9 (aH 11 am))))))
   (ao (bH (aG (cq hu) (ah 8) a7) (aM (aH 8 (aH 4 (ag (aL (ah 3) (a8 bv aw (a8 bQ (ah 2) aw))) (aH 10 am))))))
   (ao (bH (aG (cq hu) (ah 8) a7) (aM (aH 8 (aH 4 (aH 9 (ag (aL (ah 3) (a8 bv aw (a8 bQ (ah 2) aw))) (aH 10 (ag (a8 bv (ah 4) (a8 di (a8 bQ (a8 bX (ah 2) aw) aw) (ah 6))) am))))))))
   (ao (bH (aG (cq hu) (ah 8) a7) (aM (aH 8 (aH 4 (aH 9 (ag (aL (ah 3) (a8 bv aw (a8 bQ (ah 2) aw))) (aH 10 am)))))))
   (be (aM (aH 8 (aH 4 (aH 9 am)))))))))))))))))))
theorem YZ:Fn P w K mg base 3 "_law_rows" sn:=T.d63.fq T.hX zI ["_law_script","_law_names_here","_law_measure","_law_most","_law_head","_law_rows_here","_law_had","_law_k","_law_rule","_law_matters","_law_late","_law_further","_law_cell_here","_law_day","_law_deed_here"] 4 λnd hr hu=>
  (ao (aE nd (aZ (HP T) hr (aH 0 (cr am))))
   (ao (aE nd (bu am))
   (ao (aE nd (bu am))
   (ao (zx (jE T.n10 (a8 bv aw (a8 bQ (ah 4) aw))) (C9 7 nd) fw (ao (aE nd (aL (bu (ag a7 (ag a7 (ag a7 am)))) (a8 bQ (a8 bX (ah 4) (a8 bv aw (a8 di aw (ah 7)))) aw)))
   (ao (aE nd (aL (bu (cr (cr (cr (cr am))))) (a8 bQ (a8 bX (ah 4) (a8 bv aw (a8 di aw (ah 7)))) aw)))
   (ao (aE nd (a8 di (a8 di (gw Co T.n4 Ci (ag (cn (cq hu) (a8 bQ (a8 bX (ah 4) (a8 bv aw (ah 7))) aw) aw) am)) aw) (ah 2)))
   (ao (aE nd (a8 bQ (a8 bX (ah 4) (a8 bv aw (a8 di aw (ah 7)))) (aL (bu (cr (cr (cr am)))) (a8 bQ (a8 bX (ah 4) (a8 bv aw (ah 7))) aw))))
   (ao (hZ (i:=5) (aM (aH 10 (ag (aM (ag a7 (ag (aL (ah 1) (a8 bv aw (ah 7))) (aH 9 (aH 11 (aH 8 am)))))) am))))
   (ao (hZ (i:=5) (aM (cr (ag (aM (ag a7 (cr (ag (aL (ah 1) (a8 bv aw (ah 7))) (ag (aL (ah 1) (ah 7)) am))))) am))))
   (bx (hZ (i:=6) (aL (ah 1) (ah 7)))))))))))
   (ao (zx (jE T.n10 (a8 bv aw (a8 bQ (aZ (HP T) hr (aH 0 (cr am))) (ah 3)))) (C9 7 nd) fw (ao (aE nd (aZ (HP T) hr (aH 0 (ag (a8 bv aw (ah 7)) am))))
   (ao (aE nd (a8 di (a8 bv (a8 bX (ah 7) aw) (a8 bQ (a8 bX (ah 12) aw) aw)) (ah 2)))
   (ao (aE nd (aZ (YY T) hr (ag (bF im T.n6 io (aH 5 am)) (ag (aZ (HP T) hr (aH 0 (ag (a8 bv aw (ah 7)) am))) (ag (aZ (HP T) hr (aH 0 (ag (a8 bv aw (ah 7)) am))) (aH 1 (aH 13 (aH 6 (aH 2 am)))))))))
   (ao (fz (aG yM (aW 14) (aM (ag a7 (ag a7 am)))) (bx (hZ (i:=6) (aW 14))) eF)
   (ao (fz (aG (cq hu) (aW 14) a7) (bx (hZ (i:=6) (aW 14))) eF)
   (bx (hZ (i:=5) (aM (ag (a8 bv (ah 13) (a8 di (by refine aL (hs:=?_) ?_ ?_;refine bu ?_;refine cr ?_;refine cr ?_;refine cr ?_;refine cr ?_;refine cr ?_;refine cr ?_;exact am;exact(a8 bQ (a8 bX (ah 12) aw) aw);intro _ _;rfl) (ah 2))) (aH 14 am)))))))))))
   (be (gw JH T.n13 J6 (aH 5 am))))))))
theorem Za:Fn P w K mg base 12 "holder" jN:=T.d64.fq T.hX zJ ["book","known","office","day","root"] 4 λnd hr hu=>
  (ao (aE nd (zu (Ki hu) (aA (RD T) hr) (ah 2) ⟨rfl,rfl,rfl,rfl⟩))
   (ao (bH (aG yK (ah 4) df) (aM (ag a7 am)))
   (be (aZ (UI T) hr (ag (aA (P8 T) hr) (aH 4 (aH 3 am)))))))
theorem WR:Fn P w K mg base 1 "_law_within" fO:=T.d65.fq T.hX su ["_law_matters","_law_some"] 2 λnd hr hu=>
  (be (bF Rk T.n0 Rc (ag (gn ["_law_bit","_law_matters","_law_some"] (yO T.n10 aw) (eE (aG (cq hu) (a8 FV (a8 L7 (ah 2) (ah 0)) aw) aw)) (cn (cq hu) (a8 FV (a8 L7 (ah 1) (ah 0)) aw) aw)) am)))
theorem Zb:Fn P w K mg base 13 "_law_of_office" j4:=T.d66.fq T.hX m7 ["_law_rows_here","_law_known","_law_deed_here","_law_root"] 4 λnd hr hu=>
  (ao (bH (aG (Eb hu) (qP (aZ (Za T) hr (aH 0 (aH 1 (ag (aW 3) (ag (aW 2) am))))) wS (wT aw)) (aM (ag a7 (ag (aW 2) am)))) a7)
   (ao (bH (fj (cf (aZ (WR T) hr (ag (aW 3) (ag (aL (ah 2) (a8 bv aw (gw Co T.n4 Ci (ag (cn (cq hu) (aW 2) a7) am)))) am))))) a7)
   (be a7)))
theorem Zc:Fn P w K mg base 1 "_law_days_fit" i6:=T.d67.fq T.hX oi ["_law_day","_law_stretch_here","_law_wide"] 3 λnd hr hu=>
  (ao (bH (jv (kW (aG ut (ah 0) (aW 2)) (jX (aG ut (aW 1) (aW 2))))) iK)
   (ao (bH (aG yK (aW 2) df) iK)
   (be (gu (cn ut (ah 0) (aW 2)) (gu (cn qu (aW 1) df) (fT (cn kH (aW 1) (aW 2))))))))
theorem Zd:Fn P w K mg base 2 "_law_of_leave" k8:=T.d68.fq T.hX oj ["_law_rows_here","_law_number","_law_k","_law_deed_here","_law_leave","_law_shift"] 3 λnd hr hu=>
  (ao (aE nd (aL (aL (ah 0) (ah 1)) aw))
   (ao (aE nd (aL (aL (ah 0) (ah 2)) aw))
   (ao (aE nd (gw Co T.n4 Ci (ag (cn (cq hu) (aW 3) a7) am)))
   (ao (bH (aG (R5 hu) (aM (ag (aW 4) (aH 2 am))) (aM (ag (aW 3) (aH 1 am)))) a7)
   (ao (bH (fj (cf (aZ (Zc T) hr (ag (aW 3) (ag (aL (ah 3) (a8 bv aw (ah 5))) (ag (aW 4) am)))))) a7)
   (ao (bH (fj (cf (aZ (WR T) hr (ag (aW 4) (ag (aL (ah 3) (a8 bv aw (ah 5))) am))))) a7)
   (ao (bH (jv (fJ (aG (cq hu) (ah 5) aw) (fE (aG QV (aW 3) (aW 4))))) a7)
   (be a7))))))))
theorem Ze:Fn P w K mg base 14 "_law_due" om:=T.d69.fq T.hX xD ["_law_rows_here","_law_known","_law_number","_law_some","_law_deed_here","_law_offices","_law_found","_law_office","_law_root","_law_k","_law_leave"] 4 λnd hr hu=>
  (ao (aE nd (aL (aL (ah 0) (ah 2)) aw))
   (ao (bH (aG (cq hu) (aW 4) a7) (bu (ag (aM (ag a7 (ag (aW 4) (ag (aL (bu (ag a7 (ag a7 am))) (gw Co T.n4 Ci (ag (cn (Eb hu) (aA (WP T) hr) (bu am)) am))) am)))) am)))
   (ao (aE nd (km rfl T.n12 T.n11 (gn ["_law_claim","_law_deed_here"] (c8 (ah 3)) (eE (aG (cq hu) (aW 0) (aW 1))) (aW 0))))
   (ao (aE nd (bu am))
   (ao (LY [5] (vi (c8 (ah 5)) (C9 7 nd) fw (ao (aE nd (aL (gn ["_law_row","_law_known","_law_office"] (c8 (ah 0)) (eE (jv (fJ (aG kH (aW 0) (ah 1)) (fE (aG (cq hu) (qP (aW 0) wS (wT aw)) (aM (ag a7 (aH 2 am)))))))) (aW 0)) aw))
   (bx (hZ (i:=6) (aM (ag a7 (aH 7 (ag (aA (Zb T) hr) am)))))))))
   (ao (zx (jE T.n10 (bF im T.n6 io (aH 0 am))) (C9 9 nd) fw (ao (aE nd (aL (aL (ah 0) (ah 9)) aw))
   (bx (fz (jv (fJ (aG kH (aL (aL (ah 0) (ah 9)) aw) (ah 1)) (fJ (aG (cq hu) (aW 10) a7) (fE (aG (cq hu) (aW 10) (aW 4)))))) (bx (hZ (i:=6) (aM (ag a7 (aH 9 (ag (aA (Zd T) hr) am)))))) eF))))
   (ao (bH (aG (cq hu) (ah 6) (bu am)) (bu (ag (aM (ag a7 am)) am)))
   (bx (jY 6)))))))))
theorem head {fa:Addr}(Vm:mg "law" = some (.ref fa)):∃fd:FuncData,(∀(s:Shared)(u:Value),BindsTo s fd ⟨[u],[]⟩ [("_law_script",u)])/\∀base:Heap,K.In base->base.Ns mainGlobals mg->tR P w K mg base A3 16 fa fd ["_law_script"] (J0 K F_law):=by
 have S:FnScope ["_law_script","_law_names_here","_law_measure","_law_rows_here","_law_known","_law_day","_law_stand","_law_some","_law_number","_law_there","_law_deed_here","_law_found"] ["_law_script"] (bc (eB 81)):=by refine⟨rfl,rfl,rfl,?_,rfl,?_,?_⟩<;>decide +kernel
 have ⟨h,X,G⟩:=T.hX;exact dj.law T.d70 X G Vm S (λ_ _ _ _ _ _ u=>rfl) λbase kb nb f ft A outer s H E hr=>have hu:=Ec hr;have nd:=S.nd;(show xZ _ _ Me from
  (ao (aE nd (aZ (YX T) hr (ag (aZ (HP T) hr (aH 0 (cr am))) am)))
   (ao (aE nd (aL (bu (cr (cr (cr am)))) (a8 bQ (aZ (HP T) hr (aH 0 (cr am))) aw)))
   (ao (aE nd (aZ (YZ T) hr (aH 0 (aH 1 (aH 2 (cr am))))))
   (ao (aE nd (aL (bu (cr (ag (a8 di (a8 bQ (a8 bX (aZ (HP T) hr (aH 0 (cr am))) aw) aw) (ah 2)) am))) (a8 bX (a8 bQ (aZ (HP T) hr (aH 0 (cr am))) aw) aw)))
   (ao (aE nd (aL (bu (cr (ag (a8 di (a8 bQ (a8 bX (aZ (HP T) hr (aH 0 (cr am))) aw) aw) (ah 2)) am))) (a8 bQ (aZ (HP T) hr (aH 0 (cr am))) aw)))
   (ao (aE nd (aA (YQ T) hr))
   (ao (aE nd (aA (P8 T) hr))
   (ao (zx (jE T.n10 (bF im T.n6 io (aH 3 am))) (C9 8 nd) fw (ao (JJ (is:=[9,10]) (aL (ah 3) (ah 8)) (Od rfl (gK (C9 9 nd) (gK (C9 10 nd) qq))))
   (bx (fz (jv (fJ (aG kH (ah 9) (ah 4)) (fJ (aG yM (aW 10) (aM (ag a7 (ag a7 (ag a7 (ag a7 am)))))) (fJ (aG kH (aW 10) (ah 5)) (fE (aG nF (ah 8) (ah 6))))))) (bx (fz (jv (fJ (cf (aA (f10 T) hr)) (fE (aG (cq hu) (aA (WG T) hr) (bu am))))) (ao (aE nd (aA (YW T) hr))
   (bx (bH (jv (kW (fj (cf (bF wW T.n5 wV (aH 11 (ag (QZ T.n7 FY) am))))) (jX (aG (Eb hu) (ah 11) (aA (Ze T) hr))))) iK))) eF)) eF))))
   (be iK))))))))))
end
end Lw
end
namespace PySem.W.Fast
def tw10534162515845628617:=()
def tw11164677936032247541:=()
def tw14576328727085938960:=()
def tw17104170692816578880:=()
def tw13089567265256500698:=()
def tw13461604082849856621:=()
def tw8282095503278450758:=()
def tw2606938730529632267:=()
def tw11292671301138352287:=()
def tw4724325582238775300:=()
def tw11134004156027369611:=()
def tw12173536944118625701:=()
def tw15566725385410907070:=()
def tw10452888643474416808:=()
def tw6705097580400157893:=()
def tw7797270463588100320:=()
def tw12998825895962368682:=()
def tw3964613394713005804:=()
def tw2519885322135539922:=()
def tw16286786460752075029:=()
def tw11226695863022289813:=()
def tw8126626942122232340:=()
def tw8493759452120758545:=()
def tw12918906473093036968:=()
def tw1431023186531775784:=()
def tw1279894304849857831:=()
def tw2601877147117422172:=()
def tw11928424103039558089:=()
def tw15111507468720482996:=()
def tw2469138525339171030:=()
def tw11042457563978877775:=()
def tw17140986242973651188:=()
def tw2439284882171297118:=()
def tw5780550013371319409:=()
def tw9583821811524276902:=()
def tw10879530886665188905:=()
def tw6596388362526059392:=()
def tw14101149711276074735:=()
def tw12419478504332094146:=()
def tw8644806694109722743:=()
def tw10865357886420033415:=()
def tw5297829282024237987:=()
def tw12604840561058350951:=()
def tw2678899237680301024:=()
def tw13948543944850228872:=()
def tw3325930271971129619:=()
def tw15396194529793454342:=()
def tw15295463867011095262:=()
def tw12756542625028838447:=()
def tw6334047593096359014:=()
def tw17097587767201749969:=()
def tw3344868702989100428:=()
def tw9324915645616141149:=()
def tw552417287430411390:=()
def tw15035263341039927673:=()
def tw7483933265799330129:=()
def tw9788273427201056657:=()
def tw10174340769233035840:=()
def tw15246165552246788827:=()
def tw8439334712046085648:=()
def tw15738539682881777786:=()
def tw15572226160656212681:=()
def tw223810335594487135:=()
def tw14920497861651503888:=()
def tw814162190973047832:=()
def tw12252097252522218029:=()
def tw12120446600445897400:=()
def tw4311961192774912020:=()
def tw15884018101162571139:=()
def tw13952097257611456794:=()
def tw17057282687386266428:=()
def tw12772778650526343118:=()
def tw2105499794065428436:=()
def tw4111620609766464441:=()
def tw14105334110755635072:=()
def tw3333887458708790761:=()
def tw9090224194469394728:=()
def tw7846220302104995069:=()
def tw11841926857069936077:=()
def tw373458249428747095:=()
def tw177418492753641968:=()
def tw15810517180354183887:=()
def tw13678478520791396093:=()
def tw1586624142483964473:=()
def tw6902803426244681348:=()
def tw11817160660911591905:=()
def tw14930791583608009440:=()
def tw7626920057341496399:=()
def tw9974494237549019613:=()
def tw6666729068881823525:=()
def tw16808334089951246411:=()
def tw6950725709453998851:=()
def tw9018669256249643157:=()
def tw14760779306517711417:=()
def tw13162692680649398271:=()
def tw3873116282535570222:=()
def tw4441241367671929575:=()
def tw8470211645555638037:=()
def tw2732999952716536614:=()
def tw3270818127066480524:=()
def tw15981168876104338030:=()
def tw15454522484325753524:=()
def tw14750663468799716121:=()
def tw7382067096786317528:=()
def tw1271382455462376226:=()
def tw11991453556248468303:=()
def tw2576422287055314063:=()
def tw5326161962164465789:=()
def tw5201097970304488976:=()
def tw14689590987083347673:=()
def tw14101222043478479899:=()
def tw8851883060515891392:=()
def tw4162236591935355999:=()
def tw13837063256781618448:=()
def tw13913909302388148457:=()
def tw16941065726300471176:=()
def tw1516992483483455351:=()
def tw2617568643990037431:=()
def tw10078515308690094147:=()
def tw11647778838233333826:=()
def tw12803287046286924002:=()
def tw9690885669253442555:=()
def tw2514636897425793837:=()
def tw16605934194884755828:=()
def tw2931810629977161591:=()
def tw4280804161159724648:=()
def tw10355167400705616143:=()
def tw11269943006237137150:=()
def tw1763076519901879794:=()
def tw2667517223088640410:=()
def tw11569103491848450314:=()
def tw163190054871792500:=()
def tw13784509318084987778:=()
def tw13382425012076016361:=()
def tw4191404068820200677:=()
def tw5570163512063849184:=()
def tw11061068557115289838:=()
def tw11499760539292868585:=()
def tw17832639700788157879:=()
def tw4975606425220967911:=()
def tw2936751715991567148:=()
def tw11228711114703007736:=()
def tw15020864873496678560:=()
def tw9272034622118198429:=()
def tw12939275632963883298:=()
def tw3390921957566984800:=()
def tw1098783271077757985:=()
def tw1067624518654323566:=()
def tw15280788808363623740:=()
def tw9543439450448328430:=()
end PySem.W.Fast
open PySem PySem.W PyProof.Rows
set_option maxRecDepth 100000 in
set_option maxHeartbeats 0 in
theorem PySem.Challenge.cw_sealchain_k34_faults_link_by_link_holds : PySem.Challenge.rw_sealchain_k34_faults_link_by_link.Holds := by
 w_on; o_law; k_head; (case hw => w_witness2)
 k_fill
 refine' DL.walkD (l := PySem.Challenge.rw_sealchain_k34_faults_link_by_link) (k := 16) (x := ("_law_script" : PySem.Str)) (f := Lw.F_law) (L := [(("in_order" : PySem.Str), ?t0), (("has_seal" : PySem.Str), ?t1), (("is_first_death" : PySem.Str), ?t2), (("bases_by" : PySem.Str), ?t3)]) rfl rfl ⟨rfl, by decide, by decide⟩ (fun w h Y => PySem.W.km_in_of Y) ?T ?D ?F Lw.law_true
 case T =>
  intro w
  refine' DL.tabs_fit ?h0 ?h1 ?h2 ?h3 ?ap ?nt
  iterate 4 (refine' DL.tab_yes ?a ?l ?c ?m ?v; (case a => k_is); (case l => k_is); (case c => exact rfl); (case m => k_is); (case v => exact rfl))
  (case ap => decide)
  (case nt => kernel_rfl)
 case D => kernel_rfl
 case F =>
  intro w mg fa h KX G hmg
  refine' Lw.head ⟨⟨h, KX, G⟩, ?d0, ?d1, ?d2, ?d3, ?d4, ?d5, ?d6, ?d7, ?d8, ?d9, ?d10, ?d11, ?d12, ?d13, ?d14, ?d15, ?d16, ?d17, ?d18, ?d19, ?d20, ?d21, ?d22, ?d23, ?d24, ?d25, ?d26, ?d27, ?d28, ?d29, ?d30, ?d31, ?d32, ?d33, ?d34, ?d35, ?d36, ?d37, ?d38, ?d39, ?d40, ?d41, ?d42, ?d43, ?d44, ?d45, ?d46, ?d47, ?d48, ?d49, ?d50, ?d51, ?d52, ?d53, ?d54, ?d55, ?d56, ?d57, ?d58, ?d59, ?d60, ?d61, ?d62, ?d63, ?d64, ?d65, ?d66, ?d67, ?d68, ?d69, ?d70, PySem.W.mg_none_of KX G ?z0, PySem.W.mg_none_of KX G ?z1, PySem.W.mg_none_of KX G ?z2, PySem.W.mg_none_of KX G ?z3, PySem.W.mg_none_of KX G ?z4, PySem.W.mg_none_of KX G ?z5, PySem.W.mg_none_of KX G ?z6, PySem.W.mg_none_of KX G ?z7, PySem.W.mg_none_of KX G ?z8, PySem.W.mg_none_of KX G ?z9, PySem.W.mg_none_of KX G ?z10, PySem.W.mg_none_of KX G ?z11, PySem.W.mg_none_of KX G ?z12, PySem.W.mg_none_of KX G ?z13, DL.kc_of KX G ?k0, DL.kd_of KX G ?k1, DL.kc_of KX G ?k2, ?q0, ?q1, ?q2, ?q3⟩ hmg
  iterate 71 (refine' DL.def_mk ?a ?l ?c ?k; (case a => k_is); (case l => k_is); (case c => k_is); (case k => k_is))
  (case z0 => k_is)
  (case z1 => k_is)
  (case z2 => k_is)
  (case z3 => k_is)
  (case z4 => k_is)
  (case z5 => k_is)
  (case z6 => k_is)
  (case z7 => k_is)
  (case z8 => k_is)
  (case z9 => k_is)
  (case z10 => k_is)
  (case z11 => k_is)
  (case z12 => k_is)
  (case z13 => k_is)
  (case k0 => refine' DL.const_tup ?e ?l ?v; (case e => k_is); (case l => k_is); (case v => decide +kernel))
  (case k1 => refine' DL.const_dict ?e ?l ?r ?s; (case e => k_is); (case l => k_is); (case r => refine' (DL.CRows.tup rfl ?l0 ?f0 (DL.CRows.tup rfl ?l1 ?f1 (DL.CRows.tup rfl ?l2 ?f2 (DL.CRows.tup rfl ?l3 ?f3 (DL.CRows.tup rfl ?l4 ?f4 (DL.CRows.tup rfl ?l5 ?f5 (DL.CRows.tup rfl ?l6 ?f6 (DL.CRows.tup rfl ?l7 ?f7 (DL.CRows.tup rfl ?l8 ?f8 (DL.CRows.tup rfl ?l9 ?f9 (DL.CRows.tup rfl ?l10 ?f10 (DL.CRows.tup rfl ?l11 ?f11 DL.CRows.nil)))))))))))); (case l0 => k_is); (case f0 => decide +kernel); (case l1 => k_is); (case f1 => decide +kernel); (case l2 => k_is); (case f2 => decide +kernel); (case l3 => k_is); (case f3 => decide +kernel); (case l4 => k_is); (case f4 => decide +kernel); (case l5 => k_is); (case f5 => decide +kernel); (case l6 => k_is); (case f6 => decide +kernel); (case l7 => k_is); (case f7 => decide +kernel); (case l8 => k_is); (case f8 => decide +kernel); (case l9 => k_is); (case f9 => decide +kernel); (case l10 => k_is); (case f10 => decide +kernel); (case l11 => k_is); (case f11 => decide +kernel)); (case s => decide +kernel))
  (case k2 => refine' DL.const_tup ?e ?l ?v; (case e => k_is); (case l => k_is); (case v => decide +kernel))
  iterate 4 (refine' DL.lam_mk ?a ?l ?c ?m ?v1 ?v2 ?v3 ?v4 ?v5 ?v6 ?v7; (case a => k_is); (case l => k_is); (case c => exact rfl); (case m => k_is); (case v1 => exact rfl); (case v2 => exact rfl); (case v3 => exact rfl); (case v4 => exact rfl); (case v5 => exact rfl); (case v6 => exact rfl); (case v7 => decide))

