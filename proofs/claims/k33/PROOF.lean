import PyProof.Rows.All
import Wide.All
import OpenK.AllK
import Wide.FinOn
import Lean
import PyProof.EqAt
import PyProof.EqKinds
import PyProof.TupleCall
import PyProof.AttrMissHeap
import PySem.Challenge.RW_sealchain_k33_first_faults
set_option Elab.async false
set_option linter.all false
set_option maxRecDepth 100000
set_option bootstrap.genMatcherCode false
set_option compiler.extract_closed false
set_option maxHeartbeats 40000000
theorem mY {α:Type _}{a:α}(l:List α){k:List α}(h:a∈k):a∈l++k:=List.mem_append_right l h
theorem mZ {α:Type _}(b:α){a:α}{l:List α}(h:a∈l):a∈b::l:=List.mem_cons_of_mem b h
theorem mX {α:Type _}{a:α}{l:List α}:a∈a::l:=List.mem_cons_self
theorem oX {α β:Type _}{o:Option α}{f:α->Option β}{b:β}(h:o.bind f=some b):∃a,o=some a/\f a=some b:=Option.bind_eq_some_iff.mp h
theorem oY {α β:Type _}{f:α->β}{o:Option α}{b:β}(h:o.map f=some b):∃a,o=some a/\f a=b:=Option.map_eq_some_iff.mp h
def wX:=@PySem.wpAny_bind
def wY:=@PySem.wpAny_pure
def vZ:=@PySem.Heap.get?_push_of_some
def vY:=@PySem.Heap.get?_push_size
def vX:=@PySem.Heap.lt_size
def vW:=@PySem.Heap.SameBut.update
theorem vV {α:Type _}{l:List α}{i:Nat}{a:α}(h:l[i]? = some a):∃h:i<l.length,l[i]=a:=List.getElem?_eq_some_iff.mp h
theorem vU {α:Type _}{l:List α}{i:Nat}(h:i<l.length):l[i]? = some l[i]:=List.getElem?_eq_getElem h
theorem vT (n:Nat):n<=n:=Nat.le_refl n
theorem vS {a b:Nat}(h:a<b):a≠b:=Nat.ne_of_lt h
theorem vR {n m k:Nat}:n<=m->m<=k->n<=k:=Nat.le_trans
theorem vQ {n m k:Nat}:n<m->m<=k->n<k:=Nat.lt_of_lt_of_le
theorem vP {α:Type _}{a b:α}{l:List α}(h:b∈a::l):b=a∨b∈l:=List.mem_cons.mp h
theorem vO {α β:Type _}{b:β}{f:α->β}{l:List α}(h:b∈l.map f):∃a,a∈l/\f a=b:=List.mem_map.mp h
theorem vN {α:Type _}{a:α}{p:α->Bool}{l:List α}(h:a∈l.filter p):a∈l/\p a=true:=List.mem_filter.mp h
theorem vM {α:Type _}(p:α->Bool)(l:List α):(l.filter p).length<=l.length:=List.length_filter_le p l
theorem vL {α:Type _}{l:List α}{i:Nat}{a:α}(h:l[i]? = some a):a∈l:=List.mem_of_getElem? h
theorem vK {α:Type _}{a b:α}(h:some a=some b):a=b:=Option.some.inj h
theorem vJ {α β:Type _}(a:α)(f:α->Option β):(some a).bind f=f a:=rfl
theorem vI {α β:Type _}{as:List α}(f:α->β):(as.map f).length=as.length:=List.length_map f
theorem vH {α:Type _}{l:List α}:l.toArray.size=l.length:=rfl
theorem vG {α:Type _}{xs:Array α}:xs.toList.length=xs.size:=rfl
theorem vF {α:Type _}{l:List α}{i:Nat}{a:α}:l.getD i a=l[i]?.getD a:=List.getD_eq_getElem?_getD
theorem vE {α:Type _}{a:α}{as:List α}:(a::as).length=as.length+1:=rfl
theorem vC (a b:Bool):((a && b)=true)=(a=true/\b=true):=Bool.and_eq_true a b
theorem vB {α:Type _}{i j:Nat}{a:α}{l:List α}(h:i≠j):(l.set i a)[j]? = l[j]?:=List.getElem?_set_ne h
theorem vA {α β:Type _}{f:α->β}{l:List α}{i:Nat}:(l.map f)[i]? = Option.map f l[i]?:=List.getElem?_map
theorem uZ {α:Type _}{as bs:List α}:(as++bs).length=as.length+bs.length:=List.length_append
theorem uY {α β:Type _}{f:α->β}{a:α}{l:List α}:(a::l).map f=f a::l.map f:=rfl
theorem uX:false≠true:=Bool.false_ne_true
theorem uW {α β:Type _}{f:α->β}{l l':List α}:(l++l').map f=l.map f++l'.map f:=List.map_append
theorem uV:(false=true)=False:=Bool.false_eq_true
theorem uU {α:Type _}{x:Option α}(h:x.isSome=true):∃a,x=some a:=Option.isSome_iff_exists.mp h
theorem uT {α:Type _}{a b:α}(h:a∈[b]):a=b:=List.mem_singleton.mp h
theorem uS {α β:Type _}{b:β}{f:α->β}{l:List α}(h:∃a,a∈l/\f a=b):b∈l.map f:=List.mem_map.mpr h
theorem uR {α:Type _}{l:List α}{p:α->Bool}(h:l.all p=true):∀x∈l,p x=true:=List.all_eq_true.mp h
theorem uQ {α:Type _}(as:List α):as++[]=as:=List.append_nil as
theorem uP {α β γ:Type _}{g:β->γ}{f:α->β}{l:List α}:(l.map f).map g=l.map (g ∘ f):=List.map_map
theorem uO {α β:Type _}{x:α}{xs:List α}{f:α->List β}:(x::xs).flatMap f=f x++xs.flatMap f:=List.flatMap_cons
theorem uN (n:Nat):0<=n:=Nat.zero_le n
noncomputable section
open PySem.W (kia_one fnOf nsIn mg_of)
namespace L2
open PySem PySem.Spec PyProof.Rows
abbrev cD:=Sum Int Str
noncomputable def sU:cD->Value->Bool
 |.inl k,v=>Value.isInt k v
 |.inr x,v=>Value.isStrOf x v
noncomputable def S7 (w:World):cD->Int
 |.inl k=>hashInt k
 |.inr x=>hashStr w x
theorem cM:∀ {k:cD}{v:Value},sU k v=true->(∃i t,k=Sum.inl i/\v=Value.int i t)∨(∃x t,k=Sum.inr x/\v=Value.str x t)
 |.inl i,v,h=>by
  obtain⟨t,e⟩:=Value.isInt_shape (k:=i) (v:=v) h;exact .inl ⟨i,t,rfl,e⟩
 |.inr x,v,h=>by
  obtain⟨t,e⟩:=Value.isStrOf_shape (x:=x) (v:=v) h;exact .inr ⟨x,t,rfl,e⟩
theorem CD (i:Int)(t:Tok):sU (.inl i) (.int i t)=true:=by simp[sU,Value.isInt]
theorem CF (x:Str)(t:Tok):sU (.inr x) (.str x t)=true:=by simp[sU,Value.isStrOf]
theorem LM (a b:Int):decide ((Sum.inl a:cD)=Sum.inl b)=(a == b):=by
 by_cases e:a=b
 ·subst e;simp
 ·have h:¬(Sum.inl a:cD)=Sum.inl b:=λq=>e (Sum.inl.inj q);rw[decide_eq_false h];exact(beq_eq_false_iff_ne.mpr e).symm
theorem LN (a b:Str):decide ((Sum.inr a:cD)=Sum.inr b)=decide (a=b):=by
 by_cases e:a=b
 ·subst e;simp
 ·have h:¬(Sum.inr a:cD)=Sum.inr b:=λq=>e (Sum.inr.inj q);rw[decide_eq_false h,decide_eq_false e]
theorem LO (a:Int)(b:Str):decide ((Sum.inl a:cD)=Sum.inr b)=false:=decide_eq_false (λq=>nomatch q)
theorem LP (a:Str)(b:Int):decide ((Sum.inr a:cD)=Sum.inl b)=false:=decide_eq_false (λq=>nomatch q)
def cz (prog:Program)(w:World):PySem.KeyKind prog w cD where
 is:=sU
 hash:=S7 w
 inj:=λv a b ha hb=>by
  rcases cM ha with⟨i,t,rfl,rfl⟩|⟨x,t,rfl,rfl⟩
  ·rcases cM hb with⟨j,u,rfl,e⟩|⟨y,u,rfl,e⟩
   ·injection e with e1 _;rw[e1]
   ·exact nomatch e
  ·rcases cM hb with⟨j,u,rfl,e⟩|⟨y,u,rfl,e⟩
   ·exact nomatch e
   ·injection e with e1 _;rw[e1]
 byValue:=λk v h=>by
  rcases cM h with⟨i,t,rfl,rfl⟩|⟨x,t,rfl,rfl⟩<;>rfl
 pyHash:=λhv h=>by
  rcases cM hv with⟨i,t,rfl,rfl⟩|⟨x,t,rfl,rfl⟩
  ·exact wpAny_pyHash_int h
  ·exact wpAny_pyHash_str h
 eqBool:=λhu hv h=>by
  rcases cM hu with⟨i,t,rfl,rfl⟩|⟨x,t,rfl,rfl⟩
  ·rcases cM hv with⟨j,u,rfl,rfl⟩|⟨y,u,rfl,rfl⟩
   ·rw[LM]at h;exact wpAny_eqBool_int h
   ·rw[LO]at h;exact SeqAt.EqAt.int_str i t y u _ _ _ _ h
  ·rcases cM hv with⟨j,u,rfl,rfl⟩|⟨y,u,rfl,rfl⟩
   ·rw[LP]at h;exact SeqAt.EqAt.str_int x t j u _ _ _ _ h
   ·rw[LN]at h;exact wpAny_eqBool_str h
 «strs»:=λk x t v h=>by
  rcases cM h with⟨i,u,rfl,e⟩|⟨y,u,rfl,e⟩
  ·exact nomatch e
  ·injection e with e1 _;subst e1;cases v<;>rfl
theorem xn (prog:Program)(w:World)(i:Int)(t:Tok):(cz prog w).is (.inl i) (.int i t)=true:=CD i t
theorem xo (prog:Program)(w:World)(x:Str)(t:Tok):(cz prog w).is (.inr x) (.str x t)=true:=CF x t
inductive V where
 |non|bl (b:Bool)|int (i:Int)|str (x:Str)|byt (b:Array UInt8)|flt (b:UInt64)|ref (a:Addr)|ty (n:String)
 deriving DecidableEq
def aY:V->Value->Prop
 |.non,u=>u=Value.none
 |.bl b,u=>u=Value.bool b
 |.int i,u=>∃t,u=Value.int i t
 |.str x,u=>∃t,u=Value.str x t
 |.byt b,u=>∃t,u=Value.bytes b t
 |.flt b,u=>∃t,u=Value.float b t
 |.ref a,u=>u=Value.ref a
 |.ty n,u=>u=Value.type n
abbrev bf:List V->List Value->Prop:=Paired aY
theorem bf.length (r:bf xs us):xs.length=us.length:=Paired.length r
theorem bf.get:∀ {xs:List V}{us:List Value}{i:Nat}{x:V},bf xs us->xs[i]? = some x->∃u,us[i]? = some u/\aY x u
 |_,_,_,_,.nil,e=>by simp at e
 |_,_,0,_,.cons r _,e=>by simp at e;subst e;exact⟨_,rfl,r⟩
 |_,_,i+1,x,.cons _ t,e=>by
  obtain⟨u,h1,h2⟩:=bf.get (i:=i) (x:=x) t (by simpa using e);exact⟨u,by simpa using h1,h2⟩
theorem bf.set (r:aY x u):∀ {xs:List V}{us:List Value}(i:Nat),bf xs us->bf (xs.set i x) (us.set i u)
 |_,_,_,.nil=>.nil
 |_,_,0,.cons _ t=>.cons r t
 |_,_,i+1,.cons q t=>.cons q (bf.set r i t)
theorem bf.append:∀ {xs ys:List V}{us ws:List Value},bf xs us->bf ys ws->bf (xs++ys) (us++ws)
 |_,_,_,_,.nil,s=>s
 |_,_,_,_,.cons r t,s=>.cons r (bf.append t s)
theorem bf.take:∀ {xs:List V}{us:List Value}(n:Nat),bf xs us->bf (xs.take n) (us.take n)
 |_,_,0,_=>.nil
 |_,_,_+1,.nil=>.nil
 |_,_,n+1,.cons r t=>.cons r (bf.take n t)
theorem bf.drop:∀ {xs:List V}{us:List Value}(n:Nat),bf xs us->bf (xs.drop n) (us.drop n)
 |_,_,0,r=>r
 |_,_,_+1,.nil=>.nil
 |_,_,n+1,.cons _ t=>bf.drop n t
theorem bf.none_of:∀ {xs:List V}{us:List Value}{i:Nat},bf xs us->xs[i]? = none->us[i]? = none:=λ{xs us i} r e=>by
 have h1:=r.length;have h2:xs.length<=i:=List.getElem?_eq_none_iff.mp e;exact List.getElem?_eq_none_iff.mpr (by omega)
def ln:Option V->Option Value->Prop
 |some v,some u=>aY v u
 |none,none=>True
 |_,_=>False
def KV {κ:Type}:List (κ×V)->List (κ×Value)->Prop:=Paired λ(p:κ×V) (q:κ×Value)=>p.1=q.1/\aY p.2 q.2
noncomputable def kV:cD->V
 |.inl i=>.int i
 |.inr x=>.str x
inductive HO where
  |lst (xs:List V)
  |tup (xs:List V)
  |dK (aM:List (cD×V)) (ob:Obj)|dT (aM:List (List cD×V))
  |set (S:Int->Bool) (n:Nat)
  |ins (C dx:Addr) (fs:List (Str×V))
  |own (x:Addr)
  |xd (fs:List (Str×V))
  |met (f x:Addr)
  |rng (lo hi:Int)
  |frz (o:Obj) (u:HO)
  |tbl (q:Str)
  |ext (φ:Heap->Prop)
abbrev Hp:=Addr->Option HO
noncomputable def upd (H:Hp)(a:Addr)(o:HO):Hp:=λb=>if b=a then some o else H b
theorem aH:upd H a o a=some o:=by unfold upd;rw[if_pos rfl]
theorem aL (h:b≠a):upd H a o b=H b:=by unfold upd;rw[if_neg h]
theorem HJ:upd (upd H a o) a u=upd H a u:=by
 funext b;unfold upd;split<;>rfl
theorem OZ {H:Hp}{a b:Addr}{o u:HO}(h:H a=some o)(h':H b=some u)(d:o≠u):a≠b:=by
 intro e;subst e;rw[h]at h';exact d (vK h')
theorem ba {H:Hp}{a b:Addr}{o:HO}(h:H a=some o)(h':H b=none):a≠b:=by
 intro e;subst e;rw[h]at h';cases h'
section
variable (P:Program) (w:World)
def bU (H:Hp)(h:Heap)(a:Addr):HO->Prop
 |.lst xs=>xs.length<=sizeLine/\∃(its:List Value)(n:Nat),bf xs its/\h.get? a=some { cls:=.type "list",data:=.seq its.toArray n }
 |.tup xs=>xs.length<=sizeLine/\∃its:List Value,bf xs its/\IsTup h a its.toArray
 |.dK aM ob=>h.get? a=some ob/\aM.length<=sizeLine/\(a == sysModules)=false/\∃vs,KV aM vs/\h.DictOf (cz P w) a vs
 |.dT aM=>aM.length<=sizeLine/\(a == sysModules)=false/\∃xs:List (List cD×Addr×Value),
   Paired (λ(p:List cD×V) (q:List cD×Addr×Value)=>p.1=q.1/\H q.2.1=some (.tup (p.1.map kV))/\aY p.2 q.2.2) aM xs /\
   ∃o es ep,h.get? a=some o/\o.ExactDict/\o.data=.dict es ep/\es.toList=xs.map (entryOfKey (tupleKind (cz P w)))/\(xs.map (·.1)).Nodup
 |.set S n=>h.SetOf (intKind P w) a S n
 |.ins C dx fs=>H dx=some (.own a)/\fs.length<=1000/\dx≠a/\h.get? a=some (PySem.W.instObj C dx) /\
   ∃mA,h.Ns1 dx mA/\(∀f,ln (fs.lookup f) (mA f))/\PySem.Within mA (fs.map (·.1))
 |.own _=>∃o,h.get? a=some o
 |.xd fs=>∃mA,h.Ns1 a mA/\∀f,ln (fs.lookup f) (mA f)
 |.rng lo hi=>∃t u v,h.get? a=some { cls:=.type "range",data:=.fields #[.int lo t,.int hi u,.int 1 v] }
 |.frz o u=>h.get? a=some o/\bU H h a u
 |.tbl q=>∃ps:Array Value,h.get? a=some { cls:=.none,data:=.fields ps }/\TriplesOk ps.toList/\∀pos cv,codeAmong pos ps.toList=some cv->∃(c:Addr)(oc:Obj)(u:HO)(vs:Array Value)(t:Tok),cv=.ref c/\H c=some (.frz oc u)/\oc.data=.fields vs/\vs[1]? = some (.str q t)
 |.met f x=>h.get? a=some (PySem.W.methodObj (.ref f) (.ref x))
 |.ext φ=>φ h/\(∃o,h.get? a=some o)/\∀h1 h2:Heap,φ h1->(∀o,h1.get? a=some o->h2.get? a=some o)->φ h2
def lq (H:Hp)(h:Heap):Prop:=∀a o,H a=some o->bU P w H h a o
end
section
variable {P:Program}{w:World}{H H':Hp}{h h':Heap}{a:Addr}{o:HO}
theorem bU.lt (x:bU P w H h a o):a<h.objs.size:=by
 cases o with
 |lst xs=>obtain⟨_,_,_,_,e⟩:=x;exact vX e
 |tup xs=>obtain⟨_,_,_,p⟩:=x;exact p.lt
 |dK aM ob=>exact vX (And.left x)
 |dT aM=>obtain⟨_,_,_,_,o,_,_,e,_⟩:=x;exact vX e
 |set S n=>obtain⟨o,_,_,_,e,_⟩:=x;exact vX e
 |ins C dx fs=>obtain⟨_,_,_,e,_⟩:=x;exact vX e
 |own y=>obtain⟨_,e⟩:=x;exact vX e
 |xd fs=>obtain⟨_,⟨_,_,_,e,_⟩,_⟩:=x;exact vX e
 |rng lo hi=>obtain⟨_,_,_,e⟩:=x;exact vX e
 |frz ob u=>obtain⟨e,_⟩:=x;exact vX e
 |tbl q=>obtain⟨_,e,_⟩:=x;exact vX e
 |met f y=>exact vX (show h.get? a=some _ from x)
 |ext φ=>obtain⟨_,⟨_,e⟩,_⟩:=x;exact vX e
theorem Paired.mapP {α β:Type}{F G:α->β->Prop}:∀ {l₁:List α}{l₂:List β},Paired F l₁ l₂->(∀a b,F a b->G a b)->Paired G l₁ l₂
 |_,_,.nil,_=>.nil
 |_,_,.cons r t,f=>.cons (f _ _ r) (Paired.mapP t f)
theorem bU.stay (x:bU P w H h a o)(k:∀b u,(b=a∨H b=some (.own a))->h.get? b=some u->h'.get? b=some u)
  (ho:∀b,H b=some (.own a)->H' b=some (.own a)) (ht:∀b xs,H b=some (.tup xs)->H' b=some (.tup xs)) (hf:∀b o u,H b=some (.frz o u)->H' b=some (.frz o u)):bU P w H' h' a o:=by
 induction o with
 |lst xs=>obtain⟨z,its,n,r,e⟩:=x;exact⟨z,its,n,r,k _ _ (.inl rfl) e⟩
 |tup xs=>obtain⟨z,its,r,ob,e,c⟩:=x;exact⟨z,its,r,ob,k _ _ (.inl rfl) e,c⟩
 |dK aM T8=>obtain⟨g,z,y,vs,r,ob,es,ep,e,c⟩:=x;exact⟨k _ _ (.inl rfl) g,z,y,vs,r,ob,es,ep,k _ _ (.inl rfl) e,c⟩
 |dT aM=>
  obtain⟨z,y,xs,r,ob,es,ep,e,c⟩:=x;exact⟨z,y,xs,Paired.mapP r λp q z=>⟨z.1,ht _ _ z.2.1,z.2.2⟩,ob,es,ep,k _ _ (.inl rfl) e,c⟩
 |set S n=>obtain⟨ob,es,ep,t,e,c⟩:=x;exact⟨ob,es,ep,t,k _ _ (.inl rfl) e,c⟩
 |ins C dx fs=>
  obtain⟨d,z,ne,e,mA,⟨od,es,ep,e2,c⟩,r⟩:=x;exact⟨ho _ d,z,ne,k _ _ (.inl rfl) e,mA,⟨od,es,ep,k _ _ (.inr d) e2,c⟩,r⟩
 |own y=>obtain⟨ob,e⟩:=x;exact⟨ob,k _ _ (.inl rfl) e⟩
 |xd fs=>obtain⟨mA,⟨od,es,ep,e,c⟩,r⟩:=x;exact⟨mA,⟨od,es,ep,k _ _ (.inl rfl) e,c⟩,r⟩
 |rng lo hi=>obtain⟨t,u,v,e⟩:=x;exact⟨t,u,v,k _ _ (.inl rfl) e⟩
 |frz ob u ih=>obtain⟨e,q⟩:=x;exact⟨k _ _ (.inl rfl) e,ih q⟩
 |tbl q=>obtain⟨ps,e,t,c⟩:=x;exact⟨ps,k a _ (.inl rfl) e,t,λpos cv z=>let ⟨d,oc,u,vs,tk,z1,z2,z3⟩:=c pos cv z;⟨d,oc,u,vs,tk,z1,hf _ _ _ z2,z3⟩⟩
 |met f y=>
  have e:h.get? a=some (PySem.W.methodObj (.ref f) (.ref y)):=x;show h'.get? a=some (PySem.W.methodObj (.ref f) (.ref y));exact k a _ (.inl rfl) e
 |ext φ=>obtain⟨p,⟨o,e⟩,st⟩:=x;exact⟨st _ _ p λo q=>k _ _ (.inl rfl) q,⟨o,k _ _ (.inl rfl) e⟩,st⟩
theorem lq.lt (x:lq P w H h)(e:H a=some o):a<h.objs.size:=(x a o e).lt
theorem lq.fresh (x:lq P w H h)(e:h.objs.size<=a):H a=none:=by
 cases q:H a with
 |none=>rfl
 |some u=>exact absurd (vQ (x.lt q) e) (Nat.lt_irrefl _)
theorem lq.kept (x:lq P w H h)(k:∀b u,h.get? b=some u->h'.get? b=some u):lq P w H h':=λa o e=>
 (x a o e).stay (λb u _ q=>k b u q) (λ_ q=>q) (λ_ _ q=>q) λ_ _ _ q=>q
theorem lq.laid (x:lq P w H h)(k:∀b u,h.get? b=some u->h'.get? b=some u)(hp:h.objs.size<=a)(new:bU P w (upd H a o) h' a o):lq P w (upd H a o) h':=λb u e=>by
 have hn:=x.fresh hp;by_cases hb:b=a
 ·subst hb;rw[aH]at e;cases e;exact new
 ·rw[aL hb]at e;exact(x b u e).stay (λc v _ q=>k c v q) (λc q=>by rw[aL (ba q hn)];exact q) (λc xs q=>by rw[aL (ba q hn)];exact q) λc o xs q=>by rw[aL (ba q hn)];exact q
end
def Rd (H:Hp)(a:Addr)(u:HO):Prop:=H a=some u∨∃o,H a=some (.frz o u)
theorem Rd.of (h:H a=some u):Rd H a u:=.inl h
theorem Rd.ok (r:Rd H a u)(x:lq P w H h):bU P w H h a u:=by
 rcases r with r|⟨o,r⟩
 ·exact x a u r
 ·obtain⟨_,q⟩:=x a _ r;exact q
def Pa:Option HO->Prop
 |some (.lst _)=>True
 |some (.dK _ _)=>True
 |some (.dT _)=>True
 |some (.set _ _)=>True
 |some (.ins _ _ _)=>True
 |some (.ext _)=>True
 |_=>False
section
variable {P:Program}{w:World}{H:Hp}{h h':Heap}{x e:Addr}{o':HO}
theorem lq.write (ok:lq P w H h)(mu:Pa (H x))(he:e=x∨H e=some (.own x))(k:∀b u,b≠e->h.get? b=some u->h'.get? b=some u)(OA:∃u,h'.get? e=some u)
  (new:bU P w (upd H x o') h' x o'):lq P w (upd H x o') h':=λb u q=>by
 have QA:∀c y,H c=some (.own y)->c≠x:=λc y r z=>by subst z;rw[r]at mu;exact mu
 have T9:∀c xs,H c=some (.tup xs)->c≠x:=λc xs r z=>by subst z;rw[r]at mu;exact mu
 by_cases hb:b=x
 ·subst hb;rw[aH]at q;cases q;exact new
 ·rw[aL hb]at q;by_cases hbe:b=e
  ·have q':H b=some (.own x):=by
    rcases he with z|z
    ·exact absurd (hbe.trans z) hb
    ·rw[hbe];exact z
   rw[q]at q';cases q';obtain⟨v,hv⟩:=OA;exact⟨v,by rw[hbe];exact hv⟩
  ·refine(ok b u q).stay (λc v hc r=>k c v ?_ r) (λc r=>by rw[aL (QA c b r)];exact r) (λc xs r=>by rw[aL (T9 c xs r)];exact r) λc o xs r=>by rw[aL (λz=>by subst z;rw[r]at mu;exact mu)];exact r
   rcases hc with rfl|hc
   ·exact hbe
   ·rintro rfl;rcases he with z|z
    ·exact QA c b hc z
    ·rw[hc]at z;cases z;exact hb rfl
end
structure Un (fs ex:List Addr)(H H':Hp)(h h':Heap):Prop where
 keep:∀b o,h.get? b=some o->H b=none->b∉fs->b∉ex->h'.get? b=some o
 slot:∀b o,h.get? b=some o->H b=none->b∈fs->b∉ex->∃sl,h'.get? b=some { o with slots:=sl }
 free:∀b o,h.get? b=some o->H b=none->b∉ex->H' b=none
 there:∀b o,h.get? b=some o->b∉ex->∃o',h'.get? b=some o'
 tups:∀b xs,H b=some (.tup xs)->H' b=some (.tup xs)
 frzs:∀b o u,H b=some (.frz o u)->H' b=some (.frz o u)
 tbls:∀b q,H b=some (.tbl q)->H' b=some (.tbl q)
section
variable {fs XO ex ZG:List Addr}{H H1 H2:Hp}{h h1 h2 h':Heap}{a x e:Addr}{o:HO}
theorem Un.any (u:Un fs ex H H1 h h1)(q:h.get? b=some ob)(n:H b=none)(hx:b∉ex):∃sl,h1.get? b=some { ob with slots:=sl }:=by
 by_cases hb:b∈fs
 ·exact u.slot b ob q n hb hx
 ·exact⟨ob.slots,u.keep b ob q n hb hx⟩
theorem Un.trans (a:Un fs ex H H1 h h1)(b:Un fs ex H1 H2 h1 h2):Un fs ex H H2 h h2 where
 keep:=λc ob q n hc hx=>b.keep c ob (a.keep c ob q n hc hx) (a.free c ob q n hx) hc hx
 slot:=λc ob q n hc hx=>by
  obtain⟨sl,e1⟩:=a.slot c ob q n hc hx;obtain⟨TB,e2⟩:=b.slot c _ e1 (a.free c ob q n hx) hc hx;exact⟨TB,e2⟩
 free:=λc ob q n hx=>by
  obtain⟨o',e1⟩:=a.there c ob q hx;exact b.free c o' e1 (a.free c ob q n hx) hx
 there:=λc ob q hx=>by
  obtain⟨o',e1⟩:=a.there c ob q hx;exact b.there c o' e1 hx
 tups:=λc xs q=>b.tups c xs (a.tups c xs q)
 frzs:=λc ob xs q=>b.frzs c ob xs (a.frzs c ob xs q)
 tbls:=λc ps q=>b.tbls c ps (a.tbls c ps q)
theorem Un.kept (k:∀b u,h.get? b=some u->h'.get? b=some u):Un fs ex H H h h' :=
 ⟨λb ob q _ _ _=>k b ob q,λb ob q _ _ _=>⟨ob.slots,k b ob q⟩,λ_ _ _ n _=>n,λb ob q _=>⟨ob,k b ob q⟩,λ_ _ q=>q,λ_ _ _ q=>q,λ_ _ q=>q⟩
theorem Un.refl:Un fs ex H H h h:=Un.kept λ_ _ q=>q
theorem Un.laid (k:∀b u,h.get? b=some u->h'.get? b=some u)(hp:h.objs.size<=a)(hn:H a=none):Un fs ex H (upd H a o) h h' where
 keep:=λb u q _ _ _=>k b u q
 slot:=λb u q _ _ _=>⟨u.slots,k b u q⟩
 free:=λb u q n _=>by rw[aL (vS (vQ (vX q) hp))];exact n
 there:=λb u q _=>⟨u,k b u q⟩
 tups:=λb xs q=>by rw[aL (ba q hn)];exact q
 frzs:=λb u xs q=>by rw[aL (ba q hn)];exact q
 tbls:=λb ps q=>by rw[aL (ba q hn)];exact q
theorem Un.write (mu:Pa (H x))(he:e=x∨H e=some (.own x))(k:∀b u,b≠e->h.get? b=some u->h'.get? b=some u)(OA:∃u,h'.get? e=some u):Un fs ex H (upd H x o) h h':=by
 have hx:∀b,H b=none->b≠x:=λb n z=>by subst z;rw[n]at mu;exact mu
 have hb:∀b,H b=none->b≠e:=λb n z=>by
  subst z;rcases he with r|r
  ·exact hx b n r
  ·rw[n]at r;cases r
 have hm:∀b u,H b=some u->¬Pa (some u)->b≠x:=λb u q nm z=>by subst z;rw[q]at mu;exact nm mu
 refine⟨λb u q n _ _=>k b u (hb b n) q,λb u q n _ _=>⟨u.slots,k b u (hb b n) q⟩,λb u q n _=>by rw[aL (hx b n)];exact n,λb u q _=>?_,
  λb xs q=>by rw[aL (hm b _ q λz=>z)];exact q,λb u xs q=>by rw[aL (hm b _ q λz=>z)];exact q,λb ps q=>by rw[aL (hm b _ q λz=>z)];exact q⟩
 by_cases hbe:b=e
 ·subst hbe;exact OA
 ·exact⟨u,k b u hbe q⟩
end
noncomputable def RE (h:Heap)(H:Hp):List Addr:=(List.range h.objs.size).filter λa=>(H a).isSome
def xp (h:Heap)(H:Hp):Heap:=PySem.W.hideAll h (RE h H)
theorem CG (h:Heap)(H:Hp):(xp h H).objs.size=h.objs.size:=PySem.W.hideAll_size _ _
theorem pV (e:h.get? b=some o)(n:H b=none):(xp h H).get? b=some o :=
 PySem.W.hideAll_get _ e λhm=>by
  have q:(H b).isSome=true:=(vN hm).2;rw[n]at q;simp at q
theorem HK (e:(xp h H).get? b=some o):h.get? b=some o/\H b=none:=by
 have e':h.get? b=some o:=PySem.W.of_hideAll (RE h H) e;refine⟨e',?_⟩;cases q:H b with
 |none=>rfl
 |some x=>
  have hm:b∈RE h H:=List.mem_filter.mpr ⟨List.mem_range.mpr (vX e'),by simp[q]⟩;have z:(xp h H).get? b=none:=PySem.W.hideAll_none (RE h H) hm;rw[z]at e;cases e
noncomputable def HL (g h:Heap)(L:Addr):List (Addr×Obj):=(List.range h.objs.size).filterMap λa=>if a=L∨(g.get? a).isSome=true then none else (h.get? a).map λo=>(a,o)
def aD (g h:Heap)(L d:Addr):List (Addr×Obj):=(HL g h L).filter λp=>decide (p.1≠d)
structure Mod (K:PySem.W.Frag)(mg:Str->Option Value)(base:Heap):Prop where
 kin:K.In base
 glob:base.Ns mainGlobals mg
 blt:∃mb,base.Ns builtinsNs mb/\∀x:Str,x ≠ "__name__"->mb x=bootBuiltins x
 nolimit:base.NoLimit
 bmain:∃bm ob,mg "__builtins__" = some (.ref bm)/\bm≠builtinsNs/\base.get? bm=some ob/\ob.cls=.type "module"/\ob.dict=some builtinsNs/\ob.data=.plain
structure Cx where
 prog:Program
 w:World
 K:PySem.W.Frag
 mg:Str->Option Value
 base:Heap
 A:Around
 N:List Str
 s₀:Shared
 H₀:Hp
 env:Env
 outer:List Env
 stack:List Env
 ex:List Addr
 fn:Str->Bool
 calm:Bool
 pn:List (Addr×Obj)
 xe:Value->Shared->Prop
noncomputable def CH (l:List Env):List Addr:=l.filterMap (·.frame)
abbrev Cx.fs (X:Cx):List Addr:=CH X.outer
def Eo (sc:Scope)(x:Str):Prop:=sc.names.lookup x=some .local∨sc.names.lookup x=some .cell∨sc.names.lookup x=some .free
def Ht (sc:Scope)(x:Str):Prop:=sc.names.lookup x=some .local∨sc.names.lookup x=some .cell
def S8 (env:Env)(h:Heap)(m:Str->Option Value)(x:Str)(u:Value):Prop :=
 (env.kindOf x=some .local/\m x=some u)∨((env.kindOf x=some .cell∨env.kindOf x=some .free)/\∃c,env.cells.lookup x=some c/\h.IsCell c (some u))
structure Cx.Ok (X:Cx):Prop where
 mod:Mod X.K X.mg X.base
 kind:X.env.scope.kind=.function
 glob:X.env.globals=mainGlobals
 blt:X.env.builtins=builtinsNs
 above:X.s₀.heap.objs.size<=X.env.locals
 inj:∀x y c,X.env.cells.lookup x=some c->X.env.cells.lookup y=some c->x=y
 has:∀x,(X.env.kindOf x=some .cell∨X.env.kindOf x=some .free)->∃c,X.env.cells.lookup x=some c
 cab:∀x c,X.fn x=true->X.env.cells.lookup x=some c->X.s₀.heap.objs.size<=c
 hd:X.calm=true->X.A.handled=none
 frames:X.A.frames=some X.stack
 stk:X.stack=X.outer∨(X.stack=X.env::X.outer/\X.env.frame=some X.env.locals)
 exf:∀b∈X.ex,b≠X.env.locals/\∀x c,X.env.cells.lookup x=some c->c≠b
 bs:∀b o,X.base.get? b=some o->X.s₀.heap.get? b=some o/\X.H₀ b=none
 bsz:X.base.objs.size<=X.s₀.heap.objs.size
 noex:∀b o,X.base.get? b=some o->b∉X.ex
 exfs:∀b∈X.ex,b∉X.fs
 funs:X.s₀.heap.FunFrames X.base X.outer
 frf:∀b∈X.fs,X.H₀ b=none
structure Inv (X:Cx)(af:List (Addr×Obj))(σ:List (Option V))(H:Hp)(s:Shared):Prop where
 ok:X.Ok
 os:s.os=X.s₀.os
 bare:AllBare s.gens
 base:Un X.fs X.ex X.H₀ H X.s₀.heap s.heap
 loc:∃m,s.heap.Ns X.env.locals m/\∀(i:Nat)(x:Str)(v:V),X.N[i]? = some x->σ[i]? = some (some v)->Eo X.env.scope x->∃u,aY v u/\S8 X.env s.heap m x u
 cell:∀x c,X.env.cells.lookup x=some c->∃v,s.heap.IsCell c v
 free:H X.env.locals=none
 freeC:∀x c,X.env.cells.lookup x=some c->H c=none
 pin:∀p∈X.pn++af,s.heap.get? p.1=some p.2/\H p.1=none/\p.1≠X.env.locals/\p.1∉X.fs/\∀v,p.2.data≠.cell v
 hok:lq X.prog X.w H s.heap
 len:σ.length=X.N.length
section
variable {X:Cx}{af:List (Addr×Obj)}{σ:List (Option V)}{H H':Hp}{s:Shared}{h':Heap}
theorem Cx.Ok.nofr (ok:X.Ok)(e:X.base.get? b=some o):b∉X.fs:=λhb=>by
 have:=(ok.funs.mem hb).1;rw[e]at this;cases this
theorem Inv.bs (I:Inv X af σ H s):∀b o,X.base.get? b=some o->s.heap.get? b=some o/\H b=none:=λb o e=>
 ⟨I.base.keep b o (I.ok.bs b o e).1 (I.ok.bs b o e).2 (I.ok.nofr e) (I.ok.noex b o e),I.base.free b o (I.ok.bs b o e).1 (I.ok.bs b o e).2 (I.ok.noex b o e)⟩
theorem Inv.bk (I:Inv X af σ H s):∀b o,X.base.get? b=some o->s.heap.get? b=some o:=λb o e=>(I.bs b o e).1
theorem Inv.mod (I:Inv X af σ H s):Mod X.K X.mg X.base:=I.ok.mod
theorem Inv.kIn (I:Inv X af σ H s):X.K.In s.heap:=I.ok.mod.kin.keeps I.bk
theorem Inv.nolimit (I:Inv X af σ H s):s.heap.NoLimit:=I.ok.mod.nolimit.keeps I.bk
theorem Inv.lt (I:Inv X af σ H s):X.env.locals<s.heap.objs.size:=let ⟨_,hn,_⟩:=I.loc;hn.lt
theorem Inv.sz (I:Inv X af σ H s):X.s₀.heap.objs.size<=s.heap.objs.size:=vR I.ok.above (Nat.le_of_lt I.lt)
theorem Inv.nofs (I:Inv X af σ H s)(h:s.heap.objs.size<=a):a∉X.fs:=λhb=>by
 obtain⟨_,o,ho,_⟩:=I.ok.funs.mem hb;exact absurd (vQ (vX ho) (vR I.sz h)) (Nat.lt_irrefl _)
theorem Inv.cne (I:Inv X af σ H s):∀x c,X.env.cells.lookup x=some c->c≠X.env.locals:=λx c e z=>by
 obtain⟨v,o,ho,hd⟩:=I.cell x c e;obtain⟨m,⟨o',es,ep,wZ,DS,_⟩,_⟩:=I.loc;rw[z,wZ]at ho;cases ho;rw[DS]at hd;cases hd
theorem Inv.funs (I:Inv X af σ H s):s.heap.FunFrames X.base X.outer:=by
 have all:∀(l:List Env),(∀b∈CH l,b∈X.fs)->X.s₀.heap.FunFrames X.base l->s.heap.FunFrames X.base l:=by
  intro l;induction l with
  |nil=>intro _ _;trivial
  |cons env r ih=>
   intro hs hl;obtain⟨hk,⟨L,o,hf,hn,ho,hd⟩,hr⟩:=hl;have hL:L∈X.fs:=hs L (by unfold CH;rw[List.filterMap_cons,hf];exact mX);obtain⟨sl,e⟩:=I.base.slot L o ho (I.ok.frf L hL) hL λz=>I.ok.exfs L z hL;exact⟨hk,⟨L,_,hf,hn,e,hd⟩,ih (λb hb=>hs b (by unfold CH;rw[List.filterMap_cons,hf];exact mZ _ hb)) hr⟩
 exact all X.outer (λ_ hb=>hb) I.ok.funs
theorem Inv.stack (I:Inv X af σ H s):s.heap.FunFrames X.base X.stack:=by
 rcases I.ok.stk with e|⟨e,hf⟩
 ·rw[e];exact I.funs
 ·rw[e];obtain⟨m,hn,_⟩:=I.loc;refine .cons (by rw[I.ok.kind];decide) hf hn ?_ I.funs;exact Heap.get?_none_of_le (vR I.ok.bsz I.ok.above)
theorem Inv.stkSub (I:Inv X af σ H s):∀b∈CH X.stack,b∈X.env.locals::X.fs:=λb hb=>by
 rcases I.ok.stk with e|⟨e,hf⟩
 ·rw[e]at hb;exact mZ _ hb
 ·rw[e]at hb;unfold CH at hb;rw[List.filterMap_cons,hf]at hb;exact hb
theorem Inv.stkFree (I:Inv X af σ H s):∀b∈CH X.stack,H b=none:=λb hb=>by
 rcases vP (I.stkSub b hb)with e|hb
 ·rw[e];exact I.free
 ·obtain⟨_,o,ho,_⟩:=I.ok.funs.mem hb;exact I.base.free b o ho (I.ok.frf b hb) λz=>I.ok.exfs b z hb
theorem Inv.step {g':Array GenState}{t':Nat}{d':Drawn}{ch:List Addr}(I:Inv X af σ H s)
  (pD:∀b∈ch,(b∈X.ex∨X.s₀.heap.objs.size<=b)/\b≠X.env.locals/\(∀x c,X.env.cells.lookup x=some c->c≠b)/\∀p∈X.pn++af,p.1≠b)
  (keep:∀b o,b≠X.env.locals->b∉X.fs->b∉ch->s.heap.get? b=some o->H b=none->h'.get? b=some o)
  (slot:∀b o,b≠X.env.locals->b∈X.fs->b∉ch->s.heap.get? b=some o->H b=none->∃sl,h'.get? b=some { o with slots:=sl }) (free:∀b o,b∉ch->s.heap.get? b=some o->H b=none->H' b=none)
  (there:∀b o,b∉ch->s.heap.get? b=some o->∃o',h'.get? b=some o')
  (tups:∀b xs,H b=some (.tup xs)->H' b=some (.tup xs)) (frzs:∀b o u,H b=some (.frz o u)->H' b=some (.frz o u)) (tbls:∀b q,H b=some (.tbl q)->H' b=some (.tbl q))
  (ns:∀m,s.heap.Ns X.env.locals m->h'.Ns X.env.locals m) (hok:lq X.prog X.w H' h') (hg:AllBare g'):
  Inv X af σ H' { s with heap:=h',gens:=g',drawn:=d',toks:=t' }:=by
 have VI:∀b o,X.s₀.heap.get? b=some o->b≠X.env.locals:=λb o e=>vS (vQ (vX e) I.ok.above);have OB:∀b o,X.s₀.heap.get? b=some o->b∉X.ex->b∉ch:=λb o e hx hb=>by
  rcases (pD b hb).1 with z|z
  ·exact hx z
  ·exact absurd (vQ (vX e) z) (Nat.lt_irrefl _)
 have L3:∀x c,X.env.cells.lookup x=some c->∀v,s.heap.IsCell c v->h'.IsCell c v:=λx c e v ⟨o,ho,hd⟩=>by
  have QB:c∉ch:=λz=>(pD c z).2.2.1 x c e rfl;by_cases hc:c∈X.fs
  ·obtain⟨sl,q⟩:=slot c o (I.cne x c e) hc QB ho (I.freeC x c e);exact⟨_,q,hd⟩
  ·exact⟨o,keep c o (I.cne x c e) hc QB ho (I.freeC x c e),hd⟩
 refine⟨I.ok,I.os,hg,⟨λb o e n hb hx=>?_,λb o e n hb hx=>?_,λb o e n hx=>?_,λb o e hx=>?_,λb xs e=>tups b xs (I.base.tups b xs e),λb o xs e=>frzs b o xs (I.base.frzs b o xs e),λb ps e=>?_⟩,?_,λx c e=>?_,?_,λx c e=>?_,λp hp=>?_,hok,I.len⟩
 ·exact keep b o (VI b o e) hb (OB b o e hx) (I.base.keep b o e n hb hx) (I.base.free b o e n hx)
 ·obtain⟨sl,e1⟩:=I.base.slot b o e n hb hx;obtain⟨TB,e2⟩:=slot b _ (VI b o e) hb (OB b o e hx) e1 (I.base.free b o e n hx);exact⟨TB,e2⟩
 ·obtain⟨o',e1⟩:=I.base.there b o e hx;exact free b o' (OB b o e hx) e1 (I.base.free b o e n hx)
 ·obtain⟨o',e1⟩:=I.base.there b o e hx;exact there b o' (OB b o e hx) e1
 ·exact tbls b _ (I.base.tbls b ps e)
 ·obtain⟨m,hn,hl⟩:=I.loc;refine⟨m,ns m hn,λi x v e1 e2 e3=>?_⟩;obtain⟨u,r,l⟩:=hl i x v e1 e2 e3;refine⟨u,r,?_⟩;rcases l with l|⟨k,c,e,z⟩
  ·exact .inl l
  ·exact .inr ⟨k,c,e,L3 x c e _ z⟩
 ·obtain⟨v,z⟩:=I.cell x c e;exact⟨v,L3 x c e v z⟩
 ·obtain⟨m,⟨o,_,_,ho,_⟩,_⟩:=I.loc;exact free _ o (λz=>(pD _ z).2.1 rfl) ho I.free
 ·obtain⟨v,o,ho,hd⟩:=I.cell x c e;exact free c o (λz=>(pD c z).2.2.1 x c e rfl) ho (I.freeC x c e)
 ·obtain⟨e,n,ne,nf,d⟩:=I.pin p hp;have QB:p.1∉ch:=λz=>(pD p.1 z).2.2.2 p hp rfl;exact⟨keep p.1 p.2 ne nf QB e n,free p.1 p.2 QB e n,ne,nf,d⟩
theorem Inv.un {t':Nat}(I:Inv X af σ H s)(u:Un X.fs [] H H' s.heap h')(hok:lq X.prog X.w H' h'):Inv X af σ H' { s with heap:=h',toks:=t' }:=by
 obtain⟨m,⟨o,es,ep,ho,r⟩,_⟩:=id I.loc;obtain⟨sl,hL⟩:=u.any ho I.free (by simp);exact I.step (g':=s.gens) (d':=s.drawn) (ch:=[]) (λ_ z=>nomatch z) (λb o _ hb _ e n=>u.keep b o e n hb (by simp)) (λb o _ hb _ e n=>u.slot b o e n hb (by simp)) (λb o _ e n=>u.free b o e n (by simp)) (λb o _ e=>u.there b o e (by simp)) u.tups u.frzs u.tbls (λm' hm=>by
  obtain⟨o',Ek,OC,wZ,r'⟩:=hm;rw[ho]at wZ;cases wZ;exact⟨_,Ek,OC,hL,r'⟩) hok I.bare
theorem Inv.call {g':Array GenState}{t':Nat}{d':Drawn}{ch:List Addr}(I:Inv X af σ H s)(u:Un (CH X.stack) ch H H' s.heap h')(hok:lq X.prog X.w H' h')(hg:AllBare g')
  (pD:∀b∈ch,(b∈X.ex∨X.s₀.heap.objs.size<=b)/\b≠X.env.locals/\(∀x c,X.env.cells.lookup x=some c->c≠b)/\∀p∈X.pn++af,p.1≠b):
  Inv X af σ H' { s with heap:=h',gens:=g',drawn:=d',toks:=t' }:=by
 obtain⟨m,⟨o,es,ep,ho,r⟩,_⟩:=id I.loc;obtain⟨sl,hL⟩:=u.any ho I.free λz=>(pD _ z).2.1 rfl;exact I.step (ch:=ch) pD (λb o hL hb hc e n=>u.keep b o e n (λz=>(vP (I.stkSub b z)).elim hL hb) hc) (λb o _ _ hc e n=>u.any e n hc) (λb o hc e n=>u.free b o e n hc) (λb o hc e=>u.there b o e hc) u.tups u.frzs u.tbls (λm' hm=>by
  obtain⟨o',Ek,OC,wZ,r'⟩:=hm;rw[ho]at wZ;cases wZ;exact⟨_,Ek,OC,hL,r'⟩) hok hg
theorem Inv.turned {t':Nat}{it:Addr}(I:Inv X af σ H s)(k:∀b o,b≠it->s.heap.get? b=some o->h'.get? b=some o)(hn:H it=none)(hL:it≠X.env.locals)
  (h1:it∈X.ex∨X.s₀.heap.objs.size<=it) (h2:∀x c,X.env.cells.lookup x=some c->c≠it) (h3:∀p∈X.pn++af,p.1≠it):Inv X af σ H { s with heap:=h',toks:=t' }:=by
 have L4:∀b u,H b=some u->b≠it:=λb u e z=>by rw[z,hn]at e;cases e
 refine I.step (g':=s.gens) (d':=s.drawn) (ch:=[it]) (λb hb=>?_) (λb o _ _ hc e _=>k b o (λz=>hc (by simp[z])) e) (λb o _ _ hc e _=>⟨o.slots,k b o (λz=>hc (by simp[z])) e⟩) (λ_ _ _ _ n=>n)
  (λb o hc e=>⟨o,k b o (λz=>hc (by simp[z])) e⟩) (λ_ _ e=>e) (λ_ _ _ e=>e) (λ_ _ e=>e) (λm hm=>?_) (λb u e=>?_) I.bare
 ·have e:b=it:=by simpa using hb
  subst e;exact⟨h1,hL,h2,h3⟩
 ·obtain⟨o,es,ep,ho,r⟩:=hm;exact⟨o,es,ep,k _ o (Ne.symm hL) ho,r⟩
 ·refine(I.hok b u e).stay (λc v hc q=>k c v ?_ q) (λ_ q=>q) (λ_ _ q=>q) λ_ _ _ q=>q;rcases hc with z|z
  ·rw[z];exact L4 b u e
  ·exact L4 c _ z
theorem Inv.tok (I:Inv X af σ H s)(t:Nat):Inv X af σ H { s with toks:=t }:=I.un (h':=s.heap) (t':=t) Un.refl I.hok
theorem Inv.kept (I:Inv X af σ H s)(k:∀b u,s.heap.get? b=some u->h'.get? b=some u):Inv X af σ H { s with heap:=h',toks:=t' }:=I.un (Un.kept k) (I.hok.kept k)
theorem Inv.laid (I:Inv X af σ H s)(k:∀b u,s.heap.get? b=some u->h'.get? b=some u)(hp:s.heap.objs.size<=a)(new:bU X.prog X.w (upd H a o) h' a o):
  Inv X af σ (upd H a o) { s with heap:=h',toks:=t' }:=I.un (Un.laid k hp (I.hok.fresh hp)) (I.hok.laid k hp new)
theorem Inv.write (I:Inv X af σ H s)(mu:Pa (H x))(he:e=x∨H e=some (.own x))(k:∀b u,b≠e->s.heap.get? b=some u->h'.get? b=some u)(OA:∃u,h'.get? e=some u)
  (new:bU X.prog X.w (upd H x o) h' x o):Inv X af σ (upd H x o) { s with heap:=h',toks:=t' }:=I.un (Un.write mu he k OA) (I.hok.write mu he k OA new)
theorem Inv.pins_of (I:Inv X af σ H s)(h:∀p∈GU,s.heap.get? p.1=some p.2/\H p.1=none/\p.1≠X.env.locals/\p.1∉X.fs/\∀v,p.2.data≠.cell v):Inv X GU σ H s :=
 ⟨I.ok,I.os,I.bare,I.base,I.loc,I.cell,I.free,I.freeC,λp hp=>(List.mem_append.mp hp).elim (λz=>I.pin p (List.mem_append_left _ z)) (h p),I.hok,I.len⟩
theorem xq {N:List Str}(hN:N.Nodup){i j:Nat}{x:Str}(a:N[i]? = some x)(b:N[j]? = some x):i=j:=by
 obtain⟨h1,e1⟩:=vV a;obtain⟨h2,e2⟩:=vV b;exact(List.getElem_inj hN).mp (e1.trans e2.symm)
theorem sV {M:Model}{A:Around}{E:Value->Shared->Prop}{i:Nat}{x:Str}{v:V}{u:Value}{Q:Unit->Shared->Prop}(I:Inv X af σ H s)(hN:X.N.Nodup)(hi:X.N[i]? = some x)(hx:Ht X.env.scope x)(r:aY v u)
  (h:∀s',Inv X af (σ.set i (some v)) H s'->(∃a,Heap.SameBut a s.heap s'.heap/\(a=X.env.locals∨X.env.cells.lookup x=some a))->Q () s') (hf:X.fn x=true∨X.env.scope.names.lookup x=some .local:=by first|exact .inl rfl|exact .inr rfl|assumption):wpAny M A (storeName X.env x u) Q E s:=by
 obtain⟨m,hn,hl⟩:=id I.loc;have TC:(X.env.scope.kind == .class || (X.env.scope.kind == .module && X.env.locals != X.env.globals))=false:=by rw[I.ok.kind];rfl
 have DT:i<σ.length:=by rw[I.len];exact(vV hi).1
 have cne:=I.cne;have C4:∀ {a:Addr}{h':Heap},(∃o,s.heap.get? a=some o/\H a=none)->Heap.SameBut a s.heap h'->lq X.prog X.w H h':=λ{a h'} ha hs b ob e=>by
  obtain⟨_,_,L5⟩:=ha;refine(I.hok b ob e).stay (λc w' hc q=>(hs.2 c ?_).trans q) (λ_ q=>q) (λ_ _ q=>q) λ_ _ _ q=>q;rintro rfl;rcases hc with rfl|hc
  ·rw[L5]at e;cases e
  ·rw[L5]at hc;cases hc
 rcases hx with hk|hk
 ·refine wpAny_storeName_local hk hn (λh' TD hs=>?_) TC;obtain⟨oL,_,_,JY,_⟩:=id hn;refine h _ ⟨I.ok,I.os,I.bare,⟨λb o e n hb hx=>?_,λb o e n hb hx=>?_,I.base.free,λb o e hx=>?_,I.base.tups,I.base.frzs,I.base.tbls⟩,⟨_,TD,λj y v' e1 e2 e3=>?_⟩,λy c e=>?_,I.free,I.freeC,λp hp=>?_,C4 ⟨oL,JY,I.free⟩ hs,by simpa using I.len⟩ ⟨_,hs,.inl rfl⟩
  ·exact(hs.2 b (vS (vQ (vX e) I.ok.above))).trans (I.base.keep b o e n hb hx)
  ·obtain⟨sl,e1⟩:=I.base.slot b o e n hb hx;exact⟨sl,(hs.2 b (vS (vQ (vX e) I.ok.above))).trans e1⟩
  ·obtain⟨o',e1⟩:=I.base.there b o e hx;exact⟨o',(hs.2 b (vS (vQ (vX e) I.ok.above))).trans e1⟩
  ·by_cases hj:j=i
   ·subst hj;rw[hi]at e1;cases e1;rw[List.getElem?_set_self DT]at e2;cases e2
    exact⟨u,r,.inl ⟨hk,by simp⟩⟩
   ·rw[vB (Ne.symm hj)]at e2;obtain⟨u',r',q⟩:=hl j y v' e1 e2 e3;refine⟨u',r',?_⟩;rcases q with⟨k,e⟩|⟨k,c,e,z⟩
    ·refine .inl ⟨k,?_⟩;have:y≠x:=λe=>hj (xq hN e1 (e ▸ hi));simp[this,e]
    ·exact .inr ⟨k,c,e,z.sameBut hs (cne y c e)⟩
  ·obtain⟨w',z⟩:=I.cell y c e;exact⟨w',z.sameBut hs (cne y c e)⟩
  ·obtain⟨e,n,ne,nf,d⟩:=I.pin p hp;exact⟨(hs.2 p.1 ne).trans e,n,ne,nf,d⟩
 ·have TF:X.fn x=true:=by
   rcases hf with z|z
   ·exact z
   ·rw[z]at hk;cases hk
  obtain⟨c,hc⟩:=I.ok.has x (.inl hk);obtain⟨w',z⟩:=I.cell x c hc;refine wpAny_storeName_cell I.ok.kind hk hc z (λh' JZ hs=>?_);obtain⟨oc,El,TH⟩:=id z;refine h { s with heap:=h' } ⟨I.ok,I.os,I.bare,⟨λb o e n hb hx=>?_,λb o e n hb hx=>?_,I.base.free,λb o e hx=>?_,I.base.tups,I.base.frzs,I.base.tbls⟩,⟨m,hn.sameBut hs (Ne.symm (cne x c hc)),λj y v' e1 e2 e3=>?_⟩,λy c' e=>?_,I.free,I.freeC,λp hp=>?_,C4 ⟨oc,El,I.freeC x c hc⟩ hs,by simpa using I.len⟩ ⟨c,hs,.inr hc⟩
  ·exact(hs.2 b (vS (vQ (vX e) (I.ok.cab x c TF hc)))).trans (I.base.keep b o e n hb hx)
  ·obtain⟨sl,e1⟩:=I.base.slot b o e n hb hx;exact⟨sl,(hs.2 b (vS (vQ (vX e) (I.ok.cab x c TF hc)))).trans e1⟩
  ·obtain⟨o',e1⟩:=I.base.there b o e hx;exact⟨o',(hs.2 b (vS (vQ (vX e) (I.ok.cab x c TF hc)))).trans e1⟩
  ·by_cases hj:j=i
   ·subst hj;rw[hi]at e1;cases e1;rw[List.getElem?_set_self DT]at e2;cases e2
    exact⟨u,r,.inr ⟨.inl hk,c,hc,JZ⟩⟩
   ·rw[vB (Ne.symm hj)]at e2;obtain⟨u',r',q⟩:=hl j y v' e1 e2 e3;refine⟨u',r',?_⟩;rcases q with q|⟨k,c',e,z'⟩
    ·exact .inl q
    ·refine .inr ⟨k,c',e,z'.sameBut hs ?_⟩;rintro rfl;exact hj (xq hN e1 (I.ok.inj _ _ _ e hc ▸ hi))
  ·by_cases hcc:c'=c
   ·subst hcc;exact⟨_,JZ⟩
   ·obtain⟨w2,z2⟩:=I.cell y c' e;exact⟨w2,z2.sameBut hs hcc⟩
  ·obtain⟨e,n,ne,nf,d⟩:=I.pin p hp;refine⟨(hs.2 p.1 ?_).trans e,n,ne,nf,d⟩;intro q;rw[q,El]at e;have q':oc=p.2:=vK e;exact d w' (by rw[←q'];exact TH)
theorem xu {M:Model}{A:Around}{E:Value->Shared->Prop}{i:Nat}{x:Str}{v:V}{u:Value}{Q:Unit->Shared->Prop}(I:Inv X af σ H s)(hN:X.N.Nodup)(hi:X.N[i]? = some x)(hx:Ht X.env.scope x)(r:aY v u)
  (h:∀s',Inv X af (σ.set i (some v)) H s'->Q () s') (hf:X.fn x=true∨X.env.scope.names.lookup x=some .local:=by first|exact .inl rfl|exact .inr rfl|assumption):wpAny M A (storeName X.env x u) Q E s :=
 sV I hN hi hx r (λs' I' _=>h s' I') hf
theorem Inv.call' (I:Inv X af σ H s)(ho:s'.os=s.os)(u:Un (CH X.stack) ch H H' s.heap s'.heap)(hok:lq X.prog X.w H' s'.heap)(hg:AllBare s'.gens)
  (pD:∀b∈ch,(b∈X.ex∨X.s₀.heap.objs.size<=b)/\b≠X.env.locals/\(∀x c,X.env.cells.lookup x=some c->c≠b)/\∀p∈X.pn++af,p.1≠b):Inv X af σ H' s':=by
 obtain⟨h',g',d',t',o'⟩:=s';have e:o'=s.os:=ho;subst e;exact I.call (g':=g') (t':=t') (d':=d') u hok hg pD
end
abbrev XK:=Value->Option Addr->Hp->Prop
abbrev St:=List (Option V)
abbrev VK:=V->Hp->Prop
abbrev TE:=St->Hp->VK->Prop
abbrev TT:=St->Hp->(Bool->Hp->Prop)->Prop
abbrev TA:=St->Hp->(List V->Hp->Prop)->Prop
structure Ends where
 nx:St->Hp->Prop
 rt:VK
 bk:St->Hp->Prop:=λ_ _=>False
 ct:St->Hp->Prop:=λ_ _=>False
abbrev TS:=Ends->St->Hp->Prop
def EP (X:Cx)(af:List (Addr×Obj))(σ:St)(Q:VK)(u:Value)(s':Shared):Prop:=∃v H',Inv X af σ H' s'/\aY v u/\Q v H'
def TP (X:Cx)(af:List (Addr×Obj))(σ:St)(Q:Bool->Hp->Prop)(b:Bool)(s':Shared):Prop:=∃H',Inv X af σ H' s'/\Q b H'
def AP (X:Cx)(af:List (Addr×Obj))(σ:St)(Q:List V->Hp->Prop)(us:List Value)(s':Shared):Prop:=∃vs H',Inv X af σ H' s'/\bf vs us/\Q vs H'
def SP (X:Cx)(af:List (Addr×Obj))(D:Ends)(f:Flow)(s':Shared):Prop :=
 match f with
 |.next=>∃σ' H',Inv X af σ' H' s'/\D.nx σ' H'
 |.brk=>∃σ' H',Inv X af σ' H' s'/\D.bk σ' H'
 |.cont=>∃σ' H',Inv X af σ' H' s'/\D.ct σ' H'
 |.ret u=>∃v σ' H',Inv X af σ' H' s'/\aY v u/\D.rt v H'
def PE (X:Cx)(e:Expr)(t:TE):Prop :=
 ∀(af:List (Addr×Obj))(s:Shared)(σ:St)(H:Hp)(Q:VK),Inv X af σ H s->t σ H Q->wpAny (model X.prog X.w) X.A (eval e X.env) (EP X af σ Q) X.xe s
def PT (X:Cx)(e:Expr)(t:TT):Prop :=
 ∀(af:List (Addr×Obj))(s:Shared)(σ:St)(H:Hp)(Q:Bool->Hp->Prop),Inv X af σ H s->t σ H Q->wpAny (model X.prog X.w) X.A (isTrue e X.env (eval e X.env)) (TP X af σ Q) X.xe s
def PW (X:Cx)(e:Expr)(t:TT):Prop :=
 ∀(si:Sem Value)(af:List (Addr×Obj))(s:Shared)(σ:St)(H:Hp)(Q:Bool->Hp->Prop),Inv X af σ H s->t σ H Q->wpAny (model X.prog X.w) X.A (isTrue e X.env si) (TP X af σ Q) X.xe s
theorem PW.pt (h:PW X e t):PT X e t:=h _
def PA (X:Cx)(es:List Expr)(t:TA):Prop :=
 ∀(pos:Pos)(af:List (Addr×Obj))(s:Shared)(σ:St)(H:Hp)(Q:List V->Hp->Prop),Inv X af σ H s->t σ H Q->wpAny (model X.prog X.w) X.A (spliced (backTo pos (starEach es X.env))) (AP X af σ Q) X.xe s
def PS (X:Cx)(st:Stmt)(t:TS):Prop :=
 ∀(af:List (Addr×Obj))(s:Shared)(σ:St)(H:Hp)(D:Ends),Inv X af σ H s->t D σ H->wpAny (model X.prog X.w) X.A (exec st X.env) (SP X af D) X.xe s
def ve (X:Cx)(st:List Stmt)(t:TS):Prop :=
 ∀(af:List (Addr×Obj))(s:Shared)(σ:St)(H:Hp)(D:Ends),Inv X af σ H s->t D σ H->wpAny (model X.prog X.w) X.A (execs st X.env) (SP X af D) X.xe s
theorem cR {α:Type}{t:Sem α}{Q Q':α->Shared->Prop}{M:Model}{A:Around}{E:Value->Shared->Prop}{s:Shared}(h:wpAny M A t Q E s)(hQ:∀a s,Q a s->Q' a s):wpAny M A t Q' E s:=wpAny_mono h hQ λ_ _ x=>x
section
variable {X:Cx}
theorem ZB {a b:Expr}{ta tb:TE}(ha:PE X a ta)(hb:PE X b tb){af:List (Addr×Obj)}{s:Shared}{σ:St}{H:Hp}{R:V->V->Hp->Prop}(I:Inv X af σ H s)(h:ta σ H λx H1=>tb σ H1 λy H2=>R x y H2)
  {α:Type}{Q:α->Shared->Prop}{f:Value->Value->Sem α}
  (hf:∀v u s2 x y H2,Inv X af σ H2 s2->aY x v->aY y u->R x y H2->wpAny (model X.prog X.w) X.A (f v u) Q X.xe s2):
  wpAny (model X.prog X.w) X.A (eval a X.env) (λv s₁=>wpAny (model X.prog X.w) X.A (eval b X.env) (λu s₂=>wpAny (model X.prog X.w) X.A (f v u) Q X.xe s₂) X.xe s₁) X.xe s:=by
 refine cR (ha af s σ H _ I h) λv s1 ⟨x,H1,I1,r1,q1⟩=>?_;refine cR (hb af s1 σ H1 _ I1 q1) λu s2 ⟨y,H2,I2,r2,q2⟩=>?_;exact hf v u s2 x y H2 I2 r1 r2 q2
def Ep (i:Nat):TE:=λσ H Q=>∃v,σ[i]? = some (some v)/\Q v H
def tC (v:V):TE:=λ_ H Q=>Q v H
theorem lL (hN:X.N[i]? = some x)(hv:Eo X.env.scope x)(hd:(x == ("__debug__" : Str))=false:=by decide)(jA:(x == ("__classdict__" : Str))=false:=by decide):PE X (.Name x pos) (Ep i):=by
 intro af s σ H Q I h;obtain⟨v,e,h⟩:=h;obtain⟨m,hn,hl⟩:=I.loc;obtain⟨u,r,l⟩:=hl i x v hN e hv;have lm:EP X af σ Q u s:=⟨v,H,I,r,h⟩;rcases l with⟨hk,hm⟩|⟨hk,c,hc,L6⟩
 ·exact wpAny_Name (wpAny_loadName_local I.ok.kind hk hn hm lm) hd
 ·rcases hk with hk|hk
  ·exact wpAny_Name (wpAny_loadName_cell I.ok.kind hk hc L6 lm) hd
  ·exact wpAny_Name (wpAny_loadName_free I.ok.kind hk hc L6 lm jA) hd
theorem LQ {i j pos}:PE X (.Constant (.int i) j pos) (tC (.int i)):=λ_ _ _ H _ I h=>wpAny_Constant_int ⟨.int i,H,I.tok _,⟨_,rfl⟩,h⟩
theorem Pb {b j pos}:PE X (.Constant (.bool b) j pos) (tC (.bl b)):=λ_ _ _ H _ I h=>Constant_bool ⟨.bl b,H,I,rfl,h⟩
theorem LR {j pos}:PE X (.Constant .none j pos) (tC .non):=λ_ _ _ H _ I h=>Constant_none ⟨.non,H,I,rfl,h⟩
theorem LS {x j pos}:PE X (.Constant (.str x) j pos) (tC (.str x)):=λ_ _ _ H _ I h=>Calls.Constant_str ⟨.str x,H,I.tok _,⟨_,rfl⟩,h⟩
def Gl (X:Cx)(x:Str):Prop:=X.env.kindOf x=some .globalImplicit
theorem vg {E:Value->Shared->Prop}{af:List (Addr×Obj)}{s:Shared}{σ:St}{H:Hp}{x:Str}{u:Value}{pos:Pos}{Q:Value->Shared->Prop}(I:Inv X af σ H s)(hg:Gl X x)(hm:X.mg x=some u)(h:Q u s)
  (hd:(x == ("__debug__" : Str))=false:=by decide):wpAny (model X.prog X.w) X.A (eval (.Name x pos) X.env) Q E s :=
 Calls.Name_function_global I.ok.kind hg (Calls.loadGlobal_global (by rw[I.ok.glob];exact I.mod.glob.keeps I.bk) hm h) hd
theorem lM {E:Value->Shared->Prop}{af:List (Addr×Obj)}{s:Shared}{σ:St}{H:Hp}{x:Str}{u:Value}{pos:Pos}{Q:Value->Shared->Prop}(I:Inv X af σ H s)(hg:Gl X x)(hm:X.mg x=none)(hv:bootBuiltins x=some u)(h:Q u s)
  (hn:x ≠ "__name__":=by decide) (hd:(x == ("__debug__" : Str))=false:=by decide):wpAny (model X.prog X.w) X.A (eval (.Name x pos) X.env) Q E s:=by
 obtain⟨mb,h1,h2⟩:=I.mod.blt;exact Calls.Name_function_global I.ok.kind hg (Calls.loadGlobal_builtin (by rw[I.ok.glob];exact I.mod.glob.keeps I.bk) hm (by rw[I.ok.blt];exact h1.keeps I.bk) ((h2 x hn).trans hv) h) hd
theorem Ba (hg:Gl X x)(hm:X.mg x=some u)(r:aY v u)(hd:(x == ("__debug__" : Str))=false:=by decide):PE X (.Name x pos) (tC v) :=
 λ_ _ _ H _ I h=>vg I hg hm ⟨v,H,I,r,h⟩ hd
theorem HM (hg:Gl X x)(hm:X.mg x=none)(hv:bootBuiltins x=some u)(r:aY v u)(hn:x ≠ "__name__":=by decide)(hd:(x == ("__debug__" : Str))=false:=by decide):PE X (.Name x pos) (tC v) :=
 λ_ _ _ H _ I h=>lM I hg hm hv ⟨v,H,I,r,h⟩ hn hd
def WU (ta tb:TE)(k:Int->Int->Hp->Prop):St->Hp->Prop:=λσ H=>ta σ H λx H1=>tb σ H1 λy H2=>∃i j,x=.int i/\y=.int j/\k i j H2
variable {a b:Expr}{ta tb:TE}{pos:Pos}
def PC (X:Cx)(op:CmpOp)(a b:Expr)(t:TE):Prop :=
 ∀(af:List (Addr×Obj))(s:Shared)(σ:St)(H:Hp)(Q:VK),Inv X af σ H s->t σ H Q ->
  wpAny (model X.prog X.w) X.A (eval a X.env) (λv s₁=>wpAny (model X.prog X.w) X.A (eval b X.env) (λu s₂=>wpAny (model X.prog X.w) X.A (compareOp op v u) (EP X af σ Q) X.xe s₂) X.xe s₁) X.xe s
theorem jl (b:Expr){op:CmpOp}(h:op≠.In)(h2:op≠.NotIn):behindInMarks op b=false:=by
 have e1:(op == CmpOp.In)=false:=by cases op<;>first|rfl|exact absurd rfl h
 have e2:(op == CmpOp.NotIn)=false:=by cases op<;>first|rfl|exact absurd rfl h2
 cases b<;>simp[behindInMarks,e1,e2]
def Pc (p:Int->Int->Bool)(ta tb:TE):TE:=λσ H Q=>WU ta tb (λi j H2=>Q (.bl (p i j)) H2) σ H
abbrev LU:TE->TE->TE:=Pc λi j=>decide (i<j)
abbrev WV:TE->TE->TE:=Pc λi j=>decide (j<i)
def tB (t:TE):TT:=λσ H Q=>t σ H λx H1=>∃c,x=.bl c/\Q c H1
theorem LV (h:PC X op a b t)(h1:behindInMarks op b=false:=by first|exact jl _ (by decide) (by decide)|rfl):PE X (.Compare a [op] [b] pos) t:=λaf s σ H Q I hw=>wpAny_Compare1 (h af s σ H Q I hw) h1
theorem LW {op:CmpOp}{t:TE}(h:PC X op a b t)(h1:behindInMarks op b=false:=by first|exact jl _ (by decide) (by decide)|rfl):PT X (.Compare a [op] [b] pos) (tB t):=by
 intro af s σ H Q I hw;refine wpAny_isTrue_Compare1 (cR (h af s σ H _ I hw) λv s1 h1=>cR h1 λu s2 h2=>cR h2 λc s3 ⟨x,H1,I1,r1,q1⟩=>?_) h1;obtain⟨d,rfl,q⟩:=q1;cases r1
 exact wpAny_truthy_bool ⟨H1,I1,q⟩
theorem LX {e:Expr}{t:TE}(h:PE X e t)(he:∀si,isTrue e X.env si=(do let v ←si;standAt e.pos;holding [v] (truthy v)):=by intro _;rfl):PT X e (tB t):=by
 intro af s σ H Q I hw;refine isTrue_plain (cR (h af s σ H _ I hw) λv s1 ⟨x,H1,I1,r1,q1⟩=>?_) (he _);obtain⟨d,rfl,q⟩:=q1;cases r1
 exact wpAny_truthy_bool ⟨H1,I1,q⟩
variable {tA RZ:TT}{aD:List Expr}
def Pd (t u:TT):TT:=λσ H Q=>t σ H λc H1=>if c=true then u σ H1 Q else Q false H1
def Va (t u:TT):TT:=λσ H Q=>t σ H λc H1=>if c=true then Q true H1 else u σ H1 Q
def Pe (t:TT):TT:=λσ H Q=>t σ H λc H1=>Q (!c) H1
theorem HN (ha:PT X a tA):PW X (.BoolOp .And [a] pos) tA:=by
 intro wh af s σ H Q I h;refine isTrue_and (cR (ha af s σ H Q I h) λc s1 e=>?_);cases c with
 |true=>exact isTrue_and_nil e
 |false=>exact e
theorem LY (ha:PT X a tA):PW X (.BoolOp .Or [a] pos) tA:=by
 intro wh af s σ H Q I h;refine isTrue_or (cR (ha af s σ H Q I h) λc s1 e=>?_);cases c with
 |false=>exact isTrue_or_nil e
 |true=>exact e
theorem LZ (ha:PT X a tA)(hb:PW X (.BoolOp .And (b::aD) pos) RZ):PW X (.BoolOp .And (a::b::aD) pos) (Pd tA RZ):=by
 intro wh af s σ H Q I h;refine isTrue_and (cR (ha af s σ H _ I h) λc s1 ⟨H1,I1,q1⟩=>?_);cases c with
 |true=>exact hb wh af s1 σ H1 Q I1 q1
 |false=>exact⟨H1,I1,q1⟩
theorem Pf (ha:PT X a tA)(hb:PW X (.BoolOp .Or (b::aD) pos) RZ):PW X (.BoolOp .Or (a::b::aD) pos) (Va tA RZ):=by
 intro wh af s σ H Q I h;refine isTrue_or (cR (ha af s σ H _ I h) λc s1 ⟨H1,I1,q1⟩=>?_);cases c with
 |true=>exact⟨H1,I1,q1⟩
 |false=>exact hb wh af s1 σ H1 Q I1 q1
theorem Ma (ha:PT X a tA):PT X (.UnaryOp .Not a pos) (Pe tA):=by
 intro af s σ H Q I h;exact isTrue_not (ha af s σ H (λc H1=>Q (!c) H1) I h)
def Pg (ta tb:TE):TE:=λσ H Q=>ta σ H λx H1=>∃c,x=.bl c/\if c=true then tb σ H1 Q else Q (.bl false) H1
def S9 (ta tb:TE):TE:=λσ H Q=>ta σ H λx H1=>∃c,x=.bl c/\if c=true then Q (.bl true) H1 else tb σ H1 Q
theorem Mb {op}(h:PE X a t):PE X (.BoolOp op [a] pos) t:=λaf s σ H Q I hw=>BoolOp_one (h af s σ H Q I hw)
theorem Mc (ha:PE X a ta)(hb:PE X (.BoolOp .And (b::aD) pos) tb):PE X (.BoolOp .And (a::b::aD) pos) (Pg ta tb):=by
 intro af s σ H Q I h;refine BoolOp_and (cR (ha af s σ H _ I h) λv s1 ⟨x,H1,I1,r1,q1⟩=>?_);obtain⟨c,rfl,q1⟩:=q1;cases r1
 refine wpAny_truthy_bool ?_;cases c with
 |true=>exact hb af s1 σ H1 Q I1 q1
 |false=>exact⟨.bl false,H1,I1,rfl,q1⟩
theorem Ph (ha:PE X a ta)(hb:PE X (.BoolOp .Or (b::aD) pos) tb):PE X (.BoolOp .Or (a::b::aD) pos) (S9 ta tb):=by
 intro af s σ H Q I h;refine BoolOp_or (cR (ha af s σ H _ I h) λv s1 ⟨x,H1,I1,r1,q1⟩=>?_);obtain⟨c,rfl,q1⟩:=q1;cases r1
 refine wpAny_truthy_bool ?_;cases c with
 |false=>exact hb af s1 σ H1 Q I1 q1
 |true=>exact⟨.bl true,H1,I1,rfl,q1⟩
def WW (t:TT)(ta tb:TE):TE:=λσ H Q=>t σ H λc H1=>if c=true then ta σ H1 Q else tb σ H1 Q
theorem Er {c:Expr}(hc:PT X c tA)(ha:PE X a ta)(hb:PE X b tb):PE X (.IfExp c a b pos) (WW tA ta tb):=by
 intro af s σ H Q I h;refine wpAny_IfExp (cR (hc af s σ H _ I h) λd s1 ⟨H1,I1,q1⟩=>?_);cases d with
 |true=>exact ha af s1 σ H1 Q I1 q1
 |false=>exact hb af s1 σ H1 Q I1 q1
end
def iM (K:PySem.W.Frag)(H:Hp)(a:Addr)(xs:List V):Prop :=
 Rd H a (.lst xs) ∨
  ∃(o:Obj)(its:Array Value)(n:Nat),K.lookup a=some o/\o.cls=.type "list"/\o.dict=none/\o.data=.seq its n/\its.size<=sizeLine/\bf xs its.toList
def jm (K:PySem.W.Frag)(H:Hp)(a:Addr)(xs:List V):Prop :=
 Rd H a (.tup xs) ∨
  ∃(o:Obj)(its:Array Value)(n:Nat),K.lookup a=some o/\o.cls=.type "tuple"/\o.data=.seq its n/\its.size<=sizeLine/\bf xs its.toList
noncomputable def SA:Value->Option V
 |.none=>some .non
 |.bool b=>some (.bl b)
 |.int i _=>some (.int i)
 |.str x _=>some (.str x)
 |.bytes b _=>some (.byt b)
 |.float b _=>some (.flt b)
 |.ref a=>some (.ref a)
 |.type n=>some (.ty n)
 |_=>none
theorem aY.abs (r:aY x u):SA u=some x:=by
 cases x with
 |non=>cases r;rfl
 |bl _=>cases r;rfl
 |int _=>obtain⟨t,rfl⟩:=r;rfl
 |str _=>obtain⟨t,rfl⟩:=r;rfl
 |byt _=>obtain⟨t,rfl⟩:=r;rfl
 |flt _=>obtain⟨t,rfl⟩:=r;rfl
 |ref _=>cases r;rfl
 |ty _=>cases r;rfl
theorem aY.inj (r:aY x u)(q:aY y u):x=y:=vK (r.abs.symm.trans q.abs)
theorem bf.inj:∀ {xs ys:List V}{us:List Value},bf xs us->bf ys us->xs=ys
 |_,_,_,.nil,.nil=>rfl
 |_,_,_,.cons r t,.cons r' t'=>by rw[r.inj r',bf.inj t t']
section
variable {X:Cx}{af:List (Addr×Obj)}{σ:St}{H:Hp}{s:Shared}{a:Addr}{xs ys:List V}
theorem iM.of {K:PySem.W.Frag}(h:H a=some (.lst xs)):iM K H a xs:=.inl (.inl h)
theorem jm.of {K:PySem.W.Frag}(h:H a=some (.tup xs)):jm K H a xs:=.inl (.inl h)
theorem Inv.list (I:Inv X af σ H s)(h:iM X.K H a xs):∃its:List Value,bf xs its/\PlainL s.heap a its.toArray/\xs.length<=sizeLine:=by
 rcases h with h|⟨o,its,n,hk,hc,hd,hs,hz,r⟩
 ·obtain⟨z,its,n,r,e⟩:=h.ok I.hok;exact⟨its,r,⟨_,n,e,rfl,rfl,rfl⟩,z⟩
 ·refine⟨its.toList,r,⟨o,n,I.kIn a o hk,hc,hd,by simpa using hs⟩,?_⟩;have e:=r.length;simp only[vG]at e;omega
theorem Inv.tuple (I:Inv X af σ H s)(h:jm X.K H a xs):∃its:List Value,bf xs its/\IsTup s.heap a its.toArray/\xs.length<=sizeLine:=by
 rcases h with h|⟨o,its,n,hk,hc,hs,hz,r⟩
 ·obtain⟨z,its,r,p⟩:=h.ok I.hok;exact⟨its,r,p,z⟩
 ·refine⟨its.toList,r,⟨o,I.kIn a o hk,hc,n,by simpa using hs⟩,?_⟩;have e:=r.length;simp only[vG]at e;omega
theorem Inv.list_inj (I:Inv X af σ H s)(h:iM X.K H a xs)(h':iM X.K H a ys):xs=ys:=by
 obtain⟨its,r,⟨o,n,e,_,_,d⟩,_⟩:=I.list h;obtain⟨its',r',⟨o',n',e',_,_,d'⟩,_⟩:=I.list h';rw[e]at e';cases e';rw[d]at d';injection d' with d1 _;have:its=its':=by simpa using congrArg Array.toList d1
 subst this;exact r.inj r'
theorem Inv.tuple_inj (I:Inv X af σ H s)(h:jm X.K H a xs)(h':jm X.K H a ys):xs=ys:=by
 obtain⟨its,r,⟨o,e,_,n,d⟩,_⟩:=I.tuple h;obtain⟨its',r',⟨o',e',_,n',d'⟩,_⟩:=I.tuple h';rw[e]at e';cases e';rw[d]at d';injection d' with d1 _;have:its=its':=by simpa using congrArg Array.toList d1
 subst this;exact r.inj r'
end
noncomputable abbrev Cx.wish (X:Cx)(E:Value->Shared->Prop):Cx:={ X with xe:=E }
noncomputable abbrev Cx.nox (X:Cx):Cx:=X.wish λ_ _=>False
theorem Cx.Ok.wish {X:Cx}(ok:X.Ok)(E:Value->Shared->Prop):(X.wish E).Ok :=
 ⟨ok.mod,ok.kind,ok.glob,ok.blt,ok.above,ok.inj,ok.has,ok.cab,ok.hd,ok.frames,ok.stk,ok.exf,ok.bs,ok.bsz,ok.noex,ok.exfs,ok.funs,ok.frf⟩
theorem Cx.Ok.unwish {X:Cx}{E:Value->Shared->Prop}(ok:(X.wish E).Ok):X.Ok :=
 ⟨ok.mod,ok.kind,ok.glob,ok.blt,ok.above,ok.inj,ok.has,ok.cab,ok.hd,ok.frames,ok.stk,ok.exf,ok.bs,ok.bsz,ok.noex,ok.exfs,ok.funs,ok.frf⟩
section
variable {X:Cx}{af:List (Addr×Obj)}{σ:St}{H:Hp}{s:Shared}{E:Value->Shared->Prop}
theorem Inv.wish (I:Inv X af σ H s)(E:Value->Shared->Prop):Inv (X.wish E) af σ H s:=⟨I.ok.wish E,I.os,I.bare,I.base,I.loc,I.cell,I.free,I.freeC,I.pin,I.hok,I.len⟩
theorem Inv.unwish (I:Inv (X.wish E) af σ H s):Inv X af σ H s:=⟨I.ok.unwish,I.os,I.bare,I.base,I.loc,I.cell,I.free,I.freeC,I.pin,I.hok,I.len⟩
theorem SP.unwish (h:SP (X.wish E) af D f s'):SP X af D f s':=by
 cases f with
 |next=>obtain⟨σ',H',I,q⟩:=h;exact⟨σ',H',I.unwish,q⟩
 |brk=>obtain⟨σ',H',I,q⟩:=h;exact⟨σ',H',I.unwish,q⟩
 |cont=>obtain⟨σ',H',I,q⟩:=h;exact⟨σ',H',I.unwish,q⟩
 |ret u=>obtain⟨v,σ',H',I,r,q⟩:=h;exact⟨v,σ',H',I.unwish,r,q⟩
theorem PE.nox (h:PE X.nox e t):PE X e t:=λaf s σ H Q I hw=>
 wpAny_mono (h af s σ H Q (I.wish _) hw) (λ_ _ ⟨v,H',I',r,q⟩=>⟨v,H',I'.unwish,r,q⟩) λ_ _ z=>False.elim z
theorem PT.nox (h:PT X.nox e t):PT X e t:=λaf s σ H Q I hw=>
 wpAny_mono (h af s σ H Q (I.wish _) hw) (λ_ _ ⟨H',I',q⟩=>⟨H',I'.unwish,q⟩) λ_ _ z=>False.elim z
theorem ve.nox {st:List Stmt}{t:TS}(h:ve X.nox st t):ve X st t:=λaf s σ H D I hw=>
 wpAny_mono (h af s σ H D (I.wish _) hw) (λ_ _ q=>q.unwish) λ_ _ z=>False.elim z
end
section
variable {X:Cx}{st:Stmt}{aD:List Stmt}{t u:TS}{e:Expr}{te:TE}{pos:Pos}
def Kw:TS:=λD σ H=>D.nx σ H
def Pj (t u:TS):TS:=λD σ H=>t { D with nx:=u D } σ H
theorem HP:ve X [] Kw:=λ_ _ σ H _ I h=>wpAny_execs_nil ⟨σ,H,I,h⟩
theorem Es (h1:PS X st t)(h2:ve X aD u):ve X (st::aD) (Pj t u):=by
 intro af s σ H D I h;refine wpAny_execs_cons (cR (h1 af s σ H { D with nx:=u D } I h) λf s1 q=>?_);cases f with
 |next=>
  obtain⟨σ',H',I',q⟩:=q;exact h2 af s1 σ' H' D I' q
 |ret v=>exact q
 |brk=>exact q
 |cont=>exact q
theorem HQ (h1:PS X st t):ve X [st] t:=by
 intro af s σ H D I h;refine wpAny_execs_cons (cR (h1 af s σ H D I h) λf s1 q=>?_);cases f with
 |next=>exact wpAny_execs_nil q
 |ret v=>exact q
 |brk=>exact q
 |cont=>exact q
def Pk:TS:=λD σ H=>D.ct σ H
theorem xw:PS X (.Continue pos) Pk:=λ_ _ σ H _ I h=>wpAny_Continue ⟨σ,H,I,h⟩
theorem Inv.quiet (I:Inv X af σ H s):interactive X.env=false:=by simp[interactive,I.ok.kind]
def Pl (te:TE):TS:=λD σ H=>te σ H λ_ H1=>D.nx σ H1
theorem HR (he:PE X e te)(hs:swapsWith e none pos.line X.env=pure false:=by rfl):PS X (.Expr e pos) (Pl te):=by
 intro af s σ H D I h;exact wpAny_Expr_any (cR (he af s σ H _ I h) λv s1 ⟨x,H1,I1,r1,q1⟩=>⟨σ,H1,I1,q1⟩) I.quiet hs
def Md (te:TE):TS:=λD σ H=>te σ H D.rt
theorem Et (he:PE X e te):PS X (.Return (some e) pos) (Md te):=by
 intro af s σ H D I h;exact wpAny_Return_some (cR (he af s σ H _ I h) λv s1 ⟨x,H1,I1,r1,q1⟩=>⟨x,σ,H1,I1,r1,q1⟩)
def Pm (c:TT)(t u:TS):TS:=λD σ H=>c σ H λb H1=>if b=true then t D σ H1 else u D σ H1
theorem Pn {c:Expr}{a b:List Stmt}{tc:TT}(hc:PT X c tc)(ha:ve X a t)(hb:ve X b u):PS X (.If c a b pos) (Pm tc t u):=by
 intro af s σ H D I h;refine wpAny_If (cR (hc af s σ H _ I h) λd s1 ⟨H1,I1,q1⟩=>?_);cases d with
 |true=>exact ha af s1 σ H1 D I1 q1
 |false=>exact hb af s1 σ H1 D I1 q1
end
abbrev TG:=V->St->Hp->(St->Hp->Prop)->Prop
abbrev Me:=List V->St->Hp->(St->Hp->Prop)->Prop
def PG (X:Cx)(sj:Expr)(t:TG):Prop :=
 ∀(af:List (Addr×Obj))(s:Shared)(σ:St)(H:Hp)(v:V)(u:Value)(Q:St->Hp->Prop),Inv X af σ H s->aY v u->t v σ H Q ->
  wpAny (model X.prog X.w) X.A (assign sj X.env u) (λ_ s'=>∃σ' H',Inv X af σ' H' s'/\Q σ' H') X.xe s
def RF (X:Cx)(ts:List Expr)(t:Me):Prop :=
 ∀(af:List (Addr×Obj))(s:Shared)(σ:St)(H:Hp)(vs:List V)(us:List Value)(Q:St->Hp->Prop),Inv X af σ H s->bf vs us->t vs σ H Q ->
  wpAny (model X.prog X.w) X.A (assignInOrder ((assignEach ts X.env).map (·.2)) us) (λ_ s'=>∃σ' H',Inv X af σ' H' s'/\Q σ' H') X.xe s
abbrev Mf:=V->V->V->Hp->(Hp->Prop)->Prop
def Po (X:Cx)(t:Mf):Prop :=
 ∀(af:List (Addr×Obj))(s:Shared)(σ:St)(H:Hp)(o i v:V)(ov iv u:Value)(Q:Hp->Prop),Inv X af σ H s->aY o ov->aY i iv->aY v u->t o i v H Q ->
  wpAny (model X.prog X.w) X.A (setItem ov iv u) (λ_ s'=>∃H',Inv X af σ H' s'/\Q H') X.xe s
section
variable {X:Cx}{pos:Pos}
def jT (i:Nat):TG:=λv σ H Q=>Q (σ.set i (some v)) H
theorem Bb (hN:X.N.Nodup)(hi:X.N[i]? = some x)(hx:Ht X.env.scope x)(hf:X.fn x=true∨X.env.scope.names.lookup x=some .local:=by first|exact .inl rfl|exact .inr rfl|assumption):PG X (.Name x pos) (jT i):=by
 intro af s σ H v u Q I r h;exact wpAny_assign_Name (xu I hN hi hx r (λs' I'=>⟨_,H,I',h⟩) hf)
def Pp:Me:=λvs σ H Q=>vs=[]/\Q σ H
def Kx (t:TG)(u:Me):Me:=λvs σ H Q=>∃v r,vs=v::r/\t v σ H λσ' H'=>u r σ' H' Q
theorem vh:RF X [] Pp:=by
 intro af s σ H vs us Q I r h;obtain⟨e,h⟩:=h;subst e;cases r
 exact assignInOrder_nil ⟨σ,H,I,h⟩
theorem jn {e:Expr}{es:List Expr}{t:TG}{u:Me}(h1:PG X e t)(h2:RF X es u)
  (hs:(assignEach (e::es) X.env).map (·.2)=assign e X.env::(assignEach es X.env).map (·.2):=by rfl):RF X (e::es) (Kx t u):=by
 intro af s σ H vs us Q I r h;obtain⟨v,vr,e1,h⟩:=h;subst e1;cases r with
 |cons r rr=>
  rw[hs];refine assignInOrder_cons (cR (h1 af s σ H _ _ _ I r h) λ_ s1 ⟨σ1,H1,I1,q1⟩=>?_);exact h2 af s1 σ1 H1 _ _ Q I1 rr q1
def Mg (K:PySem.W.Frag)(n:Nat)(t:Me):TG:=λv σ H Q=>∃a xs,v=.ref a/\jm K H a xs/\xs.length=n/\t xs σ H Q
theorem zO (hc:X.calm=true)(h:RF X es t)
  (hn:(assignEach es X.env).length=n:=by rfl) (nO:(assignEach es X.env).findIdx? (·.1)=none:=by rfl):PG X (.Tuple es k pos) (Mg X.K n t):=by
 intro af s σ H v u Q I r hw;obtain⟨a,xs,e1,hq,hl,hw⟩:=hw;subst e1;cases r
 obtain⟨its,rv,ht,hz⟩:=I.tuple hq;refine assign_Tuple_tuple (I.ok.hd hc) ht (by simp[hn,←hl,rv.length]) nO λh' hx=>?_;have I1:Inv X af σ H { s with heap:=h' }:=I.kept (t':=s.toks) λb o e=>hx b o (vS (vX e)) e;exact h af _ σ H xs _ Q I1 (by simpa using rv) hw
def SD (to ti:TE)(t:Mf):TG:=λv σ H Q=>to σ H λo H1=>ti σ H1 λi H2=>t o i v H2 λH3=>Q σ H3
theorem Mh {o i:Expr}{to ti:TE}{t:Mf}(ho:PE X o to)(hi:PE X i ti)(hs:Po X t)
  (ha:∀v,assign (.Subscript o i pos) X.env v=(do
   let ov ←holding [v] (eval o X.env)
   let iv ←holding [v,ov] (eval i X.env)
   standAt pos
   holding [v,ov,iv] (setItem ov iv v)
   release [v,ov,iv] []):=by intro _;rfl):PG X (.Subscript o i pos) (SD to ti t):=by
 intro af s σ H v u Q I r h;rw[ha];refine wX (wpAny_holding (cR (ho af s σ H _ I h) λov s1 ⟨x,H1,I1,r1,q1⟩=>?_));refine wX (wpAny_holding (cR (hi af s1 σ H1 _ I1 q1) λiv s2 ⟨y,H2,I2,r2,q2⟩=>?_));refine wX (wpAny_standAt (wX (wpAny_holding (cR (hs af s2 σ H2 x y v ov iv u _ I2 r1 r2 r q2) λ_ s3 ⟨H3,I3,q3⟩=>?_))));exact wpAny_release ⟨σ,H3,I3,q3⟩
def zP (te:TE)(g:TG):TS:=λD σ H=>te σ H λx H1=>g x σ H1 D.nx
theorem Mi {tg e:Expr}{te:TE}{g:TG}(he:PE X e te)(hg:PG X tg g)(hs:swapsWithSole [tg] e pos.line X.env=pure false:=by rfl)(hw:swappedStores [tg] e X.env=pure none:=by rfl)
  (h1:(assignEach [tg] X.env).map (·.2)=[assign tg X.env]:=by rfl):PS X (.Assign [tg] e pos) (zP te g):=by
 intro af s σ H D I h;refine wpAny_Assign_stores (cR (he af s σ H _ I h) λv s1 ⟨x,H1,I1,r1,q1⟩=>?_) hs hw;rw[h1];exact cR (hg af s1 σ H1 x v _ I1 r1 q1) λ_ s2 q=>q
theorem vi {i:Nat}{x:Str}{e:Expr}{te:TE}{z7:Pos}(hN:X.N.Nodup)(hi:X.N[i]? = some x)(hx:Ht X.env.scope x)(he:PE X e te)(hs:swapsWith e (some (.Name x z7)) pos.line X.env=pure false:=by rfl)(hf:X.fn x=true∨X.env.scope.names.lookup x=some .local:=by first|exact .inl rfl|exact .inr rfl|assumption):
  PS X (.Assign [.Name x z7] e pos) (zP te (jT i)):=by
 intro af s σ H D I h;refine wpAny_Assign_Name (cR (he af s σ H _ I h) λv s1 ⟨y,H1,I1,r1,q1⟩=>?_) hs;exact xu I1 hN hi hx r1 (λs2 I2=>⟨_,H1,I2,q1⟩) hf
end
structure It where
 go:Nat->Hp->Prop
 yld:Nat->Hp->V->Hp->Prop
 stop:Nat->Hp->Prop
def nR (X:Cx)(af:List (Addr×Obj))(H:Hp)(b:Addr):Prop :=
 H b=none/\b≠X.env.locals/\b∉X.fs/\(b∈X.ex∨X.s₀.heap.objs.size<=b)/\(∀x c,X.env.cells.lookup x=some c->c≠b)/\∀p∈X.pn++af,p.1≠b
theorem Inv.fpOk (I:Inv X af σ H s)(hb:s.heap.objs.size<=b)(hn:H' b=none):nR X af H' b:=by
 refine⟨hn,Nat.ne_of_gt (vQ I.lt hb),I.nofs hb,.inr (vR I.sz hb),λx c e z=>?_,λp hp z=>?_⟩
 ·obtain⟨v,q⟩:=I.cell x c e;exact absurd (vQ q.lt (by rw[z];exact hb)) (Nat.lt_irrefl _)
 ·exact absurd (vQ (vX (I.pin p hp).1) (by rw[z];exact hb)) (Nat.lt_irrefl _)
structure Turn (P:Program)(w:World)(K:PySem.W.Frag)(tg:Expr)(J:It)(fp:List Addr)(it:Addr)(tn:Nat->Heap->Prop):Prop where
 mem:it∈fp
 obj:∀i h,tn i h->∀b∈fp,∃o,h.get? b=some o/\∀v,o.data≠.cell v
 keep:∀i h h',tn i h->(∀b∈fp,∀o,h.get? b=some o->h'.get? b=some o)->tn i h'
 item:∀(X:Cx),X.prog=P->X.w=w->X.K=K->X.calm=true->∀(i:Nat)(af:List (Addr×Obj))(s:Shared)(σ:St)(H:Hp)(E:Value->Shared->Prop),Inv X af σ H s->(∀b∈fp,nR X af H b)->tn i s.heap->J.go i H ->
  wpAny (model P w) X.A (pyNext (.ref it)) (λr s1=>∃u,r=some u /\
   wpAny (model P w) X.A (letOwnedTupleGo tg (.ref it) u) (λ_ s2=>∃x H',Inv X af σ H' s2/\aY x u/\J.yld i H x H'/\tn (i+1) s2.heap/\∀b∈fp,H' b=none) E s1) E s
 done:∀(X:Cx),X.prog=P->X.w=w->X.K=K->X.calm=true->∀(i:Nat)(af:List (Addr×Obj))(s:Shared)(σ:St)(H:Hp)(E:Value->Shared->Prop),Inv X af σ H s->(∀b∈fp,nR X af H b)->tn i s.heap->J.stop i H ->
  wpAny (model P w) X.A (pyNext (.ref it)) (λr s1=>r=none/\Inv X af σ H s1) E s
 self:∀(A:Around)(i:Nat)(s:Shared)(Q:Value->Shared->Prop)(E:Value->Shared->Prop),tn i s.heap->Q (.ref it) s->wpAny (model P w) A (pyIter (.ref it)) Q E s
abbrev TI:=St->Hp->(It->Hp->Prop)->Prop
def Vb (X:Cx)(af:List (Addr×Obj))(σ:St)(tg:Expr)(R:It->Hp->Prop)(Sa:Value)(s2:Shared):Prop :=
 ∃(it:Addr)(fp:List Addr)(tn:Nat->Heap->Prop)(J:It)(H':Hp),Sa=.ref it/\Inv X af σ H' s2/\Turn X.prog X.w X.K tg J fp it tn/\tn 0 s2.heap/\(∀b∈fp,nR X af H' b)/\R J H'
def PI (X:Cx)(tg df:Expr)(wi:TI):Prop :=
 ∀(af:List (Addr×Obj))(s:Shared)(σ:St)(H:Hp)(R:It->Hp->Prop),Inv X af σ H s->wi σ H R ->
  wpAny (model X.prog X.w) X.A (eval df X.env) (λv s1=>wpAny (model X.prog X.w) X.A (pyIter v) (Vb X af σ tg R) X.xe s1) X.xe s
theorem sW (ho:s.heap.get? it=some o)(hc:o.cls=.type n)(hd:o.data=.fields vs)
    (hn:["enumerate","zip","dict_itemiterator","dict_reverseitemiterator","odict_iterator","itertools.zip_longest","itertools.pairwise"].contains n=false) (hQ:Q () s):wpAny M A (letOwnedTupleGo tg (.ref it) u) Q E s:=by
  unfold letOwnedTupleGo;cases tg<;>first
    |exact wY hQ
    | (cases u<;>first
        |exact wY hQ
        | (refine wX (wpAny_load ho ?_)
           rw[hc,hd]
           show wpAny M A (if(["enumerate","zip","dict_itemiterator","dict_reverseitemiterator","odict_iterator","itertools.zip_longest","itertools.pairwise"].contains n && vs[0]? == some (rawInt _))=true then _ else _) Q E s
           rw[if_neg (by intro h;rw[hn,Bool.false_and]at h;cases h)]
           exact wY hQ))
noncomputable def Vc (K:PySem.W.Frag)(a:Addr):It :=
 ⟨λi H=>∃xs x,iM K H a xs/\xs[i]? = some x,λi H x H'=>H'=H/\∀xs,iM K H a xs->xs[i]? = some x,λi H=>∃xs,iM K H a xs/\xs.length<=i⟩
noncomputable def Vd (K:PySem.W.Frag)(a:Addr):It :=
 ⟨λi H=>∃xs x,jm K H a xs/\xs[i]? = some x,λi H x H'=>H'=H/\∀xs,jm K H a xs->xs[i]? = some x,λi H=>∃xs,jm K H a xs/\xs.length<=i⟩
noncomputable def RG (lo:Int)(n:Nat):It:=⟨λi _=>i<n,λi H x H'=>H'=H/\x=.int (lo+i),λi _=>n<=i⟩
theorem CI {P:Program}{w:World}{K:PySem.W.Frag}{tg:Expr}(a it:Addr):Turn P w K tg (Vc K a) [it] it (λi h=>h.IsListIter it a i) where
 mem:=by simp
 obj:=λi h st b hb=>by
  have e:b=it:=by simpa using hb
  subst e;obtain⟨o,e,c,d⟩:=st;exact⟨o,e,λv z=>by rw[d]at z;cases z⟩
 keep:=λi h h' st k=>st.at λo e=>k it (by simp) o e
 item:=by
  intro X hP hw hK hc i af s σ H E I hf st hg;subst hP hw hK;obtain⟨xs,x,hq,hx⟩:=hg;obtain⟨its,rv,p,hz⟩:=I.list hq;obtain⟨u,hu,ru⟩:=rv.get hx;obtain⟨f0,f1,f2,f3,f4,f5⟩:=hf it (by simp);refine wpAny_pyNext_list_item st p.isList (x:=u) (by simpa using hu) λh' lH sb=>?_;have I1:Inv X af σ H { s with heap:=h' }:=I.turned (t':=s.toks) (λb o hb e=>(sb.2 b hb).trans e) f0 f1 f3 f4 f5;obtain⟨o,e,c,d⟩:=id lH;exact⟨u,rfl,sW (s:={ s with heap:=h' }) e c d (by decide) ⟨x,H,I1,ru,⟨rfl,λys hy=>by rw[I.list_inj hy hq];exact hx⟩,lH,λb hb=>(hf b hb).1⟩⟩
 done:=by
  intro X hP hw hK hc i af s σ H E I hf st hg;subst hP hw hK;obtain⟨xs,hq,hx⟩:=hg;obtain⟨its,rv,p,hz⟩:=I.list hq;obtain⟨f0,f1,f2,f3,f4,f5⟩:=hf it (by simp);have hl:=rv.length;exact wpAny_pyNext_list_end (I.ok.hd hc) st p.isList (by simp;omega) λh' eb=>⟨rfl,I.turned (t':=s.toks) (λb o hb e=>eb b o hb e) f0 f1 f3 f4 f5⟩
 self:=λ_ _ _ _ _ st h=>wpAny_pyIter_listiter st h
theorem zQ {P:Program}{w:World}{K:PySem.W.Frag}{tg:Expr}(a it:Addr):Turn P w K tg (Vd K a) [it] it (λi h=>h.IsTupleIter it a i) where
 mem:=by simp
 obj:=λi h st b hb=>by
  have e:b=it:=by simpa using hb
  subst e;obtain⟨o,e,c,d⟩:=st;exact⟨o,e,λv z=>by rw[d]at z;cases z⟩
 keep:=λi h h' st k=>st.at λo e=>k it (by simp) o e
 item:=by
  intro X hP hw hK hc i af s σ H E I hf st hg;subst hP hw hK;obtain⟨xs,x,hq,hx⟩:=hg;obtain⟨its,rv,p,hz⟩:=I.tuple hq;obtain⟨u,hu,ru⟩:=rv.get hx;obtain⟨f0,f1,f2,f3,f4,f5⟩:=hf it (by simp);refine wpAny_pyNext_tuple_item st (show s.heap.IsTuple a its.toArray from p) (x:=u) (by simpa using hu) λh' lH sb=>?_;have I1:Inv X af σ H { s with heap:=h' }:=I.turned (t':=s.toks) (λb o hb e=>(sb.2 b hb).trans e) f0 f1 f3 f4 f5;obtain⟨o,e,c,d⟩:=id lH;exact⟨u,rfl,sW (s:={ s with heap:=h' }) e c d (by decide) ⟨x,H,I1,ru,⟨rfl,λys hy=>by rw[I.tuple_inj hy hq];exact hx⟩,lH,λb hb=>(hf b hb).1⟩⟩
 done:=by
  intro X hP hw hK hc i af s σ H E I hf st hg;subst hP hw hK;obtain⟨xs,hq,hx⟩:=hg;obtain⟨its,rv,p,hz⟩:=I.tuple hq;obtain⟨f0,f1,f2,f3,f4,f5⟩:=hf it (by simp);have hl:=rv.length;exact wpAny_pyNext_tuple_end (I.ok.hd hc) st (show s.heap.IsTuple a its.toArray from p) (by simp;omega) λh' eb=>⟨rfl,I.turned (t':=s.toks) (λb o hb e=>eb b o hb e) f0 f1 f3 f4 f5⟩
 self:=λ_ _ _ _ _ st h=>wpAny_pyIter_tupleiter st h
theorem zR {P:Program}{w:World}{K:PySem.W.Frag}{tg:Expr}(it:Addr)(lo:Int)(n:Nat):Turn P w K tg (RG lo n) [it] it (λi h=>IsRangeIter h it (lo+(i:Nat)*1) ((n:Int) - (i:Nat)) 1) where
 mem:=by simp
 obj:=λi h st b hb=>by
  have e:b=it:=by simpa using hb
  subst e;exact⟨_,st,λv z=>by
   have z':Data.fields _=Data.cell v:=z;cases z'⟩
 keep:=λi h h' st k=>k it (by simp) _ st
 item:=by
  intro X hP hw hK hc i af s σ H E I hf st hg;subst hP hw hK;obtain⟨f0,f1,f2,f3,f4,f5⟩:=hf it (by simp);have W:=Walks.range (prog:=X.prog) (w:=X.w) (I.ok.hd hc) it lo 1 n;refine W.item i s _ _ hg st λv h' tk hv lH kk=>?_;obtain⟨t,rfl⟩:=hv;have I1:Inv X af σ H { s with heap:=h',toks:=tk }:=I.turned (λb o hb e=>kk b o (by simpa using hb) e) f0 f1 f3 f4 f5;refine⟨_,rfl,sW (s:={ s with heap:=h',toks:=tk }) (n:="range_iterator") lH rfl rfl (by decide) ⟨.int (lo+i),H,I1,⟨t,?_⟩,⟨rfl,rfl⟩,lH,λb hb=>(hf b hb).1⟩⟩;rw[Int.mul_one]
 done:=by
  intro X hP hw hK hc i af s σ H E I hf st hg;subst hP hw hK;obtain⟨f0,f1,f2,f3,f4,f5⟩:=hf it (by simp);exact wpAny_pyNext_range_end (I.ok.hd hc) st (by have:n<=i:=hg;omega) λh' eb=>⟨rfl,I.turned (t':=s.toks) (λb o hb e=>eb b o hb e) f0 f1 f3 f4 f5⟩
 self:=λ_ _ _ _ _ st h=>wpAny_pyIter_rangeiter st h
section
variable {X:Cx}{tg:Expr}
def Pq (K:PySem.W.Frag)(tl:TE):TI:=λσ H R=>tl σ H λx H1=>∃a,x=.ref a/\(∃xs,iM K H1 a xs)/\R (Vc K a) H1
def SE (K:PySem.W.Frag)(tl:TE):TI:=λσ H R=>tl σ H λx H1=>∃a,x=.ref a/\(∃xs,jm K H1 a xs)/\R (Vd K a) H1
theorem HS {l:Expr}{tl:TE}(hl:PE X l tl):PI X tg l (Pq X.K tl):=by
 intro af s σ H R I h;refine cR (hl af s σ H _ I h) λv s1 ⟨x,H1,I1,r1,q1⟩=>?_;obtain⟨a,e,⟨xs,hq⟩,q⟩:=q1;subst e;cases r1
 obtain⟨its,rv,p,hz⟩:=I1.list hq;refine wpAny_pyIter_list p.isList ?_;refine⟨s1.heap.objs.size,[s1.heap.objs.size],_,_,H1,rfl,I1.kept (t':=s1.toks) λb o e=>vZ _ e,CI a _,⟨_,vY _ rfl,rfl,rfl⟩,λb hb=>?_,q⟩;have e:b=s1.heap.objs.size:=by simpa using hb
 subst e;exact I1.fpOk (vT _) (I1.hok.fresh (vT _))
theorem Mj {l:Expr}{tl:TE}(hl:PE X l tl):PI X tg l (SE X.K tl):=by
 intro af s σ H R I h;refine cR (hl af s σ H _ I h) λv s1 ⟨x,H1,I1,r1,q1⟩=>?_;obtain⟨a,e,⟨xs,hq⟩,q⟩:=q1;subst e;cases r1
 obtain⟨its,rv,p,hz⟩:=I1.tuple hq;refine wpAny_pyIter_tuple (show s1.heap.IsTuple a its.toArray from p) ?_;refine⟨s1.heap.objs.size,[s1.heap.objs.size],_,_,H1,rfl,I1.kept (t':=s1.toks) λb o e=>vZ _ e,zQ a _,⟨_,vY _ rfl,rfl,rfl⟩,λb hb=>?_,q⟩;have e:b=s1.heap.objs.size:=by simpa using hb
 subst e;exact I1.fpOk (vT _) (I1.hok.fresh (vT _))
theorem Eu {af:List (Addr×Obj)}{σ:St}{H:Hp}{s:Shared}{R:It->Hp->Prop}{E:Value->Shared->Prop}{lo hi:Int}{t u v:Tok}{tk:Nat}(I:Inv X af σ H s)(h1 : -(2 ^ 62)<=lo)(h2:lo<2 ^ 62)(h3 : -(2 ^ 62)<=hi)(h4:hi<2 ^ 62)
  (q:R (RG lo (hi - lo).toNat) H):wpAny (model X.prog X.w) X.A (pyIter (.ref s.heap.objs.size)) (Vb X af σ tg R) E { s with heap:=s.heap.push { cls:=.type "range",data:=.fields #[.int lo t,.int hi u,.int 1 v] },toks:=tk }:=by
 refine wpAny_pyIter_range (IsRange.new ..) (small_one h1 h2 h3 h4) ?_;have I1:Inv X af σ H { s with heap:=s.heap.push { cls:=.type "range",data:=.fields #[.int lo t,.int hi u,.int 1 v] },toks:=tk }:=I.kept λb o e=>vZ _ e;refine⟨(s.heap.push { cls:=.type "range",data:=.fields #[.int lo t,.int hi u,.int 1 v] }).objs.size,[(s.heap.push { cls:=.type "range",data:=.fields #[.int lo t,.int hi u,.int 1 v] }).objs.size],_,_,H,rfl,
  I1.kept (t':=tk) λb o e=>vZ _ e,zR _ lo (hi - lo).toNat,?_,λb hb=>?_,q⟩
 ·have e1:lo+((0:Nat):Int)*1=lo:=by simp
  have e2:(((hi - lo).toNat:Nat):Int) - ((0:Nat):Int)=Builtin.Range.rangeSize lo hi 1:=by rw[rangeSize_one];split<;>omega
  show IsRangeIter _ _ (lo+((0:Nat):Int)*1) ((((hi - lo).toNat:Nat):Int) - ((0:Nat):Int)) 1;rw[e1,e2];exact vY _ rfl
 ·have e:b=(s.heap.push { cls:=.type "range",data:=.fields #[.int lo t,.int hi u,.int 1 v] }).objs.size:=by simpa using hb
  subst e;exact I1.fpOk (vT _) (I1.hok.fresh (vT _))
def Pr (ta:TA):TI:=λσ H R=>ta σ H λvs H1=>∃j:Int,vs=[.int j]/\-(2 ^ 62)<=j/\j<2 ^ 62/\R (RG 0 j.toNat) H1
theorem CJ {a:Expr}{ta:TA}{p pos:Pos}(hg:Gl X "range")(hm:X.mg "range" = none)(ha:PA X [a] ta)(hs:starEach [a] X.env=[(false,eval a X.env)]:=by rfl):PI X tg (.Call (.Name "range" p) [a] [] pos) (Pr ta):=by
 intro af s σ H R I h;refine Call_ (lM I hg hm boot_range (PyProof.Rows.callWith_type1 (cR (ha pos af s σ H _ I h) λus s1 ⟨vs,H1,I1,r1,q1⟩=>?_) hs rfl));obtain⟨j,e,q1,q2,q⟩:=q1;subst e;cases r1 with
 |cons r rr=>
  cases rr
  obtain⟨t,rfl⟩:=r;exact call_range_1 (Eu I1 (by omega) (by omega) q1 q2 (by simpa using q))
def Mk (wi:TI)(g:TG)(tb:TS):TS:=λD σ H=>wi σ H λJ H1=>∃W:Nat->Nat->St->Hp->Prop,(∃m,W 0 m σ H1)/\∀i m σ H,W i m σ H ->
 (J.stop i H/\D.nx σ H)∨(J.go i H/\∃N:St->Hp->Prop,(∀σ' H',N σ' H'->∃m',m'<m/\W (i+1) m' σ' H')/\∀x H',J.yld i H x H'->g x σ H' λσ2 H2=>tb { D with nx:=N,ct:=N,bk:=D.nx } σ2 H2)
def nS (fp:List Addr)(h:Heap):List (Addr×Obj):=fp.filterMap λb=>(h.get? b).map λo=>(b,o)
theorem jB {fp:List Addr}{h:Heap}{b:Addr}{o:Obj}(hb:b∈fp)(e:h.get? b=some o):(b,o)∈nS fp h:=List.mem_filterMap.mpr ⟨b,hb,by rw[e];rfl⟩
theorem CK (hp:p∈nS fp h):p.1∈fp/\h.get? p.1=some p.2:=by
 obtain⟨b,hb,e⟩:=List.mem_filterMap.mp hp;cases q:h.get? b with
 |none=>rw[q]at e;cases e
 |some o=>
  rw[q]at e;have e':(b,o)=p:=vK e;subst e';exact⟨hb,q⟩
theorem Inv.pinned (I:Inv X af σ H s)(hf:∀b∈fp,nR X af H b)(ho:∀b∈fp,∃o,s.heap.get? b=some o/\∀v,o.data≠.cell v):Inv X (af++nS fp s.heap) σ H s :=
 I.pins_of λp hp=>(List.mem_append.mp hp).elim (λz=>I.pin p (mY _ z)) λz=>by
  obtain⟨hb,e⟩:=CK z;obtain⟨f0,f1,f2,_⟩:=hf p.1 hb;obtain⟨o,e',d⟩:=ho p.1 hb;rw[e]at e';cases e';exact⟨e,f0,f1,f2,d⟩
theorem Inv.unpinned (I:Inv X (af++pl) σ H s):Inv X af σ H s:=I.pins_of λp hp=>I.pin p (mY _ (List.mem_append_left _ hp))
theorem Ev {df:Expr}{body:List Stmt}{wi:TI}{g:TG}{tb:TS}{pos:Pos}(hp:PassesOwn (model X.prog X.w) X.A X.env X.xe)(hc:X.calm=true)(hi:PI X tg df wi)(hg:PG X tg g)(hb:ve X body tb)
  (hs:∀x,foldedSetIterable df X.env x=pure x:=by intro _;rfl):PS X (.For tg df body [] pos) (Mk wi g tb):=by
 intro af s σ H D I h;refine wpAny_For (cR (hi af s σ H _ I h) λv s1 h1=>cR h1 λSa s2 h2=>?_) hs;obtain⟨it,fp,tn,J,H2,e,I2,T,Ka,f2,W,⟨m0,w0⟩,Kb⟩:=h2;subst e
 -- what stays true of the iterator's objects through the loop
 have NK:∀ {H':Hp},(∀b∈fp,H' b=none)->∀b∈fp,nR X af H' b:=λhn b hb=>⟨hn b hb,(f2 b hb).2⟩;refine codeAny_forLoop_any (λn s'=>∃i σ' H',Inv X af σ' H' s'/\tn i s'.heap/\(∀b∈fp,H' b=none)/\W i n σ' H') ?_ m0 ⟨0,σ,H2,I2,Ka,λb hb=>(f2 b hb).1,w0⟩;rintro n s3 ⟨i,σ3,H3,I3,VJ,VL,w3⟩;rcases Kb i n σ3 H3 w3 with⟨stop,qn⟩|⟨go,N,hN,step⟩
 ·refine wpAny_passesOwn hp (cR (T.done X rfl rfl rfl hc i af s3 σ3 H3 X.xe I3 (NK VL) VJ stop) λr s4 ⟨hr,I4⟩=>?_);subst hr;exact wpAny_execs_nil ⟨σ3,H3,I4,qn⟩
 ·refine wpAny_passesOwn hp (cR (T.item X rfl rfl rfl hc i af s3 σ3 H3 X.xe I3 (NK VL) VJ go) λr s4 ⟨u,hr,h4⟩=>?_);subst hr;refine wpAny_passesOwn hp (cR h4 λ_ s5 ⟨x,H5,I5,r5,y5,TJ,TK⟩=>?_);have TL:=I5.pinned (NK TK) (T.obj _ _ TJ);refine wpAny_passesOwn hp (cR (hg _ s5 σ3 H5 x u _ TL r5 (step x H5 y5)) λ_ s6 ⟨σ6,H6,I6,q6⟩=>?_);refine wpAny_passesOwn hp (cR (hb _ s6 σ6 H6 _ I6 q6) λf s7 q7=>?_);have again:∀ {σ7:St}{H7:Hp},Inv X (af++nS fp s5.heap) σ7 H7 s7->N σ7 H7->∃m,m<n/\∃i σ' H',Inv X af σ' H' s7/\tn i s7.heap/\(∀b∈fp,H' b=none)/\W i m σ' H':=λ{σ7 H7} I7 n7=>by
   obtain⟨m',hm,w7⟩:=hN σ7 H7 n7;refine⟨m',hm,i+1,σ7,H7,I7.unpinned,T.keep _ _ _ TJ λb hb o e=>(I7.pin (b,o) (mY _ (mY _ (jB hb e)))).1,λb hb=>?_,w7⟩;obtain⟨o,e,d⟩:=T.obj _ _ TJ b hb;exact(I7.pin (b,o) (mY _ (mY _ (jB hb e)))).2.1
  cases f with
  |next=>obtain⟨σ7,H7,I7,n7⟩:=q7;exact again I7 n7
  |cont=>obtain⟨σ7,H7,I7,n7⟩:=q7;exact again I7 n7
  |brk=>obtain⟨σ7,H7,I7,q7⟩:=q7;exact⟨σ7,H7,I7.unpinned,q7⟩
  |ret v=>obtain⟨x7,σ7,H7,I7,r7,q7⟩:=q7;exact⟨x7,σ7,H7,I7.unpinned,r7,q7⟩
end
abbrev R2:=V->V->Hp->VK->Prop
def dP (X:Cx)(f:Value->Value->Sem Value)(r:R2):Prop :=
 ∀(af:List (Addr×Obj))(s:Shared)(σ:St)(H:Hp)(x y:V)(v u:Value)(Q:VK),Inv X af σ H s->aY x v->aY y u->r x y H Q ->
  wpAny (model X.prog X.w) X.A (f v u) (EP X af σ Q) X.xe s
def Ps (X:Cx)(f:Value->Sem Value)(r:V->Hp->VK->Prop):Prop :=
 ∀(af:List (Addr×Obj))(s:Shared)(σ:St)(H:Hp)(x:V)(v:Value)(Q:VK),Inv X af σ H s->aY x v->r x H Q ->
  wpAny (model X.prog X.w) X.A (f v) (EP X af σ Q) X.xe s
def ce (X:Cx)(f:Value)(r:List V->Hp->VK->Prop):Prop :=
 ∀(af:List (Addr×Obj))(s:Shared)(σ:St)(H:Hp)(xs:List V)(us:List Value)(Q:VK),Inv X af σ H s->bf xs us->r xs H Q ->
  wpAny (model X.prog X.w) X.A (call f us) (EP X af σ Q) X.xe s
def RH (r:R2)(ta tb:TE):TE:=λσ H Q=>ta σ H λx H1=>tb σ H1 λy H2=>r x y H2 Q
def WX (r:V->Hp->VK->Prop)(ta:TE):TE:=λσ H Q=>ta σ H λx H1=>r x H1 Q
def rI (C:Int->Int->Prop)(g:Int->Int->V):R2:=λx y H Q=>∃i j,x=.int i/\y=.int j/\C i j/\Q (g i j) H
def Hu (g:Int->Int->V):R2:=λx y H Q=>∃i j,x=.int i/\y=.int j/\Q (g i j) H
def rU (g:Int->V):V->Hp->VK->Prop:=λx H Q=>∃i,x=.int i/\Q (g i) H
section
variable {X:Cx}{a b c:Expr}{ta tb tc:TE}{pos:Pos}
theorem Ml (ha:PE X a ta)(hb:PE X b tb){af:List (Addr×Obj)}{s:Shared}{σ:St}{H:Hp}{R:V->V->Hp->Prop}(I:Inv X af σ H s)
  (h:ta σ H λx H1=>tb σ H1 λy H2=>R x y H2) {Q:Value->Shared->Prop}{f:Value->Value->Sem Value}
  (hf:∀v u s2 x y H2,Inv X af σ H2 s2->aY x v->aY y u->R x y H2->wpAny (model X.prog X.w) X.A (f v u) Q X.xe s2):
  wpAny (model X.prog X.w) X.A (eval a X.env) (λv s₁=>wpAny (model X.prog X.w) X.A (eval b X.env) (λu s₂=>wpAny (model X.prog X.w) X.A (f v u) Q X.xe s₂) X.xe s₁) X.xe s:=by
 refine cR (ha af s σ H _ I h) λv s1 ⟨x,H1,I1,r1,q1⟩=>?_;refine cR (hb af s1 σ H1 _ I1 q1) λu s2 ⟨y,H2,I2,r2,q2⟩=>?_;exact hf v u s2 x y H2 I2 r1 r2 q2
theorem Ky {op:Operator}{r:R2}(ho:dP X (binaryOp op) r)(ha:PE X a ta)(hb:PE X b tb):PE X (.BinOp a op b pos) (RH r ta tb):=by
 intro af s σ H Q I h;exact wpAny_BinOp (Ml ha hb I h λv u s2 x y H2 I2 rx ry q=>ho af s2 σ H2 x y v u Q I2 rx ry q)
theorem Pt {op:UnaryOp}{r:V->Hp->VK->Prop}(ho:Ps X (unaryOp op) r)(ha:PE X a ta):PE X (.UnaryOp op a pos) (WX r ta):=by
 intro af s σ H Q I h;exact UnaryOp_ (cR (ha af s σ H _ I h) λv s1 ⟨x,H1,I1,r1,q1⟩=>ho af s1 σ H1 x v Q I1 r1 q1)
theorem SF {f:Value->Value->Sem Value}{C:Int->Int->Prop}{g:Int->Int->Int}
  (rule:∀(i j:Int)(t u:Tok)(s:Shared)(Q:Value->Shared->Prop)(E:Value->Shared->Prop),C i j->Q (.int (g i j) s.toks) { s with toks:=s.toks+1 }->wpAny (model X.prog X.w) X.A (f (.int i t) (.int j u)) Q E s):
  dP X f (rI C λi j=>.int (g i j)):=by
 intro af s σ H x y v u Q I rx ry h;obtain⟨i,j,rfl,rfl,hc,q⟩:=h;obtain⟨t,rfl⟩:=rx;obtain⟨t',rfl⟩:=ry;exact rule i j t t' s _ _ hc ⟨.int (g i j),H,I.tok _,⟨_,rfl⟩,q⟩
theorem Mm {f:Value->Value->Sem Value}{g:Int->Int->Int}
  (rule:∀(i j:Int)(t u:Tok)(s:Shared)(Q:Value->Shared->Prop)(E:Value->Shared->Prop),Q (.int (g i j) s.toks) { s with toks:=s.toks+1 }->wpAny (model X.prog X.w) X.A (f (.int i t) (.int j u)) Q E s):
  dP X f (Hu λi j=>.int (g i j)):=by
 intro af s σ H x y v u Q I rx ry h;obtain⟨i,j,rfl,rfl,q⟩:=h;obtain⟨t,rfl⟩:=rx;obtain⟨t',rfl⟩:=ry;exact rule i j t t' s _ _ ⟨.int (g i j),H,I.tok _,⟨_,rfl⟩,q⟩
theorem HU {f:Value->Value->Sem Value}{g:Int->Int->Bool}
  (rule:∀(i j:Int)(t u:Tok)(s:Shared)(Q:Value->Shared->Prop)(E:Value->Shared->Prop),Q (.bool (g i j)) s->wpAny (model X.prog X.w) X.A (f (.int i t) (.int j u)) Q E s):
  dP X f (Hu λi j=>.bl (g i j)):=by
 intro af s σ H x y v u Q I rx ry h;obtain⟨i,j,rfl,rfl,q⟩:=h;obtain⟨t,rfl⟩:=rx;obtain⟨t',rfl⟩:=ry;exact rule i j t t' s _ _ ⟨.bl (g i j),H,I,rfl,q⟩
def Pu (i j:Int):Prop:=0<j/\j<1073741824
def HV (i j:Int):Prop:=(-(2 ^ 64)<i/\i<2 ^ 64)∨(-(2 ^ 64)<j/\j<2 ^ 64)
theorem HV.ok (h:HV i j):IntMulOk i j:=by
 rcases h with⟨h1,h2⟩|⟨h1,h2⟩
 ·exact .of_left (intBits_le_64 h1 h2)
 ·exact .of_right (intBits_le_64 h1 h2)
theorem Mn:dP X (binaryOp .Add) (Hu λi j=>.int (i+j)):=Mm λ_ _ _ _ _ _ _ q=>add_int q
theorem Mo:dP X (binaryOp .Sub) (Hu λi j=>.int (i - j)):=Mm λ_ _ _ _ _ _ _ q=>sub_int q
theorem Mp:dP X (binaryOp .Mult) (rI HV λi j=>.int (i*j)):=SF λ_ _ _ _ _ _ _ hc q=>mul_int q hc.ok
theorem HW:dP X (binaryOp .FloorDiv) (rI Pu λi j=>.int (i / j)):=SF λi j _ _ _ _ _ hc q=>by
 have h1:(0:Int)<j:=hc.1;have h2:j<1073741824:=hc.2;exact floordiv_int (by omega) (by rw[Int.fdiv_eq_ediv_of_nonneg i (by omega)];exact q) (.inl (PyProof.noPylong_small (by omega)))
theorem Mq:dP X (binaryOp .Mod) (rI (λ_ j=>0<j) λi j=>.int (i % j)):=SF λi j _ _ _ _ _ hc q=>by
 have h1:(0:Int)<j:=hc;exact mod_int' (by omega) (by rw[Int.fmod_eq_emod_of_nonneg i (by omega)];exact q)
theorem Mr:dP X (binaryOp .BitAnd) (Hu λi j=>.int (Builtin.bitAnd i j)):=Mm λ_ _ _ _ _ _ _ q=>and_int q
theorem WY {f:Value->Sem Value}{g:Int->Int}
  (rule:∀(i:Int)(t:Tok)(s:Shared)(Q:Value->Shared->Prop)(E:Value->Shared->Prop),Q (.int (g i) s.toks) { s with toks:=s.toks+1 }->wpAny (model X.prog X.w) X.A (f (.int i t)) Q E s):
  Ps X f (rU λi=>.int (g i)):=by
 intro af s σ H x v Q I rx h;obtain⟨i,rfl,q⟩:=h;obtain⟨t,rfl⟩:=rx;exact rule i t s _ _ ⟨.int (g i),H,I.tok _,⟨_,rfl⟩,q⟩
theorem Ms:Ps X (unaryOp .USub) (rU λi=>.int (-i)):=WY λ_ _ _ _ _ q=>neg_int q
theorem CL:dP X (binaryOp .Add) (λx y H Q=>∃i k,x=.int i/\y=.bl k/\Q (.int (i+b2i k)) H):=by
 intro af s σ H x y v u Q I rx ry h;obtain⟨i,k,rfl,rfl,q⟩:=h;obtain⟨t,rfl⟩:=rx;cases ry
 exact add_int_bool ⟨.int (i+b2i k),H,I.tok _,⟨_,rfl⟩,q⟩
end
section
variable {X:Cx}{a b c:Expr}{ta tb tc:TE}{pos:Pos}
theorem Pw:dP X (compareOp .Lt) (Hu λi j=>.bl (decide (i<j))):=HU λ_ _ _ _ _ _ _ q=>lt_int q
theorem Px:dP X (compareOp .LtE) (Hu λi j=>.bl (decide (i<=j))):=HU λ_ _ _ _ _ _ _ q=>le_int q
theorem Py:dP X (compareOp .Gt) (Hu λi j=>.bl (decide (j<i))):=HU λ_ _ _ _ _ _ _ q=>gt_int q
theorem Pz:dP X (compareOp .GtE) (Hu λi j=>.bl (decide (j<=i))):=HU λ_ _ _ _ _ _ _ q=>ge_int q
theorem dP.or (h:dP X f r)(h':dP X f r'):dP X f (λx y H Q=>r x y H Q∨r' x y H Q):=by
 intro af s σ H x y v u Q I rx ry q;rcases q with q|q
 ·exact h af s σ H x y v u Q I rx ry q
 ·exact h' af s σ H x y v u Q I rx ry q
theorem SG (b:Expr)(h:op≠.In:=by decide)(h2:op≠.NotIn:=by decide):behindInMarks op b=false:=by
 have e1:(op == CmpOp.In)=false:=by cases op<;>first|rfl|exact absurd rfl h
 have e2:(op == CmpOp.NotIn)=false:=by cases op<;>first|rfl|exact absurd rfl h2
 cases b<;>simp[behindInMarks,e1,e2]
theorem HX (ho:dP X (compareOp op) r)(ha:PE X a ta)(hb:PE X b tb)(hm:behindInMarks op b=false):PE X (.Compare a [op] [b] pos) (RH r ta tb):=by
 intro af s σ H Q I h;exact wpAny_Compare1 (Ml ha hb I h λv u s2 x y H2 I2 rx ry q=>ho af s2 σ H2 x y v u Q I2 rx ry q) hm
def P0 (t:TE):TT:=λσ H Q=>t σ H λx H'=>∃k,x=.bl k/\Q k H'
theorem HY {op:CmpOp}{r:R2}(ho:dP X (compareOp op) r)(ha:PE X a ta)(hb:PE X b tb)(hm:behindInMarks op b=false):PT X (.Compare a [op] [b] pos) (P0 (RH r ta tb)):=by
 intro af s σ H Q I h;refine wpAny_isTrue_Compare1 (cR (ha af s σ H _ I h) λv s1 ⟨x,H1,I1,r1,q1⟩=>cR (hb af s1 σ H1 _ I1 q1) λu s2 ⟨y,H2,I2,r2,q2⟩=>
  cR (ho af s2 σ H2 x y v u _ I2 r1 r2 q2) λc s3 ⟨z,H3,I3,r3,k,e,q3⟩=>?_) hm
 subst e;cases r3
 exact wpAny_truthy_bool ⟨H3,I3,q3⟩
def Ew (r r':R2)(ta tb tc:TE):TE:=λσ H Q=>ta σ H λx H1=>tb σ H1 λy H2=>r x y H2 λz H3=>∃k,z=.bl k /\
 (if k=true then tc σ H3 λw' H4=>r' y w' H4 Q else Q (.bl false) H3)
theorem Ex {op OD:CmpOp}{r r':R2}(ho:dP X (compareOp op) r)(wZ:dP X (compareOp OD) r')(ha:PE X a ta)(hb:PE X b tb)(hc:PE X c tc)
  (hm:lastMarks [op,OD] [b,c]=false:=by with_unfolding_all rfl):PE X (.Compare a [op,OD] [b,c] pos) (Ew r r' ta tb tc):=by
 intro af s σ H Q I h;refine Compare_chain (cR (ha af s σ H _ I h) λv s1 ⟨x,H1,I1,r1,q1⟩=>chain_link (cR (hb af s1 σ H1 _ I1 q1) λu s2 ⟨y,H2,I2,r2,q2⟩=>
  cR (ho af s2 σ H2 x y v u _ I2 r1 r2 q2) λd s3 ⟨z,H3,I3,r3,k,e,q3⟩=>?_)) hm
 subst e;cases r3
 refine wpAny_truthy_bool ?_;cases k with
 |false=>exact ite_ff ⟨.bl false,H3,I3,rfl,q3⟩
 |true=>exact ite_tt (chain_last (cR (hc af s3 σ H3 _ I3 q3) λw' s4 ⟨z',H4,I4,r4,q4⟩=>wZ af s4 σ H4 y z' u w' Q I4 r2 r4 q4))
theorem nU:(sizeLine:Nat)<2 ^ 63:=by rw[sizeLine_eq];decide
theorem zS:dP X (binaryOp .Add) (λx y H Q=>∃i j,x=.str i/\y=.str j/\i.length+j.length<=sizeLine/\Q (.str (i++j)) H):=by
 intro af s σ H x y v u Q I rx ry h;obtain⟨i,j,rfl,rfl,hz,q⟩:=h;obtain⟨t,rfl⟩:=rx;obtain⟨t',rfl⟩:=ry;exact add_str (λt' tk=>⟨.str (i++j),H,I.tok _,⟨_,rfl⟩,q⟩) hz
theorem gY (r:bf [x] us):∃u,us=[u]/\aY x u:=by
 cases r with
 |cons r1 r2=>cases r2;exact⟨_,rfl,r1⟩
theorem Ey (r:bf [x,y] us):∃u w',us=[u,w']/\aY x u/\aY y w':=by
 cases r with
 |cons r1 r2=>
  cases r2 with
  |cons r3 r4=>cases r4;exact⟨_,_,rfl,r1,r3⟩
theorem CM (hc:X.calm=true):ce X (.builtin "max") (λxs H Q=>∃i j,xs=[.int i,.int j]/\Q (.int (if j > i then j else i)) H):=by
 intro af s σ H xs us Q I r h;obtain⟨i,j,rfl,q⟩:=h;obtain⟨u,w',rfl,⟨t,rfl⟩,⟨t',rfl⟩⟩:=Ey r;refine max_two_ints (I.ok.hd hc) λh' tk k=>⟨_,H,I.kept k,?_,q⟩;by_cases hj:j > i
 ·rw[if_pos hj,if_pos hj];exact⟨_,rfl⟩
 ·rw[if_neg hj,if_neg hj];exact⟨_,rfl⟩
theorem CN (hc:X.calm=true):ce X (.builtin "min") (λxs H Q=>∃i j,xs=[.int i,.int j]/\Q (.int (if j<i then j else i)) H):=by
 intro af s σ H xs us Q I r h;obtain⟨i,j,rfl,q⟩:=h;obtain⟨u,w',rfl,⟨t,rfl⟩,⟨t',rfl⟩⟩:=Ey r;refine min_two_ints (I.ok.hd hc) λh' tk k=>⟨_,H,I.kept k,?_,q⟩;by_cases hj:j<i
 ·rw[if_pos hj,if_pos hj];exact⟨_,rfl⟩
 ·rw[if_neg hj,if_neg hj];exact⟨_,rfl⟩
theorem CO:ce X (.type "int") (λxs H Q=>(∃i,xs=[.int i]/\Q (.int i) H)∨∃k,xs=[.bl k]/\Q (.int (if k then 1 else 0)) H):=by
 intro af s σ H xs us Q I r h;rcases h with⟨i,rfl,q⟩|⟨k,rfl,q⟩
 ·obtain⟨u,rfl,t,rfl⟩:=gY r;exact call_int_int ⟨.int i,H,I,⟨_,rfl⟩,q⟩
 ·obtain⟨u,rfl,r1⟩:=gY r;cases r1
  exact call_int_bool ⟨.int (if k then 1 else 0),H,I.tok _,⟨_,rfl⟩,q⟩
end
structure Kc (h:Heap)(x dx C:Addr)(mA:Str->Option Value):Prop where
 obj:h.get? x=some (PySem.W.instObj C dx)
 ns:h.Ns1 dx mA
 ne:dx≠x
theorem CP {h:Heap}{dx:Addr}{mA:Str->Option Value}(n:h.Ns1 dx mA):∃od,h.get? dx=some od/\∀name,PySem.W.lookIn name od=some (mA name):=by
 obtain⟨o,es,ep,ho,hd,hk,_,hm⟩:=n;refine⟨o,ho,λname=>?_⟩;have e:=hm name;unfold nsFind findBy at e;rw[←Array.find?_toList]at e;unfold PySem.W.lookIn;rw[hd];dsimp only;split
 ·rename_i y q;rw[q]at e;exact congrArg some e
 ·rename_i q;rw[q]at e;have a:es.toList.any (·.refKey)=false:=by
   rw[List.any_eq_false];intro y hy;obtain⟨z,t,DU⟩:=hk y (Array.mem_toList_iff.mp hy);simp[DictEntry.refKey,DU]
  have a':¬es.toList.any (·.refKey)=true:=by rw[a];exact uX
  rw[if_neg a'];exact congrArg some e
theorem Kc.look (I:Kc h x dx C mA):∃od,PySem.W.InstAt h x (PySem.W.instObj C dx) C (some od)/\∀name,PySem.W.lookIn name od=some (mA name) :=
 let ⟨od,ho,hl⟩:=CP I.ns
 ⟨od,⟨I.obj,rfl,rfl,ho⟩,hl⟩
section
variable {prog:Program}{w:World}{A:Around}{E:Value->Shared->Prop}{s:Shared}{K:PySem.W.Frag}{x dx C f:Addr}{mA:Str->Option Value}{name:Str}{v:Value}
theorem Ez (X:K.In s.heap)(I:Kc s.heap x dx C mA)(hg:PySem.W.plainGet K C name=true)
  (hf:PySem.W.findIn K (.ref C) name=some (some (.ref f))) (ht:PySem.W.isFn K (.ref f)=true) (hv:mA name=none) (h:Q (.ref f,[.ref x]) s):
  wpAny (model prog w) A (getMethod (.ref x) name pl) Q E s:=by
 obtain⟨od,J,hl⟩:=I.look;exact PySem.W.method_fn X J (PySem.W.plainGet_of hg).1 (PySem.W.plainGet_of hg).2 hf (beq_iff_eq.mp ht) (by show(PySem.W.lookIn name od).map (·.isSome)=some false;rw[hl,hv];rfl) h
theorem P1 (X:K.In s.heap)(hm:PySem.W.makesIn K C=true)
  (hi:PySem.W.findIn K (.ref C) "__init__" = some (some (.ref f))) (hf:PySem.W.typeIn K (.ref f)=some (.type "function"))
  (h:codeAny (model prog w) (A.under (.builtin "type.__call__" ⟨.ref C::vs,kw⟩)) (.call (.ref f) ⟨.ref (s.heap.objs.size+1)::vs,kw⟩) (PySem.W.InitBack (s.heap.objs.size+1) R)
   { s with heap:=(s.heap.push PySem.W.emptyDict).push (PySem.W.instObj C s.heap.objs.size) }):
  codeAny (model prog w) A (.call (.ref C) ⟨vs,kw⟩) R s:=by
 obtain⟨hh,g,d,t,os⟩:=s;exact PySem.W.make_core (PySem.W.makes_of X hm) (PySem.W.looks_findIn X hi) (λself=>PySem.W.bind_fn X self hf) (.inl rfl) h
end
theorem ln.some_of (r:ln (some v) o):∃u,o=some u/\aY v u:=by
 cases o with
 |none=>exact(show False from r).elim
 |some u=>exact⟨u,rfl,r⟩
theorem ln.none_of (r:ln none o):o=none:=by
 cases o with
 |none=>rfl
 |some u=>exact(show False from r).elim
section
variable {P:Program}{w:World}{H H':Hp}{h h':Heap}{a C dx:Addr}{fs XO:List (Str×V)}
theorem Bc (hok:lq P w H h)(e:H a=some (.ins C dx fs)):∃mA,Kc h a dx C mA/\(∀f,ln (fs.lookup f) (mA f))/\PySem.Within mA (fs.map (·.1))/\fs.length<=1000/\H dx=some (.own a):=by
 obtain⟨d,z,ne,ob,mA,n,r,q⟩:=(show bU P w H h a (.ins C dx fs)from hok a _ e);exact⟨mA,⟨ob,n,ne⟩,r,q,z,d⟩
end
structure Cls (K:PySem.W.Frag)(C:Addr):Prop where
 pg:PySem.W.plainGet K C Str.empty=true
 hd:PySem.W.hasDictIn K C=true
 po:PySem.W.plainOver K C=true
 sa:PySem.W.findIn K (.ref C) "__setattr__" = some (some (.builtin "object.__setattr__"))
theorem Cls.get {K:PySem.W.Frag}{C:Addr}(c:Cls K C)(f:Str):PySem.W.plainGet K C f=true:=c.pg
def Mt (K:PySem.W.Frag)(C:Addr)(f:Str):Prop:=PySem.W.findIn K (.ref C) f=some none
structure Meth (K:PySem.W.Frag)(C:Addr)(m:Str)(f:Addr):Prop where
 at_:PySem.W.findIn K (.ref C) m=some (some (.ref f))
 fn:PySem.W.isFn K (.ref f)=true
 kp:PySem.W.keepIn K (.ref f)=true
section
variable {X:Cx}{af:List (Addr×Obj)}{σ:St}{H:Hp}{s:Shared}{a C dx:Addr}{fs:List (Str×V)}{f:Str}{v:V}{A:Around}{E:Value->Shared->Prop}
theorem zT {m:Str}{g:Addr}{pl:Sem Bool}{Q:Value×List Value->Shared->Prop}(I:Inv X af σ H s)(e:H a=some (.ins C dx fs))(c:Cls X.K C)(k:Meth X.K C m g)(l:fs.lookup m=none)
  (h:Q (.ref g,[.ref a]) s):wpAny (model X.prog X.w) A (getMethod (.ref a) m pl) Q E s:=by
 obtain⟨mA,O,r,_,_,_⟩:=Bc I.hok e;have hn:mA m=none:=ln.none_of (by rw[←l];exact r m);exact Ez I.kIn O (c.get m) k.at_ k.fn hn h
theorem Inv.made (I:Inv X af σ H s):Inv X af σ (upd (upd H s.heap.objs.size (.own (s.heap.objs.size+1))) (s.heap.objs.size+1) (.ins C s.heap.objs.size []))
  { s with heap:=(s.heap.push PySem.W.emptyDict).push (PySem.W.instObj C s.heap.objs.size) }:=by
 have e1:(s.heap.push PySem.W.emptyDict).get? s.heap.objs.size=some PySem.W.emptyDict:=vY s.heap rfl;have e2:((s.heap.push PySem.W.emptyDict).push (PySem.W.instObj C s.heap.objs.size)).get? (s.heap.objs.size+1)=some (PySem.W.instObj C s.heap.objs.size):=by
  have:=vY (s.heap.push PySem.W.emptyDict) (o:=PySem.W.instObj C s.heap.objs.size) rfl;rwa [Heap.size_push]at this
 have e3:(s.heap.push PySem.W.emptyDict).Ns s.heap.objs.size (λ_=>none):=⟨PySem.W.emptyDict,#[],_,e1,rfl,(λe he=>absurd he (by simp)),λ_=>rfl⟩;have I1:=I.laid (a:=s.heap.objs.size) (o:=.own (s.heap.objs.size+1)) (h':=s.heap.push PySem.W.emptyDict) (t':=s.toks) (λb u q=>vZ _ q) (vT _) ⟨_,e1⟩;refine I1.laid (a:=s.heap.objs.size+1) (o:=.ins C s.heap.objs.size []) (t':=s.toks) (λb u q=>vZ _ q) (Nat.le_of_eq (Heap.size_push _ _)) ?_;have ne:s.heap.objs.size≠s.heap.objs.size+1:=vS (Nat.lt_succ_self _);refine⟨by rw[aL ne,aH],uN _,ne,e2,λ_=>none,(Heap.Ns1.of_empty e3).at λo q=>vZ _ q,λ_=>True.intro,λy hy=>absurd rfl hy⟩
end
def WZ (K:PySem.W.Frag)(ta:TE)(f:Str):TE:=λσ H Q=>ta σ H λx H1=>∃a C dx fs v,x=.ref a/\H1 a=some (.ins C dx fs)/\Cls K C/\Mt K C f/\fs.lookup f=some v/\Q v H1
section
variable {X:Cx}{o e value:Expr}{f:Str}{pos z7 DV:Pos}{ta tv:TE}
theorem Kz {pl:Sem Bool}{m:Str}{dI:Pos}{args:List Expr}{af:List (Addr×Obj)}{s:Shared}{σ:St}{H:Hp}{Q:Value->Shared->Prop}{te:TE}(he:PE X e te)(I:Inv X af σ H s)
  (h:te σ H λx H1=>∃a C dx fs g,x=.ref a/\H1 a=some (.ins C dx fs)/\Cls X.K C/\Meth X.K C m g/\fs.lookup m=none /\
   ∀s1,Inv X af σ H1 s1->wpAny (model X.prog X.w) X.A (callWith pos (.ref g) [.ref a] (backTo pos (starEach args X.env)) (backToKw pos (keywordEach [] X.env))) Q X.xe s1)
  (ht:eval (.Call (.Attribute e m dI) args [] pos) X.env=(do
   let ov ←eval e X.env
   standAt dI.atName
   let (f,first) ←holding [ov] (getMethod ov m pl)
   callWith pos f first (backTo pos (starEach args X.env)) (backToKw pos (keywordEach [] X.env)))):
  wpAny (model X.prog X.w) X.A (eval (.Call (.Attribute e m dI) args [] pos) X.env) Q X.xe s:=by
 refine PySem.W.methodCall_KW (pl:=pl) (cR (he af s σ H _ I h) λu s1 ⟨x,H1,I1,rx,a,C,dx,fs,g,ex,ea,c,k,l,q⟩=>?_) ht;subst ex;obtain rfl:u=Value.ref a:=rx;exact zT I1 ea c k l (q s1 I1)
end
section
variable {X:Cx}{af:List (Addr×Obj)}{σ:St}{H:Hp}{s:Shared}{A:Around}{E:Value->Shared->Prop}{Q:Value->Shared->Prop}{c:Value}{b:Bool}
inductive TyOf (K:PySem.W.Frag)(H:Hp):V->Value->Prop where
 |non:TyOf K H .non (.type "NoneType")
 |bl (x:Bool):TyOf K H (.bl x) (.type "bool")
 |int (i:Int):TyOf K H (.int i) (.type "int")
 |str (x:Str):TyOf K H (.str x) (.type "str")
 |flt (x:UInt64):TyOf K H (.flt x) (.type "float")
 |lst {a:Addr}{xs:List V}(e:H a=some (.lst xs)):TyOf K H (.ref a) (.type "list")
 |frz {a:Addr}{o:Obj}{xs:List V}(e:H a=some (.frz o (.lst xs))):TyOf K H (.ref a) (.type "list")
 |tup {a:Addr}{xs:List V}(e:H a=some (.tup xs)):TyOf K H (.ref a) (.type "tuple")
 |dK {a:Addr}{aM:List (cD×V)}{ob:Obj}(e:H a=some (.dK aM ob)):TyOf K H (.ref a) (.type "dict")
 |dT {a:Addr}{aM:List (List cD×V)}(e:H a=some (.dT aM)):TyOf K H (.ref a) (.type "dict")
 |ins {a C dx:Addr}{fs:List (Str×V)}(e:H a=some (.ins C dx fs)) (cl:Cls K C) (ha:PySem.W.findIn K (.ref C) "__class__" = some (some (.builtin "object.__class__")))
   (hn:PySem.W.specialIn K (.builtin "object.__class__") "__get__" = some (some (.builtin "getset_descriptor.__get__"))) (VM:PySem.W.takesIn K (.builtin "object.__class__")=some true)
   (hm:PySem.W.mroIn K C (.type "object")=some true):TyOf K H (.ref a) (.ref C)
theorem gR (I:Inv X af σ H s)(rx:aY x u)(ty:TyOf X.K H x t)(e:PySem.W.kitOne X.K t c=some b)(h:∀tk,Q (.bool b) { s with toks:=tk }):
  wpAny (model X.prog X.w) A (call (.builtin "isinstance") [u,c]) Q E s:=by
 cases ty with
 |non=>cases (show u=Value.none from rx);exact kia_one PySem.W.kitx_none I.kIn True.intro e (λz=>nomatch z) h
 |bl y=>cases (show u=Value.bool y from rx);exact kia_one PySem.W.kitx_bool I.kIn True.intro e (λz=>nomatch z) h
 |int i=>obtain⟨t,q⟩:=(show ∃t,u=Value.int i t from rx);cases q;exact kia_one PySem.W.kitx_int I.kIn True.intro e (λz=>nomatch z) h
 |str y=>obtain⟨t,q⟩:=(show ∃t,u=Value.str y t from rx);cases q;exact kia_one PySem.W.kitx_str I.kIn True.intro e (λz=>nomatch z) h
 |flt y=>obtain⟨t,q⟩:=(show ∃t,u=Value.float y t from rx);cases q;exact kia_one PySem.W.kitx_float I.kIn True.intro e (λz=>nomatch z) h
 |@lst a xs ea=>
  cases (show u=Value.ref a from rx)
  obtain⟨_,_,n,_,h1⟩:=(show bU X.prog X.w H s.heap a (.lst xs)from I.hok a _ ea);exact kia_one PySem.W.kitx_list I.kIn ⟨_,h1,rfl⟩ e (λz=>nomatch z) h
 |@frz a ob xs ea=>
  cases (show u=Value.ref a from rx)
  obtain⟨_,_,_,n,_,h1⟩:=(show bU X.prog X.w H s.heap a (.frz ob (.lst xs))from I.hok a _ ea);exact kia_one PySem.W.kitx_list I.kIn ⟨_,h1,rfl⟩ e (λz=>nomatch z) h
 |@tup a xs ea=>
  cases (show u=Value.ref a from rx)
  obtain⟨_,_,_,p⟩:=(show bU X.prog X.w H s.heap a (.tup xs)from I.hok a _ ea);obtain⟨o,h1,h2,_⟩:=p;exact kia_one PySem.W.kitx_tuple I.kIn ⟨o,h1,h2⟩ e (λz=>nomatch z) h
 |@dK a aM ob ea=>
  cases (show u=Value.ref a from rx)
  obtain⟨_,_,_,vs,_,p⟩:=(show bU X.prog X.w H s.heap a (.dK aM ob)from I.hok a _ ea);obtain⟨o,es,ep,h1,h2,_⟩:=p;exact kia_one PySem.W.kitx_dict I.kIn ⟨o,h1,h2.1⟩ e (λz=>nomatch z) h
 |@dT a aM ea=>
  cases (show u=Value.ref a from rx)
  obtain⟨_,_,xs,_,o,es,ep,h1,h2,_⟩:=(show bU X.prog X.w H s.heap a (.dT aM)from I.hok a _ ea);exact kia_one PySem.W.kitx_dict I.kIn ⟨o,h1,h2.1⟩ e (λz=>nomatch z) h
 |@ins a C dx fs ea cl ha hn VM hm=>
  cases (show u=Value.ref a from rx)
  obtain⟨mA,O,_⟩:=Bc I.hok ea;obtain⟨od,J,_⟩:=O.look;exact kia_one (PySem.W.kitx_own (cl.get _) cl.hd ha hn VM hm) I.kIn J e (λz=>nomatch z) h
end
structure eU (k:Nat)(A:Around):Prop where
 hd:A.handled=none
 dp:A.depth+3*k+5<recursionLimit
 un:A.units+16*k+200<cLine
theorem eU.mono (r:eU k A)(h:j<=k):eU j A:=⟨r.hd,by have:=r.dp;omega,by have:=r.un;omega⟩
theorem eU.deeper (r:eU (k+1) A)(env:Env):eU k (A.deeper env) :=
 ⟨r.hd,by have:=r.dp;show A.depth+1+3*k+5<_;omega,by have:=r.un;show A.units+3+16*k+200<_;omega⟩
theorem eU.in1 (r:eU (k+1) A):eU k A.in1 :=
 ⟨r.hd,by have:=r.dp;show A.depth+3*k+5<_;omega,by have:=r.un;show A.units+1+16*k+200<_;omega⟩
theorem eU.depth (r:eU k A):A.depth<recursionLimit:=by have:=r.dp;omega
def P2:TA:=λ_ H Q=>Q [] H
def K0 (ta:TE)(tr:TA):TA:=λσ H Q=>ta σ H λx H1=>tr σ H1 λxs H2=>Q (x::xs) H2
section
variable {X:Cx}{e:Expr}{es:List Expr}{te:TE}{t:TA}{pos:Pos}
theorem km:PA X [] P2:=λ_ _ _ _ H Q I h=>Calls.spliced_nil ⟨[],H,I,.nil,h⟩
theorem iN (ha:PE X e te)(hr:PA X es t)(hs:starEach (e::es) X.env=(false,eval e X.env)::starEach es X.env:=by rfl):PA X (e::es) (K0 te t):=by
 intro pos af s σ H Q I h;rw[hs];show wpAny _ _ (spliced ((false,eval e X.env)::backTo pos (starEach es X.env))) _ _ s;refine Calls.spliced_cons (cR (ha af s σ H _ I h) λu s1 ⟨x,H1,I1,r1,q1⟩=>?_);exact cR (hr pos af s1 σ H1 _ I1 q1) λus s2 ⟨xs,H2,I2,r2,q2⟩=>⟨x::xs,H2,I2,.cons r1 r2,q2⟩
def P4 (t:TA):TE:=λσ H Q=>t σ H λxs H1=>xs.length<=sizeLine/\∀p,H1 p=none->Q (.ref p) (upd H1 p (.tup xs))
def SH (t:TA):TE:=λσ H Q=>t σ H λxs H1=>xs.length<=sizeLine/\∀p,H1 p=none->Q (.ref p) (upd H1 p (.lst xs))
theorem zU {x1}(h:PA X es t):PE X (.Tuple es x1 pos) (P4 t):=by
 intro af s σ H Q I hq;refine wpAny_Tuple_spliced (cR (h pos af s σ H _ I hq) λus s1 ⟨xs,H1,I1,r,z,q⟩=>⟨by rw[←r.length];exact z,?_⟩);have hf:H1 s1.heap.objs.size=none:=I1.hok.fresh (vT _);refine⟨.ref s1.heap.objs.size,upd H1 s1.heap.objs.size (.tup xs),I1.laid (t':=s1.toks) (λb u e=>vZ _ e) (vT _) ?_,rfl,q _ hf⟩;exact⟨z,us,r,⟨_,vY _ rfl,rfl,_,rfl⟩⟩
theorem Mu (h:PA X es t):PE X (.List es pos) (SH t):=by
 intro af s σ H Q I hq;refine wpAny_List_spliced (cR (h pos af s σ H _ I hq) λus s1 ⟨xs,H1,I1,r,z,q⟩=>⟨by rw[←r.length];exact z,?_⟩);have hf:H1 s1.heap.objs.size=none:=I1.hok.fresh (vT _);refine⟨.ref s1.heap.objs.size,upd H1 s1.heap.objs.size (.lst xs),I1.laid (t':=s1.toks) (λb u e=>vZ _ e) (vT _) ?_,rfl,q _ hf⟩;exact⟨z,us,0,r,vY _ rfl⟩
end
abbrev Sp:=List V->Hp->VK->XK->Prop
abbrev K1:=List Env->Hp->Shared->XK->Value->Shared->Prop
structure Env0 (P:Program)(w:World)(K:PySem.W.Frag)(mg:Str->Option Value)(base:Heap)(A:Around)(outer:List Env)(s:Shared)(H:Hp):Prop where
 frames:A.frames=some outer
 mod:Mod K mg base
 bs:∀b o,base.get? b=some o->s.heap.get? b=some o/\H b=none
 bsz:base.objs.size<=s.heap.objs.size
 funs:s.heap.FunFrames base outer
 frf:∀b∈CH outer,H b=none
 hok:lq P w H s.heap
 bare:AllBare s.gens
def CE (outer:List Env)(P:Program)(w:World)(H:Hp)(s:Shared)(Q:VK)(u:Value)(s':Shared):Prop :=
 ∃v H',s'.os=s.os/\AllBare s'.gens/\Un (CH outer) [] H H' s.heap s'.heap/\lq P w H' s'.heap/\aY v u/\Q v H'
def CR (CX:K1)(outer:List Env)(P:Program)(w:World)(H:Hp)(s:Shared)(Q:VK)(E:XK)(r:Result)(s':Shared):Prop :=
 match r with
 |.ok (.ret u)=>CE outer P w H s Q u s'
 |.ok _=>False
 |.error e=>CX outer H s E e s'
structure sS (P:Program)(w:World)(K:PySem.W.Frag)(mg:Str->Option Value)(base:Heap)(CX:K1)(k:Nat)(f:Addr)(fd:FuncData)(ps:List Str)(sp:Sp):Prop where
 len:∀vs H Q E,sp vs H Q E->vs.length=ps.length
 run:∀(A:Around)(outer:List Env)(s:Shared)(H:Hp)(args:Args)(us:List Value)(vs:List V)(Q:VK)(E:XK),eU k A->Env0 P w K mg base A outer s H->BindsTo s fd args (ps.zip us)->bf vs us->sp vs H Q E ->
  codeAny (model P w) A (.call (.ref f) args) (CR CX outer P w H s Q E) s
section
variable {X:Cx}{af:List (Addr×Obj)}{σ:St}{H:Hp}{s s':Shared}
theorem Inv.env0 (I:Inv X af σ H s):Env0 X.prog X.w X.K X.mg X.base X.A X.stack s H :=
 ⟨I.ok.frames,I.ok.mod,I.bs,vR I.ok.bsz I.sz,I.stack,I.stkFree,I.hok,I.bare⟩
theorem Inv.after (I:Inv X af σ H s)(h:CE X.stack X.prog X.w H s Q u s'):EP X af σ Q u s':=by
 obtain⟨v,H',os,bare,un,hok,r,q⟩:=h;obtain⟨hh,g,d,t,TM⟩:=s';obtain rfl:TM=s.os:=os;exact⟨v,H',I.call (h':=hh) (g':=g) (d':=d) (t':=t) (ch:=[]) un hok bare (λb z=>absurd z (by simp)),r,q⟩
end
def P5 (sp:Sp)(DW:List V)(E:XK)(t:TA):TE:=λσ H Q=>t σ H λvs H1=>sp (vs++DW) H1 Q E
def Ve (C:Addr)(m:Str)(sp:Sp)(DW:List V)(E:XK)(ta:TE)(t:TA):TE:=λσ H Q=>ta σ H λx H1=>∃a dx fs,x=.ref a/\H1 a=some (.ins C dx fs)/\fs.lookup m=none /\
 t σ H1 λvs H2=>sp (x::(vs++DW)) H2 Q E
def Vf (C:Addr)(sp:Sp)(DW:List V)(E:XK)(t:TA):TE:=λσ H Q=>t σ H λvs H1=>∀x dx,H1 x=none->H1 dx=none->dx≠x ->
 sp (.ref x::(vs++DW)) (upd (upd H1 dx (.own x)) x (.ins C dx [])) (λv H2=>v=.non/\Q (.ref x) H2) E
def sX (K:PySem.W.Frag)(fd:FuncData)(ps:List Str)(ds:List Value):Prop :=
 ∀(s:Shared)(us:List Value),K.In s.heap->(us++ds).length=ps.length->BindsTo s fd ⟨us,[]⟩ (ps.zip (us++ds))
theorem sX.all {K:PySem.W.Frag}{fd:FuncData}{ps:List Str}(h:∀us:List Value,us.length=ps.length->bindArgs fd ⟨us,[]⟩=pure (ps.zip us)):sX K fd ps []:=λs us _ hl=>by
 rw[uQ]at hl ⊢;exact .of_eq (h us hl)
def zV (CX:K1)(X:Cx)(E:XK):Prop:=∀(af:List (Addr×Obj))(σ:St)(H:Hp)(s:Shared)(e:Value)(s':Shared),Inv X af σ H s->CX X.stack H s E e s'->X.xe e s'
section
variable {X:Cx}{CX:K1}{k:Nat}{f C:Addr}{fd:FuncData}{ps:List Str}{sp:Sp}{DW:List V}{ds:List Value}{E:XK}{x m:Str}{p pos dI:Pos}{e o:Expr}{es:List Expr}{ta:TE}{t:TA}
theorem Mv {af:List (Addr×Obj)}{σ:St}{H:Hp}{s:Shared}{Q:VK}{us:List Value}{vs:List V}(F:sS X.prog X.w X.K X.mg X.base CX k f fd ps sp)(hr:eU k X.A)(hb:sX X.K fd ps ds)(hd:bf DW ds)(hx:zV CX X E)
  (I:Inv X af σ H s) (r:bf vs us) (h:sp (vs++DW) H Q E):wpAny (model X.prog X.w) X.A (call (.ref f) us) (EP X af σ Q) X.xe s:=by
 have r2:bf (vs++DW) (us++ds):=r.append hd;have hl:(us++ds).length=ps.length:=by rw[←r2.length];exact F.len _ _ _ _ h
 refine wpAny_call (codeAny_mono (F.run X.A X.stack s H ⟨us,[]⟩ (us++ds) (vs++DW) Q E hr I.env0 (hb s us I.kIn hl) r2 h) λr s' hq=>?_);cases r with
 |error e=>exact hx af σ H s e s' I hq
 |ok fl=>
  cases fl with
  |ret u=>exact I.after hq
  |next=>exact False.elim hq
  |brk=>exact False.elim hq
  |cont=>exact False.elim hq
theorem HZ (F:sS X.prog X.w X.K X.mg X.base CX k f fd ps sp)(hr:eU k X.A)(hg:Gl X x)(hm:X.mg x=some (.ref f))(hk:PySem.W.keepIn X.K (.ref f)=true)(hb:sX X.K fd ps ds)(hd:bf DW ds)(hx:zV CX X E)
  (ha:PA X (e::es) t) (sk:(x == ("__debug__" : Str))=false:=by decide) (he:starEach (e::es) X.env=(false,eval e X.env)::starEach es X.env:=by rfl) (lx:(backTo pos (starEach es X.env)).any (·.1)=false:=by rfl):
  PE X (.Call (.Name x p) (e::es) [] pos) (P5 sp DW E t):=by
 intro af s σ H Q I h;refine wpAny_Call_Name_kw (vg I hg hm ?_ sk);refine PySem.W.callWith_K (h₀:=X.base) I.ok.mod.kin hk (cR (ha pos af s σ H _ I h) λus s1 ⟨vs,H1,I1,r,q⟩=>⟨I1.kIn,?_⟩) he lx;exact Mv F hr hb hd hx I1 r q
end
structure FnScope (N P:List Str)(sc:Scope):Prop where
 kind:sc.kind=.function
 co:sc.isCoroutine=false
 gen:sc.isGenerator=false
 nd:N.Nodup
 pre:N.take P.length=P
 par:∀x∈P,sc.names.lookup x=some .local∨sc.names.lookup x=some .cell
 nofree:∀y∈sc.names,y.2≠.free
theorem sY {kindOf:Str->Option NameKind}{x:Str}:∀ {binds:List (Str×Value)}{m:Str->Option Value},(∀v,(x,v)∉binds)->bindL kindOf binds m x=m x
 |[],_,_=>rfl
 | (n,v)::r,m,h=>by
  unfold bindL;rw[sY λw hw=>h w (mZ _ hw)];split
  ·have:x≠n:=by rintro rfl;exact h v mX
   simp[this]
  ·rfl
theorem sZ {kindOf:Str->Option NameKind}{x:Str}:∀ {binds:List (Str×Value)}{m:Str->Option Value},(∀v,(x,v)∉binds)->bindC kindOf binds m x=m x
 |[],_,_=>rfl
 | (n,v)::r,m,h=>by
  unfold bindC;rw[sZ λw hw=>h w (mZ _ hw)];split
  ·rfl
  ·have:x≠n:=by rintro rfl;exact h v mX
   simp[this]
theorem tm {kindOf:Str->Option NameKind}{x:Str}{v:Value}:∀ {P:List Str}{vs:List Value}{i:Nat}{m:Str->Option Value},P.Nodup->P[i]? = some x->vs[i]? = some v->kindOf x=some .local ->
  bindL kindOf (P.zip vs) m x=some v
 |[],_,_,_,_,h,_,_=>by simp at h
 |_::_,[],_,_,_,_,h,_=>by simp at h
 |p::P,w::vs,0,m,nd,h1,h2,hk=>by
  simp at h1 h2;subst h1;subst h2;show bindL kindOf ((p,w)::P.zip vs) m p=_;unfold bindL;rw[sY λv hv=>(List.nodup_cons.mp nd).1 (List.of_mem_zip hv).1,if_pos hk];simp
 |p::P,w::vs,i+1,m,nd,h1,h2,hk=>by
  show bindL kindOf ((p,w)::P.zip vs) m x=_;unfold bindL;exact tm (i:=i) (List.nodup_cons.mp nd).2 (by simpa using h1) (by simpa using h2) hk
theorem tp {kindOf:Str->Option NameKind}{x:Str}{v:Value}:∀ {P:List Str}{vs:List Value}{i:Nat}{m:Str->Option Value},P.Nodup->P[i]? = some x->vs[i]? = some v->kindOf x≠some .local ->
  bindC kindOf (P.zip vs) m x=some v
 |[],_,_,_,_,h,_,_=>by simp at h
 |_::_,[],_,_,_,_,h,_=>by simp at h
 |p::P,w::vs,0,m,nd,h1,h2,hk=>by
  simp at h1 h2;subst h1;subst h2;show bindC kindOf ((p,w)::P.zip vs) m p=_;unfold bindC;rw[sZ λv hv=>(List.nodup_cons.mp nd).1 (List.of_mem_zip hv).1,if_neg hk];simp
 |p::P,w::vs,i+1,m,nd,h1,h2,hk=>by
  show bindC kindOf ((p,w)::P.zip vs) m x=_;unfold bindC;exact tp (i:=i) (List.nodup_cons.mp nd).2 (by simpa using h1) (by simpa using h2) hk
noncomputable def jU (N:List Str)(vs:List V):St:=vs.map some++List.replicate (N.length - vs.length) none
noncomputable def p6 (CX:K1)(P:Program)(w:World)(K:PySem.W.Frag)(mg:Str->Option Value)(base:Heap)(N:List Str)(qual:Str)(scope:Scope)(f:Addr)(cd:Value)(A:Around)(outer:List Env)(s:Shared)(H:Hp)(E:XK):Cx where
 prog:=P
 w:=w
 K:=K
 mg:=mg
 base:=base
 A:=A.deeper (envOfC qual scope s.heap.objs.size f cd)
 N:=N
 s₀:=s
 H₀:=H
 env:=envOfC qual scope s.heap.objs.size f cd
 outer:=outer
 stack:=envOfC qual scope s.heap.objs.size f cd::outer
 ex:=[]
 calm:=true
 fn:=λ_=>true
 pn:=[]
 xe:=λe s'=>wpAny (model P w) (A.deeper (envOfC qual scope s.heap.objs.size f cd)) (leaving (envOfC qual scope s.heap.objs.size f cd) e) (λ_ sT=>CX outer H s E e sT) (λe' sT=>CX outer H s E e' sT) s'
theorem xy {sc:Scope}{n:Nat}{x:Str}(h:sc.names.lookup x=some .cell):∃c,(cellsFrom n sc.names []).lookup x=some c:=by
 have q:=PySem.W.cellsFrom_some sc.names n [] (.inl h);exact uU q
theorem CQ {CX:K1}{P:Program}{w:World}{K:PySem.W.Frag}{mg:Str->Option Value}{base:Heap}{N ps:List Str}{qual:Str}{scope:Scope}{f:Addr}{cd:Value}{A:Around}{outer:List Env}{s s1:Shared}{H:Hp}{E:XK}{us:List Value}{vs:List V}
  (S:FnScope N ps scope) (hd:A.handled=none) (e0:Env0 P w K mg base A outer s H) (hl:vs.length=ps.length) (r:bf vs us)
  (x:InCallC s s.heap.objs.size (bindL (envOfC qual scope s.heap.objs.size f cd).kindOf (ps.zip us) λ_=>none) (cellsFrom (s.heap.objs.size+1) scope.names []) (bindC (envOfC qual scope s.heap.objs.size f cd).kindOf (ps.zip us) λ_=>none) s1):
  Inv (p6 CX P w K mg base N qual scope f cd A outer s H E) [] (jU N vs) H s1:=by
 have lx:ps.length<=N.length:=by have:=congrArg List.length S.pre;rw[List.length_take]at this;omega
 obtain⟨h1,tk,rfl,hk⟩:=x.done;have Kd:∀b:Addr,b∉(p6 CX P w K mg base N qual scope f cd A outer s H E).ex:=λb z=>absurd (show b∈([]:List Addr)from z) (by simp);refine⟨⟨e0.mod,S.kind,rfl,rfl,vT _,λy z c h1 h2=>?_,λy hy=>?_,λy c _ h=>?_,λ_=>hd,Around.frames_deeper e0.frames,.inr ⟨rfl,rfl⟩,λb z=>absurd z (Kd b),e0.bs,e0.bsz,λb _ _=>Kd b,λb z=>absurd z (Kd b),e0.funs,e0.frf⟩,
  rfl,e0.bare,Un.kept hk,⟨_,x.toInCall.ns,λi y v h1 h2 h3=>?_⟩,λy c h=>⟨_,x.cell y c h⟩,e0.hok.fresh (vT _),λy c h=>?_,λp hp=>absurd (show p∈([]:List (Addr×Obj))from hp) (by simp),e0.hok.kept hk,?_⟩
 ·exact name_of_addr x.apart (PySem.mem_of_lookup h1) (PySem.mem_of_lookup h2)
 ·have hy:scope.names.lookup y=some .cell∨scope.names.lookup y=some .free:=hy;rcases hy with hy|hy
  ·exact xy hy
  ·exact absurd rfl (S.nofree _ (PySem.mem_of_lookup hy))
 ·exact Nat.le_of_lt (x.above y c (PySem.mem_of_lookup h))
 ·have hi:i<vs.length:=by
   unfold jU at h2;by_cases hi:i<vs.length
   ·exact hi
   ·rw[List.getElem?_append_right (by simpa using hi)]at h2;rw[List.getElem?_replicate]at h2;split at h2<;>cases h2
  have ha:vs[i]? = some v:=by
   unfold jU at h2;rw[List.getElem?_append_left (by simpa using hi),vA]at h2;cases e:vs[i]? with
   |none=>rw[e]at h2;cases h2
   |some a=>rw[e]at h2;cases h2;rfl
  obtain⟨u,hu,rv⟩:=r.get ha;have hp:ps[i]? = some y:=by
   rw[←S.pre,List.getElem?_take_of_lt (by omega)];exact h1
  have VN:ps.Nodup:=by rw[←S.pre];exact S.nd.sublist (List.take_sublist _ _)
  refine⟨u,rv,?_⟩;rcases S.par y (vL hp)with k|k
  ·exact .inl ⟨k,tm VN hp hu k⟩
  ·obtain⟨c,e⟩:=xy (n:=s.heap.objs.size+1) k;refine .inr ⟨.inl k,c,e,?_⟩;have q:=x.cell y c e;rw[tp VN hp hu (by show scope.names.lookup y≠_;rw[k];decide)]at q;exact q
 ·exact e0.hok.fresh (Nat.le_of_lt (x.above y c (PySem.mem_of_lookup h)))
 ·unfold jU;show _=N.length;rw[uZ,vI,List.length_replicate];omega
theorem K2 {CX:K1}{P:Program}{w:World}{K:PySem.W.Frag}{mg:Str->Option Value}{base:Heap}{k:Nat}{f:Addr}{name qual:Str}{params:Arguments}{body:List Stmt}{scope:Scope}{dV kV doc pm eO ct oc:Value}{an od:Option Addr}
  {p4:Array (Option Value)}{N ps:List Str}{sp:Sp}(lk:K.lookup f=some ⟨oc,od,.func (fnOf name qual params body scope dV kV doc pm an eO ct),p4⟩) (jA:PySem.W.codeIn K eO qual=true) (S:FnScope N ps scope)
  (len:∀vs H Q E,sp vs H Q E->vs.length=ps.length)
  (GX:∀(A:Around)(outer:List Env)(s:Shared)(H:Hp)(vs:List V)(Q:VK)(E:XK),eU k (A.deeper (envOfC qual scope s.heap.objs.size f eO))->sp vs H Q E ->
   ∃t,ve (p6 CX P w K mg base N qual scope f eO A outer s H E) body t/\t { nx:=λ_ H'=>Q .non H',rt:=Q } (jU N vs) H):
  sS P w K mg base CX (k+1) f (fnOf name qual params body scope dV kV doc pm an eO ct) ps sp:=by
 refine⟨len,λA outer s H args us vs Q E hr e0 hb r OE=>?_⟩;have hl:=len _ _ _ _ OE;have KX:K.In s.heap:=e0.mod.kin.keeps λb o e=>(e0.bs b o e).1;have XQ:s.heap.NoLimit:=e0.mod.nolimit.keeps λb o e=>(e0.bs b o e).1;have QD:∀y∈ps.zip us,scope.names.lookup y.1=some .local∨(scope.names.lookup y.1=some .cell/\((cellsFrom (s.heap.objs.size+1) scope.names []).lookup y.1).isSome=true):=λ⟨n,v⟩ hy=>by
  rcases S.par n (List.of_mem_zip hy).1 with q|q
  ·exact .inl q
  ·exact .inr ⟨q,PySem.W.cellsFrom_some _ _ _ (.inl q)⟩
 refine codeAny_call_function hr.depth (KX _ _ lk) rfl S.co S.gen rfl (PySem.W.codeRec_of KX jA) (hb _ _ _ _ ?_);refine wpAny_newFunctionEnv_cells S.kind QD λenv he s1 x=>?_;subst he;refine⟨XQ.keeps x.toInCall.keep,codeAny_func ?_⟩;obtain⟨t,ht,hq⟩:=GX A outer s H vs Q E (hr.deeper _) OE;have I:Inv (p6 CX P w K mg base N qual scope f eO A outer s H E) [] (jU N vs) H s1:=CQ S hr.hd e0 hl r x;refine wpAny_mono (ht [] s1 (jU N vs) H _ I hq) (λfl s' hs=>?_) λe s' hs=>hs;have lm:∀ {σ':St}{H':Hp}{v:V}{u:Value},Inv (p6 CX P w K mg base N qual scope f eO A outer s H E) [] σ' H' s'->aY v u->Q v H'->CE outer P w H s Q u s' :=
  λ{σ' H' v u} J rv q=>⟨v,H',J.os,J.bare,J.base,J.hok,rv,q⟩
 cases fl with
 |ret u=>
  obtain⟨v,σ',H',J,rv,q⟩:=hs;exact lm J rv q
 |next=>
  obtain⟨σ',H',J,q⟩:=hs;exact lm (v:=V.non) (u:=Value.none) J rfl q
 |brk=>
  obtain⟨_,_,_,q⟩:=hs;exact False.elim q
 |cont=>
  obtain⟨_,_,_,q⟩:=hs;exact False.elim q
section
variable {X:Cx}{x:Str}{p pos:Pos}{e:Expr}{es:List Expr}{t:TA}{id T:String}{r:List V->Hp->VK->Prop}
def Vg (r:List V->Hp->VK->Prop)(t:TA):TE:=λσ H Q=>t σ H λvs H1=>r vs H1 Q
theorem xz (hc:ce X (.builtin id) r)(hg:Gl X x)(hm:X.mg x=none)(hv:bootBuiltins x=some (.builtin id))(ha:PA X (e::es) t)(hn:x ≠ "__name__":=by decide)(sk:(x == ("__debug__" : Str))=false:=by decide)
  (he:starEach (e::es) X.env=(false,eval e X.env)::starEach es X.env:=by rfl) (lx:(backTo pos (starEach es X.env)).any (·.1)=false:=by rfl):PE X (.Call (.Name x p) (e::es) [] pos) (Vg r t):=by
 intro af s σ H Q I h;refine wpAny_Call_Name_kw (lM I hg hm hv ?_ hn sk);exact PyProof.Rows.callWith_builtin1 (cR (ha pos af s σ H _ I h) λus s1 ⟨vs,H1,I1,r1,q1⟩=>hc af s1 σ H1 vs us Q I1 r1 q1) he lx
theorem tq (hc:ce X (.type T) r)(hg:Gl X x)(hm:X.mg x=none)(hv:bootBuiltins x=some (.type T))(ha:PA X (e::es) t)(hn:x ≠ "__name__":=by decide)(sk:(x == ("__debug__" : Str))=false:=by decide)
  (he:starEach (e::es) X.env=(false,eval e X.env)::starEach es X.env:=by rfl) (lx:(backTo pos (starEach es X.env)).any (·.1)=false:=by rfl):PE X (.Call (.Name x p) (e::es) [] pos) (Vg r t):=by
 intro af s σ H Q I h;refine wpAny_Call_Name_kw (lM I hg hm hv ?_ hn sk);exact PyProof.Rows.callWith_type1 (cR (ha pos af s σ H _ I h) λus s1 ⟨vs,H1,I1,r1,q1⟩=>hc af s1 σ H1 vs us Q I1 r1 q1) he lx
end
end L2
namespace HT
open PySem PyProof.Rows
section
open PySem.SeqAt
open PySem.AutoSeq1 (wpAny_loadPart')
open PySem.MeetsSeq PySem.MeetsSeq2 PySem.MeetsSeq3
end
section
variable {prog:Program}{w:World}{A:Around}{E:Value->Shared->Prop}{s:Shared}
theorem Ia (ht:IsTup s.heap t vs.toArray)(hb:IsTup s.heap b ws.toArray)(hv:vs≠[])
  (h1:ws=[]->Q (.ref t) s) (h2:ws≠[]->Q (.ref s.heap.objs.size) { s with heap:=s.heap.push { cls:=.type "tuple",data:=.seq (vs++ws).toArray } })
  (hsz:vs.length+ws.length<=sizeLine):wpAny (model prog w) A (binaryOp .Add (.ref t) (.ref b)) Q E s:=by
 obtain⟨⟨cls,dd,data,sl⟩,ho,hc,n,hd⟩:=id ht;obtain⟨⟨TN,NL,data2,Sc⟩,Ke,xl,n2,QE⟩:=id hb;simp only at hc hd xl QE;subst hc hd xl QE;have e:vs.toArray++ws.toArray=(vs++ws).toArray:=by simp
 by_cases hw:ws=[]
 ·exact concat_meets ⟨_,ho,rfl⟩ ⟨_,Ke,rfl⟩ noFill_tuple_add seq_tuple_add PySem.F.slot_tuple_add PySem.F.entry_tuple_add (PySem.F.args_tuple_add_2 _ _)
   (tuple_addW1 t b vs.toArray ws.toArray n n2 dd NL sl Sc (by simpa using hv) (by simp[hw])) ⟨ho,Ke,h1 hw⟩
 ·refine concat_meets ⟨_,ho,rfl⟩ ⟨_,Ke,rfl⟩ noFill_tuple_add seq_tuple_add PySem.F.slot_tuple_add PySem.F.entry_tuple_add (PySem.F.args_tuple_add_2 _ _)
   (tuple_addW2 t b vs.toArray ws.toArray n n2 dd NL sl Sc (by simpa using hv) (by simpa using hw) (by rw[vH,vH];exact hsz)) ⟨ho,Ke,?_⟩
  rw[e];exact h2 hw
noncomputable def eC (n d:Nat):Option Int->Nat
 |none=>d
 |some v=>if v<0 then (v+(n:Int)).toNat else min v.toNat n
theorem Mw (n d:Nat)(hd:d<=n)(o:Option Int):eC n d o<=n:=by
 cases o with
 |none=>exact hd
 |some v=>
  show(if v<0 then (v+(n:Int)).toNat else min v.toNat n)<=n;by_cases hv:v<0
  ·rw[if_pos hv];omega
  ·rw[if_neg hv];exact Nat.min_le_right _ _
theorem Bd (v:Int)(n d:Nat):(if v<0 then max (v+(n:Int)) 0 else min v (n:Int))=((eC n d (some v):Nat):Int):=by
 show(if v<0 then max (v+(n:Int)) 0 else min v (n:Int))=(((if v<0 then (v+(n:Int)).toNat else min v.toNat n):Nat):Int);by_cases hv:v<0
 ·simp only[if_pos hv];omega
 ·simp only[if_neg hv];omega
theorem zW (lo hi:Option Int)(n:Nat):Builtin.Slice.sliceAdjust lo hi 1 (n:Int)=(((eC n 0 lo:Nat):Int),((eC n n hi:Nat):Int)):=by
 have h1:¬((1:Int)<0):=by omega
 unfold Builtin.Slice.sliceAdjust;simp only[h1,if_false];refine Prod.ext ?_ ?_
 ·cases lo with
  |none=>rfl
  |some v=>exact Bd v n 0
 ·cases hi with
  |none=>rfl
  |some v=>exact Bd v n n
theorem zX (i j:Nat):Builtin.Slice.slicePlaces (i:Int) (j:Int) 1=j - i:=by
 unfold Builtin.Slice.slicePlaces;have h1:(1:Int) > 0:=by omega
 simp only[h1,if_true,Int.ediv_one];split<;>omega
theorem pW (p:IsPart v o)(h:Q o s):wpAny (model prog w) A (Builtin.Slice.slicePartIndex v) Q E s:=by
 cases p with
 |none=>exact slicePart_none h
 |int i t=>exact slicePart_int h
theorem jo {sl:Addr}{vl vu:Value}{lo hi:Option Int}{n:Nat}{Q:Int×Int×Nat->Shared->Prop}(hs:s.heap.IsSliceOf sl vl vu .none)(pl:IsPart vl lo)(pu:IsPart vu hi)
  (h:Q (((eC n 0 lo:Nat):Int),1,eC n n hi - eC n 0 lo) s):wpAny (model prog w) A (Builtin.Slice.sliceApplied (.ref sl) (pure (n:Int))) Q E s:=by
 obtain⟨os,GY,xm,NM⟩:=id hs;unfold Builtin.Slice.sliceApplied Builtin.Slice.sliceFields;refine wX (wX (wpAny_field GY NM (x:=vl) rfl (wX (wpAny_field GY NM (x:=vu) rfl (wX (wpAny_field GY NM (x:=.none) rfl (wY ?_)))))));refine wX (slicePart_none ?_);show wpAny _ _ (if((1:Int) == 0)=true then _ else _) _ _ s;rw[if_neg (by decide)];refine wX (pW pl (wX (pW pu (wX (wY ?_)))));show wpAny _ _ (match Builtin.Slice.sliceAdjust lo hi 1 (n:Int) with|(lo,hi)=>pure (lo,(1:Int),Builtin.Slice.slicePlaces lo hi 1)) _ _ s;rw[zW lo hi n];show wpAny _ _ (pure (((eC n 0 lo:Nat):Int),(1:Int),Builtin.Slice.slicePlaces ((eC n 0 lo:Nat):Int) ((eC n n hi:Nat):Int) 1)) _ _ s;rw[zX];exact wY h
theorem E1 (xs:Array Value)(i k:Nat):((List.range k).filterMap λ(m:Nat)=>xs[((i:Int)+(m:Int)*1).toNat]?).toArray=((xs.toList.drop i).take k).toArray:=by
 have e:(λ(m:Nat)=>xs[((i:Int)+(m:Int)*1).toNat]?)=λm=>xs[i+m]?:=by
  funext m;have:((i:Int)+(m:Int)*1).toNat=i+m:=by omega
  rw[this]
 rw[e];have:=pick_run xs i k;rw[List.filterMap_map]at this;have e2:((λx=>xs[x]?) ∘ λx=>i+x)=λm=>xs[i+m]?:=rfl;rw[e2]at this;rw[this]
theorem mo {t sl:Addr}{items:Array Value}{vl vu:Value}{lo hi:Option Int}{Q:Value->Shared->Prop}(ht:IsTup s.heap t items)(hs:s.heap.IsSliceOf sl vl vu .none)(pl:IsPart vl lo)(pu:IsPart vu hi)
  (hw:¬(eC items.size 0 lo=0/\eC items.size items.size hi=items.size))
  (h:Q (.ref s.heap.objs.size) { s with heap:=s.heap.push { cls:=.type "tuple",data:=.seq ((items.toList.drop (eC items.size 0 lo)).take (eC items.size items.size hi - eC items.size 0 lo)).toArray } })
  (hsz:items.size<=sizeLine):wpAny (model prog w) A (getItem (.ref t) (.ref sl)) Q E s:=by
 have C6:sizeOk (.seq ((items.toList.drop (eC items.size 0 lo)).take (eC items.size items.size hi - eC items.size 0 lo)).toArray):=by
  show((items.toList.drop (eC items.size 0 lo)).take (eC items.size items.size hi - eC items.size 0 lo)).toArray.size<=sizeLine
  rw[vH,List.length_take,List.length_drop,vG]
  omega
 have hj:eC items.size items.size hi<=items.size:=Mw _ _ (vT _) hi
 obtain⟨os,GY,xm,NM⟩:=id hs
 have XR:s.TypeIs (.ref sl) "slice":=⟨os,GY,xm⟩
 unfold getItem
 try with_reducible refine wpAny_holding ?_
 first|refine wX (wY ?_)|skip
 refine wX (wpAny_sequenceKey ht.typeIs (by decide) ?_)
 refine wX (wpAny_callSpecial?_slot (name:=Str.ofString "__getitem__") ht.typeIs PyProof.Rows.slot_tuple_getitem
  (wpAny_call_entry PyProof.Rows.slot_tuple_getitem ht.typeIs entry_tuple_getitem ?_ (args_tuple_getitem _ _)))
 show wpAny _ _ (Builtin.Tuple.tupleItemsOf (.ref t)>>=_) _ _ s
 refine wX (tupleItemsOf_ ht ?_)
 refine wX (wpAny_typeOf XR ?_)
 rw[if_pos (by decide)]
 refine wX (jo hs pl pu ?_)
 have OF:¬((((eC items.size 0 lo:Nat):Int) == 0 && (1:Int) == 1 && (eC items.size items.size hi - eC items.size 0 lo) == items.size)=true):=by
  intro q
  rw[vC,vC]at q
  have q1:((eC items.size 0 lo:Nat):Int)=0:=eq_of_beq q.1.1
  have q2:eC items.size items.size hi - eC items.size 0 lo=items.size:=eq_of_beq q.2
  exact hw ⟨by omega,by omega⟩
 show wpAny _ _ (if(((eC items.size 0 lo:Nat):Int) == 0 && (1:Int) == 1 && (eC items.size items.size hi - eC items.size 0 lo) == items.size)=true then _ else _) _ _ s
 rw[if_neg OF,E1]
 first
  |exact wX (m:=Builtin.Tuple.tupleExact _) (wpAny_newObj_type (wY ⟨_,rfl,wY h⟩) C6)
  |exact wX (m:=Builtin.Tuple.tupleExact _) (wpAny_newObj_type (wX (wY (wY ⟨_,rfl,wY h⟩))) C6)
  |exact wX (wX (m:=Builtin.Tuple.tupleExact _) (wpAny_newObj_type (wY (wY ⟨_,rfl,wY h⟩)) C6))
  |exact wX (wX (m:=Builtin.Tuple.tupleExact _) (wpAny_newObj_type (wY ⟨_,rfl,wY h⟩) C6))
end
end HT
namespace L2
open PySem PySem.Spec PyProof.Rows
abbrev TO:=St->Hp->(Option Int->Hp->Prop)->Prop
def PO (X:Cx)(e:Option Expr)(t:TO):Prop :=
 ∀(af:List (Addr×Obj))(s:Shared)(σ:St)(H:Hp)(Q:Option Int->Hp->Prop),Inv X af σ H s->t σ H Q ->
  wpAny (model X.prog X.w) X.A (evalPart e X.env) (λu s'=>∃o H',Inv X af σ H' s'/\IsPart u o/\Q o H') X.xe s
def Ib:TO:=λ_ H Q=>Q none H
def P6 (t:TE):TO:=λσ H Q=>t σ H λx H1=>∃i,x=.int i/\Q (some i) H1
section
variable {X:Cx}{e:Expr}{te:TE}{lo hi:Option Expr}{tl th:TO}{pos p2:Pos}
theorem Ic:PO X none Ib:=by
 intro af s σ H Q I h;rw[evalPart_none];exact wY ⟨none,H,I,.none,h⟩
theorem Ie (h:PE X e te):PO X (some e) (P6 te):=by
 intro af s σ H Q I hw;rw[evalPart_some];refine cR (h af s σ H _ I hw) λu s1 ⟨x,H1,I1,r1,q1⟩=>?_;obtain⟨i,rfl,q⟩:=q1;obtain⟨t,rfl⟩:=r1;exact⟨some i,H1,I1,.int i t,q⟩
def Ef (X:Cx)(r:V->Option Int->Option Int->Hp->VK->Prop):Prop :=
 ∀(af:List (Addr×Obj))(s:Shared)(σ:St)(H:Hp)(x:V)(v vl vu:Value)(lo hi:Option Int)(sl:Addr)(Q:VK),Inv X af σ H s->aY x v->s.heap.IsSliceOf sl vl vu .none->IsPart vl lo->IsPart vu hi->r x lo hi H Q ->
  ∃T id,typeLookup (.type T) "__getitem__" = pure (some (.builtin id))/\s.TypeIs v T/\wpAny (model X.prog X.w) X.A (getItem v (.ref sl)) (EP X af σ Q) X.xe s
theorem Ef.or (h:Ef X r)(h':Ef X r'):Ef X (λx lo hi H Q=>r x lo hi H Q∨r' x lo hi H Q):=by
 intro af s σ H x v vl vu lo hi sl Q I rx hs pl pu q;rcases q with q|q
 ·exact h af s σ H x v vl vu lo hi sl Q I rx hs pl pu q
 ·exact h' af s σ H x v vl vu lo hi sl Q I rx hs pl pu q
def Xa (r:V->Option Int->Option Int->Hp->VK->Prop)(te:TE)(tl th:TO):TE:=λσ H Q=>te σ H λx H1=>tl σ H1 λl H2=>th σ H2 λu H3=>r x l u H3 Q
theorem E2 (hr:Ef X r)(he:PE X e te)(hl:PO X lo tl)(hu:PO X hi th):PE X (.Subscript e (.Slice lo hi none p2) pos) (Xa r te tl th):=by
 intro af s σ H Q I h;refine Subscript_ (cR (he af s σ H _ I h) λv s1 ⟨x,H1,I1,r1,q1⟩=>?_);refine wpAny_Slice (cR (hl af s1 σ H1 _ I1 q1) λvl s2 ⟨l,H2,I2,pl,q2⟩=>cR (hu af s2 σ H2 _ I2 q2) λvu s3 ⟨u,H3,I3,pu,q3⟩=>?_);rw[evalPart_none];refine wY ?_;have I4:Inv X af σ H3 { s3 with heap:=s3.heap.push { cls:=.type "slice",data:=.fields #[vl,vu,.none] } }:=I3.kept (t':=s3.toks) λb ob q=>vZ _ q;obtain⟨T,id,hT,ht,hg⟩:=hr af { s3 with heap:=s3.heap.push { cls:=.type "slice",data:=.fields #[vl,vu,.none] } } σ H3 x v vl vu l u s3.heap.objs.size Q I4 r1 (Heap.IsSliceOf.new ..) pl pu q3;show wpAny (model X.prog X.w) X.A (subscriptTail e (.Slice lo hi none p2) v (.ref s3.heap.objs.size)) (EP X af σ Q) X.xe { s3 with heap:=s3.heap.push { cls:=.type "slice",data:=.fields #[vl,vu,.none] } };exact tail_any (ops:=[.ref s3.heap.objs.size,v]) ht hT hg (by with_unfolding_all rfl)
def sy (xs:List V)(lo hi:Option Int):List V:=(xs.drop (HT.eC xs.length 0 lo)).take (HT.eC xs.length xs.length hi - HT.eC xs.length 0 lo)
theorem oD (xs:List V)(lo hi:Option Int):(sy xs lo hi).length<=xs.length:=by
 unfold sy;rw[List.length_take,List.length_drop];omega
def SI (K:PySem.W.Frag):V->Option Int->Option Int->Hp->VK->Prop:=λx lo hi H Q=>∃a xs,x=.ref a/\jm K H a xs /\
 ¬(HT.eC xs.length 0 lo=0/\HT.eC xs.length xs.length hi=xs.length)/\∀p,H p=none->Q (.ref p) (upd H p (.tup (sy xs lo hi)))
theorem Mx:Ef X (SI X.K):=by
 intro af s σ H x v vl vu lo hi sl Q I rx hs pl pu h;obtain⟨a,xs,rfl,hx,hw,q⟩:=h;cases rx
 obtain⟨its,r,ht,hz⟩:=I.tuple hx;have bR:its.toArray.size=xs.length:=by rw[vH];exact r.length.symm
 refine⟨"tuple",_,PyProof.Rows.slot_tuple_getitem.lookup,ht.typeIs,?_⟩;refine HT.mo ht hs pl pu (by rw[bR];exact hw) ?_ (by rw[bR];exact hz);rw[bR];refine⟨.ref s.heap.objs.size,_,I.laid (t':=s.toks) (o:=.tup (sy xs lo hi)) (λb ob q=>vZ _ q) (vT _) ?_,rfl,q _ (I.hok.fresh (vT _))⟩;exact⟨vR (oD xs lo hi) hz,_,(r.drop (HT.eC xs.length 0 lo)).take (HT.eC xs.length xs.length hi - HT.eC xs.length 0 lo),IsTup.new _ _⟩
def P7 (K:PySem.W.Frag):R2:=λx y H Q=>∃a b xs ys,x=.ref a/\y=.ref b/\jm K H a xs/\jm K H b ys/\xs≠[]/\xs.length+ys.length<=sizeLine /\
 (ys=[]->Q (.ref a) H)/\(ys≠[]->∀p,H p=none->Q (.ref p) (upd H p (.tup (xs++ys))))
theorem bf.nil_iff (r:bf xs us):us=[]↔xs=[]:=by
 cases r with
 |nil=>simp
 |cons _ _=>simp
theorem Ig:dP X (binaryOp .Add) (P7 X.K):=by
 intro af s σ H x y v u Q I rx ry h;obtain⟨a,b,xs,ys,rfl,rfl,ha,hb,hx,hz,q1,q2⟩:=h;cases rx
 cases ry
 obtain⟨its,r1,p1,_⟩:=I.tuple ha;obtain⟨z8,r2,p2,_⟩:=I.tuple hb;refine HT.Ia p1 p2 (λz=>hx (r1.nil_iff.mp z)) (λz=>⟨.ref a,H,I,rfl,q1 (r2.nil_iff.mp z)⟩) (λz=>?_) (by rw[←r1.length,←r2.length];exact hz);refine⟨.ref s.heap.objs.size,_,I.laid (t':=s.toks) (o:=.tup (xs++ys)) (λb ob q=>vZ _ q) (vT _) ?_,rfl,q2 (λw=>z (r2.nil_iff.mpr w)) _ (I.hok.fresh (vT _))⟩;exact⟨by rw[uZ];exact hz,_,r1.append r2,IsTup.new _ _⟩
end
def CS (n:Nat)(i:Int):Option Nat:=if 0<=i then (if i<n then some i.toNat else none)else if -(n:Int)<=i then some (i+n).toNat else none
def oE {α:Type}(xs:List α)(i:Int):Option α:=(CS xs.length i).bind λj=>xs[j]?
theorem Be (h:CS n i=some j):seqIndex? i n=some j/\j<n/\-(n:Int)<=i/\i<n:=by
 unfold CS at h;by_cases h0:0<=i
 ·rw[if_pos h0]at h;by_cases h1:i<n
  ·rw[if_pos h1]at h;have e:i.toNat=j:=vK h;exact⟨by rw[seqIndex_of h0 h1,e],by omega,by omega,h1⟩
  ·rw[if_neg h1]at h;cases h
 ·rw[if_neg h0]at h;by_cases h1 : -(n:Int)<=i
  ·rw[if_pos h1]at h;have e:(i+n).toNat=j:=vK h;exact⟨by rw[seqIndex_neg (by omega) h1,e],by omega,h1,by omega⟩
  ·rw[if_neg h1]at h;cases h
theorem vj {α:Type}{xs:List α}{i:Int}{v:α}(h:oE xs i=some v):∃j,seqIndex? i xs.length=some j/\xs[j]? = some v/\j<xs.length/\-(xs.length:Int)<=i/\i<xs.length:=by
 unfold oE at h;cases e:CS xs.length i with
 |none=>rw[e]at h;cases h
 |some j=>
  rw[e]at h;obtain⟨h1,h2,h3,h4⟩:=Be e;exact⟨j,h1,h,h2,h3,h4⟩
theorem Ih {α:Type}{xs:List α}{j:Nat}{v:α}(h:xs[j]? = some v):oE xs (j:Int)=some v:=by
 have hj:j<xs.length:=(vV h).1;have e:CS xs.length (j:Int)=some j:=by
  unfold CS;rw[if_pos (by omega),if_pos (by omega)];simp
 unfold oE;rw[e];exact h
def vk (b:Expr):Prop:=∀o i,subscripted b false o i=operate [o,i] (getItem o i)
def Hv (X:Cx)(r:R2):Prop :=
 ∀(value slice:Expr)(af:List (Addr×Obj))(s:Shared)(σ:St)(H:Hp)(x y:V)(v u:Value)(Q:VK),Inv X af σ H s->aY x v->aY y u->r x y H Q ->
  subscripted slice false v u=operate [v,u] (getItem v u)->wpAny (model X.prog X.w) X.A (subscriptTail value slice v u) (EP X af σ Q) X.xe s
def Ii (X:Cx)(id:String)(r:V->List V->Hp->VK->Prop):Prop :=
 ∀(af:List (Addr×Obj))(s:Shared)(σ:St)(H:Hp)(x:V)(xs:List V)(v:Value)(us:List Value)(Q:VK),Inv X af σ H s->aY x v->bf xs us->r x xs H Q ->
  wpAny (model X.prog X.w) X.A (call (.builtin id) (v::us)) (EP X af σ Q) X.xe s
section
variable {X:Cx}{a b:Expr}{ta tb:TE}{pos:Pos}
theorem Hv.or (h:Hv X r)(h':Hv X r'):Hv X (λx y H Q=>r x y H Q∨r' x y H Q):=by
 intro value slice af s σ H x y v u Q I rx ry q hs;rcases q with q|q
 ·exact h value slice af s σ H x y v u Q I rx ry q hs
 ·exact h' value slice af s σ H x y v u Q I rx ry q hs
theorem Ii.or {id:String}{r r':V->List V->Hp->VK->Prop}(h:Ii X id r)(h':Ii X id r'):Ii X id (λx xs H Q=>r x xs H Q∨r' x xs H Q):=by
 intro af s σ H x xs v us Q I rx rs q;rcases q with q|q
 ·exact h af s σ H x xs v us Q I rx rs q
 ·exact h' af s σ H x xs v us Q I rx rs q
theorem K3 (hr:Hv X r)(ha:PE X a ta)(hb:PE X b tb)(hs:vk b):PE X (.Subscript a b pos) (RH r ta tb):=by
 intro af s σ H Q I h;exact Subscript_ (Ml ha hb I h λv u s2 x y H2 I2 rx ry q=>hr a b af s2 σ H2 x y v u Q I2 rx ry q (hs _ _))
def SJ (K:PySem.W.Frag):R2:=λx y H Q=>∃p xs i v,x=.ref p/\y=.int i/\iM K H p xs/\oE xs i=some v/\Q v H
def SK (K:PySem.W.Frag):R2:=λx y H Q=>∃p xs i v,x=.ref p/\y=.int i/\jm K H p xs/\oE xs i=some v/\Q v H
def SM:R2:=λx y H Q=>∃z i c,x=.str z/\y=.int i/\z.length<=sizeLine/\oE z.cps.toList i=some c/\Q (.str ⟨#[c]⟩) H
theorem Ij:Hv X (SJ X.K):=by
 intro value slice af s σ H x y v u Q I rx ry h hs;obtain⟨p,xs,i,z,rfl,rfl,hq,he,q⟩:=h;cases rx
 obtain⟨t,rfl⟩:=ry;obtain⟨its,r,pl,hz⟩:=I.list hq;obtain⟨j,h1,h2,h3,h4,h5⟩:=vj he;obtain⟨w,ew,GZ⟩:=r.get h2;have hl:=r.length;have hn:=nU;have lm:EP X af σ Q w s:=⟨z,H,I,GZ,q⟩;by_cases h0:0<=i
 ·have hj:i.toNat=j:=by
   rw[seqIndex_of h0 h5]at h1;exact vK h1
  exact item_listR pl.isList h0 (by omega) (by rw[hj];simpa using ew) lm hs
 ·have hj:(i+(its.toArray.size:Int)).toNat=j:=by
   rw[seqIndex_neg (by omega) h4]at h1;rw[vH,←hl];exact vK h1
  exact subscriptTail_builtinR (x:=w) pl.isList.typeIs slot_list_getitem.lookup
   (wpAny_getItem_list_neg (Q:=λr s'=>r=w/\EP X af σ Q r s') pl.isList (by omega) (by rw[vH]<;>omega) (by omega) (by rw[hj];simpa using ew) ⟨rfl,lm⟩) hs
theorem zY:Hv X (SK X.K):=by
 intro value slice af s σ H x y v u Q I rx ry h hs;obtain⟨p,xs,i,z,rfl,rfl,hq,he,q⟩:=h;cases rx
 obtain⟨t,rfl⟩:=ry;obtain⟨its,r,pl,hz⟩:=I.tuple hq;obtain⟨j,h1,h2,h3,h4,h5⟩:=vj he;obtain⟨w,ew,GZ⟩:=r.get h2;have hl:=r.length;have hn:=nU;have lm:EP X af σ Q w s:=⟨z,H,I,GZ,q⟩;exact subscriptTail_builtinR (x:=w) pl.typeIs slot_tuple_getitem.lookup
  (getItem_tuple (j:=j) (Q:=λr s'=>r=w/\EP X af σ Q r s') pl (by omega) (by omega) (by rw[vH,←hl];exact h1) (by simpa using ew) ⟨rfl,lm⟩) hs
theorem zZ:Hv X SM:=by
 intro value slice af s σ H x y v u Q I rx ry h hs;obtain⟨z,i,c,rfl,rfl,hz,he,q⟩:=h;obtain⟨t,rfl⟩:=rx;obtain⟨t',rfl⟩:=ry;obtain⟨j,h1,h2,h3,h4,h5⟩:=vj he;have hl:z.cps.toList.length=z.length:=by simp[Str.length]
 rw[hl]at h1 h4 h5;have hn:=nU;exact tail_any (typeIs_str s z t) slot_str_getitem.lookup (getItem_str (c:=c) (by
  have e1:decide (i < -(2 ^ 63:Int))=false:=decide_eq_false (by omega);have e2:decide (i ≥ 2 ^ 63)=false:=decide_eq_false (by omega);rw[e1,e2,Bool.or_false]) (by rw[h1];simpa using h2) ⟨.str ⟨#[c]⟩,H,I.tok _,⟨_,rfl⟩,q⟩) hs
theorem Aa (its:List Value)(n j:Nat)(u:Value):Obj.mapSeq (·.setIfInBounds j u) { cls:=.type "list",data:=.seq its.toArray n }={ cls:=.type "list",data:=.seq (its.set j u).toArray n }:=by
 simp[Obj.mapSeq]
theorem Inv.lst (I:Inv X af σ H s)(h:H p=some (.lst xs)):
  ∃(its:List Value)(n:Nat),bf xs its/\s.heap.get? p=some { cls:=.type "list",data:=.seq its.toArray n }/\xs.length<=sizeLine:=by
 obtain⟨z,its,n,r,e⟩:=I.hok p _ h;exact⟨its,n,r,e,z⟩
theorem Inv.lstUpd {af:List (Addr×Obj)}{σ:St}{H:Hp}{s:Shared}{p:Addr}{xs ys:List V}{its its':List Value}{n n':Nat}{f:Obj->Obj}(I:Inv X af σ H s)(h:H p=some (.lst xs))
  (ho:s.heap.get? p=some { cls:=.type "list",data:=.seq its.toArray n }) (hf:f { cls:=.type "list",data:=.seq its.toArray n }={ cls:=.type "list",data:=.seq its'.toArray n' }) (r:bf ys its') (hz:ys.length<=sizeLine) (t:Nat):
  Inv X af σ (upd H p (.lst ys)) { s with heap:=s.heap.update p f,toks:=t }:=by
 have e:(s.heap.update p f).get? p=some { cls:=.type "list",data:=.seq its'.toArray n' }:=by
  rw[Heap.get?_update_self f ho (by rw[hf]<;>rfl),hf]
 refine I.write (x:=p) (e:=p) (by rw[h];trivial) (.inl rfl) (λb u hb q=>(Heap.get?_update_other _ _ (Ne.symm hb)).trans q) ⟨_,e⟩ ?_;exact⟨hz,its',n',r,e⟩
def P8:V->V->V->Hp->(Hp->Prop)->Prop:=λo i v H Q=>∃p xs k j,o=.ref p/\i=.int k/\H p=some (.lst xs)/\CS xs.length k=some j/\Q (upd H p (.lst (xs.set j v)))
theorem E3:Po X P8:=by
 intro af s σ H o i v ov iv u Q I ro ri rv h;obtain⟨p,xs,k,j,rfl,rfl,hp,hj,q⟩:=h;cases ro
 obtain⟨t,rfl⟩:=ri;obtain⟨its,n,r,ho,hz⟩:=I.lst hp;obtain⟨h1,h2,h3,h4⟩:=Be hj;have hl:=r.length;have hn:=nU;have I':Inv X af σ (upd H p (.lst (xs.set j v))) { s with heap:=s.heap.update p (Obj.mapSeq (·.setIfInBounds j u)) } :=
  I.lstUpd hp ho (Aa its n j u) (r.set rv j) (by rw[List.length_set];exact hz) s.toks
 by_cases h0:0<=k
 ·have hk:k.toNat=j:=by
   rw[seqIndex_of h0 h4]at h1;exact vK h1
  exact PySem.W.ki_setAt ho h0 (by omega) (by rw[vH,←hl];exact h4) (by rw[hk];exact⟨_,I',q⟩)
 ·have hk:(k+(its.toArray.size:Int)).toNat=j:=by
   rw[seqIndex_neg (by omega) h3]at h1;rw[vH,←hl];exact vK h1
  exact PySem.W.ki_setBack ho (by omega) (by rw[vH,←hl];exact h3) (by omega) (by rw[hk];exact⟨_,I',q⟩)
theorem vn (lo hi:Option Int)(n:Nat):(sliceBounds lo hi none n).1=((HT.eC n 0 lo:Nat):Int)/\(sliceBounds lo hi none n).2.1=((HT.eC n n hi:Nat):Int)/\(sliceBounds lo hi none n).2.2=1:=by
 refine⟨?_,?_,rfl⟩
 ·cases lo with
  |none=>simp[sliceBounds,HT.eC]
  |some i=>
   simp only[sliceBounds,HT.eC,Option.getD_none,show(1:Int) > 0 by decide,if_true];by_cases h:i<0
   ·simp only[h,if_true]<;>omega
   ·simp only[h,if_false]<;>omega
 ·cases hi with
  |none=>simp[sliceBounds,HT.eC]
  |some i=>
   simp only[sliceBounds,HT.eC,Option.getD_none,show(1:Int) > 0 by decide,if_true];by_cases h:i<0
   ·simp only[h,if_true]<;>omega
   ·simp only[h,if_false]<;>omega
theorem sA (its:List Value)(lo hi:Option Int):slicePick its.toArray lo hi none=((its.drop (HT.eC its.length 0 lo)).take (HT.eC its.length its.length hi - HT.eC its.length 0 lo)).toArray:=by
 obtain⟨h1,h2,h3⟩:=vn lo hi its.toArray.size;unfold slicePick;rw[h1,h2,h3];simp only[sliceRange_one,pick_run,vH]<;>rfl
def SN (K:PySem.W.Frag):V->Option Int->Option Int->Hp->VK->Prop:=λx lo hi H Q=>∃a xs,x=.ref a/\iM K H a xs/\∀p,H p=none->Q (.ref p) (upd H p (.lst (sy xs lo hi)))
theorem Ik:Ef X (SN X.K):=by
 intro af s σ H x v vl vu lo hi sl Q I rx hs pl pu h;obtain⟨a,xs,rfl,hx,q⟩:=h;cases rx
 obtain⟨its,r,ht,hz⟩:=I.list hx;have bR:=r.length;refine⟨"list",_,slot_list_getitem.lookup,ht.isList.typeIs,?_⟩;refine wpAny_getItem_list_slice ht.isList hs pl pu .none (by simp) ?_ (by rw[vH]<;>omega)
 rw[sA,←bR];refine⟨.ref s.heap.objs.size,_,I.laid (t':=s.toks) (o:=.lst (sy xs lo hi)) (λb ob q=>vZ _ q) (vT _) ?_,rfl,q _ (I.hok.fresh (vT _))⟩;exact⟨vR (oD xs lo hi) hz,_,0,(r.drop (HT.eC xs.length 0 lo)).take (HT.eC xs.length xs.length hi - HT.eC xs.length 0 lo),vY _ rfl⟩
noncomputable def ly:V->Bool
 |.non=>true
 |.bl _=>true
 |.int _=>true
 |.str _=>true
 |_=>false
def Hw:V->V->Bool
 |.non,.non=>true
 |.bl a,.bl b=>a == b
 |.bl a,.int b=>(if a then 1 else 0) == b
 |.int a,.bl b=>a == (if b then 1 else 0)
 |.int a,.int b=>a == b
 |.str a,.str b=>a == b
 |_,_=>false
theorem My (ry:aY y u)(rx:aY x v)(fy:ly y=true)(fx:ly x=true):SeqAt.EqAt A s u v (Hw y x):=by
 cases y with
 |non=>
  cases ry
  cases x with
  |non=>cases rx;exact SeqAt.EqAt.same _
  |bl b=>cases rx;exact SeqAt.EqAt.none_bool b
  |int b=>obtain⟨t,rfl⟩:=rx;exact SeqAt.EqAt.none_int b t
  |str b=>obtain⟨t,rfl⟩:=rx;exact SeqAt.EqAt.none_str b t
  |_=>exact absurd (show false=true from fx) uX
 |bl a=>
  cases ry
  cases x with
  |non=>cases rx;exact SeqAt.EqAt.bool_none a
  |bl b=>cases rx;exact SeqAt.EqAt.bool_bool a b
  |int b=>obtain⟨t,rfl⟩:=rx;exact SeqAt.EqAt.bool_int a b t
  |str b=>obtain⟨t,rfl⟩:=rx;exact SeqAt.EqAt.bool_str a b t
  |_=>exact absurd (show false=true from fx) uX
 |int a=>
  obtain⟨t',rfl⟩:=ry;cases x with
  |non=>cases rx;exact SeqAt.EqAt.int_none a t'
  |bl b=>cases rx;exact SeqAt.EqAt.int_bool a t' b
  |int b=>obtain⟨t,rfl⟩:=rx;exact SeqAt.EqAt.int_int a t' b t
  |str b=>obtain⟨t,rfl⟩:=rx;exact SeqAt.EqAt.int_str a t' b t
  |_=>exact absurd (show false=true from fx) uX
 |str a=>
  obtain⟨t',rfl⟩:=ry;cases x with
  |non=>cases rx;exact SeqAt.EqAt.str_none a t'
  |bl b=>cases rx;exact SeqAt.EqAt.str_bool a t' b
  |int b=>obtain⟨t,rfl⟩:=rx;exact SeqAt.EqAt.str_int a t' b t
  |str b=>obtain⟨t,rfl⟩:=rx;exact SeqAt.EqAt.str_str a t' b t
  |_=>exact absurd (show false=true from fx) uX
 |_=>exact absurd (show false=true from fy) uX
def Ab (x:V)(u:Value):Bool:=match u with
 |.none=>Hw .non x
 |.bool b=>Hw (.bl b) x
 |.int i _=>Hw (.int i) x
 |.str z _=>Hw (.str z) x
 |_=>false
theorem E4 (r:aY y u)(f:ly y=true):Ab x u=Hw y x:=by
 cases y with
 |non=>cases r;rfl
 |bl b=>cases r;rfl
 |int i=>obtain⟨t,rfl⟩:=r;rfl
 |str z=>obtain⟨t,rfl⟩:=r;rfl
 |_=>exact absurd (show false=true from f) uX
theorem mq:∀ {xs:List V}{us:List Value},bf xs us->xs.all ly=true->us.any (Ab x)=xs.any λy=>Hw y x
 |_,_,.nil,_=>rfl
 |y::xs,u::us,.cons r t,f=>by
  rw[List.all_cons,vC]at f;rw[List.any_cons,List.any_cons,E4 r f.1,mq t f.2]
theorem kn (rx:aY x v)(fx:ly x=true):∀ {xs:List V}{us:List Value},bf xs us->xs.all ly=true->∀u∈us,SeqAt.EqAt A s u v (Ab x u)
 |_,_,.nil,_=>λu hu=>by cases hu
 |y::xs,u::us,.cons r t,f=>λu' hu=>by
  rw[List.all_cons,vC]at f;rcases vP hu with rfl|hu
  ·rw[E4 r f.1];exact My r rx f.1 fx
  ·exact kn rx fx t f.2 u' hu
noncomputable def RI (x:V)(xs:List V):Bool:=xs.any λy=>Hw y x
def Vh (K:PySem.W.Frag)(XS:Bool):R2:=λx y H Q=>∃p xs,y=.ref p/\(iM K H p xs∨jm K H p xs)/\ly x=true/\xs.all ly=true/\Q (.bl (if XS then !RI x xs else RI x xs)) H
theorem CT:dP X (compareOp .In) (Vh X.K false):=by
 intro af s σ H x y v u Q I rx ry h;obtain⟨p,xs,rfl,hq,fx,fs,q⟩:=h;cases ry
 rcases hq with hq|hq
 ·obtain⟨its,r,pl,hz⟩:=I.list hq;refine SeqAt.in_listAt (Ab x) pl.isList (λw hw=>kn rx fx r fs w (by simpa using hw)) ⟨.bl _,H,I,rfl,?_⟩;rw[show its.toArray.any (Ab x)=its.any (Ab x) by simp,mq r fs];exact q
 ·obtain⟨its,r,pl,hz⟩:=I.tuple hq;refine SeqAt.in_tupleAt (Ab x) pl (λw hw=>kn rx fx r fs w (by simpa using hw)) ⟨.bl _,H,I,rfl,?_⟩;rw[show its.toArray.any (Ab x)=its.any (Ab x) by simp,mq r fs];exact q
theorem vp:dP X (compareOp .NotIn) (Vh X.K true):=by
 intro af s σ H x y v u Q I rx ry h;obtain⟨p,xs,rfl,hq,fx,fs,q⟩:=h;cases ry
 rcases hq with hq|hq
 ·obtain⟨its,r,pl,hz⟩:=I.list hq;refine SeqAt.notIn_listAt (Ab x) pl.isList (λw hw=>kn rx fx r fs w (by simpa using hw)) ⟨.bl _,H,I,rfl,?_⟩;rw[show its.toArray.any (Ab x)=its.any (Ab x) by simp,mq r fs];exact q
 ·obtain⟨its,r,pl,hz⟩:=I.tuple hq;refine SeqAt.notIn_tupleAt (Ab x) pl (λw hw=>kn rx fx r fs w (by simpa using hw)) ⟨.bl _,H,I,rfl,?_⟩;rw[show its.toArray.any (Ab x)=its.any (Ab x) by simp,mq r fs];exact q
theorem vq:ce X (.builtin "len") (λxs H Q=>∃p ys,xs=[.ref p]/\(iM X.K H p ys∨jm X.K H p ys)/\Q (.int ys.length) H):=by
 intro af s σ H xs us Q I r h;obtain⟨p,ys,rfl,hq,q⟩:=h;obtain⟨u,rfl,rx⟩:=gY r;cases rx
 have hn:=nU;rcases hq with hq|hq
 ·obtain⟨its,r',pl,hz⟩:=I.list hq;have bR:=r'.length;exact Calls.call_len_list pl.isList (by simp only[vH]<;>omega) ⟨.int ys.length,H,I.tok _,⟨s.toks+1,by rw[vH,bR]⟩,q⟩
 ·obtain⟨its,r',pl,hz⟩:=I.tuple hq;have bR:=r'.length;exact len_tuple pl (by simp only[vH]<;>omega) ⟨.int ys.length,H,I.tok _,⟨s.toks+1,by rw[vH,bR]⟩,q⟩
theorem vt:ce X (.builtin "len") (λxs H Q=>∃z,xs=[.str z]/\z.length<=sizeLine/\Q (.int z.length) H):=by
 intro af s σ H xs us Q I r h;obtain⟨z,rfl,hz,q⟩:=h;obtain⟨u,rfl,t,rfl⟩:=gY r;have hn:=nU;exact len_str (by omega) ⟨.int z.length,H,I.tok _,⟨_,rfl⟩,q⟩
theorem ce.or (h:ce X f r)(h':ce X f r'):ce X f (λxs H Q=>r xs H Q∨r' xs H Q):=by
 intro af s σ H xs us Q I rs q;rcases q with q|q
 ·exact h af s σ H xs us Q I rs q
 ·exact h' af s σ H xs us Q I rs q
theorem vv:ce X (.type "list") (λxs H Q=>∃p ys,xs=[.ref p]/\(iM X.K H p ys∨jm X.K H p ys)/\∀l,H l=none->Q (.ref l) (upd H l (.lst ys))):=by
 intro af s σ H xs us Q I r h;obtain⟨p,ys,rfl,hq,q⟩:=h;obtain⟨u,rfl,rx⟩:=gY r;cases rx
 have lm:∀(its:List Value),bf ys its->ys.length<=sizeLine->∀(h':Heap)(c':Nat),(∀b o',s.heap.get? b=some o'->h'.get? b=some o') ->
   h'.get? s.heap.objs.size=some { cls:=.type "list",dict:=none,data:=.seq its.toArray c',slots:=#[] }->EP X af σ Q (.ref s.heap.objs.size) { s with heap:=h' }:=λits r' hz h' c' kp e=>
  ⟨.ref s.heap.objs.size,_,I.laid (t':=s.toks) kp (vT _) (show bU X.prog X.w _ h' _ (.lst ys)from ⟨hz,its,c',r',e⟩),rfl,q _ (I.hok.fresh (vT _))⟩
 rcases hq with hq|hq
 ·obtain⟨its,r',pl,hz⟩:=I.list hq;have bR:=r'.length;obtain⟨o,ho,hc,n,hd⟩:=pl.isList;exact call_list_seq p (.inl rfl) ho hc hd (λh' c' kp e=>lm its r' hz h' c' kp e) (by simp only[vH]<;>omega)
 ·obtain⟨its,r',pl,hz⟩:=I.tuple hq;have bR:=r'.length;obtain⟨o,ho,hc,n,hd⟩:=pl;exact call_list_seq p (.inr rfl) ho hc hd (λh' c' kp e=>lm its r' hz h' c' kp e) (by simp only[vH]<;>omega)
theorem sC:ce X (.type "tuple") (λxs H Q=>∃p ys,xs=[.ref p]/\((iM X.K H p ys/\∀l,H l=none->Q (.ref l) (upd H l (.tup ys)))∨(jm X.K H p ys/\Q (.ref p) H))):=by
 intro af s σ H xs us Q I r h;obtain⟨p,ys,rfl,h⟩:=h;obtain⟨u,rfl,rx⟩:=gY r;cases rx
 rcases h with⟨hq,q⟩|⟨hq,q⟩
 ·obtain⟨its,r',pl,hz⟩:=I.list hq;have bR:=r'.length;refine call_tuple_list pl.isList (λh' kp=>?_) (by simp only[vH]<;>omega)
  have I1:Inv X af σ H { s with heap:=h' }:=I.kept (t':=s.toks) kp;have I2:Inv X af σ (upd H h'.objs.size (.tup ys)) { s with heap:=h'.push { cls:=.type "tuple",data:=.seq its.toArray } } :=
   I1.laid (t':=s.toks) (λb o e=>vZ _ e) (vT _) (show bU X.prog X.w _ _ _ (.tup ys)from ⟨hz,its,r',IsTup.new _ _⟩)
  exact⟨.ref h'.objs.size,_,I2,rfl,q _ (I1.hok.fresh (vT _))⟩
 ·obtain⟨its,r',pl,hz⟩:=I.tuple hq;exact call_tuple_same pl ⟨.ref p,H,I,rfl,q⟩
def Vi (K:PySem.W.Frag)(T:String)(x:V)(H:Hp):Prop:=match x with
 |.str _=>T = "str"
 |.int _=>T = "int"
 |.ref p=>(T = "list"/\∃xs,iM K H p xs)∨(T = "tuple"/\∃o,K.lookup p=some o/\o.cls=.type "tuple"/\o.dict=none) ∨
   (T = "dict"/\((∃aM ob,H p=some (.dK aM ob))∨∃aM,H p=some (.dT aM)))∨(T = "set"/\∃S n,H p=some (.set S n))
 |_=>False
theorem Ac (I:Inv X af σ H s)(r:aY x v)(ty:Vi X.K T x H):
  s.TypeIs v T/\∀a,v=.ref a->∃ob,s.heap.get? a=some ob/\ob.dict=none:=by
 cases x with
 |str z=>
  obtain⟨t,rfl⟩:=r;cases (show T = "str" from ty)
  exact⟨typeIs_str s z t,λ_ e=>nomatch e⟩
 |int i=>
  obtain⟨t,rfl⟩:=r;cases (show T = "int" from ty)
  exact⟨typeIs_int s i t,λ_ e=>nomatch e⟩
 |ref p=>
  cases r
  rcases ty with⟨rfl,xs,hq⟩|⟨rfl,o,hk,hc,hd⟩|⟨rfl,hk⟩|⟨rfl,S,n,hk⟩
  ·obtain⟨its,_,pl,_⟩:=I.list hq;refine⟨pl.isList.typeIs,λa e=>?_⟩;cases e
   obtain⟨o,n,e,c,hd,_⟩:=pl;exact⟨o,e,hd⟩
  ·refine⟨⟨o,I.kIn p o hk,hc⟩,λa e=>?_⟩;cases e
   exact⟨o,I.kIn _ o hk,hd⟩
  ·have z:∃o,s.heap.get? p=some o/\o.ExactDict:=by
    rcases hk with⟨aM,T8,hk⟩|⟨aM,hk⟩
    ·obtain⟨_,_,_,_,_,o,_,_,e,ex,_⟩:=I.hok p _ hk;exact⟨o,e,ex⟩
    ·obtain⟨_,_,_,_,o,_,_,e,ex,_⟩:=I.hok p _ hk;exact⟨o,e,ex⟩
   obtain⟨o,e,ex⟩:=z;refine⟨⟨o,e,ex.1⟩,λa e2=>?_⟩;cases e2
   exact⟨o,e,ex.2.1⟩
  ·obtain⟨o,_,_,_,e,ex,_⟩:=I.hok p _ hk;refine⟨⟨o,e,ex.1⟩,λa e2=>?_⟩;cases e2
   exact⟨o,e,ex.2.1⟩
 |_=>exact False.elim ty
def Xb (K:PySem.W.Frag)(T:String)(r:V->List V->Hp->VK->Prop)(to:TE)(t:TA):TE:=λσ H Q=>to σ H λx H1=>Vi K T x H1/\t σ H1 λxs H2=>r x xs H2 Q
variable {o e:Expr}{es:List Expr}{to:TE}{t:TA}{name:Str}{dI cJ:Pos}{T id:String}{r:V->List V->Hp->VK->Prop}
theorem E5 (pa:PlainAttrs T)(slot:Slot T name id)(L7:typeOf (.builtin id)=pure (.type "method_descriptor"))(hm:Ii X id r)(ho:PE X o to)(ha:PA X (e::es) t)
  (iI:attributeBase o name X.env (eval o X.env)=eval o X.env:=by rfl)
  (AX:((backTo cJ (starEach (e::es) X.env)).all (λx=>!x.1) && (backToKw cJ (keywordEach [] X.env)).all (λx=>x.1.isSome)
   && decide ((e::es).length+([]:List Keyword).length+(if([]:List Keyword).isEmpty then 0 else 1)<30))=true:=by rfl)
  (iJ:(dI.endLine == cJ.line)=true:=by rfl) (hs:starEach (e::es) X.env=(false,eval e X.env)::starEach es X.env:=by rfl) (NN:(backTo cJ (starEach es X.env)).any (·.1)=false:=by rfl):
  PE X (.Call (.Attribute o name dI) (e::es) [] cJ) (Xb X.K T r to t):=by
 intro af s σ H Q I h;refine wpAny_Call_method_late iI AX iJ rfl (cR (ho af s σ H _ I h) λv s1 ⟨x,H1,I1,r1,ty,q1⟩=>?_);obtain⟨h1,h2⟩:=Ac I1 r1 ty;refine⟨T,id,pa,slot,L7,h1,h2,?_⟩;have hA:=ha cJ af s1 σ H1 _ I1 q1;rw[hs]at hA ⊢;refine Calls.callWith_builtin (by show(false || (backTo cJ (starEach es X.env)).any (·.1))=false;rw[NN]<;>rfl) (Calls.evalArgs_plain ?_)
 exact cR hA λus s2 ⟨vs,H2,I2,r2,q2⟩=>hm af s2 σ H2 x vs v us Q I2 r1 r2 q2
/- xs.append(e),list.index on a module's tuple .. are Ii facts of 06m -/
end
def Xc (X:Cx)(id:String)(r:V->List V->Hp->VK->Prop):Prop :=
 ∀(af:List (Addr×Obj))(s:Shared)(σ:St)(H:Hp)(x:V)(xs:List V)(v:Value)(us:List Value)(Q:VK),Inv X af σ H s->aY x v->bf xs us->r x xs H Q ->
  wpAny (model X.prog X.w) X.A (call (.builtin id) (v::us)) (EP X af σ Q) X.xe s
theorem bf.one:∀ {x:V}{us:List Value},bf [x] us->∃u,us=[u]/\aY x u
 |_,_,.cons r .nil=>⟨_,rfl,r⟩
theorem bf.two:∀ {x y:V}{us:List Value},bf [x,y] us->∃u v,us=[u,v]/\aY x u/\aY y v
 |_,_,_,.cons r (.cons q .nil)=>⟨_,_,rfl,r,q⟩
theorem bf.eraseIdx:∀ {xs:List V}{us:List Value}(i:Nat),bf xs us->bf (xs.eraseIdx i) (us.eraseIdx i)
 |_,_,_,.nil=>.nil
 |_,_,0,.cons _ t=>t
 |_,_,i+1,.cons r t=>.cons r (bf.eraseIdx i t)
theorem bf.rep (h:bf xs us):∀k:Nat,bf (List.replicate k xs).flatten (List.replicate k us).flatten
 |0=>.nil
 |k+1=>by
  rw[List.replicate_succ,List.replicate_succ,List.flatten_cons,List.flatten_cons];exact bf.append h (bf.rep h k)
theorem tu (its:List Value):∀(k:Nat)(mm:List Value),
  List.foldl (λx1 x2=>x1++x2) mm.toArray (List.replicate k its.toArray)=(mm++(List.replicate k its).flatten).toArray
 |0,mm=>by simp
 |k+1,mm=>by
  have e:mm.toArray++its.toArray=(mm++its).toArray:=by simp
  have e2:(mm++its)++(List.replicate k its).flatten=mm++(List.replicate (k+1) its).flatten:=by
   rw[List.replicate_succ,List.flatten_cons,List.append_assoc]
  rw[←e2,←tu its k (mm++its),←e,List.replicate_succ,List.foldl_cons]
section
variable {X:Cx}{af:List (Addr×Obj)}{σ:St}{H:Hp}{s:Shared}{l b:Addr}{xs ys zs:List V}
theorem Inv.lset {its its':List Value}{n:Nat}{f:Array Value->Array Value}{t':Nat}(I:Inv X af σ H s)(hH:H l=some (.lst xs))
  (e:s.heap.get? l=some { cls:=.type "list",data:=.seq its.toArray n }) (hf:f its.toArray=its'.toArray) (hv:bf ys its') (hz:ys.length<=sizeLine):
  Inv X af σ (upd H l (.lst ys)) { s with heap:=s.heap.update l (Obj.mapSeq f),toks:=t' }:=by
 have q:=PySem.IsL.update e f;rw[hf]at q;refine I.write (x:=l) (e:=l) (by rw[hH];exact trivial) (.inl rfl) (λb' u hb hu=>(Heap.get?_update_other s.heap (Obj.mapSeq f) (Ne.symm hb)).trans hu) ⟨_,q⟩ ?_;exact⟨hz,its',_,hv,q⟩
theorem Inv.lnew (I:Inv X af σ H s)(hv:bf ys its)(hz:ys.length<=sizeLine):
  Inv X af σ (upd H s.heap.objs.size (.lst ys)) { s with heap:=s.heap.push { cls:=.type "list",data:=.seq its.toArray },toks:=t' } :=
 I.laid (λ_ _ q=>vZ _ q) (vT _) ⟨hz,its,0,hv,vY _ rfl⟩
theorem Inv.fresh (I:Inv X af σ H s):H s.heap.objs.size=none:=I.hok.fresh (vT _)
theorem Inv.lstM (I:Inv X af σ H s)(hH:H l=some (.lst xs)):xs.length<=sizeLine/\∃(its:List Value)(n:Nat),bf xs its/\xs.length=its.length/\s.heap.get? l=some { cls:=.type "list",data:=.seq its.toArray n }:=by
 obtain⟨z,its,n,r,e⟩:=I.hok l _ hH;exact⟨z,its,n,r,r.length,e⟩
theorem E6 (h:n<=sizeLine):Builtin.List.listTooLong n=false:=by
 unfold Builtin.List.listTooLong;exact decide_eq_false (by omega)
end
section
variable {X:Cx}
def Bf:V->List V->Hp->VK->Prop:=λx vs H Q=>∃l xs y,x=.ref l/\vs=[y]/\H l=some (.lst xs)/\xs.length<sizeLine/\Q .non (upd H l (.lst (xs++[y])))
theorem tz:Xc X "list.append" Bf:=by
 intro af s σ H x vs v us Q I rx rv h;obtain⟨l,xs,y,rfl,rfl,hH,hz,q⟩:=h;cases rx
 obtain⟨u,rfl,ru⟩:=rv.one;obtain⟨z,its,n,r,hl,e⟩:=I.lstM hH;refine call_meets F.slot_list_append ⟨_,e,rfl⟩ F.entry_list_append (F.args_list_append_2 _ _) (PySem.list_append l its.toArray n u (by rw[vH];omega)) ⟨e,?_⟩;refine⟨.non,_,I.lset (its':=its++[u]) hH e (by simp) (r.append (.cons ru .nil)) ?_,rfl,q⟩;rw[uZ,List.length_singleton];omega
def SO:R2:=λx y H Q=>∃l k xs,x=.ref l/\y=.int k/\H l=some (.lst xs)/\-(2 ^ 63)<=k/\k<2 ^ 63/\xs.length*k.toNat<=sizeLine /\
 ∀p,H p=none->Q (.ref p) (upd H p (.lst (List.replicate k.toNat xs).flatten))
theorem Il {α:Type}(xs:List α)(k:Nat):(List.replicate k xs).flatten.length=k*xs.length:=by
 induction k with
 |zero=>simp
 |succ k ih=>rw[List.replicate_succ,List.flatten_cons,uZ,ih,Nat.succ_mul,Nat.add_comm]
theorem Mz:dP X (binaryOp .Mult) SO:=by
 intro af s σ H x y v u Q I rx ry h;obtain⟨l,k,xs,rfl,rfl,hH,h1,h2,hz,q⟩:=h;cases rx
 obtain⟨t,rfl⟩:=ry;obtain⟨z,its,n,r,hl,e⟩:=I.lstM hH;have bR:its.toArray.size*k.toNat<=sizeLine:=by rw[vH,←hl];exact hz
 have TQ:¬its.toArray.size*k.toNat > (2 ^ 63 - 1) / 8:=by
  have:(sizeLine:Nat)<=(2 ^ 63 - 1) / 8:=by decide
  omega
 have TR:¬(!Builtin.List.listFitsIndex k)=true:=by
  rw[fitsIndex_both h1 h2];exact uX
 have QF:¬Builtin.List.listTooLong (its.toArray.size*k.toNat)=true:=by
  rw[E6 bR];exact uX
 have TU:List.foldl (λx1 x2=>x1++x2) #[] (List.replicate (if its.toArray.isEmpty=true then 0 else k.toNat) its.toArray)=(List.replicate k.toNat its).flatten.toArray:=by
  have f0:∀m:Nat,List.foldl (λx1 x2=>x1++x2) #[] (List.replicate m its.toArray)=(List.replicate m its).flatten.toArray:=λm=>by
   have:=tu its m [];rw[List.nil_append]at this;exact this
  rw[f0];cases its with
  |nil=>simp
  |cons a r'=>rw[if_neg (by simp)]
 refine wpAny_binaryOp_repeat_ref (T:="list") (U:="int") (by decide) ⟨_,e,rfl⟩ (λs'=>typeIs_int s' k t) noFill_list_mul F.fills_int_mul F.slot_int_rmul repeat_list F.slot_int_index.lookup
  (call_meets F.slot_int_rmul (typeIs_int s k t) F.entry_int_rmul (F.args_int_rmul_2 _ _) (int___rmul___int_list k t l its.toArray n)
   ⟨e,rfl,⟨_,e,rfl⟩,call_meets F.slot_list_mul ⟨_,e,rfl⟩ F.entry_list_mul (F.args_list_mul_2 _ _) (AutoListH.list___mul___list_int_3 l its.toArray n k t TR TQ QF) ⟨e,?_⟩⟩)
 rw[TU];exact⟨.ref _,_,I.lnew (t':=s.toks) (r.rep k.toNat) (by rw[Il,Nat.mul_comm];exact hz),rfl,q _ I.fresh⟩
end
end L2
namespace Att
open PySem PySem.W PySem.Calls PyProof.Rows
theorem p7:∀(ns:List Int)(vs:List Value),WellAll P h vs (ns.map WData.int)->IntsAre vs ns:=by
 intro ns;induction ns with
 |nil=>
  intro vs w;rw[List.map_nil]at w;cases w
  exact .nil
 |cons n ns ih=>
  intro vs w;rw[uY]at w;cases w with
  |cons a b=>
   cases a
   exact .cons _ _ (ih _ b)
theorem CU {l:OpenLaw}{n:Nat}(hn:l.most=some n){P:Params}{h:Heap}{args:List WData}{vals:List Value}
  (Kf:l.row.toRowW.claim.pre args=true) (TV:WellAll P h vals args):
  ∃a vs ns,vals=[Value.ref a]/\args=[WData.list (ns.map WData.int)]/\h.get? a=some { cls:=.type "list",data:=.seq vs.toArray }/\IntsAre vs ns/\ns.length<=n:=by
 have TW:WShape.hasAll [] args [.list .int]=true:=(pre_splitW Kf).1;have hc:l.pre.holds [] { args:=args }=true:=(pre_splitW Kf).2;obtain⟨d,r,rfl,h1,h2⟩:=hasAllW_cons TW;obtain rfl:=hasAllW_nil h2;obtain⟨xs,rfl,h3⟩:=hasW_list h1;obtain⟨ns,rfl⟩:=items_int h3;have bR:ns.length<=n:=by
  unfold OpenLaw.pre at hc;have h4:(WTm.not (.lt (.lit (.int (n:Int))) (.len (.arg 0)))).holds [] { args:=[.list (ns.map .int)] }=true:=by
   have h4:=(holds_andW hc).1;rw[hn]at h4;exact h4
  have h5:=condW_of h4 (w_not (w_lt w_lit (w_len_list (w_arg rfl))));rw[vI]at h5;refine Nat.le_of_not_lt λq=>?_;have q':(n:Int)<((ns.length:Nat):Int):=by omega
  first
   | (rw[decide_eq_true q']at h5;exact absurd h5 (by decide))
   | (simp at h5;omega)
 cases TV with
 |cons w1 w2=>
  cases w2
  cases w1 with
  |list ho nL=>exact⟨_,_,ns,rfl,rfl,ho,p7 ns _ nL,bR⟩
theorem CV (l:OpenLaw)(args:List WData):l.row.toRowW.claim.post args (.bool true) args=true :=
 postW_of (r:=l.row.toRowW) (X:=(true == true))
  (show WShape.has [] (.bool true) .bool=true by first|rfl|decide|simp[WShape.has,WShape.arms,WShape.armsAll])
  (show(WTm.eq .res (.lit (.bool true))).value [] { args:=args,res:=some (.bool true),after:=args }=some (.bool (true == true))from w_eq_bool (w_res rfl) w_lit) rfl
theorem x0 {l:OpenLaw}{n:Nat}{q:Program}{C7:List Str}{XP:(Str->Option Value)->Heap->Prop}{YP:World->Heap->Prop}{d:DefRec}
  (hn:l.most=some n) (QG:d.params.defaults=[])
  (call:∀(w:World)(s₀ s₁:Shared)(mg mb:Str->Option Value)(fa:Addr)(o:Obj)(pm cd doc:Value)(a:Addr)(vs:List Value)(ns:List Int),
   Ground q C7 [] XP w s₀ mg mb s₁.heap->YP w s₁.heap ->
   s₁.heap.get? fa=some o->o.data=.func (docDef d.name d.params d.body d.scope pm cd doc)->s₁.heap.CodeRec cd d.name->mg d.name=some (.ref fa) ->
   s₁.heap.get? a=some { cls:=.type "list",data:=.seq vs.toArray }->IntsAre vs ns->ns.length<=n->s₁.gens=#[] ->
   codeAny (model l.prog w) callerA (.call (.ref fa) ⟨[.ref a],[]⟩) (λr s'=>r=.ok (.ret (.bool true))/\OldK s₁.heap s'.heap/\s'.os=s₁.os/\AllBare s'.gens) s₁):
  WalkO q C7 XP YP l.row.toRowW d [] (λf vs=>PySem.call f vs):=by
 intro w s₀ s₁ mg mb G Y fa o pm cd doc dV kV ho hd jA hD hmg hg args vals as Kf hlay hrd TV hlo;obtain rfl:dV=.none:=Dflts.none hD QG;obtain rfl:kV=.none:=Dflts.noKw hD;obtain⟨a,vs,ns,rfl,rfl,NO,Ha,bR⟩:=CU hn Kf TV;refine enter_call (codeAny_mono (call w s₀ s₁ mg mb fa o pm cd doc a vs ns G Y ho (fd_plain hd) jA hmg NO Ha bR hg) λr s' hq=>?_);obtain⟨rfl,h2,h3,h4⟩:=hq;exact⟨.inl ⟨.bool true,.bool true,[],rfl,λ_=>rfl,.bool true,CV l _,λ_=>⟨List.Pairwise.nil,λ_ hm=>(nomatch hm)⟩⟩,h2,h3,h4⟩
section
variable {prog:Program}{w:World}{A:Around}{E:Value->Shared->Prop}{s:Shared}{K:Frag}
theorem P9 
  (X:K.In s.heap) (hm:makesIn K C=true) (hi:findIn K (.ref C) "__init__" = some (some (.ref fI))) (hf:isFn K (.ref fI)=true)
  (h:codeAny (model prog w) (A.under (.builtin "type.__call__" ⟨.ref C::aD,kw⟩)) (.call (.ref fI) ⟨.ref (s.heap.objs.size+1)::aD,kw⟩) (InitBack (s.heap.objs.size+1) R)
   { s with heap:=(s.heap.push emptyDict).push (instObj C s.heap.objs.size) }):codeAny (model prog w) A (.call (.ref C) ⟨aD,kw⟩) R s:=by
 obtain⟨hh,g,d,t,os⟩:=s;exact make_core (makes_of X hm) (looks_findIn X hi) (λself=>bind_fn X self (beq_iff_eq.mp hf)) (.inl rfl) h
theorem Op 
  (X:K.In s.heap) (I:PySem.W.InstAt s.heap x ox C (some (dictOf es n))) (hg:plainGet K C name=true) (hh:hasDictIn K C=true) (ha:findIn K (.ref C) name=some none)
  (hl:getL name es=some (some v)) (hv:handedIn v=true) (h:Q v { s with toks:=s.toks+1 }):wpAny (model prog w) A (getAttr (.ref x) name expr) Q E s :=
 get_value X I (plainGet_of hg).1 (findObj_own hh ha rfl hl) hv h
def SQ (h:Heap)(L d:Addr):List (Addr×Obj):=(List.range h.objs.size).filterMap λa=>if a=L∨a=d then none else (h.get? a).map λo=>(a,o)
end
end Att
namespace L2
open PySem PySem.Spec PyProof.Rows
theorem jp:∀ {vs:List Value}{ns:List Int},IntsAre vs ns->bf (ns.map V.int) vs
 |_,_,.nil=>.nil
 |_,_,.cons n t h=>.cons ⟨t,rfl⟩ (jp h)
noncomputable def gk (s:Stmt):Arguments:=match s with
 |.FunctionDef _ a _ _ _ _ _ _ _ _=>a
 |_=>{ posonlyargs:=[],args:=[],vararg:=none,kwonlyargs:=[],kw_defaults:=[],kwarg:=none,defaults:=[] }
noncomputable def cN (s:Stmt):List Stmt:=match s with
 |.FunctionDef _ _ b _ _ _ _ _ _ _=>b
 |_=>[]
noncomputable def aV (s:Stmt):Scope:=match s with
 |.FunctionDef _ _ _ _ _ _ sc _ _ _=>sc
 |_=>{ kind:=.function,names:=[],isGenerator:=false,isCoroutine:=false }
abbrev zH:K1:=λ_ _ _ _ _ _=>False
abbrev E0:XK:=λ_ _ _=>False
theorem PB:zV zH X E0:=λ_ _ _ _ _ _ _ h=>h.elim
structure NP (K:PySem.W.Frag)(x qual:Str)(st:Stmt)(f:Addr)(fd:FuncData):Prop where
 ex:∃(oc:Value)(od:Option Addr)(kV doc pm:Value)(an:Option Addr)(eO ct:Value)(p4:Array (Option Value)),
  fd=fnOf x qual (gk st) (cN st) (aV st) .none kV doc pm an eO ct/\K.lookup f=some ⟨oc,od,.func fd,p4⟩/\PySem.W.codeIn K eO qual=true
 kp:PySem.W.keepIn K (.ref f)=true
section
variable {P:Program}{w:World}{K:PySem.W.Frag}{mg:Str->Option Value}{base:Heap}
theorem NP.ok {x qual:Str}{st:Stmt}{f:Addr}{fd:FuncData}{N ps:List Str}{k:Nat}{sp:Sp}(F:NP K x qual st f fd)(S:FnScope N ps (aV st))(len:∀vs H Q E,sp vs H Q E->vs.length=ps.length)
  (GX:∀(eO:Value)(A:Around)(outer:List Env)(s:Shared)(H:Hp)(vs:List V)(Q:VK)(E:XK),eU k (A.deeper (envOfC qual (aV st) s.heap.objs.size f eO))->sp vs H Q E ->
   ∃t,ve (p6 zH P w K mg base N qual (aV st) f eO A outer s H E).nox (cN st) t/\t { nx:=λ_ H'=>Q .non H',rt:=Q } (jU N vs) H):sS P w K mg base zH (k+1) f fd ps sp:=by
 obtain⟨oc,od,kV,doc,pm,an,eO,ct,p4,rfl,lk,jA⟩:=F.ex;refine K2 lk jA S len λA outer s H vs Q E hr OE=>?_;obtain⟨t,h,q⟩:=GX eO A outer s H vs Q E hr OE;exact⟨t,h.nox,q⟩
theorem NP.binds {x qual:Str}{st:Stmt}{f:Addr}{fd:FuncData}{ps:List Str}(F:NP K x qual st f fd)
  (h:∀(kV doc pm:Value)(an:Option Addr)(eO ct:Value)(us:List Value),us.length=ps.length->bindArgs (fnOf x qual (gk st) (cN st) (aV st) .none kV doc pm an eO ct) ⟨us,[]⟩=pure (ps.zip us)):sX K fd ps []:=by
 obtain⟨oc,od,kV,doc,pm,an,eO,ct,p4,rfl,lk,jA⟩:=F.ex;exact .all (h kV doc pm an eO ct)
theorem M0 {x qual:Str}{st:Stmt}{f:Addr}{oc:Value}{od an:Option Addr}{p4:Array (Option Value)}{kV doc pm eO ct:Value}(l:K.lookup f=some ⟨oc,od,.func (fnOf x qual (gk st) (cN st) (aV st) .none kV doc pm an eO ct),p4⟩)
  (c:PySem.W.codeIn K eO qual=true) (k:PySem.W.keepIn K (.ref f)=true):NP K x qual st f (fnOf x qual (gk st) (cN st) (aV st) .none kV doc pm an eO ct):=⟨⟨oc,od,kV,doc,pm,an,eO,ct,p4,rfl,l,c⟩,k⟩
end
def aZ (H H':Hp):Prop:=∀b o,H b=some o->H' b=some o
theorem aZ.refl (H:Hp):aZ H H:=λ_ _ h=>h
theorem aZ.trans (a:aZ H H1)(b:aZ H1 H2):aZ H H2:=λc o h=>b c o (a c o h)
theorem aZ.free (e:aZ H H')(h:H' l=Option.none):H l=Option.none:=by
 cases q:H l with
 |none=>rfl
 |some o=>
  rw[e l o q]at h;cases h
theorem aZ.seq {K:PySem.W.Frag}{H H':Hp}{a:Addr}{xs:List V}(e:aZ H H')(h:iM K H a xs):iM K H' a xs:=by
 rcases h with (h|⟨o,h⟩)|h
 ·exact .inl (.inl (e _ _ h))
 ·exact .inl (.inr ⟨o,e _ _ h⟩)
 ·exact .inr h
section
variable {κ:Type}[DecidableEq κ]
noncomputable def kg (aM:List (κ×V))(k:κ):Option V:=(aM.find? λkv=>decide (kv.1=k)).map (·.2)
def mr (aM:List (κ×V))(k:κ)(v:V):List (κ×V) :=
 if(aM.any λkv=>decide (kv.1=k))=true then aM.map (λkv=>if kv.1=k then (kv.1,v)else kv)else aM++[(k,v)]
theorem mv {p:κ×V}{r:List (κ×V)}{k:κ}(e:p.1=k):kg (p::r) k=some p.2:=by simp[kg,List.find?_cons,e]
theorem mw {p:κ×V}{r:List (κ×V)}{k:κ}(e:¬p.1=k):kg (p::r) k=kg r k:=by simp[kg,List.find?_cons,e]
theorem xA (k:κ):∀aM:List (κ×V),(aM.any λkv=>decide (kv.1=k))=(kg aM k).isSome
 |[]=>rfl
 |p::r=>by
  rw[List.any_cons];by_cases e:p.1=k
  ·simp only[mv e,decide_eq_true e,Bool.true_or,Option.isSome_some]
  ·rw[mw e,decide_eq_false e,Bool.false_or];exact xA k r
theorem ko (aM:List (κ×V))(k:κ)(v:V):(mr aM k v).length<=aM.length+1:=by
 unfold mr;split
 ·rw[vI];omega
 ·rw[uZ,vE,List.length_nil];omega
theorem ln.isSome_eq (r:ln o u):o.isSome=u.isSome:=by
 cases o with
 |none=>cases u with
  |none=>rfl
  |some _=>exact(show False from r).elim
 |some _=>cases u with
  |none=>exact(show False from r).elim
  |some _=>rfl
theorem ln.getD (r:ln o u)(rd:aY d d'):aY (o.getD d) (u.getD d'):=by
 cases o with
 |none=>cases u with
  |none=>exact rd
  |some _=>exact(show False from r).elim
 |some _=>cases u with
  |none=>exact(show False from r).elim
  |some _=>exact r
theorem KV.val {aM:List (κ×V)}{vs:List (κ×Value)}(r:KV aM vs)(k:κ):ln (kg aM k) (valueAt vs k):=by
 unfold KV at r;induction r with
 |nil=>exact True.intro
 |@cons p q ps qs h t ih=>
  obtain⟨h1,h2⟩:=h;by_cases e:p.1=k
  ·have e':q.1=k:=h1.symm.trans e;have b:valueAt (q::qs) k=some q.2:=by simp[valueAt,List.find?_cons,e']
   rw[mv e,b];exact h2
  ·have e':¬q.1=k:=λz=>e (h1.trans z);have b:valueAt (q::qs) k=valueAt qs k:=by simp[valueAt,List.find?_cons,e']
   rw[mw e,b];exact ih
theorem KV.any (r:KV aM vs)(k:κ):(aM.any λkv=>decide (kv.1=k))=vs.any λkv=>decide (kv.1=k):=by
 unfold KV at r;induction r with
 |nil=>rfl
 |cons h t ih=>rw[List.any_cons,List.any_cons,ih,h.1]
theorem KV.repl (r:KV aM vs)(k:κ)(ry:aY y u):
  KV (aM.map λkv=>if kv.1=k then (kv.1,y)else kv) (vs.map λkv=>if kv.1=k then (kv.1,u)else kv):=by
 unfold KV at r ⊢;induction r with
 |nil=>exact .nil
 |@cons p q ps qs h t ih=>
  rw[uY,uY];refine .cons ?_ ih;obtain⟨h1,h2⟩:=h;by_cases e:p.1=k
  ·rw[if_pos e,if_pos (h1.symm.trans e)];exact⟨h1,ry⟩
  ·rw[if_neg e,if_neg (λz=>e (h1.trans z))];exact⟨h1,h2⟩
theorem KV.put (r:KV aM vs)(k:κ)(ry:aY y u):KV (mr aM k y) (stored vs k u):=by
 unfold mr stored;rw[r.any k];by_cases e:(vs.any λkv=>decide (kv.1=k))=true
 ·rw[if_pos e,if_pos e];exact r.repl k ry
 ·rw[if_neg e,if_neg e];exact Paired.snoc r ⟨rfl,ry⟩
theorem KV.length (r:KV aM vs):aM.length=vs.length:=Paired.length r
end
theorem t6 (r:aY (kV k) u):(cz P w).is k u=true:=by
 cases k with
 |inl i=>obtain⟨t,e⟩:=(show ∃t,u=Value.int i t from r);subst e;exact xn P w i t
 |inr x=>obtain⟨t,e⟩:=(show ∃t,u=Value.str x t from r);subst e;exact xo P w x t
theorem t7:∀ {ks:List cD}{us:List Value},bf (ks.map kV) us->ItemsAre (cz P w) ks us
 |[],_,r=>by rw[List.map_nil]at r;cases r;exact .nil
 |k::ks,_,r=>by
  rw[uY]at r;cases r with
  |cons h t=>exact .cons (t6 h) (t7 t)
abbrev KT (H:Hp):List (List cD×V)->List (List cD×Addr×Value)->Prop:=Paired λp q=>p.1=q.1/\H q.2.1=some (.tup (p.1.map kV))/\aY p.2 q.2.2
theorem KT.val {H:Hp}{aM:List (List cD×V)}{xs:List (List cD×Addr×Value)}(r:KT H aM xs)(k:List cD):ln (kg aM k) ((atKey xs k).map (·.2)):=by
 induction r with
 |nil=>exact True.intro
 |@cons p q ps qs h t ih=>
  obtain⟨h1,_,h2⟩:=h;by_cases e:p.1=k
  ·have e':q.1=k:=h1.symm.trans e;have b:atKey (q::qs) k=some q.2:=by simp[atKey,List.find?_cons,e']
   rw[mv e,b];exact h2
  ·have e':¬q.1=k:=λz=>e (h1.trans z);have b:atKey (q::qs) k=atKey qs k:=by simp[atKey,List.find?_cons,e']
   rw[mw e,b];exact ih
theorem KT.repl (r:KT H aM xs)(k:List cD)(ry:aY y u):
  KT H (aM.map λkv=>if kv.1=k then (kv.1,y)else kv) (xs.map (putAt k u)):=by
 induction r with
 |nil=>exact .nil
 |@cons p q ps qs h t ih=>
  rw[uY,uY];refine .cons ?_ ih;obtain⟨h1,h2,h3⟩:=h;unfold putAt;by_cases e:p.1=k
  ·rw[if_pos e,if_pos (h1.symm.trans e)];exact⟨h1,h2,ry⟩
  ·rw[if_neg e,if_neg (λz=>e (h1.trans z))];exact⟨h1,h2,h3⟩
theorem KT.put (r:KT H aM xs)(k:List cD)(hb:H b=some (.tup (k.map kV)))(ry:aY y u):
  KT H (mr aM k y) (storedH xs k b u):=by
 have e:(aM.any λkv=>decide (kv.1=k))=(atKey xs k).isSome:=by
  rw[xA,(r.val k).isSome_eq,Option.isSome_map]
 unfold mr storedH;rw[e];by_cases q:(atKey xs k).isSome=true
 ·rw[if_pos q,if_pos q];exact r.repl k ry
 ·rw[if_neg q,if_neg q];exact Paired.snoc r ⟨rfl,hb,ry⟩
theorem KT.keeps (r:KT H aM xs)(ht:∀b ys,H b=some (.tup ys)->H' b=some (.tup ys)):KT H' aM xs :=
 Paired.mapP r λ_ _ z=>⟨z.1,ht _ _ z.2.1,z.2.2⟩
section
variable {P:Program}{w:World}{H:Hp}{h:Heap}{a:Addr}
theorem K4 (ok:lq P w H h)(e:Rd H a u):bU P w H h a u:=e.ok ok
theorem Ad (ok:lq P w H h)(e:H a=some (.dK aM ob)):h.get? a=some ob:=And.left (show bU P w H h a (.dK aM ob)from ok a _ e)
theorem t8 (ok:lq P w H h)(e:Rd H a (.dK aM ob)):aM.length<=sizeLine/\(a == sysModules)=false/\∃vs,KV aM vs/\h.DictOf (cz P w) a vs :=
 And.right (show bU P w H h a (.dK aM ob)from K4 ok e)
theorem pX (ok:lq P w H h)(e:H a=some (.dK aM ob)):aM.length<=sizeLine/\(a == sysModules)=false/\∃vs,KV aM vs/\h.DictOf (cz P w) a vs:=t8 ok (.inl e)
theorem pY (ok:lq P w H h)(e:H a=some (.tup (ks.map kV))):(tupleKind (cz P w)).is h ks a:=by
 obtain⟨_,its,r,o,h1,h2,n,h3⟩:=(show bU P w H h a (.tup (ks.map kV))from ok a _ e);exact⟨o,its.toArray,n,h1,h2,h3,by simpa using t7 r⟩
theorem t9 (ok:lq P w H h)(e:Rd H a (.dT aM)):aM.length<=sizeLine/\(a == sysModules)=false /\
  ∃xs,KT H aM xs/\h.DictOfH (tupleKind (cz P w)) a xs:=by
 obtain⟨z,y,xs,r,o,es,ep,h1,h2,h3,h4,h5⟩:=(show bU P w H h a (.dT aM)from K4 ok e);refine⟨z,y,xs,r,o,es,ep,h1,h2,h3,h4,λx hx=>?_,h5⟩;have all:∀ {l:List (List cD×V)}{m:List (List cD×Addr×Value)},KT H l m->∀x∈m,(tupleKind (cz P w)).is h x.1 x.2.1:=by
  intro l m q;induction q with
  |nil=>intro x hx;exact nomatch hx
  |@cons p q ps qs hq t ih=>
   intro x hx;rcases vP hx with e|hx
   ·subst e;exact pY ok (by rw[←hq.1];exact hq.2.1)
   ·exact ih x hx
 exact all r x hx
theorem PD (ok:lq P w H h)(e:H a=some (.dT aM)):aM.length<=sizeLine/\(a == sysModules)=false /\
  ∃xs,KT H aM xs/\h.DictOfH (tupleKind (cz P w)) a xs:=t9 ok (.inl e)
end
def vw (H:Hp)(a:Addr)(y:V)(r:Option V):Prop :=
 (∃aM k ob,Rd H a (.dK aM ob)/\y=kV k/\r=kg aM k)∨∃aM k b,Rd H a (.dT aM)/\y=.ref b/\H b=some (.tup (k.map kV))/\r=kg aM k
def PF (H:Hp)(a:Addr)(y v:V)(Q:Hp->Prop):Prop :=
 (∃aM k ob,H a=some (.dK aM ob)/\y=kV k/\aM.length<sizeLine/\∀TX,Q (upd H a (.dK (mr aM k v) TX))) ∨
 ∃aM k b,H a=some (.dT aM)/\y=.ref b/\H b=some (.tup (k.map kV))/\aM.length<sizeLine/\Q (upd H a (.dT (mr aM k v)))
theorem vw.t (e:H a=some (.dT aM))(eb:H b=some (.tup (k.map kV))):vw H a (.ref b) (kg aM k):=.inr ⟨aM,k,b,.inl e,rfl,eb,rfl⟩
section
variable {X:Cx}{af:List (Addr×Obj)}{σ:St}{H:Hp}{s:Shared}{a:Addr}{y v:V}{u r:Value}{o:Option V}{A:Around}{E:Value->Shared->Prop}
theorem Inv.big (I:Inv X af σ H s):sysModules<s.heap.objs.size:=by
 have h:mainGlobals<s.heap.objs.size:=(I.mod.glob.keeps I.bk).lt;exact Nat.lt_trans (by decide) h
theorem CW (hu:A.units+1<cLine)(I:Inv X af σ H s)(g:vw H a y (some v))(ry:aY y u)(h:∀w' s',Inv X af σ H s'->aY v w'->Q w' s'):
  wpAny (model X.prog X.w) A (getItem (.ref a) u) Q E s:=by
 rcases g with⟨aM,k,ob,e,ey,l⟩|⟨aM,k,b,e,ey,eb,l⟩
 ·subst ey;obtain⟨z,hd,vs,su,dd⟩:=t8 I.hok e;obtain⟨w',hw,GZ⟩:=ln.some_of (v:=v) (o:=valueAt vs k) (by rw[l];exact su.val k);exact wpAny_getItem_of (t6 ry) dd.mapOf hw (h w' _ (I.tok _) GZ)
 ·subst ey;cases (show u=Value.ref b from ry)
  obtain⟨z,hd,xs,su,dd⟩:=t9 I.hok e;obtain⟨w',hw,GZ⟩:=ln.some_of (v:=v) (o:=(atKey xs k).map (·.2)) (by rw[l];exact su.val k);obtain⟨p,hp,XT⟩:=oY hw;refine wpAny_getItem_heap (tupleKind_room_in1 hu) (pY I.hok eb) dd hp ?_;rw[XT];exact h w' _ (I.tok _) GZ
theorem SR (hu:A.units+1<cLine)(I:Inv X af σ H s)(g:vw H a y o)(ry:aY y u)(h:∀s',Inv X af σ H s'->Q (.bool o.isSome) s'):
  wpAny (model X.prog X.w) A (compareOp .In u (.ref a)) Q E s:=by
 rcases g with⟨aM,k,ob,e,ey,l⟩|⟨aM,k,b,e,ey,eb,l⟩
 ·subst ey;obtain⟨z,hd,vs,su,dd⟩:=t8 I.hok e;refine wpAny_in_of (t6 ry) hd dd.mapOf ?_;rw[←(su.val k).isSome_eq,←l];exact h _ (I.tok _)
 ·subst ey;cases (show u=Value.ref b from ry)
  obtain⟨z,hd,xs,su,dd⟩:=t9 I.hok e;refine wpAny_in_heap (tupleKind_room_in1 hu) (pY I.hok eb) hd dd ?_;have q:=(su.val k).isSome_eq;rw[Option.isSome_map]at q;rw[←q,←l];exact h _ (I.tok _)
theorem vx (I:Inv X af σ H s)(mu:Pa (H a))(hs:Heap.SameBut a s.heap h')(he:∃q,h'.get? a=some q)(new:bU X.prog X.w (upd H a ob) h' a ob):
  Inv X af σ (upd H a ob) { s with heap:=h',toks:=t' } :=
 I.write (x:=a) (e:=a) mu (.inl rfl) (λb q hb z=>(hs.2 b hb).trans z) he new
theorem E7 (z:aM.length<=sizeLine)(hd:(a == sysModules)=false)(su:KV aM vs)(dd:h'.DictOf (cz P w) a vs)(hg:h'.get? a=some ob):
  bU P w H' h' a (.dK aM ob):=⟨hg,z,hd,vs,su,dd⟩
theorem CY (hu:A.units+1<cLine)(I:Inv X af σ H s)(g:PF H a y v R)(ry:aY y u)(rv:aY v r)(h:∀H' s',R H'->Inv X af σ H' s'->Q () s'):
  wpAny (model X.prog X.w) A (setItem (.ref a) u r) Q E s:=by
 rcases g with⟨aM,k,ob,e,ey,l,eH⟩|⟨aM,k,b,e,ey,eb,l,eH⟩
 ·subst ey;obtain⟨z,hd,vs,su,dd⟩:=pX I.hok e;have hz:vs.length<=sizeLine:=by rw[←su.length];exact z
  have hl:(mr aM k v).length<=sizeLine:=by have:=ko aM k v;omega
  refine wpAny_setItem_pairs (hsz:=hz) (t6 ry) dd λh' Kg hs=>?_;obtain⟨q,hq⟩:∃q,h'.get? a=some q:=let ⟨q,_,_,hq,_⟩:=Kg;⟨q,hq⟩;exact h _ _ (eH q) (vx I (by rw[e];exact True.intro) hs ⟨q,hq⟩ (E7 hl hd (su.put k rv) Kg hq))
 ·subst ey;cases (show u=Value.ref b from ry)
  obtain⟨z,hd,xs,su,dd⟩:=PD I.hok e;have hz:xs.length<=sizeLine:=by rw[←Paired.length su];exact z
  have hl:(mr aM k v).length<=sizeLine:=by have:=ko aM k v;omega
  refine wpAny_setItem_heap (hsz:=hz) (tupleKind_room_in1 hu) (pY I.hok eb) dd λh' Kg hs=>h _ _ eH ?_;obtain⟨q,es,ep,hq,h2,h3,h4,_,h5⟩:=Kg;refine vx I (by rw[e];exact True.intro) hs ⟨q,hq⟩ ⟨hl,hd,_,(su.put k eb rv).keeps λc ys ec=>?_,q,es,ep,hq,h2,h3,h4,h5⟩;rw[aL (OZ ec e (λz=>nomatch z))];exact ec
end
def M2 (i:Expr):Prop:=∀ov iv,subscripted i false ov iv=operate [ov,iv] (getItem ov iv)
theorem Im {prog:Program}{w:World}{A:Around}{E:Value->Shared->Prop}{s:Shared}{env:Env}{value slice:Expr}{pos:Pos}{T id:String}{Q:Value->Shared->Prop}
  (hl:typeLookup (.type T) "__getitem__" = pure (some (.builtin id))) (hs:M2 slice)
  (h:wpAny (model prog w) A (eval value env) (λo s₁=>wpAny (model prog w) A (eval slice env) (λi s₂=>s₂.TypeIs o T/\wpAny (model prog w) A (getItem o i) Q E s₂) E s₁) E s):
  wpAny (model prog w) A (eval (.Subscript value slice pos) env) Q E s:=by
 refine Subscript_ (wpAny_mono h (λo s₁ h₁=>wpAny_mono h₁ (λi s₂ h₂=>?_) λ_ _ x=>x) λ_ _ x=>x);obtain⟨hT,h₂⟩:=h₂;unfold subscriptTail;refine wX ?_;rw[getitemInPython_of_ne hT.not_modules];refine wX (wpAny_specialOf hT hl ?_);have lm:wpAny (model prog w) A (subscripted slice false o i) (λr s₃=>wpAny (model prog w) A (letTemporaryGo value o r>>=λ_=>pure r) Q E s₃) E s₂:=by
  rw[hs o i];exact wpAny_operating (wpAny_mono h₂ (λr s₃ h₃=>wX (wpAny_letTemporaryGo (wY h₃))) λ_ _ x=>x)
 first
  |exact wY (wX lm)
  |exact wX (wY (wX lm))
  |exact wX lm
theorem xB (I:Inv X af σ H s)(g:vw H a y o):s.TypeIs (.ref a) "dict":=by
 rcases g with⟨aM,k,T8,e,_,_⟩|⟨aM,k,b,e,_,_,_⟩
 ·obtain⟨_,_,vs,_,dd⟩:=t8 I.hok e;exact dd.typeIs
 ·obtain⟨_,_,xs,_,dd⟩:=t9 I.hok e;exact dd.typeIs
def PH (td ty:TE):TE:=λσ H Q=>td σ H λx H1=>ty σ H1 λy H2=>∃a v,x=.ref a/\vw H2 a y (some v)/\Q v H2
def SS (ty td:TE):TE:=λσ H Q=>ty σ H λy H1=>td σ H1 λx H2=>∃a o,x=.ref a/\vw H2 a y o/\Q (.bl o.isSome) H2
def Bg (td ty tv:TE):TS:=λD σ H=>tv σ H λv H1=>td σ H1 λx H2=>ty σ H2 λy H3=>∃a,x=.ref a/\PF H3 a y v (D.nx σ)
section
variable {X:Cx}{o i e value:Expr}{pos z7 DV:Pos}{td ty tv:TE}
theorem Io (hu:X.A.units+1<cLine)(ho:PE X o td)(hi:PE X i ty)(hs:M2 i):PE X (.Subscript o i pos) (PH td ty):=by
 intro af s σ H Q I h;refine Im PySem.F.slot_dict_getitem.lookup hs (cR (ho af s σ H _ I h) λu s1 ⟨x,H1,I1,rx,q1⟩=>cR (hi af s1 σ H1 _ I1 q1) λiv s2 ⟨y,H2,I2,ry,a,v,ex,g,q2⟩=>?_);subst ex;obtain rfl:u=Value.ref a:=rx;exact⟨xB I2 g,CW hu I2 g ry λw' s3 I3 GZ=>⟨v,H2,I3,GZ,q2⟩⟩
theorem E8 (hu:X.A.units+1<cLine)(hi:PE X i ty)(ho:PE X o td):PC X .In i o (SS ty td):=by
 intro af s σ H Q I h;refine cR (hi af s σ H _ I h) λiv s1 ⟨y,H1,I1,ry,q1⟩=>cR (ho af s1 σ H1 _ I1 q1) λu s2 ⟨x,H2,I2,rx,a,ov,ex,g,q2⟩=>?_;subst ex;obtain rfl:u=Value.ref a:=rx;exact SR hu I2 g ry λs3 I3=>⟨.bl ov.isSome,H2,I3,rfl,q2⟩
theorem vy (hu:X.A.units+1<cLine)(ho:PE X o td)(hi:PE X i ty)(hv:PE X value tv)(hs:swapsWith value (some (.Subscript o i z7)) pos.line X.env=pure false):
  PS X (.Assign [.Subscript o i z7] value pos) (Bg td ty tv):=by
 intro af s σ H D I h;refine wpAny_Assign_Subscript (cR (hv af s σ H _ I h) λr s1 ⟨v,H1,I1,rv,q1⟩=>cR (ho af s1 σ H1 _ I1 q1) λu s2 ⟨x,H2,I2,rx,q2⟩=>cR (hi af s2 σ H2 _ I2 q2) λiv s3 ⟨y,H3,I3,ry,a,ex,g⟩=>?_) hs;subst ex;obtain rfl:u=Value.ref a:=rx;exact CY hu I3 g ry rv λH4 s4 q3 I4=>⟨σ,H4,I4,q3⟩
end
theorem xC (h:Heap)(hb:sysModules<h.objs.size):bU P w H (h.push { cls:=.type "dict",data:=.dict #[] }) h.objs.size (.dK [] { cls:=.type "dict",data:=.dict #[] }) :=
 ⟨vY _ rfl,uN _,beq_eq_false_iff_ne.mpr (Ne.symm (vS hb)),[],.nil,Heap.DictOf.new h⟩
theorem E9 (h:Heap)(hb:sysModules<h.objs.size):bU P w H (h.push { cls:=.type "dict",data:=.dict #[] }) h.objs.size (.dT []) :=
 ⟨uN _,beq_eq_false_iff_ne.mpr (Ne.symm (vS hb)),[],.nil,_,#[],0,vY _ rfl,⟨rfl,rfl,rfl⟩,rfl,rfl,List.nodup_nil⟩
def EA:TE:=λ_ H Q=>∀p ob,H p=none->Q (.ref p) (upd H p (.dK [] ob))
def EB:TE:=λ_ H Q=>∀p,H p=none->Q (.ref p) (upd H p (.dT []))
section
variable {X:Cx}{pos:Pos}
theorem EC:PE X (.Dict [] [] pos) EA:=λaf s σ H Q I h=>
 wpAny_Dict_empty ⟨.ref s.heap.objs.size,_,I.laid (a:=s.heap.objs.size) (o:=.dK [] { cls:=.type "dict",data:=.dict #[] }) (t':=s.toks) (λ_ _ q=>vZ _ q) (vT _) (xC s.heap I.big),rfl,h _ _ (I.hok.fresh (vT _))⟩
theorem ED:PE X (.Dict [] [] pos) EB:=λaf s σ H Q I h=>
 wpAny_Dict_empty ⟨.ref s.heap.objs.size,_,I.laid (a:=s.heap.objs.size) (o:=.dT []) (t':=s.toks) (λ_ _ q=>vZ _ q) (vT _) (E9 s.heap I.big),rfl,h _ (I.hok.fresh (vT _))⟩
end
structure M1 (X:Cx)(o:Expr)(m:Str)(dI:Pos)(e:Expr)(cJ:Pos):Prop where
 base:attributeBase o m X.env (eval o X.env)=eval o X.env
 few:((backTo cJ (starEach [e] X.env)).all (λx=>!x.1) && (backToKw cJ (keywordEach [] X.env)).all (λx=>x.1.isSome)
  && decide (([e]:List Expr).length+([]:List Keyword).length+(if([]:List Keyword).isEmpty then 0 else 1)<30))=true
 line:(dI.endLine == cJ.line)=true
 trees:backTo cJ (starEach [e] X.env)=[(false,eval e X.env)]
def Vj (H:Hp)(a:Addr):Prop:=(∃aM ob,Rd H a (.dK aM ob))∨∃aM,Rd H a (.dT aM)
theorem M3 (I:Inv X af σ H s)(d:Vj H a):
  s.TypeIs (.ref a) "dict"/\(∀b,Value.ref a=.ref b->∃ob,s.heap.get? b=some ob/\ob.dict=none)/\(a == sysModules)=false:=by
 rcases d with⟨aM,T8,e⟩|⟨aM,e⟩
 ·obtain⟨_,hd,vs,_,dd⟩:=t8 I.hok e;refine⟨dd.typeIs,λb q=>?_,hd⟩;cases q
  obtain⟨ob,_,_,h1,h2,_⟩:=dd;exact⟨ob,h1,h2.2.1⟩
 ·obtain⟨_,hd,xs,_,dd⟩:=t9 I.hok e;refine⟨dd.typeIs,λb q=>?_,hd⟩;cases q
  obtain⟨ob,_,_,h1,h2,_⟩:=dd;exact⟨ob,h1,h2.2.1⟩
section
variable {X:Cx}{af:List (Addr×Obj)}{σ:St}{H:Hp}{s:Shared}{a:Addr}{y d:V}{u r:Value}{o:Option V}{A:Around}{E:Value->Shared->Prop}
theorem M4 (hu:A.units+1<cLine)(I:Inv X af σ H s)(g:vw H a y o)(ry:aY y u)(h:∀w' s',Inv X af σ H s'->aY (o.getD .non) w'->Q w' s'):
  wpAny (model X.prog X.w) A (call (.builtin "dict.get") [.ref a,u]) Q E s:=by
 rcases g with⟨aM,k,ob,e,ey,l⟩|⟨aM,k,b,e,ey,eb,l⟩
 ·subst ey;obtain⟨z,hd,vs,su,dd⟩:=t8 I.hok e;refine call_meetsIn PySem.F.slot_dict_get dd.typeIs PySem.F.entry_dict_get (PySem.F.args_dict_get_2 _ _) (meets_dict_get (cz X.prog X.w) a (t6 ry) hd) ⟨_,dd.mapOf,h _ _ (I.tok _) ?_⟩;rw[l];exact(su.val k).getD rfl
 ·subst ey;cases (show u=Value.ref b from ry)
  obtain⟨z,hd,xs,su,dd⟩:=t9 I.hok e;refine call_meetsIn PySem.F.slot_dict_get dd.typeIs PySem.F.entry_dict_get (PySem.F.args_dict_get_2 _ _) (meetsH_dict_get (tupleKind (cz X.prog X.w)) a b hd) ⟨tupleKind_room_in1 hu,k,xs,pY I.hok eb,dd,h _ _ (I.tok _) ?_⟩;rw[l];exact(su.val k).getD rfl
end
def M5 (td ty:TE):TE:=λσ H Q=>td σ H λx H1=>∃a,x=.ref a/\Vj H1 a/\ty σ H1 λy H2=>∃o,vw H2 a y o/\Q (o.getD .non) H2
section
variable {X:Cx}{o e f:Expr}{dI cJ:Pos}{td ty tx:TE}
theorem xD (hu:X.A.units+1<cLine)(ho:PE X o td)(he:PE X e ty)(m:M1 X o "get" dI e cJ):PE X (.Call (.Attribute o "get" dI) [e] [] cJ) (M5 td ty):=by
 intro af s σ H Q I h;refine wpAny_Call_method m.base m.few m.line PySem.F.plainAttrs_dict PySem.F.slot_dict_get PySem.F.type_dict_get (cR (ho af s σ H _ I h) λu s1 ⟨x,H1,I1,rx,a,ex,d,q1⟩=>?_);subst ex;obtain rfl:u=Value.ref a:=rx;obtain⟨t1,t2,_⟩:=M3 I1 d;refine⟨t1,t2,?_⟩;rw[m.trees];refine Calls.callWith_builtin rfl (Calls.evalArgs_plain (Calls.spliced_cons (cR (he af s1 σ H1 _ I1 q1) λiv s2 ⟨y,H2,I2,ry,ov,g,q2⟩=>Calls.spliced_nil ?_)));exact M4 hu I2 g ry λw' s3 I3 GZ=>⟨_,H2,I3,GZ,q2⟩
end
end L2
namespace DL
open PySem L2
set_option linter.all false
abbrev St:=L2.St
inductive D where
 |non|bl (b:Bool)|int (i:Int)|str (x:Str)|ty (n:String)|tup (ds:List D)|lst (ds:List D)
  |dk (ks:List cD) (vs:List D)|dt (ks:List (List cD)) (vs:List D)
mutual
inductive Is (K:PySem.W.Frag)(H:Hp):V->D->Prop where
 |non:Is K H .non .non
 |bl (b:Bool):Is K H (.bl b) (.bl b)
 |int (i:Int):Is K H (.int i) (.int i)
 |str (x:Str):Is K H (.str x) (.str x)
 |ty (n:String):Is K H (.ty n) (.ty n)
 |tup {a:Addr}{vs:List V}{ds:List D}(h:jm K H a vs) (hs:IsL K H vs ds):Is K H (.ref a) (.tup ds)
 |lst {a:Addr}{vs:List V}{ds:List D}(h:iM K H a vs) (hs:IsL K H vs ds):Is K H (.ref a) (.lst ds)
 |dk {a:Addr}{ks:List cD}{vs:List V}{ds:List D}{ob:Obj}(h:H a=some (.dK (ks.zip vs) ob)) (hl:ks.length=vs.length) (hs:IsL K H vs ds):Is K H (.ref a) (.dk ks ds)
 |dt {a:Addr}{ks:List (List cD)}{vs:List V}{ds:List D}(h:H a=some (.dT (ks.zip vs))) (hl:ks.length=vs.length) (hs:IsL K H vs ds):Is K H (.ref a) (.dt ks ds)
inductive IsL (K:PySem.W.Frag)(H:Hp):List V->List D->Prop where
 |nil:IsL K H [] []
 |cons {v:V}{d:D}{vs:List V}{ds:List D}(h:Is K H v d) (hs:IsL K H vs ds):IsL K H (v::vs) (d::ds)
end
mutual
def bu:D->Bool
 |.lst _=>false
 |.dk _ _=>false
 |.dt _ _=>false
 |.tup ds=>b8 ds
 |_=>true
def b8:List D->Bool
 |[]=>true
 |d::ds=>bu d && b8 ds
end
@[simp] theorem Oq:bu .non=true:=by simp only[bu]
@[simp] theorem PJ (b:Bool):bu (.bl b)=true:=by simp only[bu]
@[simp] theorem Ot (i:Int):bu (.int i)=true:=by simp only[bu]
@[simp] theorem Ou (x:Str):bu (.str x)=true:=by simp only[bu]
@[simp] theorem PK (x:String):bu (.ty x)=true:=by simp only[bu]
@[simp] theorem Ov (ds:List D):bu (.tup ds)=b8 ds:=by rw[bu]
@[simp] theorem Ow (ds:List D):bu (.lst ds)=false:=by rw[bu]
@[simp] theorem PL (ks:List cD)(ds:List D):bu (.dk ks ds)=false:=by rw[bu]
@[simp] theorem PM (ks:List (List cD))(ds:List D):bu (.dt ks ds)=false:=by rw[bu]
@[simp] theorem M6:b8 []=true:=by rw[b8]
@[simp] theorem K5 (d:D)(ds:List D):b8 (d::ds)=(bu d && b8 ds):=by rw[b8]
section
variable {K:PySem.W.Frag}{H H':Hp}
mutual
theorem Is.keep (hT:∀a vs,jm K H a vs->jm K H' a vs)(hL:∀a vs,iM K H a vs->iM K H' a vs)(hK:∀a aM ob,H a=some (.dK aM ob)->H' a=some (.dK aM ob))(hM:∀a aM,H a=some (.dT aM)->H' a=some (.dT aM)):∀ {v:V}{d:D},Is K H v d->Is K H' v d
 |_,_,.non=>.non
 |_,_,.bl b=>.bl b
 |_,_,.int i=>.int i
 |_,_,.str x=>.str x
 |_,_,.ty x=>.ty x
 |_,_,.tup h hs=>.tup (hT _ _ h) (IsL.keep hT hL hK hM hs)
 |_,_,.lst h hs=>.lst (hL _ _ h) (IsL.keep hT hL hK hM hs)
 |_,_,.dk h hl hs=>.dk (hK _ _ _ h) hl (IsL.keep hT hL hK hM hs)
 |_,_,.dt h hl hs=>.dt (hM _ _ h) hl (IsL.keep hT hL hK hM hs)
theorem IsL.keep (hT:∀a vs,jm K H a vs->jm K H' a vs)(hL:∀a vs,iM K H a vs->iM K H' a vs)(hK:∀a aM ob,H a=some (.dK aM ob)->H' a=some (.dK aM ob))(hM:∀a aM,H a=some (.dT aM)->H' a=some (.dT aM)):∀ {vs:List V}{ds:List D},IsL K H vs ds->IsL K H' vs ds
 |_,_,.nil=>.nil
 |_,_,.cons h hs=>.cons (Is.keep hT hL hK hM h) (IsL.keep hT hL hK hM hs)
end
mutual
theorem Is.keepT (hT:∀a vs,jm K H a vs->jm K H' a vs):∀ {v:V}{d:D},Is K H v d->bu d=true->Is K H' v d
 |_,_,.non,_=>.non
 |_,_,.bl b,_=>.bl b
 |_,_,.int i,_=>.int i
 |_,_,.str x,_=>.str x
 |_,_,.ty x,_=>.ty x
 |_,_,.tup h hs,n=>.tup (hT _ _ h) (IsL.keepT hT hs (by simpa using n))
 |_,_,.lst h hs,n=>by simp at n
 |_,_,.dk h hl hs,n=>by simp at n
 |_,_,.dt h hl hs,n=>by simp at n
theorem IsL.keepT (hT:∀a vs,jm K H a vs->jm K H' a vs):∀ {vs:List V}{ds:List D},IsL K H vs ds->b8 ds=true->IsL K H' vs ds
 |_,_,.nil,_=>.nil
 |_,_,.cons h hs,n=>by
  simp at n;exact .cons (Is.keepT hT h n.1) (IsL.keepT hT hs n.2)
end
theorem bw (e:aZ H H')(h:jm K H a xs):jm K H' a xs:=by
 rcases h with (h|⟨o,h⟩)|h
 ·exact .inl (.inl (e _ _ h))
 ·exact .inl (.inr ⟨o,e _ _ h⟩)
 ·exact .inr h
theorem Is.mono (h:Is K H v d)(e:aZ H H'):Is K H' v d:=h.keep (λ_ _=>bw e) (λ_ _=>e.seq) (λ_ _ _ q=>e _ _ q) λ_ _ q=>e _ _ q
theorem IsL.mono (h:IsL K H v d)(e:aZ H H'):IsL K H' v d:=h.keep (λ_ _=>bw e) (λ_ _=>e.seq) (λ_ _ _ q=>e _ _ q) λ_ _ q=>e _ _ q
theorem IsL.length:∀ {vs:List V}{ds:List D},IsL K H vs ds->vs.length=ds.length
 |_,_,.nil=>rfl
 |_,_,.cons _ t=>congrArg (· + 1) t.length
theorem IsL.get:∀ {vs:List V}{ds:List D}{i:Nat}{d:D},IsL K H vs ds->ds[i]? = some d->∃v,vs[i]? = some v/\Is K H v d
 |_,_,_,_,.nil,e=>by simp at e
 |_,_,0,_,.cons h _,e=>by simp at e;subst e;exact⟨_,rfl,h⟩
 |_,_,i+1,d,.cons _ t,e=>by
  obtain⟨u,h1,h2⟩:=t.get (i:=i) (d:=d) (by simpa using e);exact⟨u,by simpa using h1,h2⟩
theorem IsL.append:∀ {vs ws:List V}{ds es:List D},IsL K H vs ds->IsL K H ws es->IsL K H (vs++ws) (ds++es)
 |_,_,_,_,.nil,s=>s
 |_,_,_,_,.cons r t,s=>.cons r (t.append s)
theorem IsL.take:∀ {vs:List V}{ds:List D}(n:Nat),IsL K H vs ds->IsL K H (vs.take n) (ds.take n)
 |_,_,0,_=>by simpa using IsL.nil
 |_,_,_+1,.nil=>.nil
 |_,_,n+1,.cons r t=>.cons r (t.take n)
theorem IsL.drop:∀ {vs:List V}{ds:List D}(n:Nat),IsL K H vs ds->IsL K H (vs.drop n) (ds.drop n)
 |_,_,0,r=>r
 |_,_,_+1,.nil=>.nil
 |_,_,n+1,.cons _ t=>t.drop n
theorem IsL.set (h:Is K H v d):∀ {vs:List V}{ds:List D}(i:Nat),IsL K H vs ds->IsL K H (vs.set i v) (ds.set i d)
 |_,_,_,.nil=>.nil
 |_,_,0,.cons _ t=>.cons h t
 |_,_,i+1,.cons r t=>.cons r (IsL.set h i t)
theorem IsL.eraseIdx:∀ {vs:List V}{ds:List D}(i:Nat),IsL K H vs ds->IsL K H (vs.eraseIdx i) (ds.eraseIdx i)
 |_,_,_,.nil=>.nil
 |_,_,0,.cons _ t=>t
 |_,_,i+1,.cons r t=>.cons r (t.eraseIdx i)
theorem IsL.flat {vs:List V}{ns:List Int}(h:vs=ns.map V.int):IsL K H vs (ns.map D.int):=by
 subst h;induction ns with
 |nil=>exact .nil
 |cons n ns ih=>exact .cons (.int n) ih
end
structure Ext (B N H H':Hp):Prop where
 hh:aZ H H'
 bn:aZ B N
 nh:aZ N H'
 new:∀a o,N a=some o->B a=some o∨H a=none
theorem Ext.refl (h:aZ B H):Ext B B H H:=⟨.refl _,.refl _,h,λ_ _ e=>.inl e⟩
theorem Ext.trans (x:Ext B N H H1)(y:Ext N N2 H1 H2):Ext B N2 H H2 :=
 ⟨x.hh.trans y.hh,x.bn.trans y.bn,y.nh,λa o e=>(y.new a o e).elim (λq=>x.new a o q) λq=>.inr (x.hh.free q)⟩
theorem Ext.laid (h:aZ B H)(hp:H p=none):Ext B (upd B p o) H (upd H p o):=by
 have hB:B p=none:=h.free hp;refine⟨λa u e=>?_,λa u e=>?_,λa u e=>?_,λa u e=>?_⟩
 ·rw[aL (λq=>by subst q;rw[hp]at e;cases e)];exact e
 ·rw[aL (λq=>by subst q;rw[hB]at e;cases e)];exact e
 ·by_cases q:a=p
  ·subst q;rw[aH]at e ⊢;exact e
  ·rw[aL q]at e ⊢;exact h _ _ e
 ·by_cases q:a=p
  ·subst q;exact .inr hp
  ·rw[aL q]at e;exact .inl e
theorem Ext.grow (h:aZ B H)(hh:aZ H H'):Ext B B H H':=⟨hh,.refl _,h.trans hh,λ_ _ e=>.inl e⟩
abbrev Env:=List (Option (D×Bool))
abbrev FE:=Env->Option (D×Bool)
abbrev FA:=Env->Option (List D)
abbrev FT:=Env->Option Bool
def Ox (K:PySem.W.Frag)(H N:Hp)(v:V)(d:D):Prop:=∃(a:Addr)(vs:List V)(ds:List D),v=.ref a/\d=.lst ds/\H a=none/\N a=some (.lst vs)/\IsL K N vs ds
theorem Ox.back (h:Ox K H' N v d)(e:aZ H H'):Ox K H N v d:=let ⟨a,vs,ds,q,y,z,r⟩:=h;⟨a,vs,ds,q,y,e.free z,r⟩
noncomputable def mz:List Str:=["in_order","has_seal","is_first_death","bases_by"]
noncomputable def pZ (x:Str):Str:=x ++ ".<locals>." ++ "<lambda>"
def Tb (K:PySem.W.Frag)(B:Hp):Prop:=∀x∈mz,∀c P,PySem.W.tabIn K x=some (c,P)->B P=some (.tbl (pZ x))
theorem Tb.mono (h:Tb K B)(e:aZ B B'):Tb K B':=λx hx c P q=>e _ _ (h x hx c P q)
structure fw (K:PySem.W.Frag)(B:Hp)(σ:St)(ρ:Env):Prop where
 tb:Tb K B
 at':∀(i:Nat)(d:D)(b:Bool),ρ[i]? = some (some (d,b))->∃v,σ[i]? = some (some v)/\Is K B v d
theorem fw.mono (h:fw K B σ ρ)(e:aZ B B'):fw K B' σ ρ:=⟨h.tb.mono e,λi d b q=>let ⟨v,h1,h2⟩:=h.at' i d b q;⟨v,h1,h2.mono e⟩⟩
def Fin (K:PySem.W.Frag)(B H:Hp)(d:D)(b:Bool)(Q:VK):Prop:=∀(v:V)(H' N:Hp),Ext B N H H'->Is K N v d->(b=true->Ox K H N v d)->Q v H'
def tD (K:PySem.W.Frag)(f:FE):TE:=λσ H Q=>∃(B:Hp)(ρ:Env)(d:D)(b:Bool),aZ B H/\fw K B σ ρ/\f ρ=some (d,b)/\Fin K B H d b Q
def CZ (K:PySem.W.Frag)(f:FT):TT:=λσ H Q=>∃(B:Hp)(ρ:Env)(c:Bool),aZ B H/\fw K B σ ρ/\f ρ=some c/\∀H',aZ H H'->Q c H'
def Oy (K:PySem.W.Frag)(f:FA):TA:=λσ H Q=>∃(B:Hp)(ρ:Env)(ds:List D),aZ B H/\fw K B σ ρ/\f ρ=some ds/\∀(vs:List V)(H' N:Hp),Ext B N H H'->IsL K N vs ds->Q vs H'
def rD (K:PySem.W.Frag)(op:D->D->Option (D×Bool)):R2:=λx y H Q=>∃(B:Hp)(dx dy d:D)(b:Bool),aZ B H/\Is K B x dx/\Is K B y dy/\op dx dy=some (d,b)/\Fin K B H d b Q
def SU (K:PySem.W.Frag)(op:D->Option (D×Bool)):V->Hp->VK->Prop:=λx H Q=>∃(B:Hp)(dx d:D)(b:Bool),aZ B H/\Is K B x dx/\op dx=some (d,b)/\Fin K B H d b Q
def Bh (K:PySem.W.Frag)(op:List D->Option (D×Bool)):List V->Hp->VK->Prop:=λxs H Q=>∃(B:Hp)(ds:List D)(d:D)(b:Bool),aZ B H/\IsL K B xs ds/\op ds=some (d,b)/\Fin K B H d b Q
theorem Fin.one (h:Fin K B H d false Q)(s:aZ B H)(i:Is K B v d):Q v H:=h v H B (.refl s) i (by simp)
theorem Fin.into (h:Fin K B H d b Q)(x:Ext B N H H1):Fin K N H1 d b Q:=λv H' N' y i fr=>h v H' N' (x.trans y) i λe=>(fr e).back x.hh
@[simp] noncomputable def fC (d:D):FE:=λ_=>some (d,false)
@[simp] noncomputable def aj (i:Nat):FE:=λρ=>match ρ[i]? with|some (some (d,_))=>some (d,false)|_=>none
@[simp] noncomputable def f2 (op:D->D->Option (D×Bool))(fa fb:FE):FE:=λρ=>(fa ρ).bind λx=>(fb ρ).bind λy=>op x.1 y.1
@[simp] noncomputable def f1 (op:D->Option (D×Bool))(fa:FE):FE:=λρ=>(fa ρ).bind λx=>op x.1
@[simp] noncomputable def ai:FA:=λ_=>some []
@[simp] noncomputable def ae (fa:FE)(fr:FA):FA:=λρ=>(fa ρ).bind λx=>(fr ρ).bind λxs=>some (x.1::xs)
@[simp] noncomputable def fA (op:List D->Option (D×Bool))(fa:FA):FE:=λρ=>(fa ρ).bind op
theorem M7 (h:tD K (aj i) σ H Q):∃v,σ[i]? = some (some v)/\Q v H:=by
 obtain⟨B,ρ,d,b,s,r,e,q⟩:=h;unfold aj at e;split at e
 ·rename_i d' b' e';cases e
  obtain⟨v,h1,h2⟩:=r.at' i _ _ e';exact⟨v,h1,q.one s h2⟩
 ·cases e
theorem Ip (h:tD K (f2 op fa fb) σ H Q):tD K fa σ H λx H1=>tD K fb σ H1 λy H2=>rD K op x y H2 Q:=by
 obtain⟨B,ρ,d,b,s,r,e,q⟩:=h;obtain⟨x,ex,e⟩:=oX e;obtain⟨y,ey,e⟩:=oX e;refine⟨B,ρ,x.1,x.2,s,r,ex,λv H1 N x1 i1 _=>⟨N,ρ,y.1,y.2,x1.nh,r.mono x1.bn,ey,λv2 H2 N2 x2 i2 _=>⟨N2,x.1,y.1,d,b,x2.nh,i1.mono x2.bn,i2,e,?_⟩⟩⟩;exact q.into (x1.trans x2)
theorem SV (h:tD K (f1 op fa) σ H Q):tD K fa σ H λx H1=>SU K op x H1 Q:=by
 obtain⟨B,ρ,d,b,s,r,e,q⟩:=h;obtain⟨x,ex,e⟩:=oX e;exact⟨B,ρ,x.1,x.2,s,r,ex,λv H1 N x1 i1 _=>⟨N,x.1,d,b,x1.nh,i1,e,q.into x1⟩⟩
theorem Iq (h:tD K (fA op fa) σ H Q):Oy K fa σ H λxs H1=>Bh K op xs H1 Q:=by
 obtain⟨B,ρ,d,b,s,r,e,q⟩:=h;obtain⟨x,ex,e⟩:=oX e;exact⟨B,ρ,x,s,r,ex,λv H1 N x1 i1=>⟨N,x,d,b,x1.nh,i1,e,q.into x1⟩⟩
theorem Ir (h:Oy K ai σ H Q):Q [] H:=by
 obtain⟨B,ρ,ds,s,r,e,q⟩:=h;cases e
 exact q [] H B (.refl s) .nil
theorem EE (h:Oy K (ae fa fr) σ H Q):tD K fa σ H λx H1=>Oy K fr σ H1 λxs H2=>Q (x::xs) H2:=by
 obtain⟨B,ρ,ds,s,r,e,q⟩:=h;obtain⟨x,ex,e⟩:=oX e;obtain⟨y,ey,e⟩:=oX e;cases e
 exact⟨B,ρ,x.1,x.2,s,r,ex,λv H1 N x1 i1 _=>⟨N,ρ,y,x1.nh,r.mono x1.bn,ey,λvs H2 N2 x2 i2=>q _ H2 N2 (x1.trans x2) (.cons (i1.mono x2.bn) i2)⟩⟩
@[simp] noncomputable def bg (f:FE):FT:=λρ=>match f ρ with|some (.bl c,_)=>some c|_=>none
@[simp] noncomputable def eG (f g:FT):FT:=λρ=>match f ρ with|some true=>g ρ|some false=>some false|none=>none
@[simp] noncomputable def jq (f g:FT):FT:=λρ=>match f ρ with|some true=>some true|some false=>g ρ|none=>none
@[simp] noncomputable def dQ (f:FT):FT:=λρ=>(f ρ).map (!·)
@[simp] noncomputable def Hx (c:FT)(f g:FE):FE:=λρ=>match c ρ with|some true=>f ρ|some false=>g ρ|none=>none
open Classical in
noncomputable def eD (H:Hp)(P:Addr->Prop):Hp:=λa=>if P a then none else H a
theorem cX (h:¬P a):eD H P a=H a:=by unfold eD;rw[if_neg h]
theorem Ae (h:P a):eD H P a=none:=by unfold eD;rw[if_pos h]
theorem qc (h:eD H P a=some o):¬P a/\H a=some o:=by
 by_cases q:P a
 ·rw[Ae q]at h;cases h
 ·rw[cX q]at h;exact⟨q,h⟩
theorem bV:aZ (eD H P) H:=λ_ _ e=>(qc e).2
theorem eP (e:∀a o,H a=some o->¬P a->H' a=some o/\¬P' a):aZ (eD H P) (eD H' P'):=λa o q=>by
 obtain⟨h1,h2⟩:=qc q;obtain⟨h3,h4⟩:=e a o h2 h1;rw[cX h4];exact h3
noncomputable def join (N N':Hp):Hp:=λa=>match N a with|some o=>some o|none=>N' a
theorem eX:aZ N (join N N'):=λa o e=>by unfold join;rw[e]
theorem eE (e:N a=none):join N N' a=N' a:=by unfold join;rw[e]
def own (σ:St)(ρ:Env)(a:Addr):Prop:=∃(i:Nat)(d:D),ρ[i]? = some (some (d,true))/\σ[i]? = some (some (V.ref a))
inductive Bx (K:PySem.W.Frag)(C:Hp):HO->D->Prop where
 |lst {vs:List V}{ds:List D}(h:IsL K C vs ds):Bx K C (.lst vs) (.lst ds)
 |dk {ks:List cD}{vs:List V}{ds:List D}(hl:ks.length=vs.length) (h:IsL K C vs ds) {ob:Obj}:Bx K C (.dK (ks.zip vs) ob) (.dk ks ds)
 |dt {ks:List (List cD)}{vs:List V}{ds:List D}(hl:ks.length=vs.length) (h:IsL K C vs ds):Bx K C (.dT (ks.zip vs)) (.dt ks ds)
theorem Bx.mono (h:Bx K C o d)(e:aZ C C'):Bx K C' o d:=by
 cases h with
 |lst h=>exact .lst (h.mono e)
 |dk hl h=>exact .dk hl (h.mono e)
 |dt hl h=>exact .dt hl (h.mono e)
theorem Bx.is (h:Bx K C o d)(e:C a=some o):Is K C (.ref a) d:=by
 cases h with
 |lst h=>exact .lst (iM.of e) h
 |dk hl h=>exact .dk e hl h
 |dt hl h=>exact .dt e hl h
structure eM (K:PySem.W.Frag)(B0 H0 N H:Hp)(σ:St)(ρ:Env):Prop where
 bh:aZ B0 H0
 tb:Tb K B0
 ext:Ext B0 N H0 H
 len:ρ.length=σ.length
 sh:∀(i:Nat)(d:D),ρ[i]? = some (some (d,false))->∃v,σ[i]? = some (some v)/\Is K (eD N (own σ ρ)) v d
 ow:∀(i:Nat)(d:D),ρ[i]? = some (some (d,true))->∃(a:Addr)(o:HO),σ[i]? = some (some (V.ref a))/\N a=some o/\H0 a=none/\Bx K (eD N (own σ ρ)) o d
 inj:∀(i j:Nat)(a:Addr)(d e:D),ρ[i]? = some (some (d,true))->ρ[j]? = some (some (e,true))->σ[i]? = some (some (V.ref a))->σ[j]? = some (some (V.ref a))->i=j
def Af (K:PySem.W.Frag)(B0 H0 H:Hp)(σ:St)(ρ:Env):Prop:=∃N,eM K B0 H0 N H σ ρ
section
variable {K:PySem.W.Frag}{B0 H0 N H H':Hp}{σ:St}{ρ:Env}
theorem eM.owL (s:eM K B0 H0 N H σ ρ)(i:Nat)(d:D)(q:ρ[i]? = some (some (.lst es,true)))(hd:d=.lst es:=by rfl):∃(a:Addr)(vs:List V)(ds:List D),d=.lst ds/\σ[i]? = some (some (V.ref a))/\N a=some (.lst vs)/\H0 a=none/\IsL K (eD N (own σ ρ)) vs ds:=by
 obtain⟨a,o,h1,h2,h3,h4⟩:=s.ow i _ q;cases h4 with
 |lst h4=>exact⟨a,_,es,hd,h1,h2,h3,h4⟩
def boxed:HO->Prop
 |.lst _|.dK _ _|.dT _=>True
 |_=>False
theorem Bx.boxed (h:Bx K C o d):boxed o:=by cases h<;>exact trivial
theorem eM.owned (s:eM K B0 H0 N H σ ρ)(h:own σ ρ a):∃o,(N a=some o/\boxed o)/\H0 a=none:=by
 obtain⟨i,d,h1,h2⟩:=h;obtain⟨a',o,h3,h4,h5,h6⟩:=s.ow i d h1;rw[h2]at h3;cases h3;exact⟨o,⟨h4,h6.boxed⟩,h5⟩
theorem eM.rep (s:eM K B0 H0 N H σ ρ):fw K N σ ρ:=⟨s.tb.mono s.ext.bn,λi d b q=>by
 cases b with
 |false=>obtain⟨v,h1,h2⟩:=s.sh i d q;exact⟨v,h1,h2.mono bV⟩
 |true=>
  obtain⟨a,o,h2,h3,_,h4⟩:=s.ow i d q;exact⟨_,h2,(h4.mono bV).is h3⟩⟩
noncomputable def m4 (ρ:Env):Env:=ρ.map λx=>match x with|some (d,false)=>some (d,false)|_=>none
theorem EF {i:Nat}{d:D}{b:Bool}(h:(m4 ρ)[i]? = some (some (d,b))):b=false/\ρ[i]? = some (some (d,false)):=by
 unfold m4 at h;rw[vA]at h;cases e:ρ[i]? with
 |none=>rw[e]at h;cases h
 |some x=>
  rw[e]at h;match x,h with
  |some (d',false),h=>cases h;exact⟨rfl,rfl⟩
  |some (d',true),h=>cases h
  |none,h=>cases h
theorem eM.tbC (s:eM K B0 H0 N H σ ρ):Tb K (eD N (own σ ρ)):=λx hx c P q=>by
 have z:=s.tb.mono s.ext.bn x hx c P q;rw[cX]
 ·exact z
 ·intro y;obtain⟨o,⟨y,yb⟩,_⟩:=s.owned y;rw[z]at y;cases y;exact yb
theorem eM.repH (s:eM K B0 H0 N H σ ρ):fw K (eD N (own σ ρ)) σ (m4 ρ):=⟨s.tbC,λi d b q=>by
 obtain⟨rfl,q2⟩:=EF q;exact s.sh i d q2⟩
theorem eM.grow (s:eM K B0 H0 N H σ ρ)(x:Ext N N' H H'):eM K B0 H0 N' H' σ ρ:=by
 have c:aZ (eD N (own σ ρ)) (eD N' (own σ ρ)):=eP λa o e q=>⟨x.bn a o e,q⟩;refine⟨s.bh,s.tb,s.ext.trans x,s.len,λi d q=>?_,λi d q=>?_,s.inj⟩
 ·obtain⟨v,h1,h2⟩:=s.sh i d q;exact⟨v,h1,h2.mono c⟩
 ·obtain⟨a,o,h2,h3,h4,h5⟩:=s.ow i d q;exact⟨a,o,h2,x.bn _ _ h3,h4,h5.mono c⟩
theorem eM.growH (s:eM K B0 H0 N H σ ρ)(x:Ext (eD N (own σ ρ)) N' H H'):eM K B0 H0 (join N N') H' σ ρ/\aZ N' (eD (join N N') (own σ ρ)):=by
 have x':Ext N (join N N') H H':=by
  refine⟨x.hh,eX,λa o e=>?_,λa o e=>?_⟩
  ·cases q:N a with
   |some u=>
    have:join N N' a=some u:=eX _ _ q;rw[this]at e;cases e;exact x.hh _ _ (s.ext.nh _ _ q)
   |none=>rw[eE q]at e;exact x.nh _ _ e
  ·cases q:N a with
   |some u=>
    have:join N N' a=some u:=eX _ _ q;rw[this]at e;cases e;exact .inl rfl
   |none=>
    rw[eE q]at e;rcases x.new a o e with z|z
    ·have:=bV _ _ z;rw[q]at this;cases this
    ·exact .inr z
 refine⟨s.grow x',λa o e=>?_⟩;rcases x.new a o e with z|z
 ·obtain⟨z1,z2⟩:=qc z;rw[cX z1];exact eX _ _ z2
 ·have hN:N a=none:=s.ext.nh.free z;have:¬own σ ρ a:=λq=>by obtain⟨vs,⟨q,_⟩,_⟩:=s.owned q;rw[hN]at q;cases q
  rw[cX this,eE hN];exact e
noncomputable def unown (ρ:Env):Env:=ρ.map λx=>x.map λy=>(y.1,false)
theorem kR {i:Nat}{d:D}{b:Bool}(h:(unown ρ)[i]? = some (some (d,b))):b=false/\∃c,ρ[i]? = some (some (d,c)):=by
 unfold unown at h;rw[vA]at h;cases e:ρ[i]? with
 |none=>rw[e]at h;cases h
 |some x=>
  rw[e]at h;match x,h with
  |some (d',c),h=>cases h;exact⟨rfl,c,rfl⟩
  |none,h=>cases h
theorem tE {a:Addr}:¬own σ (unown ρ) a:=λ⟨i,d,h,_⟩=>by
 obtain⟨z,_⟩:=kR h;cases z
theorem eM.unown (s:eM K B0 H0 N H σ ρ):eM K B0 H0 N H σ (unown ρ):=by
 refine⟨s.bh,s.tb,s.ext,by unfold DL.unown;rw[vI];exact s.len,λi d q=>?_,λi d q=>?_,λi j a d e q=>?_⟩
 ·obtain⟨_,c,q⟩:=kR q;obtain⟨v,h1,h2⟩:=s.rep.at' i d c q;exact⟨v,h1,h2.mono λa o e=>by rw[cX tE];exact e⟩
 ·obtain⟨z,_⟩:=kR q;cases z
 ·obtain⟨z,_⟩:=kR q;cases z
theorem cx {α:Type}{l:List α}{i j:Nat}{x y:α}(h:(l.set i x)[j]? = some y):(i=j/\x=y)∨(i≠j/\l[j]? = some y):=by
 by_cases e:i=j
 ·subst e;rw[List.getElem?_set]at h;split at h
  ·split at h
   ·exact .inl ⟨rfl,vK h⟩
   ·cases h
  ·contradiction
 ·rw[vB e]at h;exact .inr ⟨e,h⟩
theorem tF {α β:Type}{l:List α}{m:List β}{i:Nat}{x y:α}(h:(l.set i x)[i]? = some y)(e:l.length=m.length):i<m.length:=by
 obtain⟨h,_⟩:=vV h;rw[List.length_set]at h;omega
theorem vz {i:Nat}{v:V}{x:Option (D×Bool)}{a:Addr}(h:own (σ.set i (some v)) (ρ.set i x) a):(v=.ref a/\∃d,x=some (d,true))∨∃j,j≠i/\∃d,ρ[j]? = some (some (d,true))/\σ[j]? = some (some (V.ref a)):=by
 obtain⟨j,d,h1,h2⟩:=h;rcases cx h1 with⟨e,q⟩|⟨e,q⟩
 ·rcases cx h2 with⟨e2,q2⟩|⟨e2,q2⟩
  ·cases q2;exact .inl ⟨rfl,d,q⟩
  ·exact absurd e e2
 ·rcases cx h2 with⟨e2,q2⟩|⟨e2,q2⟩
  ·exact absurd e2 e
  ·exact .inr ⟨j,λz=>e z.symm,d,q,q2⟩
theorem eM.bind (s:eM K B0 H0 N H σ ρ){i:Nat}{v:V}{d:D}(h:Is K (eD N (own σ ρ)) v d):eM K B0 H0 N H (σ.set i (some v)) (ρ.set i (some (d,false))):=by
 have o:∀a,own (σ.set i (some v)) (ρ.set i (some (d,false))) a->own σ ρ a:=λa q=>by
  rcases vz q with⟨_,d',p⟩|⟨j,_,d',q1,q2⟩
  ·cases p
  ·exact⟨j,d',q1,q2⟩
 have c:aZ (eD N (own σ ρ)) (eD N (own (σ.set i (some v)) (ρ.set i (some (d,false))))):=eP λa u e q=>⟨e,λz=>q (o a z)⟩;refine⟨s.bh,s.tb,s.ext,by simp[s.len],λj e q=>?_,λj e q=>?_,λj k a e f q q' h1 h2=>?_⟩
 ·rcases cx q with⟨rfl,p⟩|⟨ne,p⟩
  ·cases p
   have hi:=tF q s.len;exact⟨v,by simp[hi],h.mono c⟩
  ·obtain⟨w,h1,h2⟩:=s.sh j e p;exact⟨w,by rw[vB ne];exact h1,h2.mono c⟩
 ·rcases cx q with⟨rfl,p⟩|⟨ne,p⟩
  ·cases p
  ·obtain⟨a,o,h1,h2,h3,h4⟩:=s.ow j e p;exact⟨a,o,by rw[vB ne];exact h1,h2,h3,h4.mono c⟩
 ·rcases cx q with⟨rfl,p⟩|⟨ne,p⟩
  ·cases p
  ·rcases cx q' with⟨rfl,p'⟩|⟨QH,p'⟩
   ·cases p'
   ·rw[vB ne]at h1;rw[vB QH]at h2;exact s.inj j k a e f p p' h1 h2
theorem eM.bindOwn (s:eM K B0 H0 N H σ ρ){i:Nat}{a:Addr}{ob:HO}{dd:D}(hN:N a=some ob)(h0:H0 a=none)(OF:∀(j:Nat)(d:D),ρ[j]? = some (some (d,true))->σ[j]? ≠ some (some (V.ref a)))
  (TW:∀(j:Nat)(d:D),j≠i->ρ[j]? = some (some (d,false))->∃v,σ[j]? = some (some v)/\Is K (eD N (λb=>own σ ρ b∨b=a)) v d) (XU:∀(j:Nat)(d:D),j≠i->ρ[j]? = some (some (d,true))->∃(a':Addr)(o:HO),σ[j]? = some (some (V.ref a'))/\N a'=some o/\Bx K (eD N (λb=>own σ ρ b∨b=a)) o d)
  (NM:Bx K (eD N (λb=>own σ ρ b∨b=a)) ob dd):eM K B0 H0 N H (σ.set i (some (.ref a))) (ρ.set i (some (dd,true))):=by
 have o:∀b,own (σ.set i (some (V.ref a))) (ρ.set i (some (dd,true))) b->own σ ρ b∨b=a:=λb q=>by
  rcases vz q with⟨p,_⟩|⟨j,_,d',q1,q2⟩
  ·cases p;exact .inr rfl
  ·exact .inl ⟨j,d',q1,q2⟩
 have c:aZ (eD N (λb=>own σ ρ b∨b=a)) (eD N (own (σ.set i (some (V.ref a))) (ρ.set i (some (dd,true))))):=eP λb u e q=>⟨e,λz=>q (o b z)⟩;refine⟨s.bh,s.tb,s.ext,by simp[s.len],λj e q=>?_,λj e q=>?_,λj k b e f q q' h1 h2=>?_⟩
 ·rcases cx q with⟨rfl,p⟩|⟨ne,p⟩
  ·cases p
  ·obtain⟨w,h1,h2⟩:=TW j e (Ne.symm ne) p;exact⟨w,by rw[vB ne];exact h1,h2.mono c⟩
 ·rcases cx q with⟨rfl,p⟩|⟨ne,p⟩
  ·cases p
   have hi:=tF q s.len;exact⟨a,ob,by simp[hi],hN,h0,NM.mono c⟩
  ·obtain⟨a',o',h1,h2,h4⟩:=XU j e (Ne.symm ne) p;have h3:H0 a'=none:=by
    obtain⟨a2,_,k1,_,k3,_⟩:=s.ow j e p;rw[h1]at k1;cases k1;exact k3
   exact⟨a',o',by rw[vB ne];exact h1,h2,h3,h4.mono c⟩
 ·rcases cx q with⟨rfl,p⟩|⟨ne,p⟩
  ·rcases cx q' with⟨rfl,p'⟩|⟨QH,p'⟩
   ·rfl
   ·rw[vB QH]at h2;have Se:V.ref a=V.ref b:=by
     rcases cx h1 with⟨_,z⟩|⟨z,_⟩
     ·exact vK z
     ·exact absurd rfl z
    cases Se
    exact absurd h2 (OF k f p')
  ·rcases cx q' with⟨rfl,p'⟩|⟨QH,p'⟩
   ·rw[vB ne]at h1;have Hd:V.ref a=V.ref b:=by
     rcases cx h2 with⟨_,z⟩|⟨z,_⟩
     ·exact vK z
     ·exact absurd rfl z
    cases Hd
    exact absurd h1 (OF j e p)
   ·rw[vB ne]at h1;rw[vB QH]at h2;exact s.inj j k b e f p p' h1 h2
end
inductive Res where
 |nx (ρ:Env)|rt (d:D) (b:Bool)|bk (ρ:Env)|ct (ρ:Env)
abbrev FS:=Env->Option Res
def PN (K:PySem.W.Frag)(B0 H0:Hp)(E:Ends):Res->Prop
 |.nx ρ=>∀σ H,Af K B0 H0 H σ ρ->E.nx σ H
 |.rt d b=>∀v H N,Ext B0 N H0 H->Is K N v d->(b=true->Ox K H0 N v d)->E.rt v H
 |.bk ρ=>∀σ H,Af K B0 H0 H σ ρ->E.bk σ H
 |.ct ρ=>∀σ H,Af K B0 H0 H σ ρ->E.ct σ H
def oF (K:PySem.W.Frag)(g:FS):TS:=λE σ H=>∃(B0 H0:Hp)(ρ:Env)(r:Res),Af K B0 H0 H σ ρ/\g ρ=some r/\PN K B0 H0 E r
section
variable {K:PySem.W.Frag}{B0 H0 N H H':Hp}{σ:St}{ρ:Env}{E:Ends}
theorem eM.writeB (s:eM K B0 H0 N H σ ρ)(hi:ρ[i]? = some (some (d,true)))(hσ:σ[i]? = some (some (V.ref a)))(h:Bx K (eD N (own σ ρ)) ob dd):
  eM K B0 H0 (upd N a ob) (upd H a ob) σ (ρ.set i (some (dd,true))):=by
 have oa:own σ ρ a:=⟨i,d,hi,hσ⟩;obtain⟨ws,hw,h0⟩:=s.owned oa;have b0:B0 a=none:=s.bh.free h0;have o:∀b,own σ (ρ.set i (some (dd,true))) b↔own σ ρ b:=λb=>by
  constructor
  ·rintro⟨j,e,q1,q2⟩;rcases cx q1 with⟨rfl,p⟩|⟨_,p⟩
   ·exact⟨i,d,hi,q2⟩
   ·exact⟨j,e,p,q2⟩
  ·rintro⟨j,e,q1,q2⟩;by_cases z:i=j
   ·subst z;exact⟨i,dd,by rw[List.getElem?_set_self (vV hi).1],q2⟩
   ·exact⟨j,e,by rw[vB z];exact q1,q2⟩
 have c:aZ (eD N (own σ ρ)) (eD (upd N a ob) (own σ (ρ.set i (some (dd,true))))):=eP λb u e q=>by
  have ne:b≠a:=λz=>q (z ▸ oa);exact⟨by rw[aL ne];exact e,λz=>q ((o b).mp z)⟩
 refine⟨s.bh,s.tb,⟨λb u e=>?_,λb u e=>?_,λb u e=>?_,λb u e=>?_⟩,by rw[List.length_set];exact s.len,λj e q=>?_,λj e q=>?_,λj k b e f q q' h1 h2=>?_⟩
 ·rw[aL (λz=>by subst z;rw[h0]at e;cases e)];exact s.ext.hh _ _ e
 ·rw[aL (λz=>by subst z;rw[b0]at e;cases e)];exact s.ext.bn _ _ e
 ·by_cases z:b=a
  ·subst z;rw[aH]at e ⊢;exact e
  ·rw[aL z]at e ⊢;exact s.ext.nh _ _ e
 ·by_cases z:b=a
  ·subst z;exact .inr h0
  ·rw[aL z]at e;exact s.ext.new _ _ e
 ·rcases cx q with⟨rfl,p⟩|⟨ne,p⟩
  ·cases p
  ·obtain⟨v,h1,h2⟩:=s.sh j e p;exact⟨v,h1,h2.mono c⟩
 ·rcases cx q with⟨rfl,p⟩|⟨ne,p⟩
  ·cases p
   exact⟨a,ob,hσ,aH,h0,h.mono c⟩
  ·obtain⟨a',o',h1,h2,h3,h4⟩:=s.ow j e p;have na:a'≠a:=λz=>by subst z;exact ne (s.inj i j _ d e hi p hσ h1)
   exact⟨a',o',h1,by rw[aL na];exact h2,h3,h4.mono c⟩
 ·have get:∀ {j:Nat}{e:D},(ρ.set i (some (dd,true)))[j]? = some (some (e,true))->∃e',ρ[j]? = some (some (e',true)):=λ{j e} q=>by
   rcases cx q with⟨rfl,p⟩|⟨ne,p⟩
   ·exact⟨d,hi⟩
   ·exact⟨e,p⟩
  obtain⟨e',q1⟩:=get q;obtain⟨f',q2⟩:=get q';exact s.inj j k b e' f' q1 q2 h1 h2
theorem eM.write (s:eM K B0 H0 N H σ ρ)(hi:ρ[i]? = some (some (d,true)))(hσ:σ[i]? = some (some (V.ref a)))(h:IsL K (eD N (own σ ρ)) vs ds):
  eM K B0 H0 (upd N a (.lst vs)) (upd H a (.lst vs)) σ (ρ.set i (some (.lst ds,true))):=s.writeB hi hσ (.lst h)
theorem eM.tups (s:eM K B0 H0 N H σ ρ):∀a vs,jm K N a vs->jm K (eD N (own σ ρ)) a vs:=λa vs h=>by
 have key:∀u,N a=some u->¬boxed u->eD N (own σ ρ) a=some u:=λu e hu=>by
  rw[cX λz=>?_];exact e;obtain⟨ws,⟨q,qb⟩,_⟩:=s.owned z;rw[e]at q;cases q;exact hu qb
 rcases h with (h|⟨o,h⟩)|h
 ·exact .inl (.inl (key _ h (λq=>q)))
 ·exact .inl (.inr ⟨o,key _ h (λq=>q)⟩)
 ·exact .inr h
theorem eM.flat (s:eM K B0 H0 N H σ ρ)(h:Is K N v d)(n:bu d=true):Is K (eD N (own σ ρ)) v d:=h.keepT s.tups n
theorem eM.rebase (s:eM K B0 H0 N H σ ρ):eM K (eD N (own σ ρ)) (eD H (own σ ρ)) N H σ ρ :=
 ⟨eP λa o e q=>⟨s.ext.nh _ _ e,q⟩,s.tbC,⟨bV,bV,s.ext.nh,λa o e=>by
  by_cases q:own σ ρ a
  ·exact .inr (Ae q)
  ·exact .inl (by rw[cX q];exact e)⟩,s.len,s.sh,λi d q=>by
   obtain⟨a,o,h1,h2,_,h4⟩:=s.ow i d q;exact⟨a,o,h1,h2,Ae ⟨i,d,q,h1⟩,h4⟩,s.inj⟩
theorem eM.unbase (s:eM K B0 H0 N H σ ρ)(t:eM K (eD N (own σ ρ)) (eD H (own σ ρ)) N' H' σ' ρ'):eM K B0 H0 N' H' σ' ρ':=by
 have h0:aZ H0 (eD H (own σ ρ)):=λa o e=>by
  rw[cX λz=>?_];exact s.ext.hh _ _ e;obtain⟨_,_,q⟩:=s.owned z;rw[q]at e;cases e
 have b0:aZ B0 (eD N (own σ ρ)):=λa o e=>by
  rw[cX λz=>?_];exact s.ext.bn _ _ e;obtain⟨_,_,q⟩:=s.owned z;rw[s.bh _ _ e]at q;cases q
 refine⟨s.bh,s.tb,⟨h0.trans t.ext.hh,b0.trans t.ext.bn,t.ext.nh,λa o e=>?_⟩,t.len,t.sh,λi d q=>?_,t.inj⟩
 ·rcases t.ext.new a o e with z|z
  ·exact s.ext.new a o (bV _ _ z)
  ·exact .inr (h0.free z)
 ·obtain⟨a,o,h1,h2,h3,h4⟩:=t.ow i d q;exact⟨a,o,h1,h2,h0.free h3,h4⟩
theorem eM.based (t:eM K B0 H0 N H σ ρ):aZ B0 (eD N (own σ ρ)):=λa o e=>by
 rw[cX λz=>?_];exact t.ext.bn _ _ e;obtain⟨_,_,q⟩:=t.owned z;rw[t.bh _ _ e]at q;cases q
@[simp] noncomputable def aA (g h:FS):FS:=λρ=>match g ρ with|some (.nx ρ')=>h ρ'|r=>r
@[simp] noncomputable def aX:FS:=λρ=>some (.nx ρ)
@[simp] noncomputable def dC (c:FT)(g h:FS):FS:=λρ=>match c ρ with|some true=>g ρ|some false=>h ρ|none=>none
@[simp] noncomputable def aR (f:FE):FS:=λρ=>(f ρ).map λx=>.rt x.1 x.2
@[simp] noncomputable def Vk:FS:=λ_=>some (.rt .non false)
@[simp] noncomputable def Vl (f:FE):FS:=λρ=>(f ρ).map λ_=>.nx ρ
@[simp] noncomputable def K6:D->Bool
 |.dk _ _=>true
 |.dt _ _=>true
 |_=>false
@[simp] def jr (i:Nat):FS:=λρ=>match ρ[i]? with|some (some (d,b))=>some (.rt d (b && !K6 d))|_=>none
@[simp] def xE:D->Bool
 |.lst ds=>b8 ds
 |_=>false
@[simp] def setE (ρ:Env)(i:Nat)(d:D)(b:Bool):Env :=
 if bu d=true then ρ.set i (some (d,false))else if b=true/\xE d=true then ρ.set i (some (d,true))else (unown ρ).set i (some (d,false))
@[simp] def aS (i:Nat)(f:FE):FS:=λρ=>(f ρ).map λx=>.nx (setE ρ i x.1 x.2)
@[simp] def xF (i:Nat)(f:FE):FS:=λρ=>(f (m4 ρ)).map λx=>.nx (ρ.set i (some (x.1,false)))
@[simp] def kh (i:Nat)(f:FE):FS:=λρ=>match ρ[i]? with
 |some (some (.lst ds,true))=>(f ρ).bind λx=>if bu x.1=true/\ds.length<sizeLine then some (.nx (ρ.set i (some (.lst (ds++[x.1]),true))))else none
 |_=>none
theorem Iu (q:oF K (aA g h) E σ H):Pj (oF K g) (oF K h) E σ H:=by
 obtain⟨B0,H0,ρ,r,s,e,p⟩:=q;unfold aA at e;cases eg:g ρ with
 |none=>rw[eg]at e;cases e
 |some r1=>
  rw[eg]at e;cases r1 with
  |nx ρ'=>exact⟨B0,H0,ρ,.nx ρ',s,eg,λσ' H' s'=>⟨B0,H0,ρ',r,s',e,p⟩⟩
  |rt d b=>cases e;exact⟨B0,H0,ρ,_,s,eg,p⟩
  |bk ρ'=>cases e;exact⟨B0,H0,ρ,_,s,eg,p⟩
  |ct ρ'=>cases e;exact⟨B0,H0,ρ,_,s,eg,p⟩
theorem EG (q:oF K aX E σ H):Kw E σ H:=by
 obtain⟨B0,H0,ρ,r,s,e,p⟩:=q;cases e
 exact p σ H s
theorem Af.grown (s:eM K B0 H0 N H σ ρ)(h:aZ H H'):Af K B0 H0 H' σ ρ:=⟨N,s.grow (.grow s.ext.nh h)⟩
theorem M8 (q:oF K (dC c g h) E σ H):Pm (CZ K c) (oF K g) (oF K h) E σ H:=by
 obtain⟨B0,H0,ρ,r,⟨N,s⟩,e,p⟩:=q;unfold dC at e;cases ec:c ρ with
 |none=>rw[ec]at e;cases e
 |some b=>
  rw[ec]at e;refine⟨N,ρ,b,s.ext.nh,s.rep,ec,λH1 h1=>?_⟩;cases b with
  |true=>rw[if_pos rfl];exact⟨B0,H0,ρ,r,.grown s h1,e,p⟩
  |false=>rw[if_neg (by decide)];exact⟨B0,H0,ρ,r,.grown s h1,e,p⟩
theorem Iv (q:oF K (aR f) E σ H):Md (tD K f) E σ H:=by
 obtain⟨B0,H0,ρ,r,⟨N,s⟩,e,p⟩:=q;obtain⟨x,ex,e⟩:=oY e;subst e;exact⟨N,ρ,x.1,x.2,s.ext.nh,s.rep,ex,λv H1 N1 x1 i1 f1=>p v H1 N1 (s.ext.trans x1) i1 λb=>(f1 b).back s.ext.hh⟩
theorem EH (q:oF K (jr i) E σ H):Md (Ep i) E σ H:=by
 obtain⟨B0,H0,ρ,r,⟨N,s⟩,e,p⟩:=q;unfold jr at e;split at e
 ·rename_i d b ei;cases e
  cases b with
  |false=>
   obtain⟨v,h1,h2⟩:=s.sh i d ei;exact⟨v,h1,p v H N s.ext (h2.mono bV) (by simp)⟩
  |true=>
   obtain⟨a,o,h1,h2,h3,h4⟩:=s.ow i d ei;cases h4 with
   |lst h4=>exact⟨_,h1,p _ H N s.ext (.lst (iM.of h2) (h4.mono bV)) λ_=>⟨a,_,_,rfl,rfl,h3,h2,h4.mono bV⟩⟩
   |dk hl h4=>exact⟨_,h1,p _ H N s.ext (.dk h2 hl (h4.mono bV)) (by simp)⟩
   |dt hl h4=>exact⟨_,h1,p _ H N s.ext (.dt h2 hl (h4.mono bV)) (by simp)⟩
 ·cases e
theorem eM.setE (s:eM K B0 H0 N H σ ρ)(x:Ext N N1 H H1)(h:Is K N1 v d)(f:b=true->Ox K H N1 v d):eM K B0 H0 N1 H1 (σ.set i (some v)) (setE ρ i d b):=by
 have s1:=s.grow x;unfold DL.setE;by_cases hn:bu d=true
 ·rw[if_pos hn];exact s1.bind (s1.flat h hn)
 ·rw[if_neg hn];by_cases hb:b=true/\xE d=true
  ·rw[if_pos hb];obtain⟨a,vs,ds,rfl,rfl,ha,hN,hs⟩:=f hb.1;have VO:N a=none:=s.ext.nh.free ha;have QJ:¬own σ ρ a:=λz=>by obtain⟨ws,⟨q,_⟩,_⟩:=s.owned z;rw[VO]at q;cases q
   have c:aZ (eD N (own σ ρ)) (eD N1 (λb=>own σ ρ b∨b=a)):=eP λb u e q=>⟨x.bn _ _ e,λz=>z.elim q λz=>by subst z;rw[VO]at e;cases e⟩;refine s1.bindOwn hN (s.ext.hh.free ha) (λj e q z=>QJ ⟨j,e,q,z⟩) (λj e _ q=>?_) (λj e _ q=>?_) (.lst (hs.keepT (λt ts st=>?_) hb.2))
   ·obtain⟨w,h1,h2⟩:=s.sh j e q;exact⟨w,h1,h2.mono c⟩
   ·obtain⟨a',o',h1,h2,_,h4⟩:=s.ow j e q;exact⟨a',o',h1,x.bn _ _ h2,h4.mono c⟩
   ·have key:∀u,N1 t=some u->¬boxed u->eD N1 (λb=>own σ ρ b∨b=a) t=some u:=λu e hu=>by
     rw[cX λz=>?_];exact e;rcases z with z|z
     ·obtain⟨ws,⟨q,qb⟩,_⟩:=s1.owned z;rw[e]at q;cases q;exact hu qb
     ·subst z;rw[e]at hN;cases hN;exact hu trivial
    rcases st with (st|⟨o,st⟩)|st
    ·exact .inl (.inl (key _ st (λq=>q)))
    ·exact .inl (.inr ⟨o,key _ st (λq=>q)⟩)
    ·exact .inr st
  ·rw[if_neg hb];exact s1.unown.bind (h.mono λa o e=>by rw[cX tE];exact e)
theorem Bi (q:oF K (aS i f) E σ H):zP (tD K f) (jT i) E σ H:=by
 obtain⟨B0,H0,ρ,r,⟨N,s⟩,e,p⟩:=q;obtain⟨x,ex,e⟩:=oY e;subst e;exact⟨N,ρ,x.1,x.2,s.ext.nh,s.rep,ex,λv H1 N1 x1 i1 f1=>p _ H1 ⟨N1,s.setE x1 i1 f1⟩⟩
theorem EI (q:oF K (xF i f) E σ H):zP (tD K f) (jT i) E σ H:=by
 obtain⟨B0,H0,ρ,r,⟨N,s⟩,e,p⟩:=q;obtain⟨x,ex,e⟩:=oY e;subst e;refine⟨eD N (own σ ρ),m4 ρ,x.1,x.2,bV.trans s.ext.nh,s.repH,ex,λv H1 N1 x1 i1 f1=>?_⟩;obtain⟨s1,c⟩:=s.growH x1;exact p _ H1 ⟨_,s1.bind (i1.mono c)⟩
theorem Iw (q:oF K (kh i f) E σ H):∃(a:Addr)(us:List V),σ[i]? = some (some (V.ref a))/\H a=some (.lst us)/\K0 (tD K f) P2 σ H λxs H2=>Bf (.ref a) xs H2 λ_ H3=>E.nx σ H3:=by
 obtain⟨B0,H0,ρ,r,⟨N,s⟩,e,p⟩:=q;unfold kh at e;split at e
 ·rename_i ds ei;obtain⟨x,ex,e⟩:=oX e;split at e
  ·rename_i hx;cases e
   obtain⟨a,vs,Ki,z,h1,h2,h3,h4⟩:=s.owL i _ ei;cases z
   refine⟨a,vs,h1,s.ext.nh _ _ h2,N,ρ,x.1,x.2,s.ext.nh,s.rep,ex,λv H1 N1 x1 i1 f1=>⟨a,vs,v,rfl,rfl,x1.hh _ _ (s.ext.nh _ _ h2),by rw[h4.length];exact hx.2,?_⟩⟩;have s1:=s.grow x1;obtain⟨a',Sf,Ki,z,k1,k2,_,k4⟩:=s1.owL i _ ei;cases z
   rw[h1]at k1;cases k1;rw[x1.bn _ _ h2]at k2;cases k2;exact p σ _ ⟨_,s1.write ei h1 (k4.append (.cons (s1.flat i1 hx.1) .nil))⟩
  ·cases e
 ·cases e
end
noncomputable def EJ (c:FT)(g:FS):Nat->Env->Option Res
 |0,_=>none
 |n+1,ρ=>match c ρ with
  |some true=>match g ρ with
   |some (.nx ρ')=>EJ c g n ρ'
   |some (.ct ρ')=>EJ c g n ρ'
   |some (.bk ρ')=>some (.nx ρ')
   |r=>r
  |some false=>some (.nx ρ)
  |none=>none
def qd (K:PySem.W.Frag)(J:It)(B:Hp)(ds:List D):Prop:=∀(i:Nat)(H:Hp),aZ B H ->
 (∀d,ds[i]? = some d->J.go i H/\∀x H',J.yld i H x H'->∃N,Ext B N H H'/\Is K N x d)/\(ds.length<=i->J.stop i H)
def Vm (K:PySem.W.Frag)(f:FA):TI:=λσ H R=>∃(B:Hp)(ρ:Env)(ds:List D),aZ B H/\fw K B σ ρ/\f ρ=some ds/\∀(J:It)(H' N:Hp),Ext B N H H'->qd K J N ds->R J H'
abbrev FG:=D->Env->Option Env
def Ix (K:PySem.W.Frag)(tg:FG)(g:TG):Prop:=∀(B0 H0 N H:Hp)(σ:St)(ρ ρ':Env)(v:V)(d:D)(Q:St->Hp->Prop),eM K B0 H0 N H σ ρ->Is K (eD N (own σ ρ)) v d->tg d ρ=some ρ' ->
 (∀σ' H',Af K B0 H0 H' σ' ρ'->Q σ' H')->g v σ H Q
@[simp] noncomputable def dD (i:Nat):FG:=λd ρ=>some (ρ.set i (some (d,false)))
theorem eQ:Ix K (dD i) (jT i):=by
 intro B0 H0 N H σ ρ ρ' v d Q s h e k;cases e
 exact k _ H ⟨N,s.bind h⟩
noncomputable def iY (tg:FG)(g:FS):List D->Env->Option Res
 |[],ρ=>some (.nx ρ)
 |d::ds,ρ=>(tg d ρ).bind λρ1=>match g ρ1 with
  |some (.nx ρ')=>iY tg g ds ρ'
  |some (.ct ρ')=>iY tg g ds ρ'
  |some (.bk ρ')=>some (.nx ρ')
  |r=>r
@[simp] theorem EK (tg:FG)(g:FS)(ρ:Env):iY tg g [] ρ=some (.nx ρ):=by rw[iY]
@[simp] theorem Db (tg:FG)(g:FS)(d:D)(ds:List D)(ρ:Env):iY tg g (d::ds) ρ=(tg d ρ).bind λρ1=>match g ρ1 with
  |some (.nx ρ')=>iY tg g ds ρ'
  |some (.ct ρ')=>iY tg g ds ρ'
  |some (.bk ρ')=>some (.nx ρ')
  |r=>r:=by rw[iY]
@[simp] def qe (f:FA)(tg:FG)(g:FS):FS:=λρ=>(f (m4 ρ)).bind λds=>iY tg g ds ρ
theorem xG (ht:Ix K tg t)(s1:eM K B0 H0 N H1 σ ρ)(c:aZ N1 (eD N (own σ ρ)))(J1:qd K J N1 ds)(e:iY tg g ds ρ=some r)(p:PN K B0 H0 E r):
  ∃W:Nat->Nat->St->Hp->Prop,(∃m,W 0 m σ H1)/\∀i m σ H,W i m σ H->(J.stop i H/\E.nx σ H)∨(J.go i H/\∃N:St->Hp->Prop,(∀σ' H',N σ' H'->∃m',m'<m/\W (i+1) m' σ' H')/\∀x H',J.yld i H x H'->t x σ H' λσ2 H2=>oF K g { E with nx:=N,ct:=N,bk:=E.nx } σ2 H2):=by
 refine⟨λi m σ H=>∃(N:Hp)(ρ:Env),eM K B0 H0 N H σ ρ/\aZ N1 (eD N (own σ ρ))/\m=ds.length - i/\i<=ds.length/\iY tg g (ds.drop i) ρ=some r,⟨ds.length,_,ρ,s1,c,rfl,uN _,e⟩,?_⟩;clear e s1 c;rintro i m σ H ⟨N,ρ,s,c,rfl,hi,e⟩;have hs:aZ N1 H:=c.trans (bV.trans s.ext.nh);obtain⟨j1,j2⟩:=J1 i H hs;by_cases fT:i<ds.length
 ·obtain⟨go,yl⟩:=j1 ds[i] (by simp[fT]);rw[List.drop_eq_getElem_cons fT]at e;obtain⟨ρ1,e1,e⟩:=oX e;refine .inr ⟨go,λσ' H'=>∃(N:Hp)(ρ:Env),eM K B0 H0 N H' σ' ρ/\aZ N1 (eD N (own σ' ρ))/\iY tg g (ds.drop (i+1)) ρ=some r,λσ' H' ⟨N',ρ',s',c',e'⟩=>⟨_,by omega,N',ρ',s',c',rfl,fT,e'⟩,λx H' y=>?_⟩;obtain⟨N2,x2,i2⟩:=yl x H' y;have x3:Ext (eD N (own σ ρ)) (join (eD N (own σ ρ)) N2) H H':=by
   refine⟨x2.hh,eX,λa o e=>?_,λa o e=>?_⟩
   ·cases q:eD N (own σ ρ) a with
    |some u=>rw[eX _ _ q]at e;cases e;exact x2.hh _ _ (s.ext.nh _ _ (bV _ _ q))
    |none=>rw[eE q]at e;exact x2.nh _ _ e
   ·cases q:eD N (own σ ρ) a with
    |some u=>rw[eX _ _ q]at e;cases e;exact .inl rfl
    |none=>
     rw[eE q]at e;rcases x2.new a o e with z|z
     ·rw[c _ _ z]at q;cases q
     ·exact .inr z
  obtain⟨s2,c2⟩:=s.growH x3;have c3:aZ N2 (join (eD N (own σ ρ)) N2):=λa o e=>by
   rcases x2.new a o e with z|z
   ·exact eX _ _ (c _ _ z)
   ·rw[eE ((bV.trans s.ext.nh).free z)];exact e
  have i3:=i2.mono (c3.trans c2);have c4:aZ N1 (eD (join N (join (eD N (own σ ρ)) N2)) (own σ ρ)):=(x2.bn.trans c3).trans c2;refine ht _ _ _ _ _ _ _ _ _ _ s2.rebase i3 e1 λσ2 H2 ⟨N4,s4⟩=>?_;cases eg:g ρ1 with
  |none=>rw[eg]at e;cases e
  |some r1=>
   rw[eg]at e;refine⟨_,_,ρ1,r1,⟨N4,s4⟩,eg,?_⟩;have back:∀ {σ':St}{H':Hp}{ρ':Env}{N':Hp},eM K _ _ N' H' σ' ρ'->eM K B0 H0 N' H' σ' ρ'/\aZ N1 (eD N' (own σ' ρ')):=λt=>⟨s2.unbase t,c4.trans t.based⟩;cases r1 with
   |nx ρ'=>exact λσ' H' ⟨N',t⟩=>⟨N',ρ',(back t).1,(back t).2,e⟩
   |ct ρ'=>exact λσ' H' ⟨N',t⟩=>⟨N',ρ',(back t).1,(back t).2,e⟩
   |bk ρ'=>cases e;exact λσ' H' ⟨N',t⟩=>p σ' H' ⟨N',(back t).1⟩
   |rt d b=>
    cases e
    intro v H' N' x' i' f';have y:=s2.rebase.ext;have h0:aZ H0 (eD H' (λ_=>False)):=λa o e=>by rw[cX (λz=>z)];exact x'.hh _ _ (by
     rw[cX λz=>?_];exact s2.ext.hh _ _ e;obtain⟨_,_,q⟩:=s2.owned z;rw[q]at e;cases e)
    have ZH:aZ H0 (eD H' (λ_=>False)):=h0;have hH:aZ H0 (eD H' (λ_=>False)):=h0;have hc:∀a,eD H' (λ_=>False) a=H' a:=λa=>cX (λz=>z);have hb:aZ H0 (eD _ (own σ ρ)):=λa o e=>by
     rw[cX λz=>?_];exact s2.ext.hh _ _ e;obtain⟨_,_,q⟩:=s2.owned z;rw[q]at e;cases e
    have bb:aZ B0 (eD _ (own σ ρ)):=λa o e=>by
     rw[cX λz=>?_];exact s2.ext.bn _ _ e;obtain⟨_,_,q⟩:=s2.owned z;rw[s2.bh _ _ e]at q;cases q
    refine p v H' N' ⟨hb.trans x'.hh,bb.trans x'.bn,x'.nh,λa o e=>?_⟩ i' λz=>(f' z).back hb;rcases x'.new a o e with z|z
    ·exact s2.ext.new a o (bV _ _ z)
    ·exact .inr (hb.free z)
 ·have ei:i=ds.length:=by omega
  subst ei;rw[List.drop_eq_nil_of_le (vT _)]at e;cases e
  exact .inl ⟨j2 (vT _),p σ H ⟨N,s⟩⟩
theorem Iy (ht:Ix K tg t)(q:oF K (qe f tg g) E σ H):Mk (Vm K f) t (oF K g) E σ H:=by
 obtain⟨B0,H0,ρ,r,⟨N,s⟩,e,p⟩:=q;obtain⟨ds,ef,e⟩:=oX e;refine⟨eD N (own σ ρ),m4 ρ,ds,bV.trans s.ext.nh,s.repH,ef,λJ H1 N1 x1 J1=>?_⟩;obtain⟨s1,c⟩:=s.growH x1;exact xG ht s1 c J1 e p
def RJ (K:PySem.W.Frag)(f:FA):TI:=λσ H R=>∃(B:Hp)(ρ:Env)(ds:List D),aZ B H/\fw K B σ ρ/\f ρ=some ds/\∀(J:It)(H' N:Hp),Ext B N H H'->(∀B',qd K J B' ds)->R J H'
@[simp] def lz (f:FA)(tg:FG)(g:FS):FS:=λρ=>(f ρ).bind λds=>iY tg g ds ρ
theorem EL (ht:Ix K tg t)(q:oF K (lz f tg g) E σ H):Mk (RJ K f) t (oF K g) E σ H:=by
 obtain⟨B0,H0,ρ,r,⟨N,s⟩,e,p⟩:=q;obtain⟨ds,ef,e⟩:=oX e;refine⟨N,ρ,ds,s.ext.nh,s.rep,ef,λJ H1 N1 x1 J1=>?_⟩;exact xG ht (s.grow x1) (aZ.refl _) (J1 _) e p
end DL
namespace DL
open PySem PySem.Spec PyProof.Rows L2
abbrev JE (X:Cx)(e:Expr)(f:FE):Prop:=PE X e (tD X.K f)
abbrev JT (X:Cx)(e:Expr)(f:FT):Prop:=PT X e (CZ X.K f)
abbrev JW (X:Cx)(e:Expr)(f:FT):Prop:=PW X e (CZ X.K f)
abbrev JA (X:Cx)(es:List Expr)(f:FA):Prop:=PA X es (Oy X.K f)
abbrev JS (X:Cx)(st:Stmt)(g:FS):Prop:=PS X st (oF X.K g)
abbrev xi (X:Cx)(st:List Stmt)(g:FS):Prop:=ve X st (oF X.K g)
abbrev JI (X:Cx)(tg df:Expr)(f:FA):Prop:=PI X tg df (Vm X.K f)
theorem wa (I:Nat->Shared->Prop)
  (Kb:∀n s,I n s->wpAny (model prog w) A (pyNext it) (λr s₁=>match r with
   |none=>R (.ok .next) s₁
   |some v=>wpAny (model prog w) A (letOwnedTupleGo sj it v) (λ_ s₁=>wpAny (model prog w) A (assign sj env v) (λ_ s₂=>
     wpAny (model prog w) A (forIn xc true λc r=>if r=true then do let ok ←isTrue c env (eval c env);pure (ForInStep.yield ok)else pure (ForInStep.yield r)) (λok s₃=>
      if ok=true then wpAny (model prog w) A (eval z9 env) (λx s₄=>
       wpAny (model prog w) A (call (.builtin "list.append") [mm,x]) (λ_ s₅=>∃m,m<n/\I m s₅) (λ_ _=>False) s₄) (λ_ _=>False) s₃
      else ∃m,m<n/\I m s₃) (λ_ _=>False) s₂) (λ_ _=>False) s₁) (λ_ _=>False) s₁) (λ_ _=>False) s)
  (n:Nat) (h:I n s):codeAny (model prog w) A (.compLoop (.ListComp z9 [⟨sj,df,xc,0⟩] scope pos) 0 it mm env) R s:=by
 refine codeAny_loop rfl I (λn s hI=>?_) n h;show wpAny _ A ((compTurn (.ListComp z9 [⟨sj,df,xc,0⟩] scope pos) 0 it mm env).onRaise (λx=>do noteFrame x env;theTreesLotGoes x)) _ _ s;refine wpAny_noted (wpAny_mono (E:=λ_ _=>False) ?_ (λ_ _ q=>q) λ_ _ z=>z.elim);rw[compTurn_list];refine wX (wpAny_standAt (wX (wpAny_mono (Kb n s hI) (λr s₁ h₁=>?_) λ_ _ h'=>h')));cases r with
 |none=>exact wY h₁
 |some v=>
  refine wX (wpAny_mono h₁ (λ_ s₁ h₁=>?_) λ_ _ h'=>h');refine wX (wpAny_mono h₁ (λ_ s₂ h₂=>wX (wpAny_mono h₂ (λok s₃ h₃=>?_) λ_ _ h'=>h')) λ_ _ h'=>h');cases ok with
  |false=>exact wY ⟨rfl,h₃⟩
  |true=>exact wX (wX (wpAny_mono h₃ (λx s₄ h₄=>wX (wpAny_mono h₄ (λ_ s₅ h₅=>wY (wY ⟨rfl,h₅⟩)) λ_ _ h'=>h')) λ_ _ h'=>h'))
theorem Ext.upd (x:Ext B N H H')(h:H a=none)(hN:N a=none):Ext B N H (upd H' a o) :=
 ⟨λb u e=>by rw[aL (λz=>by subst z;rw[h]at e;cases e)];exact x.hh _ _ e,x.bn,λb u e=>by rw[aL (λz=>by subst z;rw[hN]at e;cases e)];exact x.nh _ _ e,x.new⟩
noncomputable abbrev fE (X:Cx)(N':List Str)(scope:Scope)(cl:List (Str×Addr))(C:Addr)(s₃:Shared)(H₃:Hp)(fp:List Addr):Cx :=
 { X with N:=N',s₀:=s₃,H₀:=H₃,env:=compEnvC scope cl C X.env,outer:=X.stack,stack:=X.stack,ex:=fp,fn:=λ_=>false,pn:=[],xe:=λ_ _=>False }
inductive nN (X:Cx)(N':List Str)(scope:Scope)(cl:List (Str×Addr)):Nat->List Nat->Prop where
 |nil {j:Nat}(h:N'.length=j):nN X N' scope cl j []
 |cons {j i:Nat}{r:List Nat}{x:Str}(h1:N'[j]? = some x) (h2:X.N[i]? = some x) (h3:X.env.kindOf x=some .cell∨X.env.kindOf x=some .free)
   (h4:(relabel scope X.env).names.lookup x=some .cell∨(relabel scope X.env).names.lookup x=some .free) (h5:cl.lookup x=X.env.cells.lookup x) (t:nN X N' scope cl (j+1) r):nN X N' scope cl j (i::r)
theorem nN.len:∀ {j:Nat}{cap:List Nat},nN X N' scope cl j cap->N'.length=j+cap.length
 |_,_,.nil h=>by rw[h];rfl
 |j,i::r,.cons _ _ _ _ _ t=>by rw[t.len,vE];omega
theorem nN.get:∀ {j:Nat}{cap:List Nat}{k i:Nat},nN X N' scope cl j cap->cap[k]? = some i->∃x,N'[j+k]? = some x/\X.N[i]? = some x/\(X.env.kindOf x=some .cell∨X.env.kindOf x=some .free) /\
  ((relabel scope X.env).names.lookup x=some .cell∨(relabel scope X.env).names.lookup x=some .free)/\cl.lookup x=X.env.cells.lookup x
 |_,_,_,_,.nil _,e=>by simp at e
 |j,_,0,_,.cons h1 h2 h3 h4 h5 _,e=>by simp at e;subst e;exact⟨_,h1,h2,h3,h4,h5⟩
 |j,_,k+1,i,.cons _ _ _ _ _ t,e=>by
  obtain⟨x,q,r⟩:=t.get (k:=k) (i:=i) (by simpa using e);exact⟨x,by rw[show j+(k+1)=j+1+k by omega];exact q,r⟩
structure CompSc (X:Cx)(scope:Scope)(cl:List (Str×Addr)):Prop where
 clos:closureFor scope X.env=pure cl
 nocell:∀y∈scope.names,y.2≠.cell
 kind:scope.kind=.function
 names:∀y∈scope.names,y.2=.local->scope.names.lookup y.1=some .local
 sub:∀x c,cl.lookup x=some c->X.env.cells.lookup x=some c
 has:∀x,((relabel scope X.env).names.lookup x=some .cell∨(relabel scope X.env).names.lookup x=some .free)->∃c,cl.lookup x=some c
noncomputable def dR:List (Str×NameKind)->List (Str×Addr)->List (Str×Addr)->List (Str×Addr)
 |[],_,cs=>cs
 | (n,k)::r,cells,cs=>dR r cells (if k == .free then (match cells.lookup n with|some c=>(n,c)::cs|none=>cs)else cs)
theorem tG:∀(names:List (Str×NameKind))(cs:List (Str×Addr)),(∀y∈names,y.2=.free->(env.cells.lookup y.1).isSome=true) ->
    (do let mut cs:=cs
        for (name,kind)in names do
          if kind == .free then cs:=(name,←cellOf env name)::cs
        return cs:Sem (List (Str×Addr)))=pure (dR names env.cells cs):=by
  intro names;induction names with
  |nil=>intro cs _;rfl
  |cons y r ih=>
    intro cs h;obtain⟨n,k⟩:=y;have QK:=λcs=>ih cs λy hy=>h y (mZ _ hy);by_cases hk:k=.free
    . subst hk;have hc:=h (n,.free) mX rfl;cases q:env.cells.lookup n with
      |none=>rw[q]at hc;cases hc
      |some c=>
        have e1:dR ((n,.free)::r) env.cells cs=dR r env.cells ((n,c)::cs):=by
          rw[dR,q];rfl
        rw[e1,←QK ((n,c)::cs)];have e2:cellOf env n=pure c:=by unfold cellOf;rw[q]
        simp only[List.forIn_cons,beq_self_eq_true,if_true,e2];rfl
    . have hb:(k == NameKind.free)=false:=by simpa using hk
      have e1:dR ((n,k)::r) env.cells cs=dR r env.cells cs:=by rw[dR,hb];rfl
      rw[e1,←QK cs];simp only[List.forIn_cons,hb,uV,if_false];rfl
theorem m5:∀(names:List (Str×NameKind))(cs:List (Str×Addr)),(∀y d,cs.lookup y=some d->cells.lookup y=some d)->(dR names cells cs).lookup x=some c->cells.lookup x=some c
 |[],cs,h,e=>h x c e
 | (n,k)::r,cs,h,e=>by
  rw[dR]at e;refine m5 r _ (λy d q=>?_) e;split at q
  ·split at q
   ·rename_i c' ec;rw[List.lookup_cons]at q;split at q
    ·rename_i hy;cases q
     rw[eq_of_beq hy];exact ec
    ·exact h y d q
   ·exact h y d q
  ·exact h y d q
theorem tH:∀(names:List (Str×NameKind))(cs:List (Str×Addr)),(cs.lookup x).isSome=true->((dR names cells cs).lookup x).isSome=true
 |[],cs,h=>h
 | (n,k)::r,cs,h=>by
  rw[dR];refine tH r _ ?_;split
  ·split
   ·rw[List.lookup_cons];split
    ·rfl
    ·exact h
   ·exact h
  ·exact h
theorem m6:∀(names:List (Str×NameKind))(cs:List (Str×Addr)),(x,NameKind.free)∈names->(cells.lookup x).isSome=true->((dR names cells cs).lookup x).isSome=true
 | (n,k)::r,cs,hm,hc=>by
  rw[dR];rcases vP hm with e|e
  ·cases e
   refine tH r _ ?_;cases q:cells.lookup x with
   |none=>rw[q]at hc;cases hc
   |some c=>simp
  ·exact m6 r _ e hc
theorem fW {α:Type}{x:Str}{k:α}:∀ {l:List (Str×α)},l.lookup x=some k->(x,k)∈l
 | (n,j)::r,h=>by
  rw[List.lookup_cons]at h;split at h
  ·rename_i e;cases h
   rw[eq_of_beq e];exact mX
  ·exact mZ _ (fW h)
theorem M9 {X:Cx}{scope:Scope}(h1:∀y∈scope.names,y.2≠.cell)(h2:scope.kind=.function)(h3:∀y∈scope.names,y.2=.local->scope.names.lookup y.1=some .local)(OG:(scope.names.all λy=>!(y.2 == NameKind.free) || (X.env.cells.lookup y.1).isSome)=true):
  CompSc X scope (dR scope.names X.env.cells []):=by
 have h4:∀y∈scope.names,y.2=.free->(X.env.cells.lookup y.1).isSome=true:=λy hy e=>by
  have:=uR OG y hy;rw[e]at this;simpa using this
 have frees:∀x,((relabel scope X.env).names.lookup x=some .cell∨(relabel scope X.env).names.lookup x=some .free)->(x,NameKind.free)∈scope.names:=λx h=>by
  have:∃k,(x,k)∈(relabel scope X.env).names/\(k=.cell∨k=.free):=by
   rcases h with h|h
   ·exact⟨_,fW h,.inl rfl⟩
   ·exact⟨_,fW h,.inr rfl⟩
  obtain⟨k,hm,hk⟩:=this;obtain⟨⟨n,j⟩,hj,e⟩:=vO hm;dsimp only at e;split at e
  ·rename_i hc;rw[vC,vC]at hc;cases e
   rw[←eq_of_beq hc.1.1];exact hj
  ·cases e
   rcases hk with rfl|rfl
   ·exact absurd rfl (h1 _ hj)
   ·exact hj
 exact⟨tG scope.names [] h4,h1,h2,h3,λx c e=>m5 scope.names [] (λy d q=>by cases q) e,λx h=>by
  have:=m6 (x:=x) scope.names [] (frees x h) (h4 _ (frees x h) rfl);exact uU this⟩
theorem pG {scope:Scope}{cells:List (Str×Addr)}{x:Str}(h:(x,NameKind.free)∈scope.names)(hc:(cells.lookup x).isSome=true):(dR scope.names cells []).lookup x=cells.lookup x:=by
 obtain⟨c,e⟩:=uU (m6 (x:=x) scope.names [] h hc);rw[e,m5 scope.names [] (λy d q=>by cases q) e]
noncomputable def sD (nT:Nat)(cap:List Nat)(σ:St):St:=List.replicate nT none++cap.map λi=>(σ[i]?).join
noncomputable def cF (nT:Nat)(cap:List Nat)(ρ:Env):Env:=List.replicate nT none++cap.map λi=>match ρ[i]? with|some (some (d,_))=>some (d,false)|_=>none
theorem wb {α:Type}{nT:Nat}{cap:List Nat}{f:Nat->Option α}{j:Nat}{v:α}(h:(List.replicate nT none++cap.map f)[j]? = some (some v)):∃k i,j=nT+k/\cap[k]? = some i/\f i=some v:=by
 by_cases hj:j<nT
 ·rw[List.getElem?_append_left (by simpa using hj),List.getElem?_replicate,if_pos hj]at h;cases h
 ·rw[List.getElem?_append_right (by simpa using Nat.not_lt.mp hj),List.length_replicate,vA]at h;obtain⟨i,h1,h2⟩:=oY h;exact⟨j - nT,i,by omega,h1,h2⟩
theorem Iz {α:Type}{nT:Nat}{cap:List Nat}{f:Nat->Option α}{k i:Nat}{v:α}(h1:cap[k]? = some i)(h2:f i=some v):(List.replicate nT none++cap.map f)[nT+k]? = some (some v):=by
 rw[List.getElem?_append_right (by simp),List.length_replicate,vA,Nat.add_sub_cancel_left,h1];simp[h2]
theorem fw.caps {K:PySem.W.Frag}{B:Hp}{σ:St}{ρ:Env}{nT:Nat}{cap:List Nat}(h:fw K B σ ρ):fw K B (sD nT cap σ) (cF nT cap ρ):=⟨h.tb,λj d b q=>by
 obtain⟨k,i,rfl,h1,h2⟩:=wb q;split at h2
 ·rename_i d' b' e;cases h2
  obtain⟨v,g1,g2⟩:=h.at' i _ _ e;exact⟨v,Iz h1 (by rw[g1];rfl),g2⟩
 ·cases h2⟩
noncomputable def gZ (tg:FG)(c:FT)(fe:FE)(ρ:Env):List D->Option (List D)
 |[]=>some []
 |d::r=>(tg d ρ).bind λρ1=>(c ρ1).bind λb=>if b=true then (fe ρ1).bind λx=>(gZ tg c fe ρ r).map (x.1 :: ·)else gZ tg c fe ρ r
@[simp] theorem Oz (tg:FG)(c:FT)(fe:FE)(ρ:Env):gZ tg c fe ρ []=some []:=by rw[gZ]
@[simp] theorem Ag (tg:FG)(c:FT)(fe:FE)(ρ:Env)(d:D)(r:List D):gZ tg c fe ρ (d::r)=(tg d ρ).bind λρ1=>(c ρ1).bind λb=>if b=true then (fe ρ1).bind λx=>(gZ tg c fe ρ r).map (x.1 :: ·)else gZ tg c fe ρ r:=by rw[gZ]
@[simp] def cf (fi:FA)(nT:Nat)(cap:List Nat)(tg:FG)(c:FT)(fe:FE):FE:=λρ=>(fi ρ).bind λitems=>if items.length<=sizeLine then (gZ tg c fe (cF nT cap ρ) items).map λds=>(.lst ds,true)else none
def MA (K:PySem.W.Frag)(n:Nat)(tg:FG)(g:TG):Prop:=∀(B H:Hp)(σ:St)(ρ ρ1:Env)(v:V)(d:D)(Q:St->Hp->Prop),(∀i,i<n->ρ[i]? = some none)->fw K B σ ρ->aZ B H->Is K B v d->tg d ρ=some ρ1 ->
 ρ.length=σ.length->(∀σ1,fw K B σ1 ρ1->(∀B',fw K B' σ ρ->fw K B' σ1 ρ)->ρ.length=σ1.length->Q σ1 H)->g v σ H Q
theorem xH {K:PySem.W.Frag}{n i:Nat}(hi:i<n):MA K n (dD i) (jT i):=by
 intro B H σ ρ ρ1 v d Q cl rep s h e hl k;cases e
 have DT:i<σ.length:=by
  have:=(vV (cl i hi)).1;omega
 refine k _ ⟨rep.tb,λj e b q=>?_⟩ ?_ (by simpa using hl)
 ·rcases cx q with⟨rfl,p⟩|⟨ne,p⟩
  ·cases p
   exact⟨v,by simp[DT],h⟩
  ·obtain⟨w,h1,h2⟩:=rep.at' j e b p;exact⟨w,by rw[vB ne];exact h1,h2⟩
 ·intro B' QL;refine⟨QL.tb,λj e b q=>?_⟩;obtain⟨w,h1,h2⟩:=QL.at' j e b q;have ne:i≠j:=λz=>by subst z;rw[cl i hi]at q;cases q
  exact⟨w,by rw[vB ne];exact h1,h2⟩
def JC (X:Cx)(xc:List Expr)(c:FT):Prop:=∀(af:List (Addr×Obj))(s:Shared)(σ:St)(H:Hp)(Q:Bool->Hp->Prop),Inv X af σ H s->CZ X.K c σ H Q ->
 wpAny (model X.prog X.w) X.A (forIn xc true λc r=>if r=true then do let ok ←isTrue c X.env (eval c X.env);pure (ForInStep.yield ok)else pure (ForInStep.yield r)) (TP X af σ Q) X.xe s
@[simp] noncomputable def hU:FT:=λ_=>some true
theorem jC:JC X [] hU:=by
 intro af s σ H Q I h;obtain⟨B,ρ,c,sB,rep,e,q⟩:=h;cases e
 exact wpAny_tests_nil ⟨H,I,q H (.refl H)⟩
theorem fF (h:JT X e f):JC X [e] f:=λaf s σ H Q I q=>wpAny_tests_one (h af s σ H Q I q)
theorem qg {X:Cx}(lI:X.calm=true){tg df z9:Expr}{xc:List Expr}{scope:Scope}{pos:Pos}{cl:List (Str×Addr)}{N':List Str}{nT:Nat}{cap:List Nat}{sv:FG}{g:TG}{fc:FT}{fe:FE}
  (S:CompSc X scope cl) (cp:nN X N' scope cl nT cap)
  (hg:∀C s H fp,PG (fE X N' scope cl C s H fp) tg g) (Kj:MA X.K nT sv g) (hc:∀C s H fp,JC (fE X N' scope cl C s H fp) xc fc) (he:∀C s H fp,JE (fE X N' scope cl C s H fp) z9 fe)
  {af:List (Addr×Obj)}{σ:St}{H2:Hp}{s2:Shared}{it:Addr}{fp:List Addr}{tn:Nat->Heap->Prop}{J:It}{N1:Hp}{ρ:Env}{items ds:List D}{E:Value->Shared->Prop}
  (I2:Inv X af σ H2 s2) (T:Turn X.prog X.w X.K tg J fp it tn) (Ka:tn 0 s2.heap) (f2:∀b∈fp,nR X af H2 b)
  (rep:fw X.K N1 σ ρ) (sN:aZ N1 H2) (J1:qd X.K J N1 items) (hsz:items.length<=sizeLine) (ec:gZ sv fc fe (cF nT cap ρ) items=some ds) {RR:Value->Addr->Result->Shared->Prop}
  (XV:∀(Dd C:Addr)(s':Shared)(H' N:Hp)(vs:List V)(m:Str->Option Value),H2 Dd=none->Inv X af σ H' s'->s'.heap.Ns C m->nR X af H' C->Ext N1 N H2 H'->N Dd=some (.lst vs)->IsL X.K N vs ds->RR (.ref Dd) C (.ok .next) s'):
  wpAny (model X.prog X.w) X.A (newList []) (λmm s₃=>wpAny (model X.prog X.w) X.A (newFunctionEnv scope X.env.globals cl [] X.env.qual none .none (some X.env)) (λQM s₄=>
   codeAny (model X.prog X.w) X.A (.compStart (.ListComp z9 [⟨tg,df,xc,0⟩] scope pos) 0 (.ref it) mm { QM with scope:=relabel scope X.env }) (RR mm QM.locals) s₄) E s₃) E s2:=by
 refine wpAny_newObj_type (wpAny_newFunctionEnv S.nocell (by intro y hy;simp at hy) (λh₁ AY hsb₁=>?_) S.kind);dsimp only at AY hsb₁ ⊢;have hD:H2 s2.heap.objs.size=none:=I2.fresh;have I3:Inv X af σ (upd H2 s2.heap.objs.size (.lst [])) { s2 with heap:=s2.heap.push { cls:=.type "list",dict:=none,data:=.seq ([]:List Value).toArray } }:=I2.lnew (t':=s2.toks) (ys:=[]) (its:=[]) .nil (uN _);generalize hH3:s2.heap.push { cls:=.type "list",dict:=none,data:=.seq ([]:List Value).toArray }=g3 at AY hsb₁ I3 ⊢;have hC:g3.objs.size=s2.heap.objs.size+1:=by rw[←hH3,Heap.size_push]
 have Kk:∀b o,s2.heap.get? b=some o->g3.get? b=some o:=λb o e=>hH3 ▸ vZ _ e;have DX:∀b o,g3.get? b=some o->h₁.get? b=some o:=λb o e=>hsb₁.extBut b o (vS (vX e)) (vZ _ e);have OB:∀b o,g3.get? b=some o->b≠g3.objs.size:=λb o e=>vS (vX e);have VP:∀b∈fp,∃o,s2.heap.get? b=some o:=λb hb=>let ⟨o,e,_⟩:=T.obj 0 s2.heap Ka b hb;⟨o,e⟩;have XW:∀b∈fp,b≠s2.heap.objs.size:=λb hb=>let ⟨o,e⟩:=VP b hb;vS (vX e);have VQ:∀b∈fp,b≠g3.objs.size:=λb hb=>let ⟨o,e⟩:=VP b hb;OB b o (Kk b o e);have VR:∀x c,X.env.cells.lookup x=some c->c≠g3.objs.size:=λx c e=>by
  obtain⟨v,z⟩:=I3.cell x c e;exact vS z.lt
 have XX:(upd H2 s2.heap.objs.size (HO.lst [])) g3.objs.size=none:=I3.hok.fresh (vT _);have stk:∀b∈CH X.stack,∃o,s2.heap.get? b=some o:=λb hb=>by
  obtain⟨_,o,ho,_⟩:=(I2.stack).mem hb;exact⟨o,ho⟩
 -- the block's context
 have ok:(fE X N' scope cl g3.objs.size { s2 with heap:=g3 } (upd H2 s2.heap.objs.size (.lst [])) fp).Ok:=by
  refine⟨I2.ok.mod,?_,I2.ok.glob,I2.ok.blt,vT _,λx y c e1 e2=>I2.ok.inj x y c (S.sub x c e1) (S.sub y c e2),λx h=>S.has x h,λx c h=>absurd h uX,I2.ok.hd,I2.ok.frames,.inl rfl,λb hb=>⟨VQ b hb,λx c e=>(f2 b hb).2.2.2.2.1 x c (S.sub x c e)⟩,λb o e=>?_,?_,λb o e hb=>?_,λb hb hz=>?_,I3.stack,λb hb=>I3.stkFree b hb⟩
  ·show(relabel scope X.env).kind=.function;exact S.kind
  ·exact I3.bs b o e
  ·exact vR I3.ok.bsz I3.sz
  ·have h1:=(f2 b hb).2.2.2.1;rcases h1 with z|z
   ·exact I2.ok.noex b o e z
   ·exact absurd (vQ (vX e) (vR I2.ok.bsz z)) (Nat.lt_irrefl _)
  ·rcases vP (I2.stkSub b hz)with z|z
   ·exact(f2 b hb).2.1 z
   ·exact(f2 b hb).2.2.1 z
 have I4:Inv (fE X N' scope cl g3.objs.size { s2 with heap:=g3 } (upd H2 s2.heap.objs.size (.lst [])) fp) [] (sD nT cap σ) (upd H2 s2.heap.objs.size (.lst [])) { s2 with heap:=h₁,toks:=s2.toks+([]:List (Str×Value)).length }:=by
  refine⟨ok,rfl,I2.bare,Un.kept DX,⟨_,AY,λj x v e1 e2 e3=>?_⟩,λx c e=>?_,XX,λx c e=>I3.freeC x c (S.sub x c e),λp hp=>by simp at hp,I3.hok.kept DX,?_⟩
  ·obtain⟨k,i,rfl,h1,h2⟩:=wb e2;obtain⟨y,g1,g2,VS,g4,g5⟩:=cp.get h1;have L8:N'[nT+k]? = some x:=e1;rw[g1]at L8;cases L8;have Hd:σ[i]? = some (some v):=by
    cases q:σ[i]? with
    |none=>rw[q]at h2;cases h2
    |some z=>rw[q]at h2;have:z=some v:=h2;rw[this]
   obtain⟨m,_,hl⟩:=I3.loc;obtain⟨u,r,l⟩:=hl i _ v g2 Hd (VS.elim (λz=>.inr (.inl z)) λz=>.inr (.inr z));refine⟨u,r,?_⟩;rcases l with⟨l,_⟩|⟨_,c,lc,ic⟩
   ·rcases VS with z|z<;>(rw[z]at l;cases l)
   ·refine .inr ⟨g4,c,by show cl.lookup _=some c;rw[g5];exact lc,?_⟩;obtain⟨o,ho,hd⟩:=ic;exact⟨o,DX _ _ ho,hd⟩
  ·obtain⟨v,o,ho,hd⟩:=I3.cell x c (S.sub x c e);exact⟨v,o,DX _ _ ho,hd⟩
  ·show(sD nT cap σ).length=N'.length;unfold sD;rw[cp.len];simp
 have Ua:∀ {H':Hp},(∀b∈fp,H' b=none)->∀b∈fp,nR (fE X N' scope cl g3.objs.size { s2 with heap:=g3 } (upd H2 s2.heap.objs.size (.lst [])) fp) [] H' b:=λhn b hb=>
  ⟨hn b hb,VQ b hb,ok.exfs b hb,.inl hb,λx c e=>(f2 b hb).2.2.2.2.1 x c (S.sub x c e),λp hp=>by simp at hp⟩
 have QN:∀i,i<nT->(cF nT cap ρ)[i]? = some none:=λi hi=>by
  unfold cF;rw[List.getElem?_append_left (by simpa using hi),List.getElem?_replicate,if_pos hi]
 have VT:N1 s2.heap.objs.size=none:=sN.free hD;have loop:∀s₃:Shared,s₃={ s2 with heap:=h₁,toks:=s2.toks+([]:List (Str×Value)).length } ->
   codeAny (model X.prog X.w) X.A (.compLoop (.ListComp z9 [⟨tg,df,xc,0⟩] scope pos) 0 (.ref it) (.ref s2.heap.objs.size) (compEnvC scope cl g3.objs.size X.env)) (RR (.ref s2.heap.objs.size) g3.objs.size) s₃:=by
  rintro s₃ rfl;refine wa (λn s'=>∃(i:Nat)(N:Hp)(vs:List V)(es:List D)(σ':St)(H':Hp),Inv (fE X N' scope cl g3.objs.size { s2 with heap:=g3 } (upd H2 s2.heap.objs.size (.lst [])) fp) [] σ' H' s'/\tn i s'.heap/\(∀b∈fp,H' b=none) /\
   n=items.length - i/\i<=items.length/\fw X.K N1 σ' (cF nT cap ρ)/\(cF nT cap ρ).length=σ'.length/\Ext N1 N H2 H'/\N s2.heap.objs.size=none/\H' s2.heap.objs.size=some (.lst vs)/\vs.length<=i/\IsL X.K N vs es /\
   ∃r,gZ sv fc fe (cF nT cap ρ) (items.drop i)=some r/\es++r=ds) ?_ items.length ?_
  ·rintro n s' ⟨i,N,vs,es,σ',H',I',ti,hn,rfl,hi,rp,bR,x,Ub,Uc,zN,Ud,r,er,Sg⟩;have sH:aZ N1 H':=x.bn.trans x.nh;by_cases fT:i<items.length
   ·obtain⟨j1,_⟩:=J1 i H' sH;obtain⟨go,yl⟩:=j1 items[i] (by simp[fT]);rw[List.drop_eq_getElem_cons fT]at er;unfold gZ at er;obtain⟨ρ1,e1,er⟩:=oX er;obtain⟨b,e2,er⟩:=oX er;refine cR (T.item (fE X N' scope cl g3.objs.size { s2 with heap:=g3 } (upd H2 s2.heap.objs.size (.lst [])) fp) rfl rfl rfl lI i [] s' σ' H' (λ_ _=>False) I' (Ua hn) ti go) λq s4 hq=>?_;obtain⟨u,rfl,hq⟩:=hq;refine cR hq λ_ s5 hq=>?_;obtain⟨xv,H5,I5,rx,y5,t5,TK⟩:=hq;obtain⟨N5,x5,i5⟩:=yl xv H5 y5
    -- all that may be named at this Kb
    have x6:Ext N (join N N5) H' H5:=by
     refine⟨x5.hh,eX,λa o e=>?_,λa o e=>?_⟩
     ·cases z:N a with
      |some u'=>rw[eX _ _ z]at e;cases e;exact x5.hh _ _ (x.nh _ _ z)
      |none=>rw[eE z]at e;exact x5.nh _ _ e
     ·cases z:N a with
      |some u'=>rw[eX _ _ z]at e;cases e;exact .inl rfl
      |none=>
       rw[eE z]at e;rcases x5.new a o e with z'|z'
       ·rw[x.bn _ _ z']at z;cases z
       ·exact .inr z'
    have c5:aZ N5 (join N N5):=λa o e=>by
     rcases x5.new a o e with z|z
     ·exact eX _ _ (x.bn _ _ z)
     ·rw[eE (x.nh.free z)];exact e
    have VU:(join N N5) s2.heap.objs.size=none:=by
     cases z:join N N5 s2.heap.objs.size with
     |none=>rfl
     |some o=>
      rcases x6.new _ _ z with z'|z'
      ·rw[Ub]at z';cases z'
      ·rw[Uc]at z';cases z'
    have lm:∀(s9:Shared)(σ9:St)(H9 N9:Hp)(QP:List V)(Sh:List D),Inv (fE X N' scope cl g3.objs.size { s2 with heap:=g3 } (upd H2 s2.heap.objs.size (.lst [])) fp) (nS fp s5.heap) σ9 H9 s9 ->
      fw X.K N1 σ9 (cF nT cap ρ)->(cF nT cap ρ).length=σ9.length->Ext N1 N9 H2 H9->N9 s2.heap.objs.size=none->H9 s2.heap.objs.size=some (.lst QP)->QP.length<=i+1->IsL X.K N9 QP Sh ->
      (∃r,gZ sv fc fe (cF nT cap ρ) (items.drop (i+1))=some r/\Sh++r=ds)->∃m,m<items.length - i/\∃(i:Nat)(N:Hp)(vs:List V)(es:List D)(σ':St)(H':Hp),Inv (fE X N' scope cl g3.objs.size { s2 with heap:=g3 } (upd H2 s2.heap.objs.size (.lst [])) fp) [] σ' H' s9/\tn i s9.heap/\(∀b∈fp,H' b=none) /\
       m=items.length - i/\i<=items.length/\fw X.K N1 σ' (cF nT cap ρ)/\(cF nT cap ρ).length=σ'.length/\Ext N1 N H2 H'/\N s2.heap.objs.size=none/\H' s2.heap.objs.size=some (.lst vs)/\vs.length<=i/\IsL X.K N vs es /\
       ∃r,gZ sv fc fe (cF nT cap ρ) (items.drop i)=some r/\es++r=ds:=λs9 σ9 H9 N9 QP Sh I9 XY l9 x9 n9 h9 v9 i9 XZ=>by
     refine⟨items.length - (i+1),by omega,i+1,N9,QP,Sh,σ9,H9,I9.pins_of λp hp=>by simp at hp,T.keep _ _ _ t5 λb hb o e=>(I9.pin (b,o) (mY _ (jB hb e))).1,λb hb=>?_,rfl,fT,XY,l9,x9,n9,h9,v9,i9,XZ⟩;obtain⟨o,e,d⟩:=T.obj _ _ t5 b hb;exact(I9.pin (b,o) (mY _ (jB hb e))).2.1
    have TL:Inv (fE X N' scope cl g3.objs.size { s2 with heap:=g3 } (upd H2 s2.heap.objs.size (.lst [])) fp) (nS fp s5.heap) σ' H5 s5:=by
     have:=I5.pinned (Ua TK) (T.obj _ _ t5);rwa [List.nil_append]at this
    have Si:aZ (join N N5) H5:=x6.nh;refine cR (hg _ _ _ _ _ s5 σ' H5 xv u (λσ6 H6=>H6=H5/\fw X.K (join N N5) σ6 ρ1/\fw X.K N1 σ6 (cF nT cap ρ)/\(cF nT cap ρ).length=σ6.length) TL rx ?_) λ_ s6 ⟨σ6,H6,I6,eH,VV,VW,l6⟩=>?_
    ·refine Kj (join N N5) H5 σ' (cF nT cap ρ) ρ1 xv items[i] _ QN (rp.mono (x.bn.trans eX)) Si (i5.mono c5) e1 bR λσ1 r1 r2 l1=>⟨rfl,r1,r2 N1 rp,l1⟩
    ·subst eH;have Ue:H6 s2.heap.objs.size=some (.lst vs):=x5.hh _ _ Uc;refine cR (hc _ _ _ _ _ s6 σ6 H6 (λc H7=>c=b/\aZ H6 H7) I6 ⟨join N N5,ρ1,b,Si,VV,e2,λH7 h7=>⟨rfl,h7⟩⟩) λok s7 ⟨H7,I7,eb,h7⟩=>?_;subst eb;have x7:Ext N1 (join N N5) H2 H7:=(x.trans x6).trans (.grow Si h7);cases ok with
     |false=>
      rw[if_neg (by decide)]at er ⊢;exact lm s7 σ6 H7 (join N N5) vs es I7 VW l6 x7 VU (h7 _ _ Ue) (Nat.le_succ_of_le zN) (Ud.mono eX) ⟨r,er,Sg⟩
     |true=>
      rw[if_pos rfl]at er ⊢;obtain⟨y,e3,er⟩:=oX er;obtain⟨r',e4,er⟩:=oY er;subst er;refine cR (he _ _ _ _ _ s7 σ6 H7 (λv H8=>∃N8,Ext (join N N5) N8 H7 H8/\Is X.K N8 v y.1) I7 ⟨join N N5,ρ1,y.1,y.2,Si.trans h7,VV,e3,λv H8 N8 x8 i8 _=>⟨N8,x8,i8⟩⟩) λw8 s8 ⟨v8,H8,I8,r8,N8,x8,i8⟩=>?_;have Ya:H8 s2.heap.objs.size=some (.lst vs):=x8.hh _ _ (h7 _ _ Ue);refine cR (tz _ s8 σ6 H8 (.ref s2.heap.objs.size) [v8] (.ref s2.heap.objs.size) [w8] (λ_ H9=>H9=upd H8 s2.heap.objs.size (.lst (vs++[v8]))) I8 rfl (.cons r8 .nil) ⟨_,vs,v8,rfl,rfl,Ya,by omega,rfl⟩) λ_ s9 ⟨_,H9,I9,_,e9⟩=>?_;subst e9;have VX:N8 s2.heap.objs.size=none:=by
       cases z:N8 s2.heap.objs.size with
       |none=>rfl
       |some o=>
        rcases x8.new _ _ z with z'|z'
        ·rw[VU]at z';cases z'
        ·rw[h7 _ _ Ue]at z';cases z'
      refine lm s9 σ6 _ N8 (vs++[v8]) (es++[y.1]) I9 VW l6 ((x7.trans x8).upd hD VX) VX aH (by rw[uZ,List.length_singleton];omega) ((Ud.mono (eX.trans x8.bn)).append (.cons i8 .nil)) ⟨r',e4,by rw[List.append_assoc];exact Sg⟩
   ·have ei:i=items.length:=by omega
    subst ei;rw[List.drop_eq_nil_of_le (vT _)]at er;cases er
    rw[uQ]at Sg;subst Sg;refine cR (T.done (fE X N' scope cl g3.objs.size { s2 with heap:=g3 } (upd H2 s2.heap.objs.size (.lst [])) fp) rfl rfl rfl lI items.length [] s' σ' H' (λ_ _=>False) I' (Ua hn) ti ((J1 _ H' sH).2 (vT _))) λq s4 ⟨hq,I9⟩=>?_;subst hq;obtain⟨m,hm,_⟩:=I9.loc;have u1:Un (CH X.stack) fp H2 (upd H2 s2.heap.objs.size (.lst [])) s2.heap g3:=Un.laid Kk (vT _) hD;have x9:Ext N1 (upd N s2.heap.objs.size (.lst vs)) H2 H':=by
     refine⟨x.hh,x.bn.trans λa o e=>by rw[aL (λz=>by subst z;rw[Ub]at e;cases e)];exact e,λa o e=>?_,λa o e=>?_⟩
     ·by_cases z:a=s2.heap.objs.size
      ·subst z;rw[aH]at e;cases e;exact Uc
      ·rw[aL z]at e;exact x.nh _ _ e
     ·by_cases z:a=s2.heap.objs.size
      ·subst z;exact .inr hD
      ·rw[aL z]at e;exact x.new _ _ e
    refine XV s2.heap.objs.size g3.objs.size s4 H' (upd N s2.heap.objs.size (.lst vs)) vs m hD (I2.call' (ch:=fp) I9.os (u1.trans I9.base) I9.hok I9.bare λb hb=>⟨(f2 b hb).2.2.2.1,(f2 b hb).2.1,(f2 b hb).2.2.2.2.1,(f2 b hb).2.2.2.2.2⟩) hm (I2.fpOk (by rw[hC];exact Nat.le_succ _) I9.free) x9 aH
     (Ud.mono λa o e=>by rw[aL (λz=>by subst z;rw[Ub]at e;cases e)];exact e)
  ·refine⟨0,N1,[],[],sD nT cap σ,_,I4,T.keep _ _ _ Ka λb hb o e=>DX _ _ (Kk _ _ e),λb hb=>?_,rfl,uN _,rep.caps,?_,(Ext.refl sN).upd hD VT,VT,aH,uN _,.nil,ds,by simpa using ec,rfl⟩
   ·rw[aL (XW b hb)];exact(f2 b hb).1
   ·unfold cF sD;simp
 exact codeAny_compStart_list (loop _ rfl) (T.self _ 0 _ _ _ (T.keep _ _ _ Ka λb hb o e=>DX _ _ (Kk _ _ e)) (loop _ rfl))
theorem IA (lI:X.calm=true) 
  (S:CompSc X scope cl) (cp:nN X N' scope cl nT cap) (hi:JI X tg df fi)
  (hg:∀C s H fp,PG (fE X N' scope cl C s H fp) tg g) (Kj:MA X.K nT sv g) (hc:∀C s H fp,JC (fE X N' scope cl C s H fp) xc fc) (he:∀C s H fp,JE (fE X N' scope cl C s H fp) z9 fe)
  (hs:∀x,foldedSetIterable df X.env x=pure x:=by intro _;rfl):
  JE X (.ListComp z9 [⟨tg,df,xc,0⟩] scope pos) (cf fi nT cap sv fc fe):=by
 intro af s σ H Q I h;obtain⟨B,ρ,d,b,sB,rep,e,q⟩:=h;obtain⟨items,ei,e⟩:=oX e;have hsz:items.length<=sizeLine:=Decidable.byContradiction λz=>by rw[if_neg z]at e;cases e
 rw[if_pos hsz]at e;obtain⟨ds,ec,e⟩:=oY e;cases e
 rw[eval_ListComp];refine wpAny_comprehension_free (use:=none) rfl hs S.clos S.kind S.names (cR (hi af s σ H (λJ H2=>∃N1,Ext B N1 H H2/\qd X.K J N1 items) I ⟨B,ρ,items,sB,rep,ei,λJ H2 N1 x1 j1=>⟨N1,x1,j1⟩⟩) λv s1 h1=>cR h1 λSa s2 h2=>?_);obtain⟨it,fp,tn,J,H2,e,I2,T,Ka,f2,N1,x1,j1⟩:=h2;subst e;refine qg lI S cp hg Kj hc he I2 T Ka f2 (rep.mono x1.bn) x1.nh j1 hsz ec (RR:=λmm C=>compPost (model X.prog X.w) X.A X.xe none (EP X af σ Q) mm C) ?_;intro Dd C s' H' N vs m hD I' hm fC x hN hl;refine⟨m,hm,λh' hs'=>⟨.ref Dd,H',?_,rfl,q _ H' N (x1.trans x) (.lst (iM.of hN) hl) λ_=>⟨Dd,vs,ds,rfl,rfl,x1.hh.free hD,hN,hl⟩⟩⟩;obtain⟨c0,c1,c2,c3,c4,c5⟩:=fC;exact I'.turned (t':=s'.toks) (λb o hb e=>(hs'.2 b hb).trans e) c0 c1 c3 c4 c5
theorem IB (lI:X.calm=true) 
  (hN:X.N.Nodup) (L9:X.N[i]? = some y) (hy:X.env.kindOf y=some .local)
  (QQ:swapsWith (.ListComp z9 [⟨tg,df,xc,0⟩] scope pos) (some (.Name y py)) spos.line X.env=pure true)
  (S:CompSc X scope cl) (cp:nN X N' scope cl nT cap) (hi:JI X tg df fi)
  (hg:∀C s H fp,PG (fE X N' scope cl C s H fp) tg g) (Kj:MA X.K nT sv g) (hc:∀C s H fp,JC (fE X N' scope cl C s H fp) xc fc) (he:∀C s H fp,JE (fE X N' scope cl C s H fp) z9 fe)
  (hs:∀x,foldedSetIterable df X.env x=pure x:=by intro _;rfl):
  JS X (.Assign [.Name y py] (.ListComp z9 [⟨tg,df,xc,0⟩] scope pos) spos) (aS i (cf fi nT cap sv fc fe)):=by
 intro af s σ H E I h;have h2:zP (tD X.K (cf fi nT cap sv fc fe)) (jT i) E σ H:=Bi h;obtain⟨B,ρ,d,b,sB,rep,e,q⟩:=h2;obtain⟨items,ei,e⟩:=oX e;have hsz:items.length<=sizeLine:=Decidable.byContradiction λz=>by rw[if_neg z]at e;cases e
 rw[if_pos hsz]at e;obtain⟨ds,ec,e⟩:=oY e;cases e
 rw[exec_Assign_Name_used _ _ _ _ QQ];refine wX (wpAny_standAt (wX ?_));show wpAny _ _ (do let _ ←comprehension (.ListComp z9 [⟨tg,df,xc,0⟩] scope pos) scope X.env _ (newList []) false (eval df X.env) (some (assign (.Name y py) X.env))) _ _ s;refine wX (wpAny_mono (wpAny_comprehension_free (use:=some (assign (.Name y py) X.env)) (Q:=λ_ s'=>SP X af E .next s') rfl hs S.clos S.kind S.names
  (cR (hi af s σ H (λJ H2=>∃N1,Ext B N1 H H2/\qd X.K J N1 items) I ⟨B,ρ,items,sB,rep,ei,λJ H2 N1 x1 j1=>⟨N1,x1,j1⟩⟩) λv s1 h1=>cR h1 λSa s2 h2=>?_)) (λ_ s' hq=>wY (wY hq)) λ_ _ e=>e)
 obtain⟨it,fp,tn,J,H2,e,I2,T,Ka,f2,N1,x1,j1⟩:=h2;subst e;refine qg lI S cp hg Kj hc he I2 T Ka f2 (rep.mono x1.bn) x1.nh j1 hsz ec (RR:=λmm C=>compPost (model X.prog X.w) X.A X.xe (some (assign (.Name y py) X.env)) (λ_ s'=>SP X af E .next s') mm C) ?_;intro Dd C s' H' N vs m hD I' hm fC x VY hl;show wpAny _ _ (assign (.Name y py) X.env (.ref Dd)) _ _ s';obtain⟨c0,c1,c2,c3,c4,c5⟩:=fC;refine wpAny_assign_Name (sV I' hN L9 (.inl hy) (r:=show aY (.ref Dd) (.ref Dd)from rfl) (λs9 I9 ⟨a,sb,ha⟩=>?_) (.inr hy));have nC:C≠a:=by
  rcases ha with z|z
  ·rw[z];exact c1
  ·exact λw=>c4 y a z w.symm
 refine⟨m,hm.sameBut sb nC,λh' hs'=>⟨_,H',?_,q _ H' N (x1.trans x) (.lst (iM.of VY) hl) λ_=>⟨Dd,vs,ds,rfl,rfl,x1.hh.free hD,VY,hl⟩⟩⟩;exact I9.turned (t':=s9.toks) (λb o hb e=>(hs'.2 b hb).trans e) c0 c1 c3 c4 c5
section
variable {X:Cx}{a b c e:Expr}{pos:Pos}
theorem PE.to (h:PE X e t)(k:∀σ H Q,t' σ H Q->t σ H Q):PE X e t':=λaf s σ H Q I q=>h af s σ H Q I (k σ H Q q)
theorem PT.to (h:PT X e t)(k:∀σ H Q,t' σ H Q->t σ H Q):PT X e t':=λaf s σ H Q I q=>h af s σ H Q I (k σ H Q q)
theorem PW.to (h:PW X e t)(k:∀σ H Q,t' σ H Q->t σ H Q):PW X e t':=λwh af s σ H Q I q=>h wh af s σ H Q I (k σ H Q q)
theorem PA.to (h:PA X es t)(k:∀σ H Q,t' σ H Q->t σ H Q):PA X es t':=λpos af s σ H Q I q=>h pos af s σ H Q I (k σ H Q q)
theorem PS.to {st:Stmt}{t t':TS}(h:PS X st t)(k:∀E σ H,t' E σ H->t E σ H):PS X st t':=λaf s σ H E I q=>h af s σ H E I (k E σ H q)
theorem ve.to {st:List Stmt}{t t':TS}(h:ve X st t)(k:∀E σ H,t' E σ H->t E σ H):ve X st t':=λaf s σ H E I q=>h af s σ H E I (k E σ H q)
theorem PI.to (h:PI X tg it t)(k:∀σ H Q,t' σ H Q->t σ H Q):PI X tg it t':=λaf s σ H Q I q=>h af s σ H Q I (k σ H Q q)
theorem Dc {K:PySem.W.Frag}{d:D}{v:V}(i:∀B,Is K B v d){σ:St}{H:Hp}{Q:VK}(h:tD K (fC d) σ H Q):tC v σ H Q:=by
 obtain⟨B,ρ,d',b,s,r,e,q⟩:=h;cases e
 exact q.one s (i B)
theorem ah (i:Nat)(hN:X.N[i]? = some x:=by rfl)(hv:Eo X.env.scope x:=by first|exact Or.inl rfl|exact Or.inr (Or.inl rfl)|exact Or.inr (Or.inr rfl))(hd:(x == ("__debug__" : Str))=false:=by decide)
  (jA:(x == ("__classdict__" : Str))=false:=by decide):JE X (.Name x pos) (aj i):=PE.to (lL hN hv hd jA) λ_ _ _ h=>M7 h
theorem aw:JE X (.Constant (.int i) j pos) (fC (.int i)):=PE.to LQ λ_ _ _ h=>Dc (λ_=>.int i) h
theorem gK:JE X (.Constant (.bool i) j pos) (fC (.bl i)):=PE.to Pb λ_ _ _ h=>Dc (λ_=>.bl i) h
theorem cY:JE X (.Constant .none j pos) (fC .non):=PE.to LR λ_ _ _ h=>Dc (λ_=>.non) h
theorem a7:JE X (.Constant (.str x) j pos) (fC (.str x)):=PE.to LS λ_ _ _ h=>Dc (λ_=>.str x) h
theorem IC (hg:Gl X x)(hm:X.mg x=some u)(r:aY v u)(i:∀B,Is X.K B v d)(hd:(x == ("__debug__" : Str))=false:=by decide):JE X (.Name x pos) (fC d):=PE.to (Ba hg hm r hd) λ_ _ _ h=>Dc i h
theorem az (ho:dP X (binaryOp op) (rD X.K f))(ha:JE X a fa)(hb:JE X b fb):JE X (.BinOp a op b pos) (f2 f fa fb):=PE.to (Ky ho ha hb) λ_ _ _ h=>Ip h
theorem K7 (ho:Ps X (unaryOp op) (SU X.K f))(ha:JE X a fa):JE X (.UnaryOp op a pos) (f1 f fa):=PE.to (Pt ho ha) λ_ _ _ h=>SV h
theorem cK (ho:dP X (compareOp op) (rD X.K f))(ha:JE X a fa)(hb:JE X b fb)(hm:behindInMarks op b=false:=by first|exact jl _ (by decide) (by decide)|rfl):JE X (.Compare a [op] [b] pos) (f2 f fa fb):=PE.to (HX ho ha hb hm) λ_ _ _ h=>Ip h
theorem Ah {K:PySem.W.Frag}{f:FE}{σ:St}{H:Hp}{Q:Bool->Hp->Prop}(h:CZ K (bg f) σ H Q):tD K f σ H λx H'=>∃k,x=.bl k/\Q k H':=by
 obtain⟨B,ρ,c,s,r,e,q⟩:=h;unfold bg at e;split at e
 ·rename_i c' b' ef;cases e
  refine⟨B,ρ,.bl c,b',s,r,ef,λv H' N x i _=>?_⟩;cases i
  exact⟨c,rfl,q H' x.hh⟩
 ·cases e
theorem aJ (ho:dP X (compareOp op) (rD X.K f))(ha:JE X a fa)(hb:JE X b fb)(hm:behindInMarks op b=false:=by first|exact jl _ (by decide) (by decide)|rfl):JT X (.Compare a [op] [b] pos) (bg (f2 f fa fb)) :=
 PT.to (HY ho ha hb hm) λ_ _ _ h=>Ip (Ah h)
theorem cj (h:JE X e f)(he:∀si,isTrue e X.env si=(do let v ←si;standAt e.pos;holding [v] (truthy v)):=by intro _;rfl):JT X e (bg f):=PT.to (LX h he) λ_ _ _ q=>Ah q
@[simp] noncomputable def nV (f g:D->D->Option (D×Bool))(fa fb fc:FE):FE:=λρ=>(fa ρ).bind λx=>(fb ρ).bind λy=>match f x.1 y.1 with
 |some (.bl true,_)=>(fc ρ).bind λz=>g y.1 z.1
 |some (.bl false,_)=>some (.bl false,false)
 |_=>none
theorem EM {K:PySem.W.Frag}{f g:D->D->Option (D×Bool)}{fa fb fc:FE}{σ:St}{H:Hp}{Q:VK}(h:tD K (nV f g fa fb fc) σ H Q):Ew (rD K f) (rD K g) (tD K fa) (tD K fb) (tD K fc) σ H Q:=by
 obtain⟨B,ρ,d,b,s,r,e,q⟩:=h;obtain⟨x,ex,e⟩:=oX e;obtain⟨y,ey,e⟩:=oX e;refine⟨B,ρ,x.1,x.2,s,r,ex,λv H1 N1 x1 i1 _=>⟨N1,ρ,y.1,y.2,x1.nh,r.mono x1.bn,ey,λv2 H2 N2 x2 i2 _=>?_⟩⟩;split at e
 ·rename_i b' ef;obtain⟨z,ez,e⟩:=oX e;refine⟨N2,x.1,y.1,.bl true,b',x2.nh,i1.mono x2.bn,i2,ef,λv3 H3 N3 x3 i3 _=>?_⟩;cases i3
  refine⟨true,rfl,?_⟩;rw[if_pos rfl];refine⟨N3,ρ,z.1,z.2,x3.nh,r.mono (x1.bn.trans (x2.bn.trans x3.bn)),ez,λv4 H4 N4 x4 i4 _=>⟨N4,y.1,z.1,d,b,x4.nh,i2.mono (x3.bn.trans x4.bn),i4,e,?_⟩⟩;exact q.into ((x1.trans x2).trans (x3.trans x4))
 ·rename_i b' ef;cases e
  refine⟨N2,x.1,y.1,.bl false,b',x2.nh,i1.mono x2.bn,i2,ef,λv3 H3 N3 x3 i3 _=>?_⟩;cases i3
  refine⟨false,rfl,?_⟩;rw[if_neg (by decide)];exact(q.into ((x1.trans x2).trans x3)).one x3.nh (.bl false)
 ·cases e
theorem EN (ho:dP X (compareOp op) (rD X.K f))(wZ:dP X (compareOp OD) (rD X.K g))(ha:JE X a fa)(hb:JE X b fb)(hc:JE X c fc)
  (hm:lastMarks [op,OD] [b,c]=false:=by with_unfolding_all rfl):JE X (.Compare a [op,OD] [b,c] pos) (nV f g fa fb fc):=PE.to (Ex ho wZ ha hb hc hm) λ_ _ _ h=>EM h
theorem ID {K:PySem.W.Frag}{f g:FT}{σ:St}{H:Hp}{Q:Bool->Hp->Prop}(h:CZ K (eG f g) σ H Q):Pd (CZ K f) (CZ K g) σ H Q:=by
 obtain⟨B,ρ,c,s,r,e,q⟩:=h;unfold eG at e;cases ef:f ρ with
 |none=>rw[ef]at e;cases e
 |some k=>
  rw[ef]at e;refine⟨B,ρ,k,s,r,ef,λH1 h1=>?_⟩;cases k with
  |true=>rw[if_pos rfl];exact⟨B,ρ,c,s.trans h1,r,e,λH2 h2=>q H2 (h1.trans h2)⟩
  |false=>rw[if_neg (by decide)];cases e;exact q H1 h1
theorem MB {K:PySem.W.Frag}{f g:FT}{σ:St}{H:Hp}{Q:Bool->Hp->Prop}(h:CZ K (jq f g) σ H Q):Va (CZ K f) (CZ K g) σ H Q:=by
 obtain⟨B,ρ,c,s,r,e,q⟩:=h;unfold jq at e;cases ef:f ρ with
 |none=>rw[ef]at e;cases e
 |some k=>
  rw[ef]at e;refine⟨B,ρ,k,s,r,ef,λH1 h1=>?_⟩;cases k with
  |false=>rw[if_neg (by decide)];exact⟨B,ρ,c,s.trans h1,r,e,λH2 h2=>q H2 (h1.trans h2)⟩
  |true=>rw[if_pos rfl];cases e;exact q H1 h1
theorem IE {K:PySem.W.Frag}{f:FT}{σ:St}{H:Hp}{Q:Bool->Hp->Prop}(h:CZ K (dQ f) σ H Q):Pe (CZ K f) σ H Q:=by
 obtain⟨B,ρ,c,s,r,e,q⟩:=h;obtain⟨k,ek,e⟩:=oY e;subst e;exact⟨B,ρ,k,s,r,ek,λH1 h1=>q H1 h1⟩
variable {aD:List Expr}
theorem gm (ha:JT X a f):JW X (.BoolOp .And [a] pos) f:=HN ha
theorem jD (ha:JT X a f):JW X (.BoolOp .Or [a] pos) f:=LY ha
theorem iZ (ha:JT X a f)(hb:JW X (.BoolOp .And (b::aD) pos) g):JW X (.BoolOp .And (a::b::aD) pos) (eG f g):=PW.to (LZ ha hb) λ_ _ _ h=>ID h
theorem kq (ha:JT X a f)(hb:JW X (.BoolOp .Or (b::aD) pos) g):JW X (.BoolOp .Or (a::b::aD) pos) (jq f g):=PW.to (Pf ha hb) λ_ _ _ h=>MB h
theorem jE (h:JW X e f):JT X e f:=h.pt
theorem eN (ha:JT X a f):JT X (.UnaryOp .Not a pos) (dQ f):=PT.to (Ma ha) λ_ _ _ h=>IE h
@[simp] noncomputable def lr (f g:FE):FE:=λρ=>match f ρ with|some (.bl true,_)=>g ρ|some (.bl false,_)=>some (.bl false,false)|_=>none
@[simp] noncomputable def MC (f g:FE):FE:=λρ=>match f ρ with|some (.bl true,_)=>some (.bl true,false)|some (.bl false,_)=>g ρ|_=>none
@[simp] noncomputable def Xd (f:FE):FE:=λρ=>match f ρ with|some (.bl c,_)=>some (.bl (!c),false)|_=>none
theorem hV (ha:JE X a f)(hb:JE X (.BoolOp .And (b::aD) pos) g):JE X (.BoolOp .And (a::b::aD) pos) (lr f g):=PE.to (Mc ha hb) λσ H Q h=>by
 obtain⟨B,ρ,d,k,s,r,e,q⟩:=h;unfold lr at e;split at e
 ·rename_i b' ef;refine⟨B,ρ,_,_,s,r,ef,λv H1 N1 x1 i1 _=>?_⟩;cases i1
  refine⟨true,rfl,?_⟩;rw[if_pos rfl];exact⟨N1,ρ,d,k,x1.nh,r.mono x1.bn,e,q.into x1⟩
 ·rename_i b' ef;cases e
  refine⟨B,ρ,_,_,s,r,ef,λv H1 N1 x1 i1 _=>?_⟩;cases i1
  refine⟨false,rfl,?_⟩;rw[if_neg (by decide)];exact(q.into x1).one x1.nh (.bl false)
 ·cases e
theorem EO (ha:JE X a f)(hb:JE X (.BoolOp .Or (b::aD) pos) g):JE X (.BoolOp .Or (a::b::aD) pos) (MC f g):=PE.to (Ph ha hb) λσ H Q h=>by
 obtain⟨B,ρ,d,k,s,r,e,q⟩:=h;unfold MC at e;split at e
 ·rename_i b' ef;cases e
  refine⟨B,ρ,_,_,s,r,ef,λv H1 N1 x1 i1 _=>?_⟩;cases i1
  refine⟨true,rfl,?_⟩;rw[if_pos rfl];exact(q.into x1).one x1.nh (.bl true)
 ·rename_i b' ef;refine⟨B,ρ,_,_,s,r,ef,λv H1 N1 x1 i1 _=>?_⟩;cases i1
  refine⟨false,rfl,?_⟩;rw[if_neg (by decide)];exact⟨N1,ρ,d,k,x1.nh,r.mono x1.bn,e,q.into x1⟩
 ·cases e
theorem fX (h:JE X a f):JE X (.BoolOp op [a] pos) f:=Mb h
theorem K8 (hc:JT X c fc)(ha:JE X a f)(hb:JE X b g):JE X (.IfExp c a b pos) (Hx fc f g):=PE.to (Er hc ha hb) λσ H Q h=>by
 obtain⟨B,ρ,d,k,s,r,e,q⟩:=h;unfold Hx at e;cases ef:fc ρ with
 |none=>rw[ef]at e;cases e
 |some t=>
  rw[ef]at e;refine⟨B,ρ,t,s,r,ef,λH1 h1=>?_⟩;cases t with
  |true=>rw[if_pos rfl];exact⟨B,ρ,d,k,s.trans h1,r,e,q.into (.grow s h1)⟩
  |false=>rw[if_neg (by decide)];exact⟨B,ρ,d,k,s.trans h1,r,e,q.into (.grow s h1)⟩
variable {es:List Expr}
theorem ak:JA X [] ai:=PA.to km λ_ _ _ h=>Ir h
theorem ag (ha:JE X e f)(hr:JA X es g)(hs:starEach (e::es) X.env=(false,eval e X.env)::starEach es X.env:=by rfl):JA X (e::es) (ae f g):=PA.to (iN ha hr hs) λ_ _ _ h=>EE h
@[simp] noncomputable def aP:List D->Option (D×Bool):=λds=>if ds.length<=sizeLine then some (.tup ds,false)else none
@[simp] noncomputable def bj:List D->Option (D×Bool):=λds=>if ds.length<=sizeLine then some (.lst ds,true)else none
theorem aO {x1}(h:JA X es f):JE X (.Tuple es x1 pos) (fA aP f):=PE.to (zU h) λσ H Q q=>by
 obtain⟨B,ρ,ds,s,r,e,k⟩:=Iq q;refine⟨B,ρ,ds,s,r,e,λvs H1 N1 x1 i1=>?_⟩;obtain⟨B2,VZ,d,b,s2,i2,e2,k2⟩:=k vs H1 N1 x1 i1;unfold aP at e2;split at e2
 ·rename_i hz;cases e2
  refine⟨by rw[i2.length];exact hz,λp hp=>k2 _ _ (upd B2 p (.tup vs)) (.laid s2 hp) (.tup (jm.of aH) (i2.mono (Ext.laid s2 hp).bn)) (by simp)⟩
 ·cases e2
theorem bo (h:JA X es f):JE X (.List es pos) (fA bj f):=PE.to (Mu h) λσ H Q q=>by
 obtain⟨B,ρ,ds,s,r,e,k⟩:=Iq q;refine⟨B,ρ,ds,s,r,e,λvs H1 N1 x1 i1=>?_⟩;obtain⟨B2,VZ,d,b,s2,i2,e2,k2⟩:=k vs H1 N1 x1 i1;unfold bj at e2;split at e2
 ·rename_i hz;cases e2
  refine⟨by rw[i2.length];exact hz,λp hp=>k2 _ _ (upd B2 p (.lst vs)) (.laid s2 hp) (.lst (iM.of aH) (i2.mono (Ext.laid s2 hp).bn)) λ_=>⟨p,vs,VZ,rfl,rfl,hp,aH,i2.mono (Ext.laid s2 hp).bn⟩⟩
 ·cases e2
end
section
variable {X:Cx}
theorem ja (h:dP X f r)(k:∀x y H Q,r' x y H Q->r x y H Q):dP X f r':=λaf s σ H x y v u Q I rx ry q=>h af s σ H x y v u Q I rx ry (k x y H Q q)
noncomputable def Eg (f g:D->D->Option (D×Bool)):D->D->Option (D×Bool):=λx y=>match f x y with|some r=>some r|none=>g x y
theorem nW (h:dP X s (rD X.K f))(h':dP X s (rD X.K g)):dP X s (rD X.K (Eg f g)):=by
 intro af st σ H x y v u Q I rx ry q;obtain⟨B,dx,dy,d,b,sB,ix,iy,e,q⟩:=q;unfold Eg at e;split at e
 ·rename_i r ef;cases e
  exact h af st σ H x y v u Q I rx ry ⟨B,dx,dy,_,_,sB,ix,iy,ef,q⟩
 ·exact h' af st σ H x y v u Q I rx ry ⟨B,dx,dy,_,_,sB,ix,iy,e,q⟩
@[simp] noncomputable def xj (C:Int->Int->Bool)(g:Int->Int->D):D->D->Option (D×Bool)
 |.int i,.int j=>if C i j=true then some (g i j,false)else none
 |_,_=>none
theorem wc (h:dP X s (rI C g))(hC:∀i j,C' i j=true->C i j)(hg:∀i j B,Is X.K B (g i j) (g' i j)):dP X s (rD X.K (xj C' g')):=by
 refine ja h λx y H Q q=>?_;obtain⟨B,dx,dy,d,b,sB,ix,iy,e,q⟩:=q;cases ix<;>cases iy<;>try (simp[xj]at e;done)
 rename_i i j;simp only[xj]at e;split at e
 ·rename_i hc;cases e
  exact⟨i,j,rfl,rfl,hC i j hc,q.one sB (hg i j B)⟩
 ·cases e
theorem hW (h:dP X s (Hu g))(hg:∀i j B,Is X.K B (g i j) (g' i j)):dP X s (rD X.K (xj (λ_ _=>true) g')):=by
 refine ja h λx y H Q q=>?_;obtain⟨B,dx,dy,d,b,sB,ix,iy,e,q⟩:=q;cases ix<;>cases iy<;>try (simp[xj]at e;done)
 rename_i i j;simp only[xj,if_true]at e;cases e
 exact⟨i,j,rfl,rfl,q.one sB (hg i j B)⟩
abbrev MD:D->D->Option (D×Bool):=xj (λ_ _=>true) λi j=>.int (i+j)
abbrev Ai:D->D->Option (D×Bool):=xj (λ_ _=>true) λi j=>.int (i - j)
abbrev ME:D->D->Option (D×Bool):=xj (λi j=>decide ((-18446744073709551616<i/\i<18446744073709551616)∨(-18446744073709551616<j/\j<18446744073709551616))) λi j=>.int (i*j)
abbrev cS:D->D->Option (D×Bool):=xj (λ_ j=>decide (0<j/\j<1073741824)) λi j=>.int (i / j)
abbrev bQ:D->D->Option (D×Bool):=xj (λ_ j=>decide (0<j)) λi j=>.int (i % j)
abbrev PP:D->D->Option (D×Bool):=xj (λ_ _=>true) λi j=>.int (Builtin.bitAnd i j)
abbrev Vn:D->D->Option (D×Bool):=xj (λ_ _=>true) λi j=>.bl (decide (i<j))
abbrev SW:D->D->Option (D×Bool):=xj (λ_ _=>true) λi j=>.bl (decide (i<=j))
abbrev Aj:D->D->Option (D×Bool):=xj (λ_ _=>true) λi j=>.bl (decide (j<i))
abbrev SX:D->D->Option (D×Bool):=xj (λ_ _=>true) λi j=>.bl (decide (j<=i))
theorem PQ:dP X (binaryOp .Add) (rD X.K MD):=hW Mn λ_ _ _=>.int _
theorem EQ:dP X (binaryOp .Sub) (rD X.K Ai):=hW Mo λ_ _ _=>.int _
theorem PR:dP X (binaryOp .Mult) (rD X.K ME):=wc Mp (λi j h=>by have h:=of_decide_eq_true h;unfold HV;omega) λ_ _ _=>.int _
theorem bS:dP X (binaryOp .FloorDiv) (rD X.K cS):=wc HW (λi j h=>by have h:=of_decide_eq_true h;unfold Pu;omega) λ_ _ _=>.int _
theorem bK:dP X (binaryOp .Mod) (rD X.K bQ):=wc Mq (λ_ _ h=>of_decide_eq_true h) λ_ _ _=>.int _
theorem PU:dP X (binaryOp .BitAnd) (rD X.K PP):=hW Mr λ_ _ _=>.int _
theorem SY:dP X (compareOp .Lt) (rD X.K Vn):=hW Pw λ_ _ _=>.bl _
theorem Ta:dP X (compareOp .LtE) (rD X.K SW):=hW Px λ_ _ _=>.bl _
theorem xI:dP X (compareOp .Gt) (rD X.K Aj):=hW Py λ_ _ _=>.bl _
theorem Tc:dP X (compareOp .GtE) (rD X.K SX):=hW Pz λ_ _ _=>.bl _
@[simp] noncomputable def K9 (C:Str->Str->Bool)(g:Str->Str->D):D->D->Option (D×Bool)
 |.str i,.str j=>if C i j=true then some (g i j,false)else none
 |_,_=>none
abbrev ER:D->D->Option (D×Bool):=K9 (λi j=>decide (i.length+j.length<=sizeLine)) λi j=>.str (i++j)
abbrev PV:D->D->Option (D×Bool):=K9 (λ_ _=>true) λi j=>.bl (!decide (j.cps.toList<i.cps.toList))
theorem MF:dP X (binaryOp .Add) (rD X.K ER):=by
 refine ja zS λx y H Q q=>?_;obtain⟨B,dx,dy,d,b,sB,ix,iy,e,q⟩:=q;cases ix<;>cases iy<;>try (simp[ER,K9]at e;done)
 rename_i i j;simp only[ER,K9]at e;split at e
 ·rename_i hc;cases e
  exact⟨i,j,rfl,rfl,of_decide_eq_true hc,q.one sB (.str _)⟩
 ·cases e
theorem PX:dP X (compareOp .LtE) (rD X.K PV):=by
 intro af s σ H x y v u Q I rx ry q;obtain⟨B,dx,dy,d,b,sB,ix,iy,e,q⟩:=q;cases ix<;>cases iy<;>try (simp[PV,K9]at e;done)
 rename_i i j;simp only[PV,K9,if_true]at e;cases e
 obtain⟨t,rfl⟩:=rx;obtain⟨t',rfl⟩:=ry;exact PySem.P.le_str ⟨.bl _,H,I,rfl,q.one sB (.bl _)⟩
end
section
variable {X:Cx}{a b c e:Expr}{pos:Pos}{st:Stmt}{aD:List Stmt}
theorem eY:xi X [] aX:=ve.to HP λ_ _ _ h=>EG h
theorem ao (h1:JS X st g)(h2:xi X aD h):xi X (st::aD) (aA g h):=ve.to (Es h1 h2) λ_ _ _ q=>Iu q
theorem bA (h1:JS X st g):xi X [st] g:=HQ h1
theorem fG {c:Expr}{a b:List Stmt}{fc:FT}{g h:FS}(hc:JT X c fc)(ha:xi X a g)(hb:xi X b h):JS X (.If c a b pos) (dC fc g h):=PS.to (Pn hc ha hb) λ_ _ _ q=>M8 q
theorem ES (he:JE X e f):JS X (.Return (some e) pos) (aR f):=PS.to (Et he) λ_ _ _ q=>Iv q
theorem kT (i:Nat)(hN:X.N[i]? = some x:=by rfl)(hv:Eo X.env.scope x:=by first|exact Or.inl rfl|exact Or.inr (Or.inl rfl)|exact Or.inr (Or.inr rfl))(hd:(x == ("__debug__" : Str))=false:=by decide)
  (jA:(x == ("__classdict__" : Str))=false:=by decide):JS X (.Return (some (.Name x p)) pos) (jr i):=PS.to (Et (lL hN hv hd jA)) λ_ _ _ q=>EH q
theorem aC (hN:X.N.Nodup)(he:JE X e f)(hi:X.N[i]? = some x:=by rfl)(hx:Ht X.env.scope x:=by first|exact Or.inl rfl|exact Or.inr rfl)(hs:swapsWith e (some (.Name x p)) pos.line X.env=pure false:=by rfl)
  (hf:X.fn x=true∨X.env.scope.names.lookup x=some .local:=by first|exact .inl rfl|exact .inr rfl):JS X (.Assign [.Name x p] e pos) (aS i f):=PS.to (vi hN hi hx he hs hf) λ_ _ _ q=>Bi q
theorem IF (hN:X.N.Nodup)(he:JE X e f)(hi:X.N[i]? = some x:=by rfl)(hx:Ht X.env.scope x:=by first|exact Or.inl rfl|exact Or.inr rfl)(hs:swapsWith e (some (.Name x p)) pos.line X.env=pure false:=by rfl)
  (hf:X.fn x=true∨X.env.scope.names.lookup x=some .local:=by first|exact .inl rfl|exact .inr rfl):JS X (.Assign [.Name x p] e pos) (xF i f):=PS.to (vi hN hi hx he hs hf) λ_ _ _ q=>EI q
theorem MG (hp:PassesOwn (model X.prog X.w) X.A X.env X.xe)(hc:X.calm=true)(hi:JI X tg df fi)(hg:PG X tg t)(ht:Ix X.K sv t)(hb:xi X body g)
  (hs:∀x,foldedSetIterable df X.env x=pure x:=by intro _;rfl):JS X (.For tg df body [] pos) (qe fi sv g):=PS.to (Ev hp hc hi hg hb hs) λ_ _ _ q=>Iy ht q
theorem IG (hp:PassesOwn (model X.prog X.w) X.A X.env X.xe)(hc:X.calm=true)(hi:PI X tg df (RJ X.K fi))(hg:PG X tg t)(ht:Ix X.K sv t)(hb:xi X body g)
  (hs:∀x,foldedSetIterable df X.env x=pure x:=by intro _;rfl):JS X (.For tg df body [] pos) (lz fi sv g):=PS.to (Ev hp hc hi hg hb hs) λ_ _ _ q=>EL ht q
theorem hZ (he:JE X e f)(hN:X.N[i]? = some x:=by rfl)(hv:Eo X.env.scope x:=by first|exact Or.inl rfl|exact Or.inr (Or.inl rfl)|exact Or.inr (Or.inr rfl))(hd:(x == ("__debug__" : Str))=false:=by decide)
  (jA:(x == ("__classdict__" : Str))=false:=by decide)
  (iI:attributeBase (.Name x p) "append" X.env (eval (.Name x p) X.env)=eval (.Name x p) X.env:=by rfl)
  (AX:((backTo cJ (starEach [e] X.env)).all (λx=>!x.1) && (backToKw cJ (keywordEach [] X.env)).all (λx=>x.1.isSome)
   && decide ([e].length+([]:List Keyword).length+(if([]:List Keyword).isEmpty then 0 else 1)<30))=true:=by rfl)
  (iJ:(dI.endLine == cJ.line)=true:=by rfl) (hs:starEach [e] X.env=[(false,eval e X.env)]:=by rfl) (QQ:swapsWith (.Call (.Attribute (.Name x p) "append" dI) [e] [] cJ) none pos.line X.env=pure false:=by rfl):
  JS X (.Expr (.Call (.Attribute (.Name x p) "append" dI) [e] [] cJ) pos) (kh i f):=by
 refine PS.to (HR (E5 PySem.F.plainAttrs_list PySem.F.slot_list_append PySem.F.type_list_append tz (lL hN hv hd jA) (iN he km hs) iI AX iJ hs rfl) QQ) λE σ H q=>?_;obtain⟨a,us,h1,h2,k⟩:=Iw q;exact⟨_,h1,.inl ⟨rfl,us,iM.of h2⟩,k⟩
end
@[simp] noncomputable def aN (g:FS)(n k:Nat):List D->Option (D×Bool):=λds=>if ds.length=n then
 match g (ds.map (λd=>some (d,false))++List.replicate k none) with
 |some (.rt d b)=>some (d,b)
 |some (.nx _)=>some (.non,false)
 |_=>none
 else none
def IH (K:PySem.W.Frag)(f:List D->Option (D×Bool)):Sp:=λvs H Q _=>∃(B:Hp)(ds:List D)(d:D)(b:Bool),(aZ B H/\Tb K B)/\IsL K B vs ds/\f ds=some (d,b)/\Fin K B H d b Q
theorem xJ {K:PySem.W.Frag}{B H:Hp}{vs:List V}{ds:List D}{N:List Str}(sB:aZ B H)(tb:Tb K B)(i:IsL K B vs ds):eM K B H B H (L2.jU N vs) (ds.map (λd=>some (d,false))++List.replicate (N.length - vs.length) none):=by
 have nf:∀(j:Nat)(d:D)(b:Bool),(ds.map (λd=>some (d,false))++List.replicate (N.length - vs.length) none:Env)[j]? = some (some (d,b))->b=false/\ds[j]? = some d:=λj d b e=>by
  by_cases hj:j<ds.length
  ·rw[List.getElem?_append_left (by simpa using hj),vA]at e;obtain⟨d',h1,h2⟩:=oY e;cases h2
   exact⟨rfl,h1⟩
  ·rw[List.getElem?_append_right (by simpa using Nat.not_lt.mp hj),List.getElem?_replicate]at e;split at e<;>cases e
 have no:∀a,¬own (L2.jU N vs) (ds.map (λd=>some (d,false))++List.replicate (N.length - vs.length) none) a:=λa ⟨j,d,h,_⟩=>by
  obtain⟨z,_⟩:=nf j d true h;cases z
 refine⟨sB,tb,.refl sB,?_,λj d e=>?_,λj d e=>?_,λj k a d e h=>?_⟩
 ·unfold L2.jU;rw[uZ,uZ,vI,vI,List.length_replicate,List.length_replicate,i.length]
 ·obtain⟨_,e1⟩:=nf j d false e;obtain⟨v,h1,h2⟩:=i.get e1;refine⟨v,?_,h2.mono λa o e=>by rw[cX (no a)];exact e⟩;unfold L2.jU;have hj:j<vs.length:=(vV h1).1;rw[List.getElem?_append_left (by simpa using hj),vA,h1]<;>rfl
 ·obtain⟨z,_⟩:=nf j d true e;cases z
 ·obtain⟨z,_⟩:=nf j d true h;cases z
section
variable {P:Program}{w:World}{K:PySem.W.Frag}{mg:Str->Option Value}{base:Heap}
theorem PY {x qual:Str}{st:Stmt}{f:Addr}{fd:FuncData}{N ps:List Str}{k:Nat}{g:FS}(F:NP K x qual st f fd)(S:FnScope N ps (aV st))
  (hb:∀(eO:Value)(A:Around)(outer:List PySem.Env)(s:Shared)(H:Hp)(E:XK),eU k (A.deeper (envOfC qual (aV st) s.heap.objs.size f eO))->xi (p6 zH P w K mg base N qual (aV st) f eO A outer s H E).nox (cN st) g):
  sS P w K mg base zH (k+1) f fd ps (IH K (aN g ps.length (N.length - ps.length))):=by
 have len:∀vs H Q E,IH K (aN g ps.length (N.length - ps.length)) vs H Q E->vs.length=ps.length:=λvs H Q E h=>by
  obtain⟨B,ds,d,b,sB,i,e,q⟩:=h;unfold aN at e;split at e
  ·rename_i hl;rw[i.length];exact hl
  ·cases e
 refine F.ok S len λeO A outer s H vs Q E hr h=>⟨_,hb eO A outer s H E hr,?_⟩;have bR:=len vs H Q E h;obtain⟨B,ds,d,b,sB,i,e,q⟩:=h;unfold aN at e;rw[if_pos (by rw[←i.length];exact bR)]at e;have s0:=xJ (N:=N) sB.1 sB.2 i;rw[bR]at s0;split at e
 ·rename_i d' b' eg;cases e
  exact⟨B,H,_,_,⟨B,s0⟩,eg,λv H' N' x' i' f'=>q v H' N' x' i' f'⟩
 ·rename_i ρ' eg;cases e
  exact⟨B,H,_,_,⟨B,s0⟩,eg,λσ' H' ⟨N',s'⟩=>q .non H' N' s'.ext .non (by simp)⟩
 ·cases e
structure Fn (P:Program)(w:World)(K:PySem.W.Frag)(mg:Str->Option Value)(base:Heap)(k:Nat)(x:Str)(f:List D->Option (D×Bool)):Prop where
 ex:∃(ad:Addr)(fd:FuncData)(ps:List Str),sS P w K mg base zH k ad fd ps (IH K f)/\mg x=some (.ref ad)/\PySem.W.keepIn K (.ref ad)=true/\sX K fd ps []
end
theorem Bj (F:Fn X.prog X.w X.K X.mg X.base k x f)(hr:eU k X.A)(ha:JA X (e::es) fa)(hg:Gl X x:=by rfl)
  (sk:(x == ("__debug__" : Str))=false:=by decide) (he:starEach (e::es) X.env=(false,eval e X.env)::starEach es X.env:=by rfl) (lx:(backTo pos (starEach es X.env)).any (·.1)=false:=by rfl):
  JE X (.Call (.Name x p) (e::es) [] pos) (fA f fa):=by
 obtain⟨ad,fd,ps,F1,hm,hk,hb⟩:=F.ex;refine PE.to (HZ F1 hr hg hm hk hb .nil PB ha sk he lx) λσ H Q q=>?_;obtain⟨B,ρ,d,b,s,r,e,q⟩:=q;obtain⟨ds,ex,e⟩:=oX e;exact⟨B,ρ,ds,s,r,ex,λvs H1 N1 x1 i1=>by
  show IH X.K f (vs++[]) H1 Q _;rw[uQ];exact⟨N1,ds,d,b,⟨x1.nh,r.tb.mono x1.bn⟩,i1,e,q.into x1⟩⟩
mutual
def bG:D->D->Bool
 |.non,.non=>true
 |.bl a,.bl b=>a == b
 |.bl a,.int b=>decide ((if a then 1 else 0)=b)
 |.int a,.bl b=>decide (a=(if b then 1 else 0))
 |.int a,.int b=>decide (a=b)
 |.str a,.str b=>decide (a=b)
 |.tup xs,.tup ys=>dj xs ys
 |.lst xs,.lst ys=>dj xs ys
 |_,_=>false
def dj:List D->List D->Bool
 |[],[]=>true
 |x::xs,y::ys=>bG x y && dj xs ys
 |_,_=>false
end
@[simp] theorem xK:bG .non .non=true:=by simp only[bG]
@[simp] theorem Ak (b:Bool):bG .non (.bl b)=false:=by simp only[bG]
@[simp] theorem xL (b:Int):bG .non (.int b)=false:=by simp only[bG]
@[simp] theorem xM (b:Str):bG .non (.str b)=false:=by simp only[bG]
@[simp] theorem KA (b:List D):bG .non (.tup b)=false:=by simp only[bG]
@[simp] theorem KE (b:List D):bG .non (.lst b)=false:=by simp only[bG]
@[simp] theorem Al (a:Bool):bG (.bl a) .non=false:=by simp only[bG]
@[simp] theorem De (a:Bool)(b:Bool):bG (.bl a) (.bl b)=(a == b):=by simp only[bG]
@[simp] theorem Am (a:Bool)(b:Int):bG (.bl a) (.int b)=decide ((if a then 1 else 0)=b):=by simp only[bG]
@[simp] theorem An (a:Bool)(b:Str):bG (.bl a) (.str b)=false:=by simp only[bG]
@[simp] theorem MH (a:Bool)(b:List D):bG (.bl a) (.tup b)=false:=by simp only[bG]
@[simp] theorem MI (a:Bool)(b:List D):bG (.bl a) (.lst b)=false:=by simp only[bG]
@[simp] theorem xN (a:Int):bG (.int a) .non=false:=by simp only[bG]
@[simp] theorem Ao (a:Int)(b:Bool):bG (.int a) (.bl b)=decide (a=(if b then 1 else 0)):=by simp only[bG]
@[simp] theorem xO (a:Int)(b:Int):bG (.int a) (.int b)=decide (a=b):=by simp only[bG]
@[simp] theorem xP (a:Int)(b:Str):bG (.int a) (.str b)=false:=by simp only[bG]
@[simp] theorem KG (a:Int)(b:List D):bG (.int a) (.tup b)=false:=by simp only[bG]
@[simp] theorem KH (a:Int)(b:List D):bG (.int a) (.lst b)=false:=by simp only[bG]
@[simp] theorem xQ (a:Str):bG (.str a) .non=false:=by simp only[bG]
@[simp] theorem Ap (a:Str)(b:Bool):bG (.str a) (.bl b)=false:=by simp only[bG]
@[simp] theorem xR (a:Str)(b:Int):bG (.str a) (.int b)=false:=by simp only[bG]
@[simp] theorem oG (a:Str)(b:Str):bG (.str a) (.str b)=decide (a=b):=by simp only[bG]
@[simp] theorem KI (a:Str)(b:List D):bG (.str a) (.tup b)=false:=by simp only[bG]
@[simp] theorem KJ (a:Str)(b:List D):bG (.str a) (.lst b)=false:=by simp only[bG]
@[simp] theorem KN (a:List D):bG (.tup a) .non=false:=by simp only[bG]
@[simp] theorem MJ (a:List D)(b:Bool):bG (.tup a) (.bl b)=false:=by simp only[bG]
@[simp] theorem KO (a:List D)(b:Int):bG (.tup a) (.int b)=false:=by simp only[bG]
@[simp] theorem KP (a:List D)(b:Str):bG (.tup a) (.str b)=false:=by simp only[bG]
@[simp] theorem KQ (a:List D)(b:List D):bG (.tup a) (.tup b)=dj a b:=by simp only[bG]
@[simp] theorem KR (a:List D)(b:List D):bG (.tup a) (.lst b)=false:=by simp only[bG]
@[simp] theorem KS (a:List D):bG (.lst a) .non=false:=by simp only[bG]
@[simp] theorem MK (a:List D)(b:Bool):bG (.lst a) (.bl b)=false:=by simp only[bG]
@[simp] theorem KU (a:List D)(b:Int):bG (.lst a) (.int b)=false:=by simp only[bG]
@[simp] theorem KW (a:List D)(b:Str):bG (.lst a) (.str b)=false:=by simp only[bG]
@[simp] theorem KY (a:List D)(b:List D):bG (.lst a) (.tup b)=false:=by simp only[bG]
@[simp] theorem KZ (a:List D)(b:List D):bG (.lst a) (.lst b)=dj a b:=by simp only[bG]
@[simp] theorem PZ:dj [] []=true:=by rw[dj]
@[simp] theorem O0 (x y:D)(xs ys:List D):dj (x::xs) (y::ys)=(bG x y && dj xs ys):=by rw[dj]
@[simp] theorem RK (y:D)(ys:List D):dj [] (y::ys)=false:=by simp only[dj]
@[simp] theorem RL (x:D)(xs:List D):dj (x::xs) []=false:=by simp only[dj]
noncomputable def aq:Nat->D->Bool
 |_,.non=>true
 |_,.bl _=>true
 |_,.int _=>true
 |_,.str _=>true
 |_,.ty _=>false
 |_,.dk _ _=>false
 |_,.dt _ _=>false
 |0,.tup _=>false
 |0,.lst _=>false
 |n+1,.tup ds=>ds.all (aq n)
 |n+1,.lst ds=>ds.all (aq n)
@[simp] theorem ML (n:Nat):aq n .non=true:=by cases n<;>simp only[aq]
@[simp] theorem O1 (n:Nat)(a:Bool):aq n (.bl a)=true:=by cases n<;>simp only[aq]
@[simp] theorem MN (n:Nat)(a:Int):aq n (.int a)=true:=by cases n<;>simp only[aq]
@[simp] theorem MO (n:Nat)(a:Str):aq n (.str a)=true:=by cases n<;>simp only[aq]
@[simp] theorem O2 (n:Nat)(ks:List cD)(vs:List D):aq n (.dk ks vs)=false:=by cases n<;>simp only[aq]
@[simp] theorem O3 (n:Nat)(ks:List (List cD))(vs:List D):aq n (.dt ks vs)=false:=by cases n<;>simp only[aq]
@[simp] theorem MP (n:Nat)(ds:List D):aq (n+1) (.tup ds)=ds.all (aq n):=by simp only[aq]
@[simp] theorem MQ (n:Nat)(ds:List D):aq (n+1) (.lst ds)=ds.all (aq n):=by simp only[aq]
theorem xS:∀ {xs ys:List D},dj xs ys=true->xs.length=ys.length
 |[],[],_=>rfl
 |x::xs,y::ys,h=>by
  simp only[dj,vC]at h;rw[vE,vE,xS h.2]
 |[],_::_,h=>by simp[dj]at h
 |_::_,[],h=>by simp[dj]at h
theorem we (h:xs.length≠ys.length):dj xs ys=false:=by
 cases e:dj xs ys with
 |false=>rfl
 |true=>exact absurd (xS e) h
theorem jF (f:Nat->Bool):∀ {xs ys:List D},xs.length=ys.length->(∀(j:Nat) x y,xs[j]? = some x->ys[j]? = some y->f j=bG x y)->(List.range xs.length).all f=dj xs ys
 |[],[],_,_=>by simp[dj]
 |x::xs,y::ys,hl,h=>by
  have e:=jF (λj=>f (j+1)) (xs:=xs) (ys:=ys) (by simpa using hl) λj a b h1 h2=>h (j+1) a b (by simpa using h1) (by simpa using h2);rw[vE,List.range_succ_eq_map,List.all_cons,List.all_map,dj,←h 0 x y rfl rfl,←e];rfl
 |[],_::_,hl,_=>by simp at hl
 |_::_,[],hl,_=>by simp at hl
section
variable {X:Cx}{af:List (Addr×Obj)}{σ:St}{H:Hp}{s:Shared}
theorem Bk (I:Inv X af σ H s)(h1:jm X.K H a vs)(h2:iM X.K H a ws):False:=by
 obtain⟨its,_,⟨o,e,c,_⟩,_⟩:=I.tuple h1;obtain⟨its',_,⟨o',n',e',c',_⟩,_⟩:=I.list h2;rw[e]at e';cases e';rw[c]at c';injection c' with z;exact absurd z (by decide)
theorem Bl (I:Inv X af σ H s)(e:s.heap.get? a=some o)(d:o.data=.seq its n):(∀aM ob,H a≠some (.dK aM ob))/\∀aM,H a≠some (.dT aM):=by
 refine⟨λaM ob h=>?_,λaM h=>?_⟩
 ·obtain⟨_,_,_,_,_,o',es,ep,e',_,d',_⟩:=(show bU X.prog X.w H s.heap a (.dK aM ob)from I.hok a _ h);rw[e]at e';cases e';rw[d]at d';cases d'
 ·obtain⟨_,_,_,_,o',es,ep,e',_,d',_⟩:=(show bU X.prog X.w H s.heap a (.dT aM)from I.hok a _ h);rw[e]at e';cases e';rw[d]at d';cases d'
theorem xT (I:Inv X af σ H s)(h1:jm X.K H a vs):(∀aM ob,H a≠some (.dK aM ob))/\∀aM,H a≠some (.dT aM):=by
 obtain⟨its,_,⟨o,e,c,n,d⟩,_⟩:=I.tuple h1;exact Bl I e d
theorem xU (I:Inv X af σ H s)(h1:iM X.K H a vs):(∀aM ob,H a≠some (.dK aM ob))/\∀aM,H a≠some (.dT aM):=by
 obtain⟨its,_,p,_⟩:=I.list h1;obtain⟨o,e,c,n,d⟩:=p.isList;exact Bl I e d
theorem Bm (I:Inv X af σ H s):∀(n:Nat){v:V}{d d':D},Is X.K H v d->Is X.K H v d'->aq n d=true->bG d d'=true:=by
 have lists:∀ {p:D->Bool}(ih:∀ {v:V}{d d':D},Is X.K H v d->Is X.K H v d'->p d=true->bG d d'=true) {vs:List V}{ds Ki:List D},IsL X.K H vs ds->IsL X.K H vs Ki->ds.all p=true->dj ds Ki=true:=by
  intro p ih vs;induction vs with
  |nil=>intro ds Ki h h' _;cases h;cases h';simp[dj]
  |cons v vs Yb=>
   intro ds Ki h h' hp;cases h with
   |cons h1 h2=>
    cases h' with
    |cons h3 h4=>
     rw[List.all_cons,vC]at hp;rw[dj,ih h1 h3 hp.1,Yb h2 h4 hp.2];rfl
 intro n;induction n with
 |zero=>
  intro v d d' h h' hp;cases h<;>cases h'<;>first|(simp[aq]at hp;done)|simp[bG]
 |succ n ih=>
  intro v d d' h h' hp;cases h with
  |tup h1 h2=>
   cases h' with
   |tup h3 h4=>
    rw[I.tuple_inj h3 h1]at h4;rw[bG];exact lists ih h2 h4 (by simpa [aq]using hp)
   |lst h3 h4=>exact(Bk I h1 h3).elim
   |dk h3 _ _=>exact((xT I h1).1 _ _ h3).elim
   |dt h3 _ _=>exact((xT I h1).2 _ h3).elim
  |lst h1 h2=>
   cases h' with
   |lst h3 h4=>
    rw[I.list_inj h3 h1]at h4;rw[bG];exact lists ih h2 h4 (by simpa [aq]using hp)
   |tup h3 h4=>exact(Bk I h3 h1).elim
   |dk h3 _ _=>exact((xU I h1).1 _ _ h3).elim
   |dt h3 _ _=>exact((xU I h1).2 _ h3).elim
  |ty=>simp[aq]at hp
  |dk=>simp[aq]at hp
  |dt=>simp[aq]at hp
  |_=>cases h'<;>simp[bG]
theorem La {α:Type}{p:α->Bool}{l:List α}{j:Nat}{x:α}(h:l.all p=true)(e:l[j]? = some x):p x=true:=uR h x (vL e)
theorem xV {A:Around}{p:D->Bool}(ih:∀ {v1 v2:V}{d1 d2:D}{u1 u2:Value},p d1=true->p d2=true->Is X.K H v1 d1->Is X.K H v2 d2->aY v1 u1->aY v2 u2->SeqAt.EqAt A s u1 u2 (bG d1 d2))
  {vs ws:List V}{ds es:List D}{its gh:List Value}(i1:IsL X.K H vs ds) (i2:IsL X.K H ws es) (r1:bf vs its) (r2:bf ws gh) (p1:ds.all p=true) (p2:es.all p=true):
  ∀j (h1:j<its.toArray.size) (h2:j<gh.toArray.size),SeqAt.EqAt A s its.toArray[j] gh.toArray[j] (bG (ds.getD j .non) (es.getD j .non)):=by
 intro j h1 h2;rw[vH]at h1 h2;have l1:=r1.length;have l2:=r2.length;have l3:=i1.length;have l4:=i2.length;have hv:j<vs.length:=by omega
 have hw:j<ws.length:=by omega
 have hd:j<ds.length:=by omega
 have he:j<es.length:=by omega
 obtain⟨u,e1,q1⟩:=r1.get (i:=j) (x:=vs[j]) (by simp[hv]);obtain⟨u',e2,q2⟩:=r2.get (i:=j) (x:=ws[j]) (by simp[hw]);obtain⟨v,e3,q3⟩:=i1.get (i:=j) (d:=ds[j]) (by simp[hd]);obtain⟨w,e4,q4⟩:=i2.get (i:=j) (d:=es[j]) (by simp[he]);have a1:its.toArray[j]=u:=by have z:=(vV e1).2;simpa using z
 have a2:gh.toArray[j]=u':=by have z:=(vV e2).2;simpa using z
 have a3:vs[j]=v:=by simpa [hv]using e3
 have a4:ws[j]=w:=by simpa [hw]using e4
 have a5:ds.getD j .non=ds[j]:=by simp[List.getD,hd]
 have a6:es.getD j .non=es[j]:=by simp[List.getD,he]
 rw[a1,a2,a5,a6];exact ih (La p1 (j:=j) (by simp[hd])) (La p2 (j:=j) (by simp[he])) (a3 ▸ q3) (a4 ▸ q4) q1 q2
theorem wg {xs ys:List D}(j:Nat)(x y:D)(h1:xs[j]? = some x)(h2:ys[j]? = some y):bG (xs.getD j .non) (ys.getD j .non)=bG x y:=by
 simp[List.getD,h1,h2]
abbrev Vo (A:Around)(s:Shared)(u1 u2:Value)(b:Bool):Prop:=SeqAt.RcAt A s u1 u2 b/\SeqAt.EqAt A s u1 u2 b/\SeqAt.RcNeAt A s u1 u2 (!b)
theorem cy (p1:aq 0 d1=true)(p2:aq 0 d2=true)(i1:Is X.K H v1 d1)(i2:Is X.K H v2 d2)(r1:aY v1 u1)(r2:aY v2 u2):Vo A s u1 u2 (bG d1 d2):=by
 cases i1 with
 |non=>
  cases r1
  cases i2 with
  |non=>
   cases r2
   rw[xK];exact⟨SeqAt.RcAt.none_none,SeqAt.EqAt.same _,SeqAt.RcNeAt.none_none⟩
  |bl b=>
   cases r2
   rw[Ak];exact⟨SeqAt.RcAt.none_bool _,SeqAt.EqAt.none_bool _,SeqAt.RcNeAt.none_bool _⟩
  |int b=>
   obtain⟨t',rfl⟩:=r2;rw[xL];exact⟨SeqAt.RcAt.none_int _ _,SeqAt.EqAt.none_int _ _,SeqAt.RcNeAt.none_int _ _⟩
  |str b=>
   obtain⟨t',rfl⟩:=r2;rw[xM];exact⟨SeqAt.RcAt.none_str _ _,SeqAt.EqAt.none_str _ _,SeqAt.RcNeAt.none_str _ _⟩
  |ty=>simp[aq]at p2
  |dk=>simp[aq]at p2
  |dt=>simp[aq]at p2
  |tup=>simp[aq]at p2
  |lst=>simp[aq]at p2
 |bl a=>
  cases r1
  cases i2 with
  |non=>
   cases r2
   rw[Al];exact⟨SeqAt.RcAt.bool_none _,SeqAt.EqAt.bool_none _,SeqAt.RcNeAt.bool_none _⟩
  |bl b=>
   cases r2
   rw[De];exact⟨SeqAt.RcAt.bool_bool _ _,SeqAt.EqAt.bool_bool _ _,SeqAt.RcNeAt.bool_bool _ _⟩
  |int b=>
   obtain⟨t',rfl⟩:=r2;rw[Am,←Bool.beq_eq_decide_eq];exact⟨SeqAt.RcAt.bool_int _ _ _,SeqAt.EqAt.bool_int _ _ _,SeqAt.RcNeAt.bool_int _ _ _⟩
  |str b=>
   obtain⟨t',rfl⟩:=r2;rw[An];exact⟨SeqAt.RcAt.bool_str _ _ _,SeqAt.EqAt.bool_str _ _ _,SeqAt.RcNeAt.bool_str _ _ _⟩
  |ty=>simp[aq]at p2
  |dk=>simp[aq]at p2
  |dt=>simp[aq]at p2
  |tup=>simp[aq]at p2
  |lst=>simp[aq]at p2
 |int a=>
  obtain⟨t,rfl⟩:=r1;cases i2 with
  |non=>
   cases r2
   rw[xN];exact⟨SeqAt.RcAt.int_none _ _,SeqAt.EqAt.int_none _ _,SeqAt.RcNeAt.int_none _ _⟩
  |bl b=>
   cases r2
   rw[Ao,←Bool.beq_eq_decide_eq];exact⟨SeqAt.RcAt.int_bool _ _ _,SeqAt.EqAt.int_bool _ _ _,SeqAt.RcNeAt.int_bool _ _ _⟩
  |int b=>
   obtain⟨t',rfl⟩:=r2;rw[xO,←Bool.beq_eq_decide_eq];exact⟨SeqAt.RcAt.int_int _ _ _ _,SeqAt.EqAt.int_int _ _ _ _,SeqAt.RcNeAt.int_int _ _ _ _⟩
  |str b=>
   obtain⟨t',rfl⟩:=r2;rw[xP];exact⟨SeqAt.RcAt.int_str _ _ _ _,SeqAt.EqAt.int_str _ _ _ _,SeqAt.RcNeAt.int_str _ _ _ _⟩
  |ty=>simp[aq]at p2
  |dk=>simp[aq]at p2
  |dt=>simp[aq]at p2
  |tup=>simp[aq]at p2
  |lst=>simp[aq]at p2
 |str a=>
  obtain⟨t,rfl⟩:=r1;cases i2 with
  |non=>
   cases r2
   rw[xQ];exact⟨SeqAt.RcAt.str_none _ _,SeqAt.EqAt.str_none _ _,SeqAt.RcNeAt.str_none _ _⟩
  |bl b=>
   cases r2
   rw[Ap];exact⟨SeqAt.RcAt.str_bool _ _ _,SeqAt.EqAt.str_bool _ _ _,SeqAt.RcNeAt.str_bool _ _ _⟩
  |int b=>
   obtain⟨t',rfl⟩:=r2;rw[xR];exact⟨SeqAt.RcAt.str_int _ _ _ _,SeqAt.EqAt.str_int _ _ _ _,SeqAt.RcNeAt.str_int _ _ _ _⟩
  |str b=>
   obtain⟨t',rfl⟩:=r2;rw[oG,←Bool.beq_eq_decide_eq];exact⟨SeqAt.RcAt.str_str _ _ _ _,SeqAt.EqAt.str_str _ _ _ _,SeqAt.RcNeAt.str_str _ _ _ _⟩
  |ty=>simp[aq]at p2
  |dk=>simp[aq]at p2
  |dt=>simp[aq]at p2
  |tup=>simp[aq]at p2
  |lst=>simp[aq]at p2
 |ty=>simp[aq]at p1
 |dk=>simp[aq]at p1
 |dt=>simp[aq]at p1
 |tup=>simp[aq]at p1
 |lst=>simp[aq]at p1
theorem Lb (I:Inv X af σ H s):∀(n:Nat){A:Around}{v1 v2:V}{d1 d2:D}{u1 u2:Value},A.units+n<cLine->aq n d1=true->aq n d2=true->Is X.K H v1 d1->Is X.K H v2 d2->aY v1 u1->aY v2 u2->Vo A s u1 u2 (bG d1 d2):=by
 intro n;induction n with
 |zero=>exact λ_ p1 p2 i1 i2 r1 r2=>cy p1 p2 i1 i2 r1 r2
 |succ n ih=>
  intro A v1 v2 d1 d2 u1 u2 hu p1 p2 i1 i2 r1 r2;have fB:A.units<cLine:=by omega
  have QK:∀ {v1 v2:V}{d1 d2:D}{u1 u2:Value},aq n d1=true->aq n d2=true->Is X.K H v1 d1->Is X.K H v2 d2->aY v1 u1->aY v2 u2->SeqAt.EqAt A.in1 s u1 u2 (bG d1 d2):=λp1 p2 i1 i2 r1 r2=>(ih (A:=A.in1) (by show A.units+1+n<cLine;omega) p1 p2 i1 i2 r1 r2).2.1;cases i1 with
  |tup h1 k1=>
   cases r1
   obtain⟨its,NQ,t1,z1⟩:=I.tuple h1;have ki:s.heap.IsTuple _ its.toArray:=t1;have q1:=p1;simp only[aq]at q1;cases i2 with
   |tup h2 k2=>
    cases r2
    obtain⟨gh,xf,t2,z2⟩:=I.tuple h2;have oA:s.heap.IsTuple _ gh.toArray:=t2;have q2:=p2;simp only[aq]at q2;rename_i a1 vs ds a2 ws es;have he:=xV (A:=A.in1) (p:=aq n) QK k1 k2 NQ xf q1 q2;have QR:((List.range (min its.toArray.size gh.toArray.size)).all (λj=>bG (ds.getD j .non) (es.getD j .non)) && its.toArray.size == gh.toArray.size)=bG (.tup ds) (.tup es):=by
     rw[bG,vH,vH,←NQ.length,←xf.length,k1.length,k2.length];by_cases hl:ds.length=es.length
     ·rw[←hl,Nat.min_self,beq_self_eq_true,Bool.and_true];exact jF _ hl λj x y e1 e2=>wg j x y e1 e2
     ·rw[we hl,beq_eq_false_iff_ne.mpr hl,Bool.and_false]
    have rc:=SeqAt.RcAt.tuples ki oA fB he;have rn:=SeqAt.RcNeAt.tuples ki oA fB he;rw[QR]at rc rn;refine⟨rc,?_,rn⟩;by_cases ha:a1=a2
    ·subst ha;rw[Bm I (n+1) (.tup h1 k1) (.tup h2 k2) p1];exact SeqAt.EqAt.same _
    ·exact SeqAt.EqAt.of_refs ha rc
   |lst h2 k2=>
    cases r2
    obtain⟨gh,xf,t2,z2⟩:=I.list h2;rw[show bG (.tup _) (.lst _)=false by simp only[bG]];exact⟨SeqAt.RcAt.tuple_list ki t2.isList fB,SeqAt.EqAt.tuple_list ki t2.isList fB,SeqAt.RcNeAt.tuple_list ki t2.isList fB⟩
   |ty=>simp[aq]at p2
   |dk=>simp[aq]at p2
   |dt=>simp[aq]at p2
   |non=>cases r2;simp only[bG];exact⟨SeqAt.RcAt.tuple_none ki fB,SeqAt.EqAt.tuple_none ki fB,SeqAt.RcNeAt.tuple_none ki fB⟩
   |bl=>cases r2;simp only[bG];exact⟨SeqAt.RcAt.tuple_bool _ ki fB,SeqAt.EqAt.tuple_bool _ ki fB,SeqAt.RcNeAt.tuple_bool _ ki fB⟩
   |int=>obtain⟨t,rfl⟩:=r2;simp only[bG];exact⟨SeqAt.RcAt.tuple_int _ _ ki fB,SeqAt.EqAt.tuple_int _ _ ki fB,SeqAt.RcNeAt.tuple_int _ _ ki fB⟩
   |str=>obtain⟨t,rfl⟩:=r2;simp only[bG];exact⟨SeqAt.RcAt.tuple_str _ _ ki fB,SeqAt.EqAt.tuple_str _ _ ki fB,SeqAt.RcNeAt.tuple_str _ _ ki fB⟩
  |lst h1 k1=>
   cases r1
   obtain⟨its,NQ,t1,z1⟩:=I.list h1;have ki:s.heap.IsList _ its.toArray:=t1.isList;have q1:=p1;simp only[aq]at q1;cases i2 with
   |lst h2 k2=>
    cases r2
    obtain⟨gh,xf,t2,z2⟩:=I.list h2;have oA:s.heap.IsList _ gh.toArray:=t2.isList;have q2:=p2;simp only[aq]at q2;rename_i a1 vs ds a2 ws es;have he:=xV (A:=A.in1) (p:=aq n) QK k1 k2 NQ xf q1 q2;have NR:SeqAt.RcAt A s (.ref a1) (.ref a2) (bG (.lst ds) (.lst es))/\SeqAt.RcNeAt A s (.ref a1) (.ref a2) (!bG (.lst ds) (.lst es)):=by
     by_cases hl:ds.length=es.length
     ·have hs:its.toArray.size=gh.toArray.size:=by rw[vH,vH,←NQ.length,←xf.length,k1.length,k2.length];exact hl
      have QR:(List.range its.toArray.size).all (λj=>bG (ds.getD j .non) (es.getD j .non))=bG (.lst ds) (.lst es):=by
       rw[bG,vH,←NQ.length,k1.length];exact jF _ hl λj x y e1 e2=>wg j x y e1 e2
      have rc:=SeqAt.RcAt.lists ki oA hs fB he;have rn:=SeqAt.RcNeAt.lists ki oA hs fB he;rw[QR]at rc rn;exact⟨rc,rn⟩
     ·have hs:(its.toArray.size != gh.toArray.size)=true:=by rw[vH,vH,←NQ.length,←xf.length,k1.length,k2.length];exact bne_iff_ne.mpr hl
      rw[bG,we hl];exact⟨SeqAt.RcAt.lists_lengths ki oA hs fB,SeqAt.RcNeAt.lists_lengths ki oA hs fB⟩
    refine⟨NR.1,?_,NR.2⟩;by_cases ha:a1=a2
    ·subst ha;rw[Bm I (n+1) (.lst h1 k1) (.lst h2 k2) p1];exact SeqAt.EqAt.same _
    ·exact SeqAt.EqAt.of_refs ha NR.1
   |tup h2 k2=>
    cases r2
    obtain⟨gh,xf,t2,z2⟩:=I.tuple h2;have oA:s.heap.IsTuple _ gh.toArray:=t2;rw[show bG (.lst _) (.tup _)=false by simp only[bG]];exact⟨SeqAt.RcAt.list_tuple ki oA fB,SeqAt.EqAt.list_tuple ki oA fB,SeqAt.RcNeAt.list_tuple ki oA fB⟩
   |ty=>simp[aq]at p2
   |dk=>simp[aq]at p2
   |dt=>simp[aq]at p2
   |non=>cases r2;simp only[bG];exact⟨SeqAt.RcAt.list_none ki fB,SeqAt.EqAt.list_none ki fB,SeqAt.RcNeAt.list_none ki fB⟩
   |bl=>cases r2;simp only[bG];exact⟨SeqAt.RcAt.list_bool _ ki fB,SeqAt.EqAt.list_bool _ ki fB,SeqAt.RcNeAt.list_bool _ ki fB⟩
   |int=>obtain⟨t,rfl⟩:=r2;simp only[bG];exact⟨SeqAt.RcAt.list_int _ _ ki fB,SeqAt.EqAt.list_int _ _ ki fB,SeqAt.RcNeAt.list_int _ _ ki fB⟩
   |str=>obtain⟨t,rfl⟩:=r2;simp only[bG];exact⟨SeqAt.RcAt.list_str _ _ ki fB,SeqAt.EqAt.list_str _ _ ki fB,SeqAt.RcNeAt.list_str _ _ ki fB⟩
  |ty=>simp[aq]at p1
  |dk=>simp[aq]at p1
  |dt=>simp[aq]at p1
  |non=>
   cases i2 with
   |tup h2 k2=>cases r1;cases r2;obtain⟨gh,xf,t2,z2⟩:=I.tuple h2;have oA:s.heap.IsTuple _ gh.toArray:=t2;simp only[bG];exact⟨SeqAt.RcAt.none_tuple oA fB,SeqAt.EqAt.none_tuple oA fB,SeqAt.RcNeAt.none_tuple oA fB⟩
   |lst h2 k2=>cases r1;cases r2;obtain⟨gh,xf,t2,z2⟩:=I.list h2;simp only[bG];exact⟨SeqAt.RcAt.none_list t2.isList fB,SeqAt.EqAt.none_list t2.isList fB,SeqAt.RcNeAt.none_list t2.isList fB⟩
   |ty=>simp[aq]at p2
   |dk=>simp[aq]at p2
   |dt=>simp[aq]at p2
   |non=>exact cy (X:=X) (H:=H) (by simp[aq]) (by simp[aq]) .non .non r1 r2
   |bl x=>exact cy (X:=X) (H:=H) (by simp[aq]) (by simp[aq]) .non (.bl x) r1 r2
   |int x=>exact cy (X:=X) (H:=H) (by simp[aq]) (by simp[aq]) .non (.int x) r1 r2
   |str x=>exact cy (X:=X) (H:=H) (by simp[aq]) (by simp[aq]) .non (.str x) r1 r2
  |bl y=>
   cases i2 with
   |tup h2 k2=>cases r1;cases r2;obtain⟨gh,xf,t2,z2⟩:=I.tuple h2;have oA:s.heap.IsTuple _ gh.toArray:=t2;simp only[bG];exact⟨SeqAt.RcAt.bool_tuple _ oA fB,SeqAt.EqAt.bool_tuple _ oA fB,SeqAt.RcNeAt.bool_tuple _ oA fB⟩
   |lst h2 k2=>cases r1;cases r2;obtain⟨gh,xf,t2,z2⟩:=I.list h2;simp only[bG];exact⟨SeqAt.RcAt.bool_list _ t2.isList fB,SeqAt.EqAt.bool_list _ t2.isList fB,SeqAt.RcNeAt.bool_list _ t2.isList fB⟩
   |ty=>simp[aq]at p2
   |dk=>simp[aq]at p2
   |dt=>simp[aq]at p2
   |non=>exact cy (X:=X) (H:=H) (by simp[aq]) (by simp[aq]) (.bl y) .non r1 r2
   |bl x=>exact cy (X:=X) (H:=H) (by simp[aq]) (by simp[aq]) (.bl y) (.bl x) r1 r2
   |int x=>exact cy (X:=X) (H:=H) (by simp[aq]) (by simp[aq]) (.bl y) (.int x) r1 r2
   |str x=>exact cy (X:=X) (H:=H) (by simp[aq]) (by simp[aq]) (.bl y) (.str x) r1 r2
  |int y=>
   cases i2 with
   |tup h2 k2=>obtain⟨t,rfl⟩:=r1;cases r2;obtain⟨gh,xf,t2,z2⟩:=I.tuple h2;have oA:s.heap.IsTuple _ gh.toArray:=t2;simp only[bG];exact⟨SeqAt.RcAt.int_tuple _ _ oA fB,SeqAt.EqAt.int_tuple _ _ oA fB,SeqAt.RcNeAt.int_tuple _ _ oA fB⟩
   |lst h2 k2=>obtain⟨t,rfl⟩:=r1;cases r2;obtain⟨gh,xf,t2,z2⟩:=I.list h2;simp only[bG];exact⟨SeqAt.RcAt.int_list _ _ t2.isList fB,SeqAt.EqAt.int_list _ _ t2.isList fB,SeqAt.RcNeAt.int_list _ _ t2.isList fB⟩
   |ty=>simp[aq]at p2
   |dk=>simp[aq]at p2
   |dt=>simp[aq]at p2
   |non=>exact cy (X:=X) (H:=H) (by simp[aq]) (by simp[aq]) (.int y) .non r1 r2
   |bl x=>exact cy (X:=X) (H:=H) (by simp[aq]) (by simp[aq]) (.int y) (.bl x) r1 r2
   |int x=>exact cy (X:=X) (H:=H) (by simp[aq]) (by simp[aq]) (.int y) (.int x) r1 r2
   |str x=>exact cy (X:=X) (H:=H) (by simp[aq]) (by simp[aq]) (.int y) (.str x) r1 r2
  |str y=>
   cases i2 with
   |tup h2 k2=>obtain⟨t,rfl⟩:=r1;cases r2;obtain⟨gh,xf,t2,z2⟩:=I.tuple h2;have oA:s.heap.IsTuple _ gh.toArray:=t2;simp only[bG];exact⟨SeqAt.RcAt.str_tuple _ _ oA fB,SeqAt.EqAt.str_tuple _ _ oA fB,SeqAt.RcNeAt.str_tuple _ _ oA fB⟩
   |lst h2 k2=>obtain⟨t,rfl⟩:=r1;cases r2;obtain⟨gh,xf,t2,z2⟩:=I.list h2;simp only[bG];exact⟨SeqAt.RcAt.str_list _ _ t2.isList fB,SeqAt.EqAt.str_list _ _ t2.isList fB,SeqAt.RcNeAt.str_list _ _ t2.isList fB⟩
   |ty=>simp[aq]at p2
   |dk=>simp[aq]at p2
   |dt=>simp[aq]at p2
   |non=>exact cy (X:=X) (H:=H) (by simp[aq]) (by simp[aq]) (.str y) .non r1 r2
   |bl x=>exact cy (X:=X) (H:=H) (by simp[aq]) (by simp[aq]) (.str y) (.bl x) r1 r2
   |int x=>exact cy (X:=X) (H:=H) (by simp[aq]) (by simp[aq]) (.str y) (.int x) r1 r2
   |str x=>exact cy (X:=X) (H:=H) (by simp[aq]) (by simp[aq]) (.str y) (.str x) r1 r2
@[simp] def dm:D->D->Option (D×Bool):=λx y=>if aq 40 x=true/\aq 40 y=true then some (.bl (bG x y),false)else none
@[simp] def zI:D->D->Option (D×Bool):=λx y=>if aq 40 x=true/\aq 40 y=true then some (.bl (!bG x y),false)else none
theorem cI (hu:X.A.units+40<cLine):dP X (compareOp .Eq) (rD X.K dm):=by
 intro af s σ H x y v u Q I rx ry q;obtain⟨B,dx,dy,d,b,sB,ix,iy,e,q⟩:=q;unfold dm at e;split at e
 ·rename_i hp;cases e
  exact(Lb I 40 hu hp.1 hp.2 (ix.mono sB) (iy.mono sB) rx ry).1 _ _ _ _ ⟨.bl _,H,I,rfl,q.one sB (.bl _)⟩
 ·cases e
theorem ET (hu:X.A.units+40<cLine):dP X (compareOp .NotEq) (rD X.K zI):=by
 intro af s σ H x y v u Q I rx ry q;obtain⟨B,dx,dy,d,b,sB,ix,iy,e,q⟩:=q;unfold zI at e;split at e
 ·rename_i hp;cases e
  exact(Lb I 40 hu hp.1 hp.2 (ix.mono sB) (iy.mono sB) rx ry).2.2 _ _ _ _ ⟨.bl _,H,I,rfl,q.one sB (.bl _)⟩
 ·cases e
end
section
variable {X:Cx}{a b e:Expr}{pos:Pos}
theorem Bn {K:PySem.W.Frag}{H:Hp}{vs:List V}{ds:List D}{i:Int}{d:D}(h:IsL K H vs ds)(e:oE ds i=some d):∃v,oE vs i=some v/\Is K H v d:=by
 unfold oE at e ⊢;rw[h.length];cases q:CS ds.length i with
 |none=>rw[q]at e;cases e
 |some j=>rw[q]at e;exact h.get e
@[simp] def bC:D->D->Option (D×Bool)
 |.lst ds,.int i=>(oE ds i).map λd=>(d,false)
 |.tup ds,.int i=>(oE ds i).map λd=>(d,false)
 |.str z,.int i=>if z.length<=sizeLine then (oE z.cps.toList i).map λc=>(.str ⟨#[c]⟩,false)else none
 |_,_=>none
theorem Td:Hv X (rD X.K bC):=by
 intro value slice af s σ H x y v u Q I rx ry q hs;obtain⟨B,dx,dy,d,b,sB,ix,iy,e,q⟩:=q;cases ix<;>cases iy<;>try (simp[bC]at e;done)
 ·simp only[bC]at e;split at e
  ·rename_i hz;obtain⟨c,e1,e2⟩:=oY e;cases e2
   exact zZ value slice af s σ H _ _ v u Q I rx ry ⟨_,_,c,rfl,rfl,hz,e1,q.one sB (.str _)⟩ hs
  ·cases e
 ·rename_i h hl i;simp only[bC]at e;obtain⟨c,e1,e2⟩:=oY e;cases e2
  obtain⟨w,h1,h2⟩:=Bn hl e1;exact zY value slice af s σ H _ _ v u Q I rx ry ⟨_,_,_,w,rfl,rfl,bw sB h,h1,q.one sB h2⟩ hs
 ·rename_i h hl i;simp only[bC]at e;obtain⟨c,e1,e2⟩:=oY e;cases e2
  obtain⟨w,h1,h2⟩:=Bn hl e1;exact Ij value slice af s σ H _ _ v u Q I rx ry ⟨_,_,_,w,rfl,rfl,sB.seq h,h1,q.one sB h2⟩ hs
theorem aQ (ha:JE X a fa)(hb:JE X b fb)(hs:vk b:=by intro _ _;rfl):JE X (.Subscript a b pos) (f2 bC fa fb):=PE.to (K3 Td ha hb hs) λ_ _ _ h=>Ip h
abbrev FO:=Env->Option (Option Int)
def Xe (K:PySem.W.Frag)(f:FO):TO:=λσ H Q=>∃(B:Hp)(ρ:Env)(o:Option Int),aZ B H/\fw K B σ ρ/\f ρ=some o/\∀H',aZ H H'->Q o H'
abbrev JO (X:Cx)(e:Option Expr)(f:FO):Prop:=PO X e (Xe X.K f)
@[simp] noncomputable def EU:FO:=λ_=>some none
@[simp] noncomputable def Bo (f:FE):FO:=λρ=>match f ρ with|some (.int i,_)=>some (some i)|_=>none
theorem II:JO X none EU:=λaf s σ H Q I h=>Ic af s σ H Q I (by
 obtain⟨B,ρ,o,sB,r,e,q⟩:=h;cases e
 exact q H (.refl H))
theorem IJ (h:JE X e f):JO X (some e) (Bo f):=λaf s σ H Q I q=>Ie h af s σ H Q I (by
 obtain⟨B,ρ,o,sB,r,e,q⟩:=q;unfold Bo at e;split at e
 ·rename_i i b' ef;cases e
  refine⟨B,ρ,_,_,sB,r,ef,λv H1 N1 x1 i1 _=>?_⟩;cases i1
  exact⟨i,rfl,q H1 x1.hh⟩
 ·cases e)
def sE (ds:List D)(lo hi:Option Int):List D:=(ds.drop (HT.eC ds.length 0 lo)).take (HT.eC ds.length ds.length hi - HT.eC ds.length 0 lo)
theorem wj {K:PySem.W.Frag}{H:Hp}{vs:List V}{ds:List D}{lo hi:Option Int}(h:IsL K H vs ds):IsL K H (sy vs lo hi) (sE ds lo hi):=by
 unfold sy sE;rw[h.length];exact(h.drop _).take _
@[simp] def Xf (fa:FE)(fl fh:FO):FE:=λρ=>(fa ρ).bind λx=>(fl ρ).bind λl=>(fh ρ).bind λh=>match x.1 with
 |.lst ds=>some (.lst (sE ds l h),true)
 |.tup ds=>if HT.eC ds.length 0 l=0/\HT.eC ds.length ds.length h=ds.length then none else some (.tup (sE ds l h),false)
 |_=>none
theorem ce.to (h:ce X f r)(k:∀xs H Q,r' xs H Q->r xs H Q):ce X f r':=λaf s σ H xs us Q I rs q=>h af s σ H xs us Q I rs (k xs H Q q)
variable {es:List Expr}{x:Str}{p:Pos}{id T:String}
theorem bD (hc:ce X (.builtin id) (Bh X.K f))(hm:X.mg x=none)(hv:bootBuiltins x=some (.builtin id))(ha:JA X (e::es) fa)(hg:Gl X x:=by rfl)(hn:x ≠ "__name__":=by decide)(sk:(x == ("__debug__" : Str))=false:=by decide)
  (he:starEach (e::es) X.env=(false,eval e X.env)::starEach es X.env:=by rfl) (lx:(backTo pos (starEach es X.env)).any (·.1)=false:=by rfl):JE X (.Call (.Name x p) (e::es) [] pos) (fA f fa):=PE.to (xz hc hg hm hv ha hn sk he lx) λ_ _ _ h=>Iq h
theorem gS (hc:ce X (.type T) (Bh X.K f))(hm:X.mg x=none)(hv:bootBuiltins x=some (.type T))(ha:JA X (e::es) fa)(hg:Gl X x:=by rfl)(hn:x ≠ "__name__":=by decide)(sk:(x == ("__debug__" : Str))=false:=by decide)
  (he:starEach (e::es) X.env=(false,eval e X.env)::starEach es X.env:=by rfl) (lx:(backTo pos (starEach es X.env)).any (·.1)=false:=by rfl):JE X (.Call (.Name x p) (e::es) [] pos) (fA f fa):=PE.to (tq hc hg hm hv ha hn sk he lx) λ_ _ _ h=>Iq h
@[simp] noncomputable def fR:List D->Option (D×Bool)
 |[.lst ds]=>some (.int ds.length,false)
 |[.tup ds]=>some (.int ds.length,false)
 |[.str z]=>if z.length<=sizeLine then some (.int z.length,false)else none
 |_=>none
theorem ia:ce X (.builtin "len") (Bh X.K fR):=by
 refine ce.to (ce.or vq vt) λxs H Q q=>?_;obtain⟨B,ds,d,b,sB,i,e,q⟩:=q;cases i with
 |nil=>simp[fR]at e
 |cons i1 i2=>
  cases i2 with
  |cons _ _=>cases i1<;>simp[fR]at e
  |nil=>
   cases i1<;>try (simp[fR]at e;done)
   ·simp only[fR]at e;split at e
    ·rename_i hz;cases e
     exact .inr ⟨_,rfl,hz,q.one sB (.int _)⟩
    ·cases e
   ·rename_i h hl;simp only[fR]at e;cases e
    refine .inl ⟨_,_,rfl,.inr (bw sB h),?_⟩;rw[hl.length];exact q.one sB (.int _)
   ·rename_i h hl;simp only[fR]at e;cases e
    refine .inl ⟨_,_,rfl,.inl (sB.seq h),?_⟩;rw[hl.length];exact q.one sB (.int _)
theorem Lc (hm:X.mg x=none)(hv:bootBuiltins x=some (.type n))(hg:Gl X x:=by rfl)(hn:x ≠ "__name__":=by decide)(hd:(x == ("__debug__" : Str))=false:=by decide):JE X (.Name x pos) (fC (.ty n)) :=
 PE.to (HM hg hm hv (v:=.ty n) rfl hn hd) λ_ _ _ h=>Dc (λ_=>.ty n) h
end
theorem Df (hr:eU k A):A.units+40<cLine:=by have:=hr.un;omega
section
variable {X:Cx}{a b e:Expr}{pos:Pos}{x:Str}{p:Pos}
theorem xW (h:∃u v,X.mg x=some u/\aY v u/\∀B,Is X.K B v d)(hg:Gl X x:=by rfl)(hd:(x == ("__debug__" : Str))=false:=by decide):JE X (.Name x pos) (fC d):=by
 obtain⟨u,v,hm,r,i⟩:=h;exact IC hg hm r i hd
@[simp] noncomputable def Bp:D->D->Option (D×Bool)
 |.int i,.int j=>some (.int (i+j),false)
 |.str i,.str j=>if i.length+j.length<=sizeLine then some (.str (i++j),false)else none
 |_,_=>none
theorem IK:dP X (binaryOp .Add) (rD X.K Bp):=by
 refine ja (r:=rD X.K (Eg MD ER)) (nW PQ MF) λx y H Q q=>?_;obtain⟨B,dx,dy,d,b,sB,ix,iy,e,q⟩:=q;refine⟨B,dx,dy,d,b,sB,ix,iy,?_,q⟩;cases dx<;>cases dy<;>simp[Bp]at e<;>simp[Eg,MD,ER,xj,K9,e]
@[simp] def gp:D->D->Option (D×Bool):=ME
theorem cZ:dP X (binaryOp .Mult) (rD X.K gp):=PR
@[simp] def Qa:D->D->Option (D×Bool):=Vn
theorem EV:dP X (compareOp .Lt) (rD X.K Qa):=SY
@[simp] noncomputable def zJ:D->D->Option (D×Bool)
 |.int i,.int j=>some (.bl (decide (i<=j)),false)
 |.str i,.str j=>some (.bl (!decide (j.cps.toList<i.cps.toList)),false)
 |_,_=>none
theorem oH:dP X (compareOp .LtE) (rD X.K zJ):=by
 refine ja (r:=rD X.K (Eg SW PV)) (nW Ta PX) λx y H Q q=>?_;obtain⟨B,dx,dy,d,b,sB,ix,iy,e,q⟩:=q;refine⟨B,dx,dy,d,b,sB,ix,iy,?_,q⟩;cases dx<;>cases dy<;>simp[zJ]at e<;>simp[Eg,SW,PV,xj,K9,e]
@[simp] noncomputable def xX:D->Option (D×Bool)
 |.int i=>some (.int (-i),false)
 |_=>none
theorem Ld:Ps X (unaryOp .USub) (SU X.K xX):=by
 intro af s σ H x v Q I rx q;obtain⟨B,dx,d,b,sB,ix,e,q⟩:=q;cases ix<;>try (simp[xX]at e;done)
 simp only[xX]at e;cases e
 exact Ms af s σ H _ v Q I rx ⟨_,rfl,q.one sB (.int _)⟩
@[simp] noncomputable def Dg:D->D->Option Bool
 |.non,.non=>some true
 |_,.non=>some false
 |.bl a,.bl b=>some (a == b)
 |_,.bl _=>some false
 |_,_=>none
@[simp] def zK:D->D->Option (D×Bool):=λx y=>(Dg x y).map λb=>(.bl b,false)
@[simp] def jG:D->D->Option (D×Bool):=λx y=>(Dg x y).map λb=>(.bl (!b),false)
theorem Bq {K:PySem.W.Frag}{B:Hp}{x y:V}{v u:Value}{dx dy:D}{k:Bool}(ix:Is K B x dx)(iy:Is K B y dy)(rx:aY x v)(ry:aY y u)(e:Dg dx dy=some k):plainIs v u=true/\(v == u)=k:=by
 cases iy<;>(first|(cases dx<;>simp[Dg]at e;done)|skip)
 all_goals (cases ix)
 all_goals (first|(obtain⟨t,rfl⟩:=rx)|cases rx)
 all_goals (cases ry)
 all_goals (simp only[Dg,Option.some.injEq]at e;subst e)
 all_goals (first|exact⟨rfl,rfl⟩|skip)
 all_goals (rename_i c d;cases c<;>cases d<;>exact⟨rfl,rfl⟩)
theorem Aq:dP X (compareOp .Is) (rD X.K zK):=by
 intro af s σ H x y v u Q I rx ry q;obtain⟨B,dx,dy,d,b,sB,ix,iy,e,q⟩:=q;obtain⟨k,ek,e⟩:=oY e;cases e
 obtain⟨h1,h2⟩:=Bq ix iy rx ry ek;refine wpAny_is_plain h1 ⟨.bl k,H,I,by rw[h2];rfl,q.one sB (.bl _)⟩
theorem pH:dP X (compareOp .IsNot) (rD X.K jG):=by
 intro af s σ H x y v u Q I rx ry q;obtain⟨B,dx,dy,d,b,sB,ix,iy,e,q⟩:=q;obtain⟨k,ek,e⟩:=oY e;cases e
 obtain⟨h1,h2⟩:=Bq ix iy rx ry ek;refine wpAny_isNot_plain h1 ⟨.bl (!k),H,I,by rw[h2];rfl,q.one sB (.bl _)⟩
@[simp] noncomputable def gs:D->Bool
 |.non=>true|.bl _=>true|.int _=>true|.str _=>true
 |_=>false
noncomputable def Hy (x:D)(ds:List D):Bool:=ds.any λy=>bG y x
@[simp] noncomputable def gt:D->Option (List D)
 |.lst ds=>some ds
 |.tup ds=>some ds
 |_=>none
@[simp] def wl:D->D->Option (D×Bool):=λx y=>(gt y).bind λds=>if gs x=true/\ds.all gs=true then some (.bl (Hy x ds),false)else none
@[simp] def fY:D->D->Option (D×Bool):=λx y=>(gt y).bind λds=>if gs x=true/\ds.all gs=true then some (.bl (!Hy x ds),false)else none
theorem qh {K:PySem.W.Frag}{B:Hp}{v:V}{d:D}(i:Is K B v d)(h:gs d=true):ly v=true:=by
 cases i<;>first|rfl|(simp[gs]at h)
theorem Te {K:PySem.W.Frag}{B:Hp}{v w:V}{d e:D}(i:Is K B v d)(j:Is K B w e)(h:gs d=true)(h':gs e=true):Hw v w=bG d e:=by
 cases i<;>(first|(simp[gs]at h;done)|skip)
 all_goals (cases j<;>(first|(simp[gs]at h';done)|skip))
 all_goals (simp only[Hw,bG,Bool.beq_eq_decide_eq])
theorem xY {K:PySem.W.Frag}{B:Hp}:∀ {vs:List V}{ds:List D},IsL K B vs ds->ds.all gs=true->vs.all ly=true
 |_,_,.nil,_=>rfl
 |_,_,.cons i t,h=>by
  rw[List.all_cons,vC]at h;rw[List.all_cons,qh i h.1,xY t h.2];rfl
theorem EW {K:PySem.W.Frag}{B:Hp}{v:V}{d:D}(j:Is K B v d)(hd:gs d=true):∀ {vs:List V}{ds:List D},IsL K B vs ds->ds.all gs=true->RI v vs=Hy d ds
 |_,_,.nil,_=>rfl
 |_,_,.cons i t,h=>by
  rw[List.all_cons,vC]at h;have e:=EW j hd t h.2;unfold RI Hy at *;rw[List.any_cons,List.any_cons,e,Te i j h.1 hd]
theorem tI:dP X (compareOp .In) (rD X.K wl):=by
 refine ja CT λx y H Q q=>?_;obtain⟨B,dx,dy,d,b,sB,ix,iy,e,q⟩:=q;obtain⟨ds,es,e⟩:=oX e;split at e
 ·rename_i hf;cases e
  cases iy<;>simp only[gt]at es<;>try (cases es;done)
  ·rename_i h hl;cases es
   exact⟨_,_,rfl,.inr (bw sB h),qh ix hf.1,xY hl hf.2,by rw[if_neg (by decide),EW ix hf.1 hl hf.2];exact q.one sB (.bl _)⟩
  ·rename_i h hl;cases es
   exact⟨_,_,rfl,.inl (sB.seq h),qh ix hf.1,xY hl hf.2,by rw[if_neg (by decide),EW ix hf.1 hl hf.2];exact q.one sB (.bl _)⟩
 ·cases e
theorem m7:dP X (compareOp .NotIn) (rD X.K fY):=by
 refine ja vp λx y H Q q=>?_;obtain⟨B,dx,dy,d,b,sB,ix,iy,e,q⟩:=q;obtain⟨ds,es,e⟩:=oX e;split at e
 ·rename_i hf;cases e
  cases iy<;>simp only[gt]at es<;>try (cases es;done)
  ·rename_i h hl;cases es
   exact⟨_,_,rfl,.inr (bw sB h),qh ix hf.1,xY hl hf.2,by rw[if_pos rfl,EW ix hf.1 hl hf.2];exact q.one sB (.bl _)⟩
  ·rename_i h hl;cases es
   exact⟨_,_,rfl,.inl (sB.seq h),qh ix hf.1,xY hl hf.2,by rw[if_pos rfl,EW ix hf.1 hl hf.2];exact q.one sB (.bl _)⟩
 ·cases e
theorem ib:bootBuiltins "len" = some (.builtin "len"):=PySem.boot_len
theorem m8:bootBuiltins "isinstance" = some (.builtin "isinstance"):=by decide +kernel
theorem Qb:bootBuiltins "max" = some (.builtin "max"):=by decide +kernel
theorem Le:bootBuiltins "min" = some (.builtin "min"):=by decide +kernel
theorem Qc:bootBuiltins "int" = some (.type "int"):=by decide +kernel
theorem Ar:bootBuiltins "list" = some (.type "list"):=by decide +kernel
theorem wm:bootBuiltins "tuple" = some (.type "tuple"):=by decide +kernel
@[simp] noncomputable def IL:List D->Option (D×Bool)
 |[.int i,.int j]=>some (.int (if j > i then j else i),false)
 |_=>none
@[simp] noncomputable def IM:List D->Option (D×Bool)
 |[.int i,.int j]=>some (.int (if j<i then j else i),false)
 |_=>none
theorem xZ {K:PySem.W.Frag}{B:Hp}{xs:List V}{i j:Int}(h:IsL K B xs [.int i,.int j]):xs=[.int i,.int j]:=by
 cases h with
 |cons h1 h2=>cases h1;cases h2 with|cons h3 h4=>cases h3;cases h4;rfl
theorem Qd (hc:X.calm=true:=by rfl):ce X (.builtin "max") (Bh X.K IL):=by
 refine ce.to (CM hc) λxs H Q q=>?_;obtain⟨B,ds,d,b,sB,i,e,q⟩:=q;match ds,e with
 |[.int i',.int j'],e=>simp only[IL]at e;cases e;exact⟨i',j',xZ i,q.one sB (.int _)⟩
theorem Qe (hc:X.calm=true:=by rfl):ce X (.builtin "min") (Bh X.K IM):=by
 refine ce.to (CN hc) λxs H Q q=>?_;obtain⟨B,ds,d,b,sB,i,e,q⟩:=q;match ds,e with
 |[.int i',.int j'],e=>simp only[IM]at e;cases e;exact⟨i',j',xZ i,q.one sB (.int _)⟩
@[simp] noncomputable def kx:D->String
 |.non=>"NoneType" | .bl _=>"bool" | .int _=>"int" | .str _=>"str" | .ty _=>"type" | .tup _=>"tuple" | .lst _=>"list" | .dk _ _=>"dict" | .dt _ _=>"dict"
@[simp] noncomputable def Qf:D->Bool
 |.ty _=>true
 |_=>false
@[simp] noncomputable def Br (t n:String):Option (D×Bool) :=
 if n = "int" then some (.bl (t == "int" || t == "bool"),false)else if n = "bool" then some (.bl (t == "bool"),false)else if n = "str" then some (.bl (t == "str"),false)
 else if n = "list" then some (.bl (t == "list"),false)else if n = "tuple" then some (.bl (t == "tuple"),false)else none
@[simp] def gu:List D->Option (D×Bool)
 |[d,.ty n]=>if Qf d=true then none else Br (kx d) n
 |_=>none
theorem IN {af:List (Addr×Obj)}{σ:St}{H:Hp}{s:Shared}{A:Around}{E:Value->Shared->Prop}{Q:Value->Shared->Prop}{c:Value}{b:Bool}{v:V}{d:D}{u:Value}(I:Inv X af σ H s)(i:Is X.K H v d)(hd:∀n,d≠.ty n)(rx:aY v u)(e:PySem.W.kitOne X.K (.type (kx d)) c=some b)(h:∀tk,Q (.bool b) { s with toks:=tk }):
  wpAny (model X.prog X.w) A (call (.builtin "isinstance") [u,c]) Q E s:=by
 cases i with
 |non=>exact gR I rx .non e h
 |bl y=>exact gR I rx (.bl y) e h
 |int y=>exact gR I rx (.int y) e h
 |str y=>exact gR I rx (.str y) e h
 |ty n=>exact absurd rfl (hd n)
 |dk h1 _ _=>exact gR I rx (.dK h1) e h
 |dt h1 _ _=>exact gR I rx (.dT h1) e h
 |tup ht _=>
  cases rx
  obtain⟨its,_,⟨o,h1,h2,_⟩,_⟩:=I.tuple ht;exact kia_one PySem.W.kitx_tuple I.kIn ⟨o,h1,h2⟩ e (λz=>nomatch z) h
 |lst hl _=>
  cases rx
  obtain⟨its,_,⟨o,n,h1,h2,_⟩,_⟩:=I.list hl;exact kia_one PySem.W.kitx_list I.kIn ⟨o,h1,h2⟩ e (λz=>nomatch z) h
theorem MT (K:PySem.W.Frag)(d:D)(hd:∀n,d≠.ty n):
  PySem.W.kitOne K (.type (kx d)) (.type "int")=some (kx d == "int" || kx d == "bool")/\PySem.W.kitOne K (.type (kx d)) (.type "bool")=some (kx d == "bool")/\PySem.W.kitOne K (.type (kx d)) (.type "str")=some (kx d == "str") /\
   PySem.W.kitOne K (.type (kx d)) (.type "list")=some (kx d == "list")/\PySem.W.kitOne K (.type (kx d)) (.type "tuple")=some (kx d == "tuple"):=by
 cases d<;>(first|exact absurd rfl (hd _)|skip)
 all_goals (simp only[kx];refine⟨?_,?_,?_,?_,?_⟩<;>kernel_rfl)
theorem m9:ce X (.builtin "isinstance") (Bh X.K gu):=by
 intro af s σ H xs us Q I rs q;obtain⟨B,ds,d,b,sB,i,e,q⟩:=q;match ds,i,e with
 |[dx,.ty n],.cons i1 (.cons i2 .nil),e=>
  obtain⟨u1,u2,rfl,r1,r2⟩:=Ey rs;cases i2
  cases r2
  simp only[gu]at e;split at e
  ·cases e
  ·rename_i ht;have hd:∀n,dx≠.ty n:=λn z=>by subst z;exact ht rfl
   obtain⟨k1,k2,k3,k4,k5⟩:=MT X.K dx hd;have lm:∀ {k:Bool},PySem.W.kitOne X.K (.type (kx dx)) (.type n)=some k->Fin X.K B H (.bl k) false Q->wpAny (model X.prog X.w) X.A (call (.builtin "isinstance") [u1,.type n]) (EP X af σ Q) X.xe s:=λ{k} hk q=>
    IN I (i1.mono sB) hd r1 hk λtk=>⟨.bl k,H,I.tok tk,rfl,q.one sB (.bl k)⟩
   unfold Br at e;split at e
   ·rename_i z;subst z;cases e;exact lm k1 q
   split at e
   ·rename_i z;subst z;cases e;exact lm k2 q
   split at e
   ·rename_i z;subst z;cases e;exact lm k3 q
   split at e
   ·rename_i z;subst z;cases e;exact lm k4 q
   split at e
   ·rename_i z;subst z;cases e;exact lm k5 q
   ·cases e
@[simp] noncomputable def Vp:D->Option (D×Bool)
 |.int i=>some (.int (Builtin.Int.intBits i),false)
 |_=>none
@[simp] def EX (f:FE):FA:=λρ=>(f ρ).bind λx=>gt x.1
theorem Bt (h:JE X e f):JI X tg e (EX f):=by
 intro af s σ H R I q;obtain⟨B,ρ,ds,sB,r,e',q⟩:=q;obtain⟨x,ex,es⟩:=oX e';obtain⟨xd,xb⟩:=x;cases xd<;>simp only[gt]at es<;>try (cases es;done)
 ·cases es
  refine Mj h af s σ H R I ⟨B,ρ,_,_,sB,r,ex,λv H1 N1 x1 i1 _=>?_⟩;cases i1 with
  |@tup a vs _ ht hl=>
   refine⟨a,rfl,⟨vs,bw x1.nh ht⟩,q _ H1 N1 x1 λi H2 s2=>⟨λd ed=>?_,λbR=>⟨vs,bw s2 ht,by rw[hl.length];exact bR⟩⟩⟩;obtain⟨v,ev,iv⟩:=hl.get ed;refine⟨⟨vs,v,bw s2 ht,ev⟩,λy H3 hy=>?_⟩;obtain⟨rfl,hy⟩:=hy;have:=hy vs (bw s2 ht);rw[ev]at this;cases this;exact⟨N1,.refl s2,iv⟩
 ·cases es
  refine HS h af s σ H R I ⟨B,ρ,_,_,sB,r,ex,λv H1 N1 x1 i1 _=>?_⟩;cases i1 with
  |@lst a vs _ ht hl=>
   refine⟨a,rfl,⟨vs,x1.nh.seq ht⟩,q _ H1 N1 x1 λi H2 s2=>⟨λd ed=>?_,λbR=>⟨vs,s2.seq ht,by rw[hl.length];exact bR⟩⟩⟩;obtain⟨v,ev,iv⟩:=hl.get ed;refine⟨⟨vs,v,s2.seq ht,ev⟩,λy H3 hy=>?_⟩;obtain⟨rfl,hy⟩:=hy;have:=hy vs (s2.seq ht);rw[ev]at this;cases this;exact⟨N1,.refl s2,iv⟩
noncomputable def fZ (lo:Int)(n:Nat):List D:=(List.range n).map λ(k:Nat)=>.int (lo+(k:Int))
theorem EY {K:PySem.W.Frag}{B:Hp}(lo:Int)(n:Nat):qd K (RG lo n) B (fZ lo n):=by
 intro i H s;unfold fZ;refine⟨λd ed=>?_,λhl=>by rw[vI,List.length_range]at hl;exact hl⟩;rw[vA]at ed;obtain⟨k,ek,ed⟩:=oY ed;have hk:=vV ek;obtain⟨fT,hk⟩:=hk;rw[List.length_range]at fT;rw[List.getElem_range]at hk;subst hk;subst ed;refine⟨fT,λx H' hy=>?_⟩;obtain⟨rfl,rfl⟩:=hy;exact⟨B,.refl s,.int _⟩
@[simp] def ga (f:FE):FA:=λρ=>match f ρ with
 |some (.int j,_)=>if -1000<=j/\j<=1000 then some (fZ 0 j.toNat)else none
 |_=>none
theorem js (hm:X.mg "range" = none)(h:JE X a f)(hg:Gl X "range":=by rfl)(hs:starEach [a] X.env=[(false,eval a X.env)]:=by rfl):PI X tg (.Call (.Name "range" p) [a] [] pos) (RJ X.K (ga f)):=by
 refine PI.to (CJ hg hm (ag h ak hs) hs) λσ H R q=>?_;obtain⟨B,ρ,ds,sB,r,e',q⟩:=q;unfold ga at e';split at e'
 ·rename_i j b' ef;split at e'
  ·rename_i hj;cases e'
   refine⟨B,ρ,[.int j],sB,r,by simp[ae,ai,ef],λvs H1 N1 x1 i1=>?_⟩;cases i1 with
   |cons i1 i2=>
    cases i1;cases i2
    exact⟨j,rfl,by omega,by omega,q _ H1 N1 x1 λ_=>EY 0 j.toNat⟩
  ·cases e'
 ·cases e'
theorem EZ (hm:X.mg "range" = none)(h:JE X a f)(hg:Gl X "range":=by rfl)(hs:starEach [a] X.env=[(false,eval a X.env)]:=by rfl):JI X tg (.Call (.Name "range" p) [a] [] pos) (ga f) :=
 PI.to (js hm h hg hs) λσ H R ⟨B,ρ,ds,sB,r,e',q⟩=>⟨B,ρ,ds,sB,r,e',λJ H' N x h=>q J H' N x (h _)⟩
end
def dn (K:PySem.W.Frag)(x:Str)(st:Stmt):Prop:=∃(f:Addr)(fd:FuncData),NP K x x st f fd/\nsIn K mainGlobals x=some (some (.ref f))
theorem def_mk {K:PySem.W.Frag}{x:Str}{st:Stmt}{f:Addr}{oc:Value}{od an:Option Addr}{p4:Array (Option Value)}{kV doc pm eO ct:Value}(a:nsIn K mainGlobals x=some (some (.ref f)))
  (l:K.lookup f=some ⟨oc,od,.func (fnOf x x (gk st) (cN st) (aV st) .none kV doc pm an eO ct),p4⟩) (c:PySem.W.codeIn K eO x=true) (k:PySem.W.keepIn K (.ref f)=true):dn K x st:=⟨f,_,M0 l c k,a⟩
section
variable {P:Program}{w:World}{K:PySem.W.Frag}{mg:Str->Option Value}{base:Heap}
theorem dn.fn {x:Str}{st:Stmt}{N ps:List Str}{k:Nat}{g:FS}{h:Heap}(F:dn K x st)(X:K.In h)(G:h.Ns mainGlobals mg)(S:FnScope N ps (aV st))
  (Kl:∀(kV doc pm:Value)(an:Option Addr)(eO ct:Value)(us:List Value),us.length=ps.length->bindArgs (fnOf x x (gk st) (cN st) (aV st) .none kV doc pm an eO ct) ⟨us,[]⟩=pure (ps.zip us))
  (hb:∀(f:Addr)(eO:Value)(A:Around)(outer:List PySem.Env)(s:Shared)(H:Hp)(E:XK),eU k (A.deeper (envOfC x (aV st) s.heap.objs.size f eO))->xi (p6 zH P w K mg base N x (aV st) f eO A outer s H E).nox (cN st) g):
  Fn P w K mg base (k+1) x (aN g ps.length (N.length - ps.length)):=by
 obtain⟨f,fd,F1,a⟩:=F;exact⟨f,fd,ps,PY F1 S (hb f),mg_of X G a,F1.kp,F1.binds Kl⟩
end
def Qg (H:Hp):Prop:=∀b,H b=none∨(∃o xs,H b=some (.frz o (.lst xs)))∨∃q,H b=some (.tbl q)
noncomputable def qi (kj:List (Addr×Str))(G:Hp):Hp:=λb=>match kj.lookup b with|some q=>some (.tbl q)|none=>G b
theorem gw (e:kj.lookup b=some q):qi kj G b=some (.tbl q):=by unfold qi;rw[e]
theorem jt (e:kj.lookup b=none):qi kj G b=G b:=by unfold qi;rw[e]
theorem Dh {P:Program}{w:World}{K:PySem.W.Frag}{mg mb:Str->Option Value}{k:Nat}{fa a:Addr}{fd:FuncData}{x:Str}{sp:Sp}{s₁:Shared}{vs:List Value}{ns:List Int}(kj:List (Addr×Str))
  (ht:∀b q,kj.lookup b=some q->s₁.heap.get? b=some (PySem.W.tabObj #[])/\isCodeTable s₁.heap b) (Yc:PySem.W.noTabs K=true)
  (KX:K.In s₁.heap) (Km:s₁.heap.Ns mainGlobals mg) (hb:s₁.heap.Ns builtinsNs mb) (Yd:∀x:Str,x ≠ "__name__"->mb x=bootBuiltins x) (Uf:s₁.heap.NoLimit)
  (Ye:∃bm ob,mg "__builtins__" = some (.ref bm)/\bm≠builtinsNs/\s₁.heap.get? bm=some ob/\ob.cls=.type "module"/\ob.dict=some builtinsNs/\ob.data=.plain) (hg:s₁.gens=#[])
  (ha:s₁.heap.get? a=some { cls:=.type "list",data:=.seq vs.toArray }) (hi:IntsAre vs ns) (hl:ns.length<=sizeLine) (hr:eU k callerA)
  (F:∀base:Heap,K.In base->base.Ns mainGlobals mg->sS P w K mg base zH k fa fd [x] sp) (zA:∀(s:Shared)(u:Value),BindsTo s fd ⟨[u],[]⟩ [(x,u)])
  (OE:∀H:Hp,(∀b q,kj.lookup b=some q->H b=some (.tbl q))->iM K H a (ns.map V.int)->sp [.ref a] H (λv _=>v=.bl true) λ_ _ _=>False):
  codeAny (model P w) callerA (.call (.ref fa) ⟨[.ref a],[]⟩) (λr s'=>r=.ok (.ret (.bool true))/\OldK s₁.heap s'.heap/\s'.os=s₁.os/\AllBare s'.gens) s₁:=by
 have rv:=L2.jp hi;have Ug:=hi.length;have QS:∀H:Hp,Qg H->(∀b q,kj.lookup b=some q->H b=some (.tbl q))->iM K H a (ns.map V.int)->lq P w H s₁.heap->(∀b q,H b=some (.tbl q)->s₁.heap.get? b=some (PySem.W.tabObj #[])/\isCodeTable s₁.heap b) ->
   (∀b o u,H b=some (.frz o u)->b=a)->(∀b o u,H b=some (.frz o u)->K.lookup b=none) ->
   codeAny (model P w) callerA (.call (.ref fa) ⟨[.ref a],[]⟩) (λr s'=>r=.ok (.ret (.bool true))/\OldK s₁.heap s'.heap/\s'.os=s₁.os/\AllBare s'.gens) s₁:=by
  intro H hO hT hS hok hA hB hK;have Kd:∀ {b:Addr}{o:Obj},s₁.heap.get? b=some o->(o.cls≠.none)->(o.cls≠.type "list")->H b=none:=λ{b o} e d d'=>by
   rcases hO b with q|⟨ob,xs,q⟩|⟨u,q⟩
   ·exact q
   ·have e':b=a:=hB b _ _ q;subst e';rw[ha]at e;cases e;exact absurd rfl d'
   ·rw[(hA b u q).1]at e;cases e;exact absurd rfl d
  have Yf:∀ {b:Addr}{o:Obj}{es:Array DictEntry}{ep:Nat},s₁.heap.get? b=some o->o.data=.dict es ep->H b=none:=λ{b o es ep} e d=>by
   rcases hO b with q|⟨ob,xs,q⟩|⟨u,q⟩
   ·exact q
   ·have e':b=a:=hB b _ _ q;subst e';rw[ha]at e;cases e;cases d
   ·rw[(hA b u q).1]at e;cases e;cases d
  have Sj:∀ {b:Addr}{m:Str->Option Value},s₁.heap.Ns b m->(xp s₁.heap H).Ns b m:=λ{b m} ⟨o,es,ep,e,d,r⟩=>⟨o,es,ep,pV e (Yf e d),d,r⟩;have Wa:K.In (xp s₁.heap H):=λb o e=>pV (KX b o e) (by
   rcases hO b with q|⟨ob,xs,q⟩|⟨u,q⟩
   ·exact q
   ·rw[hK b _ _ q]at e;cases e
   ·have z:=(hA b u q).1;rw[KX b o e]at z;cases z
    have:=uR Yc _ (PySem.W.mem_of_lookupK e);simp at this)
  have hM:Mod K mg (xp s₁.heap H):=⟨Wa,Sj Km,⟨mb,Sj hb,Yd⟩,let ⟨mc,h1,h2⟩:=Uf;⟨mc,Sj h1,h2⟩,by
   obtain⟨bm,ob,b1,b2,b3,b4,b5⟩:=Ye;exact⟨bm,ob,b1,b2,pV b3 (Kd b3 (by rw[b4];exact λz=>nomatch z) (by rw[b4];intro z;injection z with z;exact absurd z (by decide))),b4,b5⟩⟩
  have e0:Env0 P w K mg (xp s₁.heap H) callerA [] s₁ H:=⟨rfl,hM,λb o e=>HK e,Nat.le_of_eq (CG _ _),trivial,λb hb=>absurd (show b∈([]:List Addr)from hb) (by simp),hok,.of_eq hg⟩;refine codeAny_mono ((F _ Wa (Sj Km)).run callerA [] s₁ H ⟨[.ref a],[]⟩ [.ref a] [.ref a] _ _ hr e0 (zA s₁ (.ref a)) (.cons rfl .nil) (OE H hT hS)) λr s' h=>?_;cases r with
  |error e=>exact False.elim h
  |ok fl=>
   cases fl with
   |next=>exact False.elim h
   |brk=>exact False.elim h
   |cont=>exact False.elim h
   |ret u=>
    obtain⟨v,H',os,bare,un,QT,r',q⟩:=h;have q':v=.bl true:=q;subst q';obtain rfl:u=Value.bool true:=r';have kp:∀b o,H b=none->s₁.heap.get? b=some o->s'.heap.get? b=some o:=λb o n e=>un.keep b o e n (by intro z;exact absurd (show b∈([]:List Addr)from z) (by simp)) (by simp);refine⟨rfl,⟨λb o e=>?_,λb o e=>un.there b o e (by simp)⟩,os,bare⟩;rcases hO b with z|⟨ob,xs,z⟩|⟨u,z⟩
    ·exact .inl (kp b o z e)
    ·have z2:=un.frzs b ob _ z;obtain⟨e1,_⟩:=hok b _ z;obtain⟨e2,_⟩:=QT b _ z2;rw[e]at e1;cases e1;exact .inl e2
    ·obtain⟨e1,e2⟩:=hA b u z;rw[e]at e1;cases e1;obtain⟨ps,e3,_⟩:=QT b _ (un.tbls b u z);exact .inr (.inl ⟨e2,rfl,#[],ps,rfl,by simpa using e3⟩)
 have NS:∀q,kj.lookup a≠some q:=λq z=>by
  have:=(ht a q z).1;rw[ha]at this;cases this
 have ta:kj.lookup a=none:=by
  cases z:kj.lookup a with
  |none=>rfl
  |some q=>exact absurd z (NS q)
 have LA:∀(G:Hp) b q,kj.lookup b=some q->bU P w (qi kj G) s₁.heap b (.tbl q):=λG b q z=>⟨#[],(ht b q z).1,trivial,λpos cv c=>by cases c⟩;cases hk:K.lookup a with
 |some o=>
  have e:=KX a o hk;rw[ha]at e;cases e
  refine QS (qi kj λ_=>none) (λb=>?_) (λb q z=>gw z) (.inr ⟨_,vs.toArray,_,hk,rfl,rfl,rfl,by rw[vH,Ug];exact hl,by simpa using rv⟩) (λb u z=>?_) (λb q z=>?_) (λb o u z=>?_) λb o u z=>?_
  all_goals cases zt:kj.lookup b with
   |none=>first|exact .inl (jt zt)|(rw[jt zt]at z;cases z)
   |some q'=>first|exact .inr (.inr ⟨q',gw zt⟩)|(rw[gw zt]at z;cases z;done)|(rw[gw zt]at z;cases z;first|exact LA _ b _ zt|exact ht b _ zt)
 |none=>
  refine QS (qi kj λb=>if b=a then some (.frz { cls:=.type "list",data:=.seq vs.toArray } (.lst (ns.map V.int)))else none) (λb=>?_) (λb q z=>gw z) (.inl (.inr ⟨{ cls:=.type "list",data:=.seq vs.toArray },by rw[jt ta,if_pos rfl]⟩)) (λb u z=>?_) (λb q z=>?_) (λb o u z=>?_) λb o u z=>?_
  all_goals cases zt:kj.lookup b with
   |some q'=>first|exact .inr (.inr ⟨q',gw zt⟩)|(rw[gw zt]at z;cases z;done)|(rw[gw zt]at z;cases z;first|exact LA _ b _ zt|exact ht b _ zt)
   |none=>
    first
    |rw[jt zt]at z
    |rw[jt zt]
    by_cases hb:b=a
    ·first
     |rw[if_pos hb]at z
     |rw[if_pos hb]
     first
     |exact .inr (.inl ⟨_,_,rfl⟩)
     | (cases z;subst hb;exact⟨ha,by rw[vI];exact hl,vs,_,rv,ha⟩)
     |exact hb
     | (rw[hb];exact hk)
     |cases z
    ·first
     | (rw[if_neg hb]at z;cases z)
     |exact .inl (if_neg hb)
noncomputable def wn (L:List (Str×Option (Addr×Addr))):List (Addr×Str):=L.filterMap λp=>p.2.map λq=>(q.2,pZ p.1)
structure pU (K:PySem.W.Frag)(L:List (Str×Option (Addr×Addr))):Prop where
 names:L=mz.map λx=>(x,PySem.W.tabIn K x)
 apart:((wn L).map (·.1)).Nodup
 none:PySem.W.noTabs K=true
theorem l7 {α β:Type}[BEq α][LawfulBEq α]:∀ {l:List (α×β)}{a:α}{b:β},(l.map (·.1)).Nodup->(a,b)∈l->l.lookup a=some b
 | (c,d)::l,a,b,nd,h=>by
  rw[List.lookup_cons];rcases vP h with e|h
  ·cases e;simp
  ·have ne:a≠c:=λz=>(List.nodup_cons.mp nd).1 (by rw[←z];exact uS ⟨(a,b),h,rfl⟩);rw[show(a == c)=false by simpa using ne];exact l7 (List.nodup_cons.mp nd).2 h
theorem ky {α β:Type}[BEq α][LawfulBEq α]:∀ {l:List (α×β)}{a:α}{b:β},l.lookup a=some b->(a,b)∈l
 | (c,d)::l,a,b,h=>by
  rw[List.lookup_cons]at h;cases e:a == c with
  |true=>rw[e]at h;cases h;rw[eq_of_beq e];exact mX
  |false=>rw[e]at h;exact mZ _ (ky h)
theorem pU.tb {K:PySem.W.Frag}{L:List (Str×Option (Addr×Addr))}(F:pU K L){H:Hp}(h:∀b q,(wn L).lookup b=some q->H b=some (.tbl q)):Tb K H:=λx hx c P e=>by
 refine h P (pZ x) (l7 F.apart ?_);rw[F.names];exact List.mem_filterMap.mpr ⟨(x,PySem.W.tabIn K x),uS ⟨x,hx,rfl⟩,by rw[e];rfl⟩
theorem tab_yes {K:PySem.W.Frag}{x:Str}{f c P:Addr}{oc Yg:Value}{od Uh:Option Addr}{p4 NT:Array (Option Value)}{fd:FuncData}{vs:Array Value}(e1:nsIn K mainGlobals x=some (some (.ref f)))(e2:K.lookup f=some ⟨oc,od,.func fd,p4⟩)(e3:fd.code=.ref c)
  (e4:K.lookup c=some ⟨Yg,Uh,.fields vs,NT⟩) (e5:vs[11]? = some (.ref P)):PySem.W.tabIn K x=some (c,P):=by unfold PySem.W.tabIn;simp only[e1,e2,e3,e4,e5]
theorem tabs_fit {K:PySem.W.Frag}{t0 t1 t2 t3:Option (Addr×Addr)}(h0:PySem.W.tabIn K "in_order" = t0)(h1:PySem.W.tabIn K "has_seal" = t1)(h2:PySem.W.tabIn K "is_first_death" = t2)(h3:PySem.W.tabIn K "bases_by" = t3)
  (ap:((wn [("in_order",t0),("has_seal",t1),("is_first_death",t2),("bases_by",t3)]).map (·.1)).Nodup) (nt:PySem.W.noTabs K=true):pU K [("in_order",t0),("has_seal",t1),("is_first_death",t2),("bases_by",t3)] :=
 ⟨by subst h0;subst h1;subst h2;subst h3;rfl,ap,nt⟩
theorem walkD {l:PySem.W.OpenLaw}{q:Program}{C7:List Str}{XP:(Str->Option Value)->Heap->Prop}{YP:World->Heap->Prop}{d:DefRec}{K:Params->PySem.W.Frag}{k:Nat}{x:Str}{f:List D->Option (D×Bool)}{L:List (Str×Option (Addr×Addr))}(hn:l.most=some 63)(QG:d.params.defaults=[])(hr:eU k callerA)
  (hY:∀(w:World)(h:Heap),YP w h->(K w.params).In h) (hT:∀w:World,pU (K w.params) L) (hD:(L.all λp=>p.2.isNone || ((recsOf q).find? λe=>e.name == p.1).isSome)=true)
  (F:∀(w:World)(mg:Str->Option Value)(fa:Addr)(h:Heap),(K w.params).In h->h.Ns mainGlobals mg->mg d.name=some (.ref fa) ->
   ∃fd:FuncData,(∀(s:Shared)(u:Value),BindsTo s fd ⟨[u],[]⟩ [(x,u)])/\∀base:Heap,(K w.params).In base->base.Ns mainGlobals mg->sS l.prog w (K w.params) mg base zH k fa fd [x] (IH (K w.params) f))
  (ht:∀ns:List Int,ns.length<=63->∃b,f [.lst (ns.map .int)]=some (.bl true,b)):PySem.W.WalkO q C7 XP YP l.row.toRowW d [] (λf vs=>PySem.call f vs):=by
 refine Att.x0 hn QG λw s₀ s₁ mg mb fa o pm cd doc a vs ns G Y ho hd jA hmg NO Ha bR hg=>?_;have KX:=hY w _ Y;obtain⟨fd,hb,hF⟩:=F w mg fa _ KX G.T.g hmg;refine Dh (wn L) (λb u e=>?_) (hT w).none KX G.T.g G.T.b G.T.builtins G.T.nolimit G.T.bmain hg NO Ha (vR bR (by decide)) hr hF hb λH hH hS=>?_
 ·obtain⟨p,hp,e2⟩:=List.mem_filterMap.mp (ky e);obtain⟨⟨c,P⟩,e3,e4⟩:=oY e2;cases e4
  have Ui:=uR hD p hp;rw[e3]at Ui;rw[Option.isNone_some,Bool.false_or]at Ui;obtain⟨r,Yh⟩:=uU Ui;have QU:PySem.W.tabIn (K w.params) p.1=some (c,P):=by
   rw[(hT w).names]at hp;obtain⟨y,_,rfl⟩:=vO hp;exact e3
  obtain⟨h1,h2⟩:=PySem.W.tab_of G.T KX Yh QU;exact⟨h2,(h1.tab h2).isCodeTable⟩
 ·obtain⟨b,e⟩:=ht ns bR;exact⟨H,_,_,b,⟨.refl H,(hT w).tb hH⟩,.cons (.lst hS (.flat rfl)) .nil,e,λv H' N x' i' _=>by cases i';rfl⟩
theorem dn.law {P:Program}{w:World}{K:PySem.W.Frag}{mg:Str->Option Value}{x y:Str}{st:Stmt}{N:List Str}{k:Nat}{g:FS}{h:Heap}{fa:Addr}(F:dn K x st)(X:K.In h)(G:h.Ns mainGlobals mg)(Uj:mg x=some (.ref fa))(S:FnScope N [y] (aV st))
  (Kl:∀(kV doc pm:Value)(an:Option Addr)(eO ct:Value)(u:Value),bindArgs (fnOf x x (gk st) (cN st) (aV st) .none kV doc pm an eO ct) ⟨[u],[]⟩=pure [(y,u)])
  (hb:∀(base:Heap),K.In base->base.Ns mainGlobals mg->∀(f:Addr)(eO:Value)(A:Around)(outer:List PySem.Env)(s:Shared)(H:Hp)(E:XK),eU k (A.deeper (envOfC x (aV st) s.heap.objs.size f eO))->xi (p6 zH P w K mg base N x (aV st) f eO A outer s H E).nox (cN st) g):
  ∃fd:FuncData,(∀(s:Shared)(u:Value),BindsTo s fd ⟨[u],[]⟩ [(y,u)])/\∀base:Heap,K.In base->base.Ns mainGlobals mg->sS P w K mg base zH (k+1) fa fd [y] (IH K (aN g 1 (N.length - 1))):=by
 obtain⟨f,fd,F1,a⟩:=F;have e:=Uj.symm.trans (mg_of X G a);cases e
 refine⟨fd,λs u=>?_,λbase kb nb=>PY F1 S (hb base kb nb _)⟩;obtain⟨oc,od,kV,doc,pm,an,eO,ct,p4,rfl,lk,jA⟩:=F1.ex;exact .of_eq (Kl kV doc pm an eO ct u)
section
variable {X:Cx}{a b e:Expr}{pos:Pos}{x:Str}{p:Pos}
@[simp] noncomputable def Fa:D->D->Option (D×Bool)
 |.lst xs,.lst ys=>if xs.length+ys.length<=sizeLine then some (.lst (xs++ys),true)else none
 |_,_=>none
theorem MU:dP X (binaryOp .Add) (rD X.K Fa):=by
 intro af s σ H x y v u Q I rx ry q;obtain⟨B,dx,dy,d,bb,sB,ix,iy,ee,q⟩:=q;cases ix<;>cases iy<;>try (simp[Fa]at ee;done)
 rename_i l vs ds h hl l' ws es h' DY;simp only[Fa]at ee;split at ee
 ·rename_i hz;cases ee
  cases rx
  cases ry
  obtain⟨its,r1,p1,z1⟩:=I.list (sB.seq h);obtain⟨gh,r2,p2,z2⟩:=I.list (sB.seq h');obtain⟨⟨c1,d1,t1,s1⟩,o1,e1,n1,k1⟩:=p1.isList;obtain⟨⟨c2,d2,t2,s2⟩,o2,e2,n2,k2⟩:=p2.isList;dsimp only at e1 k1 e2 k2;subst e1;subst k1;subst e2;subst k2;have hsz:its.toArray.size+gh.toArray.size<=sizeLine:=by
   rw[vH,vH,←r1.length,←r2.length,hl.length,DY.length];exact hz
  have ea:its.toArray++gh.toArray=(its++gh).toArray:=by simp
  refine concat_meets ⟨_,o1,rfl⟩ ⟨_,o2,rfl⟩ noFill_list_add seq_list_add PySem.F.slot_list_add PySem.F.entry_list_add (PySem.F.args_list_add_2 _ _) (list_addW l l' its.toArray gh.toArray n1 n2 d1 d2 s1 s2 hsz) ⟨o1,o2,?_⟩;rw[ea];have xt:=Ext.laid (o:=.lst (vs++ws)) sB I.fresh;have il:=(hl.append DY).mono xt.bn;exact⟨.ref s.heap.objs.size,_,I.lnew (t':=s.toks) (r1.append r2) (by rw[uZ,hl.length,DY.length];exact hz),rfl,q _ _ _ xt (.lst (iM.of aH) il) λ_=>⟨_,_,_,rfl,rfl,I.fresh,aH,il⟩⟩
 ·cases ee
@[simp] noncomputable def qj:D->D->Option (D×Bool)
 |.tup xs,.tup ys=>if xs.length+ys.length<=sizeLine/\xs.isEmpty=false then some (.tup (xs++ys),false)else none
 |_,_=>none
theorem Fb:dP X (binaryOp .Add) (rD X.K qj):=by
 refine ja Ig λx y H Q q=>?_;obtain⟨B,dx,dy,d,bb,sB,ix,iy,ee,q⟩:=q;cases ix<;>cases iy<;>try (simp[qj]at ee;done)
 rename_i l vs ds h hl l' ws es h' DY;simp only[qj]at ee;split at ee
 ·rename_i hz;cases ee
  have l1:=hl.length;have l2:=DY.length;refine⟨l,l',vs,ws,rfl,rfl,bw sB h,bw sB h',λz=>?_,by omega,λz=>?_,λ_ pp hp=>?_⟩
  ·subst z;cases hl
   simp at hz
  ·subst z;cases DY
   rw[uQ]at q;exact q.one sB (.tup h hl)
  ·have xt:=Ext.laid (o:=.tup (vs++ws)) sB hp;exact q _ _ _ xt (.tup (jm.of aH) ((hl.append DY).mono xt.bn)) (by simp)
 ·cases ee
@[simp] noncomputable def Di:D->D->Option (D×Bool)
 |.bl i,.int j=>some (.int ((if i=true then 1 else 0)+j),false)
 |.int i,.bl j=>some (.int (i+b2i j),false)
 |_,_=>none
theorem MV:dP X (binaryOp .Add) (rD X.K Di):=by
 intro af s σ H x y v u Q I rx ry q;obtain⟨B,dx,dy,d,bb,sB,ix,iy,ee,q⟩:=q;cases ix<;>cases iy<;>try (simp[Di]at ee;done)
 ·simp only[Di]at ee;cases ee
  cases rx
  obtain⟨t,rfl⟩:=ry;exact IntBool.add_bool_int ⟨.int _,H,I.tok _,⟨_,rfl⟩,q.one sB (.int _)⟩
 ·simp only[Di]at ee;cases ee
  exact CL af s σ H _ _ v u Q I rx ry ⟨_,_,rfl,rfl,q.one sB (.int _)⟩
@[simp] noncomputable def cm:D->D->Option (D×Bool)
 |.int i,.int j=>some (.int (i+j),false)
 |.str i,.str j=>if i.length+j.length<=sizeLine then some (.str (i++j),false)else none
 |.lst xs,.lst ys=>if xs.length+ys.length<=sizeLine then some (.lst (xs++ys),true)else none
 |.tup xs,.tup ys=>if xs.length+ys.length<=sizeLine/\xs.isEmpty=false then some (.tup (xs++ys),false)else none
 |.bl i,.int j=>some (.int ((if i=true then 1 else 0)+j),false)
 |.int i,.bl j=>some (.int (i+b2i j),false)
 |_,_=>none
theorem bx:dP X (binaryOp .Add) (rD X.K cm):=by
 refine ja (r:=rD X.K (Eg Bp (Eg Fa (Eg qj Di)))) (nW IK (nW MU (nW Fb MV))) λx y H Q q=>?_;obtain⟨B,dx,dy,d,bb,sB,ix,iy,ee,q⟩:=q;refine⟨B,dx,dy,d,bb,sB,ix,iy,?_,q⟩;cases dx<;>cases dy<;>simp[cm]at ee<;>simp[Eg,Bp,Fa,qj,Di,ee]
@[simp] noncomputable def Tf:D->Option Bool
 |.bl b=>some b
 |_=>none
def sG:List D->Option (List Bool)
 |[]=>some []
 |d::ds=>(Tf d).bind λb=>(sG ds).map (b :: ·)
@[simp] theorem Qh:sG []=some []:=rfl
@[simp] theorem Dj (d:D)(ds:List D):sG (d::ds)=(Tf d).bind λb=>(sG ds).map (b :: ·):=rfl
theorem Bu {K:PySem.W.Frag}{B:Hp}:∀ {vs:List V}{ds:List D}{bs:List Bool}{its:List Value},L2.bf vs its->IsL K B vs ds->sG ds=some bs->its=bs.map Value.bool
 |_,_,_,_,.nil,.nil,e=>by cases e;rfl
 |_,_,_,_,.cons r rr,.cons i ii,e=>by
  rw[Dj]at e;obtain⟨b,e1,e⟩:=oX e;obtain⟨bs,e2,e⟩:=oY e;subst e;cases i<;>simp only[Tf]at e1<;>try (cases e1;done)
  cases e1
  cases r
  rw[Bu rr ii e2];rfl
@[simp] def Xg:List D->Option (D×Bool)
 |[.lst ds]=>(sG ds).map λbs=>(.bl (bs.all id),false)
 |_=>none
@[simp] def Fc:List D->Option (D×Bool)
 |[.lst ds]=>(sG ds).map λbs=>(.bl (bs.any id),false)
 |_=>none
theorem Lf (hc:X.calm=true:=by rfl):ce X (.builtin "any") (Bh X.K Fc):=by
 intro af s σ H xs us Q I rs q;obtain⟨B,ds,d,bb,sB,i,ee,q⟩:=q;match ds,i,ee with
 |[.lst es],.cons i1 .nil,ee=>
  obtain⟨bs,eb,ee⟩:=oY ee;cases ee
  obtain⟨u1,rfl,r1⟩:=gY rs;cases i1 with
  |@lst l vs _ h hl=>
   cases r1
   obtain⟨its,rv,p1,z1⟩:=I.list (sB.seq h);have ei:=Bu rv hl eb;have fT:l<s.heap.objs.size:=by obtain⟨_,e0,_⟩:=p1.isList;exact vX e0
   refine call_any_walk (wpAny_pyIter_list p1.isList ⟨_,_,_,_,_,_,λj=>(bs[j]?).getD false,rfl,Walks.list (A:=X.A.in1) (I.ok.hd hc) s.heap.objs.size l (vS fT) its.toArray,⟨⟨_,vY _ rfl,rfl,rfl⟩,p1.isList.push _⟩,λj v s' Q' E' hP hQ=>?_,λh' tk hk=>?_⟩)
   ·have Wb:its[j]? = some v:=by simpa using hP
    rw[ei,vA]at Wb;obtain⟨c,e1,e2⟩:=oY Wb;subst e2;dsimp only at hQ;rw[e1]at hQ;exact wpAny_truthy_bool hQ
   ·have ea:((List.range its.toArray.size).any λj=>(bs[j]?).getD false)=bs.any id:=by
     rw[vH,ei,vI];exact LSm.range_any bs
    rw[ea];refine⟨.bl _,H,I.kept λc o e0=>?_,rfl,q.one sB (.bl _)⟩;exact hk c o (λhm=>by rw[uT hm]at e0;exact Nat.lt_irrefl _ (vX e0)) (vZ _ e0)
theorem Lg:bootBuiltins "any" = some (.builtin "any"):=by decide +kernel
end
noncomputable def RM (z:Str):It:=⟨λi _=>i<z.cps.size,λi H v H'=>H'=H/\∃c,z.cps[i]? = some c/\v=.str ⟨#[c]⟩,λi _=>z.cps.size<=i⟩
theorem ya {P:Program}{w:World}{K:PySem.W.Frag}{tg:Expr}(z:Str)(t:Tok)(it:Addr):Turn P w K tg (RM z) [it] it (λi h=>h.IsStrIter it "str_ascii_iterator" z t i) where
 mem:=List.mem_singleton.mpr rfl
 obj:=λi h st b hb=>by
  have eb:=uT hb;subst eb;obtain⟨o,e1,_,d1⟩:=st;exact⟨o,e1,λv zz=>by rw[d1]at zz;cases zz⟩
 keep:=λi h h' st k=>let ⟨o,e1,r⟩:=st;⟨o,k it (List.mem_singleton.mpr rfl) o e1,r⟩
 item:=by
  intro X hP hw hK hc i af s σ H E I hf st hg;subst hP hw hK;have NU:i<z.cps.size:=hg;obtain⟨f0,f1,f2,f3,f4,f5⟩:=hf it (List.mem_singleton.mpr rfl);refine wpAny_pyNext_ascii_item st (c:=z.cps[i]) (by simp[NU]) λh' lH sb=>?_;obtain⟨o,e1,c1,d1⟩:=id lH;exact⟨_,rfl,sW (s:={ s with heap:=h',toks:=s.toks+1 }) e1 c1 d1 (by decide) ⟨.str ⟨#[z.cps[i]]⟩,H,I.turned (λb o hb e2=>(sb.2 b hb).trans e2) f0 f1 f3 f4 f5,⟨_,rfl⟩,⟨rfl,_,by simp[NU],rfl⟩,lH,λb hb=>(hf b hb).1⟩⟩
 done:=by
  intro X hP hw hK hc i af s σ H E I hf st hg;subst hP hw hK;have NU:z.cps.size<=i:=hg;obtain⟨f0,f1,f2,f3,f4,f5⟩:=hf it (List.mem_singleton.mpr rfl);exact wpAny_pyNext_ascii_end (I.ok.hd hc) st (by simp;omega) λh' eb=>⟨rfl,I.turned (t':=s.toks) (λb o hb e2=>eb b o hb e2) f0 f1 f3 f4 f5⟩
 self:=λ_ _ _ _ _ st h=>wpAny_pyIter_striter_ascii st h
theorem yc {P:Program}{w:World}{K:PySem.W.Frag}{tg:Expr}(z:Str)(t:Tok)(it:Addr):Turn P w K tg (RM z) [it] it (λi h=>h.IsStrIter it "str_iterator" z t i) where
 mem:=List.mem_singleton.mpr rfl
 obj:=λi h st b hb=>by
  have eb:=uT hb;subst eb;obtain⟨o,e1,_,d1⟩:=st;exact⟨o,e1,λv zz=>by rw[d1]at zz;cases zz⟩
 keep:=λi h h' st k=>let ⟨o,e1,r⟩:=st;⟨o,k it (List.mem_singleton.mpr rfl) o e1,r⟩
 item:=by
  intro X hP hw hK hc i af s σ H E I hf st hg;subst hP hw hK;have NU:i<z.cps.size:=hg;obtain⟨f0,f1,f2,f3,f4,f5⟩:=hf it (List.mem_singleton.mpr rfl);refine wpAny_pyNext_wide_item st (c:=z.cps[i]) (by simp[NU]) λh' lH sb=>?_;obtain⟨o,e1,c1,d1⟩:=id lH;exact⟨_,rfl,sW (s:={ s with heap:=h',toks:=s.toks+1 }) e1 c1 d1 (by decide) ⟨.str ⟨#[z.cps[i]]⟩,H,I.turned (λb o hb e2=>(sb.2 b hb).trans e2) f0 f1 f3 f4 f5,⟨_,rfl⟩,⟨rfl,_,by simp[NU],rfl⟩,lH,λb hb=>(hf b hb).1⟩⟩
 done:=by
  intro X hP hw hK hc i af s σ H E I hf st hg;subst hP hw hK;have NU:z.cps.size<=i:=hg;obtain⟨f0,f1,f2,f3,f4,f5⟩:=hf it (List.mem_singleton.mpr rfl);exact wpAny_pyNext_wide_end (I.ok.hd hc) st (by simp;omega) λh' eb=>⟨rfl,I.turned (t':=s.toks) (λb o hb e2=>eb b o hb e2) f0 f1 f3 f4 f5⟩
 self:=λ_ _ _ _ _ st h=>wpAny_pyIter_striter_wide st h
section
variable {X:Cx}{a b e:Expr}{pos:Pos}{x:Str}{p:Pos}{tg:Expr}
theorem Fd {l:Expr}{tl:TE}(hl:PE X l tl):PI X tg l (λσ H R=>tl σ H λx H1=>∃z,x=.str z/\R (RM z) H1):=by
 intro af s σ H R I h;refine cR (hl af s σ H _ I h) λv s1 ⟨x,H1,I1,r1,q1⟩=>?_;obtain⟨z,rfl,q⟩:=q1;obtain⟨t,rfl⟩:=r1;have fp:∀b∈[s1.heap.objs.size],nR X af H1 b:=λb hb=>by
  rw[uT hb];exact I1.fpOk (vT _) (I1.hok.fresh (vT _))
 cases ha:z.cps.all (· < 128) with
 |true=>exact wpAny_pyIter_ascii ha ⟨_,[s1.heap.objs.size],_,_,H1,rfl,I1.kept (t':=s1.toks) λb o e=>vZ _ e,ya z t _,⟨_,vY _ rfl,rfl,rfl⟩,fp,q⟩
 |false=>exact wpAny_pyIter_wide ha ⟨_,[s1.heap.objs.size],_,_,H1,rfl,I1.kept (t':=s1.toks) λb o e=>vZ _ e,yc z t _,⟨_,vY _ rfl,rfl,rfl⟩,fp,q⟩
noncomputable def Bv (z:Str):List D:=z.cps.toList.map λc=>.str ⟨#[c]⟩
theorem Fe {K:PySem.W.Frag}{B:Hp}(z:Str):qd K (RM z) B (Bv z):=by
 intro i H s;refine⟨λd ed=>?_,λhl=>by unfold Bv at hl;show z.cps.size<=i;simpa using hl⟩;unfold Bv at ed;rw[vA]at ed;obtain⟨c,ec,rfl⟩:=oY ed;have Wc:z.cps[i]? = some c:=by simpa using ec
 refine⟨(Array.getElem?_eq_some_iff.mp Wc).1,λv H' hy=>?_⟩;obtain⟨rfl,c',e1,rfl⟩:=hy;rw[Wc]at e1;cases e1;exact⟨B,.refl s,.str _⟩
@[simp] def MW:D->Option (List D)
 |.lst ds=>some ds
 |.tup ds=>some ds
 |.str z=>some (Bv z)
 |_=>none
@[simp] def c6 (f:FE):FA:=λρ=>(f ρ).bind λx=>MW x.1
theorem c9 (h:JE X e f):JI X tg e (c6 f):=by
 intro af s σ H R I q;obtain⟨B,ρ,ds,sB,r,e',q⟩:=q;obtain⟨xx,ex,es⟩:=oX e';obtain⟨xd,xb⟩:=xx;cases xd with
 |lst l=>exact Bt h af s σ H R I ⟨B,ρ,ds,sB,r,by unfold EX;rw[ex];exact es,q⟩
 |tup l=>exact Bt h af s σ H R I ⟨B,ρ,ds,sB,r,by unfold EX;rw[ex];exact es,q⟩
 |str z=>
  cases es
  refine Fd h af s σ H R I ⟨B,ρ,_,_,sB,r,ex,λv H1 N1 x1 i1 _=>?_⟩;cases i1
  exact⟨z,rfl,q _ H1 N1 x1 (Fe z)⟩
 |_=>cases es
theorem IP:Ef X (λx lo hi H Q=>∃z,x=.str z/\z.length<=sizeLine/\Q (.str (Txt.slice z lo hi)) H):=by
 intro af s σ H x v vl vu lo hi sl Q I rx hs pl pu h;obtain⟨z,rfl,hz,q⟩:=h;obtain⟨t,rfl⟩:=rx;have lm:∀lo hi,Q (.str (Txt.slice z lo hi)) H->(Txt.slice z lo hi).length<=sizeLine/\∀t' k,EP X af σ Q (.str (Txt.slice z lo hi) t') { s with toks:=k }:=λlo hi q=>
  ⟨vR (Txt.slice_le z _ _) hz,λt' k=>⟨.str _,H,I.tok k,⟨t',rfl⟩,q⟩⟩
 refine⟨"str",_,PySem.F.slot_str_getitem.lookup,typeIs_str _ _ _,?_⟩;cases pl with
 |none=>
  cases pu with
  |none=>exact wpAny_getItem_str_slice (l:=none) (u:=none) (st:=none) hs rfl (post_val_or_str (lm _ _ q))
  |int j tj=>exact wpAny_getItem_str_slice (l:=none) (u:=some (j,tj)) (st:=none) hs rfl (post_val_or_str (lm _ _ q))
 |int i ti=>
  cases pu with
  |none=>exact wpAny_getItem_str_slice (l:=some (i,ti)) (u:=none) (st:=none) hs rfl (post_val_or_str (lm _ _ q))
  |int j tj=>exact wpAny_getItem_str_slice (l:=some (i,ti)) (u:=some (j,tj)) (st:=none) hs rfl (post_val_or_str (lm _ _ q))
theorem Dk {A:Around}{E:Value->Shared->Prop}{s:Shared}{prog:Program}{w:World}{t sl:Addr}{items:Array Value}{vl vu:Value}{lo hi:Option Int}{Q:Value->Shared->Prop}(ht:IsTup s.heap t items)(hs:s.heap.IsSliceOf sl vl vu .none)(pl:IsPart vl lo)(pu:IsPart vu hi)
  (h0:HT.eC items.size 0 lo=0) (h1:HT.eC items.size items.size hi=items.size) (h:Q (.ref t) s):wpAny (model prog w) A (getItem (.ref t) (.ref sl)) Q E s:=by
 obtain⟨os,GY,xm,NM⟩:=id hs
 have hT:s.TypeIs (.ref sl) "slice":=⟨os,GY,xm⟩
 unfold getItem
 try with_reducible refine wpAny_holding ?_
 first|refine wX (wY ?_)|skip
 refine wX (wpAny_sequenceKey ht.typeIs (by decide) ?_)
 refine wX (wpAny_callSpecial?_slot (name:=Str.ofString "__getitem__") ht.typeIs PyProof.Rows.slot_tuple_getitem (wpAny_call_entry PyProof.Rows.slot_tuple_getitem ht.typeIs entry_tuple_getitem ?_ (args_tuple_getitem _ _)))
 show wpAny _ _ (Builtin.Tuple.tupleItemsOf (.ref t)>>=_) _ _ s
 refine wX (tupleItemsOf_ ht ?_)
 refine wX (wpAny_typeOf hT ?_)
 rw[if_pos (by decide)]
 refine wX (HT.jo hs pl pu ?_)
 have Yi:(((HT.eC items.size 0 lo:Nat):Int) == 0 && (1:Int) == 1 && (HT.eC items.size items.size hi - HT.eC items.size 0 lo) == items.size)=true:=by
  rw[h0,h1];simp
 show wpAny _ _ (if(((HT.eC items.size 0 lo:Nat):Int) == 0 && (1:Int) == 1 && (HT.eC items.size items.size hi - HT.eC items.size 0 lo) == items.size)=true then _ else _) _ _ s
 rw[if_pos Yi]
 refine wX ?_
 unfold Builtin.Tuple.tupleIsExact
 refine wX (wpAny_typeOf ht.typeIs (wY ?_))
 show wpAny _ _ (if((Value.type "tuple") == Value.type "tuple")=true then _ else _) _ _ s
 rw[if_pos (by decide)]
 refine wX (wpAny_rule ?_)
 exact wY ⟨_,rfl,wY h⟩
theorem IQ:Ef X (λx lo hi H Q=>∃a xs,x=.ref a/\jm X.K H a xs/\HT.eC xs.length 0 lo=0/\HT.eC xs.length xs.length hi=xs.length/\Q (.ref a) H):=by
 intro af s σ H x v vl vu lo hi sl Q I rx hs pl pu h;obtain⟨a,xs,rfl,hx,h0,h1,q⟩:=h;cases rx
 obtain⟨its,r,ht,hz⟩:=I.tuple hx;have bR:its.toArray.size=xs.length:=by rw[vH];exact r.length.symm
 refine⟨"tuple",_,PyProof.Rows.slot_tuple_getitem.lookup,ht.typeIs,?_⟩;exact Dk ht hs pl pu (by rw[bR];exact h0) (by rw[bR];exact h1) ⟨.ref a,H,I,rfl,q⟩
@[simp] def RN (fa:FE)(fl fh:FO):FE:=λρ=>(fa ρ).bind λx=>(fl ρ).bind λl=>(fh ρ).bind λh=>match x.1 with
 |.lst ds=>some (.lst (sE ds l h),true)
 |.tup ds=>some (.tup (sE ds l h),false)
 |.str z=>if z.length<=sizeLine then some (.str (Txt.slice z l h),false)else none
 |_=>none
theorem As {ds:List D}{lo hi:Option Int}(h0:HT.eC ds.length 0 lo=0)(h1:HT.eC ds.length ds.length hi=ds.length):sE ds lo hi=ds:=by
 unfold sE;rw[h0,h1];simp
theorem Ff {lo hi:Option Expr}{p2:Pos}{fa:FE}{fl fh:FO}(ha:JE X e fa)(hl:JO X lo fl)(hh:JO X hi fh):JE X (.Subscript e (.Slice lo hi none p2) pos) (RN fa fl fh):=by
 refine PE.to (E2 (Ef.or (Ef.or Ik Mx) (Ef.or IP IQ)) ha hl hh) λσ H Q q=>?_;obtain⟨B,ρ,d,b,sB,r,e,q⟩:=q;obtain⟨x,ex,e⟩:=oX e;obtain⟨l,el,e⟩:=oX e;obtain⟨h,eh,e⟩:=oX e;refine⟨B,ρ,x.1,x.2,sB,r,ex,λv H1 N1 x1 i1 _=>⟨N1,ρ,l,x1.nh,r.mono x1.bn,el,λH2 h2=>⟨N1,ρ,h,x1.nh.trans h2,r.mono x1.bn,eh,λH3 h3=>?_⟩⟩⟩;have s3:aZ N1 H3:=x1.nh.trans (h2.trans h3);have q3:=q.into (x1.trans (.grow x1.nh (h2.trans h3)));obtain⟨xd,xb⟩:=x;dsimp only at e i1;cases i1 with
 |@tup a' vs ds hs hv=>
  cases e
  by_cases hw:HT.eC ds.length 0 l=0/\HT.eC ds.length ds.length h=ds.length
  ·rw[As hw.1 hw.2]at q3;exact .inr (.inr ⟨a',vs,rfl,bw s3 hs,by rw[hv.length];exact hw.1,by rw[hv.length];exact hw.2,q3.one s3 (.tup hs hv)⟩)
  ·refine .inl (.inr ⟨a',vs,rfl,bw s3 hs,by rw[hv.length];exact hw,λp hp=>?_⟩);have x4:=Ext.laid (o:=.tup (sy vs l h)) s3 hp;exact q3 _ _ _ x4 (.tup (jm.of aH) ((wj hv).mono x4.bn)) (by simp)
 |@lst a' vs ds hs hv=>
  cases e
  refine .inl (.inl ⟨a',vs,rfl,s3.seq hs,λp hp=>?_⟩);have x4:=Ext.laid (o:=.lst (sy vs l h)) s3 hp;exact q3 _ _ _ x4 (.lst (iM.of aH) ((wj hv).mono x4.bn)) λ_=>⟨p,_,_,rfl,rfl,hp,aH,(wj hv).mono x4.bn⟩
 |str z=>
  dsimp only at e;split at e
  ·rename_i hz;cases e
   exact .inr (.inl ⟨z,rfl,hz,q3.one s3 (.str _)⟩)
  ·cases e
 |_=>cases e
noncomputable def wo:Value->D->Bool
 |.none,.non=>true
 |.bool a,.bl b=>a == b
 |.int i _,.int j=>decide (i=j)
 |.str i _,.str j=>decide (i=j)
 |_,_=>false
def jH:List Value->List D->Bool
 |[],[]=>true
 |u::us,d::ds=>wo u d && jH us ds
 |_,_=>false
theorem kU {K:PySem.W.Frag}{B:Hp}:∀ {u:Value}{d:D},wo u d=true->∃v,aY v u/\Is K B v d
 |.none,.non,_=>⟨.non,rfl,.non⟩
 |.bool a,.bl b,h=>by
  have:a=b:=eq_of_beq h;subst this;exact⟨.bl a,rfl,.bl a⟩
 |.int i t,.int j,h=>by
  have:i=j:=of_decide_eq_true h;subst this;exact⟨.int i,⟨t,rfl⟩,.int i⟩
 |.str i t,.str j,h=>by
  have:i=j:=of_decide_eq_true h;subst this;exact⟨.str i,⟨t,rfl⟩,.str i⟩
theorem jI {K:PySem.W.Frag}:∀ {us:List Value}{ds:List D},jH us ds=true->∃vs,L2.bf vs us/\∀B,IsL K B vs ds
 |[],[],_=>⟨[],.nil,λ_=>.nil⟩
 |u::us,d::ds,h=>by
  rw[jH,vC]at h;obtain⟨vs,r,i⟩:=jI (K:=K) h.2;obtain⟨v,r1,_⟩:=kU (K:=K) (B:=λ_=>none) h.1;refine⟨v::vs,.cons r1 r,λB=>?_⟩;obtain⟨v',NV,i'⟩:=kU (K:=K) (B:=B) h.1;have:v'=v:=by have z1:=r1.abs;rw[NV.abs]at z1;exact vK z1
  subst this;exact .cons i' (i B)
theorem const_tup {K:PySem.W.Frag}{y:Str}{a:Addr}{od:Option Addr}{its:Array Value}{n:Nat}{p4:Array (Option Value)}{ds:List D}(e:nsIn K mainGlobals y=some (some (.ref a)))
  (l:K.lookup a=some ⟨.type "tuple",od,.seq its n,p4⟩) (h:(decide (its.size<=1000) && jH its.toList ds)=true):∃u v,nsIn K mainGlobals y=some (some u)/\aY v u/\∀B,Is K B v (.tup ds):=by
 rw[vC]at h;obtain⟨vs,r,i⟩:=jI (K:=K) h.2;exact⟨_,.ref a,e,rfl,λB=>.tup (.inr ⟨_,its,n,l,rfl,rfl,Nat.le_of_lt (Nat.lt_of_le_of_lt (of_decide_eq_true h.1) (by decide)),r⟩) (i B)⟩
end
section
variable {X:Cx}{a b o e:Expr}{pos:Pos}{x:Str}{p:Pos}{tg:Expr}
theorem MX {name:Str}{id:String}{dI cJ:Pos}{op:D->D->Option (D×Bool)}{fo fe:FE}(slot:Slot "str" name id)(L7:typeOf (.builtin id)=pure (.type "method_descriptor"))
  (hm:Ii X id (λx xs H Q=>∃y,xs=[y]/\rD X.K op x y H Q)) (He:∀dx dy r,op dx dy=some r->∃z,dx=.str z) (ho:JE X o fo) (he:JE X e fe)
  (iI:attributeBase o name X.env (eval o X.env)=eval o X.env:=by rfl)
  (AX:((backTo cJ (starEach [e] X.env)).all (λx=>!x.1) && (backToKw cJ (keywordEach [] X.env)).all (λx=>x.1.isSome)
   && decide ([e].length+([]:List Keyword).length+(if([]:List Keyword).isEmpty then 0 else 1)<30))=true:=by rfl)
  (iJ:(dI.endLine == cJ.line)=true:=by rfl) (hs:starEach [e] X.env=[(false,eval e X.env)]:=by rfl):
  JE X (.Call (.Attribute o name dI) [e] [] cJ) (f2 op fo fe):=by
 refine PE.to (E5 PySem.F.plainAttrs_str slot L7 hm ho (iN he km hs) iI AX iJ hs rfl) λσ H Q q=>?_;obtain⟨B,ρ,d,bb,sB,r,ee,q⟩:=q;obtain⟨x1,ex,ee⟩:=oX ee;obtain⟨y1,ey,ee⟩:=oX ee;obtain⟨z,hz⟩:=He _ _ _ ee;refine⟨B,ρ,x1.1,x1.2,sB,r,ex,λv H1 N1 Uk i1 _=>?_⟩;rw[hz]at i1;cases i1
 refine⟨show "str" = "str" from rfl,N1,ρ,y1.1,y1.2,Uk.nh,r.mono Uk.bn,ey,λv2 H2 N2 QV i2 _=>⟨v2,rfl,N2,.str z,y1.1,d,bb,QV.nh,.str z,i2,by rw[←hz];exact ee,q.into (Uk.trans QV)⟩⟩
@[simp] noncomputable def MY:D->Option Str
 |.str z=>some z
 |_=>none
def gL:List D->Option (List Str)
 |[]=>some []
 |d::ds=>(MY d).bind λz=>(gL ds).map (z :: ·)
@[simp] theorem O4:gL []=some []:=rfl
@[simp] theorem Au (d:D)(ds:List D):gL (d::ds)=(MY d).bind λz=>(gL ds).map (z :: ·):=rfl
@[simp] theorem O5 (zs:List Str):gL (zs.map D.str)=some zs:=by
 induction zs with
 |nil=>rfl
 |cons z zs ih=>simp[ih]
theorem k6 {K:PySem.W.Frag}{B:Hp}:∀ {vs:List V}{ds:List D}{zs:List Str}{its:List Value},L2.bf vs its->IsL K B vs ds->gL ds=some zs->StrsAre its zs
 |_,_,_,_,.nil,.nil,e=>by cases e;exact .nil
 |_,_,_,_,.cons r rr,.cons i ii,e=>by
  rw[Au]at e;obtain⟨z,e1,e⟩:=oX e;obtain⟨zs,e2,e⟩:=oY e;subst e;cases i<;>simp only[MY]at e1<;>try (cases e1;done)
  cases e1
  obtain⟨t,rfl⟩:=r;exact .cons _ t (k6 rr ii e2)
@[simp] def oJ:D->D->Option (D×Bool)
 |.str sep,.lst ds=>(gL ds).bind λzs=>if(zs.map (·.length)).sum+zs.length*sep.length<=16777216 then some (.str (Txt.join sep zs),false)else none
 |.str sep,.tup ds=>(gL ds).bind λzs=>if(zs.map (·.length)).sum+zs.length*sep.length<=16777216 then some (.str (Txt.join sep zs),false)else none
 |_,_=>none
theorem MZ:Ii X "str.join" (λx xs H Q=>∃y,xs=[y]/\rD X.K oJ x y H Q):=by
 intro af s σ H x xs v us Q I rx rs h;obtain⟨y,rfl,B,dx,dy,d,bb,sB,ix,iy,ee,q⟩:=h;obtain⟨u1,rfl,r1⟩:=gY rs;cases ix<;>(try (simp[oJ]at ee;done))
 obtain⟨t,rfl⟩:=rx;cases iy<;>(try (simp[oJ]at ee;done))
 ·rename_i h hl;simp only[oJ]at ee;obtain⟨zs,ez,ee⟩:=oX ee;split at ee
  ·rename_i hok;cases ee
   cases r1
   obtain⟨its,rv,p1,z1⟩:=I.tuple (bw sB h);exact join_tuple p1 (by simpa using k6 rv hl ez) hok λt' k=>⟨.str _,H,I.tok k,⟨t',rfl⟩,q.one sB (.str _)⟩
  ·cases ee
 ·rename_i h hl;simp only[oJ]at ee;obtain⟨zs,ez,ee⟩:=oX ee;split at ee
  ·rename_i hok;cases ee
   cases r1
   obtain⟨its,rv,p1,z1⟩:=I.list (sB.seq h);exact join_list p1.isList (by simpa using k6 rv hl ez) hok λt' k=>⟨.str _,H,I.tok k,⟨t',rfl⟩,q.one sB (.str _)⟩
  ·cases ee
theorem Fg (dx dy:D)(r:D×Bool)(h:oJ dx dy=some r):∃z,dx=.str z:=by
 cases dx<;>first|exact⟨_,rfl⟩|(cases dy<;>simp[oJ]at h)
noncomputable def gz:List Nat->List D->Env->Option Env
 |[],[],ρ=>some ρ
 |i::is,d::ds,ρ=>gz is ds (ρ.set i (some (d,false)))
 |_,_,_=>none
@[simp] theorem tJ (ρ:Env):gz [] [] ρ=some ρ:=by rw[gz]
@[simp] theorem lN (i:Nat)(is:List Nat)(d:D)(ds:List D)(ρ:Env):gz (i::is) (d::ds) ρ=gz is ds (ρ.set i (some (d,false))):=by rw[gz]
@[simp] theorem Qi (d:D)(ds:List D)(ρ:Env):gz [] (d::ds) ρ=none:=by simp only[gz]
@[simp] theorem Qj (i:Nat)(is:List Nat)(ρ:Env):gz (i::is) [] ρ=none:=by simp only[gz]
@[simp] def O6 (is:List Nat):FG:=λd ρ=>match d with|.tup ds=>gz is ds ρ|_=>none
def qk:List Nat->Me
 |[]=>Pp
 |i::is=>Kx (jT i) (qk is)
theorem Fh:aZ (eD N (own σ ρ)) (eD N (own (σ.set i (some v)) (ρ.set i (some (d,false))))):=eP λa u e q=>⟨e,λz=>q (by
 rcases vz z with⟨_,d',p⟩|⟨j,_,d',q1,q2⟩
 ·cases p
 ·exact⟨j,d',q1,q2⟩)⟩
theorem tK {K:PySem.W.Frag}:∀ {is:List Nat}{vs:List V}{ds:List D}{B0 H0 N H:Hp}{σ:St}{ρ ρ':Env}{Q:St->Hp->Prop},eM K B0 H0 N H σ ρ->IsL K (eD N (own σ ρ)) vs ds->gz is ds ρ=some ρ'->(∀σ',eM K B0 H0 N H σ' ρ'->Q σ' H)->qk is vs σ H Q
 |[],_,_,_,_,_,_,_,_,_,_,s,.nil,e,k=>by
  rw[tJ]at e;cases e;exact⟨rfl,k _ s⟩
 |[],_,_,_,_,_,_,_,_,_,_,_,.cons _ _,e,_=>by simp at e
 |_::_,_,_,_,_,_,_,_,_,_,_,_,.nil,e,_=>by simp at e
 |i::is,_,_,_,_,_,_,_,_,_,_,s,.cons h hs,e,k=>by
  rw[lN]at e;exact⟨_,_,rfl,tK (s.bind h) (hs.mono Fh) e k⟩
theorem nX:∀ {is:List Nat}{ds:List D}{ρ ρ':Env},gz is ds ρ=some ρ'->ds.length=is.length
 |[],[],_,_,_=>rfl
 |_::_,_::_,_,_,e=>by rw[lN]at e;simp[nX e]
 |[],_::_,_,_,e=>by simp at e
 |_::_,[],_,_,e=>by simp at e
theorem Qk {K:PySem.W.Frag}{is:List Nat}:Ix K (O6 is) (Mg K is.length (qk is)):=by
 intro B0 H0 N H σ ρ ρ' v d Q s h e k;cases h with
 |@tup a vs ds ht hl=>
  have e':gz is ds ρ=some ρ':=e;exact⟨a,vs,rfl,bw (bV.trans s.ext.nh) ht,by rw[hl.length];exact nX e',tK s hl e' λσ' s'=>k σ' H ⟨N,s'⟩⟩
 |_=>cases e
theorem tL {K:PySem.W.Frag}{n:Nat}{B H:Hp}{ρ0:Env}{Q:St->Hp->Prop}(cl:∀i,i<n->ρ0[i]? = some none):∀ {is:List Nat}{vs:List V}{ds:List D}{σ:St}{ρ ρ1:Env},(∀i∈is,i<n)->fw K B σ ρ->IsL K B vs ds->gz is ds ρ=some ρ1->ρ.length=σ.length->ρ.length=ρ0.length ->
  (∀σ1,fw K B σ1 ρ1->(∀B',fw K B' σ ρ0->fw K B' σ1 ρ0)->ρ0.length=σ1.length->Q σ1 H)->qk is vs σ H Q
 |[],_,_,_,_,_,_,rp,.nil,e,l1,l2,k=>by
  rw[tJ]at e;cases e;exact⟨rfl,k _ rp (λ_ z=>z) (by omega)⟩
 |[],_,_,_,_,_,_,_,.cons _ _,e,_,_,_=>by simp at e
 |_::_,_,_,_,_,_,_,_,.nil,e,_,_,_=>by simp at e
 |i::is,_,_,σ,ρ,_,hn,rp,.cons (v:=v) h hs,e,l1,l2,k=>by
  rw[lN]at e;have hi:=hn i mX;have DT:i<σ.length:=by
   have:=(vV (cl i hi)).1;omega
  refine⟨_,_,rfl,tL cl (λj hj=>hn j (mZ _ hj)) ⟨rp.tb,λj d b q=>?_⟩ hs e (by simpa using l1) (by simpa using l2) λσ1 r1 r2 l=>k σ1 r1 (λB' z=>r2 B' ⟨z.tb,λj d b q=>?_⟩) l⟩
  ·rcases cx q with⟨rfl,pp⟩|⟨ne,pp⟩
   ·cases pp
    exact⟨v,by simp[DT],h⟩
   ·obtain⟨w,h1,h2⟩:=rp.at' j d b pp;exact⟨w,by rw[vB ne];exact h1,h2⟩
  ·obtain⟨w,h1,h2⟩:=z.at' j d b q;have ne:i≠j:=λz=>by subst z;rw[cl i hi]at q;cases q
   exact⟨w,by rw[vB ne];exact h1,h2⟩
theorem Lh {K:PySem.W.Frag}{n:Nat}{is:List Nat}(hn:∀i∈is,i<n):MA K n (O6 is) (Mg K is.length (qk is)):=by
 intro B H σ ρ ρ1 v d Q cl rep s h e hl k;cases h with
 |@tup a vs ds ht hv=>
  have e':gz is ds ρ=some ρ1:=e;exact⟨a,vs,rfl,bw s ht,by rw[hv.length];exact nX e',tL cl hn rep hv e' hl rfl k⟩
 |_=>cases e
end
section
variable {prog:Program}{w:World}{A:Around}{E:Value->Shared->Prop}{s:Shared}
theorem Av (st:s.heap.IsTupleIter it l i)(ht:s.heap.IsTuple l items)(hv:items[i]? = some v)
  (k:∀h',h'.IsTupleIter it l (i+1)->Heap.SameBut it s.heap h'->Q v { s with heap:=h' }):wpAny (model prog w) A (Builtin.SmallTypes.nextOf (.ref it)) Q E s:=by
 obtain⟨o1,g1,c1,d1⟩:=id st;obtain⟨o2,g2,_,n2,d2⟩:=ht;unfold Builtin.SmallTypes.nextOf;refine wX (wpAny_callSpecial?_slot (name:=Str.ofString "__next__") st.typeIs PySem.F.slot_tuple_iterator_next (wpAny_call_entry PySem.F.slot_tuple_iterator_next st.typeIs PySem.F.entry_tuple_iterator_next ?_ (PySem.F.args_tuple_iterator_next_1 _)));show wpAny _ _ (field (.ref it) 0>>=_) _ _ _;refine wX (wpAny_field g1 d1 (x:=.ref l) rfl ?_);show wpAny _ _ (if(Value.ref l == Value.none)=true then _ else _) _ _ _;rw[if_neg (λz=>uX z:¬((Value.ref l == Value.none)=true))];show wpAny _ _ (field (.ref it) 1>>=_) _ _ _;refine wX (wpAny_field g1 d1 (x:=.int i 0) rfl ?_);show wpAny _ _ (seqItems? (.ref l)>>=_) _ _ _;refine wX (wpAny_seqItems g2 d2 ?_);simp only[hv,Int.toNat_natCast];refine wX (wpAny_setField g1 d1 (by simp) (wY ⟨v,rfl,wY (k _ ?_ (vW ..))⟩));exact⟨_,Heap.get?_update_self _ g1 (Obj.isFreed_of_fields (Obj.data_mapFields d1 _)),(Obj.cls_mapFields ..).trans c1,by rw[Obj.data_mapFields d1];simp[rawInt]⟩
theorem Dl (hA:A.handled=none)(st:s.heap.IsTupleIter it l i)(ht:s.heap.IsTuple l items)(hv:items[i]? = none)
  (k:∀h' x,Heap.ExtBut it s.heap h'->(∃o,h'.get? x=some o/\o.cls=.type "StopIteration")->E (.ref x) { s with heap:=h' }):wpAny (model prog w) A (Builtin.SmallTypes.nextOf (.ref it)) Q E s:=by
 obtain⟨o1,g1,c1,d1⟩:=id st;obtain⟨o2,g2,_,n2,d2⟩:=ht;unfold Builtin.SmallTypes.nextOf;refine wX (wpAny_callSpecial?_slot (name:=Str.ofString "__next__") st.typeIs PySem.F.slot_tuple_iterator_next (wpAny_call_entry PySem.F.slot_tuple_iterator_next st.typeIs PySem.F.entry_tuple_iterator_next ?_ (PySem.F.args_tuple_iterator_next_1 _)));show wpAny _ _ (field (.ref it) 0>>=_) _ _ _;refine wX (wpAny_field g1 d1 (x:=.ref l) rfl ?_);show wpAny _ _ (if(Value.ref l == Value.none)=true then _ else _) _ _ _;rw[if_neg (λz=>uX z:¬((Value.ref l == Value.none)=true))];show wpAny _ _ (field (.ref it) 1>>=_) _ _ _;refine wX (wpAny_field g1 d1 (x:=.int i 0) rfl ?_);show wpAny _ _ (seqItems? (.ref l)>>=_) _ _ _;refine wX (wpAny_seqItems g2 d2 ?_);simp only[hv,Int.toNat_natCast];refine wX (wpAny_rule (wX (wpAny_setField g1 d1 (by simp) ?_)));show wpAny _ _ (newExc (.type "StopIteration") []>>=_) _ _ _;refine wX ?_;simp only[newTuple,newExc];refine wX (wpAny_newObj_type ?_ (by size_fits));refine wX (m:=firstArgMember _ _) (wpAny_of_eq (a:=Value.none) (by first|(simp only[firstArgMember];rfl)|rfl) ?_);refine wpAny_newObj_type ?_ (by size_fits);simp only[raiseNew];refine wX (wpAny_handled ?_);first|rw[hA]|rw[show A.in1.handled=none from hA]
 exact wX (wY (wpAny_throw (k _ _ (((vW ..).extBut.push _).push _) ⟨_,vY _ rfl,rfl⟩)))
end
def Bw:Bool->Heap->Addr->Addr->Nat->Prop
 |true,h,it,a,i=>h.IsListIter it a i
 |false,h,it,a,i=>h.IsTupleIter it a i
def zL:Bool->Heap->Addr->Array Value->Prop
 |true,h,a,items=>h.IsList a items
 |false,h,a,items=>h.IsTuple a items
def Aw (k:Bool)(K:PySem.W.Frag)(H:Hp)(a:Addr)(xs:List V):Prop:=match k with|true=>iM K H a xs|false=>jm K H a xs
theorem Bw.ob (st:Bw k h it a i):∃o,h.get? it=some o/\∀v,o.data≠.cell v:=by
 cases k<;>(obtain⟨o,g,_,d⟩:=st;exact⟨o,g,λv z=>by rw[d]at z;cases z⟩)
theorem Bw.upon (st:Bw k h it a i)(g:∀o,h.get? it=some o->h'.get? it=some o):Bw k h' it a i:=by
 cases k<;>(obtain⟨o,e,r⟩:=st;exact⟨o,g o e,r⟩)
theorem zL.upon (st:zL k h a items)(g:∀o,h.get? a=some o->h'.get? a=some o):zL k h' a items:=by
 cases k<;>(obtain⟨o,e,r⟩:=st;exact⟨o,g o e,r⟩)
theorem zL.lt (st:zL k h a items):a<h.objs.size:=by
 cases k<;>(obtain⟨o,e,r⟩:=st;exact vX e)
theorem Aw.same {k:Bool}{K:PySem.W.Frag}{H H':Hp}{a:Addr}{xs:List V}(h:Aw k K H a xs)(e:aZ H H'):Aw k K H' a xs:=by
 cases k
 ·exact bw e h
 ·exact e.seq h
theorem Aw.vals (I:Inv X af σ H s)(h:Aw k X.K H a xs):∃its:List Value,bf xs its/\zL k s.heap a its.toArray/\xs.length<=sizeLine:=by
 cases k
 ·exact I.tuple h
 ·obtain⟨its,r,p,z⟩:=I.list h;exact⟨its,r,p.isList,z⟩
theorem Aw.inj (I:Inv X af σ H s)(h:Aw k X.K H a xs)(h':Aw k X.K H a ys):xs=ys:=by
 cases k
 ·exact I.tuple_inj h h'
 ·exact I.list_inj h h'
section
variable {prog:Program}{w:World}{A:Around}{E:Value->Shared->Prop}{s:Shared}
theorem Dm (st:Bw k s.heap it l i)(ht:zL k s.heap l items)(hv:items[i]? = some v)
  (q:∀h',Bw k h' it l (i+1)->Heap.SameBut it s.heap h'->Q v { s with heap:=h' }):wpAny (model prog w) A (Builtin.SmallTypes.nextOf (.ref it)) Q E s:=by
 cases k
 ·exact Av st ht hv q
 ·exact wpAny_nextOf_list_item st ht hv q
theorem ye (hA:A.handled=none)(st:Bw k s.heap it l i)(ht:zL k s.heap l items)(hv:items[i]? = none)
  (q:∀h' x,Heap.ExtBut it s.heap h'->(∃o,h'.get? x=some o/\o.cls=.type "StopIteration")->E (.ref x) { s with heap:=h' }):wpAny (model prog w) A (Builtin.SmallTypes.nextOf (.ref it)) Q E s:=by
 cases k
 ·exact Dl hA st ht hv q
 ·exact wpAny_nextOf_list_end hA st ht hv q
end
noncomputable def Na (k:Bool)(l:Addr):Obj:={ cls:=.type (if k=true then "list_iterator" else "tuple_iterator"),data:=.fields #[.ref l,.int 0 0] }
theorem wq (ht:zL k s.heap l items)
  (q:Q (.ref s.heap.objs.size) { s with heap:=s.heap.push (Na k l) }):wpAny (model prog w) A (pyIter (.ref l)) Q E s:=by
 cases k
 ·exact wpAny_pyIter_tuple ht q
 ·exact wpAny_pyIter_list ht q
theorem zL.push (st:zL k h a items)(o:Obj):zL k (h.push o) a items:=st.upon λ_ e=>vZ _ e
theorem pJ {X:Cx}{af:List (Addr×Obj)}{σ:St}{H:Hp}{s:Shared}{h':Heap}{t':Nat}{ch:List Addr}(I:Inv X af σ H s)(f:∀b∈ch,nR X af H b)(k:∀b o,b∉ch->s.heap.get? b=some o->h'.get? b=some o):Inv X af σ H { s with heap:=h',toks:=t' }:=by
 have L4:∀b u,H b=some u->b∉ch:=λb u e z=>by rw[(f b z).1]at e;cases e
 refine I.step (g':=s.gens) (d':=s.drawn) (ch:=ch) (λb hb=>?_) (λb o _ _ hc e _=>k b o hc e) (λb o _ _ hc e _=>⟨o.slots,k b o hc e⟩) (λ_ _ _ _ n=>n)
  (λb o hc e=>⟨o,k b o hc e⟩) (λ_ _ e=>e) (λ_ _ _ e=>e) (λ_ _ e=>e) (λm hm=>?_) (λb u e=>?_) I.bare
 ·obtain⟨_,f1,_,f3,f4,f5⟩:=f b hb;exact⟨f3,f1,f4,f5⟩
 ·obtain⟨o,es,ep,ho,r⟩:=hm;exact⟨o,es,ep,k _ o (λz=>(f _ z).2.1 rfl) ho,r⟩
 ·refine(I.hok b u e).stay (λc v hc q=>k c v ?_ q) (λ_ q=>q) (λ_ _ q=>q) λ_ _ _ q=>q;rcases hc with z|z
  ·rw[z];exact L4 b u e
  ·exact L4 c _ z
theorem Li {X:Cx}{af:List (Addr×Obj)}{σ:St}{H:Hp}{s:Shared}{h':Heap}{t':Nat}{ch:List Addr}{a:Addr}{ob:HO}(I:Inv X af σ H s)(f:∀b∈ch,nR X af H b)(k:∀b o,b∉ch->s.heap.get? b=some o->h'.get? b=some o)(ha:s.heap.objs.size<=a)
  (new:bU X.prog X.w (upd H a ob) h' a ob):Inv X af σ (upd H a ob) { s with heap:=h',toks:=t' }:=by
 have hn:H a=none:=I.hok.fresh ha;have L4:∀b u,H b=some u->b∉ch:=λb u e z=>by rw[(f b z).1]at e;cases e
 have na:∀b o,s.heap.get? b=some o->b≠a:=λb o e=>vS (vQ (vX e) ha);refine I.step (g':=s.gens) (d':=s.drawn) (ch:=ch) (λb hb=>?_) (λb o _ _ hc e _=>k b o hc e) (λb o _ _ hc e _=>⟨o.slots,k b o hc e⟩) (λb o _ e n=>by rw[aL (na b o e)];exact n)
  (λb o hc e=>⟨o,k b o hc e⟩) (λb xs e=>by rw[aL (ba e hn)];exact e) (λb o u e=>by rw[aL (ba e hn)];exact e) (λb ps e=>by rw[aL (ba e hn)];exact e) (λm hm=>?_) (λb u e=>?_) I.bare
 ·obtain⟨_,f1,_,f3,f4,f5⟩:=f b hb;exact⟨f3,f1,f4,f5⟩
 ·obtain⟨o,es,ep,ho,r⟩:=hm;exact⟨o,es,ep,k _ o (λz=>(f _ z).2.1 rfl) ho,r⟩
 ·by_cases hb:b=a
  ·subst hb;rw[aH]at e;cases e;exact new
  ·rw[aL hb]at e;refine(I.hok b u e).stay (λc v hc q=>k c v ?_ q) (λc q=>?_) (λc xs q=>?_) λc o xs q=>?_
   ·rcases hc with z|z
    ·rw[z];exact L4 b u e
    ·exact L4 c _ z
   ·rw[aL (ba q hn)];exact q
   ·rw[aL (ba q hn)];exact q
   ·rw[aL (ba q hn)];exact q
section
variable {X:Cx}{a b e:Expr}{pos:Pos}{p:Pos}
noncomputable def Tg (xs ys:List D):List D:=List.zipWith (λx y=>.tup [x,y]) xs ys
@[simp] def Th (fa fb:FE):FA:=λρ=>(fa ρ).bind λx=>(fb ρ).bind λy=>(gt x.1).bind λxs=>(gt y.1).map λys=>Tg xs ys
theorem Ql {K:PySem.W.Frag}{B:Hp}{v:V}{d:D}{ds:List D}(h:Is K B v d)(e:gt d=some ds):∃k a vs,v=.ref a/\Aw k K B a vs/\IsL K B vs ds:=by
 cases h with
 |tup ht hl=>cases e;exact⟨false,_,_,rfl,ht,hl⟩
 |lst ht hl=>cases e;exact⟨true,_,_,rfl,ht,hl⟩
 |_=>cases e
end
noncomputable def unown1 (ρ:Env)(i:Nat):Env:=match ρ[i]? with
 |some (some (d,true))=>ρ.set i (some (d,false))
 |_=>ρ
theorem eM.unown1 {K:PySem.W.Frag}{B0 H0 N H:Hp}{σ:St}{ρ:Env}(s:eM K B0 H0 N H σ ρ)(i:Nat):eM K B0 H0 N H σ (unown1 ρ i):=by
 unfold DL.unown1;split
 ·rename_i d hd;obtain⟨a,ob,h1,h2,h3,h4⟩:=s.ow i d hd;have get:∀ {j:Nat}{e:D}{b:Bool},(ρ.set i (some (d,false)))[j]? = some (some (e,b))->(i=j/\e=d/\b=false)∨(i≠j/\ρ[j]? = some (some (e,b))):=λq=>by
   rcases cx q with⟨z,p⟩|⟨z,p⟩
   ·cases p;exact .inl ⟨z,rfl,rfl⟩
   ·exact .inr ⟨z,p⟩
  have o:∀c,own σ (ρ.set i (some (d,false))) c->own σ ρ c/\c≠a:=λc ⟨j,e,q1,q2⟩=>by
   rcases get q1 with⟨_,_,z⟩|⟨ne,q⟩
   ·cases z
   ·exact⟨⟨j,e,q,q2⟩,λz=>by subst z;exact ne (s.inj i j _ _ _ hd q h1 q2)⟩
  have c:aZ (eD N (own σ ρ)) (eD N (own σ (ρ.set i (some (d,false))))):=eP λb u e q=>⟨e,λz=>q (o b z).1⟩;have na:¬own σ (ρ.set i (some (d,false))) a:=λz=>(o a z).2 rfl;refine⟨s.bh,s.tb,s.ext,by rw[List.length_set];exact s.len,λj e q=>?_,λj e q=>?_,λj k b e f q q' z1 z2=>?_⟩
  ·rcases get q with⟨rfl,rfl,_⟩|⟨_,q⟩
   ·exact⟨_,h1,(h4.mono c).is (by rw[cX na];exact h2)⟩
   ·obtain⟨v,k1,k2⟩:=s.sh j e q;exact⟨v,k1,k2.mono c⟩
  ·rcases get q with⟨_,_,z⟩|⟨_,q⟩
   ·cases z
   ·obtain⟨a',o',k1,k2,k3,k4⟩:=s.ow j e q;exact⟨a',o',k1,k2,k3,k4.mono c⟩
  ·rcases get q with⟨_,_,z⟩|⟨_,q⟩
   ·cases z
   ·rcases get q' with⟨_,_,z⟩|⟨_,q'⟩
    ·cases z
    ·exact s.inj j k b e f q q' z1 z2
 ·exact s
@[simp] noncomputable def Ti (is:List Nat)(g:FS):FS:=λρ=>g (is.foldl unown1 ρ)
theorem eM.unowns {K:PySem.W.Frag}{B0 H0 N H:Hp}{σ:St}:∀(is:List Nat){ρ:Env},eM K B0 H0 N H σ ρ->eM K B0 H0 N H σ (is.foldl DL.unown1 ρ)
 |[],_,s=>s
 |i::is,_,s=>eM.unowns is (s.unown1 i)
theorem Nb {K:PySem.W.Frag}{is:List Nat}{g:FS}{E:Ends}{σ:St}{H:Hp}(q:oF K (Ti is g) E σ H):oF K g E σ H:=by
 obtain⟨B0,H0,ρ,r,⟨N,s⟩,e,p⟩:=q;exact⟨B0,H0,_,r,⟨N,s.unowns is⟩,e,p⟩
theorem Qm {X:Cx}{st:Stmt}{g:FS}(is:List Nat)(h:JS X st g):JS X st (Ti is g):=PS.to h λ_ _ _ q=>Nb q
@[simp] noncomputable def Lj:FS:=λρ=>some (.ct ρ)
@[simp] noncomputable def Tj:FS:=λρ=>some (.bk ρ)
@[simp] noncomputable def Tk:FS:=λ_=>none
section
variable {X:Cx}{pos:Pos}
theorem IS:JS X (.Continue pos) Lj:=PS.to xw λE σ H q=>by
 obtain⟨B0,H0,ρ,r,s,e,p⟩:=q;cases e
 exact p σ H s
end
inductive CRows (K:PySem.W.Frag)(P:Params):List DictEntry->List (Str×D)->Prop where
 |nil:CRows K P [] []
 |tup {x:Str}{t:Tok}{h:Int}{a:Addr}{its:Array Value}{n:Nat}{p4:Array (Option Value)}{ds:List D}{r:List DictEntry}{aM:List (Str×D)}(hh:h=PyData.keyHash P x)
   (l:K.lookup a=some ⟨.type "tuple",none,.seq its n,p4⟩) (f:(decide (its.size<=1000) && jH its.toList ds)=true) (tl:CRows K P r aM):CRows K P (⟨h,.str x t,.ref a⟩::r) ((x,.tup ds)::aM)
 |flat {x:Str}{t:Tok}{h:Int}{u:Value}{d:D}{r:List DictEntry}{aM:List (Str×D)}(hh:h=PyData.keyHash P x) (f:wo u d=true) (tl:CRows K P r aM):CRows K P (⟨h,.str x t,u⟩::r) ((x,d)::aM)
theorem CRows.lit {K:PySem.W.Frag}{P:Params}:∀ {es:List DictEntry}{aM:List (Str×D)},CRows K P es aM->PySem.W.KeysLit P es
 |_,_,.nil=>trivial
 |_,_,.tup hh _ _ tl=>⟨⟨_,_,rfl,hh⟩,tl.lit⟩
 |_,_,.flat hh _ tl=>⟨⟨_,_,rfl,hh⟩,tl.lit⟩
theorem CRows.find {K:PySem.W.Frag}{P:Params}(y:Str):∀ {es:List DictEntry}{aM:List (Str×D)},CRows K P es aM->match aM.lookup y with
  |none=>es.find? (λe=>Value.isStrOf y e.key)=none
  |some d=>∃e v,es.find? (λe=>Value.isStrOf y e.key)=some e/\aY v e.val/\∀B,Is K B v d
 |_,_,.nil=>rfl
 |_,_,.tup (x:=x) (t:=t) (a:=a) (ds:=ds) hh l f tl=>by
  by_cases e:y=x
  ·subst e;rw[List.lookup_cons_self];rw[vC]at f;obtain⟨vs,r,i⟩:=jI (K:=K) f.2;exact⟨_,.ref a,List.find?_cons_of_pos (by simp[Value.isStrOf]),rfl,λB=>.tup (.inr ⟨_,_,_,l,rfl,rfl,Nat.le_of_lt (Nat.lt_of_le_of_lt (of_decide_eq_true f.1) (by decide)),r⟩) (i B)⟩
  ·have ih:=tl.find y;rw[List.lookup_cons,beq_eq_false_iff_ne.mpr e];have nf:Value.isStrOf y (Value.str x t)=false:=by
    rw[Bool.eq_false_iff];intro z;obtain⟨t',q⟩:=Value.isStrOf_shape z;injection q with q1;exact e q1.symm
   simp only[List.find?_cons,nf];exact ih
 |_,_,.flat (x:=x) (t:=t) (u:=u) (d:=d) hh f tl=>by
  by_cases e:y=x
  ·subst e;rw[List.lookup_cons_self];obtain⟨v,r1,_⟩:=kU (K:=K) (B:=λ_=>none) f;refine⟨_,v,List.find?_cons_of_pos (by simp[Value.isStrOf]),r1,λB=>?_⟩;obtain⟨v',NV,i'⟩:=kU (K:=K) (B:=B) f;have:v'=v:=by have z1:=r1.abs;rw[NV.abs]at z1;exact vK z1
   subst this;exact i'
  ·have ih:=tl.find y;rw[List.lookup_cons,beq_eq_false_iff_ne.mpr e];have nf:Value.isStrOf y (Value.str x t)=false:=by
    rw[Bool.eq_false_iff];intro z;obtain⟨t',q⟩:=Value.isStrOf_shape z;injection q with q1;exact e q1.symm
   simp only[List.find?_cons,nf];exact ih
def tM (K:PySem.W.Frag)(P:Params)(a:Addr)(aM:List (Str×D)):Prop:=∃es n,K.lookup a=some ⟨.type "dict",none,.dict es n,#[]⟩/\CRows K P es.toList aM/\(a == sysModules)=false
theorem const_dict {K:PySem.W.Frag}{P:Params}{y:Str}{a:Addr}{es:Array DictEntry}{n:Nat}{aM:List (Str×D)}(e:nsIn K mainGlobals y=some (some (.ref a)))(l:K.lookup a=some ⟨.type "dict",none,.dict es n,#[]⟩)(r:CRows K P es.toList aM)(s:(a == sysModules)=false):
  ∃a,nsIn K mainGlobals y=some (some (.ref a))/\tM K P a aM:=⟨a,e,es,n,l,r,s⟩
section
variable {X:Cx}{a b e:Expr}{pos:Pos}{x:Str}{p:Pos}
theorem tM.map {af:List (Addr×Obj)}{σ:St}{H:Hp}{s:Shared}{d:Addr}{aM:List (Str×D)}(I:Inv X af σ H s)(h:tM X.K X.w.params d aM):∃f:Str->Option Value,s.heap.MapOf (strKind X.prog X.w) d f/\(d == sysModules)=false /\
  ∀y,match aM.lookup y with|none=>f y=none|some dd=>∃u v,f y=some u/\aY v u/\∀B,Is X.K B v dd:=by
 obtain⟨es,n,l,r,sm⟩:=h;refine⟨_,PySem.W.mapOf_K I.kIn l r.lit,sm,λy=>?_⟩;have:=r.find y;have ff:findBy Value.isStrOf es y=(es.toList.find? λe=>Value.isStrOf y e.key).map (·.val):=by
  unfold findBy;obtain⟨es⟩:=es;rw[List.find?_toArray]
 cases hl:aM.lookup y with
 |none=>rw[hl]at this;dsimp only at this ⊢;rw[ff,this];rfl
 |some dd=>
  rw[hl]at this;obtain⟨en,v,e1,e2,e3⟩:=this;exact⟨en.val,v,by rw[ff,e1];rfl,e2,e3⟩
@[simp] noncomputable def Xh (aM:List (Str×D)):D->Option (D×Bool)
 |.str y=>(aM.lookup y).map λd=>(d,false)
 |_=>none
@[simp] noncomputable def ZC (aM:List (Str×D)):D->Option (D×Bool)
 |.str y=>some (.bl (aM.lookup y).isSome,false)
 |_=>none
@[simp] noncomputable def Tl (aM:List (Str×D)):D->Option (D×Bool)
 |.str y=>some (.bl (!(aM.lookup y).isSome),false)
 |_=>none
@[simp] noncomputable def iO:List D->Option (D×Bool)
 |[.lst ds]=>some (.lst ds,true)
 |[.tup ds]=>some (.lst ds,true)
 |_=>none
@[simp] noncomputable def g7:List D->Option (D×Bool)
 |[.lst ds]=>some (.tup ds,false)
 |[.tup ds]=>some (.tup ds,false)
 |_=>none
theorem Fi:ce X (.type "list") (Bh X.K iO):=by
 refine ce.to vv λxs H Q q=>?_;obtain⟨B,ds,d,bb,sB,i,ee,q⟩:=q;cases i with
 |nil=>simp[iO]at ee
 |cons i1 i2=>
  cases i2 with
  |cons _ _=>cases i1<;>simp[iO]at ee
  |nil=>
   cases i1<;>try (simp[iO]at ee;done)
   ·rename_i l0 vs es h hl;simp only[iO]at ee;cases ee
    refine⟨_,_,rfl,.inr (bw sB h),λl hp=>?_⟩;have xt:=Ext.laid (o:=.lst vs) sB hp;exact q _ _ _ xt (.lst (iM.of aH) (hl.mono xt.bn)) λ_=>⟨_,_,_,rfl,rfl,hp,aH,hl.mono xt.bn⟩
   ·rename_i l0 vs es h hl;simp only[iO]at ee;cases ee
    refine⟨_,_,rfl,.inl (sB.seq h),λl hp=>?_⟩;have xt:=Ext.laid (o:=.lst vs) sB hp;exact q _ _ _ xt (.lst (iM.of aH) (hl.mono xt.bn)) λ_=>⟨_,_,_,rfl,rfl,hp,aH,hl.mono xt.bn⟩
theorem By:ce X (.type "tuple") (Bh X.K g7):=by
 refine ce.to sC λxs H Q q=>?_;obtain⟨B,ds,d,bb,sB,i,ee,q⟩:=q;cases i with
 |nil=>simp[g7]at ee
 |cons i1 i2=>
  cases i2 with
  |cons _ _=>cases i1<;>simp[g7]at ee
  |nil=>
   cases i1<;>try (simp[g7]at ee;done)
   ·rename_i l0 vs es h hl;simp only[g7]at ee;cases ee
    exact⟨_,_,rfl,.inr ⟨bw sB h,q.one sB (.tup h hl)⟩⟩
   ·rename_i l0 vs es h hl;simp only[g7]at ee;cases ee
    refine⟨_,_,rfl,.inl ⟨sB.seq h,λl hp=>?_⟩⟩;have xt:=Ext.laid (o:=.tup vs) sB hp;exact q _ _ _ xt (.tup (jm.of aH) (hl.mono xt.bn)) (by simp)
end
section
variable {X:Cx}{a b e:Expr}{pos:Pos}{x:Str}{p:Pos}
@[simp] def Vq (is:List Nat)(f:FE):FS:=λρ=>(f ρ).bind λx=>(gt x.1).bind λds=>(gz is ds (if b8 ds=true then ρ else unown ρ)).map .nx
@[simp] def Dn (i:Nat)(fk fv:FE):FS:=λρ=>match ρ[i]? with
 |some (some (.lst ds,true))=>(fv ρ).bind λv=>(fk ρ).bind λk=>match k.1 with
  |.int j=>(CS ds.length j).bind λn=>if bu v.1=true then some (.nx (ρ.set i (some (.lst (ds.set n v.1),true))))else none
  |_=>none
 |_=>none
theorem Fj (hv:JE X e fv)(hk:JE X k fk)(hN:X.N[i]? = some y:=by rfl)(AZ:Eo X.env.scope y:=by first|exact Or.inl rfl|exact Or.inr (Or.inl rfl)|exact Or.inr (Or.inr rfl))(hd:(y == ("__debug__" : Str))=false:=by decide)
  (jA:(y == ("__classdict__" : Str))=false:=by decide)
  (ha:∀v,assign (.Subscript (.Name y py) k pt) X.env v=(do
   let ov ←holding [v] (eval (.Name y py) X.env)
   let iv ←holding [v,ov] (eval k X.env)
   standAt pt
   holding [v,ov,iv] (setItem ov iv v)
   release [v,ov,iv] []):=by intro _;rfl)
  (hs:swapsWithSole [.Subscript (.Name y py) k pt] e pos.line X.env=pure false:=by rfl) (hw:swappedStores [.Subscript (.Name y py) k pt] e X.env=pure none:=by rfl)
  (h1:(assignEach [.Subscript (.Name y py) k pt] X.env).map (·.2)=[assign (.Subscript (.Name y py) k pt) X.env]:=by rfl):JS X (.Assign [.Subscript (.Name y py) k pt] e pos) (Dn i fk fv):=by
 refine PS.to (Mi hv (Mh (lL hN AZ hd jA) hk E3 ha) hs hw h1) λE σ H q=>?_;obtain⟨B0,H0,ρ,r,⟨N,s⟩,ee,p⟩:=q;unfold Dn at ee;split at ee
 ·rename_i ds ei;obtain⟨v,ev,ee⟩:=oX ee;obtain⟨kk,ek,ee⟩:=oX ee;obtain⟨kd,kb⟩:=kk;cases kd with
  |int j=>
   dsimp only at ee;obtain⟨n,en,ee⟩:=oX ee;split at ee
   ·rename_i hn;cases ee
    refine⟨N,ρ,v.1,v.2,s.ext.nh,s.rep,ev,λv1 H1 N1 x1 i1 _=>?_⟩;have s1:=s.grow x1;obtain⟨l,vs,Ki,z,h1,h2,h3,h4⟩:=s1.owL i _ ei;cases z
    refine⟨_,h1,N1,ρ,_,_,s1.ext.nh,s1.rep,ek,λkv H2 N2 x2 i2 _=>?_⟩;cases i2
    have s2:=s1.grow x2;obtain⟨l',Sf,Ki,z,k1,k2,k3,k4⟩:=s2.owL i _ ei;cases z
    rw[h1]at k1;cases k1;exact⟨l,Sf,j,n,rfl,rfl,s2.ext.nh _ _ k2,by rw[k4.length];exact en,p σ _ ⟨_,s2.write ei h1 (IsL.set (s2.flat (i1.mono x2.bn) hn) n k4)⟩⟩
   ·cases ee
  |_=>cases ee
 ·cases ee
@[simp] noncomputable def Xi (i:Nat)(g:List D->Option (List D)):FS:=λρ=>match ρ[i]? with
 |some (some (.lst ds,true))=>(g ds).map λes=>.nx (ρ.set i (some (.lst es,true)))
 |_=>none
@[simp] def Xj (i:Nat)(f:FE):FS:=λρ=>match ρ[i]? with
 |some (some (.lst ds,true))=>(f ρ).bind λx=>match x.1 with
  |.lst es=>if x.2=true/\b8 es=true/\ds.length+es.length<=sizeLine then some (.nx (ρ.set i (some (.lst (ds++es),true))))else none
  |_=>none
 |_=>none
@[simp] noncomputable def Ax:List D->Option (D×Bool)
 |[.int i]=>some (.int i,false)
 |[.bl b]=>some (.int (if b then 1 else 0),false)
 |_=>none
theorem Qn:ce X (.type "int") (Bh X.K Ax):=by
 refine ce.to CO λxs H Q q=>?_;obtain⟨B,ds,d,bb,sB,i,ee,q⟩:=q;cases i with
 |nil=>simp[Ax]at ee
 |cons i1 i2=>
  cases i2 with
  |cons _ _=>cases i1<;>simp[Ax]at ee
  |nil=>
   cases i1<;>try (simp[Ax]at ee;done)
   ·simp only[Ax]at ee;cases ee
    exact .inr ⟨_,rfl,q.one sB (.int _)⟩
   ·simp only[Ax]at ee;cases ee
    exact .inl ⟨_,rfl,q.one sB (.int _)⟩
end
open AutoSeq1 (wpAny_loadPart')
set_option maxRecDepth 100000
noncomputable def Vr (k:Bool):String:=if k=true then "list" else "tuple"
theorem yf (k:Bool)(l:Addr)(items:Array Value)(n:Nat)(NW:Option Addr)(sl:Array (Option Value)):
  Meets (Builtin.«enumerate.__new__» ⟨[.type "enumerate",.ref l],[]⟩) (λ_ R s=>s.heap.get? l=some { cls:=.type (Vr k),dict:=NW,data:=.seq items n,slots:=sl } /\
   R (.ok (.ret (.ref (s.heap.push (Na k l)).objs.size))) { s with heap:=(s.heap.push (Na k l)).push { cls:=.type "enumerate",data:=.fields #[.none,.bool false,.ref s.heap.objs.size,rawInt 0,.none,.none] } }) :=
 .of_wp λprog w A R s hs=>by
  obtain⟨hp,g,d,tk,os⟩:=s;obtain⟨hl,hs⟩:=hs;have Hf:=sub_enumerate;have hL:zL k (Shared.heap ⟨hp,g,d,tk,os⟩) l items:=by cases k<;>exact⟨_,hl,rfl,n,rfl⟩
  wp_walk using wpAny_loadPart' hl;refine wpAny_stack_any λst=>wY ?_;split
  ·rename_i c _ _ _ _ _;cases (c == Value.type "enumerate")
   ·wp_walk using wpAny_loadPart' hl,wq hL;exact⟨_,rfl,hs⟩
   ·wp_walk using wpAny_loadPart' hl,wq hL;exact⟨_,rfl,hs⟩
  ·wp_walk using wpAny_loadPart' hl,wq hL;exact⟨_,rfl,hs⟩
section
variable {prog:Program}{w:World}{A:Around}{E:Value->Shared->Prop}{s:Shared}
theorem Fk (hL:zL k s.heap l items)
  (q:∀h',IsEnum h' (s.heap.objs.size+1) s.heap.objs.size 0 .none->Bw k h' s.heap.objs.size l 0->(∀b o,s.heap.get? b=some o->h'.get? b=some o)->Q (.ref (s.heap.objs.size+1)) { s with heap:=h' }):
  wpAny (model prog w) A (call (.type "enumerate") [.ref l]) Q E s:=by
 have hh:∃(NW:Option Addr)(sl:Array (Option Value))(n:Nat),s.heap.get? l=some { cls:=.type (Vr k),dict:=NW,data:=.seq items n,slots:=sl }:=by
  cases k<;>(obtain⟨⟨c,NW,dt,sl⟩,hl,hc,n,hd⟩:=hL;dsimp only at hc hd;subst hc;subst hd;exact⟨NW,sl,n,hl⟩)
 obtain⟨NW,sl,n,hl⟩:=hh;refine callType_new PySem.F.called_enumerate (by decide) (PySem.F.typeCall_enumerate_1 _) (PySem.F.newCall_enumerate_1 _) (λobj=>PySem.F.args_object_init_2 obj _) PySem.F.entry_enumerate_new (yf k l items n NW sl) ⟨hl,?_⟩;have n1:(s.heap.push (Na k l)).objs.size=s.heap.objs.size+1:=Heap.size_push ..;have g2:((s.heap.push (Na k l)).push { cls:=.type "enumerate",data:=.fields #[.none,.bool false,.ref s.heap.objs.size,rawInt 0,.none,.none] }).get? (s.heap.push (Na k l)).objs.size=some _:=vY _ rfl;have g1:((s.heap.push (Na k l)).push { cls:=.type "enumerate",data:=.fields #[.none,.bool false,.ref s.heap.objs.size,rawInt 0,.none,.none] }).get? s.heap.objs.size=some _:=vZ _ (vY _ (by cases k<;>rfl))
 rw[n1]at g2;show _/\_;rw[n1];refine⟨⟨_,g2,rfl⟩,q _ g2 ?_ λb o e=>vZ _ (vZ _ e)⟩;cases k<;>exact⟨_,g1,rfl,rfl⟩
theorem Nc (hA:A.handled=none)(it l:Addr)(lJ:l≠it)(items:Array Value):Draws prog w A it [it,l] items.size (λi v=>items[i]? = some v) (λi h=>Bw k h it l i/\zL k h l items) where
 live:=λi h st=>let ⟨o,e,_⟩:=st.1.ob;⟨o,e⟩
 frame:=λi h h' st kk=>⟨st.1.upon λo e=>kk it (by simp) o e,st.2.upon λo e=>kk l (by simp) o e⟩
 item:=λi s Q E hi st q=>Dm st.1 st.2 (v:=items[i]) (by simp[hi]) λh' lH sb=>q _ h' s.toks (by simp[hi]) ⟨lH,st.2.upon λo e=>sb.extBut _ _ lJ e⟩ sb
 done:=λs Q E st q=>ye hA st.1 st.2 (by simp) q
theorem Nd (hA:A.handled=none)(it l:Addr)(items:Array Value)(n:Nat)(hn:items[n]? = none):Draws prog w A it [it,l] n (λ_ _=>True) (λi h=>(Bw k h it l i/\zL k h l items)/\i=n) where
 live:=λi h st=>let ⟨o,e,_⟩:=st.1.1.ob;⟨o,e⟩
 frame:=λi h h' st kk=>⟨⟨st.1.1.upon λo e=>kk it (by simp) o e,st.1.2.upon λo e=>kk l (by simp) o e⟩,st.2⟩
 item:=λi s Q E hi st q=>absurd st.2 (vS hi)
 done:=λs Q E st q=>ye hA st.1.1 st.1.2 hn q
end
noncomputable def Tn (K:PySem.W.Frag)(k:Bool)(a:Addr):It :=
  ⟨λi H=>∃xs x,Aw k K H a xs/\xs[i]? = some x,
   λi H v H'=>∃T x,v=.ref T/\H T=none/\H'=upd H T (.tup [.int i,x])/\∀xs,Aw k K H a xs->xs[i]? = some x,
   λi H=>∃xs,Aw k K H a xs/\xs.length<=i⟩
theorem Dp {P:Program}{w:World}{K:PySem.W.Frag}{es:List Expr}{kt:Nat}{pt:Pos}{k:Bool}{a e it:Addr}(Ul:e≠it)(Yj:a≠e)(Yk:a≠it):
  Turn P w K (.Tuple es kt pt) (Tn K k a) [e,it] e (λi h=>(∃OH,IsEnum h e it i OH)/\Bw k h it a i) where
 mem:=by simp
 obj:=λi h st b hb=>by
  obtain⟨⟨OH,he⟩,t1⟩:=st;simp at hb;rcases hb with rfl|rfl
  ·exact⟨_,he,λv z=>by cases z⟩
  ·exact t1.ob
 keep:=λi h h' st kk=>by
  obtain⟨⟨OH,he⟩,t1⟩:=st;exact⟨⟨OH,kk e (by simp) _ he⟩,t1.upon λo q=>kk it (by simp) o q⟩
 item:=by
  intro X hP hw hK hc i af s σ H E I hf st hg;subst hP hw hK;obtain⟨⟨OH,he⟩,t1⟩:=st;obtain⟨xs,x,q1,hx⟩:=hg;obtain⟨its,r1,p1,z1⟩:=q1.vals I;obtain⟨u,hu,ru⟩:=r1.get hx;have fresh:H s.heap.objs.size=none:=I.hok.fresh (vT _);have Yl:i<its.toArray.size:=by rw[vH];exact(vV hu).1
  have Em:e≠s.heap.objs.size:=vS (vX he);have Sk:it≠s.heap.objs.size:=by obtain⟨o,q,_⟩:=t1.ob;exact vS (vX q)
  refine wpAny_pyNext_enum_itemD (Nc (A:=X.A.in1) (I.ok.hd hc) it a Yk its.toArray) he ⟨t1,p1⟩ Yl Ul (by simp[Ul,Yj.symm]) λv h' tk hv ho lH hT hsz hk=>?_;have ev:v=u:=by
   have Wd:its[i]? = some v:=by simpa using hv
   rw[hu]at Wd;exact(vK Wd).symm
  subst ev;refine⟨_,rfl,wpAny_letOwnedTupleGo_enum (s:={ s with heap:=h',toks:=tk+1 }) ho λh2 OI s2=>?_⟩;have OJ:Heap.SameBut e h' h2:=s2;have kk:∀b o,b∉[e,it]->s.heap.get? b=some o->h2.get? b=some o:=λb o hb q=>OJ.extBut _ _ (λz=>hb (by simp[z])) (hk b o (λz=>hb (by simp[z])) (λz=>hb (by simp[z])) q);have new:bU X.prog X.w (upd H s.heap.objs.size (.tup [.int i,x])) h2 s.heap.objs.size (.tup [.int i,x]):=⟨by show 2<=sizeLine;decide,[.int i tk,v],.cons ⟨tk,rfl⟩ (.cons ru .nil),⟨_,OJ.extBut _ _ Em.symm hT,rfl,_,rfl⟩⟩;refine⟨.ref s.heap.objs.size,upd H s.heap.objs.size (.tup [.int i,x]),Li (s:=s) (t':=tk+1) I hf kk (vT _) new,rfl,⟨_,x,rfl,fresh,rfl,λzs hq=>by rw[Aw.inj I hq q1];exact hx⟩,?_,λb hb=>?_⟩
  ·exact⟨⟨_,by have:=OI;rw[show((i:Int)+1)=((i+1:Nat):Int) by omega]at this;exact this⟩,lH.1.upon λo q=>OJ.extBut _ _ Ul.symm q⟩
  ·have lJ:b≠s.heap.objs.size:=by
    simp at hb;rcases hb with rfl|rfl
    ·exact Em
    ·exact Sk
   rw[aL lJ];exact(hf b hb).1
 done:=by
  intro X hP hw hK hc i af s σ H E I hf st hg;subst hP hw hK;obtain⟨⟨OH,he⟩,t1⟩:=st;obtain⟨xs,q1,hl⟩:=hg;obtain⟨its,r1,p1,z1⟩:=q1.vals I;have n1:=r1.length;refine wpAny_pyNext_enum_endD (Nd (A:=X.A.in1) (I.ok.hd hc) it a its.toArray i (by simp;omega)) he ⟨⟨t1,p1⟩,rfl⟩ λh' hk=>⟨rfl,?_⟩;exact pJ (t':=s.toks) I hf λb o hb q=>hk b o (λz=>hb (by simp[z])) q
 self:=λ_ _ _ _ _ st h=>let ⟨⟨_,he⟩,_⟩:=st;wpAny_pyIter_enum he h
section
variable {X:Cx}{a b e:Expr}{pos:Pos}{p:Pos}
theorem yg:bootBuiltins "enumerate" = some (.type "enumerate"):=by decide +kernel
noncomputable def tN (ds:List D):List D:=ds.mapIdx λi d=>.tup [.int i,d]
@[simp] def Fl (fa:FE):FA:=λρ=>(fa ρ).bind λx=>(gt x.1).map tN
theorem IT {K:PySem.W.Frag}{N:Hp}{k:Bool}{l:Addr}{vs:List V}{ds:List D}(h1:Aw k K N l vs)(i1:IsL K N vs ds):qd K (Tn K k l) N (tN ds):=by
 intro i H' sm;have n1:=i1.length;refine⟨λd ed=>?_,λhl=>⟨vs,h1.same sm,?_⟩⟩
 ·unfold tN at ed;rw[List.getElem?_mapIdx]at ed;obtain⟨x,e1,rfl⟩:=oY ed;obtain⟨v,ev,iv⟩:=i1.get e1;refine⟨⟨vs,v,h1.same sm,ev⟩,λr H2 hy=>?_⟩;obtain⟨T,v',rfl,hT,rfl,f1⟩:=hy;have e3:=f1 vs (h1.same sm);rw[ev]at e3;cases e3;have xt:=Ext.laid (o:=.tup [.int i,v]) sm hT;exact⟨_,xt,.tup (jm.of aH) (.cons (.int _) (.cons (iv.mono xt.bn) .nil))⟩
 ·unfold tN at hl;rw[List.length_mapIdx]at hl;omega
theorem IU {es:List Expr}{kt:Nat}{pt:Pos}{fa:FE}(hm:X.mg "enumerate" = none)(ha:JE X a fa)(hg:Gl X "enumerate":=by rfl)(hs:starEach [a] X.env=[(false,eval a X.env)]:=by rfl):
  JI X (.Tuple es kt pt) (.Call (.Name "enumerate" p) [a] [] pos) (Fl fa):=by
 intro af s σ H R I q;refine Call_ (lM I hg hm yg (PyProof.Rows.callWith_type1 (cR (ag ha ak hs pos af s σ H (λvs H1=>∃(k:Bool)(l:Addr)(us:List V),vs=[.ref l]/\Aw k X.K H1 l us/\R (Tn X.K k l) H1) I ?_) λus s1 ⟨vs,H1,I1,r1,q1⟩=>?_) hs rfl))
 ·obtain⟨B,ρ,ds,sB,r,ee,q⟩:=q;obtain⟨x1,ex,ee⟩:=oX ee;obtain⟨xs,Ym,ee⟩:=oY ee;subst ee;refine⟨B,ρ,[x1.1],sB,r,by simp[ae,ai,ex],λvs H1 N1 xt i1=>?_⟩;cases i1 with
  |cons j1 j2=>
   cases j2
   obtain⟨k1,l1,us,rfl,s1,m1⟩:=Ql j1 Ym;exact⟨k1,l1,us,rfl,s1.same xt.nh,q _ H1 N1 xt (IT s1 m1)⟩
 ·obtain⟨k,l,ws,rfl,h1,q⟩:=q1;obtain⟨u1,rfl,Yn⟩:=r1.one;cases Yn
  obtain⟨its,v1,p1,z1⟩:=h1.vals I1;have RU:=p1.lt;refine Fk p1 λh' c1 c2 ck=>?_;refine wpAny_pyIter_enum c1 ⟨s1.heap.objs.size+1,[s1.heap.objs.size+1,s1.heap.objs.size],_,_,H1,rfl,I1.kept (t':=s1.toks) ck,
   Dp (Nat.succ_ne_self _) (vS (Nat.lt_succ_of_lt RU)) (vS RU),⟨⟨_,c1⟩,c2⟩,λb hb=>?_,q⟩
  have Kn:s1.heap.objs.size<=b:=by
   simp at hb;rcases hb with rfl|rfl
   ·exact Nat.le_succ _
   ·exact vT _
  exact I1.fpOk Kn (I1.hok.fresh Kn)
end
end DL
namespace DL
open PySem PySem.Spec PyProof.Rows
theorem Dq (t:SetTable)(es:Array (Int×Value))(n:Nat):(relayAll t es n).2.1.led=t.led:=by
 unfold relayAll;split
 ·rename_i t' order h;unfold SetTable.relaid SetTable.laid at h;obtain⟨ow,_,h⟩:=oX h;cases h
  dsimp only;split<;>rfl
 ·rfl
theorem yh (t:SetTable)(es:Array (Int×Value))(n:Nat)(hp:t.plain=false):(relayAll t es n).2.1.plain=false:=by
 unfold relayAll;split
 ·rename_i t' order h;unfold SetTable.relaid SetTable.laid at h;obtain⟨ow,_,h⟩:=oX h;cases h
  dsimp only;split
  ·exact hp
  ·rfl
 ·rfl
theorem IV (t:SetTable)(es:Array (Int×Value))(h:Int)(x:Value):(layNew t es h x).2.1.led=t.led:=by
 unfold layNew;split
 ·dsimp only[SetTable.put,SetTable.orStandIn];repeat' (first|rfl|split)
 ·rfl
structure TabT (w:World)(es:Array (Int×Value))(t:SetTable):Prop where
 fits:t.fits es.size=true
 led:t.led = !w.params.followText "set-order"
 plain:es.size≠0->t.plain=false
def jb (prog:Program)(w:World)(h:Heap)(a:Addr)(ts:List Str):Prop :=
 ∃o es ep t,h.get? a=some o/\o.ExactSet/\o.data=.set es ep t/\ElemsOf (PySem.strKind prog w) es.toList/\(es.toList.map (λe=>strOf e.2)).Perm ts/\ts.Nodup/\ts.length<scanBound/\TabT w es t
noncomputable def jJ (ts:List Str)(x:Str):List Str:=if x∈ts then ts else ts++[x]
theorem Fm (ts:List Str)(x:Str):(jJ ts x).length<=ts.length+1:=by unfold jJ;split<;>simp
theorem yi (h:Value.isStrOf k v=true):strOf v=k:=by obtain⟨t,rfl⟩:=Value.isStrOf_shape h;rfl
section
variable {prog:Program}{w:World}{A:Around}{E:Value->Shared->Prop}{s:Shared}
theorem tO {es:Array (Int×Value)}{ts:List Str}(Em:ElemsOf (PySem.strKind prog w) es.toList)(hp:(es.toList.map (λe=>strOf e.2)).Perm ts)(k:Str):k∈ts ↔ ∃e∈es.toList,(PySem.strKind prog w).is k e.2=true:=by
 rw[←hp.mem_iff,List.mem_map];constructor
 ·rintro⟨e,he,rfl⟩;obtain⟨⟨k',hk,_⟩,_⟩:=Em e he;have fD:Value.isStrOf k' e.2=true:=hk;refine⟨e,he,?_⟩;show Value.isStrOf (strOf e.2) e.2=true;rw[yi fD];exact fD
 ·rintro⟨e,he,hk⟩;exact⟨e,he,yi hk⟩
theorem tP {h:Heap}{a:Addr}{o:Obj}{es:Array (Int×Value)}{ep:Nat}{t:SetTable}(ho:h.get? a=some o)(hd:o.data=.set es ep t)(Ek:Array (Int×Value))(t':SetTable):
  (h.update a (Obj.putSet Ek t')).get? a=some { o with data:=.set Ek (ep+1) t' }:=by
 have:=Heap.get?_update_self (Obj.putSet Ek t') ho (by rw[putSet_of Ek t' hd];rfl);rw[putSet_of Ek t' hd]at this;exact this
theorem yj {g:Bool->Sem Unit}(hg:∀(b:Bool)(s₁:Shared)(Q':Unit->Shared->Prop),Q' () s₁->wpAny (model prog w) A (g b) Q' E s₁)
  {a:Addr}{o:Obj}{es:Array (Int×Value)}{ep:Nat}{t:SetTable}(ho:s.heap.get? a=some o) (Ko:o.ExactSet) (hd:o.data=.set es ep t)
  {nQ:Array (Int×Value)}{t2:SetTable}{ts:List Str}(Hg:ElemsOf (PySem.strKind prog w) nQ.toList) (OK:(nQ.toList.map (λe=>strOf e.2)).Perm ts) (nd:ts.Nodup)
  (hb1:ts.length<scanBound) (Yo:t2.fits nQ.size=true) (Ea:t2.led = !w.params.followText "set-order") (lx:t2.plain=false) {zB:Bool}{R:Option Bool->Shared->Prop}
  (h:∀h',Heap.SameBut a s.heap h'->jb prog w h' a ts->R (some true) { s with heap:=h' }):
  wpAny (model prog w) A (do
    storeSet a nQ t2
    if(!zB && t2.tooFull)=true then do
      g (relayAll t2 nQ (SetTable.grown nQ.size)).2.2
      storeSet a (relayAll t2 nQ (SetTable.grown nQ.size)).1 (relayAll t2 nQ (SetTable.grown nQ.size)).2.1
      pure (some true)
     else pure (some true)) R E s:=by
 have We:nQ.size=ts.length:=by rw[←OK.length_eq,vI,vG]
 refine wX (wpAny_storeSet_of ho hd ?_ (fits_of_scanBound (by rw[We];exact hb1)));have OL:=tP ho hd nQ t2;have QW:=vW s.heap a (Obj.putSet nQ t2);split
 ·have hp:=relayAll_perm t2 nQ (SetTable.grown nQ.size);have QX:=relayAll_fits t2 nQ (SetTable.grown nQ.size);have Kn:=Dq t2 nQ (SetTable.grown nQ.size);have Um:=yh t2 nQ (SetTable.grown nQ.size) lx;generalize hRl:relayAll t2 nQ (SetTable.grown nQ.size)=Rl at hp QX Kn Um ⊢;obtain⟨Sl,t3,Wf⟩:=Rl;dsimp only at hp QX Kn Um ⊢;have Uo:ElemsOf (PySem.strKind prog w) Sl.toList:=Hg.perm hp;have hsz:Sl.size=nQ.size:=by rw[←vG,hp.length_eq,vG]
  refine wX (hg _ _ _ ?_);refine wX (wpAny_storeSet_of OL rfl ?_ (fits_of_scanBound (by rw[hsz,We];exact hb1)));have Ke:=tP OL rfl Sl t3;exact wY (h _ (QW.trans (vW _ a _)) ⟨_,Sl,_,t3,Ke,Ko,rfl,Uo,(hp.map _).trans OK,nd,hb1,QX,Kn.trans Ea,λ_=>Um⟩)
 ·exact wY (h _ QW ⟨_,nQ,_,t2,OL,Ko,rfl,Hg,OK,nd,hb1,Yo,Ea,λ_=>lx⟩)
theorem Ay {a:Addr}{ts:List Str}{k:Str}{tk:Tok}{Q:Bool->Shared->Prop}(hS:jb prog w s.heap a ts)(Hh:ts.length+1<scanBound)
  (h:∀b h',Heap.SameBut a s.heap h'->jb prog w h' a (jJ ts k)->Q b { s with heap:=h' }):
  wpAny (model prog w) A (setAddHashed a (.str k tk) ((PySem.strKind prog w).hash k)) Q E s:=by
 have hS0:=hS;obtain⟨o,es,ep,t,ho,Ko,hd,Em,xg,nd,hb,hf,Kp,lx⟩:=hS;have DU:(PySem.strKind prog w).is k (.str k tk)=true:=strKind_is prog w k tk;have sz:es.size=ts.length:=by rw[←xg.length_eq,vI,vG]
 unfold setAddHashed setAddHashedIn;refine wpAny_holding (wX (wpAny_setState_of ho hd hf ?_));dsimp only;rw[byScan_of (x:=.str k tk) rfl (by rw[sz];exact hb) Em];simp only[↓reduceIte];unfold setAddByScan;refine wX ?_;refine wX (wpAny_rule ?_);refine wX (wpAny_setScan_of DU ho hd hf Em ?_);cases hr:List.findIdx? (λe=>(PySem.strKind prog w).is k e.2) es.toList with
 |some j=>
  dsimp only;obtain⟨hj,Yp,_⟩:=List.findIdx?_eq_some_iff_getElem.mp hr;have hm:k∈ts:=(tO Em xg k).mpr ⟨es.toList[j],List.getElem_mem hj,Yp⟩;refine wY (wY ?_);have e:jJ ts k=ts:=by unfold jJ;rw[if_pos hm]
  exact h false s.heap (Heap.SameBut.refl a s.heap) (by rw[e];exact hS0)
 |none=>
  dsimp only;have hm:k∉ts:=λz=>by
   obtain⟨e,he,hp⟩:=(tO Em xg k).mp z;have:=List.findIdx?_eq_none_iff.mp hr e he;rw[hp]at this;exact Bool.noConfusion this
  have ea:jJ ts k=ts++[k]:=by unfold jJ;rw[if_neg hm]
  have Yq:∀(b:Bool){s₁:Shared}{Q':Unit->Shared->Prop},Q' () s₁->wpAny (model prog w) A (match b with|true=>rule "set.scan.the-table-gave-way" | false=>pure ()) Q' E s₁ :=
   λb s₁ Q' hq=>by cases b<;>first|exact wY hq|exact wpAny_rule hq
  have gG:=layNew_perm t es ((PySem.strKind prog w).hash k) (.str k tk);have C8:=layNew_fits t es ((PySem.strKind prog w).hash k) (.str k tk);have HC:=IV t es ((PySem.strKind prog w).hash k) (.str k tk);generalize hL:layNew t es ((PySem.strKind prog w).hash k) (.str k tk)=L at gG C8 HC ⊢;obtain⟨nQ,t1,zB,Uq⟩:=L;dsimp only at gG C8 HC ⊢;rw[Array.toList_push]at gG;have Hg:ElemsOf (PySem.strKind prog w) nQ.toList:=(Em.push DU rfl).perm gG;have OK:(nQ.toList.map (λe=>strOf e.2)).Perm (ts++[k]):=(gG.map _).trans (by rw[uW];exact xg.append_right _);have Wg:(ts++[k]).Nodup:=by
   rw[List.nodup_append];refine⟨nd,by simp,λx hx y hy=>?_⟩;rw[List.mem_singleton]at hy;subst hy;exact λz=>hm (z ▸ hx)
  have hb1:(ts++[k]).length<scanBound:=by rw[uZ];exact Hh
  refine wX (Yq _ ?_);have QY:∀h',Heap.SameBut a s.heap h'->jb prog w h' a (ts++[k])->Q true { s with heap:=h' }:=λh' hsb Hi=>h true h' hsb (by rw[ea];exact Hi);split
  ·refine wX ?_;rw[hashByValue_scannable 8 (x:=.str k tk) rfl];refine wY ?_;refine yj ?_ ho Ko hd Hg OK Wg hb1 ?_ ?_ ?_ ?_
   ·intro b s₁ Q' hq;cases b<;>first|exact wY hq|exact wpAny_rule hq
   ·exact SetTable.fits_plain_off C8
   ·exact HC.trans Kp
   ·rfl
   ·intro h' hsb Hi;dsimp only;exact wY (QY h' hsb Hi)
  ·rename_i OM;refine wX (wY ?_);simp only[↓reduceIte];refine yj ?_ ho Ko hd Hg OK Wg hb1 C8 (HC.trans Kp) (by simpa using OM) ?_
   ·intro b s₁ Q' hq;cases b<;>first|exact wY hq|exact wpAny_rule hq
   ·intro h' hsb Hi;dsimp only;exact wY (QY h' hsb Hi)
end
noncomputable def ie (ss:List Str):List Str:=ss.foldl jJ []
theorem Az (h:ts.Nodup)(x:Str):(jJ ts x).Nodup:=by
 unfold jJ;split
 ·exact h
 ·rename_i hm;rw[List.nodup_append];refine⟨h,by simp,λy hy z hz=>?_⟩;rw[List.mem_singleton]at hz;subst hz;exact λe=>hm (e ▸ hy)
theorem ql:y∈jJ ts x↔y∈ts∨y=x:=by
 unfold jJ;split
 ·rename_i hm;exact⟨.inl,λz=>z.elim id λe=>e ▸ hm⟩
 ·simp
theorem wt (ss:List Str):∀ts:List Str,(ss.foldl jJ ts).length<=ts.length+ss.length:=by
 induction ss with
 |nil=>intro ts;simp
 |cons x r ih=>intro ts;rw[List.foldl_cons];have:=ih (jJ ts x);have:=Fm ts x;simp only[vE];omega
theorem mB (ss:List Str):(ie ss).length<=ss.length:=by have:=wt ss [];simpa [ie]using this
theorem Dr (ss:List Str)(x:Str):ie (ss++[x])=jJ (ie ss) x:=by unfold ie;rw[List.foldl_append];rfl
theorem StrsAre.at:∀ {vs:List Value}{ss:List Str},StrsAre vs ss->∀(i:Nat)(v:Value),vs[i]? = some v->∃x t,v=.str x t/\ss[i]? = some x
 |_,_,.nil,i,v,h=>by simp at h
 |_,_,.cons x t hr,0,v,h=>by simp at h;exact⟨x,t,h.symm,rfl⟩
 |_,_,.cons x t hr,i+1,v,h=>by
  simp only[List.getElem?_cons_succ]at h;exact StrsAre.at hr i v h
theorem jb.at (x:jb prog w h a ts)(k:∀o,h.get? a=some o->h'.get? a=some o):jb prog w h' a ts:=by
 obtain⟨o,es,ep,t,ho,r⟩:=x;exact⟨o,es,ep,t,k o ho,r⟩
section
variable {prog:Program}{w:World}{A:Around}{R:Result->Shared->Prop}{I:Addr}{fp wr:List Addr}{G:Array GenState->Array GenState->Prop}{n:Nat}{P:Nat->Value->Prop}{St:Nat->Shared->Prop}
theorem wu (W:WalksS prog w A.in1 I fp wr G n P St)(S:Addr)(NX:S∉fp)(ss:List Str)(hn:ss.length=n)
  (NY:∀i v,P i v->∃x t,v=.str x t/\ss[i]? = some x) (hb:n+1<scanBound):
  ∀(k i:Nat)(s:Shared),n - i=k->i<=n->St i s->jb prog w s.heap S (ie (ss.take i)) ->
   (∀s',Moved (S::wr) G s s'->jb prog w s'.heap S (ie ss)->R (.ok (.ret .none)) s') ->
   codeAny (model prog w) A (.builtin "set.update.loop" ⟨[.ref S,.ref I],[]⟩) R s:=by
 have Wh:S∉wr:=λh=>NX (W.sub _ h);have Hf:∀b∈wr,b∈S::wr:=λb hb=>mZ _ hb;intro k;induction k with
 |zero=>
  intro i s hk hi nO hS hR;have Kq:i=n:=by omega
  subst Kq;refine codeAny_builtin PyProof.Rows.F.entry_set_update_loop ?_;rw[Around.under_plainId PyProof.Rows.F.plain_set_update_loop _];show wpAny _ A.in1 (pyNext (.ref I)>>=_) _ _ s;refine wX (W.done s _ _ nO λs' hm=>?_);show wpAny _ A.in1 (ret Value.none) _ _ s';refine wY (hR s' (hm.mono Hf) ?_);rw[List.take_of_length_le (by omega)]at hS;exact hS.at λo e=>hm.heap S _ Wh e
 |succ k ih=>
  intro i s hk hi nO hS hR;have fT:i<n:=by omega
  refine codeAny_builtin PyProof.Rows.F.entry_set_update_loop ?_;rw[Around.under_plainId PyProof.Rows.F.plain_set_update_loop _];show wpAny _ A.in1 (pyNext (.ref I)>>=_) _ _ s;refine wX (W.item i s _ _ fT nO λv s' hP hst' hm=>?_);obtain⟨x,t,rfl,hx⟩:=NY i v hP;have Hi:jb prog w s'.heap S (ie (ss.take i)):=hS.at λo e=>hm.heap S _ Wh e;show wpAny _ A.in1 (holding [Value.str x t] (setAdd S (.str x t))>>=_) _ _ s';refine wX (wpAny_holding ?_);unfold setAdd;refine wpAny_holding ?_;refine wX ((PySem.strKind prog w).pyHash (k:=x) (strKind_is prog w x t) ?_);have hl:(ie (ss.take i)).length+1<scanBound:=by have:=mB (ss.take i);rw[List.length_take]at this;omega
  refine Ay (s:={ s' with toks:=s'.toks+1 }) Hi hl λb h' hsb QZ=>?_;have Yr:jb prog w h' S (ie (ss.take (i+1))):=by
   rw[List.take_add_one,hx,Option.toList_some,Dr];exact QZ
  refine wY ⟨plainId_quiet PyProof.Rows.F.plain_set_update_loop _,ih (i+1) _ (by omega) fT (W.frame _ s' _ _ hst' (Nat.le_succ _) λb hb o e=>?_) Yr λsT hm'' hS''=>?_⟩
  ·rw[hsb.2 b (λh:b=S=>NX (by rw[←h];exact hb))];exact e
  ·refine hR sT (Moved.trans W.gtrans ((hm.mono Hf).then_heap (Nat.le_succ _) λb o hb e=>?_) hm'') hS'';rw[hsb.2 b (λh:b=S=>hb (by rw[h];exact mX))];exact e
end
section
variable {prog:Program}{w:World}{A:Around}{E:Value->Shared->Prop}{s:Shared}
noncomputable abbrev eV (w:World):Obj:={ cls:=.type "set",dict:=none,data:=.set #[] 0 (.fresh 0 0 (!w.params.followText "set-order")) }
theorem yk (a:Value) 
  (h:Q₁ (.ref s.heap.objs.size) { s with heap:=s.heap.push (eV w) }):
  codeAny (model prog w) A (.call (.builtin "set.__new__") ⟨[.type "set",a],[]⟩) (wants Q₁ E) s:=by
 refine codeAny_of_tree ?_;show wpAny _ A.in1 (do checkBuiltinCall "set.__new__" ⟨[.type "set",a],[]⟩;again (.builtin "set.__new__" ⟨[.type "set",a],[]⟩)) _ _ s;refine wX (wpAny_of_eq (PySem.F.newCall_set_1 a) (wY ⟨plainId_quiet PySem.F.plain_set_new _,codeAny_builtin PySem.F.entry_set_new ?_⟩));rw[Around.under_plainId PySem.F.plain_set_new _];unfold Builtin.«set.__new__» Builtin.Frozenset.newClass;have Hf:=sub_set_self;obtain⟨hp,g,d,tk,os⟩:=s;dsimp only;wp_walk;refine wpAny_askSetting (wY ?_);dsimp only;simp only[newObj];refine wX (wpAny_alloc (wY ?_));exact wY h
set_option maxHeartbeats 3200000 in
theorem qm 
  (hh:A.handled=none) (hl:s.heap.IsList l items) (hi:StrsAre items.toList ss) (hb:items.size+1<scanBound)
  (h:∀(h':Heap)(tk:Nat),jb prog w h' s.heap.objs.size (ie ss) ->
   (∀b o,b<s.heap.objs.size->s.heap.get? b=some o->h'.get? b=some o)->Q (.ref s.heap.objs.size) { s with heap:=h',toks:=tk }):
  wpAny (model prog w) A (call (.type "set") [.ref l]) Q E s:=by
 obtain⟨c,tl,Ys⟩:=PySem.F.called_set.mro;have Wi:=PySem.F.called_set.made;have Hf:=PySem.F.called_set.sub;refine wpAny_call (codeAny_of_tree ?_);show wpAny _ _ (callAny (.type "set") _) _ _ _;refine wY ⟨Code.quiet_builtin _ (by decide +kernel),codeAny_builtin PySem.F.entry_type_call ?_⟩;rw[Around.under_plain (weight_type_call_type "set" [.ref l] []) rfl];have h1:=PySem.F.called_set.notType;have h2:=PySem.F.called_set.canCreate;have ZI:=PySem.F.typeCall_set_1 (.ref l);have bR:ss.length=items.size:=by have:=hi.strs;rw[←this,vI,vG]
 repeat (any_goals (first|assumption|wp_step))
 refine codeAny_mono (yk (.ref l) (E:=E) (Q₁:=λobj s₁=>obj=.ref s.heap.objs.size/\s₁={ s with heap:=s.heap.push (eV w) }) ⟨rfl,rfl⟩) λr s₁ hr=>?_;cases r with
 |error e=>exact hr
 |ok fl=>
  cases fl with
  |ret obj=>
   obtain⟨rfl,rfl⟩:=hr;have hS:(s.heap.push (eV w)).get? s.heap.objs.size=some (eV w):=vY _ rfl;have hT:Shared.TypeIs { s with heap:=s.heap.push (eV w) } (.ref s.heap.objs.size) "set":=⟨_,hS,rfl⟩;have ZJ:=PySem.F.called_set.init.lookup;have ZK:=PySem.F.called_set.init.bind (.ref s.heap.objs.size);repeat (any_goals (first|assumption|wp_step))
   refine codeAny_mono (codeAny_call_builtin (R:=wants (λr s₂=>r=.none/\∃h' tk,s₂={ s with heap:=h',toks:=tk } /\
     jb prog w h' s.heap.objs.size (ie ss) /\
     (∀b o,b<s.heap.objs.size->s.heap.get? b=some o->h'.get? b=some o)) E) PySem.F.called_set.init.plain PySem.F.entry_set_init (check_set_init_1 hT ?_)) λr₂ s₂ hr₂=>?_
   ·obtain⟨ol,Kr,oB,nl,LB⟩:=hl;obtain⟨Yt,Ra,Wj,NZ⟩:=ol;simp only at oB LB;subst oB;subst LB;have Us:(s.heap.push (eV w)).get? l=some { cls:=.type "list",dict:=Ra,data:=.seq items nl,slots:=NZ }:=vZ _ Kr;have Yu:=PySem.F.sub_list_set;have Yv:=PySem.F.sub_list_frozenset;have lJ:(Value.type "list" == Value.type "dict")=false:=by decide
    have HC:(s.heap.push (eV w)).IsList l items:=⟨_,Us,rfl,nl,rfl⟩;unfold Builtin.«set.__init__» noKeywords Builtin.Frozenset.updateFrom;generalize hPI:pyIter=PI;wp_walk;subst hPI;refine wpAny_pyIter_list HC ?_;refine wX (wpAny_runValue ?_);have Wk:l<s.heap.objs.size:=vX Kr;have Yw:A.in1.in1.in1.handled=none:=by simp[hh]
    have Ut:l≠(s.heap.push (eV w)).objs.size:=by
     rw[Heap.size_push];exact vS (Nat.lt_succ_of_lt Wk)
    have NX:s.heap.objs.size∉[(s.heap.push (eV w)).objs.size,l]:=by
     rw[Heap.size_push];simp only[List.mem_cons,List.mem_singleton,List.not_mem_nil,or_false,not_or];exact⟨vS (Nat.lt_succ_self _),Nat.ne_of_gt Wk⟩
    have NY:∀(i:Nat)(v:Value),items[i]? = some v->∃x t,v=.str x t/\ss[i]? = some x:=λi v hv=>
     StrsAre.at hi i v (by rw[Array.getElem?_toList];exact hv)
    refine wu ((Walks.list Yw _ l Ut items).toS) s.heap.objs.size
     NX ss bR NY hb (items.size - 0) 0 _ (by omega) (uN _)
     ⟨⟨_,vY _ rfl,rfl,rfl⟩,(HC.push _)⟩ ?hS0 ?hR
    case hS0=>
     have Uu:((s.heap.push (eV w)).push { cls:=.type "list_iterator",data:=.fields #[.ref l,.int 0 0] }).get? s.heap.objs.size
       = some (eV w):=vZ _ hS
     exact⟨_,#[],0,_,Uu,⟨rfl,rfl,rfl⟩,rfl,λe he=>by simp at he,List.Perm.refl _,List.nodup_nil,(by show(0:Nat)<scanBound;decide),rfl,rfl,λz=>absurd rfl z⟩
    case hR=>
     intro s' hm Hi
     obtain⟨h',g',d',C9,TM⟩:=s'
     have eg:g'=s.gens:=hm.gens
     have ed:d'=s.drawn:=hm.drawn
     have eo:TM=s.os:=hm.os
     subst eg;subst ed;subst eo
     show wpAny _ _ _ _ _ _
     refine wY ?_
     show wpAny _ _ (ret Value.none) _ _ _
     refine wY ⟨rfl,h',C9,rfl,Hi,λb o hb e=>?_⟩
     have hb1:b≠s.heap.objs.size:=vS hb
     have Yx:b≠(s.heap.push (eV w)).objs.size:=by
      rw[Heap.size_push];exact vS (Nat.lt_succ_of_lt hb)
     exact hm.heap b o (by simp only[List.mem_cons,List.mem_singleton,List.not_mem_nil,or_false,not_or];exact⟨hb1,Yx⟩) (vZ _ (vZ _ e))
   ·cases r₂ with
    |error e=>exact hr₂
    |ok fl₂=>
     cases fl₂ with
     |ret r=>
      obtain⟨rfl,h',tk,rfl,Hi,fD⟩:=hr₂;repeat (any_goals (first|assumption|wp_step))
      exact h _ _ Hi fD
     |_=>exact hr₂.elim
  |_=>exact hr.elim
end
open Sem (wp)
section
variable {M:Model}{A:Around}{E:Value->Shared->Prop}{s:Shared}
theorem IW (hn:n≠0)(h:∀k d,k<n->Q k { s with drawn:=d }):wpAny M A (choose src n) Q E s:=by
 intro Γ p hG;unfold choose;rw[Sem.wp_choose];refine⟨hn,?_⟩;have:=h _ (s.drawn.bump src) (Nat.mod_lt (M.w.draws src (s.drawn.get src)) (Nat.pos_of_ne_zero hn));simpa using this
end
theorem mC {α:Type}:∀(l:List α)(i:Nat),i<l.length->(l.eraseIdx i).length=l.length - 1:=λl i h=>by rw[List.length_eraseIdx,if_pos h]
theorem lO {α:Type}:∀(l:List α)(i:Nat)(x:α),l[i]? = some x->(x::l.eraseIdx i).Perm l
 |[],i,x,h=>by simp at h
 |a::l,0,x,h=>by simp at h;subst h;exact List.Perm.refl _
 |a::l,i+1,x,h=>by
  rw[List.eraseIdx_cons_succ];simp only[List.getElem?_cons_succ]at h;exact(List.Perm.swap a x _).trans ((lO l i x h).cons a)
theorem Bz {α:Type}:∀(n:Nat)(xs:List α)(s:Shared)(Q:List α->Shared->Prop),xs.length=n->(∀ys d,ys.Perm xs->Q ys { s with drawn:=d })->wpAny M A (drawOrder n xs) Q E s
 |0,xs,s,Q,hl,h=>by
  have:xs=[]:=List.eq_nil_of_length_eq_zero hl;subst this;exact wY (h [] s.drawn (List.Perm.refl _))
 |n+1,[],s,Q,hl,h=>by simp at hl
 |n+1,x::r,s,Q,hl,h=>by
  show wpAny M A (choose .order (x::r).length>>=λi=>match (x::r)[i]? with
   |some x'=>(do return x'::(←drawOrder n ((x::r).eraseIdx i)))
   |none=>unsupported "internal:drawOrder") Q E s
  refine wX (IW (by simp) λk d hk=>?_);obtain⟨y,hy⟩:∃y,(x::r)[k]? = some y:=⟨_,vU hk⟩;rw[hy];refine wX (Bz n _ _ _ (by rw[mC _ _ hk,hl];rfl) λys d' hp=>wY (h _ _ ((hp.cons y).trans (lO _ _ _ hy))))
theorem B1 {α:Type}(next:Nat->Nat):∀(fuel k:Nat)(left:List α)(out:Array α),left.length=fuel->(pickOrder.go next fuel k left out).toList.Perm (out.toList++left)
 |0,k,left,out,hl=>by
  have:left=[]:=List.eq_nil_of_length_eq_zero hl;subst this;unfold pickOrder.go;simp
 |fuel+1,k,left,out,hl=>by
  unfold pickOrder.go;have hk:next k % left.length<left.length:=Nat.mod_lt _ (by omega);obtain⟨y,hy⟩:∃y,left[next k % left.length]? = some y:=⟨_,vU hk⟩;rw[hy];dsimp only;refine(B1 next fuel (k+1) _ _ (by rw[mC _ _ hk];omega)).trans ?_;rw[Array.toList_push,List.append_assoc];exact(lO _ _ _ hy).append_left _
theorem Ds {α:Type}(next:Nat->Nat)(xs:Array α):(pickOrder next xs).toList.Perm xs.toList:=by
 have:=B1 next xs.size 0 xs.toList #[] (by simp);simpa [pickOrder]using this
theorem bF:Slot "set_iterator" "__next__" "set_iterator.__next__" :=
 .of (owner:="set_iterator") (n:="__next__") (by rw[typeLookup_type,builtinLookup_eq_fast];kernel_rfl) (by decide +kernel) (by decide +kernel) (by decide +kernel)
  (by first|exact .inl (by decide +kernel)|exact .inr (by decide +kernel)) (by rw[isSubtype_type];kernel_rfl)
theorem fH:entryFor table "set_iterator.__next__" = some Builtin.«set_iterator.__next__»:=entryFor_of_tree (by kernel_rfl)
theorem gn (a:Value):argsOk "set_iterator.__next__" ⟨[a],[]⟩:=by unfold argsOk;kernel_rfl
theorem l8:Slot "set_iterator" "__iter__" "set_iterator.__iter__" :=
 .of (owner:="set_iterator") (n:="__iter__") (by rw[typeLookup_type,builtinLookup_eq_fast];kernel_rfl) (by decide +kernel) (by decide +kernel) (by decide +kernel)
  (by first|exact .inl (by decide +kernel)|exact .inr (by decide +kernel)) (by rw[isSubtype_type];kernel_rfl)
theorem qo:entryFor table "set_iterator.__iter__" = some Builtin.«dict_keyiterator.__iter__» :=
 entryFor_alias (id':="dict_keyiterator.__iter__") (by kernel_rfl) rfl (by decide +kernel) (by kernel_rfl)
theorem sI (a:Value):argsOk "set_iterator.__iter__" ⟨[a],[]⟩:=by unfold argsOk;kernel_rfl
theorem p8:entryFor table "set.__iter__" = some Builtin.«frozenset.__iter__» :=
 entryFor_alias (id':="frozenset.__iter__") (by kernel_rfl) rfl (by decide +kernel) (by kernel_rfl)
noncomputable abbrev lP (fst:Value)(i:Nat)(S:Addr)(n ep:Nat):Obj:={ cls:=.type "set_iterator",data:=.fields #[fst,.int i 0,.ref S,.int n 0,.int ep 0] }
section
variable {prog:Program}{w:World}{A:Around}{E:Value->Shared->Prop}{s:Shared}{it S:Addr}{i ep:Nat}{o:Obj}{es:Array (Int×Value)}{t:SetTable}
theorem dS (ho:s.heap.get? it=some (lP fst i S n ep)):s.TypeIs (.ref it) "set_iterator":=⟨_,ho,rfl⟩
theorem ww {k k':Nat}{x:Value}{Q:Option Value->Shared->Prop}(ho:s.heap.get? it=some (lP (.int k 0) i S es.size ep))
  (hS:s.heap.get? S=some o) (hd:o.data=.set es ep t) (hf:t.fits es.size=true)
  (hN:∀(A':Around)(E':Value->Shared->Prop)(Q':Option (Value×Nat)->Shared->Prop),Q' (some (x,k')) s->wpAny (model prog w) A' (setNext S k i ep) Q' E' s)
  (hQ:∀h',h'.get? it=some (lP (.int k' 0) (i+1) S es.size ep)->Heap.SameBut it s.heap h'->Q (some x) { s with heap:=h' }):
  wpAny (model prog w) A (pyNext (.ref it)) Q E s:=by
 unfold pyNext;refine wX (wpAny_attempt (wpAny_callSpecial?_slot (name:=Str.ofString "__next__") (dS ho) bF
  (wpAny_call_entry bF (dS ho) fH ?_ (gn _))))
 show wpAny _ _ (fieldsOf (.ref it)>>=_) _ _ s;refine wX (wpAny_fieldsOf ho rfl ?_);show wpAny _ _ (setEntries S>>=_) _ _ s;refine wX (wpAny_setEntries_of hS hd hf ?_);rw[if_neg (by simp)];show wpAny _ _ (setNext S _ _ _>>=_) _ _ s;simp only[Int.toNat_natCast];refine wX (hN _ _ _ ?_);dsimp only;refine wX (wpAny_setField_rec ho (by simp) λh1 e1 b1=>?_);refine wX (wpAny_setField_rec e1 (by simp) λh2 e2 b2=>?_);exact wY ⟨x,rfl,wY (hQ h2 (by simpa [rawInt,lP]using e2) (b1.trans b2))⟩
theorem wx {k:Nat}{Q:Option Value->Shared->Prop}(hh:A.handled=none)(ho:s.heap.get? it=some (lP (.int k 0) i S es.size ep))
  (hS:s.heap.get? S=some o) (hd:o.data=.set es ep t) (hf:t.fits es.size=true)
  (hN:∀(A':Around)(E':Value->Shared->Prop)(Q':Option (Value×Nat)->Shared->Prop),Q' none s->wpAny (model prog w) A' (setNext S k i ep) Q' E' s)
  (hQ:∀h',Heap.ExtBut it s.heap h'->Q none { s with heap:=h' }):
  wpAny (model prog w) A (pyNext (.ref it)) Q E s:=by
 unfold pyNext;refine wX (wpAny_attempt (wpAny_callSpecial?_slot (name:=Str.ofString "__next__") (dS ho) bF
  (wpAny_call_entry bF (dS ho) fH ?_ (gn _))))
 show wpAny _ _ (fieldsOf (.ref it)>>=_) _ _ s;refine wX (wpAny_fieldsOf ho rfl ?_);show wpAny _ _ (setEntries S>>=_) _ _ s;refine wX (wpAny_setEntries_of hS hd hf ?_);rw[if_neg (by simp)];show wpAny _ _ (setNext S _ _ _>>=_) _ _ s;simp only[Int.toNat_natCast];refine wX (hN _ _ _ ?_);dsimp only;refine wX (wpAny_setField_rec ho (by simp) λh1 e1 b1=>?_);refine wX ?_;simp only[newExc,newTuple];refine wX (wpAny_newObj_type ?_ (by size_fits));refine wX (m:=firstArgMember _ _) (wpAny_of_eq (a:=Value.none) (by first|rfl|(simp only[firstArgMember];rfl)) ?_);refine wpAny_newObj_type ?_ (by size_fits);simp only[raiseNew];refine wX (wpAny_handled ?_);rw[show A.in1.handled=none from hh];refine wX (wY (wpAny_throw ?_));refine wX (wpAny_isInstance (T:="StopIteration") (b:=true) ⟨_,vY _ rfl,rfl⟩ isSubtype_stop ?_);exact wY (hQ _ ((b1.extBut.push _).push _))
theorem sJ {T:Addr}{pl:List Nat}{p:Nat}{x:Int×Value}{nt:Nat}{Q:Option Value->Shared->Prop}(ho:s.heap.get? it=some (lP (.ref T) i S es.size ep))
  (hT:s.heap.get? T=some (seqObj "tuple" (pl.map λ(p:Nat)=>Value.int p 0).toArray nt))
  (hS:s.heap.get? S=some o) (hd:o.data=.set es ep t) (hf:t.fits es.size=true) (hp:pl[i]? = some p) (hx:es[p]? = some x)
  (hQ:∀h',h'.get? it=some (lP (.ref T) (i+1) S es.size ep)->Heap.SameBut it s.heap h'->Q (some x.2) { s with heap:=h' }):
  wpAny (model prog w) A (pyNext (.ref it)) Q E s:=by
 unfold pyNext;refine wX (wpAny_attempt (wpAny_callSpecial?_slot (name:=Str.ofString "__next__") (dS ho) bF
  (wpAny_call_entry bF (dS ho) fH ?_ (gn _))))
 show wpAny _ _ (fieldsOf (.ref it)>>=_) _ _ s;refine wX (wpAny_fieldsOf ho rfl ?_);show wpAny _ _ (setEntries S>>=_) _ _ s;refine wX (wpAny_setEntries_of hS hd hf ?_);rw[if_neg (by simp)];show wpAny _ _ (seqItems? (.ref T)>>=_) _ _ s;refine wX (wpAny_seqItems hT rfl ?_);have e1:(pl.map λ(p:Nat)=>Value.int p 0).toArray[(i:Int).toNat]? = some (.int p 0):=by simp[hp]
 dsimp only;rw[e1];dsimp only;have e2:wpAny (model prog w) A.in1 (setNextDrawn S (p:Int).toNat (ep:Int).toNat) (λy s'=>y=x.2/\s'=s) (λ_ _=>False) s:=by
  unfold setNextDrawn;refine wX (wpAny_setState_of hS hd hf ?_);dsimp only;rw[if_neg (by simp)];simp only[Int.toNat_natCast,hx];exact wY ⟨rfl,rfl⟩
 refine wX (wpAny_mono e2 (λy s' hy=>?_) λ_ _ z=>z.elim);obtain⟨rfl,rfl⟩:=hy;refine wX (wpAny_setField_rec ho (by simp) λh1 e1 b1=>?_);exact wY ⟨_,rfl,wY (hQ h1 (by simpa [rawInt,lP]using e1) b1)⟩
theorem sK {T:Addr}{pl:List Nat}{nt:Nat}{Q:Option Value->Shared->Prop}(hh:A.handled=none)(ho:s.heap.get? it=some (lP (.ref T) i S es.size ep))
  (hT:s.heap.get? T=some (seqObj "tuple" (pl.map λ(p:Nat)=>Value.int p 0).toArray nt))
  (hS:s.heap.get? S=some o) (hd:o.data=.set es ep t) (hf:t.fits es.size=true) (hp:pl[i]? = none)
  (hQ:∀h',Heap.ExtBut it s.heap h'->Q none { s with heap:=h' }):
  wpAny (model prog w) A (pyNext (.ref it)) Q E s:=by
 unfold pyNext;refine wX (wpAny_attempt (wpAny_callSpecial?_slot (name:=Str.ofString "__next__") (dS ho) bF
  (wpAny_call_entry bF (dS ho) fH ?_ (gn _))))
 show wpAny _ _ (fieldsOf (.ref it)>>=_) _ _ s;refine wX (wpAny_fieldsOf ho rfl ?_);show wpAny _ _ (setEntries S>>=_) _ _ s;refine wX (wpAny_setEntries_of hS hd hf ?_);rw[if_neg (by simp)];show wpAny _ _ (seqItems? (.ref T)>>=_) _ _ s;refine wX (wpAny_seqItems hT rfl ?_);have e1:(pl.map λ(p:Nat)=>Value.int p 0).toArray[(i:Int).toNat]? = none:=by simpa using hp
 dsimp only;rw[e1];dsimp only;refine wX (wpAny_setField_rec ho (by simp) λh0 e0 b0=>?_);refine wX (wpAny_setField_rec e0 (by simp) λh1 e1 b1=>?_);refine wX ?_;simp only[newExc,newTuple];refine wX (wpAny_newObj_type ?_ (by size_fits));refine wX (m:=firstArgMember _ _) (wpAny_of_eq (a:=Value.none) (by first|rfl|(simp only[firstArgMember];rfl)) ?_);refine wpAny_newObj_type ?_ (by size_fits);simp only[raiseNew];refine wX (wpAny_handled ?_);rw[show A.in1.handled=none from hh];refine wX (wY (wpAny_throw ?_));refine wX (wpAny_isInstance (T:="StopIteration") (b:=true) ⟨_,vY _ rfl,rfl⟩ isSubtype_stop ?_);exact wY (hQ _ (((b0.trans b1).extBut.push _).push _))
theorem ym (ho:s.heap.get? it=some (lP fst i S n ep))(h:Q (.ref it) s):wpAny (model prog w) A (pyIter (.ref it)) Q E s:=by
 refine wpAny_pyIter_slot (dS ho) l8 (wpAny_call_entry l8 (dS ho) qo ?_ (sI _));show wpAny _ _ (ret (.ref it)) _ _ s;exact wY ⟨_,rfl,"set_iterator",_,dS ho,bF.lookup,h⟩
end
section
variable {prog:Program}{w:World}{A:Around}{E:Value->Shared->Prop}{s:Shared}{it S:Addr}{i k ep:Nat}{o:Obj}{es:Array (Int×Value)}{t:SetTable}
theorem tQ (hS:s.heap.get? S=some o)(hd:o.data=.set es ep t)(hf:t.fits es.size=true)(hb:w.params.followText "set-order" = true)
  (h:Q (((pickOrder (w.params.setOrder S ep) es)[i]?).map λe=>(e.2,k)) s):wpAny (model prog w) A (setNext S k i ep) Q E s:=by
 unfold setNext;refine wX (wpAny_setState_of hS hd hf ?_);dsimp only;unfold setsByText;refine wX (wX (wpAny_askSetting (wY ?_)));show wpAny _ _ (if w.params.followText "set-order" = true then _ else _) _ _ _;rw[if_pos hb,if_neg (by simp)];unfold setWalk setsByText;refine wX (wX (wpAny_setState_of hS hd hf ?_));dsimp only;refine wX (wX (wpAny_askSetting (wY ?_)));show wpAny _ _ (if w.params.followText "set-order" = true then _ else _) _ _ _;rw[if_pos hb];refine wX (wpAny_askSetting (wY ?_));exact wY h
theorem qp (hS:s.heap.get? S=some o)(hd:o.data=.set es ep t)(hf:t.fits es.size=true)(hb:w.params.followText "set-order" = false)(hl:t.led=true)(hz:es.size<=1)
  (h:Q (match es[SetTable.below t.place k]?,t.place[SetTable.below t.place k]? with
   |some (_,x),some j=>some (x,j+1)
   |_,_=>none) s):wpAny (model prog w) A (setNext S k i ep) Q E s:=by
 unfold setNext;refine wX (wpAny_setState_of hS hd hf ?_);dsimp only;unfold setsByText;refine wX (wX (wpAny_askSetting (wY ?_)));show wpAny _ _ (if w.params.followText "set-order" = true then _ else _) _ _ _;rw[if_neg (by rw[hb];simp)];show wpAny _ _ (if(!t.plain && decide (es.size > 1))=true then _ else _) _ _ _;rw[if_neg (by rw[decide_eq_false (by omega)];simp)];show wpAny _ _ ((if(!t.led && !es.isEmpty)=true then unsupported "set:maker-not-led" else pure ())>>=_) _ _ _;rw[hl,if_neg (by simp)];refine wX (wY ?_);exact wY h
theorem tR (hh:A.handled=none)(hd:o.data=.set es ep t)(hf:t.fits es.size=true)(lJ:S≠it)(vs:List Value)(hv:vs.length=es.size)(sl:Nat->Nat)
  (hN:∀i x,vs[i]? = some x->∀(A':Around)(E':Value->Shared->Prop)(s:Shared)(Q':Option (Value×Nat)->Shared->Prop),s.heap.get? S=some o->Q' (some (x,sl (i+1))) s->wpAny (model prog w) A' (setNext S (sl i) i ep) Q' E' s)
  (hE:∀(A':Around)(E':Value->Shared->Prop)(s:Shared)(Q':Option (Value×Nat)->Shared->Prop),s.heap.get? S=some o->Q' none s->wpAny (model prog w) A' (setNext S (sl es.size) es.size ep) Q' E' s):
  Walks prog w A it [it,S] [it] es.size (λi v=>vs[i]? = some v) (λi h=>h.get? it=some (lP (.int (sl i) 0) i S es.size ep)/\h.get? S=some o) where
 sub:=λb hb=>by simp at hb;simp[hb]
 frame:=λ_ _ _ st hk=>⟨hk it (by simp) _ st.1,hk S (by simp) _ st.2⟩
 item:=λi s Q E hi st hQ=>by
  obtain⟨x,hx⟩:∃x,vs[i]? = some x:=⟨_,vU (by omega)⟩;refine ww st.1 st.2 hd hf (λA' E' Q' q=>hN i x hx A' E' s Q' st.2 q) λh' h1 h2=>?_;exact hQ x h' s.toks hx ⟨h1,h2.extBut S _ lJ st.2⟩ λb u hb e=>h2.extBut b u (λz=>hb (by simp[z])) e
 done:=λs Q E st hQ=>wx hh st.1 st.2 hd hf (λA' E' Q' q=>hE A' E' s Q' st.2 q) λh' h1=>hQ h' s.toks λb u hb e=>h1 b u (λz=>hb (by simp[z])) e
 self:=λ_ _ _ _ st hQ=>ym st.1 hQ
theorem A0 {T:Addr}{pl:List Nat}{nt:Nat}(hh:A.handled=none)(hd:o.data=.set es ep t)(hf:t.fits es.size=true)(lJ:S≠it)(Yy:T≠it)(hp:pl.Perm (List.range es.size)):
  Walks prog w A it [it,S,T] [it] es.size (λi v=>(pl.map λp=>(es.getD p (0,.none)).2)[i]? = some v)
   (λi h=>h.get? it=some (lP (.ref T) i S es.size ep)/\h.get? S=some o/\h.get? T=some (seqObj "tuple" (pl.map λ(p:Nat)=>Value.int p 0).toArray nt)) where
 sub:=λb hb=>by simp at hb;simp[hb]
 frame:=λ_ _ _ st hk=>⟨hk it (by simp) _ st.1,hk S (by simp) _ st.2.1,hk T (by simp) _ st.2.2⟩
 item:=λi s Q E hi st hQ=>by
  have bR:pl.length=es.size:=by rw[hp.length_eq,List.length_range]
  obtain⟨p,hx⟩:∃p,pl[i]? = some p:=⟨_,vU (by omega)⟩;have Sm:p<es.size:=List.mem_range.mp (hp.mem_iff.mp (vL hx));have he:es[p]? = some (es.getD p (0,.none)):=by rw[Array.getD_eq_getD_getElem?,Array.getElem?_eq_getElem Sm];rfl
  refine sJ st.1 st.2.2 st.2.1 hd hf hx he λh' h1 h2=>?_;exact hQ _ h' s.toks (by simp[hx]) ⟨h1,h2.extBut S _ lJ st.2.1,h2.extBut T _ Yy st.2.2⟩ λb u hb e=>h2.extBut b u (λz=>hb (by simp[z])) e
 done:=λs Q E st hQ=>by
  have bR:pl.length=es.size:=by rw[hp.length_eq,List.length_range]
  exact sK hh st.1 st.2.2 st.2.1 hd hf (List.getElem?_eq_none (by omega)) λh' h1=>hQ h' s.toks λb u hb e=>h1 b u (λz=>hb (by simp[z])) e
 self:=λ_ _ _ _ st hQ=>ym st.1 hQ
end
theorem A1 {α:Type}(es:Array α)(d:α):(List.range es.size).map (λp=>es.getD p d)=es.toList:=by
 apply List.ext_getElem?;intro i;by_cases h:i<es.size
 ·simp[h,Array.getD_eq_getD_getElem?]
 ·simp[h]
section
variable {prog:Program}{w:World}{A:Around}{E:Value->Shared->Prop}{s:Shared}
theorem tT (h:xs=#[j]):SetTable.below xs k=if j<k then 1 else 0:=by
 subst h;by_cases h:j<k
 ·simp[SetTable.below,SetTable.below.go,h]
 ·simp[SetTable.below,SetTable.below.go,h]
theorem Fo {S:Addr}{ts:List Str}{Q:Value->Shared->Prop}(hS:jb prog w s.heap S ts)
  (hQ:∀(h':Heap)(d:Drawn)(it:Addr)(vs:List Value)(fp:List Addr)(St:Nat->Heap->Prop),(∀A',A'.handled=none->Walks prog w A' it fp [it] ts.length (λi v=>vs[i]? = some v) St)->St 0 h' ->
   (∀b u,s.heap.get? b=some u->h'.get? b=some u)->s.heap.objs.size<=it->(∀b∈fp,b=S∨s.heap.objs.size<=b)->vs.length=ts.length->(vs.map strOf).Perm ts->(∀v∈vs,∃x t,v=.str x t) ->
   Q (.ref it) { s with heap:=h',drawn:=d }):wpAny (model prog w) A (pyIter (.ref S)) Q E s:=by
 obtain⟨o,es,ep,t,ho,Ko,hd,Em,hp,nd,hb,hf,Kp,lx⟩:=hS;have sz:es.size=ts.length:=by rw[←hp.length_eq,vI,vG]
 have Oa:S<s.heap.objs.size:=vX ho;have Wl:s.TypeIs (.ref S) "set":=⟨_,ho,Ko.1⟩;have Hj:∀e∈es.toList,∃x t,e.2=.str x t:=λe he=>by
  obtain⟨⟨k,hk,_⟩,_⟩:=Em e he;obtain⟨t,q⟩:=Value.isStrOf_shape (show Value.isStrOf k e.2=true from hk);exact⟨k,t,q⟩
 refine wpAny_pyIter_slot Wl PySem.F.slot_set_iter (wpAny_call_entry PySem.F.slot_set_iter Wl p8 ?_ (PySem.F.args_set_iter_1 _));show wpAny _ _ (Builtin.Frozenset.sizeOf S>>=_) _ _ s;unfold Builtin.Frozenset.sizeOf;refine wX (wX (wpAny_setEntries_of ho hd hf (wY ?_)));unfold setDrawn setsByText;refine wX (wX (wpAny_setState_of ho hd hf ?_));dsimp only;refine wX (wX (wpAny_askSetting (wY (wY ?_))));show wpAny _ _ (if(!w.params.followText "set-order" && (!t.plain && decide (es.size > 1)))=true then _ else _) _ _ _;have Ob:(es.toList.map (·.2)).map strOf=es.toList.map (λe=>strOf e.2):=by rw[uP];rfl
 by_cases HD:w.params.followText "set-order" = true
 ·rw[if_neg (by rw[HD];simp)];refine wX (wY ?_);refine wX (wpAny_setEpoch_of ho hd hf ?_);have pp:=Ds (w.params.setOrder S ep) es;have bR:((pickOrder (w.params.setOrder S ep) es).toList.map (·.2)).length=es.size:=by rw[vI,pp.length_eq,vG]
  refine wX (wpAny_newObj_type (wY ⟨_,rfl,"set_iterator",_,⟨_,vY _ rfl,rfl⟩,bF.lookup,?_⟩));refine hQ _ s.drawn s.heap.objs.size ((pickOrder (w.params.setOrder S ep) es).toList.map (·.2)) [s.heap.objs.size,S] (λi h=>h.get? s.heap.objs.size=some (lP (.int ((λ_=>0:Nat->Nat) i:Nat) 0) i S es.size ep)/\h.get? S=some o) (λA' hA=>?_) ?_ (λb u e=>vZ _ e) (vT _) (λb hb=>?_) (bR.trans sz) ?_ ?_
  ·rw[←sz];exact tR hA hd hf (vS Oa) _ bR (λ_=>0) (λi x hx A' E' s Q' h1 h2=>tQ h1 hd hf HD (by
    rw[vA,Array.getElem?_toList]at hx;obtain⟨e,he,rfl⟩:=oY hx;rw[he];exact h2)) (λA' E' s Q' h1 h2=>tQ h1 hd hf HD (by
    rw[Array.getElem?_eq_none (by rw[←vG,pp.length_eq,vG];exact vT _)];exact h2))
  ·exact⟨vY _ rfl,vZ _ ho⟩
  ·simp only[List.mem_cons,List.not_mem_nil,or_false]at hb;rcases hb with rfl|rfl
   ·exact .inr (vT _)
   ·exact .inl rfl
  ·refine List.Perm.trans ?_ hp;rw[←Ob];exact(pp.map _).map _
  ·intro v hv;obtain⟨e,he,rfl⟩:=vO hv;exact Hj e (pp.mem_iff.mp he)
 ·rw[Bool.not_eq_true]at HD;have hl:t.led=true:=by rw[Kp,HD];rfl
  by_cases h1:es.size<=1
  ·rw[if_neg (by rw[decide_eq_false (by omega)];simp)];refine wX (wY ?_);refine wX (wpAny_setEpoch_of ho hd hf ?_);refine wX (wpAny_newObj_type (wY ⟨_,rfl,"set_iterator",_,⟨_,vY _ rfl,rfl⟩,bF.lookup,?_⟩));have ZL:t.place.size=es.size:=by
    simp only[SetTable.fits,vC,beq_iff_eq,decide_eq_true_eq]at hf;exact hf.1
   refine hQ _ s.drawn s.heap.objs.size (es.toList.map (·.2)) [s.heap.objs.size,S] (λi h=>h.get? s.heap.objs.size=some (lP (.int ((λi=>if i=0 then 0 else t.place.getD 0 0+1:Nat->Nat) i:Nat) 0) i S es.size ep)/\h.get? S=some o) (λA' hA=>?_) ?_ (λb u e=>vZ _ e) (vT _) (λb hb=>?_) (by rw[vI,vG,sz]) (by rw[Ob];exact hp) ?_
   ·rw[←sz];refine tR hA hd hf (vS Oa) _ (by simp) (λi=>if i=0 then 0 else t.place.getD 0 0+1) (λi x hx A' E' s Q' q1 q2=>qp q1 hd hf HD hl h1 ?_) (λA' E' s Q' q1 q2=>qp q1 hd hf HD hl h1 ?_)
    ·have hi:i<es.size:=by have:=(vV hx).1;simpa using this
     have Yz:i=0:=by omega
     subst Yz;obtain⟨j,hj⟩:∃j,t.place=#[j]:=Array.size_eq_one_iff.mp (by omega);rw[if_pos rfl,tT hj,if_neg (by omega)];rw[vA,Array.getElem?_toList]at hx;obtain⟨e,he,rfl⟩:=oY hx;rw[he];simp only[hj]at q2 ⊢;simpa using q2
    ·by_cases h0:es.size=0
     ·have Uv:t.place=#[]:=Array.eq_empty_of_size_eq_zero (by omega);have Y0:es=#[]:=Array.eq_empty_of_size_eq_zero h0;rw[Uv,Y0];simpa using q2
     ·obtain⟨j,hj⟩:∃j,t.place=#[j]:=Array.size_eq_one_iff.mp (by omega);rw[if_neg h0,tT hj];have:t.place.getD 0 0=j:=by rw[hj];rfl
      rw[this,if_pos (by omega),Array.getElem?_eq_none (by omega)];exact q2
   ·exact⟨vY _ rfl,vZ _ ho⟩
   ·simp only[List.mem_cons,List.not_mem_nil,or_false]at hb;rcases hb with rfl|rfl
    ·exact .inr (vT _)
    ·exact .inl rfl
   ·intro v hv;obtain⟨e,he,rfl⟩:=vO hv;exact Hj e he
  ·have Uv:t.plain=false:=lx (by omega);rw[if_pos (by rw[HD,Uv,decide_eq_true (by omega)];rfl)];refine wX (Bz es.size (List.range es.size) _ _ (by simp) λpl d pp=>?_);refine wX (wpAny_newTuple ?_ (by rw[vI,pp.length_eq,List.length_range,sz];exact fits_of_scanBound hb));refine wX (wpAny_setEpoch_of (vZ _ ho) hd hf ?_);refine wX (wpAny_newObj_type (wY ⟨_,rfl,"set_iterator",_,⟨_,vY _ rfl,rfl⟩,bF.lookup,?_⟩));have hsz:(s.heap.push (seqObj "tuple" (pl.map λ(p:Nat)=>Value.int p 0).toArray 0)).objs.size=s.heap.objs.size+1:=size_push' _ _;have gG:((pl.map λp=>(es.getD p (0,.none)).2)).Perm (es.toList.map (·.2)):=by
    have:=(pp.map λp=>es.getD p (0,Value.none)).map (·.2);rw[A1]at this;rw[uP]at this;exact this
   refine hQ _ d _ (pl.map λp=>(es.getD p (0,.none)).2) [(s.heap.push (seqObj "tuple" (pl.map λ(p:Nat)=>Value.int p 0).toArray 0)).objs.size,S,s.heap.objs.size] (λi h=>h.get? (s.heap.push (seqObj "tuple" (pl.map λ(p:Nat)=>Value.int p 0).toArray 0)).objs.size=some (lP (.ref s.heap.objs.size) i S es.size ep)/\h.get? S=some o/\h.get? s.heap.objs.size=some (seqObj "tuple" (pl.map λ(p:Nat)=>Value.int p 0).toArray 0)) (λA' hA=>?_) ?_ (λb u e=>vZ _ (vZ _ e)) ?_ (λb hb=>?_) ?_ ?_ ?_
   ·rw[←sz];exact A0 (nt:=0) hA hd hf (by show S≠(s.heap.push _).objs.size;rw[size_push'];exact vS (Nat.lt_succ_of_lt Oa)) (by show s.heap.objs.size≠(s.heap.push _).objs.size;rw[size_push'];exact vS (Nat.lt_succ_self _)) pp
   ·exact⟨vY _ rfl,vZ _ (vZ _ ho),vZ _ (vY _ rfl)⟩
   ·show s.heap.objs.size<=(s.heap.push _).objs.size;rw[size_push'];omega
   ·simp only[List.mem_cons,List.not_mem_nil,or_false]at hb;rcases hb with rfl|rfl|rfl
    ·refine .inr ?_;show s.heap.objs.size<=(s.heap.push _).objs.size;rw[size_push'];omega
    ·exact .inl rfl
    ·exact .inr (vT _)
   ·rw[gG.length_eq,vI,vG,sz]
   ·exact((gG.map strOf).trans (by rw[Ob])).trans hp
   ·intro v hv;obtain⟨e,he,rfl⟩:=vO (gG.mem_iff.mp hv);exact Hj e he
end
theorem Dt (h:ItemsOf (λi v=>vs[i]? = some v) mm vs.length):mm.toList=vs:=by
 apply List.ext_getElem?;intro i;by_cases hi:i<mm.size
 ·have e:mm[i]? = some mm[i]:=Array.getElem?_eq_getElem hi;rw[Array.getElem?_toList,e,h.2 i _ e]
 ·rw[List.getElem?_eq_none (by rw[vG];omega),List.getElem?_eq_none (by rw[←h.1];omega)]
section
variable {prog:Program}{w:World}{A:Around}{E:Value->Shared->Prop}{s:Shared}
theorem yn (hh:A.handled=none)(hS:jb prog w s.heap S ts)
  (hQ:∀s' vs,(∀b u,s.heap.get? b=some u->s'.heap.get? b=some u)->s'.gens=s.gens->s'.os=s.os->vs.length=ts.length->(vs.map strOf).Perm ts->(∀v∈vs,∃x t,v=.str x t)->Q vs s'):
  wpAny (model prog w) A (collect (.ref S)) Q E s:=by
 have L7:∀(s1:Shared),jb prog w s1.heap S ts->s1.TypeIs (.ref S) "set":=λs1 h=>by
  obtain⟨o,_,_,_,ho,Ko,_⟩:=h;exact⟨o,ho,Ko.1⟩
 have fT:S<s.heap.objs.size:=by obtain⟨o,_,_,_,ho,_⟩:=hS;exact vX ho
 have Rb:ts.length<scanBound:=by obtain⟨_,_,_,_,_,_,_,_,_,_,h,_⟩:=hS;exact h
 unfold collect;refine wX (wpAny_runValue (codeAny_builtin PySem.F.entry_proto_collect ?_));rw[Around.under_plainId PySem.F.plain_proto_collect _];show wpAny _ A.in1 (newList []>>=λl=>again (.builtin "list.__iadd__" ⟨[l,.ref S],[]⟩)) _ _ s;refine wX (wpAny_newObj_type ?_);refine wY ⟨plainId_quiet PySem.F.plain_list_iadd _,codeAny_builtin PySem.F.entry_list_iadd ?_⟩;rw[Around.under_plainId PySem.F.plain_list_iadd _];show wpAny _ A.in1 (Builtin.List.listExtendWith (.ref s.heap.objs.size) (.ref S) (.ref s.heap.objs.size)) _ _ _;unfold Builtin.List.listExtendWith;have Uw:jb prog w (s.heap.push { cls:=.type "list",data:=.seq ([]:List Value).toArray }) S ts:=hS.at λo e=>vZ _ e;refine wX (wpAny_typeOf (L7 _ Uw) ?_);have En:s.heap.objs.size≠S:=Nat.ne_of_gt fT;have h1:Builtin.List.listSameRef (.ref s.heap.objs.size) (.ref S)=false:=by simp[Builtin.List.listSameRef,En]
 have h2:(Value.type "set" == Value.type "list")=false:=by decide
 have h3:(Value.type "set" == Value.type "tuple")=false:=by decide
 simp only[h1,h2,h3,Bool.or_false,uV,if_false];refine wX (Fo (s:={ s with heap:=s.heap.push { cls:=.type "list",data:=.seq ([]:List Value).toArray } }) Uw λh' d it vs fp St W nO hk HE hfp zN gG He=>?_);have QZ:jb prog w h' S ts:=Uw.at λo e=>hk _ _ e;refine wX (wpAny_holding ?_);unfold Builtin.List.listLengthHint;refine wX (wpAny_specialOf (L7 _ QZ) PySem.F.slot_set_len.lookup ?_);wp_delta;refine wX (wpAny_isInstance (L7 _ QZ) sub_set_self ?_);show wpAny _ A.in1 (typeOf (Value.ref S)>>=_) _ _ _;refine wX (wpAny_typeOf (L7 _ QZ) ?_);refine wY ?_;rw[if_pos (by decide)];refine wX (wpAny_rule ?_);refine wX ?_;have Rc:(s.heap.push { cls:=.type "list",data:=.seq ([]:List Value).toArray }).objs.size=s.heap.objs.size+1:=size_push' _ _;have Wm:h'.get? s.heap.objs.size=some { cls:=.type "list",data:=.seq ([]:List Value).toArray }:=hk _ _ (vY _ rfl);show wpAny _ A.in1 (updateSeq s.heap.objs.size (·.push .none)>>=λ_=>updateSeq s.heap.objs.size (·.pop)) _ _ _;refine wX (wpAny_updateSeq Wm rfl ?_);have Wn:=Heap.get?_update_self (Obj.mapSeq (·.push Value.none)) Wm rfl;refine wpAny_updateSeq Wn rfl ?_;have Y1:=Heap.get?_update_self (Obj.mapSeq (·.pop)) Wn rfl;have NX:s.heap.objs.size∉fp:=λhm=>by
  rcases hfp _ hm with z|z
  ·exact En z
  ·rw[Rc]at z;exact absurd z (Nat.not_succ_le_self _)
 have Wo:∀b u,b≠s.heap.objs.size->h'.get? b=some u ->
   ((h'.update s.heap.objs.size (Obj.mapSeq (·.push Value.none))).update s.heap.objs.size (Obj.mapSeq (·.pop))).get? b=some u :=
  λb u hb e=>(Heap.get?_update_other _ _ (Ne.symm hb)).trans ((Heap.get?_update_other _ _ (Ne.symm hb)).trans e)
 have W0:=W A.in1 hh;refine wY ⟨plainId_quiet PySem.F.plain_extend_loop _,codeAny_extend_loopS W0.toS (fits_of_scanBound Rb) _ NX _ ts.length 0 _ _ _ rfl (uN _)
  (W0.frame 0 _ _ nO λb hb u e=>Wo b u (λz=>NX (z ▸ hb)) e) Y1 (ItemsOf.nil _) λs' acc' c' hm hL' Hk=>?_⟩
 show wpAny _ A (load s.heap.objs.size>>=_) _ _ s';refine wX (wpAny_load hL' ?_);rw[←zN]at Hk;refine wY ?_;show Q acc'.toList s';rw[Dt Hk];refine hQ s' vs (λb u e=>hm.heap b u (λhb=>?_) (Wo b u (vS (vX e)) (hk _ _ (vZ _ e)))) hm.gens hm.os zN gG He;have hl:=vX e;simp only[List.mem_cons,List.not_mem_nil,or_false]at hb;rcases hb with rfl|rfl
 ·exact absurd hl (Nat.lt_irrefl _)
 ·rw[Rc]at HE;exact absurd (vQ hl (Nat.le_of_succ_le HE)) (Nat.lt_irrefl _)
theorem A2 (hh:A.handled=none)(hS:jb prog w s.heap S ts)(Eb:ts.length<64)
  (hQ:∀(s1:Shared)(h':Heap)(a:Addr)(out:Array Value)(n:Nat)(ON:List Str),(∀b u,s.heap.get? b=some u->s1.heap.get? b=some u)->s1.os=s.os->s1.gens=s.gens->(∀b u,s1.heap.get? b=some u->h'.get? b=some u)->s1.heap.objs.size<=a->h'.get? a=some (seqObj "list" out n) ->
   StrsAre out.toList ON->ON.Perm ts->sortedS ON=true->Q (.ref a) { s1 with heap:=h' }):
  wpAny (model prog w) A (call (.builtin "sorted") [.ref S]) Q E s:=by
 refine Calls.call_function_entry kind_sorted plain_sorted entry_sorted (args_sorted1 _) ?_;unfold Builtin.«sorted»;refine wX (m:=checkCount "sorted" 1 1 _) (wY ?_);refine wX (yn (A:=A.in1) (by exact hh) hS λs1 vs hk hg GY zN gG He=>?_);have nO:StrsAre vs (vs.map strOf):=strsAre_map vs He;refine wX (wpAny_newList ?_ (by rw[zN,sizeLine_eq];omega));have JY:(s1.heap.push (seqObj "list" vs.toArray 0)).get? s1.heap.objs.size=some (seqObj "list" vs.toArray 0):=vY _ rfl;show wpAny _ _ _ _ _ { s1 with heap:=s1.heap.push (seqObj "list" vs.toArray 0) };refine wX (wpAny_holding (wpAny_call_entry slot_list_sort ⟨_,JY,rfl⟩ entry_list_sort (list_sort_treeK strKind_oneLt JY nO.keysOf (λv₁ v₂ aD e=>keyKind_strs (by rw[←e];exact nO)) (by rw[zN];exact Eb) λlH a1 a2=>⟨_,rfl,?_⟩) (args_list_sort _)));obtain⟨ON,b1,b2,b3⟩:=sorted_out_str nO a1 a2;obtain⟨e,he⟩:=sortedHeap_at (out:=(arrOf lH).map (·.2)) JY;refine wY ⟨_,rfl,hQ s1 _ _ _ e ON hk GY hg (λb u q=>?_) (vT _) he b1 (b2.trans gG) b3⟩;have hl:=vX q;rw[sortedHeap_old (vS hl) (by rw[size_push'];exact Nat.lt_succ_of_lt hl)];exact vZ _ q
end
end DL
namespace DL
open PySem PySem.Spec PyProof.Rows L2
def wy (a b:Str):Prop:=¬b.cps.toList<a.cps.toList
theorem B3:ltCps b.cps.toList a.cps.toList=false↔wy a b:=by rw[ltCps_eq,decide_eq_false_iff_not];rfl
theorem tU (h:wy a b)(k:wy b c):wy a c:=by
 unfold wy at *;exact List.not_lt.mpr (List.le_trans (List.not_lt.mp h) (List.not_lt.mp k))
theorem Fp (h:wy a b)(k:wy b a):a=b:=by
 have e:a.cps.toList=b.cps.toList:=List.le_antisymm (List.not_lt.mp h) (List.not_lt.mp k);obtain⟨a⟩:=a;obtain⟨b⟩:=b;have:a=b:=Array.toList_inj.mp e;rw[this]
noncomputable def A3 (x:Str):List Str->List Str
 |[]=>[x]
 |y::r=>if ltCps y.cps.toList x.cps.toList then y::A3 x r else x::y::r
noncomputable def jV (l:List Str):List Str:=l.foldr A3 []
theorem nY (x:Str):∀l,(A3 x l).Perm (x::l)
 |[]=>List.Perm.refl _
 |y::r=>by
  unfold A3;split
  ·exact((nY x r).cons y).trans (List.Perm.swap x y r)
  ·exact List.Perm.refl _
theorem dq:∀l,(jV l).Perm l
 |[]=>List.Perm.refl _
 |x::l=>(nY x (jV l)).trans ((dq l).cons x)
theorem tV (x:Str):∀l,l.Pairwise wy->(A3 x l).Pairwise wy
 |[],_=>by simp[A3]
 |y::r,h=>by
  obtain⟨h1,h2⟩:=List.pairwise_cons.mp h;unfold A3;split
  ·rename_i hl;refine List.pairwise_cons.mpr ⟨λz hz=>?_,tV x r h2⟩;rcases vP ((nY x r).mem_iff.mp hz)with rfl|hz
   ·rw[ltCps_eq,decide_eq_true_eq]at hl;exact λk=>List.lt_irrefl _ (List.lt_trans hl k)
   ·exact h1 z hz
  ·rename_i hl;rw[Bool.not_eq_true]at hl;have OO:wy x y:=B3.mp hl;refine List.pairwise_cons.mpr ⟨λz hz=>?_,h⟩;rcases vP hz with rfl|hz
   ·exact OO
   ·exact tU OO (h1 z hz)
theorem qq:∀l,(jV l).Pairwise wy
 |[]=>List.Pairwise.nil
 |x::l=>tV x _ (qq l)
theorem oK:∀(l:List Str)(p:Str),risingS p l=true->(p::l).Pairwise wy
 |[],p,_=>List.pairwise_singleton _ _
 |x::r,p,h=>by
  have h':(!ltCps x.cps.toList p.cps.toList && risingS x r)=true:=h;rw[vC]at h';have Wp:wy p x:=B3.mp (by simpa using h'.1);have ih:=oK r x h'.2;refine List.pairwise_cons.mpr ⟨λz hz=>?_,ih⟩;rcases vP hz with rfl|hz
  ·exact Wp
  ·exact tU Wp ((List.pairwise_cons.mp ih).1 z hz)
theorem yo:∀(l:List Str),sortedS l=true->l.Pairwise wy
 |[],_=>List.Pairwise.nil
 |x::r,h=>oK r x h
theorem yp (a:Str):wy a a:=List.lt_irrefl _
theorem qr:∀(l1 l2:List Str),l1.Perm l2->l1.Pairwise wy->l2.Pairwise wy->l1=l2
 |[],l2,p,_,_=>(List.nil_perm.mp p).symm
 |x::r1,[],p,_,_=>absurd p.length_eq (by simp)
 |x::r1,y::r2,p,h1,h2=>by
  have OO:wy x y:=by
   rcases vP (p.mem_iff.mpr (mX ..))with z|z
   ·rw[z];exact yp _
   ·exact(List.pairwise_cons.mp h1).1 y z
  have Ux:wy y x:=by
   rcases vP (p.mem_iff.mp (mX ..))with z|z
   ·rw[z];exact yp _
   ·exact(List.pairwise_cons.mp h2).1 x z
  have e:=Fp OO Ux;subst e;rw[qr r1 r2 (List.Perm.cons_inv p) (List.pairwise_cons.mp h1).2 (List.pairwise_cons.mp h2).2]
theorem Du (p:l'.Perm l)(h:sortedS l'=true):l'=jV l:=qr _ _ (p.trans (dq l).symm) (yo _ h) (qq l)
section
variable {X:Cx}
noncomputable def Fq (X:Cx)(S:Addr)(ts:List Str):HO:=.ext λh=>jb X.prog X.w h S ts
theorem tW (I:Inv X af σ H s)(k:∀b u,s.heap.get? b=some u->s1.heap.get? b=some u)(ho:s1.os=s.os)(hg:s1.gens=s.gens):Inv X af σ H s1:=by
 have I1:=I.step (g':=s.gens) (d':=s1.drawn) (t':=s1.toks) (h':=s1.heap) (H':=H) (ch:=[]) (λ_ z=>nomatch z) (λb o _ _ _ e _=>k b o e) (λb o _ _ _ e _=>⟨o.slots,k b o e⟩) (λ_ _ _ _ n=>n)
  (λb o _ e=>⟨o,k b o e⟩) (λ_ _ e=>e) (λ_ _ _ e=>e) (λ_ _ e=>e) (λm hm=>?_) (I.hok.kept k) I.bare
 ·obtain⟨h1,g1,d1,t1,o1⟩:=s1;cases ho;cases hg
  exact I1
 ·obtain⟨o,es,ep,ho,r⟩:=hm;exact⟨o,es,ep,k _ o ho,r⟩
theorem yq (hc:X.calm=true):ce X (.type "set") (λxs H Q=>∃p ys ss,xs=[.ref p]/\iM X.K H p ys/\(∀its,bf ys its->StrsAre its ss)/\ss.length<4000/\∀S,H S=none->Q (.ref S) (upd H S (Fq X S (ie ss)))):=by
 intro af s σ H xs us Q I r h;obtain⟨p,ys,ss,rfl,hq,hs,Eb,q⟩:=h;obtain⟨u,rfl,rx⟩:=gY r;cases rx
 obtain⟨its,r',pl,hz⟩:=I.list hq;have nO:=hs its r';have bR:its.length=ss.length:=by rw[←nO.strs,vI]
 refine qm (I.ok.hd hc) pl.isList (by simpa using nO) (by simp only[vH];unfold scanBound;omega) λh' tk hS hk=>?_;refine⟨.ref s.heap.objs.size,_,I.laid (t':=tk) (λb u e=>hk b u (vX e) e) (vT _) ?_,rfl,q _ (I.hok.fresh (vT _))⟩;refine⟨hS,?_,λh1 h2 z k=>z.at k⟩;obtain⟨o,_,_,_,ho,_⟩:=hS;exact⟨o,ho⟩
theorem p9 (hc:X.calm=true):ce X (.builtin "sorted") (λxs H Q=>∃S ts,xs=[.ref S]/\H S=some (Fq X S ts)/\ts.length<64/\∀l,H l=none->Q (.ref l) (upd H l (.lst ((jV ts).map .str)))):=by
 intro af s σ H xs us Q I r h;obtain⟨S,ts,rfl,hS,Eb,q⟩:=h;obtain⟨u,rfl,rx⟩:=gY r;cases rx
 have hT:jb X.prog X.w s.heap S ts:=(I.hok S _ hS).1;refine A2 (I.ok.hd hc) hT Eb λs1 h' a out n ON k1 ho hg k2 hp he nO gG sw=>?_;have e:=Du gG sw;subst e;have I1:=tW I k1 ho hg;have hv:∀ {its:List Value}{zs:List Str},StrsAre its zs->bf (zs.map V.str) its:=λz=>by
  induction z with
  |nil=>exact .nil
  |cons x t _ ih=>exact .cons ⟨t,rfl⟩ ih
 refine⟨.ref a,_,I1.laid (t':=s1.toks) k2 hp (show bU X.prog X.w _ h' _ (.lst _)from ⟨?_,out.toList,n,hv nO,he⟩),rfl,q _ (I1.hok.fresh hp)⟩;rw[vI,(dq ts).length_eq,sizeLine_eq];omega
end
@[simp] def eS:D->Option (D×Bool)
 |.lst ds=>(gL ds).bind λss=>if ss.length<64 then some (.lst ((jV (ie ss)).map .str),true)else none
 |_=>none
@[simp] def RO:D->Option (D×Bool)
 |.lst ds=>(gL ds).bind λss=>if ss.length<4000 then some (.int ((ie ss).length:Nat),false)else none
 |_=>none
theorem yr:bootBuiltins "sorted" = some (.builtin "sorted"):=by decide +kernel
theorem Qo:bootBuiltins "set" = some (.type "set"):=by decide +kernel
theorem qt {K:PySem.W.Frag}{N:Hp}:∀(zs:List Str),IsL K N (zs.map V.str) (zs.map D.str)
 |[]=>.nil
 |z::zs=>.cons (.str z) (qt zs)
section
variable {X:Cx}{e:Expr}{pos pos2 p p2:Pos}
theorem lQ (hc:X.calm=true)(m1:X.mg "sorted" = none)(m2:X.mg "set" = none)(he:JE X e f)(g1:Gl X "sorted":=by rfl)(g2:Gl X "set":=by rfl)
  (h1:starEach [e] X.env=(false,eval e X.env)::starEach [] X.env:=by rfl):JE X (.Call (.Name "sorted" p) [.Call (.Name "set" p2) [e] [] pos2] [] pos) (f1 eS f):=by
 refine PE.to (xz (p9 hc) g1 m1 yr (iN (tq (yq hc) g2 m2 Qo (iN he km h1) (he:=h1)) km)) λσ H Q q=>?_;obtain⟨B,ρ,d',bb,sB,r,ee,q⟩:=q;obtain⟨x1,ex,ee⟩:=oX ee;refine⟨B,ρ,x1.1,x1.2,sB,r,ex,λv H1 N1 xt i1 fr=>?_⟩;obtain⟨xd,xb⟩:=x1;cases i1<;>try (simp[eS]at ee;done)
 rename_i l0 vs ds h hl;simp only[eS]at ee;obtain⟨ss,ez,ee⟩:=oX ee;split at ee
 ·rename_i Eb;cases ee
  refine⟨_,_,ss,rfl,xt.nh.seq h,λits r'=>k6 r' hl ez,by omega,λS hS=>⟨S,_,rfl,aH,Nat.lt_of_le_of_lt (mB ss) Eb,λl DY=>?_⟩⟩;have x2:=Ext.laid (o:=Fq X S (ie ss)) xt.nh hS;have x3:=Ext.laid (o:=.lst ((jV (ie ss)).map V.str)) x2.nh DY;have Y3:H l=none:=((xt.trans x2).hh).free DY;exact q _ _ _ ((xt.trans x2).trans x3) (.lst (iM.of aH) (qt _)) λ_=>⟨_,_,_,rfl,rfl,Y3,aH,qt _⟩
 ·cases ee
end
end DL
namespace DL
open PySem PySem.Spec PySem.W PyProof.Rows
inductive Run (n:Nat)(lt:Nat->Nat->Bool){α:Type}:KasT α->α->Prop where
 |ret (a:α):Run n lt (.ret a) a
 |ask {i j:Nat}{k:Bool->KasT α}{a:α}(hi:i<n) (hj:j<n) (h:Run n lt (k (lt i j)) a):Run n lt (.ask i j k) a
theorem Run.bind {n:Nat}{lt:Nat->Nat->Bool}{α β:Type}{t:KasT α}{f:α->KasT β}{a:α}{b:β}(h:Run n lt t a)(k:Run n lt (f a) b):Run n lt (t.bind f) b:=by
 induction h with
 |ret a=>exact k
 |ask hi hj _ ih=>exact .ask hi hj (ih k)
theorem Run.wp {n:Nat}{lt:Nat->Nat->Bool}{α:Type}{Wq:Nat->Nat->(Bool->Shared->Prop)->Shared->Prop}{Q:α->Shared->Prop}{t:KasT α}{a:α}(J:Shared->Prop)
  (hc:∀i j C s,i<n->j<n->J s->(∀s',J s'->C (lt i j) s')->Wq i j C s) (h:Run n lt t a):∀ {s:Shared},J s->(∀s',J s'->Q a s')->t.kasWp Wq Q s:=by
 induction h with
 |ret a=>intro s hJ hQ;exact hQ s hJ
 |ask hi hj _ ih=>intro s hJ hQ;exact hc _ _ _ _ hi hj hJ λs' hJ'=>ih hJ' hQ
section
variable {n:Nat}{rk:Nat->Int}
noncomputable abbrev qu (rk:Nat->Int)(i j:Nat):Bool:=decide (rk i<rk j)
noncomputable def c8 (rk:Nat->Int)(p:Array Nat)(k:Nat):Int:=rk (p.getD k 0)
structure pE (n:Nat)(p:Array Nat):Prop where
 size:p.size=n
 perm:p.toList.Perm (List.range n)
theorem pE.lt {p:Array Nat}(h:pE n p){k:Nat}(hk:k<n):p.getD k 0<n:=by
 have fD:k<p.size:=by rw[h.size];exact hk
 have:p.getD k 0=p[k]:=by rw[Array.getD_eq_getD_getElem?,Array.getElem?_eq_getElem fD];rfl
 rw[this];exact List.mem_range.mp (h.perm.mem_iff.mp (by simp))
theorem pE.rev {p:Array Nat}(h:pE n p)(i j:Nat):pE n (kas_rev p i j) :=
 ⟨(mirror_size _ _ _ _).trans h.size,(Array.perm_iff_toList_perm.mp (mirror_perm p i j _)).trans h.perm⟩
theorem pE.bub {p:Array Nat}(h:pE n p)(k d:Nat):pE n (bubble p k d) :=
 ⟨(bubble_size _ _ _).trans h.size,(Array.perm_iff_toList_perm.mp (bubble_perm p k d)).trans h.perm⟩
theorem wz {p:Array Nat}{i j:Nat}(hj:j<=p.size)(k:Nat):c8 rk (kas_rev p i j) k=if i<=k/\k<j then c8 rk p (i+j - 1 - k)else c8 rk p k:=by
 unfold c8 kas_rev;rw[Array.getD_eq_getD_getElem?,getElem?_mirror_all hj];split<;>rw[Array.getD_eq_getD_getElem?]
theorem Fs {p:Array Nat}{src d:Nat}(hs:src<p.size)(hd:d<=src)(k:Nat):c8 rk (bubble p src d) k=if k=src - d then c8 rk p src else if src - d<k/\k<=src then c8 rk p (k - 1)else c8 rk p k:=by
 unfold c8;simp only[Array.getD_eq_getD_getElem?];rw[getElem?_bubble hs d hd];repeat' split
 all_goals rfl
def Up (rk:Nat->Int)(p:Array Nat)(m:Nat):Prop:=∀i j,i<=j->j<m->c8 rk p i<=c8 rk p j
def w4 (rk:Nat->Int)(p:Array Nat)(m:Nat):Prop:=∀i j,i<=j->j<m->c8 rk p j<=c8 rk p i
theorem Nf (p:Array Nat):Up rk p 1:=λi j h1 h2=>by
 have:i=j:=by omega
 subst this;exact Int.le_refl _
theorem w6 {p:Array Nat}(h:pE n p){r:Nat}(hr:r<=n):∀(f m:Nat),r - m=f->1<=m->m<=r->Up rk p m->∃m',Run n (qu rk) (kas_asc p f m) m'/\m<=m'/\m'<=r/\Up rk p m'/\(m'<r->c8 rk p m'<c8 rk p (m' - 1))
 |0,m,hf,h1,hm,hu=>⟨m,.ret m,vT _,hm,hu,λz=>by omega⟩
 |f+1,m,hf,h1,hm,hu=>by
  have a1:=h.lt (k:=m) (by omega);have a2:=h.lt (k:=m - 1) (by omega);by_cases hc:c8 rk p m<c8 rk p (m - 1)
  ·refine⟨m,.ask a1 a2 ?_,vT _,hm,hu,λ_=>hc⟩;have:qu rk (p.getD m 0) (p.getD (m - 1) 0)=true:=decide_eq_true hc;rw[this,if_pos rfl];exact .ret m
  ·have HF:Up rk p (m+1):=λi j CA hj=>by
    by_cases e:j=m
    ·subst e;by_cases e2:i=j
     ·subst e2;exact Int.le_refl _
     ·have:=hu i (j - 1) (by omega) (by omega);omega
    ·exact hu i j CA (by omega)
   obtain⟨m',q1,q2,q3,q4,q5⟩:=w6 h hr f (m+1) (by omega) (by omega) (by omega) HF;refine⟨m',.ask a1 a2 ?_,by omega,q3,q4,q5⟩;have:qu rk (p.getD m 0) (p.getD (m - 1) 0)=false:=decide_eq_false hc;rw[this,if_neg uX];exact q1
def IX (rk:Nat->Int)(p:Array Nat)(m q:Nat):Prop:=q+1<=m/\∀k,m - (q+1)<=k->k<m->c8 rk p k=c8 rk p (m - 1)
theorem yt {p:Array Nat}{m q:Nat}(hs:m<=p.size)(hf:IX rk p m q)(k:Nat):c8 rk (kas_rev p (m - (q+1)) m) k=c8 rk p k:=by
 rw[wz hs];split
 ·rename_i hk;have h0:=hf.1;rw[hf.2 k hk.1 hk.2,hf.2 _ (by omega) (by omega)]
 ·rfl
theorem B4 {p p':Array Nat}{m:Nat}(e:∀k,c8 rk p' k=c8 rk p k)(h:w4 rk p m):w4 rk p' m:=λi j h1 h2=>by rw[e,e];exact h i j h1 h2
theorem qw (p:Array Nat){m:Nat}(h:1<=m):IX rk p m 0:=⟨h,λk h1 h2=>by
 have:k=m - 1:=by omega
 rw[this]⟩
theorem mD {r:Nat}(hr:r<=n):∀(f:Nat)(p:Array Nat)(m q:Nat),pE n p->r - m=f->1<=m->m<=r->w4 rk p m->IX rk p m q->∃p' m' q',Run n (qu rk) (kas_desc f p m q) (p',m',q')/\pE n p'/\m<=m'/\m'<=r/\w4 rk p' m'/\IX rk p' m' q'
 |0,p,m,q,h,hf,h1,hm,hd,hq=>⟨p,m,q,.ret _,h,vT _,hm,hd,hq⟩
 |f+1,p,m,q,h,hf,h1,hm,hd,hq=>by
  have a1:=h.lt (k:=m) (by omega);have a2:=h.lt (k:=m - 1) (by omega);have step:∀p':Array Nat,(∀k,c8 rk p' k=c8 rk p k)->c8 rk p m<=c8 rk p (m - 1)->w4 rk p' (m+1):=λp' e Kn i j CA hj=>by
   rw[e,e];by_cases z:j=m
   ·subst z;by_cases z2:i=j
    ·subst z2;exact Int.le_refl _
    ·have:=hd i (j - 1) (by omega) (by omega);omega
   ·exact hd i j CA (by omega)
  by_cases hc:c8 rk p m<c8 rk p (m - 1)
  ·have oB:qu rk (p.getD m 0) (p.getD (m - 1) 0)=true:=decide_eq_true hc;by_cases hq0:q > 0
   ·have e:=yt (p:=p) (by rw[h.size];omega) hq;obtain⟨p',m',q',g1,g2,g3,g4,g5,g6⟩:=mD hr f (kas_rev p (m - (q+1)) m) (m+1) 0 (h.rev _ _) (by omega) (by omega) (by omega) (step _ e (by omega)) (qw _ (by omega));refine⟨p',m',q',.ask a1 a2 ?_,g2,by omega,g4,g5,g6⟩;rw[oB,if_pos rfl,if_pos hq0];exact g1
   ·obtain⟨p',m',q',g1,g2,g3,g4,g5,g6⟩:=mD hr f p (m+1) 0 h (by omega) (by omega) (by omega) (step _ (λ_=>rfl) (by omega)) (qw _ (by omega));refine⟨p',m',q',.ask a1 a2 ?_,g2,by omega,g4,g5,g6⟩;rw[oB,if_pos rfl,if_neg hq0];exact g1
  ·have oB:qu rk (p.getD m 0) (p.getD (m - 1) 0)=false:=decide_eq_false hc;by_cases xl:c8 rk p (m - 1)<c8 rk p m
   ·have Oc:qu rk (p.getD (m - 1) 0) (p.getD m 0)=true:=decide_eq_true xl;refine⟨p,m,q,.ask a1 a2 ?_,h,vT _,hm,hd,hq⟩;rw[oB,if_neg uX];refine .ask a2 a1 ?_;rw[Oc,if_pos rfl];exact .ret _
   ·have Oc:qu rk (p.getD (m - 1) 0) (p.getD m 0)=false:=decide_eq_false xl;have he:c8 rk p m=c8 rk p (m - 1):=by omega
    obtain⟨p',m',q',g1,g2,g3,g4,g5,g6⟩:=mD hr f p (m+1) (q+1) h (by omega) (by omega) (by omega) (step _ (λ_=>rfl) (by omega)) ⟨by have:=hq.1;omega,λk k1 k2=>by
     rw[Nat.add_sub_cancel];by_cases z:k=m
     ·rw[z]
     ·rw[hq.2 k (by omega) (by omega),he]⟩
    refine⟨p',m',q',.ask a1 a2 ?_,g2,by omega,g4,g5,g6⟩;rw[oB,if_neg uX];refine .ask a2 a1 ?_;rw[Oc,if_neg uX];exact g1
theorem yu {r:Nat}(hr:r<=n){p:Array Nat}(h:pE n p){m:Nat}(h1:1<=m)(hm:m<=r)(hd:w4 rk p m):∃m' p',Run n (qu rk) (kas_tail3 m r p) (m',p')/\pE n p'/\1<=m'/\m'<=r/\Up rk p' m':=by
 have hu:Up rk (kas_rev p 0 m) m:=λi j CA hj=>by
  rw[wz (by rw[h.size];omega),wz (by rw[h.size];omega),if_pos (by omega),if_pos (by omega)];exact hd _ _ (by omega) (by omega)
 obtain⟨m',q1,q2,q3,q4,_⟩:=w6 (h.rev 0 m) hr (r - m) m rfl h1 hm hu;exact⟨m',_,q1.bind (.ret _),h.rev 0 m,by omega,q3,q4⟩
theorem yv {r:Nat}(hr:r<=n){p:Array Nat}(h:pE n p){m:Nat}(hm:m+1<=r)(hd:w4 rk p (m+1)):∃m' p',Run n (qu rk) (kas_descPart m r p) (m',p')/\pE n p'/\1<=m'/\m'<=r/\Up rk p' m':=by
 obtain⟨p1,m1,q1,g1,g2,g3,g4,g5,g6⟩:=mD hr (r - (m+1)) p (m+1) 0 h rfl (by omega) hm hd (qw _ (by omega));by_cases hq:q1 > 0
 ·obtain⟨m',p',k1,k2,k3,k4,k5⟩:=yu hr (g2.rev (m1 - (q1+1)) m1) (m:=m1) (by omega) g4 (B4 (yt (by rw[g2.size];omega) g6) g5);exact⟨m',p',g1.bind (by dsimp only;rw[if_pos hq];exact k1),k2,k3,k4,k5⟩
 ·obtain⟨m',p',k1,k2,k3,k4,k5⟩:=yu hr g2 (m:=m1) (by omega) g4 g5;exact⟨m',p',g1.bind (by dsimp only;rw[if_neg hq];exact k1),k2,k3,k4,k5⟩
theorem Dv {p:Array Nat}(h:pE n p)(hn:1<=n):∃m' p',Run n (qu rk) (kas_count n p) (m',p')/\pE n p'/\1<=m'/\m'<=n/\Up rk p' m':=by
 obtain⟨m,q1,q2,q3,q4,q5⟩:=w6 h (vT n) (n - 1) 1 rfl (vT 1) hn (Nf (rk:=rk) p);by_cases e:m=n
 ·exact⟨m,p,q1.bind (by rw[if_pos (by simp[e])];exact .ret _),h,q2,q3,q4⟩
 ·have fT:=q5 (by omega);have e1:¬(m == n)=true:=by simp[e]
  by_cases OP:m > 1
  ·by_cases hc:c8 rk p 0<c8 rk p (m - 1)
   ·refine⟨m,p,q1.bind ?_,h,q2,q3,q4⟩;rw[if_neg e1,if_pos OP];refine .ask (h.lt (by omega)) (h.lt (by omega)) ?_;have:qu rk (p.getD 0 0) (p.getD (m - 1) 0)=true:=decide_eq_true hc;rw[this,if_pos rfl];exact .ret _
   ·have nL:∀k,k<m->c8 rk p k=c8 rk p 0:=λk hk=>by
     have z1:=q4 0 k (by omega) hk;have z2:=q4 k (m - 1) (by omega) (by omega);omega
    have er:∀k,c8 rk (kas_rev p 0 m) k=c8 rk p k:=λk=>by
     rw[wz (by rw[h.size];omega)];split
     ·rename_i z;rw[nL _ (by omega),nL k z.2]
     ·rfl
    have hd:w4 rk p (m+1):=λi j CA hj=>by
     by_cases z:j=m
     ·subst z;by_cases z2:i=j
      ·subst z2;exact Int.le_refl _
      ·rw[nL i (by omega)];rw[nL (j - 1) (by omega)]at fT;omega
     ·rw[nL i (by omega),nL j (by omega)];exact Int.le_refl _
    obtain⟨m',p',k1,k2,k3,k4,k5⟩:=yv (vT n) (h.rev 0 m) (m:=m) (by omega) (B4 er hd);refine⟨m',p',q1.bind ?_,k2,k3,k4,k5⟩;rw[if_neg e1,if_pos OP];refine .ask (h.lt (by omega)) (h.lt (by omega)) ?_;have:qu rk (p.getD 0 0) (p.getD (m - 1) 0)=false:=decide_eq_false hc;rw[this,if_neg uX];exact k1
  ·have em:m=1:=by omega
   subst em;have hd:w4 rk p 2:=λi j CA hj=>by
    by_cases z2:i=j
    ·subst z2;exact Int.le_refl _
    ·have:i=0:=by omega
     have:j=1:=by omega
     subst_vars;have:=fT;simp at this;omega
   obtain⟨m',p',k1,k2,k3,k4,k5⟩:=yv (vT n) h (m:=1) (by omega) hd;refine⟨m',p',q1.bind ?_,k2,k3,k4,k5⟩;rw[if_neg e1,if_neg OP];exact k1
theorem nZ {p:Array Nat}(h:pE n p){k:Nat}(hk:k<n)(hu:Up rk p k):∀(f l r:Nat),r - l<=f->l<=r->r<=k->(∀i,i<l->c8 rk p i<=c8 rk p k)->(∀i,r<=i->i<k->c8 rk p k<c8 rk p i) ->
  ∃l',Run n (qu rk) (kas_place p k f l r) l'/\l'<=k/\(∀i,i<l'->c8 rk p i<=c8 rk p k)/\(∀i,l'<=i->i<k->c8 rk p k<c8 rk p i)
 |0,l,r,hf,hl,hr,h1,h2=>⟨l,.ret l,by omega,h1,λi a b=>h2 i (by omega) b⟩
 |f+1,l,r,hf,hl,hr,h1,h2=>by
  by_cases hge:l ≥ r
  ·refine⟨l,?_,by omega,h1,λi a b=>h2 i (by omega) b⟩;unfold kas_place;rw[if_pos hge];exact .ret l
  ·by_cases hc:c8 rk p k<c8 rk p ((l+r) / 2)
   ·obtain⟨l',q1,q2,q3,q4⟩:=nZ h hk hu f l ((l+r) / 2) (by omega) (by omega) (by omega) h1 λi a b=>by
     have:=hu ((l+r) / 2) i a b;omega
    refine⟨l',?_,q2,q3,q4⟩;unfold kas_place;rw[if_neg hge];refine .ask (h.lt (by omega)) (h.lt (by omega)) ?_;have:qu rk (p.getD k 0) (p.getD ((l+r) / 2) 0)=true:=decide_eq_true hc;rw[this,if_pos rfl];exact q1
   ·obtain⟨l',q1,q2,q3,q4⟩:=nZ h hk hu f ((l+r) / 2+1) r (by omega) (by omega) hr (λi a=>by
     have:=hu i ((l+r) / 2) (by omega) (by omega);omega) h2
    refine⟨l',?_,q2,q3,q4⟩;unfold kas_place;rw[if_neg hge];refine .ask (h.lt (by omega)) (h.lt (by omega)) ?_;have:qu rk (p.getD k 0) (p.getD ((l+r) / 2) 0)=false:=decide_eq_false hc;rw[this,if_neg uX];exact q1
theorem B5:∀(f:Nat)(p:Array Nat)(k:Nat),pE n p->n - k=f->k<=n->Up rk p k->∃p',Run n (qu rk) (kas_bin f p k) p'/\pE n p'/\Up rk p' n
 |0,p,k,h,hf,hk,hu=>⟨p,.ret p,h,(show k=n by omega) ▸ hu⟩
 |f+1,p,k,h,hf,hk,hu=>by
  have fD:k<n:=by omega
  obtain⟨l,q1,q2,q3,q4⟩:=nZ h fD hu k 0 k (by omega) (by omega) (vT _) (λi z=>by omega) (λi a b=>by omega);have hsz:k<p.size:=by rw[h.size];exact fD
  have HF:Up rk (bubble p k (k - l)) (k+1):=λi j CA hj=>by
   rw[Fs hsz (by omega),Fs hsz (by omega)];have e:k - (k - l)=l:=by omega
   rw[e];by_cases i1:i=l
   ·rw[if_pos i1];by_cases j1:j=l
    ·rw[if_pos j1];exact Int.le_refl _
    ·rw[if_neg j1,if_pos (by omega)];have:=q4 (j - 1) (by omega) (by omega);omega
   ·rw[if_neg i1];by_cases i2:l<i/\i<=k
    ·rw[if_pos i2,if_neg (by omega),if_pos (by omega)];exact hu _ _ (by omega) (by omega)
    ·rw[if_neg i2];by_cases j1:j=l
     ·rw[if_pos j1];exact q3 i (by omega)
     ·rw[if_neg j1];by_cases j2:l<j/\j<=k
      ·rw[if_pos j2];exact hu _ _ (by omega) (by omega)
      ·rw[if_neg j2];exact hu _ _ CA (by omega)
  obtain⟨p',k1,k2,k3⟩:=B5 f (bubble p k (k - l)) (k+1) (h.bub _ _) (by omega) (by omega) HF;exact⟨p',q1.bind k1,k2,k3⟩
theorem Fu (hn:1<=n):∃p,Run n (qu rk) (kas_sort n) p/\pE n p/\Up rk p n:=by
 have h0:pE n (List.toArray (List.range n)):=⟨by simp,by simp⟩;obtain⟨m,p,q1,q2,q3,q4,q5⟩:=Dv (rk:=rk) h0 hn;by_cases e:m<n
 ·have Y4:max m 1=m:=by omega
  obtain⟨p',k1,k2,k3⟩:=B5 (n - max m 1) p (max m 1) q2 rfl (by omega) (by rw[Y4];exact q5);exact⟨p',q1.bind (by dsimp only;rw[if_pos e];exact k1),k2,k3⟩
 ·have:m=n:=by omega
  subst this;exact⟨p,q1.bind (by dsimp only;rw[if_neg e];exact .ret _),q2,q5⟩
end
theorem kW {a b c:List Int}(h:a<b)(k:b<c):a<c:=List.lt_trans h k
theorem Dw {a b c:List Int}(h:¬b<a)(k:¬c<b):¬c<a:=List.not_lt.mpr (List.le_trans (List.not_lt.mp h) (List.not_lt.mp k))
theorem Fv {a b:List Int}(h:¬b<a)(k:¬a<b):a=b:=List.le_antisymm (List.not_lt.mp h) (List.not_lt.mp k)
section
variable {α:Type}(f:α->List Int)
def Hz (a b:α):Prop:=¬f b<f a
noncomputable def oe (x:α):List α->List α
 |[]=>[x]
 |y::r=>if f y<f x then y::oe x r else x::y::r
noncomputable def eI (l:List α):List α:=l.foldr (oe f) []
theorem oh (x:α):∀l,(oe f x l).Perm (x::l)
 |[]=>List.Perm.refl _
 |y::r=>by
  unfold oe;split
  ·exact((oh x r).cons y).trans (List.Perm.swap x y r)
  ·exact List.Perm.refl _
theorem bN:∀l,(eI f l).Perm l
 |[]=>List.Perm.refl _
 |x::l=>(oh f x (eI f l)).trans ((bN l).cons x)
theorem tX (x:α):∀l,l.Pairwise (Hz f)->(oe f x l).Pairwise (Hz f)
 |[],_=>by simp[oe]
 |y::r,h=>by
  obtain⟨h1,h2⟩:=List.pairwise_cons.mp h;unfold oe;split
  ·rename_i hl;refine List.pairwise_cons.mpr ⟨λz hz=>?_,tX x r h2⟩;rcases vP ((oh f x r).mem_iff.mp hz)with rfl|hz
   ·exact λk=>List.lt_irrefl _ (kW hl k)
   ·exact h1 z hz
  ·rename_i hl;refine List.pairwise_cons.mpr ⟨λz hz=>?_,h⟩;rcases vP hz with rfl|hz
   ·exact hl
   ·exact Dw hl (h1 z hz)
theorem ig:∀l,(eI f l).Pairwise (Hz f)
 |[]=>List.Pairwise.nil
 |x::l=>tX f x _ (ig l)
theorem tY:∀(l1 l2:List α),(∀x∈l1,∀y∈l1,f x=f y->x=y)->l1.Perm l2->l1.Pairwise (Hz f)->l2.Pairwise (Hz f)->l1=l2
 |[],l2,_,p,_,_=>(List.nil_perm.mp p).symm
 |x::r1,[],_,p,_,_=>absurd p.length_eq (by simp)
 |x::r1,y::r2,hi,p,h1,h2=>by
  have hy:y∈x::r1:=p.mem_iff.mpr (mX ..);have OO:Hz f x y:=by
   rcases vP hy with z|z
   ·rw[z];exact List.lt_irrefl _
   ·exact(List.pairwise_cons.mp h1).1 y z
  have Ux:Hz f y x:=by
   rcases vP (p.mem_iff.mp (mX ..))with z|z
   ·rw[z];exact List.lt_irrefl _
   ·exact(List.pairwise_cons.mp h2).1 x z
  have e:x=y:=hi x (mX ..) y hy (Fv OO Ux);subst e;rw[tY r1 r2 (λa ha b hb=>hi a (mZ _ ha) b (mZ _ hb)) (List.Perm.cons_inv p) (List.pairwise_cons.mp h1).2 (List.pairwise_cons.mp h2).2]
theorem k7 (hi:∀x∈l,∀y∈l,f x=f y->x=y)(p:l'.Perm l)(h:l'.Pairwise (Hz f)):l'=eI f l :=
 tY f _ _ (λx hx y hy=>hi x (p.mem_iff.mp hx) y (p.mem_iff.mp hy)) (p.trans (bN f l).symm) h (ig f l)
end
theorem lR {α:Type}{p q:α->Bool}(h:∀x,p x=true->q x=true):∀l:List α,(l.filter p).length<=(l.filter q).length
 |[]=>vT _
 |x::l=>by
  have ih:=lR h l;rw[List.filter_cons,List.filter_cons];by_cases z:p x=true
  ·rw[if_pos z,if_pos (h x z)];simp only[vE];omega
  ·rw[if_neg z];split
   ·simp only[vE];omega
   ·exact ih
noncomputable def mE (cs:List (List Int))(c:List Int):Int:=((cs.filter λx=>decide (x<c)).length:Nat)
theorem IY {cs:List (List Int)}{a b:List Int}(h:¬b<a):mE cs a<=mE cs b:=by
 unfold mE;refine Int.ofNat_le.mpr (lR (λx hx=>?_) cs);rw[decide_eq_true_eq]at hx ⊢;rcases List.le_iff_lt_or_eq.mp (List.not_lt.mp h)with z|z
 ·exact kW hx z
 ·rw[←z];exact hx
theorem B6 {cs:List (List Int)}{a b:List Int}(ha:a∈cs)(h:a<b):mE cs a<mE cs b:=by
 unfold mE;apply Int.ofNat_lt.mpr;induction cs with
 |nil=>simp at ha
 |cons c cs ih=>
  have key:∀l:List (List Int),(l.filter λx=>decide (x<a)).length<=(l.filter λx=>decide (x<b)).length:=λl=>
   lR (λx hx=>by rw[decide_eq_true_eq]at hx ⊢;exact kW hx h) l
  rw[List.filter_cons,List.filter_cons];rcases vP ha with rfl|ha
  ·rw[if_neg (by simp[List.lt_irrefl]),if_pos (by simpa using h)];have:=key cs;simp only[vE];omega
  ·have:=ih ha;by_cases z:c<a
   ·rw[if_pos (by simpa using z),if_pos (by simpa using kW z h)];simp only[vE];omega
   ·rw[if_neg (by simpa using z)];split
    ·simp only[vE];omega
    ·exact this
theorem yw (ha:a∈cs):decide (mE cs a<mE cs b)=decide (a<b):=by
 by_cases h:a<b
 ·rw[decide_eq_true h,decide_eq_true (B6 ha h)]
 ·rw[decide_eq_false h,decide_eq_false];have:=IY (cs:=cs) h;omega
inductive At where
 |i (n:Int)
 |s (z:Str)
noncomputable def Ng:At->List Int
 |.i n=>[n]
 |.s z=>z.cps.toList.map (λ(c:Nat)=>(c:Int)+1)++[0]
noncomputable def cP (xs:List At):List Int:=xs.flatMap Ng
noncomputable def bc:List At->List At->Option Bool
 |[],ys=>some (!ys.isEmpty)
 |_::_,[]=>some false
 |.i a::xs,.i b::ys=>if a=b then bc xs ys else some (decide (a<b))
 |.s a::xs,.s b::ys=>if a=b then bc xs ys else some (decide (a.cps.toList<b.cps.toList))
 |_::_,_::_=>none
theorem wA:∀(a b:List Nat)(r r':List Int),(a.map (λ(c:Nat)=>(c:Int)+1)++0::r)<(b.map (λ(c:Nat)=>(c:Int)+1)++0::r')↔a<b∨(a=b/\r<r')
 |[],[],r,r'=>by simp[List.cons_lt_cons_iff]
 |[],y::b,r,r'=>by simp[List.cons_lt_cons_iff]
 |x::a,[],r,r'=>by simp[List.cons_lt_cons_iff];omega
 |x::a,y::b,r,r'=>by
  rw[uY,uY,List.cons_append,List.cons_append,List.cons_lt_cons_iff,wA a b r r',List.cons_lt_cons_iff];constructor
  ·rintro (h|⟨h,k|⟨k1,k2⟩⟩)
   ·exact .inl (.inl (by omega))
   ·exact .inl (.inr ⟨by omega,k⟩)
   ·exact .inr ⟨by rw[k1,show x=y by omega],k2⟩
  ·rintro ((h|⟨h,k⟩)|⟨h,k⟩)
   ·exact .inl (by omega)
   ·exact .inr ⟨by omega,.inl k⟩
   ·injection h with h1 h2;exact .inr ⟨by omega,.inr ⟨h2,k⟩⟩
theorem ju (x:At)(xs:List At):cP (x::xs)=Ng x++cP xs:=by unfold cP;rw[uO]
theorem Nh (x:At):Ng x≠[]:=by cases x<;>simp[Ng]
theorem B7 {a b:Str}:a.cps.toList=b.cps.toList↔a=b:=by
 constructor
 ·intro h;obtain⟨a⟩:=a;obtain⟨b⟩:=b;have:a=b:=Array.toList_inj.mp h;rw[this]
 ·rintro rfl;rfl
theorem wB:∀(xs ys:List At)(b:Bool),bc xs ys=some b->b=decide (cP xs<cP ys)
 |[],[],b,h=>by simp[bc]at h;subst h;simp[cP]
 |[],y::ys,b,h=>by
  simp[bc]at h;subst h;rw[ju];cases e:Ng y with
  |nil=>exact absurd e (Nh y)
  |cons c cs=>simp[cP]
 |x::xs,[],b,h=>by simp[bc]at h;subst h;simp[cP]
 |.i a::xs,.i c::ys,b,h=>by
  rw[bc]at h;rw[ju,ju];show b=decide (a::cP xs<c::cP ys);split at h
  ·rename_i e;subst e;rw[wB xs ys b h];exact decide_eq_decide.mpr (by rw[List.cons_lt_cons_iff];simp)
  ·rename_i e;cases h
   exact decide_eq_decide.mpr (by rw[List.cons_lt_cons_iff];simp[e])
 |.s a::xs,.s c::ys,b,h=>by
  rw[bc]at h;rw[ju,ju];have e0:∀(z:Str)(r:List Int),Ng (.s z)++r=z.cps.toList.map (λ(c:Nat)=>(c:Int)+1)++0::r:=λz r=>by simp[Ng]
  rw[e0,e0];split at h
  ·rename_i e;subst e;rw[wB xs ys b h];exact decide_eq_decide.mpr (by rw[wA];exact⟨λz=>.inr ⟨rfl,z⟩,λz=>z.elim (λq=>absurd q (List.lt_irrefl _)) (·.2)⟩)
  ·rename_i e;cases h
   exact decide_eq_decide.mpr (by rw[wA,B7];exact⟨.inl,λz=>z.elim id λq=>absurd q.1 e⟩)
 |.i _::_,.s _::_,b,h=>by simp[bc]at h
 |.s _::_,.i _::_,b,h=>by simp[bc]at h
theorem A4:∀(xs ys:List At),bc xs ys=some false->bc ys xs=some false->xs=ys
 |[],[],_,_=>rfl
 |[],y::ys,h,_=>by simp[bc]at h
 |x::xs,[],_,h=>by simp[bc]at h
 |.i a::xs,.i c::ys,h,k=>by
  rw[bc]at h k;by_cases e:a=c
  ·subst e;rw[if_pos rfl]at h k;rw[A4 xs ys h k]
  ·rw[if_neg e]at h;rw[if_neg (Ne.symm e)]at k;simp at h k;omega
 |.s a::xs,.s c::ys,h,k=>by
  rw[bc]at h k;by_cases e:a=c
  ·subst e;rw[if_pos rfl]at h k;rw[A4 xs ys h k]
  ·rw[if_neg e]at h;rw[if_neg (Ne.symm e)]at k;simp only[Option.some.injEq,decide_eq_false_iff_not]at h k;exact absurd (B7.mp (List.le_antisymm (List.not_lt.mp k) (List.not_lt.mp h))) e
 |.i _::_,.s _::_,h,_=>by simp[bc]at h
 |.s _::_,.i _::_,h,_=>by simp[bc]at h
noncomputable def eJ (ks:List (List At)):Bool:=ks.all λx=>ks.all λy=>(bc x y).isSome
theorem gT (h:eJ ks=true)(hx:x∈ks)(hy:y∈ks):bc x y=some (decide (cP x<cP y)):=by
 have:=uR (uR h x hx) y hy;obtain⟨b,e⟩:=uU this;rw[e,wB _ _ _ e]
theorem oi (h:eJ ks=true)(hx:x∈ks)(hy:y∈ks)(e:cP x=cP y):x=y:=by
 refine A4 _ _ ?_ ?_
 ·rw[gT h hx hy,e,decide_eq_false (List.lt_irrefl _)]
 ·rw[gT h hy hx,e,decide_eq_false (List.lt_irrefl _)]
def yx:At->Value->Prop
 |.i n,v=>∃t,v=.int n t
 |.s z,v=>∃t,v=.str z t
def gN (h:Heap)(xs:List At)(v:Value):Prop:=∃a o its n,v=.ref a/\h.get? a=some o/\o.cls=.type "tuple"/\o.data=.seq its n/\Paired yx xs its.toList
noncomputable def fJ (ks:List (List At)):Bool:=ks.all (λx=>match x with|.i _::_=>true|_=>false) || ks.all (λx=>match x with|.s _::_=>true|_=>false)
section
variable {prog:Program}{w:World}{A:Around}{E:Value->Shared->Prop}{s:Shared}
theorem qx:∀(xs ys:List At)(its gh:List Value)(i:Nat),Paired yx xs its->Paired yx ys gh->bc xs ys=some b->lm=decide (xs.length<ys.length)->Q b s->KatLex prog w A true lm Q (its.zip gh) i s
 |[],ys,_,gh,i,.nil,r2,h,hf,q=>by
  rw[List.zip_nil_left];refine kat_nil ?_;cases ys with
  |nil=>simp[bc]at h;subst h;rw[hf];exact q
  |cons y ys=>simp[bc]at h;subst h;rw[hf];simpa using q
 |x::xs,[],_,_,i,_,.nil,h,hf,q=>by
  rw[List.zip_nil_right];refine kat_nil ?_;simp[bc]at h;subst h;rw[hf];simpa using q
 |.i a::xs,.i c::ys,_,_,i,.cons r1 NV,.cons r2 r2',h,hf,q=>by
  obtain⟨t,rfl⟩:=r1;obtain⟨u,rfl⟩:=r2;rw[List.zip_cons_cons];refine kat_cons (wpAny_eqBool_int ?_);rw[bc]at h;by_cases e:a=c
  ·rw[if_pos e]at h;rw[show(a == c)=true by simp[e]];exact kat_yes (qx xs ys _ _ (i+1) NV r2' h (by rw[hf];simp) q)
  ·rw[if_neg e]at h;cases h
   rw[show(a == c)=false by simp[e]];refine kat_no ?_;cases hb:(true && i == 0) with
   |true=>exact oneLt_int q
   |false=>exact kat_one _ _ (PyProof.Rows.lt_int q)
 |.s a::xs,.s c::ys,_,_,i,.cons r1 NV,.cons r2 r2',h,hf,q=>by
  obtain⟨t,rfl⟩:=r1;obtain⟨u,rfl⟩:=r2;rw[List.zip_cons_cons];refine kat_cons (wpAny_eqBool_str ?_);rw[bc]at h;by_cases e:a=c
  ·rw[if_pos e]at h;rw[decide_eq_true e];exact kat_yes (qx xs ys _ _ (i+1) NV r2' h (by rw[hf];simp) q)
  ·rw[if_neg e]at h;cases h
   rw[decide_eq_false e];refine kat_no ?_;cases hb:(true && i == 0) with
   |true=>exact oneLt_str q
   |false=>exact kat_one _ _ (PySem.P.lt_str q)
 |.i _::_,.s _::_,_,_,_,_,_,h,_,_=>by simp[bc]at h
 |.s _::_,.i _::_,_,_,_,_,_,h,_,_=>by simp[bc]at h
theorem ij {α β:Type}{F:α->β->Prop}:∀ {l₁:List α}{l₂:List β},Paired F l₁ l₂->l₁.length=l₂.length
 |_,_,.nil=>rfl
 |_,_,.cons _ t=>by simp[ij t]
theorem Ni {Q:Bool->Shared->Prop}{xs ys:List At}{x y:Value}{b:Bool}(hx:gN s.heap xs x)(hy:gN s.heap ys y)(h:bc xs ys=some b)(q:Q b s):wpAny (model prog w) A (keyLt' (tuples' true) x y) Q E s:=by
 obtain⟨a,o,its,n,rfl,ho,_,hd,r⟩:=hx;obtain⟨a',o',its',n',rfl,wZ,_,DS,r'⟩:=hy;refine kat_lt ho hd wZ DS (qx xs ys _ _ 0 r r' h ?_ q);rw[←vG,←vG,ij r,ij r']
theorem oM:∀ {ks:List (List At)}{vs:List Value},Paired (gN h) ks vs->(∀k∈ks,k≠[])->∃fs,KatTups h vs fs/\fs.length=ks.length/\∀v∈fs,∃k r,(k::r)∈ks/\yx k v
 |_,_,.nil,_=>⟨[],trivial,rfl,by simp⟩
 |k::ks,_,.cons x t,lJ=>by
  obtain⟨fs,h1,h2,h3⟩:=oM t λz hz=>lJ z (mZ _ hz);obtain⟨a,o,its,n,rfl,ho,hc,hd,r⟩:=x;cases r':its.toList with
  |nil=>
   rw[r']at r;cases r
   exact absurd rfl (lJ [] (mX ..))
  |cons v vs=>
   rw[r']at r;obtain⟨p,r1⟩:∃p,its[0]? = some v:=⟨(),by rw[←Array.getElem?_toList,r'];rfl⟩;cases r with
   |cons q qs=>
    rename_i k0 kr;refine⟨v::fs,KatTups.cons ho hc hd r1 h1,by simp[h2],λu hu=>?_⟩;rcases vP hu with rfl|hu
    ·exact⟨k0,kr,mX ..,q⟩
    ·obtain⟨k1,r1,m1,m2⟩:=h3 u hu;exact⟨k1,r1,mZ _ m1,m2⟩
theorem Fw (hp:Paired (gN s.heap) ks vs)(hf:fJ ks=true)(hn:0<ks.length)(q:Q (tuples' true) s):wpAny (model prog w) A (keyKind' vs.toArray) Q E s:=by
 have lJ:∀k∈ks,k≠[]:=λk hk z=>by
  subst z;unfold fJ at hf;rw[Bool.or_eq_true]at hf;rcases hf with hf|hf
  ·have:=uR hf [] hk;simp at this
  ·have:=uR hf [] hk;simp at this
 obtain⟨fs,h1,h2,h3⟩:=oM hp lJ;unfold fJ at hf;rw[Bool.or_eq_true]at hf;rcases hf with hf|hf
 ·refine kat_kind (T:=.type "int") h1 (by omega) (λv hv=>?_) (by decide) q;obtain⟨k,r,m,z⟩:=h3 v hv;have:=uR hf _ m;cases k with
  |i n=>obtain⟨t,rfl⟩:=z;exact .now
  |s z'=>simp at this
 ·refine kat_kind (T:=.type "str") h1 (by omega) (λv hv=>?_) (by decide) q;obtain⟨k,r,m,z⟩:=h3 v hv;have:=uR hf _ m;cases k with
  |s z'=>obtain⟨t,rfl⟩:=z;exact .now
  |i n=>simp at this
end
section
variable {prog:Program}{w:World}{A:Around}{E:Value->Shared->Prop}{s:Shared}
theorem eZ {α β:Type}{F:α->β->Prop}(d:α)(e:β):∀ {l₁:List α}{l₂:List β},Paired F l₁ l₂->∀ {i:Nat},i<l₁.length->F (l₁.getD i d) (l₂.getD i e)
 |_,_,.cons r t,0,_=>r
 |_,_,.cons r t,i+1,h=>by
  simp only[List.getD_cons_succ];exact eZ d e t (by simpa using h)
 |_,_,.nil,i,h=>by simp at h
def HA (ks:List (List At))(i:Nat):Int:=mE (ks.map cP) (cP (ks.getD i []))
theorem IZ {ks:List (List At)}{vs:List Value}(hc:eJ ks=true)(hp:Paired (gN s.heap) ks vs):∀(i j:Nat)(C:Bool->Shared->Prop)(s1:Shared),i<ks.length->j<ks.length->s1=s->(∀s',s'=s->C (qu (HA ks) i j) s')->kas_ask prog w A (tuples' true) vs i j C s1:=by
 intro i j C s1 hi hj e hC;subst e;unfold kas_ask;have mi:ks.getD i []∈ks:=by rw[vF,vU hi];exact List.getElem_mem hi
 have mj:ks.getD j []∈ks:=by rw[vF,vU hj];exact List.getElem_mem hj
 refine Ni (eZ [] Value.none hp hi) (eZ [] Value.none hp hj) (gT hc mi mj) ?_;have:=hC s1 rfl;unfold qu HA at this;rw[yw (uS ⟨_,mi,rfl⟩)]at this;exact this
end
end DL
namespace DL
open PySem PySem.Spec PySem.W PyProof.Rows L2
noncomputable def Lk:D->Option At
 |.int n=>some (.i n)
 |.str z=>some (.s z)
 |_=>none
def fg:List D->Option (List At)
 |[]=>some []
 |d::ds=>(Lk d).bind λa=>(fg ds).map (a :: ·)
def yy:D->Option (List At)
 |.tup es=>fg es
 |_=>none
def dU:List D->Option (List (List At))
 |[]=>some []
 |d::ds=>(yy d).bind λa=>(dU ds).map (a :: ·)
noncomputable def mF:List D->Option (List Int)
 |[]=>some []
 |.int n::ds=>(mF ds).map (n :: ·)
 |_::_=>none
def qy (ns:List Int):List Int:=eI (λn=>[n]) ns
theorem jv:∀ {ds:List D}{ks:List (List At)},dU ds=some ks->ks.length=ds.length
 |[],_,h=>by simp only[dU]at h;cases h;rfl
 |d::ds,_,h=>by
  simp only[dU]at h;obtain⟨a,h1,h⟩:=oX h;obtain⟨r,h2,h⟩:=oY h;subst h;simp[jv h2]
theorem oj:∀ {ds:List D}{ks:List (List At)},dU ds=some ks->∀ {i:Nat},i<ds.length->yy (ds.getD i .non)=some (ks.getD i [])
 |[],_,h,i,hi=>by simp at hi
 |d::ds,_,h,0,hi=>by
  simp only[dU]at h;obtain⟨a,h1,h⟩:=oX h;obtain⟨r,h2,h⟩:=oY h;subst h;exact h1
 |d::ds,_,h,i+1,hi=>by
  simp only[dU]at h;obtain⟨a,h1,h⟩:=oX h;obtain⟨r,h2,h⟩:=oY h;subst h;simp only[List.getD_cons_succ];exact oj h2 (by simpa using hi)
section
variable {X:Cx}
theorem yz {K:PySem.W.Frag}{B:Hp}:∀ {vs:List V}{es:List D}{k:List At}{its:List Value},bf vs its->IsL K B vs es->fg es=some k->Paired yx k its
 |_,_,_,_,.nil,.nil,h=>by simp only[fg]at h;cases h;exact .nil
 |_,_,_,_,.cons r rr,.cons i ii,h=>by
  simp only[fg]at h;obtain⟨a,h1,h⟩:=oX h;obtain⟨t,h2,h⟩:=oY h;subst h;refine .cons ?_ (yz rr ii h2);cases i<;>simp only[Lk]at h1<;>cases h1
  ·exact r
  ·exact r
theorem pK {af:List (Addr×Obj)}{σ:St}{H:Hp}{s:Shared}(I:Inv X af σ H s):∀ {ys:List V}{ds:List D}{ks:List (List At)}{its:List Value},bf ys its->IsL X.K H ys ds->dU ds=some ks->Paired (gN s.heap) ks its
 |_,_,_,_,.nil,.nil,h=>by simp only[dU]at h;cases h;exact .nil
 |_,_,_,_,.cons r rr,.cons i ii,h=>by
  simp only[dU]at h;obtain⟨a,h1,h⟩:=oX h;obtain⟨t,h2,h⟩:=oY h;subst h;refine .cons ?_ (pK I rr ii h2);cases i<;>simp only[yy]at h1<;>try (cases h1;done)
  rename_i hq hl;cases r
  obtain⟨its',r',⟨o,ho,hc,n,hd⟩,_⟩:=I.tuple hq;exact⟨_,o,_,n,rfl,ho,hc,hd,by simpa using yz r' hl h1⟩
theorem B8 {K:PySem.W.Frag}{B:Hp}:∀ {vs:List V}{ds:List D},IsL K B vs ds->∀ {i:Nat},i<ds.length->Is K B (vs.getD i .non) (ds.getD i .non)
 |_,_,.cons h _,0,_=>h
 |_,_,.cons _ t,i+1,hi=>by
  simp only[List.getD_cons_succ];exact B8 t (by simpa using hi)
 |_,_,.nil,i,hi=>by simp at hi
theorem y0:∀ {vs:List V}{us:List Value},bf vs us->∀ {i:Nat},i<vs.length->aY (vs.getD i .non) (us.getD i Value.none)
 |_,_,.cons h _,0,_=>h
 |_,_,.cons _ t,i+1,hi=>by
  simp only[List.getD_cons_succ];exact y0 t (by simpa using hi)
 |_,_,.nil,i,hi=>by simp at hi
theorem y4 {K:PySem.W.Frag}{B:Hp}{vs:List V}{ds:List D}(h:IsL K B vs ds):∀(l:List Nat),(∀i∈l,i<ds.length)->IsL K B (l.map λi=>vs.getD i .non) (l.map λi=>ds.getD i .non)
 |[],_=>.nil
 |i::l,hl=>.cons (B8 h (hl i (mX ..))) (y4 h l λj hj=>hl j (mZ _ hj))
theorem tZ (h:bf vs us):∀(l:List Nat),(∀i∈l,i<vs.length)->bf (l.map λi=>vs.getD i .non) (l.map λi=>us.getD i Value.none)
 |[],_=>.nil
 |i::l,hl=>.cons (y0 h (hl i (mX ..))) (tZ h l λj hj=>hl j (mZ _ hj))
end
section
variable {X:Cx}
theorem B9 {K:PySem.W.Frag}{B:Hp}:∀ {vs:List V}{ds:List D}{ns:List Int}{its:List Value},bf vs its->IsL K B vs ds->mF ds=some ns->IntsAre its ns
 |_,_,_,_,.nil,.nil,h=>by simp only[mF]at h;cases h;exact .nil
 |_,_,_,_,.cons r rr,.cons i ii,h=>by
  cases i<;>simp only[mF]at h<;>try (cases h;done)
  obtain⟨t,h2,h⟩:=oY h;subst h;obtain⟨u,rfl⟩:=r;exact .cons _ u (B9 rr ii h2)
theorem jp:∀ {its:List Value}{zs:List Int},IntsAre its zs->bf (zs.map V.int) its
 |_,_,.nil=>.nil
 |_,_,.cons x t r=>.cons ⟨t,rfl⟩ (jp r)
theorem qz {K:PySem.W.Frag}{N:Hp}:∀(zs:List Int),IsL K N (zs.map V.int) (zs.map D.int)
 |[]=>.nil
 |z::zs=>.cons (.int z) (qz zs)
theorem Fx (p:l'.Perm l)(h:l'.Pairwise (·<=·)):l'=qy l:=by
 refine k7 _ (λx _ y _ e=>by injection e) p (h.imp λ{a b} hab=>?_);unfold Hz;intro z;rw[List.cons_lt_cons_iff]at z;rcases z with z|⟨_,z⟩
 ·omega
 ·exact List.lt_irrefl _ z
end
end DL
namespace DL
open PySem PySem.Spec PyProof.Rows L2
section
variable {X:Cx}{pos:Pos}
@[simp] def Xk (i:Nat)(f:FE):FS:=λρ=>match ρ[i]? with
 |some (some (.lst ds,true))=>(f ρ).bind λx=>(mF ds).bind λns=>match x.1 with
  |.int n=>if ns.findIdx (· == n)<ns.length then some (.nx (ρ.set i (some (.lst ((ns.eraseIdx (ns.findIdx (· == n))).map .int),true))))else none
  |_=>none
 |_=>none
end
section
variable {prog:Program}{w:World}{A:Around}{E:Value->Shared->Prop}{s:Shared}
theorem A5 {a:Addr}{o:Obj}{its:Array Value}{n:Nat}{x:Value}{e:Value->Bool}{j:Nat}{P:PySem.Fin->Shared->Prop}(ho:s.heap.get? a=some o)(hd:o.data=.seq its n)
  (he:∀y∈its,MeetsSeq.EqGives y x (e y)) (hj:j<its.size) (HE:e its[j]=true) (OF:∀m (hm:m<its.size),m<j->e its[m]=false)
  (h:P (.done (.ret (.int j s.toks))) { s with toks:=s.toks+1 }):wpAny (model prog w) A (Builtin.«tuple.index» ⟨[.ref a,x],[]⟩) P E s:=by
 show wpAny _ _ (Builtin.Tuple.tupleItemsOf (.ref a)>>=_) _ _ s;refine wX (wpAny_tupleItemsOf ho hd ?_);dsimp only;refine wX (wY (wX (wY (wX ?_))));rw[Std.Legacy.Range.forIn_eq_forIn_range'];refine wpAny_forIn_list _
  (λaD r s'=>r.1=none/\s'=s/\∃i,i<=j/\aD=List.range' i (its.size - i))
  _ ?_ ?_ _ _ ⟨rfl,rfl,0,uN _,?_⟩
 ·rintro k aD r s' ⟨hr,rfl,i,hi,hz⟩;have fT:i<its.size:=by omega
  obtain⟨m,hm⟩:∃m,its.size - i=m+1:=⟨its.size - i - 1,by omega⟩;rw[hm,List.range'_succ]at hz;injection hz with z1 z2;have z1:=z1.symm;subst z1;subst z2;have hg:its[i]? = some its[i]:=by simp[fT]
  simp only[hg];refine wX (he _ (Array.getElem_mem fT) prog w _ _ _ _ ?_);by_cases CA:i=j
  ·subst CA;rw[HE];simp only[if_true];refine wX ?_;show wpAny _ _ (mkInt (i:Int)>>=λv=>ret v) _ _ _;exact wX (wpAny_mkInt (wY (wY (wY h))))
  ·rw[OF i fT (by omega)];simp only[uV,if_false];exact wY ⟨rfl,rfl,i+1,by omega,by rw[show its.size - (i+1)=m by omega]⟩
 ·rintro⟨r1,r2⟩ s' ⟨hr,rfl,i,hi,hz⟩;exfalso;have:(List.range' i (its.size - i)).length=0:=by rw[←hz];rfl
  rw[List.length_range']at this;omega
 ·simp
end
theorem CRows.findT {K:PySem.W.Frag}{P:Params}(y:Str){ds:List D}:∀ {es:List DictEntry}{aM:List (Str×D)},CRows K P es aM->aM.lookup y=some (.tup ds) ->
  ∃e a its n p4,es.find? (λe=>Value.isStrOf y e.key)=some e/\e.val=.ref a/\K.lookup a=some ⟨.type "tuple",none,.seq its n,p4⟩/\jH its.toList ds=true
 |_,_,.nil,h=>by simp at h
 |_,_,.tup (x:=x) (t:=t) (a:=a) (ds:=Ki) hh l f tl,h=>by
  by_cases e:y=x
  ·subst e;rw[List.lookup_cons_self]at h;cases h
   rw[vC]at f;exact⟨_,a,_,_,_,List.find?_cons_of_pos (by simp[Value.isStrOf]),rfl,l,f.2⟩
  ·rw[List.lookup_cons,beq_eq_false_iff_ne.mpr e]at h;have nf:Value.isStrOf y (Value.str x t)=false:=by
    rw[Bool.eq_false_iff];intro z;obtain⟨t',q⟩:=Value.isStrOf_shape z;injection q with q1;exact e q1.symm
   simp only[List.find?_cons,nf];exact tl.findT y h
 |_,_,.flat (x:=x) (t:=t) (u:=u) (d:=d) hh f tl,h=>by
  by_cases e:y=x
  ·subst e;rw[List.lookup_cons_self]at h;cases h
   cases u<;>simp[wo]at f
  ·rw[List.lookup_cons,beq_eq_false_iff_ne.mpr e]at h;have nf:Value.isStrOf y (Value.str x t)=false:=by
    rw[Bool.eq_false_iff];intro z;obtain⟨t',q⟩:=Value.isStrOf_shape z;injection q with q1;exact e q1.symm
   simp only[List.find?_cons,nf];exact tl.findT y h
section
variable {X:Cx}{b e:Expr}{pos:Pos}{x:Str}{p:Pos}
def To (K:PySem.W.Frag):V->List V->Hp->VK->Prop:=λx xs H Q=>∃(a:Addr)(o:Obj)(its:Array Value)(n:Nat)(zs:List Str)(y:Str),x=.ref a/\xs=[.str y]/\K.lookup a=some o/\o.cls=.type "tuple"/\o.data=.seq its n/\StrsAre its.toList zs/\zs.findIdx (· == y)<zs.length/\Q (.int (zs.findIdx (· == y):Nat)) H
noncomputable def Ll (y:Str):Value->Bool
 |.str z _=>z == y
 |_=>false
theorem BA:∀ {its:List Value}{zs:List Str},StrsAre its zs->∀(i:Nat)(hi:i<its.length),∃(h:i<zs.length)(t:Tok),its[i]=.str zs[i] t
 |_,_,.cons z t h,0,_=>⟨by simp,t,rfl⟩
 |_,_,.cons z t h,i+1,hi=>by
  obtain⟨h',t',e⟩:=BA h i (by simpa using hi);exact⟨by simpa using h',t',by simpa using e⟩
 |_,_,.nil,i,hi=>by simp at hi
theorem y6:∀ {its:List Value}{zs:List Str},StrsAre its zs->its.length=zs.length
 |_,_,.nil=>rfl
 |_,_,.cons _ _ h=>by rw[vE,vE,y6 h]
theorem Fy:Ii X "tuple.index" (To X.K):=by
 intro af s σ H x xs v us Q I rx rv h;obtain⟨a,o,its,n,zs,y,rfl,rfl,lk,hc,hd,hz,hk,q⟩:=h;cases rx
 obtain⟨u,rfl,⟨t,rfl⟩⟩:=rv.one;have ho:=I.kIn a o lk;have hl:=y6 hz;rw[vG]at hl;have at':∀(i:Nat)(hi:i<its.size),∃(h:i<zs.length)(t:Tok),its[i]=.str zs[i] t:=λi hi=>by
  obtain⟨h',t',e⟩:=BA hz i (by simpa using hi);exact⟨h',t',by simpa using e⟩
 refine wpAny_call_entry PySem.F.slot_tuple_index ⟨o,ho,hc⟩ PySem.F.entry_tuple_index (A5 (e:=Ll y) (j:=zs.findIdx (· == y)) ho hd (λz hm=>?_) (by omega) ?_ (λm hm fT=>?_) ⟨_,rfl,.int (zs.findIdx (· == y):Nat),H,I.tok _,⟨_,rfl⟩,q⟩) (PySem.F.args_tuple_index_2 _ _)
 ·obtain⟨i,hi,rfl⟩:=Array.mem_iff_getElem.mp hm;obtain⟨_,t',e'⟩:=at' i hi;rw[e'];exact eqGives_str _ _ _ _
 ·obtain⟨_,t',e'⟩:=at' (zs.findIdx (· == y)) (by omega);rw[e'];exact List.findIdx_getElem (p:=(· == y)) (w:=hk)
 ·obtain⟨_,t',e'⟩:=at' m hm;rw[e'];have:=List.not_of_lt_findIdx (p:=(· == y)) (xs:=zs) fT;simpa [Ll]using this
@[simp] def pA (aM:List (Str×D)):D->D->Option (D×Bool)
 |.str y,.str z=>match aM.lookup y with
  |some (.tup ds)=>(gL ds).bind λzs=>if zs.findIdx (· == z)<zs.length then some (.int (zs.findIdx (· == z):Nat),false)else none
  |_=>none
 |_,_=>none
theorem Ja {aM:List (Str×D)}{f g:FE}{dI cJ:Pos}(h:∃d,X.mg x=some (.ref d)/\tM X.K X.w.params d aM)(hb:JE X b f)(he:JE X e g)(hg:Gl X x:=by rfl)(sk:(x == ("__debug__" : Str))=false:=by decide)(hs:vk b:=by intro _ _;rfl)
  (iI:attributeBase (.Subscript (.Name x p) b pos) "index" X.env (eval (.Subscript (.Name x p) b pos) X.env)=eval (.Subscript (.Name x p) b pos) X.env:=by rfl)
  (AX:((backTo cJ (starEach [e] X.env)).all (λx=>!x.1) && (backToKw cJ (keywordEach [] X.env)).all (λx=>x.1.isSome)
   && decide ([e].length+([]:List Keyword).length+(if([]:List Keyword).isEmpty then 0 else 1)<30))=true:=by rfl)
  (iJ:(dI.endLine == cJ.line)=true:=by rfl) (nO:starEach [e] X.env=[(false,eval e X.env)]:=by rfl):
  JE X (.Call (.Attribute (.Subscript (.Name x p) b pos) "index" dI) [e] [] cJ) (f2 (pA aM) f g):=by
 obtain⟨d,hm,cd⟩:=h;have ix:Hv X (λx y H Q=>∃z ds,x=.ref d/\y=.str z/\aM.lookup z=some (.tup ds)/\∀a its n p4,X.K.lookup a=some ⟨.type "tuple",none,.seq its n,p4⟩->jH its.toList ds=true->Q (.ref a) H):=by
  intro value slice af s σ H x y v u Q I rx ry q hs;obtain⟨z,ds,rfl,rfl,el,q⟩:=q;cases rx
  obtain⟨t,rfl⟩:=ry;obtain⟨es,n,l,r,sm⟩:=cd;have hM:=PySem.W.mapOf_K (prog:=X.prog) (w:=X.w) I.kIn l r.lit;obtain⟨en,a,its,n',p4,e1,e2,e3,e4⟩:=r.findT z el;have ff:findBy Value.isStrOf es z=some (.ref a):=by
   unfold findBy;obtain⟨es⟩:=es;rw[List.find?_toArray,e1,←e2];rfl
  exact tail_any hM.typeIs slot_dict_getitem.lookup (wpAny_getItem_of (strKind_is X.prog X.w z t) hM ff ⟨.ref a,H,I.tok _,rfl,q a _ _ _ e3 e4⟩) hs
 refine PE.to (E5 (T:="tuple") PySem.F.plainAttrs_tuple PySem.F.slot_tuple_index PySem.F.type_tuple_index Fy (K3 ix (Ba (v:=.ref d) hg hm rfl sk) hb hs) (iN he km nO) iI AX iJ nO rfl) λσ H Q q=>?_;obtain⟨B,ρ,d',bb,sB,r,ee,q⟩:=q;obtain⟨x1,ex,ee⟩:=oX ee;obtain⟨y1,ey,ee⟩:=oX ee;obtain⟨xd,xb⟩:=x1;obtain⟨yd,yb⟩:=y1;cases xd with
 |str z=>
  cases yd with
  |str y=>
   refine⟨B,ρ,_,xb,sB,r,ex,λv H1 N1 xt i1 _=>?_⟩;cases i1
   simp only[pA]at ee;split at ee
   ·rename_i ds el;obtain⟨zs,ez,ee⟩:=oX ee;split at ee
    ·rename_i hk;cases ee
     refine⟨z,ds,rfl,rfl,el,λa its n p4 l fl=>⟨.inr (.inl ⟨rfl,_,l,rfl,rfl⟩),N1,ρ,_,yb,xt.nh,r.mono xt.bn,ey,λv2 H2 N2 QV i2 _=>?_⟩⟩;cases i2
     obtain⟨vs,rv,iv⟩:=jI (K:=X.K) fl;exact⟨a,_,its,n,zs,y,rfl,rfl,l,rfl,rfl,k6 rv (iv N2) ez,hk,(q.into (xt.trans QV)).one QV.nh (.int _)⟩
    ·cases ee
   ·cases ee
  |_=>simp[pA]at ee
 |_=>simp[pA]at ee
end
open PySem.W (tabIn tabObj CodeHd kla_fn kla_obj kla_eval kla_makeFunction kla_makeFunctionHit kla_callFunE kla_codeExpr envX)
def Qp (K:PySem.W.Frag)(c P:Addr):Prop:=∃o vs Ec tf vc tg OQ Ed tt,K.lookup c=some o/\o.cls=.type "code"/\o.data=.fields vs/\vs[11]? = some (.ref P)/\vs.getD 11 .none=.ref P/\vs.getD 18 .none=.str Ec tf /\
 vs.getD 7 .none=.int vc tg/\vs.getD 9 .none=.bool OQ/\vs.getD 10 .none=.int Ed tt/\c≠P
def A6 (K:PySem.W.Frag)(x:Str):Prop:=∃c P,tabIn K x=some (c,P)/\Qp K c P
def Fz (H:Hp)(f:Addr)(q:Str)(params:Arguments)(body:Expr)(scope:Scope)(cl:List (Str×Addr)):Prop :=
 ∃pm c CB u oc u' vs t,H f=some (.frz (kla_obj "<lambda>" q params body scope cl pm c CB) u)/\H c=some (.frz oc u')/\oc.data=.fields vs/\vs[1]? = some (.str q t)
theorem Fz.mono (h:Fz H f q params body scope cl)(e:aZ H H'):Fz H' f q params body scope cl :=
 let ⟨pm,c,CB,u,oc,u',vs,t,h1,h2,h3,h4⟩:=h;⟨pm,c,CB,u,oc,u',vs,t,e _ _ h1,e _ _ h2,h3,h4⟩
theorem lam_mk {K:PySem.W.Frag}{x:Str}{f c P:Addr}{oc:Value}{od Uh:Option Addr}{p4 NT:Array (Option Value)}{fd:FuncData}{vs:Array Value}{Ec:Str}{tf tg tt:Tok}{vc Ed:Int}{OQ:Bool}(e1:nsIn K mainGlobals x=some (some (.ref f)))(e2:K.lookup f=some ⟨oc,od,.func fd,p4⟩)
  (e3:fd.code=.ref c) (e4:K.lookup c=some ⟨.type "code",Uh,.fields vs,NT⟩) (e5:vs[11]? = some (.ref P)) (e6:vs.getD 11 .none=.ref P) (e7:vs.getD 18 .none=.str Ec tf) (e8:vs.getD 7 .none=.int vc tg) (e9:vs.getD 9 .none=.bool OQ) (Y5:vs.getD 10 .none=.int Ed tt) (Wr:(c == P)=false):A6 K x :=
 ⟨c,P,tab_yes e1 e2 e3 e4 e5,_,vs,Ec,tf,vc,tg,OQ,Ed,tt,e4,rfl,rfl,e5,e6,e7,e8,e9,Y5,λz=>by rw[z]at Wr;simp at Wr⟩
theorem A7 (l:List Value)(h:TriplesOk l)(e:codeAmong pos (l++[rawInt a,rawInt b,c])=some cv):codeAmong pos l=some cv∨cv=c:=by
 fun_induction TriplesOk l with
 |case1=>
  simp only[List.nil_append,rawInt,codeAmong]at e;split at e
  ·cases e;exact .inr rfl
  ·cases e
 |case2 a' t b' u x aD ih=>
  simp only[List.cons_append,codeAmong]at e ⊢;split at e
  ·rename_i hc;rw[if_pos hc];exact .inl e
  ·rename_i hc;rw[if_neg hc];exact ih h e
 |case3 l h1 h2=>exact h.elim
section
variable {X:Cx}{af:List (Addr×Obj)}{σ:St}{H:Hp}{s:Shared}
theorem F0 
  (hx:x∈mz) (L:A6 X.K x) (hc:∀c P,tabIn X.K x=some (c,P)->X.env.code=.ref c) (hq:X.env.qual ++ "<lambda>" = pZ x) (Od:defaultsOf params X.env=([],[])) (oB:closureFor scope X.env=pure cl)
  (I:Inv X af σ H s) (tb:Tb X.K H) (k:∀f H' s',Inv X af σ H' s'->aZ H H'->Fz H' f (pZ x) params body scope cl->Q (.ref f) s'):
  wpAny (model X.prog X.w) X.A (eval (.Lambda params body scope pos) X.env) Q E s:=by
 refine kla_eval Od ?_;rw[hq];obtain⟨c,P,ht,o,vs,Ec,tf,vc,tg,OQ,Ed,tt,lk,ck⟩:=L;have LC:=hc c P ht;have hP:=tb x hx c P ht;obtain⟨ps,e,tr,co⟩:=I.hok P _ hP;have C:CodeHd s.heap c P:=⟨o,vs,Ec,tf,vc,tg,OQ,Ed,tt,I.kIn c o lk,ck⟩;have hg:s.heap.Ns mainGlobals X.mg:=I.mod.glob.keeps I.bk;have nP:∀b,H b=none->b≠P:=λb n z=>by rw[z,hP]at n;cases n
 have Y6:mainGlobals≠P:=by
  obtain⟨og,_,_,eg,_⟩:=I.mod.glob;exact nP _ (I.bs _ _ eg).2
 have hb:s.heap.BuiltinsAt X.mg P:=by
  obtain⟨bm,ob,b1,b2,b3,b4,b5,b6⟩:=I.mod.bmain;refine⟨bm,ob,b1,b2,λz=>?_,nP _ (I.bs _ _ b3).2,I.bk _ _ b3,b4,b5,b6⟩;obtain⟨og,es,ep,eg,dg,_⟩:=I.mod.glob;rw[z,eg]at b3;cases b3;rw[dg]at b6;cases b6
 cases hf:codeAmong pos ps.toList with
 |some cv=>
  obtain⟨c',oc,u,ws,t,rfl,hH,hd,hv⟩:=co pos cv hf;refine kla_makeFunctionHit (mg:=X.mg) oB I.ok.glob hg LC C e tr hf hb λCB h' tk hk hsz=>?_;have hn:H h'.objs.size=none:=I.hok.fresh hsz;have sm:aZ H (upd H h'.objs.size (.frz (kla_obj "<lambda>" (pZ x) params body scope cl ((X.mg "__name__").getD .none) c' CB) (.own h'.objs.size))):=λb u q=>by rw[aL (ba q hn)];exact q
  refine k _ _ _ (I.laid (t':=tk) (λb u q=>vZ _ (hk b u q)) hsz (show bU X.prog X.w _ _ _ (.frz _ (.own h'.objs.size))from ⟨vY _ rfl,_,vY _ rfl⟩)) sm ?_;exact⟨_,c',CB,_,oc,u,ws,t,aH,sm _ _ hH,hd,hv⟩
 |none=>
  refine kla_makeFunction (mg:=X.mg) oB I.ok.glob hg LC C e tr hf Y6 hb λc' CB h' tk hx' hge fT hrec Uy=>?_;obtain⟨c2,oc,ws,t,e2,El,hd,hv⟩:=hrec;cases e2
  have Re:H c'=none:=I.hok.fresh hge;have hsz:s.heap.objs.size<=h'.objs.size:=vR hge (Nat.le_of_lt fT);have Y7:H h'.objs.size=none:=I.hok.fresh hsz;have Y8:c'≠h'.objs.size:=vS fT;let fo:Obj:=kla_obj "<lambda>" (pZ x) params body scope cl ((X.mg "__name__").getD .none) c' CB;let H1:Hp:=upd (upd H c' (.frz oc (.own c'))) h'.objs.size (.frz fo (.own h'.objs.size));have sm:aZ H H1:=λb u q=>by
   show upd _ _ _ b=_;rw[aL (ba q Y7),aL (ba q Re)];exact q
  have Uz:H1 c'=some (.frz oc (.own c')):=by show upd _ _ _ c'=_;rw[aL Y8,aH]
  have keep:∀b u,b≠P->s.heap.get? b=some u->(h'.push fo).get? b=some u:=λb u n q=>vZ _ (hx' b u n q);have lt:∀b u,s.heap.get? b=some u->b≠c'/\b≠h'.objs.size:=λb u q=>⟨vS (vQ (vX q) hge),vS (vQ (vX q) hsz)⟩;have Rf:(h'.push fo).get? P=some (tabObj (ps++#[rawInt pos.line,rawInt pos.col,.ref c'])):=vZ _ Uy;refine k _ H1 _ (I.un (t':=tk) (h':=h'.push fo) ⟨λb u q n _ _=>keep b u (nP b n) q,λb u q n _ _=>⟨u.slots,keep b u (nP b n) q⟩,λb u q n _=>?_,λb u q _=>?_,λb xs q=>sm _ _ q,λb ob u q=>sm _ _ q,λb u q=>sm _ _ q⟩ λb u q=>?_) sm ⟨_,c',CB,_,oc,_,ws,t,aH,Uz,hd,hv⟩
  ·show upd _ _ _ b=_;rw[aL (lt b u q).2,aL (lt b u q).1];exact n
  ·by_cases z:b=P
   ·subst z;exact⟨_,Rf⟩
   ·exact⟨u,keep b u z q⟩
  ·by_cases z1:b=h'.objs.size
   ·subst z1;have q':some (HO.frz fo (.own h'.objs.size))=some u:=by rw[←q];exact aH.symm
    cases q'
    exact⟨vY _ rfl,_,vY _ rfl⟩
   ·by_cases z2:b=c'
    ·subst z2;rw[Uz]at q;cases q;exact⟨vZ _ El,_,vZ _ El⟩
    ·have q':H b=some u:=by
      have:H1 b=H b:=by show upd _ _ _ b=_;rw[aL z1,aL z2]
      rw[←this];exact q
     by_cases z3:b=P
     ·subst z3;rw[hP]at q';cases q';refine⟨_,Rf,?_,λz7 cv' ea=>?_⟩
      ·rw[Array.toList_append];exact TriplesOk_snoc _ _ _ _ tr
      ·rw[Array.toList_append]at ea;rcases A7 _ tr ea with ea|rfl
       ·obtain⟨c3,Y9,u3,YA,t3,y1,y2,y3⟩:=co z7 cv' ea;exact⟨c3,Y9,u3,YA,t3,y1,sm _ _ y2,y3⟩
       ·exact⟨c',oc,_,ws,t,rfl,Uz,hd,hv⟩
     ·refine(I.hok b u q').stay (λd v DS r=>keep d v ?_ r) (λd r=>sm _ _ r) (λd xs r=>sm _ _ r) λd ob v r=>sm _ _ r;rcases DS with rfl|r
      ·exact z3
      ·intro z;rw[z,hP]at r;cases r
end
section
variable {P:Program}{w:World}{K:PySem.W.Frag}{mg:Str->Option Value}{base:Heap}
theorem dn.fnL {x:Str}{st:Stmt}{N ps:List Str}{k:Nat}{g:FS}{h:Heap}(F:dn K x st)(X:K.In h)(G:h.Ns mainGlobals mg)(S:FnScope N ps (aV st))
  (Kl:∀(kV doc pm:Value)(an:Option Addr)(eO ct:Value)(us:List Value),us.length=ps.length->bindArgs (fnOf x x (gk st) (cN st) (aV st) .none kV doc pm an eO ct) ⟨us,[]⟩=pure (ps.zip us))
  (hb:∀(f:Addr)(eO:Value)(A:Around)(outer:List PySem.Env)(s:Shared)(H:Hp)(E:XK),(∀c P,tabIn K x=some (c,P)->eO=.ref c)->eU k (A.deeper (envOfC x (aV st) s.heap.objs.size f eO))->xi (p6 zH P w K mg base N x (aV st) f eO A outer s H E).nox (cN st) g):
  Fn P w K mg base (k+1) x (aN g ps.length (N.length - ps.length)):=by
 obtain⟨f,fd,F1,a⟩:=F;have F2:=F1;obtain⟨oc,od,kV,doc,pm,an,eO,ct,p4,rfl,lk,jA⟩:=F2.ex;have hc:∀c P,tabIn K x=some (c,P)->eO=.ref c:=λc P e=>by
  unfold tabIn at e;simp only[a,lk]at e;split at e
  ·rename_i c' _;split at e
   ·split at e
    ·cases e;rfl
    ·cases e
   ·cases e
  ·cases e
 have len:∀vs H Q E,IH K (aN g ps.length (N.length - ps.length)) vs H Q E->vs.length=ps.length:=λvs H Q E h=>by
  obtain⟨B,ds,d,b,sB,i,e,q⟩:=h;unfold aN at e;split at e
  ·rename_i hl;rw[i.length];exact hl
  ·cases e
 refine⟨f,_,ps,K2 lk jA S len λA outer s H vs Q E hr h=>⟨_,ve.nox (hb f eO A outer s H E hc hr),?_⟩,mg_of X G a,F1.kp,F1.binds Kl⟩;have bR:=len vs H Q E h;obtain⟨B,ds,d,b,sB,i,e,q⟩:=h;unfold aN at e;rw[if_pos (by rw[←i.length];exact bR)]at e;have s0:=xJ (N:=N) sB.1 sB.2 i;rw[bR]at s0;split at e
 ·rename_i d' b' eg;cases e
  exact⟨B,H,_,_,⟨B,s0⟩,eg,λv H' N' x' i' f'=>q v H' N' x' i' f'⟩
 ·rename_i ρ' eg;cases e
  exact⟨B,H,_,_,⟨B,s0⟩,eg,λσ' H' ⟨N',s'⟩=>q .non H' N' s'.ext .non (by simp)⟩
 ·cases e
end
inductive lK (X:Cx)(N':List Str)(scope:Scope)(cl:List (Str×Addr)):Nat->List Nat->Prop where
 |nil {j:Nat}(h:N'.length=j):lK X N' scope cl j []
 |cons {j i:Nat}{r:List Nat}{x:Str}(h1:N'[j]? = some x) (h2:X.N[i]? = some x) (h3:X.env.kindOf x=some .cell∨X.env.kindOf x=some .free)
   (h4:scope.names.lookup x=some .free) (h5:cl.lookup x=X.env.cells.lookup x) (t:lK X N' scope cl (j+1) r):lK X N' scope cl j (i::r)
theorem lK.len:∀ {j:Nat}{cap:List Nat},lK X N' scope cl j cap->N'.length=j+cap.length
 |_,_,.nil h=>by rw[h];rfl
 |j,i::r,.cons _ _ _ _ _ t=>by rw[t.len,vE];omega
theorem lK.get:∀ {j:Nat}{cap:List Nat}{k i:Nat},lK X N' scope cl j cap->cap[k]? = some i->∃x,N'[j+k]? = some x/\X.N[i]? = some x/\(X.env.kindOf x=some .cell∨X.env.kindOf x=some .free) /\
  scope.names.lookup x=some .free/\cl.lookup x=X.env.cells.lookup x
 |_,_,_,_,.nil _,e=>by simp at e
 |j,_,0,_,.cons h1 h2 h3 h4 h5 _,e=>by simp at e;subst e;exact⟨_,h1,h2,h3,h4,h5⟩
 |j,_,k+1,i,.cons _ _ _ _ _ t,e=>by
  obtain⟨x,q,r⟩:=t.get (k:=k) (i:=i) (by simpa using e);exact⟨x,by rw[show j+(k+1)=j+1+k by omega];exact q,r⟩
noncomputable abbrev y7 (X:Cx)(N':List Str)(scope:Scope)(cl:List (Str×Addr))(q:Str)(A:Around)(f c:Addr)(s:Shared)(H:Hp):Cx :=
 { X with A:=A.deeper (envX q scope s.heap.objs.size f (.ref c) cl),N:=N',s₀:=s,H₀:=H,env:=envX q scope s.heap.objs.size f (.ref c) cl,outer:=X.stack,stack:=envX q scope s.heap.objs.size f (.ref c) cl::X.stack,ex:=[],fn:=λ_=>false,calm:=true,pn:=[],xe:=λ_ _=>False }
structure LamSc (X:Cx)(scope:Scope)(cl:List (Str×Addr))(y:Str):Prop where
 clos:closureFor scope X.env=pure cl
 nocell:∀z∈scope.names,z.2≠.cell
 kind:scope.kind=.function
 co:scope.isCoroutine=false
 gen:scope.isGenerator=false
 par:scope.names.lookup y=some .local
 sub:∀x c,cl.lookup x=some c->X.env.cells.lookup x=some c
 has:∀x,scope.names.lookup x=some .free->∃c,cl.lookup x=some c
theorem BB (h1:∀z∈scope.names,z.2≠.cell)(h2:scope.kind=.function)(h3:scope.isCoroutine=false)(Sn:scope.isGenerator=false)(hp:scope.names.lookup y=some .local)
  (OG:(scope.names.all λz=>!(z.2 == NameKind.free) || (X.env.cells.lookup z.1).isSome)=true):LamSc X scope (dR scope.names X.env.cells []) y:=by
 have h4:∀z∈scope.names,z.2=.free->(X.env.cells.lookup z.1).isSome=true:=λz hz e=>by
  have:=uR OG z hz;rw[e]at this;simpa using this
 exact⟨tG scope.names [] h4,h1,h2,h3,Sn,hp,λx c e=>m5 scope.names [] (λy d q=>by cases q) e,λx h=>by
  have:=m6 (x:=x) scope.names [] (fW h) (h4 _ (fW h) rfl);exact uU this⟩
section
variable {X:Cx}{af:List (Addr×Obj)}{σ:St}{H:Hp}{s:Shared}{A:Around}{N':List Str}{scope:Scope}{cl:List (Str×Addr)}{q y:Str}{cap:List Nat}
theorem Jb (S:LamSc X scope cl y)(N0:N'[0]? = some y)(cp:lK X N' scope cl 1 cap)(I:Inv X af σ H s)(hA:A.frames=some X.stack)(hh:A.handled=none)(r:aY v u)
  (Km:h₁.Ns s.heap.objs.size (λx=>[(y,u)].reverse.lookup x)) (hk:∀b o,s.heap.get? b=some o->h₁.get? b=some o):
  Inv (y7 X N' scope cl q A f c s H) [] (some v::sD 0 cap σ) H { s with heap:=h₁,toks:=tk }:=by
 have Kd:∀b:Addr,b∉(y7 X N' scope cl q A f c s H).ex:=λb z=>absurd (show b∈([]:List Addr)from z) (by simp);refine⟨⟨I.ok.mod,S.kind,rfl,rfl,vT _,λx z d e1 e2=>I.ok.inj x z d (S.sub _ _ e1) (S.sub _ _ e2),λx hx=>?_,(λx d e=>by cases e),λ_=>hh,Around.frames_deeper hA,.inr ⟨rfl,rfl⟩,λb z=>absurd z (Kd b),I.bs,vR I.ok.bsz I.sz,λb _ _=>Kd b,λb z=>absurd z (Kd b),I.stack,I.stkFree⟩,
  rfl,I.bare,Un.kept hk,⟨_,Km,λi x v' e1 e2 e3=>?_⟩,λx d e=>?_,I.hok.fresh (vT _),λx d e=>I.freeC x d (S.sub _ _ e),λp hp=>absurd (show p∈([]:List (Addr×Obj))from hp) (by simp),I.hok.kept hk,?_⟩
 ·have hx':scope.names.lookup x=some .cell∨scope.names.lookup x=some .free:=hx;rcases hx' with hx'|hx'
  ·exact absurd rfl (S.nocell _ (fW hx'))
  ·exact S.has x hx'
 ·cases i with
  |zero=>
   have L8:N'[0]? = some x:=e1;rw[N0]at L8;cases L8;have U0:some v=some v':=by simpa using e2
   cases U0
   exact⟨u,r,.inl ⟨S.par,by simp⟩⟩
  |succ k=>
   have U0:(sD 0 cap σ)[k]? = some (some v'):=by simpa using e2
   obtain⟨k',i',fD,g1,g2⟩:=wb U0;have:k=k':=by omega
   subst this;obtain⟨x',n1,n2,n3,n4,n5⟩:=cp.get g1;have:x'=x:=by
    have L8:N'[k+1]? = some x:=e1;rw[show 1+k=k+1 by omega]at n1;rw[n1]at L8;exact vK L8
   subst this;have YB:σ[i']? = some (some v'):=by
    cases z:σ[i']? with
    |none=>rw[z]at g2;cases g2
    |some w=>rw[z]at g2;cases w with
     |none=>cases g2
     |some w=>cases g2;rfl
   obtain⟨m,_,hl⟩:=I.loc;obtain⟨u',ru,lk⟩:=hl i' x' v' n2 YB (by
    rcases n3 with n3|n3
    ·exact .inr (.inl n3)
    ·exact .inr (.inr n3))
   refine⟨u',ru,.inr ⟨.inr n4,?_⟩⟩;rcases lk with⟨l1,_⟩|⟨_,d,l2,l3⟩
   ·rcases n3 with n3|n3<;>(rw[l1]at n3;cases n3)
   ·obtain⟨ob,ho,hd⟩:=l3;exact⟨d,by show cl.lookup x'=_;rw[n5];exact l2,ob,hk _ _ ho,hd⟩
 ·obtain⟨w,ob,ho,hd⟩:=I.cell x d (S.sub _ _ e);exact⟨w,ob,hk _ _ ho,hd⟩
 ·have:=cp.len;show(some v::sD 0 cap σ).length=N'.length;unfold sD;rw[this];simp;omega
theorem Jc (S:LamSc X scope cl y)(N0:N'[0]? = some y)(cp:lK X N' scope cl 1 cap)(I:Inv X af σ H s)
  (hA:A.frames=some X.stack) (hh:A.handled=none) (Hh:A.depth<recursionLimit) (lv:Fz H f q params body scope cl)
  (zA:∀pm c CB u,bindArgs (kla_fn "<lambda>" q params body scope cl pm (.ref c) CB) ⟨[u],[]⟩=pure [(y,u)])
  (hb:∀(f c:Addr)(s:Shared)(H:Hp),JE (y7 X N' scope cl q A f c s H) body fb)
  (rep:fw X.K B σ ρ) (sB:aZ B H) (r:aY v u) (i:Is X.K B v d) (e:fb (some (d,false)::cF 0 cap ρ)=some (d',b')) (qf:Fin X.K B H d' b' Q):
  wpAny (model X.prog X.w) A (call (.ref f) [u]) (EP X af σ Q) (λ_ _=>False) s:=by
 obtain⟨pm,c,CB,uf,oc,u',ws,t,hf,hc,hd,hv⟩:=lv;have ho:=(I.hok f _ hf).1;have El:=(I.hok c _ hc).1;refine wpAny_call (codeAny_mono (R:=λr s'=>CR zH X.stack X.prog X.w H s Q (λ_ _ _=>False) r s') ?_ λr s' hq=>?_)
 ·refine kla_callFunE Hh ho rfl S.co S.gen rfl ⟨c,oc,ws,t,rfl,El,hd,hv⟩ ?_;rw[zA];refine wY (wpAny_newFunctionEnv S.nocell (λz hz=>by rw[uT hz];exact S.par) (λh₁ Km hsb=>⟨I.nolimit.fresh _ hsb,?_⟩) S.kind);have Rg:∀b o,s.heap.get? b=some o->h₁.get? b=some o:=λb o e=>hsb.extBut b o (vS (vX e)) (vZ _ e);have J:=Jb (f:=f) (c:=c) (q:=q) (tk:=s.toks+1) S N0 cp I hA hh r Km Rg;refine kla_codeExpr (wpAny_mono (hb f c s H [] _ _ H Q J ⟨B,_,d',b',sB,⟨rep.tb,λj e0 b0 z=>?_⟩,e,qf⟩) (λw s' hw=>?_) λ_ _ z=>z.elim)
  ·cases j with
   |zero=>
    have z':some (d,false)=some (e0,b0):=by simpa using z
    cases z'
    exact⟨v,rfl,i⟩
   |succ j=>
    obtain⟨w,h1,h2⟩:=(rep.caps (nT:=0) (cap:=cap)).at' j e0 b0 (by simpa using z);exact⟨w,by simpa using h1,h2⟩
  ·obtain⟨v',H',J',rv,qv⟩:=hw;exact⟨v',H',J'.os,J'.bare,J'.base,J'.hok,rv,qv⟩
 ·cases r with
  |error e=>exact False.elim hq
  |ok fl=>
   cases fl with
   |ret w=>exact I.after hq
   |next=>exact False.elim hq
   |brk=>exact False.elim hq
   |cont=>exact False.elim hq
end
end DL
namespace DL
open PySem PySem.Spec PySem.W PyProof.Rows L2
section
variable {X:Cx}{af:List (Addr×Obj)}{σ:St}{H:Hp}{s:Shared}{h':Heap}{t':Nat}
theorem om (I:Inv X ((p,o)::af) σ H s):∀x c,X.env.cells.lookup x=some c->c≠p:=λx c e z=>by
 have pf:=I.pin (p,o) (mY _ mX);obtain⟨v,ob,ho,hd⟩:=I.cell x c e;rw[z,pf.1]at ho;cases ho;exact pf.2.2.2.2 v hd
theorem k8 (I:Inv X (p::af) σ H s):Inv X af σ H s:=I.pins_of λq hq=>I.pin q (mY _ (mZ _ hq))
theorem g8 (I:Inv X ((p,o)::af) σ H s)(h0:X.s₀.heap.objs.size<=p)(hp:∀q∈X.pn++af,q.1≠p)(k:∀b u,b≠p->s.heap.get? b=some u->h'.get? b=some u)(e':h'.get? p=some o')(nc:∀v,o'.data≠.cell v):
  Inv X ((p,o')::af) σ H { s with heap:=h',toks:=t' }:=by
 have pf:=I.pin (p,o) (mY _ mX);have J:=(k8 I).turned (t':=t') k pf.2.1 pf.2.2.1 (.inr h0) (om I) hp;refine J.pins_of λq hq=>?_;rcases vP hq with rfl|hq
 ·exact⟨e',pf.2.1,pf.2.2.1,pf.2.2.2.1,nc⟩
 ·exact J.pin q (mY _ hq)
theorem pL (I:Inv X af σ H s)(k:∀b u,s.heap.get? b=some u->h'.get? b=some u)(hs:s.heap.objs.size<=p)(e':h'.get? p=some o)(nc:∀v,o.data≠.cell v):Inv X ((p,o)::af) σ H { s with heap:=h',toks:=t' }:=by
 have J:=I.kept (t':=t') k;refine J.pins_of λq hq=>?_;rcases vP hq with rfl|hq
 ·exact⟨e',I.hok.fresh hs,Nat.ne_of_gt (vQ I.lt hs),I.nofs hs,nc⟩
 ·exact J.pin q (mY _ hq)
theorem Jd (I:Inv X ((p,o)::af) σ H s)(h0:X.s₀.heap.objs.size<=p)(hp:∀q∈X.pn++af,q.1≠p)(k:∀b u,b≠p->s.heap.get? b=some u->h'.get? b=some u)(eo:∃u,h'.get? p=some u)
  (new:bU X.prog X.w (upd H p ob) h' p ob):Inv X af σ (upd H p ob) { s with heap:=h',toks:=t' }:=by
 have pf:=I.pin (p,o) (mY _ mX);have hn:=pf.2.1;have hn:H p=none:=hn;have cs:=om I;refine(k8 I).step (g':=s.gens) (d':=s.drawn) (ch:=[p]) (λb hb=>?_) (λb u _ _ hc e _=>k b u (λz=>hc (by simp[z])) e) (λb u _ _ hc e _=>⟨u.slots,k b u (λz=>hc (by simp[z])) e⟩) (λb u hc _ n=>by rw[aL (λz=>hc (by simp[z]))];exact n)
  (λb u hc e=>⟨u,k b u (λz=>hc (by simp[z])) e⟩) (λb xs e=>by rw[aL (ba e hn)];exact e) (λb u w e=>by rw[aL (ba e hn)];exact e) (λb q e=>by rw[aL (ba e hn)];exact e) (λm hm=>?_) (λb u e=>?_) I.bare
 ·have z:b=p:=by simpa using hb
  subst z;exact⟨.inr h0,pf.2.2.1,cs,hp⟩
 ·obtain⟨ol,es,ep,ho,r⟩:=hm;exact⟨ol,es,ep,k _ ol (λz=>pf.2.2.1 z.symm) ho,r⟩
 ·by_cases z:b=p
  ·subst z;rw[aH]at e;cases e;exact new
  ·rw[aL z]at e;refine(I.hok b u e).stay (λc v hc q=>k c v ?_ q) (λc q=>?_) (λc xs q=>?_) λc w xs q=>?_
   ·rcases hc with rfl|hc
    ·exact z
    ·exact ba hc hn
   ·rw[aL (ba q hn)];exact q
   ·rw[aL (ba q hn)];exact q
   ·rw[aL (ba q hn)];exact q
end
def F3 (X:Cx)(A:Around)(σ:St)(qv:Value)(B H1:Hp)(kf:D->Option D):Prop :=
 ∀(af:List (Addr×Obj))(s:Shared)(H N:Hp)(v:V)(u:Value)(d d':D),Inv X af σ H s->aZ H1 H->aZ B N->aZ N H->Is X.K N v d->aY v u->kf d=some d' ->
  wpAny (model X.prog X.w) A (call qv [u]) (EP X af σ λv' H'=>∃N',Ext N N' H H'/\Is X.K N' v' d') (λ_ _=>False) s
def JK (X:Cx)(A:Around)(e:Expr)(kf:Env->D->Option D):Prop:=∀(af:List (Addr×Obj))(s:Shared)(σ:St)(H B:Hp)(ρ:Env)(Q:Value->Shared->Prop)(E:Value->Shared->Prop),Inv X af σ H s->aZ B H->fw X.K B σ ρ ->
 (∀qa H1 s1,Inv X af σ H1 s1->aZ H H1->F3 X A σ (.ref qa) B H1 (kf ρ)->Q (.ref qa) s1)->wpAny (model X.prog X.w) X.A (eval e X.env) Q E s
section
variable {X:Cx}{A:Around}
@[simp] def q8 (cap:List Nat)(fb:FE):Env->D->Option D:=λρ d=>(fb (some (d,false)::cF 0 cap ρ)).map (·.1)
theorem wC (hx:x∈mz)(L:A6 X.K x)(hc:∀c P,tabIn X.K x=some (c,P)->X.env.code=.ref c)(hq:X.env.qual ++ "<lambda>" = pZ x)
  (Od:defaultsOf params X.env=([],[])) (S:LamSc X scope (dR scope.names X.env.cells []) y) (N0:N'[0]? = some y) (cp:lK X N' scope (dR scope.names X.env.cells []) 1 cap) (hA:A.frames=X.A.frames) (hr:eU (k+1) A)
  (zA:∀pm c CB u,bindArgs (kla_fn "<lambda>" (pZ x) params body scope (dR scope.names X.env.cells []) pm (.ref c) CB) ⟨[u],[]⟩=pure [(y,u)])
  (hb:∀(f c:Addr)(s:Shared)(H:Hp),eU k (y7 X N' scope (dR scope.names X.env.cells []) (pZ x) A f c s H).A->JE (y7 X N' scope (dR scope.names X.env.cells []) (pZ x) A f c s H) body fb):JK X A (.Lambda params body scope pos) (q8 cap fb):=by
 intro af s σ H B ρ Q E I sB rep kk;refine F0 hx L hc hq Od S.clos I (rep.tb.mono sB) λf H1 s1 I1 sm lv=>kk f H1 s1 I1 sm ?_;intro GU s' H' N v u d d' I' m1 m2 m3 iv r e;simp only[q8]at e;obtain⟨⟨d2,b2⟩,e1,e2⟩:=oY e;cases e2
 exact Jc S N0 cp I' (hA.trans I'.ok.frames) hr.hd hr.depth (lv.mono m1) zA (λf c s H=>hb f c s H (hr.deeper _)) (rep.mono m2) m3 r iv e1 λv' H2 N2 x2 i2 _=>⟨N2,x2,i2⟩
@[simp] noncomputable def sL (g:List D->Option (D×Bool)):Env->D->Option D:=λ_ d=>(g [d]).map (·.1)
theorem BC (F:Fn X.prog X.w X.K X.mg X.base k x g)(hr:eU k A)(hA:A.frames=X.A.frames)(hg:Gl X x:=by rfl)(sk:(x == ("__debug__" : Str))=false:=by decide):JK X A (.Name x p) (sL g):=by
 intro af s σ H B ρ Q E I sB rep kk;obtain⟨ad,fd,ps,F1,hm,hk,hb⟩:=F.ex;refine vg I hg hm ?_ sk;refine kk ad H s I (.refl H) ?_;intro GU s' H' N v u d d' I' m1 m2 m3 iv r e;simp only[sL]at e;obtain⟨⟨d2,b2⟩,e1,e2⟩:=oY e;cases e2
 have sp:IH X.K g [v] H' (λv' H2=>∃N',Ext N N' H' H2/\Is X.K N' v' d2) (λ_ _ _=>False):=⟨N,[d],d2,b2,⟨m3,rep.tb.mono m2⟩,.cons iv .nil,e1,λv' H2 N2 x2 i2 _=>⟨N2,x2,i2⟩⟩;have hl:[u].length=ps.length:=by have:=F1.len _ _ _ _ sp;simpa using this
 have e0:=I'.env0;have bb:=hb s' [u] I'.kIn (by simpa using hl);rw[uQ]at bb;refine wpAny_call (codeAny_mono (F1.run A X.stack s' H' ⟨[u],[]⟩ [u] [v] _ (λ_ _ _=>False) hr ⟨hA.trans e0.frames,e0.mod,e0.bs,e0.bsz,e0.funs,e0.frf,e0.hok,e0.bare⟩ bb (.cons r .nil) sp) λr s' hq=>?_);cases r with
 |error e=>exact False.elim hq
 |ok fl=>
  cases fl with
  |ret w=>exact I'.after hq
  |next=>exact False.elim hq
  |brk=>exact False.elim hq
  |cont=>exact False.elim hq
end
noncomputable def jK (f:D->Option D):List D->Option (List D)
 |[]=>some []
 |d::ds=>(f d).bind λx=>(jK f ds).map (x :: ·)
theorem im:∀ {ds ks:List D},jK f ds=some ks->ks.length=ds.length
 |[],_,h=>by simp only[jK]at h;cases h;rfl
 |d::ds,_,h=>by
  simp only[jK]at h;obtain⟨a,h1,h⟩:=oX h;obtain⟨r,h2,h⟩:=oY h;subst h;simp[im h2]
theorem mG:∀ {ds ks:List D},jK f ds=some ks->∀ {i:Nat}{d:D},ds[i]? = some d->∃k,ks[i]? = some k/\f d=some k
 |[],_,h,i,d,e=>by simp at e
 |d::ds,_,h,0,e,q=>by
  simp only[jK]at h;obtain⟨a,h1,h⟩:=oX h;obtain⟨r,h2,h⟩:=oY h;subst h;simp at q;subst q;exact⟨a,by simp,h1⟩
 |d::ds,_,h,i+1,e,q=>by
  simp only[jK]at h;obtain⟨a,h1,h⟩:=oX h;obtain⟨r,h2,h⟩:=oY h;subst h;obtain⟨k,z1,z2⟩:=mG h2 (i:=i) (d:=e) (by simpa using q);exact⟨k,by simpa using z1,z2⟩
structure KK (X:Cx)(A:Around)(kd:List D->Option (List (List At)))(ok:List (List At)->Bool):Prop where
 len:∀ {ds:List D}{ks:List (List At)},kd ds=some ks->ks.length=ds.length
 ask:∀ {af:List (Addr×Obj)}{σ:St}{H:Hp}{s:Shared}(_:Inv X af σ H s) {ys:List V}{ds:List D}{ks:List (List At)}{its:List Value},bf ys its->IsL X.K H ys ds->kd ds=some ks->ok ks=true->eJ ks=true ->
  (0<ks.length->∀ {E:Value->Shared->Prop}{Q:SortKind->Shared->Prop},Q (tuples' true) s->wpAny (model X.prog X.w) A (keyKind' its.toArray) Q E s) /\
  ∀(i j:Nat)(C:Bool->Shared->Prop)(s1:Shared),i<ks.length->j<ks.length->s1=s->(∀s',s'=s->C (qu (HA ks) i j) s')->kas_ask X.prog X.w A (tuples' true) its i j C s1
theorem F4:KK X A dU fJ:=⟨jv,λI _ _ _ _ r i e hf hc=>have hp:=pK I r i e;⟨λhn _ _ q=>Fw hp hf hn q,IZ hc hp⟩⟩
section
variable {X:Cx}{af:List (Addr×Obj)}{σ:St}{s:Shared}
theorem ua (r:aY x u):∀ {vs:List V}{us:List Value},bf vs us->bf (vs++[x]) (us++[u])
 |_,_,.nil=>.cons r .nil
 |_,_,.cons h t=>.cons h (ua r t)
theorem dr:∀v,(Obj.mk c od (.seq its n) sl).data≠.cell v:=λv z=>by cases z
theorem A8 
  (I:Inv X ((a,seqObj "list" its.toArray n)::af) σ H s) (h0:X.s₀.heap.objs.size<=a) (hp:∀q∈X.pn++af,q.1≠a) (LD:F3 X A σ qv B H kf) (rv:bf vs its) (iv:IsL X.K B vs ds) (sB:aZ B H)
  (M:KK X A kd ok) (em:jK kf ds=some gM) (ek:kd gM=some ks) (hc:eJ ks=true) (hf:ok ks=true) (Eb:its.length<64)
  (h:∀(p:Array Nat)(s':Shared)(H' N:Hp),pE its.length p->Up (HA ks) p its.length->Inv X af σ (upd H' a (.lst (p.toList.map λi=>vs.getD i .non))) s'->Ext B N H H'->H' a=none->P (.done (.ret .none)) s'):
  wpAny (model X.prog X.w) A (ksk_tree a qv false) P E s:=by
 have pa:=I.pin (a,seqObj "list" its.toArray n) (mY _ mX)
 have zN:vs.length=its.length:=rv.length
 have LB:ds.length=vs.length:=iv.length.symm
 have Ws:gM.length=ds.length:=im em
 have U1:ks.length=gM.length:=M.len ek
 have hz:its.length<=sizeLine:=by rw[sizeLine_eq];omega
 have ZM:H a=none:=pa.2.1
 obtain⟨e1,OL⟩:∃e1,(s.heap.update a (Obj.mapSeq λ_=>(#[]:Array Value))).get? a=some (seqObj "list" #[] e1):=⟨_,get?_update_seq pa.1 λ_=>#[]⟩
 have u1:=vW s.heap a (Obj.mapSeq λ_=>(#[]:Array Value))
 have I1:Inv X ((a,seqObj "list" #[] e1)::af) σ H { s with heap:=s.heap.update a (Obj.mapSeq λ_=>(#[]:Array Value)) }:=g8 (t':=s.toks) I h0 hp (λb u n q=>(u1.2 b n).trans q) OL dr
 let h2:Heap:=(s.heap.update a (Obj.mapSeq λ_=>(#[]:Array Value))).push (seqObj "tuple" its.toArray 0)
 have I2:Inv X ((a,seqObj "list" #[] e1)::af) σ H { s with heap:=h2 }:=I1.kept (t':=s.toks) λb u q=>vZ _ q
 let kS:Addr:=h2.objs.size
 have I3:Inv X ((kS,seqObj "list" #[] 0)::(a,seqObj "list" #[] e1)::af) σ H { s with heap:=h2.push (seqObj "list" #[] 0) }:=pL (s:={ s with heap:=h2 }) (t':=s.toks) I2 (λb u q=>vZ _ q) (vT _) (vY _ rfl) dr
 have k0:X.s₀.heap.objs.size<=kS:=I2.sz
 have kp:∀q∈X.pn++((a,seqObj "list" #[] e1)::af),q.1≠kS:=λq hq=>vS (vX (I2.pin q hq).1)
 have ZN:kS≠a:=λz=>kp (a,seqObj "list" #[] e1) (mY _ mX) z.symm
 unfold ksk_tree
 refine wX (listItems_at pa.1 rfl ?_)
 refine wX (listUpdate_at pa.1 rfl ?_ (by simpa using hz) (uN _))
 refine wX (seqEpoch_at OL rfl ?_)
 refine wX (wpAny_newTuple ?_ (by show its.length<=sizeLine;exact hz))
 refine wX (wpAny_newList ?_ (uN _))
 refine wpAny_holding ?_
 show wpAny (model X.prog X.w) A (ksk_rest a qv false its.toArray e1 (.ref kS)) P E { s with heap:=h2.push (seqObj "list" #[] 0) }
 unfold ksk_rest
 refine wX (wpAny_rule ?_)
 rw[List.forIn_toArray]
 refine wX (ksk_fold (λi s'=>∃(H' N:Hp)(kA:Array Value)(e:Nat)(aM:List V),Inv X ((kS,seqObj "list" kA e)::(a,seqObj "list" #[] e1)::af) σ H' s'/\Ext B N H H'/\bf aM kA.toList/\IsL X.K N aM (gM.take i)) its 0 _
  ⟨H,B,#[],0,[],I3,.refl sB,.nil,by simpa using IsL.nil⟩ ?step ?done)
 case step=>
  rintro j u s' hu ⟨H',N,kA,e,aM,J,x1,rk,ik⟩
  simp only[Nat.zero_add]at ik ⊢
  have hj:j<its.length:=(vV hu).1
  obtain⟨d,hd⟩:∃d,ds[j]? = some d:=⟨_,vU (by omega)⟩
  obtain⟨v,hv,Oe⟩:=iv.get hd
  obtain⟨kd,Rh,Ri⟩:=mG em hd
  obtain⟨u',HF,ru⟩:=rv.get hv
  rw[hu]at HF;cases HF
  have kl:kA.size=j:=by
   have z1:=rk.length
   have z2:=ik.length
   rw[List.length_take]at z2
   rw[vG]at z1
   exact z1.symm.trans (z2.trans (Nat.min_eq_left (by omega)))
  refine wX (wpAny_attempt (wpAny_mono (LD _ s' H' N v u d kd J x1.hh x1.bn x1.nh (Oe.mono x1.bn) ru Ri) (λw sT hw=>?_) λ_ _ hF=>hF.elim))
  obtain⟨v',YC,J',YD,N',x2,i2⟩:=hw
  have pk:=J'.pin (kS,seqObj "list" kA e) (mY _ mX)
  obtain⟨c2,xl⟩:∃c2,(sT.heap.update kS (Obj.mapSeq (·.push w))).get? kS=some (seqObj "list" (kA.push w) c2):=⟨_,get?_update_seq pk.1 (·.push w)⟩
  have u2:=vW sT.heap kS (Obj.mapSeq (·.push w))
  refine wX (listUpdate_at pk.1 rfl ?_ (by rw[sizeLine_eq];omega) (vR (Nat.le_of_eq (Array.size_push ..)) (by rw[sizeLine_eq];omega)))
  refine wY ⟨rfl,YC,N',kA.push w,c2,aM++[v'],g8 (t':=sT.toks) J' k0 kp (λb q n z=>(u2.2 b n).trans z) xl dr,x1.trans x2,?_,?_⟩
  ·rw[Array.toList_push];exact ua YD rk
  ·rw[List.take_add_one,Rh];exact(ik.mono x2.bn).append (.cons i2 .nil)
 case done=>
  rintro s' ⟨H',N,kA,e,aM,J,x1,rk,ik⟩
  have Wt:IsL X.K N aM gM:=by
   have z:gM.take (0+its.length)=gM:=List.take_of_length_le (by omega)
   rw[z]at ik;exact ik
  have pk:=J.pin (kS,seqObj "list" kA e) (mY _ mX)
  have YE:=J.pin (a,seqObj "list" #[] e1) (mY _ (mZ _ mX))
  have TD:H' a=none:=YE.2.1
  have kz:kA.toList.length=its.length:=by rw[←rk.length,Wt.length];omega
  have Wu:kA.size=its.length:=by rw[←vG];exact kz
  refine wX (listItems_at pk.1 rfl ?_)
  have Wv:=M.ask J rk (Wt.mono x1.nh) ek hf hc
  -- the end of the sort,for a permutation p
  have Rj:∀(st:SortSt)(p:Array Nat),arrOf st=p.map (kas_item (kA.toList.toArray.zip its.toArray))->failedOf st=none->pE its.length p->Up (HA ks) p its.length ->
    wpAny (model X.prog X.w) A (ksk_tail a false e1 (.ref kS) st) P E s':=λst p ea ef ap up=>by
   have eo:(arrOf st).map (·.2)=List.toArray (p.toList.map λi=>its.getD i Value.none):=kat_snds kz ea
   have Kq:∀i∈p.toList,i<vs.length:=λi hi=>by
    have:=List.mem_range.mp (ap.perm.mem_iff.mp hi)
    omega
   obtain⟨c3,YF⟩:∃c3,(s'.heap.update kS (Obj.mapSeq λ_=>(#[]:Array Value))).get? kS=some (seqObj "list" #[] c3):=⟨_,get?_update_seq pk.1 λ_=>#[]⟩
   have u3:=vW s'.heap kS (Obj.mapSeq λ_=>(#[]:Array Value))
   have J3:=k8 (g8 (t':=s'.toks) J k0 kp (λb q n z=>(u3.2 b n).trans z) YF dr)
   have U2:=J3.pin (a,seqObj "list" #[] e1) (mY _ mX)
   obtain⟨c4,Ww⟩:∃c4,((s'.heap.update kS (Obj.mapSeq λ_=>(#[]:Array Value))).update a (Obj.mapSeq λ_=>(arrOf st).map (·.2))).get? a=some (seqObj "list" ((arrOf st).map (·.2)) c4):=⟨_,get?_update_seq U2.1 λ_=>(arrOf st).map (·.2)⟩
   have u4:=vW (s'.heap.update kS (Obj.mapSeq λ_=>(#[]:Array Value))) a (Obj.mapSeq λ_=>(arrOf st).map (·.2))
   have so:((arrOf st).map (·.2)).size=its.length:=by rw[eo];simp only[vH,vI,vG,ap.size]
   unfold ksk_tail
   try dsimp only
   refine wX (listUpdate_at pk.1 rfl ?_ (by rw[Wu,sizeLine_eq];omega) (uN _))
   refine wX (wpAny_letGo ?_)
   refine wX (seqEpoch_at U2.1 rfl ?_)
   refine wX (listUpdate_at U2.1 rfl ?_ (uN _) (by simp only[uV,if_false];rw[so,sizeLine_eq];omega))
   rw[ef]
   simp only[bne_self_eq_false,uV,if_false]
   refine wY (h p _ H' N ap up (Jd (s:={ s' with heap:=s'.heap.update kS (Obj.mapSeq λ_=>(#[]:Array Value)) }) (t':=s'.toks) J3 h0 hp (λb q n z=>(u4.2 b n).trans z) ⟨_,Ww⟩ ?_) x1 TD)
   refine⟨by rw[vI,vG,ap.size];exact hz,p.toList.map λi=>its.getD i Value.none,c4,tZ rv p.toList Kq,?_⟩
   rw[←eo];exact Ww
  unfold ksk_end
  try dsimp only
  simp only[uV,if_false]
  have YG:kA=kA.toList.toArray:=by simp
  by_cases Hd:its.toArray.size<2
  ·rw[if_pos Hd,if_pos Hd]
   refine wX (wY ?_)
   rw[StateT.run_pure]
   refine wX (wY ?_)
   have Wx:its.length<2:=by simpa using Hd
   refine Rj _ (List.toArray (List.range its.length)) ?_ rfl ⟨by simp,by simp⟩ ?_
   ·show kA.zip its.toArray=_
    have:=kas_range (kA.toList.toArray.zip its.toArray)
    rw[show(kA.toList.toArray.zip its.toArray).size=its.length by simp[Wu]]at this
    rw[this]
   ·intro i j CA hj
    have:i=j:=by omega
    subst this;exact Int.le_refl _
  ·rw[if_neg Hd,if_neg Hd]
   have U3:2<=its.length:=by simp at Hd;omega
   rw[YG]
   refine wX (Wv.1 (by omega) ?_)
   obtain⟨p,r1,r2,r3⟩:=Fu (n:=its.length) (rk:=HA ks) (by omega)
   refine wX (wpAny_mono (kat_run (E:=E) (ks:=kA.toList) (vs:=its) (κ:=tuples' true) (s:=s') (Q:=λlH s2=>s2=s'/\arrOf lH=p.map (kas_item (kA.toList.toArray.zip its.toArray))/\failedOf lH=none)
    (G:=λp' s2=>p'=p/\s2=s') kz U3 Eb (λp' lH s2 _ e2 e3 e4=>by
     obtain⟨rfl,rfl⟩:=e4
     exact⟨rfl,e2,e3⟩) (Run.wp (λs2=>s2=s') (λi j C s2 hi hj e hC=>Wv.2 i j C s2 (by omega) (by omega) e hC) r1 rfl λs2 e=>⟨rfl,e⟩)) (λr s2 hr=>?_) λ_ _ z=>z)
   obtain⟨⟨⟩,lH⟩:=r
   obtain⟨rfl,e2,e3⟩:=hr
   exact Rj lH p e2 e3 r2 r3
end
theorem y8 {α β:Type}{f:α->β}:∀ {l:List α},(l.map f).Nodup->l.Nodup
 |[],_=>List.nodup_nil
 |a::l,h=>by
  rw[uY,List.nodup_cons]at h;exact List.nodup_cons.mpr ⟨λz=>h.1 (uS ⟨a,z,rfl⟩),y8 h.2⟩
def jw (ks:List (List At))(ds:List D):List D:=(eI (λp:List At×D=>cP p.1) (ks.zip ds)).map (·.2)
theorem F5 {α β:Type}(d:α)(e:β):∀ {l₁:List α}{l₂:List β},l₁.length=l₂.length->(List.range l₂.length).map (λi=>(l₁.getD i d,l₂.getD i e))=l₁.zip l₂:=λ{l₁ l₂} h=>by
 apply List.ext_getElem?;intro i;by_cases hi:i<l₂.length
 ·have L9:i<l₁.length:=by omega
  have:=(List.getElem?_zip_eq_some (z:=(l₁[i],l₂[i]))).mpr ⟨vU L9,vU hi⟩;rw[this];simp[hi,L9]
 ·simp[hi,h]
theorem Je {α β:Type}{l₁:List α}{l₂:List β}(nd:l₁.Nodup){a:α}{b c:β}(h1:(a,b)∈l₁.zip l₂)(h2:(a,c)∈l₁.zip l₂):b=c:=by
 obtain⟨i,hi⟩:=List.mem_iff_getElem?.mp h1;obtain⟨j,hj⟩:=List.mem_iff_getElem?.mp h2;obtain⟨i1,i2⟩:=List.getElem?_zip_eq_some.mp hi;obtain⟨j1,j2⟩:=List.getElem?_zip_eq_some.mp hj;obtain⟨li,ei⟩:=vV i1;obtain⟨lj,ej⟩:=vV j1;have:i=j:=(List.getElem_inj nd).mp (ei.trans ej.symm);subst this;rw[i2]at j2;exact vK j2
theorem A9 {ds:List D}{ks:List (List At)}{p:Array Nat}(hl:ks.length=ds.length)(hc:eJ ks=true)(nd:ks.Nodup)(ap:pE ds.length p)(up:Up (HA ks) p ds.length):p.toList.map (λi=>ds.getD i .non)=jw ks ds:=by
 unfold jw;have e:p.toList.map (λi=>(ks.getD i [],ds.getD i .non))=eI (λp:List At×D=>cP p.1) (ks.zip ds):=by
  apply k7
  ·intro x hx y hy e;have mx:=(List.of_mem_zip hx).1;have my:=(List.of_mem_zip hy).1;have:=oi hc mx my e;obtain⟨k1,d1⟩:=x;obtain⟨k2,d2⟩:=y;have z:k1=k2:=this;subst z;rw[Je nd hx hy]
  ·have:=ap.perm.map (λi=>(ks.getD i [],ds.getD i D.non));rw[F5 [] D.non hl]at this;exact this
  ·rw[List.pairwise_iff_getElem];intro i j hi hj CA;have hsz:=ap.size;have L9:i<p.size:=by simpa using hi
   have So:j<p.size:=by simpa using hj
   have:=up i j (Nat.le_of_lt CA) (by omega);unfold c8 HA at this;have gi:p.getD i 0=p[i]:=by rw[Array.getD_eq_getD_getElem?,Array.getElem?_eq_getElem L9];rfl
   have gj:p.getD j 0=p[j]:=by rw[Array.getD_eq_getD_getElem?,Array.getElem?_eq_getElem So];rfl
   have lj:=ap.lt (k:=j) (by omega);have mj:ks.getD (p.getD j 0) []∈ks:=by
    have h':p.getD j 0<ks.length:=by omega
    rw[vF,vU h'];exact List.getElem_mem h'
   have nl:¬cP (ks.getD (p.getD j 0) [])<cP (ks.getD (p.getD i 0) []):=λz=>by
    have:=B6 (cs:=ks.map cP) (uS ⟨_,mj,rfl⟩) z;omega
   simp only[List.getElem_map,Array.getElem_toList];unfold Hz;rw[←gi,←gj];exact nl
 rw[←e,uP];rfl
@[simp] def wD (kd:List D->Option (List (List At)))(ok:List (List At)->Bool)(f:FE)(kf:Env->D->Option D):FE:=λρ=>(f ρ).bind λx=>match x.1 with
 |.lst ds=>(jK (kf ρ) ds).bind λgM=>(kd gM).bind λks=>if ks.length<64/\eJ ks=true/\ok ks=true/\(ks.map cP).Nodup then some (.lst (jw ks ds),true)else none
 |_=>none
@[simp] abbrev qA:FE->(Env->D->Option D)->FE:=wD dU fJ
section
variable {X:Cx}{e ke:Expr}{p pos kp:Pos}
theorem F6 {kd:List D->Option (List (List At))}{ok:List (List At)->Bool}(M:KK X X.A.in1.in1 kd ok){f:FE}{kf:Env->D->Option D}(hm:X.mg "sorted" = none)(he:JE X e f)(hk:JK X X.A.in1.in1 ke kf)(hg:Gl X "sorted":=by rfl)
  (U4:starEach [e] X.env=[(false,eval e X.env)]:=by rfl) (U5:backTo pos (starEach [e] X.env)=(false,eval e X.env)::backTo pos (starEach [] X.env):=by rfl) (lx:(backTo pos (starEach [e] X.env)).any (·.1)=false:=by rfl)
  (nL:(backToKw pos (keywordEach [⟨some "key",ke,kp⟩] X.env)).all (·.1.isSome)=true:=by rfl) (U6:(backToKw pos (keywordEach [⟨some "key",ke,kp⟩] X.env)).any (·.1.isNone)=false:=by rfl)
  (U7:(backToKw pos (keywordEach [⟨some "key",ke,kp⟩] X.env)).filterMap (·.1)=[("key" : Str)]:=by rfl):
  JE X (.Call (.Name "sorted" p) [e] [⟨some "key",ke,kp⟩] pos) (wD kd ok f kf):=by
 intro af s σ H Q I h;obtain⟨B,ρ,d,b,sB,rep,ee,q⟩:=h;obtain⟨⟨xd,xb⟩,ex,ee⟩:=oX ee;cases xd<;>try (cases ee;done)
 rename_i ds;obtain⟨gM,em,ee⟩:=oX ee;obtain⟨ks,ek,ee⟩:=oX ee;split at ee
 ·rename_i hh;obtain⟨Eb,hc,hf,nd⟩:=hh;cases ee
  refine wpAny_Call_Name_kw (lM I hg hm (u:=.builtin "sorted") rfl ?_);refine callWith_kw (cR ((iN he km U4) pos af s σ H (λvs H1=>∃v N,vs=[v]/\Ext B N H H1/\Is X.K N v (.lst ds)) I ⟨B,ρ,_,_,sB,rep,ex,λv H1 N x1 i1 _=>⟨v,N,rfl,x1,i1⟩⟩) λus s1 hA=>?_) U5 lx nL U6;obtain⟨YH,H1,I1,r1,v,N,rfl,x1,i1⟩:=hA;obtain⟨u,rfl,ru⟩:=gY r1;refine kws_cons (hk af s1 σ H1 N ρ _ _ I1 x1.nh (rep.mono x1.bn) λqa H2 s2 I2 m2 LD=>kws_nil ?_);rw[U7];show wpAny _ _ (call (.builtin "sorted") [u] [(("key" : Str),.ref qa)]) _ _ _;cases i1
  rename_i l vs hq il;cases ru
  have sN:aZ N H2:=x1.nh.trans m2;obtain⟨its,rv,pl,hz⟩:=I2.list (sN.seq hq);have zN:vs.length=its.length:=rv.length;have LB:ds.length=vs.length:=il.length.symm;have Ws:gM.length=ds.length:=im em;have U1:ks.length=gM.length:=M.len ek;have U8:its.length<64:=by omega
  refine call_function_entry_kw kind_sorted plain_sorted entry_sorted (ksk_s1 _ _) ?_;unfold Builtin.«sorted»;refine wX (m:=checkCount "sorted" 1 1 _) (wY (wX (collect_list pl.isList (wX (wpAny_newList ?_ (by rw[sizeLine_eq];omega))) (by rw[sizeLine_eq];omega))));let h1:Heap:=(s2.heap.push (seqObj "list" #[] 0)).update s2.heap.objs.size (Obj.mapSeq (· ++ its.toArray));have hsz:h1.objs.size=s2.heap.objs.size+1:=by show(Heap.update _ _ _).objs.size=_;rw[Heap.size_update,size_push']
  have Rk:∀b o,s2.heap.get? b=some o->h1.get? b=some o:=λb o q=>(Heap.get?_update_ne _ _ _ _ (vS (vX q))).trans (vZ _ q);have I3:Inv X ((h1.objs.size,seqObj "list" its.toArray 0)::af) σ H2 { s2 with heap:=h1.push (seqObj "list" its.toArray 0) } :=
   pL (t':=s2.toks) I2 (λb u q=>vZ _ (Rk b u q)) (by rw[hsz];exact Nat.le_succ _) (vY _ rfl) dr
  have p3:=I3.pin (h1.objs.size,seqObj "list" its.toArray 0) (mY _ mX);show wpAny (model X.prog X.w) X.A.in1 (holding [.ref h1.objs.size] (call (.builtin "list.sort") [.ref h1.objs.size] [(("key" : Str),.ref qa)])>>=_) _ _ { s2 with heap:=h1.push (seqObj "list" its.toArray 0) };refine wX (wpAny_holding (wpAny_call_entry_kw slot_list_sort ⟨_,p3.1,rfl⟩ entry_list_sort ?_ (ksk_l1 _ _)));show wpAny (model X.prog X.w) X.A.in1.in1 (Builtin.«list.sort» ⟨[.ref h1.objs.size],[(Str.ofString "key",.ref qa)]⟩) _ _ _;rw[ksk_t1];refine A8 I3 (vR I2.sz (by rw[hsz];exact Nat.le_succ _)) (λq hq=>by rw[hsz];exact vS (Nat.lt_succ_of_lt (vX (I2.pin q hq).1))) LD rv il sN M em ek hc hf U8 λpm s' H' N' ap up J x3 hn=>⟨_,rfl,wY ⟨_,rfl,?_⟩⟩;have lx:its.length=ds.length:=by omega
  rw[lx]at ap up;have er:=A9 (by omega) hc (y8 nd) ap up;have Kq:∀i∈pm.toList,i<ds.length:=λi hi=>List.mem_range.mp (ap.perm.mem_iff.mp hi);have ip:=y4 (il.mono x3.bn) pm.toList Kq;rw[er]at ip;have x4:Ext B N' H H':=(x1.trans (.grow x1.nh m2)).trans x3;have hN:N' h1.objs.size=none:=x3.nh.free hn;have x5:=x4.trans (Ext.laid (o:=.lst (pm.toList.map λi=>vs.getD i .non)) x3.nh hn);exact⟨.ref h1.objs.size,_,J,rfl,q _ _ _ x5 (.lst (iM.of aH) (ip.mono (Ext.laid (o:=.lst (pm.toList.map λi=>vs.getD i .non)) x3.nh hn).bn)) λ_=>⟨_,_,_,rfl,rfl,x4.hh.free hn,aH,ip.mono (Ext.laid (o:=.lst (pm.toList.map λi=>vs.getD i .non)) x3.nh hn).bn⟩⟩
 ·cases ee
end
section
variable {prog:Program}{w:World}{A:Around}{E:Value->Shared->Prop}{s:Shared}
theorem gN.type (h:gN s.heap xs v):s.TypeIs v "tuple":=by
 obtain⟨a,o,its,n,rfl,ho,hc,_⟩:=h;exact⟨o,ho,hc⟩
theorem F7 (hx:gN s.heap xs (.ref a))(hy:gN s.heap ys (.ref b))(h:bc xs ys=some r)(q:P (.done (.ret (.bool r))) s):wpAny (model prog w) A (Builtin.«tuple.__lt__» ⟨[.ref a,.ref b],[]⟩) P E s:=by
 have U9:=hy.type;obtain⟨a',oa,its,na,ea,QJ,_,UA,ra⟩:=hx;obtain⟨b',ob,gh,nb,eb,UB,_,sk,rb⟩:=hy;cases ea
 cases eb
 show wpAny _ _ (isInstance (.ref _) (.type "tuple")>>=_) _ _ s;refine wX (wpAny_isInstance U9 isSubtype_tuple_tuple ?_);simp only[Bool.not_true,uV,if_false];refine wX (wpAny_tupleItemsOf QJ UA ?_);refine wX (wpAny_tupleItemsOf UB sk ?_);refine wX ?_;refine wpAny_forIn_list _
  (λaD z s'=>z.1=none/\s'=s/\∃Ks Kt its' sn n,aD=List.zip its' sn/\Paired yx Ks its'/\Paired yx Kt sn/\bc Ks Kt=some r/\its'.length+n=its.size/\sn.length+n=gh.size)
  _ ?_ ?_ _ _ ⟨rfl,rfl,xs,ys,its.toList,gh.toList,0,rfl,ra,rb,h,by simp,by simp⟩
 ·rintro⟨u,v⟩ aD z s' ⟨hz,rfl,Ks,Kt,its',sn,n,e,p1,p2,hl,n1,n2⟩;cases p1 with
  |nil=>simp at e
  |@cons x u' Hl zC r1 Rm=>
   cases p2 with
   |nil=>simp at e
   |@cons y v' Hm zD r2 Rn=>
    simp only[List.zip_cons_cons,List.cons.injEq,Prod.mk.injEq]at e;obtain⟨⟨rfl,rfl⟩,rfl⟩:=e;cases x with
    |i i=>
     cases y with
     |s j=>simp[bc]at hl
     |i j=>
      obtain⟨t,rfl⟩:=r1;obtain⟨t',rfl⟩:=r2;rw[bc]at hl;refine wX (wpAny_eqBool_int ?_);by_cases hk:i=j
      ·rw[if_pos hk]at hl;rw[show(i == j)=true by simp[hk]];simp only[Bool.not_true,uV,if_false];exact wY ⟨rfl,rfl,Hl,Hm,zC,zD,n+1,rfl,Rm,Rn,hl,by rw[←n1,vE];omega,by rw[←n2,vE];omega⟩
      ·rw[if_neg hk]at hl;cases hl
       rw[show(i == j)=false by simp[hk]];simp only[Bool.not_false,if_true];refine wX (wpAny_rule (wX (m:=richCompare .Lt (.int i t) (.int j t')) (wpAny_mono (show wpAny _ _ (richCompare .Lt (.int i t) (.int j t')) (λv sT=>v=.bool (decide (i<j))/\sT=s') E s' from PyProof.Rows.lt_int ⟨rfl,rfl⟩) (λv sT hv=>?_) λ_ _ z=>z)));obtain⟨rfl,rfl⟩:=hv;exact wX (wY (wY (wY q)))
    |s i=>
     cases y with
     |i j=>simp[bc]at hl
     |s j=>
      obtain⟨t,rfl⟩:=r1;obtain⟨t',rfl⟩:=r2;rw[bc]at hl;refine wX (wpAny_eqBool_str ?_);by_cases hk:i=j
      ·rw[if_pos hk]at hl;rw[decide_eq_true hk];simp only[Bool.not_true,uV,if_false];exact wY ⟨rfl,rfl,Hl,Hm,zC,zD,n+1,rfl,Rm,Rn,hl,by rw[←n1,vE];omega,by rw[←n2,vE];omega⟩
      ·rw[if_neg hk]at hl;cases hl
       rw[decide_eq_false hk];simp only[Bool.not_false,if_true];refine wX (wpAny_rule (wX (m:=richCompare .Lt (.str i t) (.str j t')) (wpAny_mono (show wpAny _ _ (richCompare .Lt (.str i t) (.str j t')) (λv sT=>v=.bool (decide (i.cps.toList<j.cps.toList))/\sT=s') E s' from PySem.P.lt_str ⟨rfl,rfl⟩) (λv sT hv=>?_) λ_ _ z=>z)));obtain⟨rfl,rfl⟩:=hv;exact wX (wY (wY (wY q)))
 ·rintro⟨z1,z2⟩ s' ⟨hz,rfl,Ks,Kt,its',sn,n,e,p1,p2,hl,n1,n2⟩;simp only at hz;subst hz;refine wY ?_;have:decide (its.size<gh.size)=r:=by
   cases p1 with
   |nil=>
    cases p2 with
    |nil=>simp[bc]at hl;subst hl;simp at n1 n2;simp;omega
    |cons _ _=>simp[bc]at hl;subst hl;simp at n1 n2;simp;omega
   |cons _ _=>
    cases p2 with
    |nil=>simp[bc]at hl;subst hl;simp at n1 n2;simp;omega
    |cons _ _=>simp at e
  show P (.done (.ret (.bool (decide (its.size<gh.size))))) s';rw[this];exact q
theorem F8 (hx:gN s.heap xs (.ref a))(hy:gN s.heap ys (.ref b))(h:bc ys xs=some r)(q:P (.done (.ret (.bool r))) s):wpAny (model prog w) A (Builtin.«tuple.__gt__» ⟨[.ref a,.ref b],[]⟩) P E s:=by
 have U9:=hy.type;obtain⟨a',oa,its,na,ea,QJ,_,UA,ra⟩:=hx;obtain⟨b',ob,gh,nb,eb,UB,_,sk,rb⟩:=hy;cases ea
 cases eb
 show wpAny _ _ (isInstance (.ref _) (.type "tuple")>>=_) _ _ s;refine wX (wpAny_isInstance U9 isSubtype_tuple_tuple ?_);simp only[Bool.not_true,uV,if_false];refine wX (wpAny_tupleItemsOf QJ UA ?_);refine wX (wpAny_tupleItemsOf UB sk ?_);refine wX ?_;refine wpAny_forIn_list _
  (λaD z s'=>z.1=none/\s'=s/\∃Ks Kt its' sn n,aD=List.zip its' sn/\Paired yx Ks its'/\Paired yx Kt sn/\bc Kt Ks=some r/\its'.length+n=its.size/\sn.length+n=gh.size)
  _ ?_ ?_ _ _ ⟨rfl,rfl,xs,ys,its.toList,gh.toList,0,rfl,ra,rb,h,by simp,by simp⟩
 ·rintro⟨u,v⟩ aD z s' ⟨hz,rfl,Ks,Kt,its',sn,n,e,p1,p2,hl,n1,n2⟩;cases p1 with
  |nil=>simp at e
  |@cons x u' Hl zC r1 Rm=>
   cases p2 with
   |nil=>simp at e
   |@cons y v' Hm zD r2 Rn=>
    simp only[List.zip_cons_cons,List.cons.injEq,Prod.mk.injEq]at e;obtain⟨⟨rfl,rfl⟩,rfl⟩:=e;cases x with
    |i i=>
     cases y with
     |s j=>simp[bc]at hl
     |i j=>
      obtain⟨t,rfl⟩:=r1;obtain⟨t',rfl⟩:=r2;rw[bc]at hl;refine wX (wpAny_eqBool_int ?_);by_cases hk:j=i
      ·rw[if_pos hk]at hl;rw[show(i == j)=true by simp[hk]];simp only[Bool.not_true,uV,if_false];exact wY ⟨rfl,rfl,Hl,Hm,zC,zD,n+1,rfl,Rm,Rn,hl,by rw[←n1,vE];omega,by rw[←n2,vE];omega⟩
      ·rw[if_neg hk]at hl;cases hl
       rw[show(i == j)=false by simp;exact λz=>hk z.symm];simp only[Bool.not_false,if_true];refine wX (wpAny_rule (wX (m:=richCompare .Gt (.int i t) (.int j t')) (wpAny_mono (show wpAny _ _ (richCompare .Gt (.int i t) (.int j t')) (λv sT=>v=.bool (decide (j<i))/\sT=s') E s' from PyProof.Rows.gt_int ⟨rfl,rfl⟩) (λv sT hv=>?_) λ_ _ z=>z)));obtain⟨rfl,rfl⟩:=hv;exact wX (wY (wY (wY q)))
    |s i=>
     cases y with
     |i j=>simp[bc]at hl
     |s j=>
      obtain⟨t,rfl⟩:=r1;obtain⟨t',rfl⟩:=r2;rw[bc]at hl;refine wX (wpAny_eqBool_str ?_);by_cases hk:j=i
      ·rw[if_pos hk]at hl;rw[decide_eq_true hk.symm];simp only[Bool.not_true,uV,if_false];exact wY ⟨rfl,rfl,Hl,Hm,zC,zD,n+1,rfl,Rm,Rn,hl,by rw[←n1,vE];omega,by rw[←n2,vE];omega⟩
      ·rw[if_neg hk]at hl;cases hl
       rw[decide_eq_false λz=>hk z.symm];simp only[Bool.not_false,if_true];refine wX (wpAny_rule (wX (m:=richCompare .Gt (.str i t) (.str j t')) (wpAny_mono (show wpAny _ _ (richCompare .Gt (.str i t) (.str j t')) (λv sT=>v=.bool (decide (j.cps.toList<i.cps.toList))/\sT=s') E s' from PySem.P.gt_str ⟨rfl,rfl⟩) (λv sT hv=>?_) λ_ _ z=>z)));obtain⟨rfl,rfl⟩:=hv;exact wX (wY (wY (wY q)))
 ·rintro⟨z1,z2⟩ s' ⟨hz,rfl,Ks,Kt,its',sn,n,e,p1,p2,hl,n1,n2⟩;simp only at hz;subst hz;refine wY ?_;have:decide (gh.size<its.size)=r:=by
   cases p1 with
   |nil=>
    cases p2 with
    |nil=>simp[bc]at hl;subst hl;simp at n1 n2;simp;omega
    |cons _ _=>simp[bc]at hl;subst hl;simp at n1 n2;simp;omega
   |cons _ _=>
    cases p2 with
    |nil=>simp[bc]at hl;subst hl;simp at n1 n2;simp;omega
    |cons _ _=>simp at e
  show P (.done (.ret (.bool (decide (gh.size<its.size))))) s';rw[this];exact q
theorem F9 (hx:gN s.heap xs x)(hy:gN s.heap ys y)(h:bc xs ys=some r)(hu:A.units<cLine)(q:Q (.bool r) s):wpAny (model prog w) A (richCompare .Lt x y) Q E s:=by
 have tx:=hx.type;have ty:=hy.type;obtain⟨a,_,_,_,rfl,_⟩:=id hx;obtain⟨b,_,_,_,rfl,_⟩:=id hy;exact wpAny_richCompare_same_room (op:=.Lt) tx ty PySem.F.slot_tuple_lt (wpAny_call_entry PySem.F.slot_tuple_lt tx PySem.F.entry_tuple_lt (F7 hx hy h ⟨_,rfl,(λe=>nomatch e),q⟩) (PySem.F.args_tuple_lt_2 _ _)) hu
theorem Qq (hx:gN s.heap xs x)(hy:gN s.heap ys y)(h:bc ys xs=some r)(hu:A.units<cLine)(q:Q (.bool r) s):wpAny (model prog w) A (richCompare .Gt x y) Q E s:=by
 have tx:=hx.type;have ty:=hy.type;obtain⟨a,_,_,_,rfl,_⟩:=id hx;obtain⟨b,_,_,_,rfl,_⟩:=id hy;exact wpAny_richCompare_same_room (op:=.Gt) tx ty PySem.F.slot_tuple_gt (wpAny_call_entry PySem.F.slot_tuple_gt tx PySem.F.entry_tuple_gt (F8 hx hy h ⟨_,rfl,(λe=>nomatch e),q⟩) (PySem.F.args_tuple_gt_2 _ _)) hu
end
def mH:List At×D->List (List At×D)->D
 |b,[]=>b.2
 |b,x::r=>if bc b.1 x.1=some true then mH x r else mH b r
def lA:List At×D->List (List At×D)->D
 |b,[]=>b.2
 |b,x::r=>if bc x.1 b.1=some true then lA x r else lA b r
noncomputable def Xl {f:String->CmpOp->Builtin}(_:f "max" .Gt=Builtin.«max.loop»):=f
noncomputable def Xm:String->CmpOp->Builtin:=Xl rfl
noncomputable def Xn {f:String->Builtin}(_:f "max" = Builtin.«max»):=f
noncomputable def Xo:String->Builtin:=Xn rfl
structure MM (nm lp:String)(ns:Str)(op:CmpOp)(lt:List At->List At->Option Bool)(go:List At×D->List (List At×D)->D):Prop where
 hn:(toString nm++toString ".loop" : String)=lp
 en:entryFor table lp=some (Xm nm op)
 pl:plainId lp=true
 k2:builtinKind nm=none
 p2:plainId nm=true
 e2:entryFor table nm=some (Xo nm)
 ka:∀a v:Value,argsOk nm ⟨[a],[(Str.ofString "key",v)]⟩
 bt:bootBuiltins ns=some (.builtin nm)
 n1:ns ≠ "__name__"
 n2:(ns == ("__debug__" : Str))=false
 g0:∀b,go b []=b.2
 g1:∀b x r,go b (x::r)=if lt b.1 x.1=some true then go x r else go b r
 cg:∀ {ks:List (List At)},eJ ks=true->∀ {a b},a∈ks->b∈ks->∃r,lt a b=some r
 rc:∀ {prog:Program}{w:World}{A:Around}{E:Value->Shared->Prop}{s:Shared}{xs ys:List At}{x y:Value}{r:Bool}{Q:Value->Shared->Prop},gN s.heap xs x->gN s.heap ys y->lt ys xs=some r->A.units<cLine->Q (.bool r) s->wpAny (model prog w) A (richCompare op x y) Q E s
theorem Vs:MM "max" "max.loop" "max" .Gt bc mH :=
 ⟨by decide,PySem.F.entry_max_loop,PySem.F.plain_max_loop,PySem.F.kind_max,PySem.F.plain_max,PySem.F.entry_max,λ_ _=>by unfold argsOk;kernel_rfl,rfl,by decide,by decide,λ_=>rfl,λ_ _ _=>rfl,λh _ _ a b=>⟨_,gT h a b⟩,Qq⟩
theorem Tp:MM "min" "min.loop" "min" .Lt (λa b=>bc b a) lA :=
 ⟨by decide,PySem.F.entry_min_loop,PySem.F.plain_min_loop,PySem.F.kind_min,PySem.F.plain_min,PySem.F.entry_min,λ_ _=>by unfold argsOk;kernel_rfl,rfl,by decide,by decide,λ_=>rfl,λ_ _ _=>rfl,λh _ _ a b=>⟨_,gT h b a⟩,F9⟩
section
variable {X:Cx}{af:List (Addr×Obj)}{σ:St}
theorem qB (J:Inv X ((a1,o1)::(a2,o2)::af) σ H' s'):Inv X ((a2,o2)::(a1,o1)::af) σ H' s' :=
 J.pins_of λq hq=>J.pin q (by
  rcases vP hq with rfl|hq
  ·exact mY _ (mZ _ mX)
  ·rcases vP hq with rfl|hq
   ·exact mY _ mX
   ·exact mY _ (mZ _ (mZ _ hq)))
theorem qC (hp:∀q∈X.pn++af,q.1≠a)(h:S≠a):∀q∈X.pn++((S,o)::af),q.1≠a:=λq hq=>by
 rcases List.mem_append.mp hq with hq|hq
 ·exact hp q (List.mem_append_left _ hq)
 ·rcases vP hq with rfl|hq
  ·exact h
  ·exact hp q (mY _ hq)
theorem pM (I:Inv X af σ H s)(r:aY v u)(i:Is X.K H v d)(e:yy d=some k):gN s.heap k u:=by
 have:=pK I (ys:=[v]) (ds:=[d]) (ks:=[k]) (its:=[u]) (.cons r .nil) (.cons i .nil) (by simp only[dU,e];rfl);cases this;assumption
theorem Jf {nm lp:String}{ns:Str}{op:CmpOp}{lt:List At->List At->Option Bool}{go:List At×D->List (List At×D)->D}(M:MM nm lp ns op lt go){qv:Value}{l S It:Addr}{vs:List V}{ds gM:List D}{ks:List (List At)}{B H1:Hp}{kf:D->Option D}{d0:D}{R:Result->Shared->Prop}(hh:X.A.handled=none)(hu:X.A.in1.units<cLine)(LD:F3 X X.A.in1 σ qv B H1 kf)(YI:∃a,qv=.ref a)(hq:iM X.K B l vs)(iv:IsL X.K B vs ds)
  (em:jK kf ds=some gM) (ek:dU gM=some ks) (hc:eJ ks=true) (S0:X.s₀.heap.objs.size<=S) (I0:X.s₀.heap.objs.size<=It) (Ro:∀q∈X.pn++af,q.1≠S) (Rp:∀q∈X.pn++af,q.1≠It) (En:S≠It) (Sq:S≠l) (Rq:l≠It)
  (hR:∀(s':Shared)(H' N:Hp)(v:V)(u:Value),Inv X af σ H' s'->Ext B N H1 H'->aY v u->Is X.K N v d0->R (.ok (.ret u)) s'):
  ∀(r j:Nat)(s:Shared)(H N:Hp)(ub zE:Value)(vb Rr:V)(db Rt:D)(kb:List At)(c:Nat)(oI:Obj),vs.length - j=r->j<=vs.length->Inv X ((S,seqObj "list" #[ub,zE] c)::(It,oI)::af) σ H s->s.heap.IsListIter It l j->Ext B N H1 H ->
   aY vb ub->Is X.K N vb db->aY Rr zE->Is X.K N Rr Rt->yy Rt=some kb->kb∈ks->go (kb,db) ((ks.zip ds).drop j)=d0 ->
   codeAny (model X.prog X.w) X.A (.builtin lp ⟨[.ref It,qv,.ref S],[]⟩) R s:=by
 obtain⟨qa,rfl⟩:=YI;intro r;induction r with
 |zero=>
  intro j s H N ub zE vb Rr db Rt kb c oI hr hj I HE x1 r1 i1 r2 i2 ekb mk hd;have pS:=I.pin (S,seqObj "list" #[ub,zE] c) (mY _ mX);have sB:aZ B H:=x1.bn.trans x1.nh;obtain⟨its,rv,pl,_⟩:=I.list (sB.seq hq);have hl:=pl.isList;have W:=Walks.list (prog:=X.prog) (w:=X.w) (A:=X.A.in1) hh It l Rq its.toArray;have hsz:its.toArray.size=its.length:=vH ..;have zN:vs.length=its.length:=rv.length;have LB:ds.length=its.length:=by rw[←iv.length];exact rv.length
  have UC:ks.length=ds.length:=by rw[jv ek,im em]
  have DS:db=d0:=by
   rw[List.drop_of_length_le (by rw[List.length_zip];omega)]at hd;rw[M.g0]at hd;exact hd
  subst DS;refine codeAny_builtin M.en ?_;rw[Around.under_plainId M.pl _];show wpAny _ X.A.in1 (seqItems? (.ref S)>>=_) _ _ _;refine wX (wpAny_seqItems pS.1 rfl ?_);show wpAny _ X.A.in1 (tryCatch (pyNext (.ref It)) _>>=_) _ _ _;refine wX (wpAny_tryCatch (W.done _ _ _ ⟨by rw[hsz,show its.length=j by omega];exact HE,hl⟩ λh' C9 fD=>?_));have J1:Inv X ((It,oI)::(S,seqObj "list" #[ub,zE] c)::af) σ H s:=qB I;have Hn:∀q∈X.pn++((S,seqObj "list" #[ub,zE] c)::af),q.1≠It:=qC Rp En;have J2:Inv X ((S,seqObj "list" #[ub,zE] c)::af) σ H { s with heap:=h',toks:=C9 } :=
   (k8 J1).turned (t':=C9) (λb o n e=>fD b o (by simpa using n) e) (J1.pin (It,oI) (mY _ mX)).2.1 (J1.pin (It,oI) (mY _ mX)).2.2.1 (.inr I0) (om J1) Hn
  have Wy:=J2.pin (S,seqObj "list" #[ub,zE] c) (mY _ mX);obtain⟨c2,xl⟩:∃c2,(h'.update S (Obj.mapSeq λ_=>(#[]:Array Value))).get? S=some (seqObj "list" #[] c2):=⟨_,get?_update_seq Wy.1 λ_=>#[]⟩;have u2:=vW h' S (Obj.mapSeq λ_=>(#[]:Array Value));show wpAny _ X.A.in1 (updateSeq S (λ_=>#[])>>=_) _ _ _;refine wX ?_;refine wpAny_updateSeq Wy.1 rfl (wX (wpAny_letGo (wY ?_)));exact hR _ H N vb ub (k8 (g8 (t':=C9) J2 S0 Ro (λb o n e=>(u2.2 b n).trans e) xl dr)) x1 r1 i1
 |succ r ih=>
  intro j s H N ub zE vb Rr db Rt kb c oI hr hj I HE x1 r1 i1 r2 i2 ekb mk hd;have fT:j<vs.length:=by omega
  have pS:=I.pin (S,seqObj "list" #[ub,zE] c) (mY _ mX);have sB:aZ B H:=x1.bn.trans x1.nh;obtain⟨its,rv,pl,_⟩:=I.list (sB.seq hq);have hl:=pl.isList;have W:=Walks.list (prog:=X.prog) (w:=X.w) (A:=X.A.in1) hh It l Rq its.toArray;have hsz:its.toArray.size=its.length:=vH ..;have zN:vs.length=its.length:=rv.length;have LB:ds.length=its.length:=by rw[←iv.length];exact rv.length
  have UC:ks.length=ds.length:=by rw[jv ek,im em]
  refine codeAny_builtin M.en ?_;rw[Around.under_plainId M.pl _];show wpAny _ X.A.in1 (seqItems? (.ref S)>>=_) _ _ _;refine wX (wpAny_seqItems pS.1 rfl ?_);show wpAny _ X.A.in1 (tryCatch (pyNext (.ref It)) _>>=_) _ _ _;refine wX (wpAny_tryCatch (W.item j _ _ _ (by rw[hsz];omega) ⟨HE,hl⟩ λu h' C9 hP hst' fD=>?_));have HF:its[j]? = some u:=by simpa using hP
  obtain⟨d,UD⟩:∃d,ds[j]? = some d:=⟨_,vU (by omega)⟩;obtain⟨v,hv,Oe⟩:=iv.get UD;obtain⟨kd,Rh,Ri⟩:=mG em UD;obtain⟨u2,Ru,ru⟩:=rv.get hv;rw[HF]at Ru;cases Ru;obtain⟨k,Of⟩:∃k,ks[j]? = some k:=⟨_,vU (by omega)⟩;have Sr:yy kd=some k:=by
   have:=oj ek (i:=j) (by rw[im em];omega);rw[vF,Rh,vF,Of]at this;exact this
  have hm:k∈ks:=vL Of;obtain⟨Ee,Og,El,OR⟩:=id hst'.1;have J1:Inv X ((It,oI)::(S,seqObj "list" #[ub,zE] c)::af) σ H s:=qB I;have Hn:∀q∈X.pn++((S,seqObj "list" #[ub,zE] c)::af),q.1≠It:=qC Rp En;have Oh:∀q∈X.pn++((It,Ee)::af),q.1≠S:=qC Ro En.symm;have J2:Inv X ((It,Ee)::(S,seqObj "list" #[ub,zE] c)::af) σ H { s with heap:=h',toks:=C9 } :=
   g8 (t':=C9) J1 I0 Hn (λb o n e=>fD b o (by simpa using n) e) Og (λv z=>by rw[OR]at z;cases z)
  have J3:Inv X ((S,seqObj "list" #[ub,zE] c)::(It,Ee)::af) σ H { s with heap:=h',toks:=C9 }:=qB J2;show wpAny _ X.A.in1 (tryCatch (holding [u] (call (.ref qa) [u])) _>>=_) _ _ _;refine wX (wpAny_tryCatch (wpAny_holding (wpAny_mono (LD _ _ H N v u d kd J3 x1.hh x1.bn x1.nh (Oe.mono x1.bn) ru Ri) (λku s2 he=>?_) λ_ _ hF=>hF.elim)));obtain⟨kv,H2,J4,rk,N2,x2,ik⟩:=he;have Ss:=J4.pin (It,Ee) (mY _ (mZ _ mX));have Rv:=J4.pin (S,seqObj "list" #[ub,zE] c) (mY _ mX);have UE:s2.heap.IsListIter It l (j+1):=⟨Ee,Ss.1,El,OR⟩;have t1:=pM J4 rk (ik.mono x2.nh) Sr;have t2:=pM J4 r2 (i2.mono (x2.bn.trans x2.nh)) ekb;have hz:(ks.zip ds).drop j=(k,d)::(ks.zip ds).drop (j+1):=by
   have So:j<(ks.zip ds).length:=by rw[List.length_zip];omega
   rw[List.drop_eq_getElem_cons So];have:(ks.zip ds)[j]? = some (k,d):=List.getElem?_zip_eq_some.mpr ⟨Of,UD⟩;rw[vU So]at this;rw[vK this]
  rw[hz,M.g1]at hd;obtain⟨r,UF⟩:=M.cg hc mk hm;show wpAny _ X.A.in1 (tryCatch (holding [u,ku] (richCompare op ku zE>>=_)) _>>=_) _ _ _;refine wX (wpAny_tryCatch (wpAny_holding (wX (M.rc t1 t2 UF hu ?_))));refine wX (wpAny_holding (wpAny_truthy_bool ?_));refine wX (wpAny_letGo (wY ?_));cases r with
  |true=>
   rw[if_pos UF]at hd;obtain⟨c2,xl⟩:∃c2,(s2.heap.update S (Obj.mapSeq λ_=>#[u,ku])).get? S=some (seqObj "list" #[u,ku] c2):=⟨_,get?_update_seq Rv.1 λ_=>#[u,ku]⟩;have u2:=vW s2.heap S (Obj.mapSeq λ_=>#[u,ku]);simp only[if_true];refine wX ?_;refine wpAny_updateSeq Rv.1 rfl (wX (wpAny_letGo ?_));rw[M.hn];exact wY ⟨plainId_quiet M.pl _,ih (j+1) _ H2 N2 u ku v kv d kd k c2 Ee (by omega) fT (g8 (t':=s2.toks) J4 S0 Oh (λb o n e=>(u2.2 b n).trans e) xl dr) ⟨Ee,(u2.2 It En.symm).trans Ss.1,El,OR⟩ (x1.trans x2) ru (Oe.mono (x1.bn.trans x2.bn)) rk ik Sr hm hd⟩
  |false=>
   rw[if_neg (by rw[UF];simp)]at hd;simp only[uV,if_false];refine wX (wpAny_letGo ?_);rw[M.hn];exact wY ⟨plainId_quiet M.pl _,ih (j+1) _ H2 N2 ub zE vb Rr db Rt kb c Ee (by omega) fT J4 UE (x1.trans x2) r1 (i1.mono x2.bn) r2 (i2.mono x2.bn) ekb mk hd⟩
end
@[simp] def Nj (go:List At×D->List (List At×D)->D)(f:FE)(kf:Env->D->Option D):FE:=λρ=>(f ρ).bind λx=>match x.1 with
 |.lst ds=>(jK (kf ρ) ds).bind λgM=>(dU gM).bind λks=>if eJ ks=true then match ks.zip ds with
  |[]=>none
  |y::r=>some (go y r,false)
  else none
 |_=>none
@[simp] def uc:=Nj mH
@[simp] def ud:=Nj lA
section
variable {X:Cx}{e ke:Expr}{p pos kp:Pos}
theorem y9 {nm lp:String}{ns:Str}{op:CmpOp}{lt:List At->List At->Option Bool}{go:List At×D->List (List At×D)->D}(M:MM nm lp ns op lt go){f:FE}{kf:Env->D->Option D}{k:Nat}(hm:X.mg ns=none)(he:JE X e f)(hk:JK X X.A.in1 ke kf)(hr:eU k X.A)(hg:Gl X ns:=by rfl)
  (U4:starEach [e] X.env=[(false,eval e X.env)]:=by rfl) (U5:backTo pos (starEach [e] X.env)=(false,eval e X.env)::backTo pos (starEach [] X.env):=by rfl) (lx:(backTo pos (starEach [e] X.env)).any (·.1)=false:=by rfl)
  (nL:(backToKw pos (keywordEach [⟨some "key",ke,kp⟩] X.env)).all (·.1.isSome)=true:=by rfl) (U6:(backToKw pos (keywordEach [⟨some "key",ke,kp⟩] X.env)).any (·.1.isNone)=false:=by rfl)
  (U7:(backToKw pos (keywordEach [⟨some "key",ke,kp⟩] X.env)).filterMap (·.1)=[("key" : Str)]:=by rfl):
  JE X (.Call (.Name ns p) [e] [⟨some "key",ke,kp⟩] pos) (Nj go f kf):=by
 intro af s σ H Q I h;obtain⟨B,ρ,d,b,sB,rep,ee,q⟩:=h;obtain⟨⟨xd,xb⟩,ex,ee⟩:=oX ee;cases xd<;>try (cases ee;done)
 rename_i ds;obtain⟨gM,em,ee⟩:=oX ee;obtain⟨ks,ek,ee⟩:=oX ee;split at ee
 ·rename_i hc;split at ee
  ·cases ee
  ·rename_i y aD ez;cases ee
   refine wpAny_Call_Name_kw (lM I hg hm M.bt ?_ M.n1 M.n2);refine callWith_kw (cR ((iN he km U4) pos af s σ H (λvs H1=>∃v N,vs=[v]/\Ext B N H H1/\Is X.K N v (.lst ds)) I ⟨B,ρ,_,_,sB,rep,ex,λv H1 N x1 i1 _=>⟨v,N,rfl,x1,i1⟩⟩) λus s1 hA=>?_) U5 lx nL U6;obtain⟨YH,H1,I1,r1,v,N,rfl,x1,i1⟩:=hA;obtain⟨u,rfl,ru⟩:=gY r1;refine kws_cons (hk af s1 σ H1 N ρ _ _ I1 x1.nh (rep.mono x1.bn) λqa H2 s2 I2 m2 LD=>kws_nil ?_);rw[U7];show wpAny _ _ (call (.builtin nm) [u] [(("key" : Str),.ref qa)]) _ _ _;cases i1
   rename_i l vs hq il;cases ru
   have sN:aZ N H2:=x1.nh.trans m2;obtain⟨its,rv,pl,hz⟩:=I2.list (sN.seq hq);have zN:vs.length=its.length:=rv.length;have LB:ds.length=vs.length:=il.length.symm;have Ws:gM.length=ds.length:=im em;have U1:ks.length=gM.length:=jv ek;have LF:l<s2.heap.objs.size:=by
    obtain⟨ol,Kr,_⟩:=pl.isList;exact vX Kr
   -- the first item
   obtain⟨k0,d0⟩:=y;have lJ:0<its.length:=by
    have:=congrArg List.length ez;rw[List.length_zip,vE]at this;omega
   have z0:(ks.zip ds)[0]? = some (k0,d0):=by rw[ez];rfl
   obtain⟨Su,OS⟩:=List.getElem?_zip_eq_some.mp z0;have Rw:(ks.zip ds).drop 1=aD:=by rw[ez];rfl
   refine kmk_tree M.k2 M.p2 M.e2 (M.ka _ _) ?_;show wpAny _ X.A.in1 (Builtin.Builtins.bindParams nm ["key","default"] 0 ⟨[],[(Str.ofString "key",.ref qa)]⟩>>=_) _ _ s2;refine wX (wpAny_of_eq (show Builtin.Builtins.bindParams nm ["key","default"] 0 ⟨[],[(Str.ofString "key",.ref qa)]⟩=pure [some (.ref qa),none]from rfl) ?_);refine wX (wY ?_);refine wX (wpAny_pyIter_list pl.isList ?_);refine wX (wpAny_newList ?_ (uN _));rw[M.hn];let It:Addr:=s2.heap.objs.size;let oI:Obj:={ cls:=.type "list_iterator",data:=.fields #[.ref l,.int 0 0] };let S:Addr:=(s2.heap.push oI).objs.size;have hS:S=s2.heap.objs.size+1:=size_push' ..;have En:S≠It:=by rw[hS];exact Nat.ne_of_gt (Nat.lt_succ_self _)
   have J1:Inv X ((It,oI)::af) σ H2 { s2 with heap:=s2.heap.push oI }:=pL (t':=s2.toks) I2 (λb u q=>vZ _ q) (vT _) (vY _ rfl) (λv z=>by cases z);have J2:Inv X ((S,seqObj "list" #[] 0)::(It,oI)::af) σ H2 { s2 with heap:=(s2.heap.push oI).push (seqObj "list" #[] 0) }:=pL (s:={ s2 with heap:=s2.heap.push oI }) (t':=s2.toks) J1 (λb u q=>vZ _ q) (vT _) (vY _ rfl) dr;have I0:X.s₀.heap.objs.size<=It:=I2.sz;have S0:X.s₀.heap.objs.size<=S:=by rw[hS];exact Nat.le_succ_of_le I2.sz
   have Rp:∀q∈X.pn++af,q.1≠It:=λq hq=>vS (vX (I2.pin q hq).1);have Ro:∀q∈X.pn++af,q.1≠S:=λq hq=>by rw[hS];exact vS (Nat.lt_succ_of_lt (vX (I2.pin q hq).1))
   have Rq:l≠It:=vS LF;have Sq:S≠l:=by rw[hS];exact Nat.ne_of_gt (Nat.lt_succ_of_lt LF)
   have hh:X.A.handled=none:=hr.hd;have hu:X.A.in1.units<cLine:=by have:=hr.un;show X.A.units+1<cLine;omega
   have pS:=J2.pin (S,seqObj "list" #[] 0) (mY _ mX);have pI:=J2.pin (It,oI) (mY _ (mZ _ mX));obtain⟨z8,xf,YJ,_⟩:=J2.list (sN.seq hq);have HG:vs.length=z8.length:=xf.length;have W:=Walks.list (prog:=X.prog) (w:=X.w) (A:=X.A.in1) hh It l Rq z8.toArray;have hsz:z8.toArray.size=z8.length:=vH ..;refine wY ⟨plainId_quiet M.pl _,?_⟩;refine codeAny_builtin M.en ?_;rw[Around.under_plainId M.pl _];show wpAny _ X.A.in1 (seqItems? (.ref S)>>=_) _ _ { s2 with heap:=(s2.heap.push oI).push (seqObj "list" #[] 0) };refine wX (wpAny_seqItems pS.1 rfl ?_);show wpAny _ X.A.in1 (tryCatch (pyNext (.ref It)) _>>=_) _ _ _;refine wX (wpAny_tryCatch (W.item 0 _ _ _ (by rw[hsz];omega) ⟨⟨oI,pI.1,rfl,rfl⟩,YJ.isList⟩ λu h' C9 hP hst' fD=>?_));have HF:z8[0]? = some u:=by simpa using hP
   obtain⟨v,hv,Oe⟩:=il.get OS;obtain⟨kd,Rh,Ri⟩:=mG em OS;obtain⟨u2,Ru,ru⟩:=xf.get hv;rw[HF]at Ru;cases Ru;have Sr:yy kd=some k0:=by
    have:=oj ek (i:=0) (by omega);rw[vF,Rh,vF,Su]at this;exact this
   obtain⟨Ee,Og,El,OR⟩:=id hst'.1;have Hn:∀q∈X.pn++((S,seqObj "list" #[] 0)::af),q.1≠It:=qC Rp En;have Oh:∀q∈X.pn++((It,Ee)::af),q.1≠S:=qC Ro En.symm;have J3:=qB (g8 (t':=C9) (qB J2) I0 Hn (λb o n e=>fD b o (by simpa using n) e) Og (λv z=>by rw[OR]at z;cases z));show wpAny _ X.A.in1 (tryCatch (holding [u] (call (.ref qa) [u])) _>>=_) _ _ _;refine wX (wpAny_tryCatch (wpAny_holding (wpAny_mono (LD _ _ H2 N v u d0 kd J3 (.refl _) (.refl _) sN Oe ru Ri) (λku s3 he=>?_) λ_ _ hF=>hF.elim)));obtain⟨kv,H3,J4,rk,N3,x3,ik⟩:=he;have Ss:=J4.pin (It,Ee) (mY _ (mZ _ mX));have Rv:=J4.pin (S,seqObj "list" #[] 0) (mY _ mX);obtain⟨c2,xl⟩:∃c2,(s3.heap.update S (Obj.mapSeq λ_=>#[u,ku])).get? S=some (seqObj "list" #[u,ku] c2):=⟨_,get?_update_seq Rv.1 λ_=>#[u,ku]⟩;have u2:=vW s3.heap S (Obj.mapSeq λ_=>#[u,ku]);show wpAny _ X.A.in1 (updateSeq S (λ_=>#[u,ku])>>=_) _ _ _;refine wX ?_;refine wpAny_updateSeq Rv.1 rfl ?_;rw[M.hn];have xx:Ext B N H H2:=x1.trans (.grow x1.nh m2);refine wY ⟨plainId_quiet M.pl _,Jf M (S:=S) (It:=It) hh hu LD ⟨qa,rfl⟩ hq il em ek hc S0 I0 Ro Rp En Sq Rq (λs' H' N' v' u' J' x' r' i'=>⟨v',H',J',r',q _ _ _ (xx.trans x') i' (by simp)⟩) _ 1 _ H3 N3 u ku v kv d0 kd k0 c2 Ee rfl (by omega)
    (g8 (t':=s3.toks) J4 S0 Oh (λb o n e=>(u2.2 b n).trans e) xl dr) ⟨Ee,(u2.2 It En.symm).trans Ss.1,El,OR⟩ x3 ru (Oe.mono x3.bn) rk ik Sr (vL Su) (by rw[Rw])⟩
 ·cases ee
end
section
variable {X:Cx}
@[simp] def LU:D->D->Option (D×Bool)
 |.tup xs,.tup ys=>(fg xs).bind λas=>(fg ys).bind λbs=>(bc as bs).map λr=>(.bl r,false)
 |_,_=>none
@[simp] def WV:D->D->Option (D×Bool)
 |.tup xs,.tup ys=>(fg xs).bind λas=>(fg ys).bind λbs=>(bc bs as).map λr=>(.bl r,false)
 |_,_=>none
theorem Qr (hu:X.A.units+40<cLine):dP X (compareOp .Lt) (rD X.K LU):=by
 intro af s σ H x y v u Q I rx ry q;obtain⟨B,dx,dy,d,b,sB,ix,iy,e,q⟩:=q;cases dx<;>try (simp[LU]at e;done)
 cases dy<;>try (simp[LU]at e;done)
 simp only[LU]at e;obtain⟨as,e1,e⟩:=oX e;obtain⟨bs,e2,e⟩:=oX e;obtain⟨r,e3,e⟩:=oY e;cases e
 show wpAny _ _ (richCompare .Lt v u) _ _ _;exact F9 (pM I rx (ix.mono sB) e1) (pM I ry (iy.mono sB) e2) e3 (by omega) ⟨.bl r,H,I,rfl,q.one sB (.bl r)⟩
end
section
variable {X:Cx}{a b:Expr}{p pos:Pos}
@[simp] def RP (f g:FE):FA:=λρ=>(f ρ).bind λx=>(g ρ).bind λy=>match x.1,y.1 with
 |.int i,.int j=>if -1000<=i/\i<=1000/\-1000<=j/\j<=1000 then some (fZ i (j - i).toNat)else none
 |_,_=>none
end
@[simp] def Vt:List D->Option (D×Bool)
 |[.tup xs,.tup ys]=>(fg xs).bind λas=>(fg ys).bind λbs=>(bc as bs).map λr=>(if r=true then .tup ys else .tup xs,false)
 |_=>none
end DL
namespace DL
open PySem PySem.Spec PyProof.Rows L2
section
variable {X:Cx}
noncomputable def qD:D->D->Option (D×Bool)
 |.tup xs,.tup ys=>if xs.isEmpty=true then some (.tup ys,false)else none
 |_,_=>none
theorem Jg:dP X (binaryOp .Add) (rD X.K qD):=by
 intro af s σ H x y v u Q I rx ry q;obtain⟨B,dx,dy,d,bb,sB,ix,iy,ee,q⟩:=q;cases ix<;>cases iy<;>try (simp[qD]at ee;done)
 rename_i l vs ds h hl l' ws es h' DY;simp only[qD]at ee;split at ee
 ·rename_i hz;cases ee
  cases rx
  cases ry
  obtain⟨its,r1,p1,_⟩:=I.tuple (bw sB h);obtain⟨z8,r2,p2,_⟩:=I.tuple (bw sB h');have he:its.toArray.isEmpty=true:=by
   have e1:=hl.length;have e2:=r1.length;have e3:=List.isEmpty_iff.mp hz;rw[e3]at e1;cases its with
   |nil=>rfl
   |cons a b=>rw[e1]at e2;simp at e2
  obtain⟨⟨cls,dd,data,sl⟩,ho,hc,n,hd⟩:=id p1;obtain⟨⟨TN,NL,data2,Sc⟩,Ke,xl,n2,QE⟩:=id p2;dsimp only at hc hd xl QE;subst hc;subst hd;subst xl;subst QE;exact concat_meets ⟨_,ho,rfl⟩ ⟨_,Ke,rfl⟩ noFill_tuple_add seq_tuple_add PySem.F.slot_tuple_add PySem.F.entry_tuple_add (PySem.F.args_tuple_add_2 _ _)
   (tuple_addW0 l l' its.toArray z8.toArray n n2 dd NL sl Sc he) ⟨ho,Ke,⟨.ref l',H,I,rfl,q.one sB (.tup h' DY)⟩⟩
 ·cases ee
@[simp] noncomputable def BD:D->D->Option (D×Bool)
 |.tup xs,.tup ys=>if xs.length+ys.length<=sizeLine then some (.tup (xs++ys),false)else none
 |_,_=>none
theorem Jh (xs ys:List D)(z:xs.length+ys.length<=sizeLine):Eg qj qD (.tup xs) (.tup ys)=some (.tup (xs++ys),false):=by
 cases xs with
 |nil=>
  have:qj (.tup []) (.tup ys)=none:=if_neg (λh=>by cases h.2);show(match qj (.tup []) (.tup ys) with|some z=>some z|none=>qD (.tup []) (.tup ys))=_;rw[this];rfl
 |cons a l=>
  have:qj (.tup (a::l)) (.tup ys)=some (.tup (a::l++ys),false):=if_pos ⟨z,rfl⟩;show(match qj (.tup (a::l)) (.tup ys) with|some z=>some z|none=>qD (.tup (a::l)) (.tup ys))=_;rw[this]
theorem FC:dP X (binaryOp .Add) (rD X.K BD):=by
 refine ja (r:=rD X.K (Eg qj qD)) (nW Fb Jg) λx y H Q q=>?_;obtain⟨B,dx,dy,d,bb,sB,ix,iy,ee,q⟩:=q;refine⟨B,dx,dy,d,bb,sB,ix,iy,?_,q⟩;cases ix<;>try (cases ee;done)
 cases iy<;>try (cases ee;done)
 rename_i l vs ds h hl l' ws es h' DY;simp only[BD]at ee;split at ee
 ·rename_i hz;rw[Jh _ _ hz];exact ee
 ·cases ee
end
section
variable {X:Cx}
@[simp] def RQ:List D->Option (D×Bool)
 |[d,.tup [.ty n,.ty m]]=>if Qf d=true then none else if n = "list"/\m = "tuple" then some (.bl (kx d == "list" || kx d == "tuple"),false)else none
 |_=>none
end
@[simp] noncomputable def k9:D->Option cD
 |.int i=>some (.inl i)
 |.str x=>some (.inr x)
 |_=>none
theorem oN {K:PySem.W.Frag}{B:Hp}{v:V}{d:D}{k:cD}(i:Is K B v d)(e:k9 d=some k):v=kV k:=by
 cases i<;>simp only[k9]at e<;>cases e<;>rfl
noncomputable def cE {κ:Type}[DecidableEq κ]:List κ->List D->κ->Option D
 |k'::ks,d::ds,k=>if k'=k then some d else cE ks ds k
 |_,_,_=>none
theorem qE {κ:Type}[DecidableEq κ]{K:PySem.W.Frag}{B:Hp}(k:κ):∀ {ks:List κ}{vs:List V}{ds:List D},ks.length=vs.length->IsL K B vs ds ->
  (∃v d,kg (ks.zip vs) k=some v/\cE ks ds k=some d/\Is K B v d)∨(kg (ks.zip vs) k=none/\cE ks ds k=none)
 |[],vs,ds,_,_=>.inr ⟨by cases vs<;>rfl,by cases ds<;>rfl⟩
 |k'::ks,[],_,h,_=>by simp at h
 |k'::ks,v::vs,_,h,.cons i is=>by
  rw[List.zip_cons_cons];unfold cE;by_cases e:k'=k
  ·rw[if_pos e];exact .inl ⟨v,_,mv (p:=(k',v)) e,rfl,i⟩
  ·rw[if_neg e,mw (p:=(k',v)) e];exact qE k (by simpa using h) is
section
variable {X:Cx}{o e i:Expr}{pos:Pos}
@[simp] def FD:D->D->Option (D×Bool)
 |.dk ks vs,y=>(k9 y).map λk=>((cE ks vs k).getD .non,false)
 |_,_=>none
theorem FF {dI cJ:Pos}{fo fe:FE}(hu:X.A.units+1<cLine)(ho:JE X o fo)(he:JE X e fe)(m:M1 X o "get" dI e cJ):JE X (.Call (.Attribute o "get" dI) [e] [] cJ) (f2 FD fo fe):=by
 refine PE.to (xD hu ho he m) λσ H Q q=>?_;obtain⟨B,ρ,d,bb,sB,r,ee,q⟩:=q;obtain⟨x,ex,ee⟩:=oX ee;obtain⟨y,ey,ee⟩:=oX ee;refine⟨B,ρ,x.1,x.2,sB,r,ex,λv H1 N1 x1 i1 ff=>?_⟩;obtain⟨xd,xb⟩:=x;cases i1 with
 |@dk a ks vs ds ob h hl hs=>
  simp only[FD]at ee;obtain⟨k,hk,ee⟩:=oY ee;cases ee
  refine⟨a,rfl,.inl ⟨_,_,.inl (x1.nh _ _ h)⟩,N1,ρ,y.1,y.2,x1.nh,r.mono x1.bn,ey,λv2 H2 N2 x2 i2 _=>?_⟩;have hv:=oN i2 hk;subst hv;refine⟨kg (ks.zip vs) k,.inl ⟨_,k,_,.inl (x2.nh _ _ (x2.bn _ _ h)),rfl,rfl⟩,?_⟩;have OT:=hs.mono x2.bn;rcases qE k hl OT with⟨v,d',e1,e2,i3⟩|⟨e1,e2⟩
  ·rw[e1];rw[e2]at q;exact(q.into (x1.trans x2)).one x2.nh i3
  ·rw[e1];rw[e2]at q;exact(q.into (x1.trans x2)).one x2.nh .non
 |_=>simp[FD]at ee
@[simp] def RS:D->D->Option (D×Bool)
 |.dk ks vs,y=>(k9 y).bind λk=>(cE ks vs k).map λd=>(d,false)
 |_,_=>none
theorem Nk {fo fi:FE}(hu:X.A.units+1<cLine)(ho:JE X o fo)(hi:JE X i fi)(hs:M2 i):JE X (.Subscript o i pos) (f2 RS fo fi):=by
 refine PE.to (Io hu ho hi hs) λσ H Q q=>?_;obtain⟨B,ρ,d,bb,sB,r,ee,q⟩:=q;obtain⟨x,ex,ee⟩:=oX ee;obtain⟨y,ey,ee⟩:=oX ee;refine⟨B,ρ,x.1,x.2,sB,r,ex,λv H1 N1 x1 i1 ff=>?_⟩;obtain⟨xd,xb⟩:=x;cases i1 with
 |@dk a ks vs ds ob h hl hs'=>
  simp only[RS]at ee;obtain⟨k,hk,ee⟩:=oX ee;obtain⟨d0,hd,ee⟩:=oY ee;cases ee
  refine⟨N1,ρ,y.1,y.2,x1.nh,r.mono x1.bn,ey,λv2 H2 N2 x2 i2 _=>?_⟩;have hv:=oN i2 hk;subst hv;rcases qE k hl (hs'.mono x2.bn)with⟨v,d',e1,e2,i3⟩|⟨_,e2⟩
  ·rw[hd]at e2;cases e2
   exact⟨a,v,rfl,.inl ⟨_,k,_,.inl (x2.nh _ _ (x2.bn _ _ h)),rfl,e1.symm⟩,(q.into (x1.trans x2)).one x2.nh i3⟩
  ·rw[hd]at e2;cases e2
 |_=>simp[RS]at ee
@[simp] def Ji:D->D->Option (D×Bool)
 |y,.dk ks vs=>(k9 y).map λk=>(.bl (cE ks vs k).isSome,false)
 |_,_=>none
@[simp] def Tq:D->D->Option (D×Bool)
 |y,.dk ks vs=>(k9 y).map λk=>(.bl (!(cE ks vs k).isSome),false)
 |_,_=>none
theorem ue {κ:Type}[DecidableEq κ]{K:PySem.W.Frag}{B:Hp}{k:κ}{ks:List κ}{vs:List V}{ds:List D}(hl:ks.length=vs.length)(hs:IsL K B vs ds):(kg (ks.zip vs) k).isSome=(cE ks ds k).isSome:=by
 rcases qE k hl hs with⟨v,d,e1,e2,_⟩|⟨e1,e2⟩
 ·rw[e1,e2];rfl
 ·rw[e1,e2];rfl
theorem Nl {fi fo:FE}(hu:X.A.units+1<cLine)(hi:JE X i fi)(ho:JE X o fo)(hm:behindInMarks .In o=false:=by first|exact jl _ (by decide) (by decide)|rfl):JT X (.Compare i [.In] [o] pos) (bg (f2 Ji fi fo)):=by
 refine PT.to (LW (E8 hu hi ho) hm) λσ H Q q=>?_;obtain⟨B,ρ,d,bb,sB,r,ee,q⟩:=Ah q;obtain⟨y,ey,ee⟩:=oX ee;obtain⟨x,ex,ee⟩:=oX ee;refine⟨B,ρ,y.1,y.2,sB,r,ey,λv2 H1 N1 x1 i2 _=>⟨N1,ρ,x.1,x.2,x1.nh,r.mono x1.bn,ex,λv H2 N2 x2 i1 ff=>?_⟩⟩;obtain⟨xd,xb⟩:=x;cases i1 with
 |@dk a ks vs ds ob h hl hs=>
  simp only[Ji]at ee;obtain⟨k,hk,ee⟩:=oY ee;cases ee
  have hv:=oN i2 hk;subst hv;refine⟨a,kg (ks.zip vs) k,rfl,.inl ⟨_,k,_,.inl (x2.nh _ _ h),rfl,rfl⟩,?_⟩;rw[ue hl hs];exact(q.into (x1.trans x2)).one x2.nh (.bl _)
 |_=>simp[Ji]at ee
end
noncomputable def dJ {κ:Type}[DecidableEq κ](ks:List κ)(k:κ):List κ:=if k∈ks then ks else ks++[k]
noncomputable def dL {κ α:Type}[DecidableEq κ](ks:List κ)(xs:List α)(k:κ)(x:α):List α:=if k∈ks then List.zipWith (λk' x'=>if k'=k then x else x') ks xs else xs++[x]
theorem BE {κ:Type}[DecidableEq κ](k:κ):∀ {ks:List κ}{vs:List V},ks.length=vs.length->((ks.zip vs).any λkv=>decide (kv.1=k))=decide (k∈ks)
 |[],_,_=>by simp
 |k'::ks,[],h=>by simp at h
 |k'::ks,v::vs,h=>by
  have ih:=BE k (ks:=ks) (vs:=vs) (by simpa using h);rw[List.zip_cons_cons,List.any_cons,ih];by_cases e:k'=k
  ·simp[e]
  ·have e':¬k=k':=λz=>e z.symm;simp[e,e']
theorem BF {κ:Type}[DecidableEq κ](k:κ)(v:V):∀(ks:List κ)(vs:List V),(ks.zip vs).map (λkv=>if kv.1=k then (kv.1,v)else kv)=ks.zip (List.zipWith (λk' x'=>if k'=k then v else x') ks vs)
 |[],_=>by simp
 |_::_,[]=>by simp
 |k'::ks,w::vs=>by
  rw[List.zip_cons_cons,uY,BF k v ks vs,List.zipWith_cons_cons,List.zip_cons_cons];by_cases e:k'=k
  ·simp[e]
  ·simp[e]
theorem pN {κ:Type}[DecidableEq κ]{ks:List κ}{vs:List V}(hl:ks.length=vs.length)(k:κ)(v:V):mr (ks.zip vs) k v=(dJ ks k).zip (dL ks vs k v):=by
 unfold mr dJ dL;rw[BE k hl];by_cases h:k∈ks
 ·rw[if_pos (decide_eq_true h),if_pos h,if_pos h,BF]
 ·rw[if_neg (by simpa using h),if_neg h,if_neg h,List.zip_append hl];rfl
theorem mI {κ α:Type}[DecidableEq κ]{ks:List κ}{xs:List α}(hl:ks.length=xs.length)(k:κ)(x:α):(dJ ks k).length=(dL ks xs k x).length:=by
 unfold dJ dL;split<;>simp[hl]
theorem IsL.zipWith {κ:Type}[DecidableEq κ]{K:PySem.W.Frag}{B:Hp}{k:κ}{v:V}{d:D}(i:Is K B v d):∀ {ks:List κ}{vs:List V}{ds:List D},IsL K B vs ds->IsL K B (List.zipWith (λk' x'=>if k'=k then v else x') ks vs) (List.zipWith (λk' x'=>if k'=k then d else x') ks ds)
 |[],_,_,_=>by simpa using IsL.nil
 |_::_,_,_,.nil=>by simpa using IsL.nil
 |k'::ks,_,_,.cons h t=>by
  rw[List.zipWith_cons_cons,List.zipWith_cons_cons];refine .cons ?_ (IsL.zipWith i t);by_cases e:k'=k
  ·rw[if_pos e,if_pos e];exact i
  ·rw[if_neg e,if_neg e];exact h
theorem IsL.put {κ:Type}[DecidableEq κ]{K:PySem.W.Frag}{B:Hp}{k:κ}{v:V}{d:D}(i:Is K B v d){ks:List κ}{vs:List V}{ds:List D}(h:IsL K B vs ds):IsL K B (dL ks vs k v) (dL ks ds k d):=by
 unfold dL;split
 ·exact h.zipWith i
 ·exact h.append (.cons i .nil)
section
variable {K:PySem.W.Frag}{E:Ends}{σ:St}{H:Hp}
noncomputable def BG (i:Nat):FS:=λρ=>some (.nx (ρ.set i (some (.dk [] [],true))))
noncomputable def FH (i:Nat):FS:=λρ=>some (.nx (ρ.set i (some (.dt [] [],true))))
theorem eM.newBox (s:eM K B0 H0 N H σ ρ)(i:Nat)(hp:H p=none)(hb:∀C,Bx K C ob dd):eM K B0 H0 (upd N p ob) (upd H p ob) (σ.set i (some (.ref p))) (ρ.set i (some (dd,true))):=by
 have x:=Ext.laid (o:=ob) s.ext.nh hp;have s1:=s.grow x;have Wz:N p=none:=s.ext.nh.free hp;have YK:¬own σ ρ p:=λz=>by obtain⟨ws,⟨q,_⟩,_⟩:=s.owned z;rw[Wz]at q;cases q
 have c:aZ (eD N (own σ ρ)) (eD (upd N p ob) (λb=>own σ ρ b∨b=p)):=eP λb u e q=>⟨x.bn _ _ e,λz=>z.elim q λz=>by subst z;rw[Wz]at e;cases e⟩;refine s1.bindOwn aH (s.ext.hh.free hp) (λj e q z=>YK ⟨j,e,q,z⟩) (λj e _ q=>?_) (λj e _ q=>?_) (hb _)
 ·obtain⟨w,h1,h2⟩:=s.sh j e q;exact⟨w,h1,h2.mono c⟩
 ·obtain⟨a',o',h1,h2,_,h4⟩:=s.ow j e q;exact⟨a',o',h1,x.bn _ _ h2,h4.mono c⟩
theorem FI (q:oF K (BG i) E σ H):zP EA (jT i) E σ H:=by
 obtain⟨B0,H0,ρ,r,⟨N,s⟩,e,p⟩:=q;cases e
 exact λa ob ha=>p _ _ ⟨_,s.newBox i ha λ_=>.dk (ks:=[]) (vs:=[]) rfl .nil⟩
theorem FJ (q:oF K (FH i) E σ H):zP EB (jT i) E σ H:=by
 obtain⟨B0,H0,ρ,r,⟨N,s⟩,e,p⟩:=q;cases e
 exact λa ha=>p _ _ ⟨_,s.newBox i ha λ_=>.dt (ks:=[]) (vs:=[]) rfl .nil⟩
def yA (i:Nat)(fk fv:FE):FS:=λρ=>match ρ[i]? with
 |some (some (.dk ks vs,true))=>(fv ρ).bind λv=>(fk ρ).bind λk=>(k9 k.1).bind λkk=>if bu v.1=true/\ks.length<sizeLine then some (.nx (ρ.set i (some (.dk (dJ ks kk) (dL ks vs kk v.1),true))))else none
 |_=>none
theorem FK {i:Nat}{fk fv:FE}(q:oF K (yA i fk fv) E σ H):Bg (Ep i) (tD K fk) (tD K fv) E σ H:=by
 obtain⟨B0,H0,ρ,r,⟨N,s⟩,e,p⟩:=q;unfold yA at e;split at e
 ·rename_i ks ds ei;obtain⟨v,ev,e⟩:=oX e;obtain⟨k,ek,e⟩:=oX e;obtain⟨kk,hk,e⟩:=oX e;split at e
  ·rename_i hx;cases e
   refine⟨N,ρ,v.1,v.2,s.ext.nh,s.rep,ev,λv1 H1 N1 x1 i1 _=>?_⟩;have s1:=s.grow x1;obtain⟨a,o,h1,h2,h3,h4⟩:=s1.ow i _ ei;refine⟨.ref a,h1,N1,ρ,k.1,k.2,s1.ext.nh,s1.rep,ek,λv2 H2 N2 x2 i2 _=>?_⟩;have s2:=s1.grow x2;have hv:=oN i2 hk;subst hv;obtain⟨a',o',k1,k2,k3,k4⟩:=s2.ow i _ ei;rw[h1]at k1;cases k1
   cases k4 with
   |@dk ks vs ds hl h5 ob=>
    refine⟨a,rfl,.inl ⟨_,kk,_,s2.ext.nh _ _ k2,rfl,?_,λTX=>?_⟩⟩
    ·rw[List.length_zip];omega
    ·rw[pN hl];exact p σ _ ⟨_,s2.writeB ei h1 (.dk (mI hl _ _) (h5.put (s2.flat (i1.mono x2.bn) hx.1)))⟩
  ·cases e
 ·cases e
end
section
variable {X:Cx}{pos:Pos}{e k:Expr}
theorem BH (hN:X.N.Nodup)(hi:X.N[i]? = some x:=by rfl)(hx:Ht X.env.scope x:=by first|exact Or.inl rfl|exact Or.inr rfl)(hs:swapsWith (.Dict [] [] dp) (some (.Name x p)) pos.line X.env=pure false:=by rfl)
  (hf:X.fn x=true∨X.env.scope.names.lookup x=some .local:=by first|exact .inl rfl|exact .inr rfl):JS X (.Assign [.Name x p] (.Dict [] [] dp) pos) (BG i):=PS.to (vi hN hi hx EC hs hf) λ_ _ _ q=>FI q
theorem Jj (hN:X.N.Nodup)(hi:X.N[i]? = some x:=by rfl)(hx:Ht X.env.scope x:=by first|exact Or.inl rfl|exact Or.inr rfl)(hs:swapsWith (.Dict [] [] dp) (some (.Name x p)) pos.line X.env=pure false:=by rfl)
  (hf:X.fn x=true∨X.env.scope.names.lookup x=some .local:=by first|exact .inl rfl|exact .inr rfl):JS X (.Assign [.Name x p] (.Dict [] [] dp) pos) (FH i):=PS.to (vi hN hi hx ED hs hf) λ_ _ _ q=>FJ q
theorem Jk (hu:X.A.units+1<cLine)(hv:JE X e fv)(hk:JE X k fk)(hN:X.N[i]? = some y:=by rfl)(AZ:Eo X.env.scope y:=by first|exact Or.inl rfl|exact Or.inr (Or.inl rfl)|exact Or.inr (Or.inr rfl))(hd:(y == ("__debug__" : Str))=false:=by decide)
  (jA:(y == ("__classdict__" : Str))=false:=by decide) (hs:swapsWith e (some (.Subscript (.Name y py) k pt)) pos.line X.env=pure false:=by rfl):JS X (.Assign [.Subscript (.Name y py) k pt] e pos) (yA i fk fv) :=
 PS.to (vy hu (lL hN AZ hd jA) hk hv hs) λ_ _ _ q=>FK q
end
section
variable {prog:Program}{w:World}{A:Around}{E:Value->Shared->Prop}{s:Shared}
abbrev Nm (h:Heap)(z TI TO T0:Addr)(f:Bool):Prop:=h.get? z=some { cls:=.type "zip",dict:=none,data:=.fields #[rawInt T0,.bool f,.bool false,.ref TI,.ref TO],slots:=#[] }
end
def Vu (k1 k2:Bool)(z TI TO i1 i2 l1 l2 S:Addr)(i:Nat)(h:Heap):Prop :=
 IsPair h TI (.ref i1) (.ref i2)/\Bw k1 h i1 l1 i/\Bw k2 h i2 l2 i/\((IsZip h z TI TO .none/\∃a b,IsPair h TO a b)∨∃T0 f oT oO,Nm h z TI TO T0 f/\h.get? T0=some oT/\T0∉[z,TI,TO,i1,i2]/\T0≠S/\h.get? TO=some oO)
section
variable {prog:Program}{w:World}{A:Around}{E:Value->Shared->Prop}{s:Shared}{k1 k2:Bool}{z TI TO i1 i2 l1 l2 S:Addr}{j:Nat}{xs ys:Array Value}
theorem Vu.ty (st:Vu k1 k2 z TI TO i1 i2 l1 l2 S j h):∃o,h.get? z=some o/\o.cls=.type "zip":=by
 obtain⟨_,_,_,a4⟩:=st;rcases a4 with⟨b1,_⟩|⟨T0,f,oT,oO,b1,_⟩
 ·exact⟨_,b1,rfl⟩
 ·exact⟨_,b1,rfl⟩
end
theorem qF (h:H a=none):aZ H (upd H a o):=λb u e=>by rw[aL (ba e h)];exact e
@[simp] def ZD (fa fb:FE):FE:=λρ=>(Th fa fb ρ).map λds=>(.lst ds,true)
end DL
namespace DL
open PySem PySem.Spec PyProof.Rows
theorem wE:typeLookup (.type "list") "keys" = pure none:=by rw[typeLookup_type,builtinLookup_eq_fast];kernel_rfl
theorem Dx 
  (hx:s.heap.get? a=some { cls:=.type "list",dict:=none,data:=.seq xs k,slots:=sl }) (hA:A.handled=none)
  (h:∀h' tk,(∀b o,s.heap.get? b=some o->h'.get? b=some o)->Q none { s with heap:=h',toks:=tk }):
  wpAny (model prog w) A (getAttr? (.ref a) "keys") Q E s:=by
 obtain⟨hp,g,d,tk,os⟩:=s;have hT:∀C9,(⟨hp,g,d,C9,os⟩:Shared).TypeIs (.ref a) "list":=λ_=>⟨_,hx,rfl⟩;have f1:=sub_AttributeError;have f3:=PySem.F.slot_list_getattribute.lookup;have f4:=PySem.F.slot_list_getattribute.bind (.ref a);have f5:=am_list_getattr_none;unfold getAttr? getAttrBy? getAttrBy;repeat (any_goals (first|assumption|exact hT _|((with_reducible show wpAny _ _ (call (Value.builtin "list.__getattribute__") _ _) _ _ _);refine call_meets PySem.F.slot_list_getattribute (hT _) am_entry_list_getattribute (PySem.F.args_list_getattribute_2 _ _) (meets_getattribute_miss_list a xs k sl "keys" _ wE (by decide) (by decide)) ⟨hx,hA,λh' C9 e hx'=>?_⟩)|wp_step))
 obtain⟨t',u',he⟩:=hx'.there;show wpAny _ _ (getattributeRaised _ _ _ _ _ _ _) _ _ _;unfold getattributeRaised;repeat (any_goals (first|assumption|wp_step))
 exact h _ _ hx'.of.keeps
end DL
namespace DL
open PySem PySem.Spec PyProof.Rows L2
def jc:List D->Option (List (cD×D))
 |[]=>some []
 |.tup [k,v]::r=>(k9 k).bind λkk=>(jc r).map λl=>(kk,v)::l
 |_=>none
noncomputable def qG (a:List cD×List D)(p:cD×D):List cD×List D:=(dJ a.1 p.1,dL a.1 a.2 p.1 p.2)
noncomputable def bW (l:List (cD×D)):List cD×List D:=l.foldl qG ([],[])
theorem qH (l:List (cD×D))(p:cD×D):bW (l++[p])=qG (bW l) p:=by unfold bW;rw[List.foldl_append];rfl
theorem qI:∀ {ds:List D}{l:List (cD×D)},jc ds=some l->l.length=ds.length
 |[],l,h=>by simp[jc]at h;subst h;rfl
 |d::r,l,h=>by
  unfold jc at h;split at h
  ·rename_i h0;cases h0
  ·rename_i k v r' h0;cases h0
   obtain⟨kk,_,h⟩:=oX h;obtain⟨l',h1,rfl⟩:=oY h;simp[qI h1]
  ·cases h
theorem qJ:∀ {ds:List D}{l:List (cD×D)}{i:Nat}{d:D},jc ds=some l->ds[i]? = some d->∃k v kk,d=.tup [k,v]/\k9 k=some kk/\l[i]? = some (kk,v)
 |[],l,i,d,_,h=>by simp at h
 |d0::r,l,i,d,h,hi=>by
  unfold jc at h;split at h
  ·rename_i h0;cases h0
  ·rename_i k v r' h0;cases h0
   obtain⟨kk,h2,h⟩:=oX h;obtain⟨l',h1,rfl⟩:=oY h;cases i with
   |zero=>simp at hi;subst hi;exact⟨k,v,kk,rfl,h2,rfl⟩
   |succ i=>simp only[List.getElem?_cons_succ]at hi ⊢;exact qJ h1 hi
  ·cases h
theorem FL (l:List (cD×D)):∀a:List cD×List D,a.1.length=a.2.length->(l.foldl qG a).1.length=(l.foldl qG a).2.length/\(l.foldl qG a).1.length<=a.1.length+l.length:=by
 induction l with
 |nil=>intro a h;exact⟨h,vT _⟩
 |cons p l ih=>
  intro a h;have h1:(qG a p).1.length<=a.1.length+1:=by
   show(dJ _ _).length<=_;unfold dJ;split<;>simp
  have:=ih (qG a p) (mI h _ _);rw[List.foldl_cons,vE];exact⟨this.1,by omega⟩
theorem Dy (l:List (cD×D)):(bW l).1.length=(bW l).2.length/\(bW l).1.length<=l.length:=by
 have:=FL l ([],[]) rfl;exact⟨this.1,vR this.2 (by simp)⟩
theorem ug:entryFor table "dict.update.loop" = some Builtin.«dict.update.loop»:=entryFor_of_tree (by kernel_rfl)
theorem kX:plainId "dict.update.loop" = true:=by decide +kernel
section
variable {X:Cx}{af:List (Addr×Obj)}{σ:St}{B H0:Hp}{A:Around}{R:Result->Shared->Prop}{it l d:Addr}{us:List V}{ds:List D}{gM:List (cD×D)}
theorem AA (hA:A.handled=none)(nl:l≠it)(nd:d≠it)(hl:iM X.K B l us)(il:IsL X.K B us ds)(hp:jc ds=some gM)
  (hR:∀Hc N vs ob s',Inv X af σ (upd Hc d (.dK ((bW gM).1.zip vs) ob)) s'->Hc d=none->Ext B N H0 Hc->(bW gM).1.length=vs.length->IsL X.K N vs (bW gM).2->R (.ok (.ret .none)) s'):
  ∀(k i:Nat)(tk:Nat)(s:Shared)(Hc N:Hp)(vs:List V)(ob:Obj),ds.length - i=k->i<=ds.length->Inv X af σ (upd Hc d (.dK ((bW (gM.take i)).1.zip vs) ob)) s->Hc d=none->Ext B N H0 Hc->nR X af (upd Hc d (.dK ((bW (gM.take i)).1.zip vs) ob)) it ->
   s.heap.IsListIter it l i->(bW (gM.take i)).1.length=vs.length->IsL X.K N vs (bW (gM.take i)).2 ->
   codeAny (model X.prog X.w) A (.builtin "dict.update.loop" ⟨[.ref d,.ref it,.int i tk,.none],[]⟩) R s:=by
 have n1:=il.length;have n2:=qI hp;intro k;induction k with
 |zero=>
  intro i tk s Hc N vs ob hk hi I hc xt fp st hz hv;have Kq:i=ds.length:=by omega
  have sm:aZ B (upd Hc d (.dK ((bW (gM.take i)).1.zip vs) ob)):=(xt.bn.trans xt.nh).trans (qF hc);obtain⟨its,r1,p1,z1⟩:=I.list (sm.seq hl);have e1:=r1.length;refine codeAny_builtin ug ?_;rw[Around.under_plainId kX _];show wpAny _ A.in1 (pyNext (.ref it)>>=_) _ _ s;refine wX (wpAny_pyNext_list_end (A:=A.in1) hA st p1.isList (by simp;omega) λh' fD=>?_);show wpAny _ _ (Builtin.Dict.addKeywords d []>>=_) _ _ _;refine wX (wY (wY ?_));have I1:=pJ (t':=s.toks) (h':=h') (ch:=[it]) I (λb hb=>by rw[uT hb];exact fp) λb o hb e=>fD b o (λq=>hb (by simp[q])) e;rw[Kq,←n2,List.take_length]at I1 hz hv;exact hR Hc N vs ob _ I1 hc xt hz hv
 |succ k ih=>
  intro i tk s Hc N vs ob hk hi I hc xt fp st hz hv;have fT:i<ds.length:=by omega
  have sm:aZ B (upd Hc d (.dK ((bW (gM.take i)).1.zip vs) ob)):=(xt.bn.trans xt.nh).trans (qF hc);obtain⟨its,r1,p1,z1⟩:=I.list (sm.seq hl);obtain⟨kd,vd,kk,ed,ek,el⟩:=qJ hp (vU fT);obtain⟨x,hx,ix⟩:=il.get (vU fT);rw[ed]at ix;cases ix with
  |@tup T xs _ hT hxs=>
   cases hxs with
   |cons ik r=>
    cases r with
    |cons iv r=>
     cases r
     rename_i xk xv;have YL:=oN ik ek;subst YL;obtain⟨u,hu,ru⟩:=r1.get hx;cases (show u=Value.ref T from ru)
     refine codeAny_builtin ug ?_;rw[Around.under_plainId kX _];show wpAny _ A.in1 (pyNext (.ref it)>>=_) _ _ s;refine wX (wpAny_pyNext_list_item (A:=A.in1) st p1.isList (x:=.ref T) (by simpa using hu) λh' lH hs=>?_);have I1:=pJ (t':=s.toks) (h':=h') (ch:=[it]) I (λb hb=>by rw[uT hb];exact fp) λb o hb e=>hs.extBut b o (λq=>hb (by simp[q])) e;obtain⟨ps,r2,p2,z2⟩:=I1.tuple (bw sm hT);obtain⟨uk,uv,rfl,rk,rv⟩:=r2.two;have YM:Shared.TypeIs { s with heap:=h' } (.ref T) "tuple":=by obtain⟨o,e,c,_⟩:=p2;exact⟨o,e,c⟩
     dsimp only;refine wX (wpAny_holding (wX (wpAny_tryCatch ?_)));unfold Builtin.Dict.pairItems;refine wX (wpAny_typeOf YM ?_);obtain⟨oT,eT,cT,nT,dT⟩:=p2;rw[if_pos (by decide)];refine wX (wpAny_seqItems eT dT (wY ?_));show wpAny _ _ (holding [uk,uv] (dictSet d uk uv)) _ _ _;obtain⟨zz,Wx,YN,su,dd⟩:=pX I1.hok (a:=d) aH;have YO:YN.length<=sizeLine:=by rw[←su.length];exact zz
     have nk:((bW (gM.take i)).1.zip vs).length<sizeLine:=by
      have a1:=(Dy (gM.take i)).2;have a2:=z1;rw[List.length_take]at a1;rw[List.length_zip];omega
     refine wpAny_holding (wpAny_dictSet_pairs (hsz:=YO) (t6 rk) dd λh2 NL OT=>?_);have Ea:(mr ((bW (gM.take i)).1.zip vs) kk xv).length<=sizeLine:=by have:=ko ((bW (gM.take i)).1.zip vs) kk xv;omega
     obtain⟨W1,OI⟩:∃q,h2.get? d=some q:=let ⟨q,_,_,hq,_⟩:=NL;⟨q,hq⟩;have I2:=vx (t':=s.toks+1) I1 (a:=d) (ob:=.dK (mr ((bW (gM.take i)).1.zip vs) kk xv) W1) (by rw[aH];exact True.intro) OT ⟨_,OI⟩ (E7 Ea Wx (su.put kk rv) NL OI);rw[HJ,pN hz]at I2;have et:gM.take (i+1)=gM.take i++[(kk,vd)]:=by rw[List.take_add_one,el];rfl
     have W2:(bW (gM.take (i+1))).1=dJ (bW (gM.take i)).1 kk:=by rw[et,qH];rfl
     have YQ:(bW (gM.take (i+1))).2=dL (bW (gM.take i)).1 (bW (gM.take i)).2 kk vd:=by rw[et,qH];rfl
     refine wY ⟨plainId_quiet kX _,?_⟩;refine ih (i+1) 0 _ Hc N (dL (bW (gM.take i)).1 vs kk xv) W1 (by omega) fT (by rw[W2];exact I2) hc xt ?_ ?_ ?_ ?_
     ·obtain⟨f0,f1⟩:=fp;refine⟨?_,f1⟩;rw[aL nd.symm]at f0 ⊢;exact f0
     ·exact lH.at λo e=>(OT.2 it nd.symm).trans e
     ·rw[W2];exact mI hz _ _
     ·rw[YQ];exact hv.put (iv.mono xt.bn)
end
@[simp] def jL:List D->Option (D×Bool)
 |[.lst ds]=>(jc ds).map λgM=>(.dk (bW gM).1 (bW gM).2,false)
 |_=>none
theorem Nn:bootBuiltins "dict" = some (.type "dict"):=by decide +kernel
section
variable {X:Cx}
theorem No (UG:X.calm=true):ce X (.type "dict") (Bh X.K jL):=by
 intro af s σ H xs us Q I r h;obtain⟨B,ZO,d0,bb,sB,i0,ee,q⟩:=h;cases i0 with
 |nil=>simp[jL]at ee
 |cons i1 i2=>
  cases i2 with
  |cons _ _=>cases i1<;>simp[jL]at ee
  |nil=>
   cases i1<;>try (simp[jL]at ee;done)
   rename_i l ws ds hl il;simp only[jL]at ee;obtain⟨gM,hp,ee⟩:=oY ee;cases ee
   obtain⟨u,rfl,rx⟩:=gY r;cases rx
   have hA:X.A.handled=none:=I.ok.hd UG;refine callType_codes (Q₁:=λobj s₁=>obj=.ref s.heap.objs.size/\s₁={ s with heap:=s.heap.push { cls:=.type "dict",data:=.dict #[] } }) PySem.F.kt_called_dict (PySem.F.kt_typeCall_dict_1 _) PySem.F.entry_dict_init (kt_code_dict_new _ ⟨rfl,rfl⟩) ?_;rintro obj s₁ ⟨rfl,rfl⟩;have I1:Inv X af σ (upd H s.heap.objs.size (.dK [] { cls:=.type "dict",data:=.dict #[] })) { s with heap:=s.heap.push { cls:=.type "dict",data:=.dict #[] } }:=I.laid (t':=s.toks) (λb o e=>vZ _ e) (vT _) (xC s.heap I.big);have W3:H s.heap.objs.size=none:=I.fresh;have hT:Shared.TypeIs { s with heap:=s.heap.push { cls:=.type "dict",data:=.dict #[] } } (.ref s.heap.objs.size) "dict":=⟨_,vY _ rfl,rfl⟩;refine⟨hT,PySem.F.args_dict_init_2 _ _,?_⟩;unfold Builtin.«dict.__init__»;refine wX ?_;unfold Builtin.Dict.selfAndRest;refine wX (wpAny_notOrdered_dict hT ?_);show wpAny _ _ (pure (s.heap.objs.size,[Value.ref l])) _ _ _;refine wY ?_;show wpAny _ _ (Builtin.Dict.updateFrom "dict.__init__" s.heap.objs.size (.ref l) [] .none) _ _ _;unfold Builtin.Dict.updateFrom;have sm:aZ B (upd H s.heap.objs.size (.dK [] { cls:=.type "dict",data:=.dict #[] })):=sB.trans (qF W3);obtain⟨its,r1,p1,z1⟩:=I1.list (sm.seq hl);have pl:=p1.isList;obtain⟨ol,nl,Sv,cl,W4,dl⟩:=p1;have YR:Shared.TypeIs { s with heap:=s.heap.push { cls:=.type "dict",data:=.dict #[] } } (.ref l) "list":=⟨ol,Sv,cl⟩;refine wX (wpAny_typeOf YR ?_);rw[if_pos (by decide)];obtain⟨oc,od,oo,os⟩:=ol;simp only at cl W4 dl;subst cl W4 dl;refine wX (Dx Sv (by exact hA) λh' tk hk=>?_);dsimp only[Option.isNone_none];rw[if_pos rfl];have I2:Inv X af σ (upd H s.heap.objs.size (.dK [] { cls:=.type "dict",data:=.dict #[] })) { s with heap:=h',toks:=tk }:=I1.kept (t':=tk) hk;refine wX (wpAny_rule ?_);refine wX (wpAny_pyIter_list (items:=its.toArray) ⟨_,hk _ _ Sv,rfl,nl,rfl⟩ ?_);have I3:Inv X af σ (upd H s.heap.objs.size (.dK [] { cls:=.type "dict",data:=.dict #[] })) { s with heap:=h'.push { cls:=.type "list_iterator",data:=.fields #[.ref l,.int 0 0] },toks:=tk }:=I2.kept (t':=tk) λb o e=>vZ _ e;have ld:s.heap.objs.size<h'.objs.size:=vX (hk _ _ (vY _ rfl));have ll:l<h'.objs.size:=vX (hk _ _ Sv);refine wY ⟨plainId_quiet kX _,AA (A:=X.A.in1) (B:=B) (H0:=H) (l:=l) (d:=s.heap.objs.size) (it:=h'.objs.size) hA (vS ll) (vS ld) hl il hp (λHc N vs ob s' I' JZ xt hz hv=>?_) _ 0 0 _ H B [] _ rfl (uN _) I3 W3 (Ext.refl sB) (I2.fpOk (vT _) (I2.hok.fresh (vT _))) ⟨_,vY _ rfl,rfl,rfl⟩ rfl .nil⟩;refine⟨rfl,.ref s.heap.objs.size,_,I',rfl,?_⟩;have x3:=xt.trans (Ext.laid (o:=.dK ((bW gM).1.zip vs) ob) xt.nh JZ);exact q _ _ _ x3 (.dk aH hz (hv.mono (Ext.laid (o:=.dK ((bW gM).1.zip vs) ob) xt.nh JZ).bn)) (by simp)
end
@[simp] noncomputable def Vv:FE:=λ_=>none
@[simp] noncomputable def Vw:FA:=λ_=>none
theorem Lm (h:n+40<cLine):n+1<cLine:=by omega
@[simp] noncomputable def Np:D->D->Option (D×Bool)
 |.lst ds,.int k=>if 0<=k/\ds.length*k.toNat<=1000/\k<=1000 then some (.lst (List.replicate k.toNat ds).flatten,true)else none
 |_,_=>none
@[simp] def yB (fa fb:FE):FE:=λρ=>(fa ρ).bind λx=>if x.2=true then (fb ρ).bind λy=>Np x.1 y.1 else none
theorem IsL.rep {K:PySem.W.Frag}{H:Hp}{vs:List V}{ds:List D}(h:IsL K H vs ds):∀k:Nat,IsL K H (List.replicate k vs).flatten (List.replicate k ds).flatten
 |0=>.nil
 |k+1=>by rw[List.replicate_succ,List.replicate_succ,List.flatten_cons,List.flatten_cons];exact h.append (IsL.rep h k)
section
variable {X:Cx}{a b:Expr}{pos:Pos}
theorem AB {fa fb:FE}(ha:JE X a fa)(hb:JE X b fb):JE X (.BinOp a .Mult b pos) (yB fa fb):=by
 refine PE.to (Ky Mz ha hb) λσ H Q q=>?_;obtain⟨B,ρ,d,bb,sB,r,ee,q⟩:=q;obtain⟨x,ex,ee⟩:=oX ee;split at ee
 ·rename_i hx;obtain⟨⟨yd,yb⟩,ey,ee⟩:=oX ee;refine⟨B,ρ,x.1,x.2,sB,r,ex,λv H1 N1 x1 i1 fr=>⟨N1,ρ,yd,yb,x1.nh,r.mono x1.bn,ey,λu H2 N2 x2 i2 QX=>?_⟩⟩;obtain⟨a0,vs,ds,rfl,e1,h0,h1,il⟩:=fr hx;rw[e1]at ee;clear QX;cases i2<;>try (simp[Np]at ee;done)
  rename_i k;simp only[Np]at ee;split at ee
  ·rename_i hk;cases ee
   have hl:=il.length;refine⟨a0,k,vs,rfl,rfl,x2.nh _ _ (x2.bn _ _ h1),by omega,by omega,by rw[hl];exact vR hk.2.1 (by decide:(1000:Nat)<=sizeLine),λp hp=>?_⟩;have x3:=Ext.laid (o:=.lst (List.replicate k.toNat vs).flatten) x2.nh hp;have W5:=((il.mono x2.bn).mono x3.bn).rep k.toNat;exact q _ _ _ ((x1.trans x2).trans x3) (.lst (iM.of aH) W5) λ_=>⟨_,_,_,rfl,rfl,(x1.trans x2).hh.free hp,aH,W5⟩
  ·cases ee
 ·cases ee
end
def iP:List D->Option (List cD)
 |[]=>some []
 |d::ds=>(k9 d).bind λk=>(iP ds).map (k :: ·)
theorem AD {K:PySem.W.Frag}{B:Hp}:∀ {vs:List V}{ds:List D}{ks:List cD},IsL K B vs ds->iP ds=some ks->vs=ks.map kV
 |_,_,ks,.nil,e=>by simp[iP]at e;subst e;rfl
 |_,_,ks,.cons i is,e=>by
  simp only[iP]at e;obtain⟨k,h1,e⟩:=oX e;obtain⟨r,h2,rfl⟩:=oY e;rw[oN i h1,AD is h2];rfl
@[simp] def FM (fo:FE)(fa:FA):FE:=λρ=>(fo ρ).bind λx=>(fa ρ).bind λds=>match x.1 with
 |.dt kss vs=>if ds.length<=sizeLine then (iP ds).map λk=>((cE kss vs k).getD .non,false)else none
 |_=>none
section
variable {X:Cx}{o:Expr}{es:List Expr}{pos:Pos}
theorem FN {dI cJ DV:Pos}{x1:Nat}{fo:FE}{fa:FA}(hu:X.A.units+1<cLine)(ho:JE X o fo)(ha:JA X es fa)(m:M1 X o "get" dI (.Tuple es x1 DV) cJ):JE X (.Call (.Attribute o "get" dI) [.Tuple es x1 DV] [] cJ) (FM fo fa):=by
 refine PE.to (xD hu ho (zU ha) m) λσ H Q q=>?_;obtain⟨B,ρ,d,bb,sB,r,ee,q⟩:=q;obtain⟨x,ex,ee⟩:=oX ee;obtain⟨ds,ey,ee⟩:=oX ee;refine⟨B,ρ,x.1,x.2,sB,r,ex,λv H1 N1 x1 i1 ff=>?_⟩;obtain⟨xd,xb⟩:=x;cases i1 with
 |@dt a ks vs DW h hl hs=>
  simp only at ee;split at ee
  ·rename_i hz;obtain⟨k,hk,ee⟩:=oY ee;cases ee
   refine⟨a,rfl,.inr ⟨_,.inl (x1.nh _ _ h)⟩,N1,ρ,ds,x1.nh,r.mono x1.bn,ey,λus H2 N2 x2 i2=>?_⟩;have hv:=AD i2 hk;have YS:us.length<=sizeLine:=by rw[i2.length];exact hz
   refine⟨YS,λp hp=>?_⟩;have x3:=Ext.laid (o:=.tup us) x2.nh hp;have YT:N2 a=some (.dT (ks.zip vs)):=x2.bn _ _ h;refine⟨kg (ks.zip vs) k,.inr ⟨_,k,p,.inl (x3.nh _ _ (x3.bn _ _ YT)),rfl,by rw[aH,hv],rfl⟩,?_⟩;have OT:=(hs.mono x2.bn).mono x3.bn;rcases qE k hl OT with⟨v,d',e1,e2,i3⟩|⟨e1,e2⟩
   ·rw[e1];rw[e2]at q;exact(q.into ((x1.trans x2).trans x3)).one x3.nh i3
   ·rw[e1];rw[e2]at q;exact(q.into ((x1.trans x2).trans x3)).one x3.nh .non
  ·cases ee
 |_=>simp at ee
end
section
variable {K:PySem.W.Frag}{E:Ends}{σ:St}{H:Hp}
def uh (i:Nat)(fk:FA)(fv:FE):FS:=λρ=>match ρ[i]? with
 |some (some (.dt ks vs,true))=>(fv ρ).bind λv=>(fk ρ).bind λkd=>(iP kd).bind λkk=>if bu v.1=true/\ks.length<sizeLine/\kd.length<=sizeLine then some (.nx (ρ.set i (some (.dt (dJ ks kk) (dL ks vs kk v.1),true))))else none
 |_=>none
theorem FP {i:Nat}{fk:FA}{fv:FE}(q:oF K (uh i fk fv) E σ H):Bg (Ep i) (P4 (Oy K fk)) (tD K fv) E σ H:=by
 obtain⟨B0,H0,ρ,r,⟨N,s⟩,e,p⟩:=q;unfold uh at e;split at e
 ·rename_i ks ds ei;obtain⟨v,ev,e⟩:=oX e;obtain⟨kd,ek,e⟩:=oX e;obtain⟨kk,hk,e⟩:=oX e;split at e
  ·rename_i hx;cases e
   refine⟨N,ρ,v.1,v.2,s.ext.nh,s.rep,ev,λv1 H1 N1 x1 i1 _=>?_⟩;have s1:=s.grow x1;obtain⟨a,o,h1,h2,h3,h4⟩:=s1.ow i _ ei;refine⟨.ref a,h1,N1,ρ,kd,s1.ext.nh,s1.rep,ek,λus H2 N2 x2 i2=>?_⟩;have s2:=s1.grow x2;have hv:=AD i2 hk;refine⟨by rw[i2.length];exact hx.2.2,λpp hp=>?_⟩;have x3:=Ext.laid (o:=.tup us) s2.ext.nh hp;have s3:=s2.grow x3;obtain⟨a',o',k1,k2,k3,k4⟩:=s3.ow i _ ei;rw[h1]at k1;cases k1
   cases k4 with
   |@dt ks vs ds hl h5=>
    refine⟨a,rfl,.inr ⟨_,kk,pp,s3.ext.nh _ _ k2,rfl,by rw[aH,hv],?_,?_⟩⟩
    ·rw[List.length_zip];omega
    ·rw[pN hl];exact p σ _ ⟨_,s3.writeB ei h1 (.dt (mI hl _ _) (h5.put (s3.flat ((i1.mono x2.bn).mono x3.bn) hx.1)))⟩
  ·cases e
 ·cases e
end
section
variable {X:Cx}{pos:Pos}{e:Expr}{es:List Expr}
theorem Jl (hu:X.A.units+1<cLine)(hv:JE X e fv)(hk:JA X es fk)(hN:X.N[i]? = some y:=by rfl)(AZ:Eo X.env.scope y:=by first|exact Or.inl rfl|exact Or.inr (Or.inl rfl)|exact Or.inr (Or.inr rfl))(hd:(y == ("__debug__" : Str))=false:=by decide)
  (jA:(y == ("__classdict__" : Str))=false:=by decide) (hs:swapsWith e (some (.Subscript (.Name y py) (.Tuple es x1 DV) pt)) pos.line X.env=pure false:=by rfl):JS X (.Assign [.Subscript (.Name y py) (.Tuple es x1 DV) pt] e pos) (uh i fk fv) :=
 PS.to (vy hu (lL hN AZ hd jA) (zU hk) hv hs) λ_ _ _ q=>FP q
end
end DL
namespace DL
open PySem PySem.Spec PySem.W PyProof.Rows L2
section
variable {X:Cx}{a b c:Expr}{p pos:Pos}
noncomputable def Nq (lo c:Int)(n:Nat):List D:=(List.range n).map λ(k:Nat)=>.int (lo+(k:Int)*c)
@[simp] def RT (f g h:FE):FA:=λρ=>(f ρ).bind λx=>(g ρ).bind λy=>(h ρ).bind λz=>match x.1,y.1,z.1 with
 |.int i,.int j,.int c=>if(-1000<=i/\i<=1000/\-1000<=j/\j<=1000)/\(c=1∨c=2∨c=3)then some (Nq i c (Builtin.Range.rangeSize i j c).toNat)else none
 |_,_,_=>none
end
end DL
namespace L2
open PySem PySem.Spec PyProof.Rows
noncomputable def Tr (a:Addr)(aM:List (cD×V))(ob:Obj):It:=⟨λi H=>H a=some (.dK aM ob)/\i<aM.length,λi H x H'=>H'=H/\∃k,aM[i]? = some (k,x),λi H=>H a=some (.dK aM ob)/\aM.length<=i⟩
theorem KV.get {aM:List (cD×V)}{vs:List (cD×Value)}(r:KV aM vs){i:Nat}{k:cD}{x:V}(h:aM[i]? = some (k,x)):∃u,vs[i]? = some (k,u)/\aY x u:=by
 unfold KV at r;induction r generalizing i with
 |nil=>simp at h
 |@cons p q ps qs hq t ih=>
  cases i with
  |zero=>
   cases (show p=(k,x)from vK h)
   obtain⟨q1,q2⟩:=q;exact⟨q2,by rw[show k=q1 from hq.1];rfl,hq.2⟩
  |succ i=>exact ih h
theorem Qs (h:(cz P w).is k u=true):aY (kV k) u:=by
 cases k with
 |inl i=>exact Value.isInt_shape h
 |inr z=>exact Value.isStrOf_shape h
section
variable {P:Program}{w:World}{H:Hp}{h:Heap}{a:Addr}
theorem qK (ok:lq P w H h)(e:H a=some (.dK aM ob))(hd:ob.data=.dict es ep):∃vs,KV aM vs/\h.DictAt (cz P w) a vs ep:=by
 obtain⟨_,_,vs,r,o,Ek,OC,h1,h2,h3,h4⟩:=pX ok e;rw[Ad ok e]at h1;cases h1
 rw[hd]at h3;cases h3
 exact⟨vs,r,ob,es,Ad ok e,h2,hd,h4⟩
theorem wF (ok:lq P w H h)(e:H a=some (.dK aM ob)):∃es ep,ob.data=.dict es ep:=by
 obtain⟨_,_,vs,r,o,Ek,OC,h1,h2,h3,h4⟩:=pX ok e;rw[Ad ok e]at h1;cases h1
 exact⟨Ek,OC,h3⟩
end
theorem Dz {P:Program}{w:World}{K:PySem.W.Frag}{tg:Expr}(a it:Addr)(aM:List (cD×V))(ob:Obj){es:Array DictEntry}{ep:Nat}(hd:ob.data=.dict es ep):Turn P w K tg (Tr a aM ob) [it] it (λi h=>h.IsValIter it a i aM.length ep) where
 mem:=by simp
 obj:=λi h st b hb=>by
  have e:b=it:=by simpa using hb
  subst e;obtain⟨o,e,c,d⟩:=st;exact⟨o,e,λv z=>by rw[d]at z;cases z⟩
 keep:=λi h h' st k=>st.at λo e=>k it (by simp) o e
 item:=by
  intro X hP hw hK hc i af s σ H E I hf st hg;subst hP hw hK;obtain⟨hH,fT⟩:=hg;obtain⟨vs,r,m⟩:=qK I.hok hH hd;obtain⟨f0,f1,f2,f3,f4,f5⟩:=hf it (by simp);have hl:vs.length=aM.length:=(Paired.length r).symm;obtain⟨u,hu,ru⟩:=r.get (k:=aM[i].1) (x:=aM[i].2) (vU fT);refine wpAny_pyNext_values_item (by rw[hl];exact st) m hu λh' lH sb=>?_;rw[hl]at lH;have I1:Inv X af σ H { s with heap:=h' }:=I.turned (t':=s.toks) (λb o hb e=>(sb.2 b hb).trans e) f0 f1 f3 f4 f5;obtain⟨o,e,c,d⟩:=id lH;exact⟨u,rfl,sW (s:={ s with heap:=h' }) e c d (by decide) ⟨aM[i].2,H,I1,ru,⟨rfl,aM[i].1,vU fT⟩,lH,λb hb=>(hf b hb).1⟩⟩
 done:=by
  intro X hP hw hK hc i af s σ H E I hf st hg;subst hP hw hK;obtain⟨hH,Kn⟩:=hg;obtain⟨vs,r,m⟩:=qK I.hok hH hd;obtain⟨f0,f1,f2,f3,f4,f5⟩:=hf it (by simp);have hl:vs.length=aM.length:=(Paired.length r).symm;exact wpAny_pyNext_values_end (I.ok.hd hc) (by rw[hl];exact st) m (List.getElem?_eq_none (by omega)) λh' eb=>⟨rfl,I.turned (t':=s.toks) (λb o hb e=>eb b o hb e) f0 f1 f3 f4 f5⟩
 self:=λ_ _ _ _ _ st h=>wpAny_pyIter_valiter st h
section
variable {X:Cx}{tg:Expr}
def Qt (td:TE):TI:=λσ H R=>td σ H λx H1=>∃a aM ob,x=.ref a/\H1 a=some (.dK aM ob)/\R (Tr a aM ob) H1
theorem Jm {o:Expr}{td:TE}{dI cJ:Pos}(ho:PE X o td)(iI:attributeBase o "values" X.env (eval o X.env)=eval o X.env:=by rfl)(iJ:(dI.endLine == cJ.line)=true:=by rfl):PI X tg (.Call (.Attribute o "values" dI) [] [] cJ) (Qt td):=by
 intro af s σ H R I h;refine wpAny_Call_method0_late iI iJ (cR (ho af s σ H _ I h) λv s1 ⟨x,H1,I1,r1,a,aM,ob,ex,hH,q⟩=>?_);subst ex;obtain⟨h1,h2⟩:=Ac I1 r1 (T:="dict") (.inr (.inr (.inl ⟨rfl,.inl ⟨aM,ob,hH⟩⟩)));cases r1
 obtain⟨es,ep,hd⟩:=wF I1.hok hH;obtain⟨vs,r,m⟩:=qK I1.hok hH hd;have hl:vs.length=aM.length:=(Paired.length r).symm;refine⟨"dict","dict.values",PySem.F.plainAttrs_dict,PySem.F.slot_dict_values,PySem.F.type_dict_values,h1,h2,Calls.callWith_builtin rfl (PySem.evalArgs_none ?_)⟩;refine call_meetsIn PySem.F.slot_dict_values h1 PySem.F.entry_dict_values (PySem.F.args_dict_values_1 _) (meets_dict_values (cz X.prog X.w) a (pX I1.hok hH).2.1) ⟨⟨vs,m.dictOf⟩,?_⟩;have I2:Inv X af σ H1 { s1 with heap:=s1.heap.push { cls:=.type "dict_values",data:=.fields #[.ref a] } }:=I1.kept (t':=s1.toks) λb o e=>vZ _ e;refine wpAny_pyIter_values (v:=s1.heap.objs.size) ⟨_,vY _ rfl,rfl,rfl⟩ (m.keep λb o e=>vZ _ e) ?_;rw[hl];refine⟨(s1.heap.push { cls:=.type "dict_values",data:=.fields #[.ref a] }).objs.size,[(s1.heap.push { cls:=.type "dict_values",data:=.fields #[.ref a] }).objs.size],_,_,H1,rfl,I2.kept (t':=s1.toks) λb o e=>vZ _ e,Dz a _ aM ob hd,⟨_,vY _ rfl,rfl,rfl⟩,λb hb=>?_,q⟩;have e:b=(s1.heap.push { cls:=.type "dict_values",data:=.fields #[.ref a] }).objs.size:=by simpa using hb
 subst e;exact I2.fpOk (vT _) (I2.hok.fresh (vT _))
end
end L2
namespace DL
open PySem PySem.Spec PySem.W PyProof.Rows L2
noncomputable def kD:cD->D
 |.inl i=>.int i
 |.inr z=>.str z
theorem Qu {K:PySem.W.Frag}{B:Hp}(k:cD):Is K B (kV k) (kD k):=by
 cases k with
 |inl i=>exact .int i
 |inr z=>exact .str z
section
variable {K:PySem.W.Frag}{B:Hp}
theorem Jn {a:Addr}{ks:List cD}{vs:List V}{ds:List D}{ob:Obj}(h:B a=some (.dK (ks.zip vs) ob))(hl:ks.length=vs.length)(hs:IsL K B vs ds):qd K (Tr a (ks.zip vs) ob) B ds:=by
 intro i H s;have hz:(ks.zip vs).length=vs.length:=by rw[List.length_zip];omega
 refine⟨λd ed=>?_,λbR=>⟨s _ _ h,by rw[hz,hs.length];exact bR⟩⟩;obtain⟨v,ev,iv⟩:=hs.get ed;have fT:i<vs.length:=(vV ev).1;refine⟨⟨s _ _ h,by rw[hz];exact fT⟩,λy H3 hy=>?_⟩;obtain⟨rfl,k,e⟩:=hy;have:=(List.getElem?_zip_eq_some.mp e).2;rw[ev]at this;cases this
 exact⟨B,.refl s,iv⟩
end
section
variable {X:Cx}{e:Expr}{tg:Expr}
@[simp] noncomputable def qL (f:FE):FA:=λρ=>(f ρ).bind λx=>match x.1 with|.dk _ ds=>some ds|_=>none
@[simp] noncomputable def Ts (f:FE):FA:=λρ=>(f ρ).bind λx=>match x.1 with|.dk ks _=>some (ks.map kD)|_=>none
theorem BI (h:JE X e f)(iI:attributeBase e "values" X.env (eval e X.env)=eval e X.env:=by rfl)(iJ:(dI.endLine == cJ.line)=true:=by rfl):JI X tg (.Call (.Attribute e "values" dI) [] [] cJ) (qL f):=by
 intro af s σ H R I q;obtain⟨B,ρ,ds,sB,r,e',q⟩:=q;obtain⟨⟨xd,xb⟩,ex,es⟩:=oX e';cases xd<;>try (cases es;done)
 cases es
 refine Jm h iI iJ af s σ H R I ⟨B,ρ,_,_,sB,r,ex,λv H1 N1 x1 i1 _=>?_⟩;cases i1 with
 |@dk a ks vs ds ob hd hl hs=>exact⟨a,_,ob,rfl,x1.nh _ _ hd,q _ H1 N1 x1 (Jn hd hl hs)⟩
end
end DL
namespace DL
open PySem PySem.Spec PyProof.Rows L2
@[simp] abbrev dO (i:Nat)(j:Int):FE:=f2 bC (aj i) (fC (.int j))
theorem aW (F:Fn X.prog X.w X.K X.mg X.base k x f)(hr:eU j X.A)(ha:JA X (e::es) fa)(hj:k<=j:=by decide)(hg:Gl X x:=by rfl)(sk:(x == ("__debug__" : Str))=false:=by decide)(he:starEach (e::es) X.env=(false,eval e X.env)::starEach es X.env:=by rfl)(lx:(backTo pos (starEach es X.env)).any (·.1)=false:=by rfl):JE X (.Call (.Name x p) (e::es) [] pos) (fA f fa):=Bj F (hr.mono hj) ha hg sk he lx
theorem Qv (h1:∀y∈scope.names,y.2≠.cell:=by decide +kernel)(h2:scope.kind=.function:=by rfl)(h3:∀y∈scope.names,y.2=.local->scope.names.lookup y.1=some .local:=by decide +kernel)(OG:(scope.names.all λy=>!(y.2 == NameKind.free) || (X.env.cells.lookup y.1).isSome)=true:=by rfl):CompSc X scope (dR scope.names X.env.cells []):=M9 h1 h2 h3 OG
theorem Vx (h1:N'[j]? = some x)(h2:X.N[i]? = some x)(t:nN X N' scope (dR scope.names X.env.cells []) (j+1) r)(h3:X.env.kindOf x=some .cell∨X.env.kindOf x=some .free:=by exact Or.inl rfl)(h4:(relabel scope X.env).names.lookup x=some .cell∨(relabel scope X.env).names.lookup x=some .free:=by exact Or.inl rfl)(hf:(x,NameKind.free)∈scope.names:=by decide +kernel)(hc:(X.env.cells.lookup x).isSome=true:=by rfl):nN X N' scope (dR scope.names X.env.cells []) j (i::r):=.cons h1 h2 h3 h4 (pG hf hc) t
end DL
namespace DL
open PySem PySem.Spec PySem.W PyProof.Rows L2
noncomputable def oq:At->D
 |.i n=>.int n
 |.s z=>.str z
section
variable {prog:Program}{w:World}{A:Around}{E:Value->Shared->Prop}{s:Shared}
theorem Qw (hx:yx x u)(hy:yx y v):SeqAt.EqAt A s u v (bG (oq x) (oq y)):=by
 cases x with
 |i a=>
  obtain⟨t,rfl⟩:=hx;cases y with
  |i c=>obtain⟨t',rfl⟩:=hy;simp only[oq,bG];exact SeqAt.EqAt.int_int _ _ _ _
  |s c=>obtain⟨t',rfl⟩:=hy;simp only[oq,bG];exact SeqAt.EqAt.int_str _ _ _ _
 |s a=>
  obtain⟨t,rfl⟩:=hx;cases y with
  |i c=>obtain⟨t',rfl⟩:=hy;simp only[oq,bG];exact SeqAt.EqAt.str_int _ _ _ _
  |s c=>obtain⟨t',rfl⟩:=hy;simp only[oq,bG];exact SeqAt.EqAt.str_str _ _ _ _
theorem BJ:∀ {xs ys:List At}{vs:List Value},Paired yx xs vs->Paired yx ys vs->xs=ys
 |_,_,_,.nil,.nil=>rfl
 |x::xs,y::ys,_,.cons p ps,.cons q qs=>by
  rw[BJ ps qs];congr 1;cases x with
  |i a=>
   obtain⟨t,rfl⟩:=p;cases y with
   |i c=>obtain⟨t',e⟩:=q;cases e;rfl
   |s c=>obtain⟨t',e⟩:=q;cases e
  |s a=>
   obtain⟨t,rfl⟩:=p;cases y with
   |i c=>obtain⟨t',e⟩:=q;cases e
   |s c=>obtain⟨t',e⟩:=q;cases e;rfl
theorem Nr (x y:At):bG (oq x) (oq y)=true↔x=y:=by
 cases x<;>cases y<;>simp[oq]
theorem pO:∀xs ys:List At,dj (xs.map oq) (ys.map oq)=true↔xs=ys
 |[],[]=>by simp[dj]
 |[],_::_=>by simp[dj]
 |_::_,[]=>by simp[dj]
 |x::xs,y::ys=>by
  rw[uY,uY,dj,vC,Nr,pO xs ys];simp
theorem Nt (hx:gN s.heap xs x)(hy:gN s.heap ys y)(hu:A.units<cLine):SeqAt.EqAt A s x y (dj (xs.map oq) (ys.map oq)):=by
 obtain⟨a,o,its,n,rfl,ho,hc,hd,r⟩:=hx;obtain⟨b,o',gh,m,rfl,wZ,JZ,DS,r'⟩:=hy;by_cases hab:a=b
 ·subst hab;rw[ho]at wZ;cases wZ;rw[hd]at DS;cases DS;rw[BJ r r',(pO ys ys).mpr rfl];exact SeqAt.EqAt.same _
 ·have t1:s.heap.IsTuple a its:=⟨o,ho,hc,n,hd⟩;have t2:s.heap.IsTuple b gh:=⟨o',wZ,JZ,m,DS⟩;have l1:xs.length=its.size:=by rw[←vG];exact ij r
  have l2:ys.length=gh.size:=by rw[←vG];exact ij r'
  have he:∀j (h1:j<its.size) (h2:j<gh.size),SeqAt.EqAt A.in1 s its[j] gh[j] (bG ((xs.map oq).getD j .non) ((ys.map oq).getD j .non)):=λj h1 h2=>by
   have p:=eZ (.i 0) Value.none r (i:=j) (by omega);have q:=eZ (.i 0) Value.none r' (i:=j) (by omega);have e1:its.toList.getD j Value.none=its[j]:=by rw[vF,Array.getElem?_toList,Array.getElem?_eq_getElem h1];rfl
   have e2:gh.toList.getD j Value.none=gh[j]:=by rw[vF,Array.getElem?_toList,Array.getElem?_eq_getElem h2];rfl
   rw[e1]at p;rw[e2]at q;have e3:(xs.map oq).getD j .non=oq (xs.getD j (.i 0)):=by simp[vF,show j<xs.length by omega]
   have e4:(ys.map oq).getD j .non=oq (ys.getD j (.i 0)):=by simp[vF,show j<ys.length by omega]
   rw[e3,e4];exact Qw p q
  have rc:=SeqAt.RcAt.tuples t1 t2 hu he;have QR:((List.range (min its.size gh.size)).all (λj=>bG ((xs.map oq).getD j .non) ((ys.map oq).getD j .non)) && its.size == gh.size)=dj (xs.map oq) (ys.map oq):=by
   rw[←l1,←l2];by_cases hl:xs.length=ys.length
   ·rw[←hl,Nat.min_self,beq_self_eq_true,Bool.and_true];have:=jF (λj=>bG ((xs.map oq).getD j .non) ((ys.map oq).getD j .non)) (xs:=xs.map oq) (ys:=ys.map oq) (by simpa using hl) λj x y e1 e2=>wg j x y e1 e2;rwa [vI]at this
   ·rw[we (by simpa using hl),beq_eq_false_iff_ne.mpr hl,Bool.and_false]
  rw[QR]at rc;exact SeqAt.EqAt.of_refs hab rc
theorem D0 (xs:List At):bc xs xs=some false:=by
 induction xs with
 |nil=>rfl
 |cons x xs ih=>cases x<;>rw[bc,if_pos rfl,ih]
theorem FQ (hx:gN s.heap xs x)(hy:gN s.heap ys y)(h:bc (.i n::xs) (.i m::ys)=some b)(hu:A.units<cLine)(q:Q b s)(hn:yx (.i n) u)(hm:yx (.i m) v):KatLex prog w A true false Q [(u,v),(x,y)] 0 s:=by
 obtain⟨t,rfl⟩:=hn;obtain⟨t',rfl⟩:=hm;refine kat_cons (wpAny_eqBool_int ?_);rw[bc]at h;by_cases e:n=m
 ·rw[if_pos e]at h;rw[show(n == m)=true by simp[e]];refine kat_yes (kat_cons (Nt hx hy hu _ _ _ _ ?_));by_cases e2:xs=ys
  ·rw[(pO xs ys).mpr e2];rw[e2,D0]at h;cases h
   exact kat_yes (kat_nil q)
  ·rw[Bool.eq_false_iff.mpr λz=>e2 ((pO xs ys).mp z)];refine kat_no (kat_one _ _ ?_);show wpAny _ _ (richCompare .Lt x y) _ _ _;exact F9 (Q:=W.BoolBack Q) hx hy h hu (by first|exact q|exact⟨b,rfl,q⟩)
 ·rw[if_neg e]at h;cases h
  rw[show(n == m)=false by simp[e]];exact kat_no (oneLt_int q)
end
def D1 (h:Heap)(xs:List At)(v:Value):Prop:=∃n k a o its m u x,xs=.i n::k/\v=.ref a/\h.get? a=some o/\o.cls=.type "tuple"/\o.data=.seq its m/\its.toList=[u,x]/\yx (.i n) u/\gN h k x
section
variable {prog:Program}{w:World}{A:Around}{E:Value->Shared->Prop}{s:Shared}
theorem Jo (hx:D1 s.heap xs x)(hy:D1 s.heap ys y)(h:bc xs ys=some b)(hu:A.units<cLine)(q:Q b s):wpAny (model prog w) A (keyLt' (tuples' true) x y) Q E s:=by
 obtain⟨n,k,a,o,its,m,u,x',rfl,rfl,ho,_,hd,ei,an,tx⟩:=hx;obtain⟨n',k',a',o',its',m',u',y',rfl,rfl,wZ,_,DS,W6,YU,ty⟩:=hy;refine kat_lt ho hd wZ DS ?_;rw[ei,W6];have hf:decide (its.size<its'.size)=false:=by
  rw[←vG,←vG,ei,W6];rfl
 rw[hf];exact FQ tx ty h hu q an YU
theorem oP:∀ {ks:List (List At)}{vs:List Value},Paired (D1 h) ks vs->∃fs,KatTups h vs fs/\fs.length=ks.length/\∀v∈fs,∃n,yx (.i n) v
 |_,_,.nil=>⟨[],trivial,rfl,by simp⟩
 |k::ks,_,.cons x t=>by
  obtain⟨fs,h1,h2,h3⟩:=oP t;obtain⟨n,k,a,o,its,m,u,x',rfl,rfl,ho,hc,hd,ei,an,_⟩:=x;refine⟨u::fs,KatTups.cons ho hc hd (by rw[←Array.getElem?_toList,ei];rfl) h1,by simp[h2],λv hv=>?_⟩;rcases vP hv with rfl|hv
  ·exact⟨n,an⟩
  ·exact h3 v hv
theorem D2 (hp:Paired (D1 s.heap) ks vs)(hn:0<ks.length)(q:Q (tuples' true) s):wpAny (model prog w) A (keyKind' vs.toArray) Q E s:=by
 obtain⟨fs,h1,h2,h3⟩:=oP hp;refine kat_kind (T:=.type "int") h1 (by omega) (λv hv=>?_) (by decide) q;obtain⟨n,t,rfl⟩:=h3 v hv;exact .now
theorem FR (hc:eJ ks=true)(hu:A.units<cLine)(hp:Paired (D1 s.heap) ks vs):∀(i j:Nat)(C:Bool->Shared->Prop)(s1:Shared),i<ks.length->j<ks.length->s1=s->(∀s',s'=s->C (qu (HA ks) i j) s')->kas_ask prog w A (tuples' true) vs i j C s1:=by
 intro i j C s1 hi hj e hC;subst e;unfold kas_ask;have mi:ks.getD i []∈ks:=by rw[vF,vU hi];exact List.getElem_mem hi
 have mj:ks.getD j []∈ks:=by rw[vF,vU hj];exact List.getElem_mem hj
 refine Jo (eZ [] Value.none hp hi) (eZ [] Value.none hp hj) (gT hc mi mj) hu ?_;have:=hC s1 rfl;unfold qu HA at this;rw[yw (uS ⟨_,mi,rfl⟩)]at this;exact this
end
def Nu:D->Option (List At)
 |.tup [.int n,.tup es]=>(fg es).map (.i n :: ·)
 |_=>none
def jx:List D->Option (List (List At))
 |[]=>some []
 |d::ds=>(Nu d).bind λa=>(jx ds).map (a :: ·)
theorem ui:∀ {ds:List D}{ks:List (List At)},jx ds=some ks->ks.length=ds.length
 |[],_,h=>by simp only[jx]at h;cases h;rfl
 |d::ds,_,h=>by
  simp only[jx]at h;obtain⟨a,h1,h⟩:=oX h;obtain⟨r,h2,h⟩:=oY h;subst h;simp[ui h2]
theorem yC (I:Inv X af σ H s):∀ {ys:List V}{ds:List D}{ks:List (List At)}{its:List Value},bf ys its->IsL X.K H ys ds->jx ds=some ks->Paired (D1 s.heap) ks its
 |_,_,_,_,.nil,.nil,h=>by simp only[jx]at h;cases h;exact .nil
 |_,_,_,_,.cons r rr,.cons i ii,h=>by
  simp only[jx]at h;obtain⟨a,h1,h⟩:=oX h;obtain⟨t,h2,h⟩:=oY h;subst h;refine .cons ?_ (yC I rr ii h2);unfold Nu at h1;split at h1
  ·rename_i n es;obtain⟨k,Of,rfl⟩:=oY h1;cases i with
   |tup hq hl=>
    cases r
    obtain⟨its',r',⟨o,ho,hc,m,hd⟩,_⟩:=I.tuple hq;cases hl with
    |cons i1 hl=>
     cases hl with
     |cons i2 hl=>
      cases hl
      cases r' with
      |cons r1 r'=>
       cases r' with
       |cons r2 r'=>
        cases r'
        cases i1
        have hk:dU [D.tup es]=some [k]:=by show(fg es).bind _=_;rw[Of];rfl
        have ht:=pK I (.cons r2 .nil) (.cons i2 .nil) hk;cases ht with
        |cons ht _=>exact⟨n,k,_,o,_,m,_,_,rfl,rfl,ho,hc,hd,rfl,r1,ht⟩
  ·cases h1
theorem Jp (hu:A.units<cLine):KK X A jx λ_=>true:=⟨ui,λI _ _ _ _ r i e _ hc=>have hp:=yC I r i e;⟨λhn _ _ q=>D2 hp hn q,FR hc hu hp⟩⟩
theorem FU (hu:X.A.units+40<cLine):KK X X.A.in1.in1 jx λ_=>true:=Jp (show X.A.units+1+1<cLine by omega)
@[simp] abbrev AE:FE->(Env->D->Option D)->FE:=wD jx λ_=>true
end DL
namespace DL
open PySem PySem.Spec PyProof.Rows L2
def Qx:Nat->(List Value->Prop)->Prop
 |0,P=>P []
 |n+1,P=>∀a,Qx n λl=>P (a::l)
theorem Nv:∀n P,Qx n P->∀us:List Value,us.length=n->P us
 |0,_,h,[],_=>h
 |n+1,_,h,a::us,e=>Nv n _ (h a) us (Nat.succ.inj e)
section
variable {P:Program}{w:World}{K:PySem.W.Frag}{mg:Str->Option Value}{base:Heap}
def KC (K:PySem.W.Frag)(mg:Str->Option Value)(x:Str)(c:D):Prop:=∃u v,mg x=some u/\aY v u/\∀B,Is K B v c
def KD (w:World)(K:PySem.W.Frag)(mg:Str->Option Value)(x:Str)(c:List (Str×D)):Prop:=∃d,mg x=some (.ref d)/\tM K w.params d c
theorem kc_of {x:Str}{c:D}{h:Heap}(X:K.In h)(G:h.Ns mainGlobals mg)(k:∃u v,nsIn K mainGlobals x=some (some u)/\aY v u/\∀B,Is K B v c):KC K mg x c:=let ⟨u,v,e,r⟩:=k;⟨u,v,mg_of X G e,r⟩
theorem kd_of {x:Str}{c:List (Str×D)}{h:Heap}(X:K.In h)(G:h.Ns mainGlobals mg)(k:∃d,nsIn K mainGlobals x=some (some (.ref d))/\tM K w.params d c):KD w K mg x c:=let ⟨d,e,r⟩:=k;⟨d,mg_of X G e,r⟩
theorem dn.fqL {x:Str}{st:Stmt}{k:Nat}{F':List D->Option (D×Bool)}(F:dn K x st)(B:∃h,K.In h/\h.Ns mainGlobals mg)(g:FS)(N:List Str)(n:Nat)
  (hb:∀ {f:Addr}{eO:Value}{A:Around}{outer:List PySem.Env}{s:Shared}{H:Hp}{E:XK},N.Nodup->eU k (A.deeper (envOfC x (aV st) s.heap.objs.size f eO))->(A.deeper (envOfC x (aV st) s.heap.objs.size f eO)).units+40<cLine->(∀c P,PySem.W.tabIn K x=some (c,P)->eO=.ref c)->xi (p6 zH P w K mg base N x (aV st) f eO A outer s H E).nox (cN st) g)
  (S:FnScope N (N.take n) (aV st):=by refine⟨rfl,rfl,rfl,?_,rfl,?_,?_⟩<;>decide +kernel)
  (Kl:∀(kV doc pm:Value)(an:Option Addr)(eO ct:Value)(us:List Value),us.length=(N.take n).length->bindArgs (fnOf x x (gk st) (cN st) (aV st) .none kV doc pm an eO ct) ⟨us,[]⟩=pure ((N.take n).zip us):=by
   exact λ_ _ _ _ _ _=>Nv _ _ (by(repeat intro);rfl))
  (e:aN g (N.take n).length (N.length - (N.take n).length)=F':=by rfl):
  Fn P w K mg base (k+1) x F':=let ⟨_,X,G⟩:=B;e ▸ F.fnL X G S Kl λ_ _ _ _ _ _ _ hc hr=>hb S.nd hr (Df hr) hc
theorem dn.fq {x:Str}{st:Stmt}{k:Nat}{F':List D->Option (D×Bool)}(F:dn K x st)(B:∃h,K.In h/\h.Ns mainGlobals mg)(g:FS)(N:List Str)(n:Nat)
  (hb:∀ {f:Addr}{eO:Value}{A:Around}{outer:List PySem.Env}{s:Shared}{H:Hp}{E:XK},N.Nodup->eU k (A.deeper (envOfC x (aV st) s.heap.objs.size f eO))->(A.deeper (envOfC x (aV st) s.heap.objs.size f eO)).units+40<cLine->xi (p6 zH P w K mg base N x (aV st) f eO A outer s H E).nox (cN st) g)
  (S:FnScope N (N.take n) (aV st):=by refine⟨rfl,rfl,rfl,?_,rfl,?_,?_⟩<;>decide +kernel)
  (Kl:∀(kV doc pm:Value)(an:Option Addr)(eO ct:Value)(us:List Value),us.length=(N.take n).length->bindArgs (fnOf x x (gk st) (cN st) (aV st) .none kV doc pm an eO ct) ⟨us,[]⟩=pure ((N.take n).zip us):=by
   exact λ_ _ _ _ _ _=>Nv _ _ (by(repeat intro);rfl))
  (e:aN g (N.take n).length (N.length - (N.take n).length)=F':=by rfl):
  Fn P w K mg base (k+1) x F':=F.fqL B g N n (λn r u _=>hb n r u) S Kl e
end
section
variable {X:Cx}{x:Str}{pos:Pos}
theorem Eh (i:Nat)(hN:X.N.Nodup)(hi:X.N[i]? = some x:=by rfl)(hx:Ht X.env.scope x:=by first|exact Or.inl rfl|exact Or.inr rfl)(hf:X.fn x=true∨X.env.scope.names.lookup x=some .local:=by first|exact .inl rfl|exact .inr rfl):PG X (.Name x pos) (jT i):=Bb hN hi hx hf
theorem O7 {fp}(i:Nat)(hN:N'.Nodup:=by decide +kernel)(hi:(fE X N' scope cl C s H fp).N[i]? = some x:=by rfl)(hx:Ht (fE X N' scope cl C s H fp).env.scope x:=by exact Or.inl rfl)(hf:(fE X N' scope cl C s H fp).fn x=true∨(fE X N' scope cl C s H fp).env.scope.names.lookup x=some .local:=by first|exact .inl rfl|exact .inr rfl):PG (fE X N' scope cl C s H fp) (.Name x pos) (jT i):=Bb hN hi hx hf
theorem io (N':List Str)(hi:JI X tg df fi)(hc:∀ {C s H fp},JC (fE X N' scope (dR scope.names X.env.cells []) C s H fp) xc fc)(he:∀ {C s H fp},JE (fE X N' scope (dR scope.names X.env.cells []) C s H fp) z9 fe)
  (Kj:MA X.K nT sv g:=by first|exact xH (by decide)|exact Lh (by decide)) (hg:∀ {C s H fp},PG (fE X N' scope (dR scope.names X.env.cells []) C s H fp) tg g:=by intros;first|exact O7 0|exact zO rfl (jn (O7 0) (jn (O7 1) vh)))
  (cp:nN X N' scope (dR scope.names X.env.cells []) nT cap:=by repeat first|exact .nil rfl|refine Vx rfl rfl ?_)
  (S:CompSc X scope (dR scope.names X.env.cells []):=by exact Qv) (lI:X.calm=true:=by rfl)
  (hs:∀x,foldedSetIterable df X.env x=pure x:=by intro _;rfl):
  JE X (.ListComp z9 [⟨tg,df,xc,0⟩] scope pos) (cf fi nT cap sv fc fe):=IA lI S cp hi (λ_ _ _ _=>hg) Kj (λ_ _ _ _=>hc) (λ_ _ _ _=>he) hs
theorem oQ (N':List Str)(hN:X.N.Nodup)(hi:JI X tg df fi)(hc:∀ {C s H fp},JC (fE X N' scope (dR scope.names X.env.cells []) C s H fp) xc fc)(he:∀ {C s H fp},JE (fE X N' scope (dR scope.names X.env.cells []) C s H fp) z9 fe)
  (Kj:MA X.K nT sv g:=by first|exact xH (by decide)|exact Lh (by decide)) (hg:∀ {C s H fp},PG (fE X N' scope (dR scope.names X.env.cells []) C s H fp) tg g:=by intros;first|exact O7 0|exact zO rfl (jn (O7 0) (jn (O7 1) vh)))
  (cp:nN X N' scope (dR scope.names X.env.cells []) nT cap:=by repeat first|exact .nil rfl|refine Vx rfl rfl ?_)
  (L9:X.N[i]? = some y:=by rfl) (hy:X.env.kindOf y=some .local:=by rfl)
  (QQ:swapsWith (.ListComp z9 [⟨tg,df,xc,0⟩] scope pos) (some (.Name y py)) spos.line X.env=pure true:=by rfl)
  (S:CompSc X scope (dR scope.names X.env.cells []):=by exact Qv) (lI:X.calm=true:=by rfl)
  (hs:∀x,foldedSetIterable df X.env x=pure x:=by intro _;rfl):
  JS X (.Assign [.Name y py] (.ListComp z9 [⟨tg,df,xc,0⟩] scope pos) spos) (aS i (cf fi nT cap sv fc fe)):=IB lI hN L9 hy QQ S cp hi (λ_ _ _ _=>hg) Kj (λ_ _ _ _=>hc) (λ_ _ _ _=>he) hs
theorem uj (hi:JI X tg df fi)(hg:PG X tg t)(ht:Ix X.K sv t)(hb:xi X body g)(hp:PassesOwn (model X.prog X.w) X.A X.env X.xe:=by exact PassesOwn.never)(hc:X.calm=true:=by rfl)
  (hs:∀x,foldedSetIterable df X.env x=pure x:=by intro _;rfl):JS X (.For tg df body [] pos) (qe fi sv g):=MG hp hc hi hg ht hb hs
theorem yD (hi:PI X tg df (RJ X.K fi))(hg:PG X tg t)(ht:Ix X.K sv t)(hb:xi X body g)(hp:PassesOwn (model X.prog X.w) X.A X.env X.xe:=by exact PassesOwn.never)(hc:X.calm=true:=by rfl)
  (hs:∀x,foldedSetIterable df X.env x=pure x:=by intro _;rfl):JS X (.For tg df body [] pos) (lz fi sv g):=IG hp hc hi hg ht hb hs
end
end DL
namespace DL
open PySem PySem.Spec PySem.W PyProof.Rows L2
section
variable {X:Cx}
@[simp] def ZE:D->D->Option (D×Bool)
 |.tup [.int n,.tup xs],.tup [.int m,.tup ys]=>(fg xs).bind λas=>(fg ys).bind λbs=>(bc (.i n::as) (.i m::bs)).map λr=>(.bl (!r),false)
 |_,_=>none
end
theorem qM:entryFor table "dict_itemiterator.__iter__" = some Builtin.«dict_keyiterator.__iter__»:=entryFor_alias (id':="dict_keyiterator.__iter__") (by kernel_rfl) rfl (by decide +kernel) (by kernel_rfl)
theorem wG (he:IsItemIter s.heap it d i n ep ok ov)(h:Q (.ref it) s):wpAny (model prog w) A (pyIter (.ref it)) Q E s:=by
 have hT:s.TypeIs (.ref it) "dict_itemiterator":=⟨_,he,rfl⟩;refine wpAny_pyIter_slot hT PySem.F.slot_dict_itemiterator_iter (wpAny_call_entry PySem.F.slot_dict_itemiterator_iter hT qM ?_ (PySem.F.args_dict_itemiterator_iter_1 _));show wpAny _ _ (ret (.ref it)) _ _ s;exact wY ⟨_,rfl,"dict_itemiterator",_,hT,PySem.F.slot_dict_itemiterator_next.lookup,h⟩
noncomputable def Tt (a:Addr)(aM:List (cD×V))(ob:Obj):It:=⟨λi H=>H a=some (.dK aM ob)/\i<aM.length,λi H y H'=>∃T k v,y=.ref T/\H T=none/\H'=upd H T (.tup [kV k,v])/\aM[i]? = some (k,v),λi H=>H a=some (.dK aM ob)/\aM.length<=i⟩
theorem AF {P:Program}{w:World}{K:PySem.W.Frag}{es:List Expr}{kt:Nat}{pt:Pos}(a it:Addr)(aM:List (cD×V))(ob:Obj){ds:Array DictEntry}{ep:Nat}(hd:ob.data=.dict ds ep):Turn P w K (.Tuple es kt pt) (Tt a aM ob) [it] it (λi h=>∃ok ov,IsItemIter h it a i aM.length ep ok ov) where
 mem:=by simp
 obj:=λi h st b hb=>by
  have e:b=it:=by simpa using hb
  subst e;obtain⟨ok,ov,e⟩:=st;exact⟨_,e,λv z=>by cases z⟩
 keep:=λi h h' st k=>let ⟨ok,ov,e⟩:=st;⟨ok,ov,k it (by simp) _ e⟩
 item:=by
  intro X hP hw hK hc i af s σ H E I hf st hg;subst hP hw hK;obtain⟨ok,ov,he⟩:=st;obtain⟨hH,fT⟩:=hg;obtain⟨vs,r,m⟩:=qK I.hok hH hd;have hl:vs.length=aM.length:=(Paired.length r).symm;obtain⟨u,hu,ru⟩:=r.get (k:=aM[i].1) (x:=aM[i].2) (vU fT);have fresh:H s.heap.objs.size=none:=I.hok.fresh (vT _);have Sk:it≠s.heap.objs.size:=vS (vX he);refine wpAny_pyNext_items_item (by rw[hl];exact he) m hu λkey h' DU ho hT hsz hk=>?_;rw[hl]at ho;refine⟨_,rfl,wpAny_letOwnedTupleGo_items (s:={ s with heap:=h' }) ho λh2 OI s2=>?_⟩;have OJ:Heap.SameBut it h' h2:=s2;have kk:∀b o,b∉[it]->s.heap.get? b=some o->h2.get? b=some o:=λb o hb q=>OJ.extBut _ _ (λz=>hb (by simp[z])) (hk b o (λz=>hb (by simp[z])) q);have new:bU X.prog X.w (upd H s.heap.objs.size (.tup [kV aM[i].1,aM[i].2])) h2 s.heap.objs.size (.tup [kV aM[i].1,aM[i].2]):=⟨by show 2<=sizeLine;decide,[key,u],.cons (Qs DU) (.cons ru .nil),⟨_,OJ.extBut _ _ Sk.symm hT,rfl,_,rfl⟩⟩;refine⟨.ref s.heap.objs.size,upd H s.heap.objs.size (.tup [kV aM[i].1,aM[i].2]),Li (s:=s) (t':=s.toks) I hf kk (vT _) new,rfl,⟨_,aM[i].1,aM[i].2,rfl,fresh,rfl,vU fT⟩,⟨_,_,OI⟩,λb hb=>?_⟩;have lJ:b≠s.heap.objs.size:=by
   have e:b=it:=by simpa using hb
   rw[e];exact Sk
  rw[aL lJ];exact(hf b hb).1
 done:=by
  intro X hP hw hK hc i af s σ H E I hf st hg;subst hP hw hK;obtain⟨ok,ov,he⟩:=st;obtain⟨hH,Kn⟩:=hg;obtain⟨vs,r,m⟩:=qK I.hok hH hd;have hl:vs.length=aM.length:=(Paired.length r).symm;exact wpAny_pyNext_items_end (I.ok.hd hc) (by rw[hl];exact he) m (List.getElem?_eq_none (by omega)) λh' hk=>⟨rfl,pJ (t':=s.toks) I hf λb o hb q=>hk b o (λz=>hb (by simp[z])) q⟩
 self:=λ_ _ _ _ _ st h=>let ⟨_,_,he⟩:=st;wG he h
section
variable {X:Cx}{es:List Expr}{kt:Nat}{pt:Pos}{e:Expr}
def Tu (td:TE):TI:=λσ H R=>td σ H λx H1=>∃a aM ob,x=.ref a/\H1 a=some (.dK aM ob)/\R (Tt a aM ob) H1
theorem FV {o:Expr}{td:TE}{dI cJ:Pos}(ho:PE X o td)(iI:attributeBase o "items" X.env (eval o X.env)=eval o X.env:=by rfl)(iJ:(dI.endLine == cJ.line)=true:=by rfl):PI X (.Tuple es kt pt) (.Call (.Attribute o "items" dI) [] [] cJ) (Tu td):=by
 intro af s σ H R I h;refine wpAny_Call_method0_late iI iJ (cR (ho af s σ H _ I h) λv s1 ⟨x,H1,I1,r1,a,aM,ob,ex,hH,q⟩=>?_);subst ex;obtain⟨h1,h2⟩:=Ac I1 r1 (T:="dict") (.inr (.inr (.inl ⟨rfl,.inl ⟨aM,ob,hH⟩⟩)));cases r1
 obtain⟨es,ep,hd⟩:=wF I1.hok hH;obtain⟨vs,r,m⟩:=qK I1.hok hH hd;have hl:vs.length=aM.length:=(Paired.length r).symm;refine⟨"dict","dict.items",PySem.F.plainAttrs_dict,PySem.F.slot_dict_items,PySem.F.type_dict_items,h1,h2,Calls.callWith_builtin rfl (PySem.evalArgs_none ?_)⟩;refine call_meetsIn PySem.F.slot_dict_items h1 PySem.F.entry_dict_items (PySem.F.args_dict_items_1 _) (meets_dict_items (cz X.prog X.w) a (pX I1.hok hH).2.1) ⟨⟨vs,m.dictOf⟩,?_⟩;have I2:Inv X af σ H1 { s1 with heap:=s1.heap.push { cls:=.type "dict_items",data:=.fields #[.ref a] } }:=I1.kept (t':=s1.toks) λb o e=>vZ _ e;refine wpAny_pyIter_items (v:=s1.heap.objs.size) ⟨_,vY _ rfl,rfl,rfl⟩ (m.keep λb o e=>vZ _ e) ?_;rw[hl];refine⟨(s1.heap.push { cls:=.type "dict_items",data:=.fields #[.ref a] }).objs.size,[(s1.heap.push { cls:=.type "dict_items",data:=.fields #[.ref a] }).objs.size],_,_,H1,rfl,I2.kept (t':=s1.toks) λb o e=>vZ _ e,AF a _ aM ob hd,⟨_,_,vY _ rfl⟩,λb hb=>?_,q⟩;have e:b=(s1.heap.push { cls:=.type "dict_items",data:=.fields #[.ref a] }).objs.size:=by simpa using hb
 subst e;exact I2.fpOk (vT _) (I2.hok.fresh (vT _))
noncomputable def lS (ks:List cD)(ds:List D):List D:=(ks.zip ds).map λx=>.tup [kD x.1,x.2]
theorem FW {K:PySem.W.Frag}{B:Hp}{a:Addr}{ks:List cD}{vs:List V}{ds:List D}{ob:Obj}(h:B a=some (.dK (ks.zip vs) ob))(hl:ks.length=vs.length)(hs:IsL K B vs ds):qd K (Tt a (ks.zip vs) ob) B (lS ks ds):=by
 intro i H s;have hz:(ks.zip vs).length=vs.length:=by rw[List.length_zip];omega
 have hn:=hs.length;refine⟨λd ed=>?_,λbR=>⟨s _ _ h,by unfold lS at bR;rw[vI,List.length_zip]at bR;omega⟩⟩;unfold lS at ed;rw[vA]at ed;obtain⟨⟨k0,d0⟩,ek,rfl⟩:=oY ed;obtain⟨e1,e2⟩:=List.getElem?_zip_eq_some.mp ek;obtain⟨v,ev,iv⟩:=hs.get e2;have fT:i<vs.length:=(vV ev).1;refine⟨⟨s _ _ h,by rw[hz];exact fT⟩,λy H3 hy=>?_⟩;obtain⟨T,k,v',rfl,hT,rfl,e⟩:=hy;obtain⟨g1,g2⟩:=List.getElem?_zip_eq_some.mp e;rw[e1]at g1;cases g1;rw[ev]at g2;cases g2;have xt:=Ext.laid (o:=.tup [kV k0,v']) s hT;exact⟨_,xt,.tup (jm.of aH) (.cons (Qu _) (.cons (iv.mono xt.bn) .nil))⟩
@[simp] def BK (f:FE):FA:=λρ=>(f ρ).bind λx=>match x.1 with|.dk ks ds=>some (lS ks ds)|_=>none
theorem FX (h:JE X e f)(iI:attributeBase e "items" X.env (eval e X.env)=eval e X.env:=by rfl)(iJ:(dI.endLine == cJ.line)=true:=by rfl):JI X (.Tuple es kt pt) (.Call (.Attribute e "items" dI) [] [] cJ) (BK f):=by
 intro af s σ H R I q;obtain⟨B,ρ,ds,sB,r,e',q⟩:=q;obtain⟨⟨xd,xb⟩,ex,es⟩:=oX e';cases xd<;>try (cases es;done)
 cases es
 refine FV h iI iJ af s σ H R I ⟨B,ρ,_,_,sB,r,ex,λv H1 N1 x1 i1 _=>?_⟩;cases i1 with
 |@dk a ks vs ds ob hd hl hs=>exact⟨a,_,ob,rfl,x1.nh _ _ hd,q _ H1 N1 x1 (FW hd hl hs)⟩
end
section
variable {K:PySem.W.Frag}{E:Ends}{σ:St}{H:Hp}
def qN (i:Nat)(fk fv:FE):FS:=λρ=>match ρ[i]? with
 |some (some (.dk ks vs,true))=>(fv (m4 ρ)).bind λv=>(fk ρ).bind λk=>(k9 k.1).bind λkk=>if ks.length<sizeLine then some (.nx (ρ.set i (some (.dk (dJ ks kk) (dL ks vs kk v.1),true))))else none
 |_=>none
theorem D3 (q:oF K (qN i fk fv) E σ H):Bg (Ep i) (tD K fk) (tD K fv) E σ H:=by
 obtain⟨B0,H0,ρ,r,⟨N,s⟩,e,p⟩:=q;unfold qN at e;split at e
 ·rename_i ks ds ei;obtain⟨v,ev,e⟩:=oX e;obtain⟨k,ek,e⟩:=oX e;obtain⟨kk,hk,e⟩:=oX e;split at e
  ·rename_i hx;cases e
   refine⟨eD N (own σ ρ),m4 ρ,v.1,v.2,bV.trans s.ext.nh,s.repH,ev,λv1 H1 N1 x1 i1 _=>?_⟩;obtain⟨s1,c⟩:=s.growH x1;obtain⟨a,o,h1,h2,h3,h4⟩:=s1.ow i _ ei;refine⟨.ref a,h1,_,ρ,k.1,k.2,s1.ext.nh,s1.rep,ek,λv2 H2 N2 x2 i2 _=>?_⟩;have s2:=s1.grow x2;have hv:=oN i2 hk;subst hv;obtain⟨a',o',k1,k2,k3,k4⟩:=s2.ow i _ ei;rw[h1]at k1;cases k1
   cases k4 with
   |@dk ks vs ds hl h5 ob=>
    refine⟨a,rfl,.inl ⟨_,kk,_,s2.ext.nh _ _ k2,rfl,?_,λTX=>?_⟩⟩
    ·rw[List.length_zip];omega
    ·rw[pN hl];exact p σ _ ⟨_,s2.writeB ei h1 (.dk (mI hl _ _) (h5.put ((i1.mono c).mono (eP λa o e q=>⟨x2.bn a o e,q⟩))))⟩
  ·cases e
 ·cases e
end
section
variable {X:Cx}{pos:Pos}{e k:Expr}
theorem FY (hu:X.A.units+1<cLine)(hv:JE X e fv)(hk:JE X k fk)(hN:X.N[i]? = some y:=by rfl)(AZ:Eo X.env.scope y:=by first|exact Or.inl rfl|exact Or.inr (Or.inl rfl)|exact Or.inr (Or.inr rfl))(hd:(y == ("__debug__" : Str))=false:=by decide)
  (jA:(y == ("__classdict__" : Str))=false:=by decide) (hs:swapsWith e (some (.Subscript (.Name y py) k pt)) pos.line X.env=pure false:=by rfl):JS X (.Assign [.Subscript (.Name y py) k pt] e pos) (qN i fk fv) :=
 PS.to (vy hu (lL hN AZ hd jA) hk hv hs) λ_ _ _ q=>D3 q
end
section
variable {prog:Program}{w:World}{A:Around}{E:Value->Shared->Prop}{s:Shared}
theorem BL:∀(vs:List Value)(ns:List Int),vs.length=ns.length->(∀(i:Nat)(v:Value),vs[i]? = some v->∃(m:Int)(t:Tok),ns[i]? = some m/\v=Value.int m t)->IntsAre vs ns
 |[],[],_,_=>.nil
 |v::vs,n::ns,h,k=>by
  obtain⟨m,t,e,rfl⟩:=k 0 v rfl;cases (show some n=some m from e)
  exact .cons n t (BL vs ns (by simpa using h) λi v hv=>k (i+1) v hv)
theorem yE (hh:A.handled=none)(lo:(a == sysModules)=false)(hm:s.heap.DictAt (cz prog w) a aM ep)(hk:aM.map (·.1)=ns.map .inl)(Eb:ns.length<64)
  (hQ:∀(h1 h':Heap)(tk:Nat)(b:Addr)(out:Array Value)(n:Nat)(OU:List Int),(∀c u,s.heap.get? c=some u->h1.get? c=some u)->(∀c u,h1.get? c=some u->h'.get? c=some u)->h1.objs.size<=b->h'.get? b=some (seqObj "list" out n) ->
   IntsAre out.toList OU->OU.Perm ns->OU.Pairwise (·<=·)->Q (.ref b) { s with heap:=h',toks:=tk }):
  wpAny (model prog w) A (call (.builtin "sorted") [.ref a]) Q E s:=by
 refine Calls.call_function_entry kind_sorted plain_sorted entry_sorted (args_sorted1 _) ?_;unfold Builtin.«sorted»;refine wX (m:=checkCount "sorted" 1 1 _) (wY ?_);have UC:aM.length=ns.length:=by have:=congrArg List.length hk;simpa using this
 refine wX (kdu_collect (A:=A.in1) (kdl_dict lo) (by exact hh) hm (by rw[sizeLine_eq];omega) λh1 tk mm hkeep Hk=>?_);have zN:mm.toList.length=ns.length:=by rw[vG,Hk.1,UC]
 have nO:IntsAre mm.toList ns:=BL mm.toList ns zN λi v hv=>by
  obtain⟨k,x,e1,e2⟩:=Hk.2 i v (by simpa using hv);have e3:(aM.map (·.1))[i]? = some k:=by rw[vA,e1];rfl
  rw[hk,vA]at e3;obtain⟨m,e4,rfl⟩:=oY e3;obtain⟨t,rfl⟩:=Value.isInt_shape (k:=m) (v:=v) e2;exact⟨m,t,e4,rfl⟩
 refine wX (wpAny_newList ?_ (by rw[zN,sizeLine_eq];omega));have JY:(h1.push (seqObj "list" mm.toList.toArray 0)).get? h1.objs.size=some (seqObj "list" mm.toList.toArray 0):=vY _ rfl;show wpAny _ _ _ _ _ { s with heap:=h1.push (seqObj "list" mm.toList.toArray 0),toks:=tk };refine wX (wpAny_holding (wpAny_call_entry slot_list_sort ⟨_,JY,rfl⟩ entry_list_sort (list_sort_tree JY nO (by rw[zN];exact Eb) λout OU a1 a2 a3=>⟨_,rfl,?_⟩) (args_list_sort _)));obtain⟨n,he⟩:=sortedHeap_at (out:=out) JY;refine wY ⟨_,rfl,hQ h1 _ _ _ out n OU hkeep (λb u q=>?_) (vT _) he a1 a2 a3⟩;have hl:=vX q;rw[sortedHeap_old (vS hl) (by rw[size_push'];exact Nat.lt_succ_of_lt hl)];exact vZ _ q
end
noncomputable def ul:List cD->Option (List Int)
 |[]=>some []
 |.inl n::ks=>(ul ks).map (n :: ·)
 |.inr _::_=>none
theorem yF:∀ {ks:List cD}{ns:List Int},ul ks=some ns->ks=ns.map .inl
 |[],_,h=>by cases h;rfl
 |.inl n::ks,_,h=>by
  obtain⟨r,h1,rfl⟩:=oY h;rw[yF h1];rfl
 |.inr _::_,_,h=>by cases h
theorem Jq {aM:List (cD×V)}{vs:List (cD×Value)}(r:KV aM vs):vs.map (·.1)=aM.map (·.1):=by
 unfold KV at r;induction r with
 |nil=>rfl
 |cons h t ih=>rw[uY,uY,ih,h.1]
@[simp] def jy:List D->Option (D×Bool)
 |[.dk ks _]=>(ul ks).bind λns=>if ns.length<64 then some (.lst ((qy ns).map .int),true)else none
 |_=>none
section
variable {X:Cx}
theorem D4 (hc:X.calm=true):ce X (.builtin "sorted") (Bh X.K jy):=by
 intro af s σ H xs us Q I r h;obtain⟨B,dl,d,bb,sB,i,ee,q⟩:=h;cases i with
 |nil=>simp[jy]at ee
 |cons i1 i2=>
  cases i2 with
  |cons _ _=>cases i1<;>simp[jy]at ee
  |nil=>
   cases i1 with
   |@dk a ks vs ds ob hd hl hs=>
    obtain⟨u,rfl,rx⟩:=gY r;cases rx
    simp only[jy]at ee;obtain⟨ns,en,ee⟩:=oX ee;split at ee
    ·rename_i Eb;cases ee
     have hH:=sB _ _ hd;obtain⟨es,ep,YV⟩:=wF I.hok hH;obtain⟨Sf,r',m⟩:=qK I.hok hH YV;have YW:Sf.map (·.1)=ns.map .inl:=by rw[Jq r',List.map_fst_zip (by omega),yF en]
     refine yE (I.ok.hd hc) (pX I.hok hH).2.1 m YW Eb λh1 h' tk b out n OU k1 k2 hb he nO gG sw=>?_;have e:=Fx gG sw;subst e;have I1:Inv X af σ H { s with heap:=h1,toks:=tk }:=tW I k1 rfl rfl;have hf:H b=none:=I1.hok.fresh hb;have xt:=Ext.laid (o:=.lst ((qy ns).map V.int)) sB hf;exact⟨.ref b,_,I1.laid (t':=tk) k2 hb (show bU X.prog X.w _ h' _ (.lst ((qy ns).map V.int))from ⟨by rw[vI];unfold qy;rw[(bN _ ns).length_eq,sizeLine_eq];omega,out.toList,n,jp nO,he⟩),rfl,q _ _ _ xt (.lst (iM.of aH) (qz _)) λ_=>⟨_,_,_,rfl,rfl,hf,aH,qz _⟩⟩
    ·cases ee
   |_=>simp[jy]at ee
theorem Nw (hu:X.A.units+1<cLine)(hi:JE X i fi)(ho:JE X o fo)(hm:behindInMarks .In o=false:=by first|exact jl _ (by decide) (by decide)|rfl):JE X (.Compare i [.In] [o] pos) (f2 Ji fi fo):=by
 refine PE.to (LV (E8 hu hi ho) hm) λσ H Q q=>?_;obtain⟨B,ρ,d,bb,sB,r,ee,q⟩:=q;obtain⟨y,ey,ee⟩:=oX ee;obtain⟨x,ex,ee⟩:=oX ee;refine⟨B,ρ,y.1,y.2,sB,r,ey,λv2 H1 N1 x1 i2 _=>⟨N1,ρ,x.1,x.2,x1.nh,r.mono x1.bn,ex,λv H2 N2 x2 i1 ff=>?_⟩⟩;obtain⟨xd,xb⟩:=x;cases i1 with
 |@dk a ks vs ds ob h hl hs=>
  simp only[Ji]at ee;obtain⟨k,hk,ee⟩:=oY ee;cases ee
  have hv:=oN i2 hk;subst hv;refine⟨a,kg (ks.zip vs) k,rfl,.inl ⟨_,k,_,.inl (x2.nh _ _ h),rfl,rfl⟩,?_⟩;rw[ue hl hs];exact(q.into (x1.trans x2)).one x2.nh (.bl _)
 |_=>simp[Ji]at ee
end
end DL
namespace DL
open PySem PySem.Spec PyProof.Rows L2
@[simp] abbrev fV (i:Nat)(g:FA):FA:=ae (aj i) g
@[simp] abbrev fI (n:Int):FE:=fC (.int n)
@[simp] abbrev fS (s:PySem.Str):FE:=fC (.str s)
section
variable {X:Cx}{es:List Expr}{g:FA}{pos:Pos}
theorem aE {x:Str}{p:Pos}(i:Nat)(hr:JA X es g)(hN:X.N[i]? = some x:=by rfl)(hv:Eo X.env.scope x:=by first|exact Or.inl rfl|exact Or.inr (Or.inl rfl)|exact Or.inr (Or.inr rfl))(hd:(x == ("__debug__" : Str))=false:=by decide)(jA:(x == ("__classdict__" : Str))=false:=by decide)
  (hs:starEach (.Name x p::es) X.env=(false,eval (.Name x p) X.env)::starEach es X.env:=by rfl):JA X (.Name x p::es) (fV i g):=ag (ah i hN hv hd jA) hr hs
theorem cq {i:Int}{j:Nat}(hr:JA X es g):JA X (.Constant (.int i) j pos::es) (ae (fC (.int i)) g):=ag aw hr
theorem a8 (F:Fn X.prog X.w X.K X.mg X.base k x f)(hr:eU j X.A)(ha:JA X (e::es) g:=by repeat first|exact ak|refine aE _ ?_|refine ag a7 ?_)(hj:k<=j:=by decide)(hg:Gl X x:=by rfl)(sk:(x == ("__debug__" : Str))=false:=by decide)(he:starEach (e::es) X.env=(false,eval e X.env)::starEach es X.env:=by rfl)(lx:(backTo pos (starEach es X.env)).any (·.1)=false:=by rfl):JE X (.Call (.Name x p) (e::es) [] pos) (fA f g):=Bj F (hr.mono hj) ha hg sk he lx
theorem bd (he:JE X e f):xi X [.Return (some e) pos] (aR f):=bA (ES he)
theorem bJ {c:Expr}{fc:FT}(hc:JT X c fc)(he:JE X e f):JS X (.If c [.Return (some e) p] [] pos) (dC fc (aR f) aX):=fG hc (bA (ES he)) eY
theorem bL (i:Nat)(hN:X.N[i]? = some x:=by rfl)(hv:Eo X.env.scope x:=by first|exact Or.inl rfl|exact Or.inr (Or.inl rfl)|exact Or.inr (Or.inr rfl))(hd:(x == ("__debug__" : Str))=false:=by decide)(jA:(x == ("__classdict__" : Str))=false:=by decide):JE X (.Subscript (.Name x p) (.Constant (.int n) j q) pos) (dO i n):=aQ (ah i hN hv hd jA) aw
end
noncomputable def sM (n:Int)(r:List Int):Int:=r.foldl (λb x=>if x<b then x else b) n
theorem ot:∀(r:List Int)(n:Int),sM n r∈n::r/\∀a∈n::r,sM n r<=a
 |[],n=>⟨mX,λa h=>by rw[uT h];exact Int.le_refl _⟩
 |x::r,n=>by
  obtain⟨h1,h2⟩:=ot r (if x<n then x else n);have e:sM n (x::r)=sM (if x<n then x else n) r:=rfl;rw[e];generalize hm:(if x<n then x else n)=m at h1 h2;refine⟨?_,λa ha=>?_⟩
  ·rcases vP h1 with h|h
   ·rw[h,←hm];split<;>simp
   ·exact mZ _ (mZ _ h)
  ·have h0:=h2 _ mX;rcases vP ha with rfl|ha
   ·split at hm<;>omega
   ·rcases vP ha with rfl|ha
    ·split at hm<;>omega
    ·exact h2 a (mZ _ ha)
@[simp] def FZ:List D->Option (D×Bool)
 |[.lst ds]=>match mF ds with
  |some (n::r)=>some (.int (sM n r),false)
  |_=>none
 |_=>none
theorem Nx {X:Cx}(hc:X.calm=true:=by rfl):ce X (.builtin "min") (Bh X.K FZ):=by
 intro af s σ H xs us Q I rs q;obtain⟨B,ds,d,bb,sB,i,ee,q⟩:=q;match ds,i,ee with
 |[.lst es],.cons i1 .nil,ee=>
  simp only[FZ]at ee;split at ee
  ·rename_i n r en;cases ee
   obtain⟨u1,rfl,r1⟩:=gY rs;cases i1 with
   |@lst l vs _ h hl=>
    cases r1
    obtain⟨its,rv,p1,z1⟩:=I.list (sB.seq h);have ei:=B9 rv hl en;obtain⟨ys,ey⟩:=(ei.allInts).items;have hsz:ys.size=(n::r).length:=by rw[←ei.length,←vH,ey];simp[intItems]
    have Km:ys.toList.map (·.1)=n::r:=by rw[←nums_intItems,←ey];exact ei.numsOf
    have HC:s.heap.IsList l (intItems ys):=ey ▸ p1.isList;refine min_intList (I.ok.hd hc) HC (by rw[hsz];simp) λv h' tk hv hk=>?_;obtain⟨t,rfl⟩:=intItems_at hv;obtain⟨h1,h2⟩:=argBest_lt (numAt ys) (ys.size - 1);have hm:numAt ys (argBest (λi j=>decide (numAt ys i<numAt ys j)) (ys.size - 1))=sM n r:=by
     obtain⟨m1,m2⟩:=ot r n;have g1:numAt ys (argBest (λi j=>decide (numAt ys i<numAt ys j)) (ys.size - 1))∈n::r:=by
      rw[←Km,numAt_eq];exact getD_mem (by rw[vI,vG];have:0<ys.size:=by { rw[hsz];simp };omega)
     have g2:numAt ys (argBest (λi j=>decide (numAt ys i<numAt ys j)) (ys.size - 1))<=sM n r:=by
      rw[←Km]at m1;obtain⟨j,hj,e⟩:=mem_getD m1;rw[vI,vG]at hj;rw[←e,←numAt_eq];exact h2 j (by omega)
     have:=m2 _ g1;omega
    rw[hm];exact⟨.int _,H,I.kept hk,⟨t,rfl⟩,Fin.one q sB (.int _)⟩
  ·cases ee
end DL
namespace DL
open PySem L2
theorem iq {tg:FG}{g:FS}(I:Nat->Env->Prop)(ds:List D)(ρ0:Env)(h0:I 0 ρ0)
  (step:∀i d ρ,ds[i]? = some d->I i ρ->∃ρ1 ρ',tg d ρ=some ρ1/\(g ρ1=some (.nx ρ')∨g ρ1=some (.ct ρ'))/\I (i+1) ρ'):
  ∃ρ',iY tg g ds ρ0=some (.nx ρ')/\I ds.length ρ':=by
 have key:∀(es:List D)(i:Nat)(ρ:Env),ds.drop i=es->i+es.length=ds.length->I i ρ->∃ρ',iY tg g es ρ=some (.nx ρ')/\I ds.length ρ':=by
  intro es;induction es with
  |nil=>intro i ρ e hl h;refine⟨ρ,by rw[EK],?_⟩;rw[←hl];exact h
  |cons d es ih=>
   intro i ρ e hl h;have hd:ds[i]? = some d:=by
    have:(ds.drop i)[0]? = some d:=by rw[e];rfl
    rwa [List.getElem?_drop,Nat.add_zero]at this
   obtain⟨ρ1,ρ',h1,h2,h3⟩:=step i d ρ hd h;have he:ds.drop (i+1)=es:=by rw[←List.drop_drop,e];rfl
   obtain⟨ρ2,k1,k2⟩:=ih (i+1) ρ' he (by simp at hl;omega) h3;refine⟨ρ2,?_,k2⟩;rw[Db,h1];rcases h2 with h2|h2<;>simp only[vJ,h2]<;>exact k1
 exact key ds 0 ρ0 (by simp) (by simp) h0
theorem kB {tg:FG}{g:FS}(n:Nat)(I:Nat->Env->Prop)(ρ0:Env)(h0:I 0 ρ0)
  (step:∀(i:Nat) ρ,i<n->I i ρ->∃ρ1 ρ',tg (.int (i:Int)) ρ=some ρ1/\(g ρ1=some (.nx ρ')∨g ρ1=some (.ct ρ'))/\I (i+1) ρ'):
  ∃ρ',iY tg g (fZ 0 n) ρ0=some (.nx ρ')/\I n ρ':=by
 have hl:(fZ 0 n).length=n:=by simp[fZ]
 obtain⟨ρ',h1,h2⟩:=iq (tg:=tg) (g:=g) I (fZ 0 n) ρ0 h0 λi d ρ hd h=>by
  unfold fZ at hd;rw[vA]at hd;obtain⟨k,hk,hd⟩:=oY hd;obtain⟨fT,hk⟩:=vV hk;rw[List.length_range]at fT;rw[List.getElem_range]at hk;subst hk;rw[Int.zero_add]at hd;subst hd;exact step i ρ fT h
 rw[hl]at h2;exact⟨ρ',h1,h2⟩
theorem kE {α:Type}{xs:List α}{j:Nat}(h:j<xs.length):oE xs (j:Int)=some xs[j]:=Ih (by simp[h])
theorem wH {α:Type}{xs:List α}{i:Int}(h0:0<=i)(h:i.toNat<xs.length):oE xs i=some xs[i.toNat]:=by
 have:=kE h;rwa [Int.toNat_of_nonneg h0]at this
@[simp] theorem Ln (xs:List Int):b8 (xs.map D.int)=true:=by
 induction xs with
 |nil=>simp
 |cons x xs ih=>simp[ih]
@[simp] theorem HB (n:Nat)(xs:List Int):(xs.map D.int).all (aq n)=true:=by
 induction xs with
 |nil=>simp
 |cons x xs ih=>simpa using ih
@[simp] theorem Jr (xs:List Int):(xs.map D.int).all gs=true:=by
 induction xs with
 |nil=>simp
 |cons x xs ih=>simpa using ih
theorem D5 (n:Nat):fZ 0 n=((List.range n).map λ(k:Nat)=>(k:Int)).map D.int:=by
 unfold fZ;rw[uP];apply List.map_congr_left;intro k _;simp
mutual
def mJ:D->D->Bool
 |.non,.non=>true
 |.bl a,.bl b=>a == b
 |.int a,.int b=>decide (a=b)
 |.str a,.str b=>decide (a=b)
 |.ty a,.ty b=>decide (a=b)
 |.tup xs,.tup ys=>qO xs ys
 |.lst xs,.lst ys=>qO xs ys
 |_,_=>false
def qO:List D->List D->Bool
 |[],[]=>true
 |x::xs,y::ys=>mJ x y && qO xs ys
 |_,_=>false
end
mutual
theorem BM:∀ {x y:D},mJ x y=true->x=y
 |.non,.non,_=>rfl
 |.bl a,.bl b,h=>by simp[mJ]at h;rw[h]
 |.int a,.int b,h=>by simp[mJ]at h;rw[h]
 |.str a,.str b,h=>by simp[mJ]at h;rw[h]
 |.ty a,.ty b,h=>by simp[mJ]at h;rw[h]
 |.tup xs,.tup ys,h=>by rw[mJ]at h;rw[qP h]
 |.lst xs,.lst ys,h=>by rw[mJ]at h;rw[qP h]
theorem qP:∀ {xs ys:List D},qO xs ys=true->xs=ys
 |[],[],_=>rfl
 |x::xs,y::ys,h=>by
  rw[qO,vC]at h;rw[BM h.1,qP h.2]
end
def Vy (r:Option (D×Bool))(d:D)(b:Bool):Bool:=match r with
 |some (e,c)=>mJ e d && c == b
 |none=>false
theorem bp {r:Option (D×Bool)}{d:D}{b:Bool}(h:Vy r d b=true):r=some (d,b):=by
 unfold Vy at h;split at h
 ·rw[vC]at h;rw[BM h.1,eq_of_beq h.2]
 ·cases h
section
variable {f:FE}{c:FT}{g g' h:FS}{ρ ρ':Env}{i:Nat}{d:D}{b:Bool}{r:Option Res}{ds:List D}
theorem av {n k:Nat}(hl:ds.length=n)(e:g (ds.map (λd=>some (d,false))++List.replicate k none)=some (.rt d b)):aN g n k ds=some (d,b):=by
 unfold aN;rw[if_pos hl,e]
theorem um (n:bu d=true):setE ρ i d b=ρ.set i (some (d,false)):=by unfold setE;rw[if_pos n]
theorem yG (n:b8 ds=true):setE ρ i (.lst ds) true=ρ.set i (some (.lst ds,true)):=by
 unfold setE;rw[if_neg (by simp),if_pos ⟨rfl,by simpa using n⟩]
theorem Js (n:bu d=false)(m:b=false∨xE d=false):setE ρ i d b=(unown ρ).set i (some (d,false)):=by
 unfold setE;have hz:¬(b=true/\xE d=true):=λz=>by
  rcases m with m|m
  ·rw[m]at z;exact absurd z.1 (by decide)
  ·rw[m]at z;exact absurd z.2 (by decide)
 rw[if_neg (by simp[n]),if_neg hz]
theorem Ga (e:f ρ=some (d,b))(k:h (setE ρ i d b)=r):aA (aS i f) h ρ=r:=by simp[e];exact k
theorem Ny (e:f ρ=some (d,b))(n:bu d=true)(k:h (ρ.set i (some (d,false)))=r):aA (aS i f) h ρ=r:=Ga e (by rw[um n];exact k)
theorem bX (e:f ρ=some (.lst ds,true))(n:b8 ds=true)(k:h (ρ.set i (some (.lst ds,true)))=r):aA (aS i f) h ρ=r:=Ga e (by rw[yG n];exact k)
theorem Tv (e:f ρ=some (d,b))(n:bu d=false)(m:b=false∨xE d=false)(k:h ((unown ρ).set i (some (d,false)))=r):aA (aS i f) h ρ=r:=Ga e (by rw[Js n m];exact k)
theorem dz (e:g ρ=some (.nx ρ'))(k:h ρ'=r):aA g h ρ=r:=by unfold aA;rw[e];exact k
theorem Tw (e:g ρ=some (.rt d b)):aA g h ρ=some (.rt d b):=by unfold aA;rw[e]
theorem Tz (e:g ρ=some (.ct ρ')):aA g h ρ=some (.ct ρ'):=by unfold aA;rw[e]
theorem ls (e:c ρ=some true)(k:g ρ=r):dC c g g' ρ=r:=by unfold dC;rw[e];exact k
theorem lU (e:c ρ=some false)(k:g' ρ=r):dC c g g' ρ=r:=by unfold dC;rw[e];exact k
theorem Qy {x:Bool}(e:c ρ=some x)(kt:x=true->g ρ=r)(kf:x=false->g' ρ=r):dC c g g' ρ=r:=by
 cases x with
 |true=>exact ls e (kt rfl)
 |false=>exact lU e (kf rfl)
theorem bz (e:c ρ=some true)(k:g ρ=some (.rt d b)):aA (dC c g g') h ρ=some (.rt d b):=Tw (ls e k)
theorem aB (e:c ρ=some false)(k:h ρ=r):aA (dC c g aX) h ρ=r:=dz (lU e rfl) k
theorem ay (e:f ρ=some (d,b)):aR f ρ=some (.rt d b):=by simp[e]
theorem mK (e:ρ[i]? = some (some (d,b)))(hb:K6 d=false:=by rfl):jr i ρ=some (.rt d b):=by simp only[jr,e,hb];simp
theorem mL (e:f ρ=some (d,b))(n:bu d=true):aS i f ρ=some (.nx (ρ.set i (some (d,false)))):=by
 show(f ρ).map _=_;rw[e,Option.map_some,um n]
theorem pP (e:f ρ=some (.lst ds,true))(n:b8 ds=true):aS i f ρ=some (.nx (ρ.set i (some (.lst ds,true)))):=by
 show(f ρ).map _=_;rw[e,Option.map_some,yG n]
theorem jd (e:ρ[i]? = some (some (.lst ds,true)))(ef:f ρ=some (d,b))(n:bu d=true)(l:ds.length<sizeLine):kh i f ρ=some (.nx (ρ.set i (some (.lst (ds++[d]),true)))):=by
 simp[e,ef,n,l]
theorem Lo (e:ρ[i]? = some (some (.lst ds,true)))(ef:f ρ=some (d,b))(n:bu d=true)(l:ds.length<sizeLine)(k:h (ρ.set i (some (.lst (ds++[d]),true)))=r):aA (kh i f) h ρ=r:=dz (jd e ef n l) k
theorem kF {fi:FA}{tg:FG}{ds:List D}(e:fi ρ=some ds)(k:iY tg g ds ρ=some (.nx ρ')):lz fi tg g ρ=some (.nx ρ'):=by unfold lz;rw[e];exact k
theorem kY {fi:FA}{tg:FG}{ds:List D}(e:fi (m4 ρ)=some ds)(k:iY tg g ds ρ=some (.nx ρ')):qe fi tg g ρ=some (.nx ρ'):=by unfold qe;rw[e];exact k
theorem gU {f:FE}{j:Nat}(e:f ρ=some (.int j,b))(hj:j<=1000):ga f ρ=some (fZ 0 j):=by
 unfold ga;rw[e];simp only[];rw[if_pos (by omega)];simp
theorem Nz {x:Bool}(e:f ρ=some (.bl x,b)):bg f ρ=some x:=by unfold bg;rw[e]
theorem BN {F:List D->Option (D×Bool)}{fa:FA}{x:Option (D×Bool)}(e:fa ρ=some ds)(k:F ds=x):fA F fa ρ=x:=by unfold fA;rw[e,vJ];exact k
theorem yH {f1 g1:D->D->Option (D×Bool)}{fa fb fc:FE}{x y z:D}{b1 b2 b3 b4 p q:Bool}(ea:fa ρ=some (x,b1))(eb:fb ρ=some (y,b2))(ec:fc ρ=some (z,b3))(e1:f1 x y=some (.bl p,b4))(e2:p=true->g1 y z=some (.bl q,false)):nV f1 g1 fa fb fc ρ=some (.bl (p && q),false):=by
 unfold nV;rw[ea,eb,ec];simp only[vJ,e1];cases p
 ·rfl
 ·exact e2 rfl
theorem dW {f1 f2:FE}{p q b1:Bool}(e1:f1 ρ=some (.bl p,b1))(e2:p=true->f2 ρ=some (.bl q,false)):lr f1 f2 ρ=some (.bl (p && q),false):=by
 unfold lr;rw[e1];cases p
 ·rfl
 ·exact e2 rfl
theorem qQ {f1 f2:FE}{p q b1:Bool}(e1:f1 ρ=some (.bl p,b1))(e2:p=false->f2 ρ=some (.bl q,false)):MC f1 f2 ρ=some (.bl (p || q),false):=by
 unfold MC;rw[e1];cases p
 ·exact e2 rfl
 ·rfl
theorem aF {fr:FA}{xs:List D}(e1:f ρ=some (d,b))(e2:fr ρ=some xs):ae f fr ρ=some (d::xs):=by
 unfold ae;rw[e1,vJ,e2,vJ]
theorem g9 {op:D->D->Option (D×Bool)}{fa fb:FE}{x y:D}{b1 b2:Bool}{z:Option (D×Bool)}(e1:fa ρ=some (x,b1))(e2:fb ρ=some (y,b2))(e3:op x y=z):f2 op fa fb ρ=z:=by
 unfold f2;rw[e1,vJ,e2,vJ];exact e3
theorem dM {c1 c2:FT}{p q:Bool}(e1:c1 ρ=some p)(e2:p=true->c2 ρ=some q):eG c1 c2 ρ=some (p && q):=by
 unfold eG;rw[e1];cases p
 ·rfl
 ·exact e2 rfl
theorem dG {c1 c2:FT}{p q:Bool}(e1:c1 ρ=some p)(e2:p=false->c2 ρ=some q):jq c1 c2 ρ=some (p || q):=by
 unfold jq;rw[e1];cases p
 ·exact e2 rfl
 ·rfl
theorem bH {c1:FT}{p:Bool}(e1:c1 ρ=some p):dQ c1 ρ=some (!p):=by
 unfold dQ;rw[e1];rfl
end
theorem RU (a c:Nat):decide ([a]<[c])=decide (a<c):=by
 congr 1;rw[List.cons_lt_cons_iff];simp
@[simp] theorem RV (a c:Nat):zJ (.str ⟨#[a]⟩) (.str ⟨#[c]⟩)=some (.bl (decide (a<=c)),false):=by
 unfold zJ;show some (D.bl (!decide ([c]<[a])),false)=_;rw[RU];congr 3;by_cases h:c<a
 ·rw[decide_eq_true h,decide_eq_false (by omega)];rfl
 ·rw[decide_eq_false h,decide_eq_true (by omega)];rfl
theorem bO {n:Nat}(h:n<=100000):n<sizeLine:=Nat.lt_of_le_of_lt h (by decide)
theorem dA {n:Nat}(h:n<=100000):n<=sizeLine:=Nat.le_of_lt (bO h)
theorem ir {α:Type}{fi:FA}{nT:Nat}{cap:List Nat}{tg:FG}{c:FT}{fe:FE}{ρ:DL.Env}(l:List α)(g:α->D)(p:α->Bool)(h:α->D)(e:fi ρ=some (l.map g))(hl:l.length<=100000)
  (k:∀x∈l,∃ρ1,tg (g x) (cF nT cap ρ)=some ρ1/\c ρ1=some (p x)/\(p x=true->∃b,fe ρ1=some (h x,b))):cf fi nT cap tg c fe ρ=some (.lst ((l.filter p).map h),true):=by
 have key:∀l':List α,(∀x∈l',x∈l)->gZ tg c fe (cF nT cap ρ) (l'.map g)=some ((l'.filter p).map h):=by
  intro l';induction l' with
  |nil=>intro _;simp
  |cons x l' ih=>
   intro hm;obtain⟨ρ1,h1,h2,h3⟩:=k x (hm x mX);have ih:=ih λy hy=>hm y (mZ _ hy);rw[uY,Ag,h1,vJ,h2,vJ];cases hp:p x with
   |false=>simp[hp,ih]
   |true=>
    obtain⟨b,h4⟩:=h3 hp;simp[hp,ih,h4]
 unfold cf;rw[e,vJ,if_pos (dA (by simpa using hl)),key l λ_ h=>h,Option.map_some]
theorem mM {α:Type}{fi:FA}{nT:Nat}{cap:List Nat}{tg:FG}{fe:FE}{ρ:DL.Env}(l:List α)(g:α->D)(h:α->D)(e:fi ρ=some (l.map g))(hl:l.length<=100000)
  (k:∀x∈l,∃ρ1,tg (g x) (cF nT cap ρ)=some ρ1/\∃b,fe ρ1=some (h x,b)):cf fi nT cap tg hU fe ρ=some (.lst (l.map h),true):=by
 have:=ir (c:=hU) (fe:=fe) l g (λ_=>true) h e hl λx hx=>by
  obtain⟨ρ1,h1,h2⟩:=k x hx;exact⟨ρ1,h1,rfl,λ_=>h2⟩
 rw[List.filter_eq_self.mpr λ_ _=>rfl]at this;exact this
@[simp] theorem yI {α:Type}(f:α->Bool)(l:List α):sG (l.map λx=>.bl (f x))=some (l.map f):=by
 induction l with
 |nil=>rfl
 |cons x l ih=>simp[ih]
theorem zZ {z:Str}{i:Int}(h0:0<=i)(h:i.toNat<z.cps.size)(hz:z.length<=100000):bC (.str z) (.int i)=some (.str ⟨#[z.cps.toList.getD i.toNat 0]⟩,false):=by
 have hh:i.toNat<z.cps.toList.length:=by simpa using h
 simp only[bC];rw[if_pos (dA hz),wH h0 hh];simp[List.getD,h]
theorem AG {ds:List D}{i:Int}(h0:0<=i)(h:i.toNat<ds.length):bC (.lst ds) (.int i)=some (ds.getD i.toNat .non,false):=by
 simp only[bC];rw[wH h0 h];simp[List.getD,h]
theorem zY {ds:List D}{i:Int}(h0:0<=i)(h:i.toNat<ds.length):bC (.tup ds) (.int i)=some (ds.getD i.toNat .non,false):=by
 simp only[bC];rw[wH h0 h];simp[List.getD,h]
theorem BO {xs:List Int}{i:Int}(h0:0<=i)(h:i.toNat<xs.length):bC (.lst (xs.map .int)) (.int i)=some (.int (xs.getD i.toNat 0),false):=by
 rw[AG h0 (by simpa using h)];simp[List.getD,h]
theorem mod_lt {x m:Int}(hm:0<m):0<=x % m/\x % m<m:=⟨Int.emod_nonneg _ (by omega),Int.emod_lt_of_pos _ hm⟩
theorem Jt {ds:List D}:fR [.lst ds]=some (.int ds.length,false):=rfl
theorem BP {i j:Int}:dm (.int i) (.int j)=some (.bl (decide (i=j)),false):=by simp
theorem b7 {ρ:Env}{op:D->D->Option (D×Bool)}{fa fb:FE}(x y:D){z:Option (D×Bool)}(e1:fa ρ=some (x,false))(e2:fb ρ=some (y,false))(e3:op x y=z):f2 op fa fb ρ=z:=g9 e1 e2 e3
theorem cA {ρ:Env}{f:FE}{x:Bool}(e:f ρ=some (.bl x,false)):bg f ρ=some x:=Nz e
theorem bY {ρ:Env}{f:FE}{d:D}{fr:FA}{xs:List D}(e1:f ρ=some (d,false))(e2:fr ρ=some xs):ae f fr ρ=some (d::xs):=aF e1 e2
theorem aI {ρ:Env}{F:List D->Option (D×Bool)}{fa:FA}{x:Option (D×Bool)}(ds:List D)(e:fa ρ=some ds)(k:F ds=x):fA F fa ρ=x:=BN e k
theorem fz {ρ:Env}{f:FE}{h:FS}{i:Nat}{r:Option Res}(d:D)(e:f ρ=some (d,false))(n:bu d=true)(k:h (ρ.set i (some (d,false)))=r):aA (aS i f) h ρ=r:=Ny e n k
@[simp] noncomputable abbrev ZF (ab:List D)(aa:Int)(t:Env):Env:=some (.tup ab,false)::some (.int aa,false)::t
@[simp] noncomputable abbrev eR (ns:List Int)(zs:List Str)(ms:Int)(dh:List Str)(R:List D)(a b:Option (D×Bool))(t:Env):Env:=some (.lst (ns.map .int),false)::some (.lst (zs.map .str),false)::some (.int ms,false)::a::some (.lst (dh.map .str),true)::some (.lst R,true)::b::t
end DL
namespace Lw
open PySem DL
noncomputable def yJ:D:=(.tup [(.str "paper"),(.str "like"),(.str "copy")])
noncomputable def gO:List (PySem.Str×D):=[(("root" : Str),(.tup [(.str "office"),(.str "matters"),(.str "further"),(.str "rule")])),(("named" : Str),(.tup [(.str "day"),(.str "office"),(.str "person")])),(("chosen" : Str),(.tup [(.str "day"),(.str "by"),(.str "office"),(.str "person"),(.str "since")])),(("heir" : Str),(.tup [(.str "day"),(.str "by"),(.str "office"),(.str "person")])),(("death" : Str),(.tup [(.str "day"),(.str "person")])),(("lost" : Str),(.tup [(.str "day"),(.str "person")])),(("found" : Str),(.tup [(.str "day"),(.str "person")])),(("leave" : Str),(.tup [(.str "day"),(.str "by"),(.str "person"),(.str "matters"),(.str "stretch"),(.str "further")])),(("paper" : Str),(.tup [(.str "day"),(.str "by"),(.str "matters"),(.str "stretch"),(.str "whom"),(.str "pieces")])),(("like" : Str),(.tup [(.str "day"),(.str "by"),(.str "matters"),(.str "stretch"),(.str "whom"),(.str "of"),(.str "changes")])),(("copy" : Str),(.tup [(.str "day"),(.str "by"),(.str "of")])),(("call" : Str),(.tup [(.str "day"),(.str "by"),(.str "of")]))]
noncomputable def iu:D:=(.tup [(.str "chosen"),(.str "heir"),(.str "leave"),(.str "paper"),(.str "like"),(.str "copy"),(.str "call")])
def uo:FS :=
  (aR (f2 bC (dO 0 1) (fI 0)))
def aK:=aN uo 1 0
def uq:FS :=
  (aR (f2 bC (dO 0 1) (f2 cm (fI 1) (f2 (pA gO) (fA aK (fV 0 ai)) (aj 1)))))
def au:=aN uq 2 0
def yK:FS :=
  (aA (dC (bg (f2 dm (fA aK (fV 0 ai)) (fS "root"))) (aR (fC .non)) aX)
  (aR (fA au (fV 0 (ae (fS "day") ai)))))
def aT:=aN yK 1 0
def BQ:FS :=
  (aR (cf (Fl (aj 0)) 2 [1] (O6 [0,1]) (bg (f2 zJ (dO 1 0) (aj 2))) (aj 0)))
def cH:=aN BQ 2 0
def Gb:FS :=
  (aR (fA aP (ae (fA aT (ae (f2 bC (aj 0) (aj 1)) ai)) (fV 1 ai))))
def fj:=aN Gb 2 0
def qR:FS :=
  (aA (aS 2 (cf (c6 (fA cH (fV 0 (fV 1 ai)))) 1 [0] (dD 0) (bg (f2 jG (fA aT (ae (f2 bC (aj 1) (aj 0)) ai)) (fC .non))) (aj 0)))
  (aR (qA (aj 2) (q8 [0] (fA fj (fV 1 (fV 0 ai)))))))
def dX:=aN qR 2 1
def oR:FS :=
  (aR (fA aP (ae (dO 0 0) (ae (dO 0 2) (ae (dO 0 4) ai)))))
def gA:=aN oR 1 0
def BR:FS :=
  (aA (aS 2 (cf (c6 (fA cH (fV 0 (fV 1 ai)))) 1 [0] (dD 0) hU (f2 bC (aj 1) (aj 0))))
  (aR (fA jL (ae (cf (c6 (aj 2)) 1 [] (dD 0) (bg (f2 dm (fA aK (fV 0 ai)) (fS "root"))) (fA aP (ae (fA au (fV 0 (ae (fS "office") ai))) (fV 0 ai)))) ai))))
def fK:=aN BR 2 1
def qS:FS :=
  (aR (lr (nV zJ Qa (fI 0) (aj 2) (fA fR (fV 0 ai))) (f2 zJ (f2 bC (f2 bC (aj 0) (aj 2)) (fI 0)) (aj 1))))
def cG:=aN qS 3 0
def BS:FS :=
  (aR (lr (f2 wl (fA aK (fV 0 ai)) (aj 1)) (lr (f2 dm (fA au (fV 0 (ae (fS "person") ai))) (aj 2)) (f2 zJ (fA aT (fV 0 ai)) (aj 3)))))
def pQ:=aN BS 4 0
def ur:FS :=
  (aR (cf (c6 (fA cH (fV 0 (fV 1 ai)))) 1 [2,3,4,0] (dD 0) (bg (fA pQ (ae (f2 bC (aj 4) (aj 0)) (fV 1 (fV 2 (fV 3 ai)))))) (aj 0)))
def gV:=aN ur 5 0
def BU:FS :=
  (aR (f2 dm (fA fR (ae (fA gV (fV 0 (fV 1 (ae (fA aP (ae (fS "death") ai)) (fV 2 (fV 3 ai)))))) ai)) (fI 0)))
def mN:=aN BU 4 0
def qT:FS :=
  (aA (aS 4 (fA gV (fV 0 (fV 1 (ae (fA aP (ae (fS "lost") (ae (fS "found") ai))) (fV 2 (fV 3 ai)))))))
  (aA (dC (bg (f2 dm (fA fR (fV 4 ai)) (fI 0))) (aR (fC (.bl true))) aX)
  (aR (f2 dm (fA aK (ae (f2 bC (aj 0) (uc (aj 4) (q8 [0] (fA fj (fV 1 (fV 0 ai)))))) ai)) (fS "found")))))
def lV:=aN qT 4 1
def qU:FS :=
  (aA (dC (jq (dQ (bg (fA cG (fV 0 (fV 1 (fV 2 ai)))))) (bg (f2 fY (fA aK (ae (f2 bC (aj 0) (aj 2)) ai)) (fC iu)))) (aR (fC (.bl false))) aX)
  (aA (aS 3 (fA au (ae (f2 bC (aj 0) (aj 2)) (ae (fS "by") ai))))
  (aA (aS 4 (fA aT (ae (f2 bC (aj 0) (aj 2)) ai)))
  (aR (lr (fA mN (fV 0 (fV 1 (fV 3 (fV 4 ai))))) (fA lV (fV 0 (fV 1 (fV 3 (fV 4 ai))))))))))
def du:=aN qU 3 2
def ut:FS :=
  (aR (lr (f2 zJ (dO 1 0) (aj 0)) (MC (f2 zK (dO 1 1) (fC .non)) (f2 Qa (aj 0) (dO 1 1)))))
def jz:=aN ut 2 0
def qV:FS :=
  (aR (fA jz (fV 1 (ae (fA aP (ae (dO 0 2) (ae (dO 0 3) ai))) ai))))
def cQ:=aN qV 2 0
def qW:FS :=
  (aR (fA aP (ae (dO 0 2) (ae (dO 0 4) ai))))
def dw:=aN qW 1 0
def qX:FS :=
  (aA (dC (bg (f2 dm (aj 1) (fS "last"))) (aR (f2 bC (uc (aj 0) (sL dw)) (fI 1))) aX)
  (aR (f2 bC (ud (aj 0) (sL dw)) (fI 1))))
def lW:=aN qX 2 0
def oS:FS :=
  (aA (aS 3 (cf (c6 (aj 0)) 1 [2,1] (dD 0) (eG (bg (f2 dm (dO 0 0) (fA au (fV 2 (ae (fS "office") ai))))) (bg (fA cQ (fV 0 (fV 1 ai))))) (aj 0)))
  (aA (aS 4 (f1 eS (cf (c6 (aj 3)) 1 [] (dD 0) hU (dO 0 1))))
  (aA (dC (bg (f2 dm (fA fR (fV 4 ai)) (fI 0))) (aR (fA aP (ae (fS "none") ai))) aX)
  (aA (dC (eG (bg (f2 Aj (fA fR (fV 4 ai)) (fI 1))) (bg (f2 dm (fA au (fV 1 (ae (fS "rule") ai))) (fS "open")))) (aR (fA aP (ae (fS "parted") (fV 4 ai)))) aX)
  (aA (aS 5 (fA lW (fV 3 (ae (fA au (fV 1 (ae (fS "rule") ai))) ai))))
  (aA (aS 6 (ud (cf (c6 (aj 3)) 1 [5] (dD 0) (bg (f2 dm (dO 0 1) (aj 1))) (aj 0)) (sL dw)))
  (aR (fA aP (ae (fS "one") (fV 5 (ae (dO 6 4) ai)))))))))))
def dY:=aN oS 3 4
def mO:FS :=
  (aR (f2 dm (RN (fA dY (fV 0 (fV 1 (fV 3 ai)))) EU (Bo (fI 2))) (fA aP (ae (fS "one") (fV 2 ai)))))
def cO:=aN mO 4 0
def j0:FS :=
  (aA (aS 3 (f2 bC (aj 0) (aj 2)))
  (aA (aS 4 (fA gV (fV 0 (fV 1 (ae (fA aP (ae (fS "death") ai)) (ae (fA au (fV 3 (ae (fS "person") ai))) (ae (fA aT (fV 3 ai)) ai)))))))
  (aR (f2 dm (ud (aj 4) (q8 [0] (fA fj (fV 1 (fV 0 ai))))) (aj 2)))))
def gb:=aN j0 3 2
def yL:FS :=
  (aA (aS 4 (f2 bC (aj 0) (aj 3)))
  (aA (dC (bg (f2 dm (fA aK (fV 4 ai)) (fS "death"))) (aR (fA gb (fV 0 (fV 1 (fV 3 ai))))) aX)
  (aA (dC (bg (f2 fY (fA aK (fV 4 ai)) (fA aP (ae (fS "named") (ae (fS "chosen") (ae (fS "heir") ai)))))) (aR (fC (.bl false))) aX)
  (aA (aS 5 (f2 FD (fA fK (fV 0 (fV 1 ai))) (fA au (fV 4 (ae (fS "office") ai)))))
  (aA (dC (bg (f2 zK (aj 5) (fC .non))) (aR (fC (.bl false))) aX)
  (aA (dC (bg (f2 dm (fA aK (fV 4 ai)) (fS "named"))) (aR (fC (.bl true))) aX)
  (aR (lr (fA du (fV 0 (fV 1 (fV 3 ai)))) (fA cO (fV 2 (fV 5 (ae (fA au (fV 4 (ae (fS "by") ai))) (ae (fA aT (fV 4 ai)) ai)))))))))))))
def mP:=aN yL 4 2
def oU:FS :=
  (aR (fA aP (ae (fA au (fV 0 (ae (fS "office") ai))) (ae (fA au (fV 0 (ae (fS "person") ai))) (fV 1 (ae (fC .non) (fV 2 ai)))))))
def gB:=aN oU 3 0
def qY:FS :=
  (dC (jq (bg (f2 fY (dO 5 0) (aj 1))) (jq (bg (f2 zI (dO 5 1) (aj 2))) (dQ (jq (bg (fA cQ (fV 5 (fV 3 ai)))) (bg (f2 Aj (dO 5 2) (aj 3))))))) (kh 4 (aj 5)) (dC (bg (f2 Qa (dO 5 2) (aj 3))) (kh 4 (fA aP (ae (dO 5 0) (fV 2 (ae (dO 5 2) (fV 3 (ae (dO 5 4) ai))))))) aX))
def BV:FS :=
  (aA (aS 4 (fA bj ai))
  (aA (qe (c6 (aj 0)) (dD 5) qY)
  (jr 4)))
def pR:=aN BV 4 2
def kG:FS :=
  (aA (aS 3 (fA au (fV 1 (ae (fS "since") ai))))
  (aA (aS 4 (fA pR (fV 0 (ae (fA bj (ae (fA au (fV 1 (ae (fS "office") ai))) ai)) (ae (fA au (fV 1 (ae (fS "by") ai))) (fV 3 ai))))))
  (aR (f2 cm (aj 4) (fA bj (ae (fA gB (fV 1 (fV 3 (fV 2 ai)))) ai))))))
def iw:=aN kG 3 2
def gP:FS :=
  (aA (aS 9 (FM (aj 3) (fV 8 (fV 5 ai))))
  (dC (eG (bg (f2 jG (aj 9) (fC .non))) (bg (fA mN (fV 0 (fV 1 (fV 9 (fV 6 ai))))))) (kh 7 (fA aP (fV 8 (fV 9 (fV 6 (ae (fC .non) (fV 4 ai))))))) aX))
def oV:FS :=
  (aA (aS 5 (fA au (ae (f2 bC (aj 0) (aj 4)) (ae (fS "person") ai))))
  (aA (aS 6 (fA aT (ae (f2 bC (aj 0) (aj 4)) ai)))
  (aA (aS 7 (fA bj ai))
  (aA (Ti [5,6] (qe (c6 (f1 eS (cf (c6 (aj 2)) 1 [5,6] (dD 0) (eG (bg (f2 dm (dO 0 1) (aj 1))) (bg (fA cQ (fV 0 (fV 2 ai))))) (dO 0 0)))) (dD 8) gP))
  (jr 7)))))
def kH:=aN oV 5 5
def lB:FS :=
  (aA (aS 5 (cf (c6 (aj 2)) 1 [] (dD 0) hU (dO 0 0)))
  (aA (aS 6 (fA pR (fV 2 (fV 5 (ae (fA au (ae (f2 bC (aj 0) (aj 4)) (ae (fS "person") ai))) (ae (fA aT (ae (f2 bC (aj 0) (aj 4)) ai)) ai))))))
  (aR (f2 cm (aj 6) (fA kH (fV 0 (fV 1 (fV 2 (fV 3 (fV 4 ai))))))))))
def je:=aN lB 5 2
def kZ:FS :=
  (aA (aS 5 (f2 bC (aj 0) (aj 4)))
  (aA (dC (dQ (bg (fA mP (fV 0 (fV 1 (fV 2 (fV 4 ai))))))) Lj aX)
  (dC (bg (f2 dm (fA aK (fV 5 ai)) (fS "named"))) (aS 2 (f2 cm (aj 2) (fA bj (ae (fA gB (fV 5 (ae (fA aT (fV 5 ai)) (fV 4 ai)))) ai)))) (dC (bg (f2 dm (fA aK (fV 5 ai)) (fS "chosen"))) (aS 2 (fA iw (fV 2 (fV 5 (fV 4 ai))))) (dC (bg (f2 dm (fA aK (fV 5 ai)) (fS "heir"))) (uh 3 (ae (fA au (fV 5 (ae (fS "office") ai))) (ae (fA au (fV 5 (ae (fS "by") ai))) ai)) (fA au (fV 5 (ae (fS "person") ai)))) (aS 2 (fA je (fV 0 (fV 1 (fV 2 (fV 3 (fV 4 ai))))))))))))
def yM:FS :=
  (aA (aS 2 (fA bj ai))
  (aA (FH 3)
  (aA (qe (c6 (fA dX (fV 0 (fV 1 ai)))) (dD 4) kZ)
  (aR (qA (aj 2) (sL gA))))))
def j3:=aN yM 2 4
def qZ:FS :=
  (aR (lr (fA cG (fV 0 (fV 1 (fV 2 ai)))) (f2 wl (fA aK (ae (f2 bC (aj 0) (aj 2)) ai)) (fC yJ))))
def fm:=aN qZ 3 0
def re:FS :=
  (aR (lr (fA cG (fV 0 (fV 1 (fV 2 ai)))) (f2 dm (fA aK (ae (f2 bC (aj 0) (aj 2)) ai)) (fS "leave"))))
def gd:=aN re 3 0
def rf:FS :=
  (aR (MC (fA gd (fV 0 (fV 1 (fV 2 ai)))) (fA fm (fV 0 (fV 1 (fV 2 ai))))))
def dZ:=aN rf 3 0
def rg:FS :=
  (aR (f2 dm (f2 PP (aj 0) (aj 1)) (aj 1)))
def iz:=aN rg 2 0
def oW:FS :=
  (aA (dC (dQ (bg (fA iz (ae (fA au (fV 1 (ae (fS "matters") ai))) (ae (fA au (fV 0 (ae (fS "matters") ai))) ai))))) (aR (fS "matters")) aX)
  (aA (dC (eG (bg (f2 dm (fA aK (fV 0 ai)) (fS "leave"))) (bg (f2 SX (fA au (fV 0 (ae (fS "further") ai))) (fA au (fV 1 (ae (fS "further") ai)))))) (aR (fS "further")) aX)
  (aR (fC .non))))
def iQ:=aN oW 2 0
def mQ:FS :=
  (aA (dC (dQ (bg (fA cO (fV 0 (fV 2 (ae (fA au (fV 1 (ae (fS "by") ai))) (ae (fA aT (fV 1 ai)) ai))))))) (aR (fS "holder")) aX)
  (aR (fA iQ (fV 1 (fV 2 ai)))))
def cB:=aN mQ 3 0
def kI:FS :=
  (aA (aS 4 (f2 bC (aj 0) (aj 3)))
  (aA (aS 5 (cf (qL (fA fK (fV 0 (fV 1 ai)))) 1 [2,4] (dD 0) (bg (f2 zK (fA cB (fV 1 (fV 2 (fV 0 ai)))) (fC .non))) (aj 0)))
  (aR (cf (c6 (aj 5)) 1 [2,4] (dD 0) hU (fA aP (ae (fS "office") (ae (fA au (fV 0 (ae (fS "office") ai))) (ae (f2 bC (fA dY (fV 1 (fV 0 (ae (fA aT (fV 2 ai)) ai)))) (fI 2)) ai))))))))
def i6:=aN kI 4 2
def lC:FS :=
  (aA (dC (bg (f2 zK (aj 1) (fC .non))) (aR (fC (.bl true))) aX)
  (aR (lr (f2 jG (aj 0) (fC .non)) (f2 zJ (aj 0) (aj 1)))))
def jf:=aN lC 2 0
def oZ:FS :=
  (aR (lr (f2 zJ (dO 1 0) (dO 0 0)) (fA jf (ae (dO 0 1) (ae (dO 1 1) ai)))))
def iR:=aN oZ 2 0
def rh:FS :=
  (aR (f2 LU (fA fj (fV 0 (fV 1 ai))) (fA fj (fV 0 (fV 2 ai)))))
def ge:=aN rh 3 0
def pb:FS :=
  (aA (aS 3 (f2 bC (aj 0) (aj 1)))
  (aA (aS 4 (fA au (ae (f2 bC (aj 0) (aj 2)) (ae (fS "stretch") ai))))
  (aA (dC (dQ (bg (fA ge (fV 0 (fV 2 (fV 1 ai)))))) (aR (fS "order")) aX)
  (aA (dC (jq (dQ (bg (fA jz (ae (fA aT (fV 3 ai)) (fV 4 ai))))) (dQ (bg (fA iR (ae (fA au (fV 3 (ae (fS "stretch") ai))) (fV 4 ai)))))) (aR (fS "days")) aX)
  (aR (fA iQ (fV 3 (ae (f2 bC (aj 0) (aj 2)) ai))))))))
def gD:=aN pb 3 2
def pe:FS :=
  (aA (aS 3 (cf (c6 (fA cH (fV 0 (fV 1 ai)))) 1 [0,1] (dD 0) (bg (fA gd (fV 1 (fV 2 (fV 0 ai))))) (aj 0)))
  (aR (cf (c6 (aj 3)) 1 [2,0] (dD 0) (bg (f2 dm (fA au (ae (f2 bC (aj 2) (aj 0)) (ae (fS "person") ai))) (aj 1))) (aj 0))))
def iS:=aN pe 3 1
def lD:FS :=
  (aA (aS 3 (fA iS (fV 0 (fV 1 (ae (fA au (ae (f2 bC (aj 0) (aj 2)) (ae (fS "by") ai))) ai)))))
  (aR (cf (c6 (aj 3)) 1 [0,2] (dD 0) (bg (f2 zK (fA gD (fV 1 (fV 2 (fV 0 ai)))) (fC .non))) (fA aP (ae (fS "leave") (fV 0 ai))))))
def jg:=aN lD 3 1
def mR:FS :=
  (aA (aS 3 (fA au (ae (f2 bC (aj 0) (aj 2)) (ae (fS "of") ai))))
  (aA (dC (eG (bg (fA fm (fV 0 (fV 1 (fV 3 ai))))) (bg (fA ge (fV 0 (fV 3 (fV 2 ai)))))) (aR (fA bj (ae (fA aP (ae (fS "copy") (fV 3 ai))) ai))) aX)
  (aR (fA bj ai))))
def jM:=aN mR 3 1
def rj:FS :=
  (aA (dC (dQ (bg (fA dZ (fV 0 (fV 1 (fV 3 ai)))))) (aR (fA bj ai)) aX)
  (aA (dC (bg (f2 dm (fA aK (ae (f2 bC (aj 0) (aj 3)) ai)) (fS "copy"))) (aR (fA jM (fV 0 (fV 1 (fV 3 ai))))) aX)
  (aA (aS 4 (f2 cm (fA i6 (fV 0 (fV 1 (fV 2 (fV 3 ai))))) (fA jg (fV 0 (fV 1 (fV 3 ai))))))
  (aR (AE (aj 4) (q8 [] (fA aP (ae (f2 bC (aj 0) (f1 xX (fI 1))) (fV 0 ai)))))))))
def eu:=aN rj 4 1
def rm:FS :=
  (aA (aS 5 (f2 bC (aj 0) (aj 4)))
  (aA (aS 6 (fA au (ae (f2 bC (aj 0) (aj 3)) (ae (fS "by") ai))))
  (aA (dC (bg (f2 dm (aj 6) (fA au (fV 5 (ae (fS "by") ai))))) (aR (fC (.bl true))) aX)
  (aA (dC (bg (f2 dm (fA aK (fV 5 ai)) (fS "copy"))) (aR (fC (.bl false))) aX)
  (aA (aS 7 (cf (qL (fA fK (fV 0 (fV 1 ai)))) 1 [5] (dD 0) (bg (fA iz (ae (fA au (fV 0 (ae (fS "matters") ai))) (ae (fA au (fV 1 (ae (fS "matters") ai))) ai)))) (aj 0)))
  (aR (fA Fc (ae (cf (c6 (aj 7)) 1 [2,6,0,3] (dD 0) hU (fA cO (fV 1 (fV 0 (fV 2 (ae (fA aT (ae (f2 bC (aj 3) (aj 4)) ai)) ai)))))) ai))))))))
def lX:=aN rm 5 3
def rq:FS :=
  (aA (aS 6 (f2 bC (aj 0) (aj 3)))
  (aA (dC (jq (bg (f2 zI (fA aK (fV 6 ai)) (fS "call"))) (jq (bg (f2 zI (fA au (fV 6 (ae (fS "of") ai))) (aj 4))) (bg (f2 Aj (fA aT (fV 6 ai)) (aj 5))))) (aR (fC (.bl false))) aX)
  (aR (lr (fA du (fV 0 (fV 1 (fV 3 ai)))) (fA lX (fV 0 (fV 1 (fV 2 (fV 3 (fV 4 ai))))))))))
def jN:=aN rq 6 1
def rz:FS :=
  (aA (dC (dQ (bg (fA dZ (fV 0 (fV 1 (fV 3 ai)))))) (aR (fA bj ai)) aX)
  (aR (cf (c6 (fA cH (fV 0 (fV 1 ai)))) 1 [0,1,2,3,4] (dD 0) (bg (fA jN (fV 1 (fV 2 (fV 3 (fV 0 (fV 4 (fV 5 ai)))))))) (aj 0))))
def jO:=aN rz 5 0
def yN:FS :=
  (aA (dC (jq (dQ (bg (fA du (fV 0 (fV 1 (fV 3 ai)))))) (bg (f2 Aj (fA aT (ae (f2 bC (aj 0) (aj 3)) ai)) (aj 4)))) (aR (fC (.bl false))) aX)
  (aR (f2 dm (fA fR (ae (fA jO (fV 0 (fV 1 (fV 2 (fV 3 (fV 4 ai)))))) ai)) (fI 0))))
def mS:=aN yN 5 0
def yO:FS :=
  (dC (eG (bg (fA dZ (fV 0 (fV 1 (fV 5 ai))))) (bg (fA mS (fV 0 (fV 1 (fV 3 (fV 5 (fV 2 ai)))))))) (qN 4 (aj 5) (fA eu (fV 0 (fV 1 (fV 3 (fV 5 ai)))))) aX)
def BW:FS :=
  (aA (xF 3 (fA j3 (fV 0 (fV 1 ai))))
  (aA (BG 4)
  (aA (qe (c6 (fA dX (fV 0 (fV 1 ai)))) (dD 5) yO)
  (jr 4))))
def mT:=aN BW 3 3
def BX:FS :=
  (aR (MC (f2 dm (dO 0 0) (fS "office")) (f2 Ji (dO 0 1) (aj 1))))
def mU:=aN BX 2 0
def yP:FS :=
  (dC (bg (fA Fc (ae (cf (c6 (aj 3)) 1 [1] (dD 0) hU (fA mU (fV 0 (fV 1 ai)))) ai))) (yA 1 (aj 2) (fC (.bl true))) aX)
def BY:FS :=
  (aA (BG 1)
  (aA (qe (BK (aj 0)) (O6 [2,3]) yP)
  (jr 1)))
def mV:=aN BY 1 3
def r0:FS :=
  (aR (fA jy (ae (fA mV (ae (fA mT (fV 0 (fV 1 (fV 2 ai)))) ai)) ai)))
def lY:=aN r0 3 0
def BZ:FS :=
  (aR (fA jO (fV 0 (fV 1 (ae (fA j3 (fV 0 (fV 1 ai))) (fV 2 (fV 3 ai)))))))
def pT:=aN BZ 4 0
def jW:FS :=
  (aA (aS 3 (f2 bC (aj 0) (aj 2)))
  (aA (aS 4 (fA j3 (fV 0 (fV 1 ai))))
  (aA (aS 5 (fA fK (fV 0 (fV 1 ai))))
  (aA (aS 6 (f1 eS (cf (c6 (aj 4)) 1 [3] (dD 0) (bg (f2 dm (dO 0 1) (fA au (fV 1 (ae (fS "by") ai))))) (dO 0 0))))
  (aR (cf (c6 (aj 6)) 1 [4,3,5] (dD 0) hU (fA aP (ae (fS "office") (fV 0 (ae (fA cB (fV 1 (fV 2 (ae (f2 RS (aj 3) (aj 0)) ai)))) ai))))))))))
def eW:=aN jW 3 4
def lE:FS :=
  (aA (aS 3 (fA gD (fV 0 (fV 1 (fV 2 ai)))))
  (aR (fA aP (ae (fS "leave") (fV 2 (ae (Hx (bg (f2 zK (aj 3) (fC .non))) (fS "falls") (aj 3)) ai))))))
def dE:=aN lE 3 1
def kJ:FS :=
  (aA (aS 3 (fA iS (fV 0 (fV 1 (ae (fA au (ae (f2 bC (aj 0) (aj 2)) (ae (fS "by") ai))) ai)))))
  (aR (cf (c6 (aj 3)) 1 [0,2] (dD 0) hU (fA dE (fV 1 (fV 2 (fV 0 ai)))))))
def fL:=aN kJ 3 1
def Ca:FS :=
  (aR (fA eu (fV 0 (fV 1 (ae (fA j3 (fV 0 (fV 1 ai))) (fV 2 ai))))))
def mW:=aN Ca 3 0
def ng:FS :=
  (aA (aS 3 (Hx (bg (f2 dm (fA fR (ae (fA mW (fV 0 (fV 1 (fV 2 ai)))) ai)) (fI 0))) (fS "none") (fS "falls")))
  (aR (fA aP (ae (fS "copy") (ae (fA au (ae (f2 bC (aj 0) (aj 2)) (ae (fS "of") ai))) (fV 3 ai))))))
def jP:=aN ng 3 1
def lF:FS :=
  (aA (dC (bg (f2 dm (fA aK (ae (f2 bC (aj 0) (aj 2)) ai)) (fS "copy"))) (aR (fA bj (ae (fA jP (fV 0 (fV 1 (fV 2 ai)))) ai))) aX)
  (aA (aS 3 (f2 cm (fA eW (fV 0 (fV 1 (fV 2 ai)))) (fA fL (fV 0 (fV 1 (fV 2 ai))))))
  (aA (dC (bg (f2 dm (fA fR (fV 3 ai)) (fI 0))) (aR (fA bj (ae (fA aP (ae (fS "none") ai)) ai))) aX)
  (jr 3))))
def jh:=aN lF 3 1
def yQ:FS :=
  (aA (dC (bg (f2 Ji (aj 3) (fA mV (ae (fA mT (fV 0 (fV 1 (fV 2 ai)))) ai)))) (aR (fA bj ai)) aX)
  (aA (dC (bg (f2 Aj (fA aT (ae (f2 bC (aj 0) (aj 3)) ai)) (aj 2))) (aR (fA bj (ae (fA aP (ae (fS "early") ai)) ai))) aX)
  (aA (dC (dQ (bg (fA du (fV 0 (fV 1 (fV 3 ai)))))) (aR (fA bj (ae (fA aP (ae (fS "seal") ai)) ai))) aX)
  (aA (aS 4 (fA pT (fV 0 (fV 1 (fV 3 (fV 2 ai))))))
  (aA (dC (bg (f2 Aj (fA fR (fV 4 ai)) (fI 0))) (aR (fA bj (ae (fA aP (ae (fS "called") (ae (dO 4 0) ai))) ai))) aX)
  (aR (fA jh (fV 0 (fV 1 (fV 3 ai))))))))))
def ni:=aN yQ 4 1
def yR:FS :=
  (aA (aS 2 (fI 5))
  (aA (dC (bg (f2 Aj (fA fR (fV 0 ai)) (fI 0))) (aS 2 (f2 bC (aj 0) (f2 bQ (aj 1) (fA fR (fV 0 ai))))) aX)
  (aA (aS 2 (f2 bQ (f2 gp (f2 cm (f2 cm (f2 bQ (aj 2) (fI 2147483629)) (f2 gp (fI 6151) (aj 1))) (fI 1)) (fI 48271)) (fI 2147483647)))
  (aR (f2 bQ (f2 gp (aj 2) (f2 cm (f2 cm (f2 bQ (aj 2) (fI 65519)) (aj 1)) (fI 2))) (fI 2147483629))))))
def da:=aN yR 2 1
def lZ:FS :=
  (aA (aS 6 (fA iO (fV 2 ai)))
  (aA (Dn 6 (aj 3) (f2 bC (aj 1) (f2 bQ (f2 cm (f2 cS (aj 0) (fI 64)) (f2 gp (fI 3) (aj 5))) (fI 26))))
  (kh 4 (f2 oJ (fS "") (aj 6)))))
def uu:FS :=
  (aA (aS 1 (fS "abcdefghijklmnopqrstuvwxyz"))
  (aA (aS 2 (cf (ga (f2 cm (fI 1) (f2 bQ (aj 0) (fI 8)))) 1 [1,0] (dD 0) hU (f2 bC (aj 1) (f2 bQ (f2 cS (aj 2) (f2 cm (fI 3) (f2 gp (fI 4) (aj 0)))) (fI 26)))))
  (aA (aS 3 (f2 bQ (f2 cS (aj 0) (fI 8)) (fA fR (fV 2 ai))))
  (aA (aS 4 (fA bj ai))
  (aA (lz (ga (fI 7)) (dD 5) lZ)
  (aA (dC (bg (f2 dm (f2 bQ (f2 cS (aj 0) (fI 1000)) (fI 8)) (fI 1))) (Dn 4 (fI 5) (dO 4 0)) aX)
  (jr 4)))))))
def ou:=aN uu 1 6
def ph:FS :=
  (aA (aS 3 (fA bj (ae (fA aP (ae (fI 0) (ae (fC .non) ai))) (ae (fA aP (fV 1 (ae (fC .non) ai))) (ae (fA aP (fV 1 (ae (f2 cm (aj 1) (f2 gp (fI 3) (aj 2))) ai))) (ae (fA aP (ae (fI 0) (ae (f2 cm (aj 1) (f2 gp (fI 2) (aj 2))) ai))) (ae (fA aP (ae (fI 0) (ae (f2 gp (fI 9) (aj 2)) ai))) ai)))))))
  (aA (aS 3 (f2 cm (aj 3) (fA bj (ae (fA aP (ae (f2 cm (aj 1) (aj 2)) (ae (f2 cm (aj 1) (f2 gp (fI 4) (aj 2))) ai))) (ae (fA aP (ae (f2 cS (aj 1) (fI 2)) (ae (f2 cm (aj 1) (f2 gp (fI 6) (aj 2))) ai))) (ae (fA aP (ae (fI 0) (ae (fC .non) ai))) ai))))))
  (aR (f2 bC (aj 3) (f2 bQ (aj 0) (fI 8))))))
def gE:=aN ph 3 1
def yS:FS :=
  (aA (aS 7 (f2 cm (f2 cm (f2 cm (yB (fA bj (ae (fS "leave") ai)) (fI 4)) (yB (fA bj (ae (fS "paper") ai)) (fI 2))) (fA bj (ae (fS "like") (ae (fS "copy") (ae (fS "copy") ai))))) (yB (fA bj (ae (fS "call") ai)) (fI 4))))
  (aA (aS 7 (f2 cm (aj 7) (fA bj (ae (fS "lost") (ae (fS "lost") (ae (fS "lost") (ae (fS "found") (ae (fS "death") ai))))))))
  (aA (aS 8 (f2 bC (aj 7) (f2 bQ (aj 1) (fI 18))))
  (aA (aS 9 (f2 bC (aj 5) (f2 Ai (f1 xX (fI 1)) (f2 bQ (f2 cS (aj 1) (fI 18)) (fA IM (ae (fI 3) (ae (fA fR (fV 5 ai)) ai)))))))
  (aA (dC (bg (f2 dm (f2 bQ (f2 cS (aj 1) (fI 54)) (fI 6)) (fI 1))) (aS 9 (f2 bC (aj 3) (f2 bQ (f2 cS (aj 1) (fI 324)) (fI 5)))) aX)
  (aA (aS 10 (f2 bC (aj 3) (f2 bQ (f2 cS (aj 1) (fI 1620)) (fI 5))))
  (aA (aS 11 (fA IL (ae (fI 0) (ae (f2 Ai (f2 Ai (aj 0) (fI 1)) (f2 bQ (aj 2) (fI 4))) ai))))
  (aA (dC (bg (f2 dm (f2 bQ (f2 cS (aj 2) (fI 4)) (fI 8)) (fI 1))) (aS 11 (f2 bQ (f2 cS (aj 2) (fI 32)) (fI 60))) aX)
  (aA (dC (bg (f2 dm (aj 8) (fS "leave"))) (aA (aS 12 (f2 bC (fA bj (ae (fI 3) (ae (fI 1) (ae (fI 7) (ae (fI 2) (ae (fI 255) (ae (fI 5) (ae (fI 1) (ae (fI 3) ai))))))))) (f2 bQ (f2 cS (aj 1) (fI 8100)) (fI 8))))
  (aA (aS 13 (f2 bQ (f2 cS (aj 2) (fI 256)) (f2 bC (fA bj (ae (fI 5) (ae (fI 5) (ae (fI 5) (ae (fI 10) ai))))) (f2 bQ (f2 cS (aj 2) (fI 2560)) (fI 4)))))
  (aR (fA aP (fV 8 (fV 4 (fV 9 (fV 10 (fV 12 (ae (fA gE (ae (f2 cS (aj 2) (fI 32)) (fV 4 (fV 6 ai)))) (fV 13 ai))))))))))) aX)
  (aA (dC (jq (bg (f2 dm (aj 8) (fS "paper"))) (bg (f2 dm (aj 8) (fS "like")))) (aA (aS 12 (f2 bC (fA bj (ae (fI 1) (ae (fI 1) (ae (fI 3) (ae (fI 2) (ae (fI 4) (ae (fI 5) (ae (fI 128) (ae (fI 7) ai))))))))) (f2 bQ (f2 cS (aj 1) (fI 8100)) (fI 8))))
  (aA (aS 14 (fA aP (fV 8 (fV 4 (fV 9 (fV 12 (ae (fA gE (ae (f2 cS (aj 2) (fI 32)) (fV 4 (fV 6 ai)))) (ae (f2 bC (fA bj (ae (fC .non) (fV 10 ai))) (f2 bQ (f2 cS (aj 2) (fI 256)) (fI 2))) ai))))))))
  (aA (dC (bg (f2 dm (aj 8) (fS "like"))) (aR (f2 BD (aj 14) (fA aP (fV 11 (ae (fA aP (ae (fA aP (ae (fI 0) (fV 10 ai))) ai)) ai))))) aX)
  (aR (f2 BD (aj 14) (fA aP (ae (fA aP (fV 10 ai)) ai))))))) aX)
  (aA (dC (bg (f2 wl (aj 8) (fA aP (ae (fS "copy") (ae (fS "call") ai))))) (aR (fA aP (fV 8 (fV 4 (fV 9 (fV 11 ai)))))) aX)
  (aA (dC (bg (f2 dm (aj 8) (fS "named"))) (aR (fA aP (fV 8 (fV 4 (ae (f2 bC (aj 3) (f2 cm (fI 5) (f2 bQ (aj 2) (fI 2)))) (fV 10 ai)))))) aX)
  (aA (dC (bg (f2 dm (aj 8) (fS "chosen"))) (aR (fA aP (fV 8 (fV 4 (fV 9 (ae (f2 bC (aj 3) (f2 cm (fI 5) (f2 bQ (aj 2) (fI 2)))) (fV 10 (ae (f2 cm (aj 4) (f2 gp (f2 bQ (f2 cS (aj 2) (fI 32)) (fI 3)) (aj 6))) ai)))))))) aX)
  (aA (dC (bg (f2 dm (aj 8) (fS "heir"))) (aR (fA aP (fV 8 (fV 4 (fV 9 (ae (f2 bC (aj 3) (f2 cm (fI 5) (f2 bQ (aj 2) (fI 2)))) (fV 10 ai))))))) aX)
  (aR (fA aP (fV 8 (fV 4 (fV 9 ai)))))))))))))))))))
def r6:=aN yS 7 8
def oy:FS :=
  (aA (aS 8 (f2 bC (fA bj (ae (fS "open") (ae (fS "first") (ae (fS "last") ai)))) (f2 bQ (f2 cS (aj 4) (f2 cm (fI 64) (f2 gp (fI 9) (aj 7)))) (fI 3))))
  (aA (aS 9 (f2 bC (fA bj (ae (fI 7) (ae (fI 255) (ae (fI 3) (ae (fI 15) ai))))) (f2 bQ (f2 cS (aj 4) (f2 cm (fI 2) (f2 gp (fI 8) (aj 7)))) (fI 4))))
  (aA (aS 10 (f2 gp (f2 gp (fA Ax (ae (f2 dm (f2 bQ (f2 cS (aj 4) (f2 cm (fI 512) (aj 7))) (fI 8)) (fI 1)) ai)) (fI 4)) (aj 2)))
  (aA (aS 11 (f2 bQ (f2 cS (aj 4) (f2 cm (fI 1024) (f2 gp (fI 5) (aj 7)))) (f2 bC (fA bj (ae (fI 5) (ae (fI 5) (ae (fI 10) ai)))) (f2 bQ (f2 cS (aj 4) (f2 cm (fI 31) (aj 7))) (fI 3)))))
  (aA (kh 5 (fA aP (fV 10 (ae (fA aP (ae (fS "root") (ae (f2 bC (aj 1) (f2 cm (fI 5) (aj 7))) (fV 9 (fV 11 (fV 8 ai)))))) ai))))
  (aA (kh 5 (fA aP (ae (fI 0) (ae (fA aP (ae (fS "named") (ae (fI 0) (ae (f2 bC (aj 1) (f2 cm (fI 5) (aj 7))) (ae (f2 bC (aj 1) (aj 7)) ai))))) ai))))
  (kh 6 (f2 bC (aj 1) (aj 7)))))))))
def oz:FS :=
  (aA (aS 12 (fA da (fV 0 (ae (f2 cm (fI 5) (aj 7)) ai))))
  (aA (aS 13 (f2 gp (f2 cm (f2 cS (aj 7) (fI 2)) (f2 bQ (f2 cS (aj 12) (fI 7)) (fI 3))) (aj 2)))
  (aA (aS 14 (fA r6 (ae (fA fR (fV 5 ai)) (ae (fA da (fV 0 (ae (f2 cm (fI 30) (aj 7)) ai))) (ae (fA da (fV 0 (ae (f2 cm (fI 60) (aj 7)) ai))) (fV 1 (fV 13 (fV 6 (fV 2 ai)))))))))
  (aA (dC (bg (f2 wl (dO 14 0) (fA aP (ae (fS "leave") (ae (fS "named") ai))))) (kh 6 (dO 14 3)) aX)
  (aA (dC (bg (f2 dm (dO 14 0) (fS "chosen"))) (kh 6 (dO 14 4)) aX)
  (kh 5 (fA aP (ae (f2 cm (aj 13) (f2 gp (f2 bC (fA bj (ae (fI 0) (ae (fI 0) (ae (fI 0) (ae (fI 0) (ae (fI 1) (ae (fI 4) ai))))))) (f2 bQ (f2 cS (aj 12) (fI 21)) (fI 6))) (aj 2))) (fV 14 ai)))))))))
def yT:FS :=
  (aA (aS 4 (fA da (fV 0 (ae (fI 1) ai))))
  (aA (aS 5 (fA bj ai))
  (aA (aS 6 (fA bj ai))
  (aA (lz (ga (f2 cm (fI 1) (f2 bQ (aj 4) (fI 2)))) (dD 7) oy)
  (aA (lz (ga (f2 cm (fI 3) (f2 bQ (fA da (fV 0 (ae (fI 2) ai))) (aj 3)))) (dD 7) oz)
  (aR (fA g7 (fV 5 ai))))))))
def r9:=aN yT 4 11
def Cb:FS :=
  (aA (dC (bg (f2 wl (aj 3) (aj 4))) (aR (fA bj ai)) aX)
  (aA (dC (bg (f2 Aj (f2 bC (f2 bC (f2 bC (aj 0) (aj 3)) (fI 1)) (fI 1)) (aj 2))) (aR (fA bj (ae (fA aP (ae (fS "early") ai)) ai))) aX)
  (aA (dC (dQ (bg (fA du (fV 0 (fV 1 (fV 3 ai)))))) (aR (fA bj (ae (fA aP (ae (fS "seal") ai)) ai))) aX)
  (aA (aS 5 (fA pT (fV 0 (fV 1 (fV 3 (fV 2 ai))))))
  (aA (dC (bg (f2 zI (aj 5) (fA bj ai))) (aR (fA bj (ae (fA aP (ae (fS "called") (ae (fA FZ (fV 5 ai)) ai))) ai))) aX)
  (aR (fC .non)))))))
def nj:=aN Cb 5 1
def rA:FS :=
  (dC (jq (dQ (bg (fA gu (fV 1 (ae (fC (.ty "tuple")) ai))))) (bg (f2 fY (dO 1 0) (fA aP (ae (fS "office") (ae (fS "leave") (ae (fS "copy") (ae (fS "none") ai)))))))) (aR (fC (.bl false))) aX)
def uw:FS :=
  (aA (dC (bg (f2 dm (aj 0) (fA bj ai))) (aR (fC (.bl false))) aX)
  (aA (qe (c6 (aj 0)) (dD 1) rA)
  (aR (fC (.bl true)))))
def la:=aN uw 1 1
def AH:FS :=
  (aA (aS 11 (fA ni (fV 5 (fV 4 (fV 6 (fV 8 ai))))))
  (aA (dC (jq (dQ (bg (fA gu (fV 11 (ae (fC (.ty "list")) ai))))) (eG (bg (f2 jG (aj 9) (fC .non))) (bg (f2 zI (aj 11) (aj 9))))) (aR (fC (.bl false))) aX)
  (aA (dC (eG (bg (f2 zK (aj 9) (fC .non))) (dQ (bg (fA la (fV 11 ai))))) (aR (fC (.bl false))) aX)
  (kh 11 (fA aP (ae (fS "early") ai))))))
def Gc:FS :=
  (dC (eG (bg (f2 zJ (f2 bC (f2 bC (aj 3) (aj 8)) (fI 0)) (aj 4))) (bg (f2 wl (f2 bC (f2 bC (f2 bC (aj 3) (aj 8)) (fI 1)) (fI 0)) (fA aP (ae (fS "leave") (ae (fS "paper") (ae (fS "like") (ae (fS "copy") ai)))))))) (aA (aS 9 (fA nj (fV 3 (fV 4 (fV 6 (fV 8 (fV 7 ai)))))))
  (lz (ga (fI 2)) (dD 10) AH)) aX)
def Lp:FS :=
  (aA (aS 1 (fA ou (ae (fA da (fV 0 (ae (fI 0) ai))) ai)))
  (aA (aS 2 (f2 bC (fA bj (ae (fI 1) (ae (fI 1) (ae (fI 500) ai)))) (f2 bQ (fA da (fV 0 (ae (fI 3) ai))) (fI 3))))
  (aA (aS 3 (fA r9 (fV 0 (fV 1 (fV 2 (ae (fI 14) ai))))))
  (aA (aS 4 (f2 bC (fA bj (ae (fI 9999) (ae (f2 gp (f2 bQ (f2 cS (fA da (fV 0 (ae (fI 3) ai))) (fI 3)) (fI 13)) (aj 2)) ai))) (f2 cS (f2 bQ (fA da (fV 0 (ae (fI 4) ai))) (fI 3)) (fI 2))))
  (aA (aS 5 (fA g7 (ae (fA iO (fV 3 ai)) ai)))
  (aA (aS 6 (f2 bC (fA bj (ae (fI 9999) (ae (f2 gp (f2 bQ (f2 cS (fA da (fV 0 (ae (fI 90) ai))) (fI 2)) (fI 13)) (aj 2)) ai))) (f2 bQ (fA da (fV 0 (ae (fI 90) ai))) (fI 2))))
  (aA (aS 7 (fA lY (fV 3 (fV 4 (fV 6 ai)))))
  (aA (lz (ga (fA fR (fV 3 ai))) (dD 8) Gc)
  (aR (f2 dm (aj 5) (aj 3)))))))))))
def F_law:=aN Lp 1 11
end Lw
namespace DL
open PySem L2
theorem i7:∀(n m:Nat)(d:D),n<=m->aq n d=true->aq m d=true
 |n,m,.non,_,_=>by simp
 |n,m,.bl _,_,_=>by simp
 |n,m,.int _,_,_=>by simp
 |n,m,.str _,_,_=>by simp
 |n,m,.ty _,_,h=>by cases n<;>simp[aq]at h
 |n,m,.dk _ _,_,h=>by simp at h
 |n,m,.dt _ _,_,h=>by simp at h
 |0,m,.tup _,_,h=>by simp[aq]at h
 |0,m,.lst _,_,h=>by simp[aq]at h
 |n+1,0,_,h,_=>by omega
 |n+1,m+1,.tup ds,hl,h=>by
  simp only[aq,List.all_eq_true]at h ⊢;exact λd hd=>i7 n m d (by omega) (h d hd)
 |n+1,m+1,.lst ds,hl,h=>by
  simp only[aq,List.all_eq_true]at h ⊢;exact λd hd=>i7 n m d (by omega) (h d hd)
theorem o0:∀(ds:List D),(∀d∈ds,bG d d=true)->dj ds ds=true
 |[],_=>by simp only[dj]
 |d::ds,h=>by
  simp only[dj,h d mX,Bool.true_and];exact o0 ds λe he=>h e (mZ _ he)
theorem nn:∀(n:Nat)(d:D),aq n d=true->bG d d=true
 |n,.non,_=>by simp
 |n,.bl _,_=>by simp
 |n,.int _,_=>by simp
 |n,.str _,_=>by simp
 |n,.ty _,h=>by cases n<;>simp[aq]at h
 |n,.dk _ _,h=>by simp at h
 |n,.dt _ _,h=>by simp at h
 |0,.tup _,h=>by simp[aq]at h
 |0,.lst _,h=>by simp[aq]at h
 |n+1,.tup ds,h=>by
  simp only[aq,List.all_eq_true]at h;simp only[bG];exact o0 ds λd hd=>nn n d (h d hd)
 |n+1,.lst ds,h=>by
  simp only[aq,List.all_eq_true]at h;simp only[bG];exact o0 ds λd hd=>nn n d (h d hd)
theorem Gd {d:D}(h:aq 40 d=true):dm d d=some (.bl true,false):=by unfold dm;rw[if_pos ⟨h,h⟩,nn 40 d h]
end DL
namespace DL
@[simp] noncomputable abbrev sF (d:D):Option (D×Bool):=some (d,false)
@[simp] abbrev lT (ds:List D):Option (D×Bool):=some (.lst ds,true)
end DL
namespace Lw
open PySem DL L2
theorem D6 (d:D)(r:List D):oE (d::r) 0=some d:=by have:=kE (xs:=d::r) (j:=0) (by simp);simpa using this
theorem Ei (d e:D)(r:List D):oE (d::e::r) 1=some e:=by have:=kE (xs:=d::e::r) (j:=1) (by simp);simpa using this
theorem Vz (d e f:D)(r:List D):oE (d::e::f::r) 2=some f:=by have:=kE (xs:=d::e::f::r) (j:=2) (by simp);simpa using this
noncomputable def cU (k:Str):Bool:=decide (k = "death") || decide (k = "lost") || decide (k = "found")
noncomputable def eA (k:Str):Bool:=decide (k = "chosen") || decide (k = "heir") || decide (k = "leave") || decide (k = "paper") || decide (k = "like") || decide (k = "copy") || decide (k = "call")
structure DeedP (kind:Str)(aD:List D):Prop where
 flat:b8 aD=true
 plain:aD.all (aq 5)=true
 three:cU kind=true->∃(day:Int)(p:Str),aD=[.int day,.str p]
 slg:eA kind=true->∃(day:Int)(p:Str)(r:List D),aD=.int day::.str p::r
noncomputable def row (h:Int)(kind:Str)(aD:List D):D:=.tup [.int h,.tup (.str kind::aD)]
def np (r:D):Prop:=∃h kind aD,r=row h kind aD/\DeedP kind aD
theorem np.flat (h:np r):bu r=true:=by obtain⟨a,k,aD,rfl,dp⟩:=h;simp[row,dp.flat]
theorem np.plain (h:np r):aq 39 r=true:=by
 obtain⟨a,k,aD,rfl,dp⟩:=h;refine i7 7 39 _ (by decide) ?_;have:=dp.plain;simp only[row,aq,List.all_cons,List.all_nil,Bool.and_true,Bool.true_and];exact this
theorem bI (h:∀d∈ds,bu d=true):b8 ds=true:=by
 induction ds with
 |nil=>rfl
 |cons d r ih=>simp[h d (by simp),ih λe he=>h e (by simp[he])]
theorem di (zs:List Str):b8 (zs.map D.str)=true:=by
 induction zs with
 |nil=>rfl
 |cons a l ih=>simp[ih]
theorem Ju (h:∀r∈ab,np r):dm (.tup ab) (.tup ab)=sF (.bl true):=by
 refine Gd ?_;simp only[aq,List.all_eq_true];exact λr hr=>(h r hr).plain
noncomputable def br:D->Int
 |.tup (.int h::_)=>h
 |_=>0
noncomputable def kindOf:D->Str
 |.tup [_,.tup (.str k::_)]=>k
 |_=>("" : Str)
noncomputable def aG:D->Int
 |.tup [_,.tup (_::.int d::_)]=>d
 |_=>0
noncomputable def ux (p:Str)(day:Int):List D->Bool
 |[.int d,.str q]=>decide (q=p) && decide (d<=day)
 |_=>false
def told (ws:List Str)(p:Str)(day:Int):D->Bool
 |.tup [_,.tup (.str kind::aD)]=>decide (kind∈ws) && ux p day aD
 |_=>false
theorem iT (h:Int)(kind:Str)(aD:List D):aK [row h kind aD]=sF (.str kind):=av rfl (ay (by simp[row,Ei,D6]))
theorem kK (h:cU k=true):k = "death" ∨ k = "lost" ∨ k = "found":=by
 unfold cU at h;simp only[Bool.or_eq_true,decide_eq_true_eq]at h;rcases h with (h|h)|h
 ·exact .inl h
 ·exact .inr (.inl h)
 ·exact .inr (.inr h)
theorem ma (h:eA k=true):k = "chosen" ∨ k = "heir" ∨ k = "leave" ∨ k = "paper" ∨ k = "like" ∨ k = "copy" ∨ k = "call":=by
 unfold eA at h;simp only[Bool.or_eq_true,decide_eq_true_eq]at h;rcases h with (((((h|h)|h)|h)|h)|h)|h
 ·exact .inl h
 ·exact .inr (.inl h)
 ·exact .inr (.inr (.inl h))
 ·exact .inr (.inr (.inr (.inl h)))
 ·exact .inr (.inr (.inr (.inr (.inl h))))
 ·exact .inr (.inr (.inr (.inr (.inr (.inl h)))))
 ·exact .inr (.inr (.inr (.inr (.inr (.inr h)))))
theorem Jv (h:cU k=true∨eA k=true):pA gO (.str k) (.str "day")=sF (.int 0):=by
 rcases h with h|h
 ·rcases kK h with rfl|rfl|rfl<;>exact bp (by decide +kernel)
 ·rcases ma h with rfl|rfl|rfl|rfl|rfl|rfl|rfl<;>exact bp (by decide +kernel)
theorem AI (h:cU k=true):pA gO (.str k) (.str "person")=sF (.int 1):=by
 rcases kK h with rfl|rfl|rfl<;>exact bp (by decide +kernel)
theorem Ge (h:cU k=true∨eA k=true):dm (.str k) (.str "root")=sF (.bl false):=by
 rcases h with h|h
 ·rcases kK h with rfl|rfl|rfl<;>exact bp (by decide +kernel)
 ·rcases ma h with rfl|rfl|rfl|rfl|rfl|rfl|rfl<;>exact bp (by decide +kernel)
theorem bv {h:Int}{k:Str}{aD:List D}{part:Str}{i:Nat}{d:D}(hi:pA gO (.str k) (.str part)=sF (.int i))(hd:aD[i]? = some d):au [row h k aD,.str part]=some (d,false):=by
 refine av rfl (ay ?_);refine b7 (.tup (.str k::aD)) (.int (1+i)) (by simp[row,Ei]) (b7 (.int 1) (.int i) rfl (b7 (.str k) (.str part) (aI [row h k aD] rfl (iT _ _ _)) rfl hi) (by simp)) ?_;have fT:i<aD.length:=(vV hd).1;have:oE (.str k::aD) (1+(i:Int))=some d:=by
  have:=kE (xs:=(.str k:D)::aD) (j:=i+1) (by simp;omega);rw[show(1+(i:Int))=((i+1:Nat):Int) by omega,this];simp only[List.getElem_cons_succ];rw[vU fT]at hd;exact hd
 simp[this]
theorem j4 {h:Int}{k:Str}{aD:List D}{d:Int}{r:List D}(hk:cU k=true∨eA k=true)(hr:aD=.int d::r):aT [row h k aD]=sF (.int d):=by
 subst hr;refine av rfl (aB (cA (b7 (.str k) (.str "root") (aI [row h k (.int d::r)] rfl (iT _ _ _)) rfl (Ge hk))) (ay (aI [row h k (.int d::r),.str "day"] rfl (bv (i:=0) (Jv hk) rfl))))
theorem rB (k:Str)(ws:List Str):Hy (.str k) (ws.map .str)=decide (k∈ws):=by
 induction ws with
 |nil=>simp[Hy]
 |cons w ws ih=>
  have:Hy (.str k) ((w::ws).map .str)=(bG (.str w) (.str k) || Hy (.str k) (ws.map .str)):=rfl;rw[this,ih,oG];by_cases e:w=k
  ·simp[e]
  ·have e':¬k=w:=λz=>e z.symm;simp[e,e']
theorem o3 (ws:List Str):(ws.map D.str).all gs=true:=by
 induction ws with
 |nil=>rfl
 |cons w ws ih=>simp[gs]
theorem gF (k:Str)(ws:List Str):wl (.str k) (.tup (ws.map .str))=sF (.bl (decide (k∈ws))):=by
 simp only[wl,gt,vJ,rB];rw[if_pos ⟨rfl,o3 ws⟩]
theorem Gf (hr:np r)(ws:List Str)(hw:∀w∈ws,cU w=true)(p:Str)(day:Int):pQ [r,.tup (ws.map .str),.str p,.int day]=sF (.bl (told ws p day r)):=by
 obtain⟨h,kind,aD,rfl,dp⟩:=hr;have Kq:f2 wl (fA aK (fV 0 ai)) (aj 1) [some (row h kind aD,false),sF (.tup (ws.map .str)),sF (.str p),sF (.int day)]=sF (.bl (decide (kind∈ws))) :=
  b7 (.str kind) (.tup (ws.map .str)) (aI [row h kind aD] rfl (iT _ _ _)) rfl (gF kind ws)
 have ht:told ws p day (row h kind aD)=(decide (kind∈ws) && ux p day aD):=rfl;rw[ht];refine av rfl (ay (dW (b1:=false) Kq λhk=>?_));have h3:=hw kind (of_decide_eq_true hk);obtain⟨d,q,rfl⟩:=dp.three h3;show lr _ _ _=sF (.bl (decide (q=p) && decide (d<=day)));refine dW (b1:=false) ?_ λ_=>?_
 ·exact b7 (.str q) (.str p) (aI [row h kind [.int d,.str q],.str "person"] rfl (bv (i:=1) (AI h3) rfl)) rfl (by simp)
 ·exact b7 (.int d) (.int day) (aI [row h kind [.int d,.str q]] rfl (j4 (.inl h3) rfl)) rfl (by simp)
theorem Gg (ds:List D):tN ds=ds.zipIdx.map λx=>.tup [.int x.2,x.1]:=by
 unfold tN;apply List.ext_getElem?;intro i;simp[List.getElem?_mapIdx,List.getElem?_zipIdx];cases ds[i]?<;>simp
noncomputable def am (ab:List D)(aa:Int):List (D×Nat):=ab.zipIdx.filter λx=>decide (br x.1<=aa)
theorem kL (ab:List D)(hr:∀r∈ab,np r)(hl:ab.length<=1000)(aa:Int):cH [.tup ab,.int aa]=lT ((am ab aa).map λx=>.int x.2):=by
 have hc:=ir (fi:=Fl (aj 0)) (nT:=2) (cap:=[1]) (tg:=O6 [0,1]) (c:=bg (f2 zJ (dO 1 0) (aj 2))) (fe:=aj 0) (ρ:=[sF (.tup ab),sF (.int aa)]) ab.zipIdx (λx=>.tup [.int x.2,x.1]) (λx=>decide (br x.1<=aa)) (λx=>.int x.2)
  (by simp[Gg]) (by simp;omega) λx hx=>by
   obtain⟨h,kind,aD,e,_⟩:=hr x.1 (List.fst_mem_of_mem_zipIdx hx);refine⟨_,rfl,cA ?_,λ_=>⟨false,by simp[cF]⟩⟩;simp[cF,e,row,D6,br]
 exact av rfl (ay hc)
def pB (ab:List D)(aa:Int)(ws:List Str)(p:Str)(day:Int):List (D×Nat):=(am ab aa).filter λx=>told ws p day x.1
theorem Cc (h:x∈pB ab aa ws p day):ab[x.2]? = some x.1/\told ws p day x.1=true:=by
 obtain⟨h1,h2⟩:=vN h;exact⟨(List.mk_mem_zipIdx_iff_getElem? (x:=x.1) (i:=x.2)).mp (vN h1).1,h2⟩
theorem cn {ab:List D}{i:Nat}{r:D}(h:ab[i]? = some r):oE ab (i:Int)=some r:=by
 obtain⟨fT,e⟩:=vV h;rw[kE fT,e]
theorem Jw (ab:List D)(aa:Int)(ws:List Str)(p:Str)(day:Int):(pB ab aa ws p day).length<=ab.length:=by
 have h1:=vM (λx:D×Nat=>told ws p day x.1) (am ab aa);have h2:=vM (λx:D×Nat=>decide (br x.1<=aa)) ab.zipIdx;rw[List.length_zipIdx]at h2;exact vR h1 h2
theorem wI (ab:List D)(hr:∀r∈ab,np r)(hl:ab.length<=1000)(aa:Int)(ws:List Str)(hw:∀w∈ws,cU w=true)(p:Str)(day:Int):
  gV [.tup ab,.int aa,.tup (ws.map .str),.str p,.int day]=lT ((pB ab aa ws p day).map λx=>.int x.2):=by
 have hc:=ir (fi:=c6 (fA cH (fV 0 (fV 1 ai)))) (nT:=1) (cap:=[2,3,4,0]) (tg:=dD 0) (c:=bg (fA pQ (ae (f2 bC (aj 4) (aj 0)) (fV 1 (fV 2 (fV 3 ai)))))) (fe:=aj 0)
  (ρ:=[sF (.tup ab),sF (.int aa),sF (.tup (ws.map .str)),sF (.str p),sF (.int day)]) (am ab aa) (λx=>.int x.2) (λx=>told ws p day x.1) (λx=>.int x.2)
  (by
   show(fA cH (fV 0 (fV 1 ai)) _).bind _=_;rw[aI [.tup ab,.int aa] rfl (kL ab hr hl aa)];rfl) (by have:=vM (λx:D×Nat=>decide (br x.1<=aa)) ab.zipIdx;rw[List.length_zipIdx]at this;exact vR this (by omega)) λx hx=>by
   have hg:ab[x.2]? = some x.1:=(List.mk_mem_zipIdx_iff_getElem? (x:=x.1) (i:=x.2)).mp (vN hx).1;refine⟨_,rfl,cA (aI [x.1,.tup (ws.map .str),.str p,.int day] ?_ (Gf (hr _ (vL hg)) ws hw p day)),λ_=>⟨false,by simp[cF]⟩⟩;have ha:=cn hg;simp[cF,ha]
 exact av rfl (ay hc)
def kA (x:D×Nat):List At:=[.i (aG x.1),.i x.2]
def fU (a b:D×Nat):Bool:=decide (aG a.1<aG b.1∨(aG a.1=aG b.1/\(a.2:Int)<b.2))
def gI:D×Nat->List (D×Nat)->D×Nat
 |b,[]=>b
 |b,x::r=>if fU b x=true then gI x r else gI b r
def Lq:List (D×Nat)->Option (D×Nat)
 |[]=>none
 |x::r=>some (gI x r)
theorem N6 (a b c d:Int):bc [.i a,.i b] [.i c,.i d]=some (decide (a<c∨(a=c/\b<d))):=by
 rw[bc];by_cases h:a=c
 ·rw[if_pos h,bc];by_cases h2:b=d
  ·rw[if_pos h2,bc];simp[h,h2]
  ·rw[if_neg h2];simp[h]
 ·rw[if_neg h];simp[h]
theorem AJ (a b:D×Nat):bc (kA a) (kA b)=some (fU a b):=N6 _ _ _ _
theorem wJ (l:List (D×Nat)):eJ (l.map kA)=true:=by
 unfold eJ;simp[List.all_eq_true,AJ]
theorem o4:∀(r:List (D×Nat))(b:D×Nat),mH (kA b,.int b.2) (r.map λx=>(kA x,D.int x.2))=.int (gI b r).2
 |[],b=>rfl
 |x::r,b=>by
  rw[uY,mH,gI];show(if bc (kA b) (kA x)=some true then _ else _)=_;rw[AJ];by_cases h:fU b x=true
  ·rw[if_pos h,if_pos (by rw[h])];exact o4 r x
  ·rw[if_neg h,if_neg (by simpa using h)];exact o4 r b
theorem rC:∀(r:List (D×Nat))(b:D×Nat),gI b r∈b::r
 |[],b=>by simp[gI]
 |x::r,b=>by
  rw[gI];split
  ·exact mZ _ (rC r x)
  ·rcases vP (rC r b)with h|h
   ·rw[h];exact mX
   ·exact mZ _ (mZ _ h)
theorem iA {α:Type}{f:D->Option D}{g h:α->D}:∀(l:List α),(∀x∈l,f (g x)=some (h x))->jK f (l.map g)=some (l.map h)
 |[],_=>rfl
 |x::l,hx=>by
  rw[uY,jK,hx x mX,vJ,iA l λy hy=>hx y (mZ _ hy)];rfl
theorem gW {α:Type}{g:α->D}{h:α->List At}:∀(l:List α),(∀x∈l,yy (g x)=some (h x))->dU (l.map g)=some (l.map h)
 |[],_=>rfl
 |x::l,hx=>by
  rw[uY,dU,hx x mX,vJ,gW l λy hy=>hx y (mZ _ hy)];rfl
noncomputable def nq:List Str:=[("lost" : Str),"found"]
theorem pi:∀w∈nq,cU w=true:=by
 intro w hw;rcases vP hw with rfl|hw
 ·decide +kernel
 ·rcases vP hw with rfl|hw
  ·decide +kernel
  ·cases hw
def yU (ab:List D)(aa:Int)(p:Str)(day:Int):Bool:=match Lq (pB ab aa nq p day) with
 |none=>true
 |some b=>decide (kindOf b.1 = "found")
theorem rE (hw:∀w∈ws,cU w=true)(hr:np r)(ht:told ws p day r=true):∃h k d,r=row h k [.int d,.str p]/\cU k=true/\k∈ws/\d<=day:=by
 obtain⟨h,kind,aD,rfl,dp⟩:=hr;have QU:(decide (kind∈ws) && ux p day aD)=true:=ht;rw[vC]at QU;have hm:=of_decide_eq_true QU.1;obtain⟨d,q,rfl⟩:=dp.three (hw _ hm);have hq:(decide (q=p) && decide (d<=day))=true:=QU.2;rw[vC]at hq;have:=of_decide_eq_true hq.1;subst this;exact⟨h,kind,d,rfl,hw _ hm,hm,of_decide_eq_true hq.2⟩
theorem Ce {ab:List D}{i:Nat}{h d:Int}{k p:Str}(hg:ab[i]? = some (row h k [.int d,.str p]))(h3:cU k=true):fj [.tup ab,.int i]=sF (.tup [.int d,.int i]):=by
 have ha:=cn hg;refine av rfl (ay (aI [.int d,.int i] (aF (d:=.int d) (b:=false) (aI [row h k [.int d,.str p]] (by simp[ha]) (j4 (.inl h3) rfl)) rfl) (by simp[sizeLine])))
theorem Jx (ab:List D)(hr:∀r∈ab,np r)(hl:ab.length<=1000)(aa:Int)(p:Str)(day:Int):lV [.tup ab,.int aa,.str p,.int day]=sF (.bl (yU ab aa p day)):=by
 have ht:=wI ab hr hl aa nq pi p day;have YX:=Jw ab aa nq p day;have key:∀x∈pB ab aa nq p day,∃h k d,ab[x.2]? = some (row h k [.int d,.str p])/\x.1=row h k [.int d,.str p]/\cU k=true:=λx hx=>by
  obtain⟨hg,UI⟩:=Cc hx;obtain⟨h,k,d,e,h3,_⟩:=rE pi (hr _ (vL hg)) UI;exact⟨h,k,d,by rw[hg,e],e,h3⟩
 unfold yU;generalize hsel:pB ab aa nq p day=sel at ht key YX ⊢;have Ku:fA gV (fV 0 (fV 1 (ae (fA aP (ae (fS "lost") (ae (fS "found") ai))) (fV 2 (fV 3 ai))))) [sF (.tup ab),sF (.int aa),sF (.str p),sF (.int day),none]=lT (sel.map λx=>.int x.2) :=
  aI [.tup ab,.int aa,.tup (nq.map .str),.str p,.int day] (by simp[nq,sizeLine]) ht
 have Sw:b8 (sel.map λx=>D.int x.2)=true:=bI λd hd=>by obtain⟨x,_,rfl⟩:=vO hd;rfl
 cases sel with
 |nil=>exact av rfl (bX Ku Sw (bz (cA (by simp)) (ay rfl)))
 |cons x r=>
  refine av rfl (bX Ku Sw (aB (cA (by simp;omega)) (ay ?_)));obtain⟨h,k,d,hg,e,h3⟩:=key (gI x r) (rC r x);have hb:kindOf (gI x r).1=k:=by rw[e];rfl
  show _=some (D.bl (decide (kindOf (gI x r).1 = "found")),false);rw[hb];refine b7 (.str k) (.str "found") (aI [row h k [.int d,.str p]] (aF (d:=row h k [.int d,.str p]) (b:=false) (b7 (.tup ab) (.int (gI x r).2) rfl ?_ (by simp[cn hg])) rfl) (iT _ _ _)) rfl (by simp);have hm:∀ρ:DL.Env,ρ[0]? = some (sF (.tup ab))->jK (q8 [0] (fA fj (fV 1 (fV 0 ai))) ρ) ((x::r).map λx=>D.int x.2)=some ((x::r).map λx=>.tup [.int (aG x.1),.int x.2]):=λρ h0=>
   iA (x::r) λy hy=>by
    obtain⟨h,k,d,hg,e,h3⟩:=key y hy;have hd:aG y.1=d:=by rw[e];rfl
    rw[hd];show(fA fj _ _).map _=_;rw[aI [.tup ab,.int y.2] (by simp[cF,h0]) (Ce hg h3)];rfl
  have hk:dU ((x::r).map λx=>D.tup [.int (aG x.1),.int x.2])=some ((x::r).map kA):=gW (x::r) λy _=>rfl;have hz:((x::r).map kA).zip ((x::r).map λx=>D.int x.2)=(kA x,.int x.2)::r.map λx=>(kA x,D.int x.2):=by
   rw[List.zip_map'];rfl
  show(uc (aj 4) _ _)=_;unfold uc Nj;show((some (D.lst ((x::r).map λx=>D.int x.2),false)).bind _)=_;simp only[vJ];rw[hm _ rfl];simp only[vJ];rw[hk];simp only[vJ];rw[if_pos (wJ _),hz];simp only[o4]
noncomputable def eB:List Str:=[("death" : Str)]
theorem jQ:∀w∈eB,cU w=true:=by
 intro w hw;rcases vP hw with rfl|hw
 ·decide +kernel
 ·cases hw
def o5 (ab:List D)(aa:Int)(p:Str)(day:Int):Bool:=(pB ab aa eB p day).isEmpty
theorem yV (ab:List D)(hr:∀r∈ab,np r)(hl:ab.length<=1000)(aa:Int)(p:Str)(day:Int):mN [.tup ab,.int aa,.str p,.int day]=sF (.bl (o5 ab aa p day)):=by
 have ht:=wI ab hr hl aa eB jQ p day;unfold o5;generalize pB ab aa eB p day=sel at ht ⊢;refine av rfl (ay (b7 (.int ((sel.map λx=>D.int x.2).length:Nat)) (.int 0) ?_ rfl ?_))
 ·exact aI [.lst (sel.map λx=>.int x.2)] (aF (d:=.lst (sel.map λx=>.int x.2)) (b:=true) (aI [.tup ab,.int aa,.tup (eB.map .str),.str p,.int day] (by simp[sizeLine,eB]) ht) rfl) Jt
 ·rw[BP];cases sel<;>simp
  omega
noncomputable def cr:D->Str
 |.tup [_,.tup (_::_::.str p::_)]=>p
 |_=>("" : Str)
noncomputable def yW:List Str:=[("chosen" : Str),"heir","leave","paper","like","copy","call"]
theorem rF (k:Str):eA k=decide (k∈yW):=by
 unfold eA yW;simp[List.mem_cons,Bool.or_assoc]
theorem AK:iu=.tup (yW.map .str):=rfl
theorem pj (k:Str)(ws:List Str):fY (.str k) (.tup (ws.map .str))=sF (.bl (!decide (k∈ws))):=by
 simp only[fY,gt,vJ,rB];rw[if_pos ⟨rfl,o3 ws⟩]
theorem Gh (h:eA k=true):pA gO (.str k) (.str "by")=sF (.int 1):=by
 rcases ma h with rfl|rfl|rfl|rfl|rfl|rfl|rfl<;>exact bp (by decide +kernel)
def gJ (ab:List D)(aa:Int)(r:D):Bool:=(decide (br r<=aa) && eA (kindOf r)) && (o5 ab aa (cr r) (aG r) && yU ab aa (cr r) (aG r))
theorem kM {ab:List D}{i:Nat}{h:Int}{kind:Str}{aD:List D}(hg:ab[i]? = some (row h kind aD))(aa:Int):cG [.tup ab,.int aa,.int i]=sF (.bl (decide (h<=aa))):=by
 have fT:i<ab.length:=(vV hg).1;have ha:=cn hg;refine av rfl (ay ?_);have:=dW (f1:=nV zJ Qa (fI 0) (aj 2) (fA fR (fV 0 ai))) (f2:=f2 zJ (f2 bC (f2 bC (aj 0) (aj 2)) (fI 0)) (aj 1)) (ρ:=[sF (.tup ab),sF (.int aa),sF (.int i)]) (p:=true) (q:=decide (h<=aa)) (b1:=false)
  (by
   refine(yH (x:=.int 0) (y:=.int i) (z:=.int ab.length) (b1:=false) (b2:=false) (b3:=false) (b4:=false) (p:=true) (q:=true) rfl rfl (by simp) (by simp) λ_=>?_).trans rfl;simp;omega) λ_=>by simp[ha,row,D6]
 exact this
theorem nu (ab:List D)(hr:∀r∈ab,np r)(hl:ab.length<=1000)(aa:Int){i:Nat}{r:D}(hg:ab[i]? = some r):du [.tup ab,.int aa,.int i]=sF (.bl (gJ ab aa r)):=by
 obtain⟨h,kind,aD,rfl,dp⟩:=hr r (vL hg);have hk:=kM hg aa;have ha:=cn hg;have Rx:∀(ρ:DL.Env),f2 bC (aj 0) (aj 2) ρ=some (row h kind aD,false)->fA aK (ae (f2 bC (aj 0) (aj 2)) ai) ρ=sF (.str kind):=λρ e=>aI [row h kind aD] (aF e rfl) (iT _ _ _);have Ho:f2 bC (aj 0) (aj 2) [sF (.tup ab),sF (.int aa),sF (.int i),none,none]=some (row h kind aD,false):=by simp[ha]
 have hc:(jq (dQ (bg (fA cG (fV 0 (fV 1 (fV 2 ai)))))) (bg (f2 fY (fA aK (ae (f2 bC (aj 0) (aj 2)) ai)) (fC iu)))) [sF (.tup ab),sF (.int aa),sF (.int i),none,none]=some (!decide (h<=aa) || !eA kind):=by
  refine dG (bH (cA (aI [.tup ab,.int aa,.int i] rfl hk))) λ_=>cA (b7 (.str kind) iu (Rx _ Ho) rfl ?_);rw[AK,rF];exact pj kind yW
 have hs:gJ ab aa (row h kind aD)=((decide (h<=aa) && eA kind) && (o5 ab aa (cr (row h kind aD)) (aG (row h kind aD)) && yU ab aa (cr (row h kind aD)) (aG (row h kind aD)))):=rfl;cases hb:(decide (h<=aa) && eA kind) with
 |false=>
  rw[hs,hb];refine av rfl (bz (hc.trans ?_) (ay rfl));rw[←Bool.not_and,hb];rfl
 |true=>
  rw[hs,hb];rw[vC]at hb;obtain⟨day,p,r',rfl⟩:=dp.slg hb.2;show _=some (D.bl (true && (o5 ab aa p day && yU ab aa p day)),false);rw[Bool.true_and];refine av rfl (aB (hc.trans (by rw[hb.1,hb.2];rfl)) (fz (.str p) (aI [row h kind (.int day::.str p::r'),.str "by"] (aF Ho rfl) (bv (i:=1) (Gh hb.2) rfl)) rfl (fz (.int day) (aI [row h kind (.int day::.str p::r')] (aF (d:=row h kind (.int day::.str p::r')) (b:=false) (by simp[ha]) rfl) (j4 (.inr hb.2) rfl)) rfl (ay ?_))));exact dW (b1:=false) (aI [.tup ab,.int aa,.str p,.int day] (by simp) (yV ab hr hl aa p day)) λ_=>aI [.tup ab,.int aa,.str p,.int day] (by simp) (Jx ab hr hl aa p day)
inductive Cd:Str->List D->Prop
 |root (o r:Str) (m f:Int):Cd ("root" : Str) [.str o,.int m,.int f,.str r]
 |named (d:Int) (o p:Str):Cd ("named" : Str) [.int d,.str o,.str p]
 |chosen (d:Int) (b o p:Str) (s:Int):Cd ("chosen" : Str) [.int d,.str b,.str o,.str p,.int s]
 |heir (d:Int) (b o p:Str):Cd ("heir" : Str) [.int d,.str b,.str o,.str p]
 |three (k:Str) (hk:k = "death" ∨ k = "lost" ∨ k = "found") (d:Int) (p:Str):Cd k [.int d,.str p]
 |other (k:Str) (hk:k = "leave" ∨ k = "paper" ∨ k = "like" ∨ k = "copy" ∨ k = "call") (d:Int) (b:Str) (r:List D) (hf:b8 r=true) (hp:r.all (aq 5)=true):Cd k (.int d::.str b::r)
theorem Cd.deed (h:Cd k r):DeedP k r:=by
 cases h with
 |root o rl m f=>exact⟨rfl,by simp,λh=>absurd h (by decide +kernel),λh=>absurd h (by decide +kernel)⟩
 |named d o p=>exact⟨rfl,by simp,λh=>absurd h (by decide +kernel),λh=>absurd h (by decide +kernel)⟩
 |chosen d b o p s=>exact⟨rfl,by simp,λh=>absurd h (by decide +kernel),λ_=>⟨d,b,_,rfl⟩⟩
 |heir d b o p=>exact⟨rfl,by simp,λh=>absurd h (by decide +kernel),λ_=>⟨d,b,_,rfl⟩⟩
 |three k hk d p=>exact⟨rfl,by simp,λ_=>⟨d,p,rfl⟩,λh=>by rcases hk with rfl|rfl|rfl<;>exact absurd h (by decide +kernel)⟩
 |other k hk d b r hf hp=>exact⟨by simp[hf],by simp only[List.all_cons,hp,aq,Bool.and_true],λh=>by rcases hk with rfl|rfl|rfl|rfl|rfl<;>exact absurd h (by decide +kernel),λ_=>⟨d,b,r,rfl⟩⟩
def wK (r:D):Prop:=∃h k aD,r=row h k aD/\Cd k aD
theorem wK.rp (h:wK r):np r:=by obtain⟨a,k,aD,rfl,d⟩:=h;exact⟨a,k,aD,rfl,d.deed⟩
def bq (r:D):Bool:=decide (kindOf r = "root")
theorem Cd.day (h:Cd k r)(hk:k ≠ "root"):∃d q,r=.int d::q:=by
 cases h with
 |root=>exact absurd rfl hk
 |named d=>exact⟨d,_,rfl⟩
 |chosen d=>exact⟨d,_,rfl⟩
 |heir d=>exact⟨d,_,rfl⟩
 |three _ _ d=>exact⟨d,_,rfl⟩
 |other _ _ d=>exact⟨d,_,rfl⟩
theorem Cd.day_idx (h:Cd k r)(hk:k ≠ "root"):pA gO (.str k) (.str "day")=sF (.int 0):=by
 cases h with
 |root=>exact absurd rfl hk
 |named=>exact bp (by decide +kernel)
 |chosen=>exact bp (by decide +kernel)
 |heir=>exact bp (by decide +kernel)
 |three _ hh=>rcases hh with rfl|rfl|rfl<;>exact bp (by decide +kernel)
 |other _ hh=>rcases hh with rfl|rfl|rfl|rfl|rfl<;>exact bp (by decide +kernel)
theorem bT (e:f ρ=some (.str a,bb))(h:decide (a=b)=x):bg (f2 dm f (fS b)) ρ=some x:=cA (g9 (x:=.str a) (y:=.str b) (b1:=bb) (b2:=false) e rfl (by rw[←h];simp))
def sO (r:D):D:=if bq r=true then .non else .int (aG r)
theorem ji (g:wK r):aK [r]=sF (.str (kindOf r)):=by
 obtain⟨h,k,aD,rfl,_⟩:=g;exact iT h k aD
theorem rG (g:wK r):aT [r]=some (sO r,false):=by
 obtain⟨h,k,aD,rfl,d⟩:=g;unfold sO;by_cases hk:k = "root"
 ·have:bq (row h k aD)=true:=decide_eq_true hk;rw[if_pos this];exact av rfl (bz (bT (a:=k) (bb:=false) (aI [row h k aD] rfl (iT _ _ _)) (decide_eq_true hk)) (ay rfl))
 ·have:bq (row h k aD)=false:=decide_eq_false hk;rw[if_neg (by rw[this];decide)];obtain⟨dd,q,rfl⟩:=d.day hk;exact av rfl (aB (bT (a:=k) (bb:=false) (aI [row h k (.int dd::q)] rfl (iT _ _ _)) (decide_eq_false hk)) (ay (aI [row h k (.int dd::q),.str "day"] rfl (bv (i:=0) (d.day_idx hk) rfl))))
def fM (ab:List D):Prop:=ab.length<=60/\∀r∈ab,wK r
theorem fM.rp (g:fM ab):∀r∈ab,np r:=λr hr=>(g.2 r hr).rp
theorem fM.le (g:fM ab):ab.length<=1000:=vR g.1 (by decide)
theorem bE (h:x∈am ab aa):ab[x.2]? = some x.1:=by
 obtain⟨h1,_⟩:=vN h;exact List.mem_zipIdx_iff_getElem?.mp h1
theorem cu (ab:List D)(aa:Int):(am ab aa).length<=ab.length:=by
 have:=vM (λx:D×Nat=>decide (br x.1<=aa)) ab.zipIdx;rw[List.length_zipIdx]at this;exact this
theorem eF (ab:List D)(aa:Int):((am ab aa).map (·.2)).Nodup:=by
 have h1:(ab.zipIdx.map (·.2)).Nodup:=by rw[List.zipIdx_map_snd];exact List.nodup_range'
 exact List.Nodup.sublist (List.Sublist.map _ (List.filter_sublist)) h1
def dc (ab:List D)(aa:Int):List (D×Nat):=(am ab aa).filter λx=>!bq x.1
def Qz (ab:List D)(aa:Int):List (D×Nat):=eI (λx=>cP (kA x)) (dc ab aa)
theorem Gi (h:cP (kA a)=cP (kA b)):a.2=b.2:=by
 have h:[aG a.1,(a.2:Int)]=[aG b.1,(b.2:Int)]:=h;injection h with _ h;injection h with h;omega
theorem Jy (ha:a∈am ab aa)(hb:b∈am ab aa)(h:a.2=b.2):a=b:=by
 have h1:=bE ha;have h2:=bE hb;rw[h,h2]at h1;exact Prod.ext (vK h1).symm h
theorem pq (g:fM ab)(aa:Int):dX [.tup ab,.int aa]=lT ((Qz ab aa).map λx=>.int x.2):=by
 have hl:=g.1;have LF:=cu ab aa;have Ho:∀x∈am ab aa,oE ab (x.2:Int)=some x.1/\wK x.1:=λx hx=>⟨cn (bE hx),g.2 _ (vL (bE hx))⟩;have hc:=ir (fi:=c6 (fA cH (fV 0 (fV 1 ai)))) (nT:=1) (cap:=[0]) (tg:=dD 0) (c:=bg (f2 jG (fA aT (ae (f2 bC (aj 1) (aj 0)) ai)) (fC .non))) (fe:=aj 0) (ρ:=[sF (.tup ab),sF (.int aa),none]) (am ab aa) (λx=>.int x.2) (λx=>!bq x.1) (λx=>.int x.2)
  (by
   show(fA cH (fV 0 (fV 1 ai)) _).bind _=_;rw[aI [.tup ab,.int aa] rfl (kL ab g.rp g.le aa)];rfl) (by omega) λx hx=>by
   obtain⟨ha,gx⟩:=Ho x hx;refine⟨_,rfl,cA (b7 (sO x.1) .non (aI [x.1] (by simp[cF,ha]) (rG gx)) rfl ?_),λ_=>⟨false,by simp[cF]⟩⟩;unfold sO;cases bq x.1<;>simp[Dg]
 have JZ:cf (c6 (fA cH (fV 0 (fV 1 ai)))) 1 [0] (dD 0) (bg (f2 jG (fA aT (ae (f2 bC (aj 1) (aj 0)) ai)) (fC .non))) (aj 0) [sF (.tup ab),sF (.int aa),none]=lT ((dc ab aa).map λx=>.int x.2):=hc;have p5:b8 ((dc ab aa).map λx=>D.int x.2)=true:=bI λd hd=>by obtain⟨x,_,rfl⟩:=vO hd;rfl
 have LB:(dc ab aa).length<=60:=vR (vM _ _) (by omega);have oC:∀x∈dc ab aa,x∈am ab aa/\bq x.1=false:=λx hx=>by
  obtain⟨h1,h2⟩:=vN hx;exact⟨h1,by simpa using h2⟩
 have hm:∀ρ:DL.Env,ρ[0]? = some (sF (.tup ab))->jK (q8 [0] (fA fj (fV 1 (fV 0 ai))) ρ) ((dc ab aa).map λx=>.int x.2)=some ((dc ab aa).map λx=>.tup [.int (aG x.1),.int x.2]):=λρ h0=>
  iA (dc ab aa) λx hx=>by
   obtain⟨h1,h2⟩:=oC x hx;obtain⟨ha,gx⟩:=Ho x h1;have hd:=rG gx;unfold sO at hd;rw[h2,if_neg (by decide)]at hd;have hr:fj [.tup ab,.int x.2]=sF (.tup [.int (aG x.1),.int x.2]):=av rfl (ay (aI [.int (aG x.1),.int x.2] (aF (d:=.int (aG x.1)) (b:=false) (aI [x.1] (by simp[ha]) hd) rfl) (by simp[sizeLine])));show(fA fj _ _).map _=_;rw[aI [.tup ab,.int x.2] (by simp[cF,h0]) hr];rfl
 have hk:dU ((dc ab aa).map λx=>D.tup [.int (aG x.1),.int x.2])=some ((dc ab aa).map kA):=gW _ λx _=>rfl;have hz:((dc ab aa).map kA).zip ((dc ab aa).map λx=>D.int x.2)=(dc ab aa).map λx=>(kA x,D.int x.2):=by rw[List.zip_map']
 have Kv:((dc ab aa).map (·.2)).Nodup:=List.Nodup.sublist (List.Sublist.map _ (List.filter_sublist)) (eF ab aa);have j9:((dc ab aa).map kA).length<64/\eJ ((dc ab aa).map kA)=true/\fJ ((dc ab aa).map kA)=true/\(((dc ab aa).map kA).map cP).Nodup:=by
  refine⟨by rw[vI];omega,wJ _,?_,?_⟩
  ·unfold fJ;rw[Bool.or_eq_true];left;simp[List.all_eq_true,kA]
  ·rw[uP];exact List.Pairwise.map _ (λa b h e=>h (Gi e)) (List.pairwise_map.mp Kv)
 refine av rfl (bX JZ p5 (ay ?_));show(qA (aj 2) _ _)=_;unfold qA;show((some (D.lst ((dc ab aa).map λx=>D.int x.2),false)).bind _)=_;simp only[vJ];rw[hm _ rfl];simp only[vJ];rw[hk];simp only[vJ];rw[if_pos j9];unfold jw;rw[hz];have key:((Qz ab aa).map λx=>(kA x,D.int x.2))=eI (λp:List At×D=>cP p.1) ((dc ab aa).map λx=>(kA x,D.int x.2)):=by
  refine k7 _ (λx hx y hy e=>?_) ((bN _ _).map _) ?_
  ·obtain⟨a,ha,rfl⟩:=vO hx;obtain⟨b,hb,rfl⟩:=vO hy;rw[Jy (oC a ha).1 (oC b hb).1 (Gi e)]
  ·exact List.pairwise_map.mpr (ig _ _)
 rw[←key,uP];rfl
structure Cl where
 o:Str
 p:Str
 s:Int
 u:Option Int
 n:Nat
noncomputable def uD:Option Int->D
 |none=>.non
 |some x=>.int x
def aU (c:Cl):D:=.tup [.str c.o,.str c.p,.int c.s,uD c.u,.int c.n]
theorem Cf (u:Option Int):bu (uD u)=true:=by cases u<;>rfl
theorem nv (c:Cl):bu (aU c)=true:=by simp[aU,Cf]
theorem iB (cs:List Cl):b8 (cs.map aU)=true:=bI λd hd=>by obtain⟨c,_,rfl⟩:=vO hd;exact nv c
noncomputable def iC (c:Cl)(day:Int):Bool:=decide (c.s<=day) && (match c.u with|none=>true|some x=>decide (day<x))
theorem Xp (d e f g:D)(r:List D):oE (d::e::f::g::r) 3=some g:=by have:=kE (xs:=d::e::f::g::r) (j:=3) (by simp);simpa using this
theorem Xq (d e f g h:D)(r:List D):oE (d::e::f::g::h::r) 4=some h:=by have:=kE (xs:=d::e::f::g::h::r) (j:=4) (by simp);simpa using this
theorem O8 (c:Cl):bC (aU c) (.int 0)=sF (.str c.o):=by simp[aU,D6]
theorem N7 (c:Cl):bC (aU c) (.int 1)=sF (.str c.p):=by simp[aU,Ei]
theorem RW (c:Cl):bC (aU c) (.int 2)=sF (.int c.s):=by simp[aU,Vz]
theorem Xr (c:Cl):bC (aU c) (.int 3)=some (uD c.u,false):=by simp[aU,Xp]
theorem RX (c:Cl):bC (aU c) (.int 4)=sF (.int c.n):=by simp[aU,Xq]
theorem bZ (ds:List D)(h:ds.length<=100):aP ds=sF (.tup ds):=if_pos (dA (by omega))
theorem de (ds:List D)(h:ds.length<=100):bj ds=lT ds:=if_pos (dA (by omega))
theorem Cg (s day:Int)(u:Option Int):jz [.int day,.tup [.int s,uD u]]=sF (.bl (decide (s<=day) && (match u with|none=>true|some x=>decide (day<x)))):=by
 refine av rfl (ay (dW (b1:=false) (by simp[D6]) λ_=>?_));cases u with
 |none=>exact qQ (p:=true) (q:=true) (b1:=false) (by simp[Ei,uD]) (by simp)
 |some x=>exact qQ (p:=false) (q:=decide (day<x)) (b1:=false) (by simp[Ei,uD]) λ_=>by simp[Ei,uD]
theorem rH (c:Cl)(day:Int):cQ [aU c,.int day]=sF (.bl (iC c day)) :=
 av rfl (ay (aI [.int day,.tup [.int c.s,uD c.u]] (bY rfl (bY (aI [.int c.s,uD c.u] (aF (b7 (aU c) (.int 2) rfl rfl (RW c)) (aF (b7 (aU c) (.int 3) rfl rfl (Xr c)) rfl)) (bZ _ (by simp))) rfl)) (Cg c.s day c.u)))
theorem yX (c:Cl):dw [aU c]=sF (.tup [.int c.s,.int c.n]) :=
 av rfl (ay (aI [.int c.s,.int c.n] (aF (b7 (aU c) (.int 2) rfl rfl (RW c)) (aF (b7 (aU c) (.int 4) rfl rfl (RX c)) rfl)) (bZ _ (by simp))))
theorem wL (c:Cl):gA [aU c]=sF (.tup [.str c.o,.int c.s,.int c.n]) :=
 av rfl (ay (aI [.str c.o,.int c.s,.int c.n] (aF (b7 (aU c) (.int 0) rfl rfl (O8 c)) (aF (b7 (aU c) (.int 2) rfl rfl (RW c)) (aF (b7 (aU c) (.int 4) rfl rfl (RX c)) rfl))) (bZ _ (by simp))))
noncomputable def kS (c:Cl):List At:=[.i c.s,.i c.n]
def nw:Cl->List Cl->Cl
 |b,[]=>b
 |b,x::r=>if bc (kS x) (kS b)=some true then nw x r else nw b r
def sP:Cl->List Cl->Cl
 |b,[]=>b
 |b,x::r=>if bc (kS b) (kS x)=some true then sP x r else sP b r
theorem rJ:∀(r:List Cl)(b:Cl),lA (kS b,aU b) (r.map λx=>(kS x,aU x))=aU (nw b r)
 |[],b=>rfl
 |x::r,b=>by
  rw[uY,lA,nw];split
  ·exact rJ r x
  ·exact rJ r b
theorem rK:∀(r:List Cl)(b:Cl),mH (kS b,aU b) (r.map λx=>(kS x,aU x))=aU (sP b r)
 |[],b=>rfl
 |x::r,b=>by
  rw[uY,mH,sP];split
  ·exact rK r x
  ·exact rK r b
theorem Ch (cs:List Cl):eJ (cs.map kS)=true:=by
 unfold eJ;simp[List.all_eq_true,kS,N6]
theorem rL (ρ:DL.Env)(cs:List Cl):jK (sL dw ρ) (cs.map aU)=some (cs.map λc=>.tup [.int c.s,.int c.n]):=iA cs λc _=>by
 show(dw [aU c]).map _=_;rw[yX];rfl
theorem pv (cs:List Cl):dU (cs.map λc=>D.tup [.int c.s,.int c.n])=some (cs.map kS):=gW cs λc _=>rfl
theorem Gj (e:f ρ=some (.lst ((b::r).map aU),bb)):ud f (sL dw) ρ=some (aU (nw b r),false):=by
 unfold ud Nj;rw[e,vJ];dsimp only;rw[rL,vJ,pv,vJ,if_pos (Ch _)];have:((b::r).map kS).zip ((b::r).map aU)=(kS b,aU b)::r.map λx=>(kS x,aU x):=by rw[List.zip_map'];rfl
 rw[this];show some (lA _ _,false)=_;rw[rJ]
theorem NA (e:f ρ=some (.lst ((b::r).map aU),bb)):uc f (sL dw) ρ=some (aU (sP b r),false):=by
 unfold uc Nj;rw[e,vJ];dsimp only;rw[rL,vJ,pv,vJ,if_pos (Ch _)];have:((b::r).map kS).zip ((b::r).map aU)=(kS b,aU b)::r.map λx=>(kS x,aU x):=by rw[List.zip_map'];rfl
 rw[this];show some (mH _ _,false)=_;rw[rK]
def iD (rl:Str)(b:Cl)(r:List Cl):Cl:=if rl = "last" then sP b r else nw b r
theorem Gk (rl:Str)(b:Cl)(r:List Cl):lW [.lst ((b::r).map aU),.str rl]=sF (.str (iD rl b r).p):=by
 unfold iD;by_cases h:rl = "last"
 ·rw[if_pos h];exact av rfl (bz (bT (a:=rl) (bb:=false) rfl (decide_eq_true h)) (ay (b7 (aU (sP b r)) (.int 1) (NA (bb:=false) rfl) rfl (N7 _))))
 ·rw[if_neg h];exact av rfl (aB (bT (a:=rl) (bb:=false) rfl (decide_eq_false h)) (ay (b7 (aU (nw b r)) (.int 1) (Gj (bb:=false) rfl) rfl (N7 _))))
theorem rM:∀(r:List Cl)(b:Cl),nw b r∈b::r
 |[],b=>by simp[nw]
 |x::r,b=>by
  rw[nw];split
  ·exact mZ _ (rM r x)
  ·rcases vP (rM r b)with h|h
   ·rw[h];exact mX
   ·exact mZ _ (mZ _ h)
theorem rN:∀(r:List Cl)(b:Cl),sP b r∈b::r
 |[],b=>by simp[sP]
 |x::r,b=>by
  rw[sP];split
  ·exact mZ _ (rN r x)
  ·rcases vP (rN r b)with h|h
   ·rw[h];exact mX
   ·exact mZ _ (mZ _ h)
theorem D7 (rl:Str)(b:Cl)(r:List Cl):iD rl b r∈b::r:=by
 unfold iD;split
 ·exact rN r b
 ·exact rM r b
noncomputable def O9 (cs:List Cl)(o:Str)(day:Int):List Cl:=cs.filter λc=>decide (c.o=o) && iC c day
def md (cs:List Cl):List Str:=jV (ie (cs.map (·.p)))
def Q0:List Cl->Nat
 |[]=>0
 |b::r=>(nw b r).n
def pw (rl:Str):List Cl->D
 |[]=>.tup [.str "none"]
 |b::r=>if 1<(md (b::r)).length/\rl = "open" then .tup [.str "parted",.lst ((md (b::r)).map .str)]
  else .tup [.str "one",.str (iD rl b r).p,.int (Q0 ((b::r).filter λc=>decide (c.p=(iD rl b r).p)))]
def jX (cs:List Cl)(o rl:Str)(day:Int):D:=pw rl (O9 cs o day)
theorem Jz:ie (z::zs)≠[]:=by
 have:∀(ss:List Str)(ts:List Str),z∈ts->z∈ss.foldl jJ ts:=λss=>by
  induction ss with
  |nil=>intro ts h;exact h
  |cons a l ih=>intro ts h;exact ih _ (ql.mpr (.inl h))
 have h:=this zs (jJ [] z) (ql.mpr (.inr rfl));intro e;unfold ie at e;rw[List.foldl_cons]at e;rw[e]at h;cases h
theorem kO:au [row h ("root" : Str) [.str o,.int m,.int f,.str rl],.str "office"]=sF (.str o):=bv (i:=0) (bp (by decide +kernel)) rfl
theorem D8:au [row h ("root" : Str) [.str o,.int m,.int f,.str rl],.str "rule"]=sF (.str rl):=bv (i:=3) (bp (by decide +kernel)) rfl
theorem nz (zs:List Str):gL (zs.map .str)=some zs:=by
 induction zs with
 |nil=>rfl
 |cons z zs ih=>simp[ih]
theorem nA (cs:List Cl)(hl:cs.length<=60)(day:Int):dY [.lst (cs.map aU),row h ("root" : Str) [.str o,.int m,.int f,.str rl],.int day]=some (jX cs o rl day,false):=by
 let rt:D:=row h ("root" : Str) [.str o,.int m,.int f,.str rl];have h1:=ir (fi:=c6 (aj 0)) (nT:=1) (cap:=[2,1]) (tg:=dD 0) (c:=eG (bg (f2 dm (dO 0 0) (fA au (fV 2 (ae (fS "office") ai))))) (bg (fA cQ (fV 0 (fV 1 ai))))) (fe:=aj 0)
  (ρ:=[sF (.lst (cs.map aU)),some (rt,false),sF (.int day),none,none,none,none]) cs aU (λc=>decide (c.o=o) && iC c day) aU (by simp) (by omega) λc hc=>by
   refine⟨_,rfl,dM (cA (b7 (.str c.o) (.str o) (b7 (aU c) (.int 0) (by simp[cF]) rfl (O8 c)) (aI [rt,.str "office"] (by simp[cF]) kO) (by simp))) λ_=>cA (aI [aU c,.int day] (by simp[cF]) (rH c day)),λ_=>⟨false,by simp[cF]⟩⟩
 have Se:cf (c6 (aj 0)) 1 [2,1] (dD 0) (eG (bg (f2 dm (dO 0 0) (fA au (fV 2 (ae (fS "office") ai))))) (bg (fA cQ (fV 0 (fV 1 ai))))) (aj 0) [sF (.lst (cs.map aU)),some (rt,false),sF (.int day),none,none,none,none]=lT ((O9 cs o day).map aU):=h1;have Sx:(O9 cs o day).length<=60:=vR (vM _ _) hl;unfold jX;generalize O9 cs o day=al at Se Sx;have h2:∀ρ:DL.Env,ρ[3]? = some (lT (al.map aU))->f1 eS (cf (c6 (aj 3)) 1 [] (dD 0) hU (dO 0 1)) ρ=lT ((md al).map .str):=λρ h3=>by
  have hc:=mM (fi:=c6 (aj 3)) (nT:=1) (cap:=[]) (tg:=dD 0) (fe:=dO 0 1) (ρ:=ρ) al aU (λc=>.str c.p) (by simp[h3]) (by omega) λc hc=>⟨_,rfl,false,b7 (aU c) (.int 1) (by simp[cF]) rfl (N7 c)⟩;have e2:al.map (λc=>D.str c.p)=(al.map (·.p)).map .str:=by rw[uP];rfl
  rw[e2]at hc;unfold f1;rw[hc,vJ];show(gL ((al.map (·.p)).map .str)).bind _=_;rw[nz,vJ,if_pos (by rw[vI];omega)];rfl
 have lx:b8 ((md al).map D.str)=true:=di _;refine av rfl (bX (ds:=al.map aU) Se (iB al) (bX (ds:=(md al).map .str) (h2 _ rfl) lx ?_));cases al with
 |nil=>exact bz (cA (by simp[md,ie,jV])) (ay (aI [.str "none"] rfl (bZ _ (by simp))))
 |cons b r=>
  have lJ:(md (b::r)).length≠0:=by
   unfold md;rw[(dq _).length_eq];intro e;exact Jz (List.length_eq_zero_iff.mp e)
  refine aB (cA (by simp[lJ])) ?_;have Hq:∀ρ:DL.Env,ρ[1]? = some (some (rt,false))->fA au (fV 1 (ae (fS "rule") ai)) ρ=sF (.str rl):=λρ q1=>aI [rt,.str "rule"] (by simp[q1]) D8;by_cases hp:1<(md (b::r)).length/\rl = "open"
  ·have:pw rl (b::r)=.tup [.str "parted",.lst ((md (b::r)).map .str)]:=by rw[pw,if_pos hp]
   rw[this];exact bz (dM (p:=true) (q:=true) (cA (by simp;omega)) λ_=>bT (bb:=false) (Hq _ rfl) (decide_eq_true hp.2)) (ay (aI [.str "parted",.lst ((md (b::r)).map .str)] (by simp) (bZ _ (by simp))))
  ·have:pw rl (b::r)=.tup [.str "one",.str (iD rl b r).p,.int (Q0 ((b::r).filter λc=>decide (c.p=(iD rl b r).p)))]:=by rw[pw,if_neg hp]
   rw[this];have j9:eG (bg (f2 Aj (fA fR (fV 4 ai)) (fI 1))) (bg (f2 dm (fA au (fV 1 (ae (fS "rule") ai))) (fS "open"))) [sF (.lst (cs.map aU)),some (rt,false),sF (.int day),lT ((b::r).map aU),lT ((md (b::r)).map .str),none,none]=some false:=by
    by_cases h5:1<(md (b::r)).length
    ·exact dM (p:=true) (q:=false) (cA (by simp;omega)) λ_=>bT (bb:=false) (Hq _ rfl) (decide_eq_false λe=>hp ⟨h5,e⟩)
    ·exact dM (p:=false) (q:=false) (cA (by simp;omega)) (by simp)
   have oC:=D7 rl b r;let ch:=iD rl b r;have h6:=ir (fi:=c6 (aj 3)) (nT:=1) (cap:=[5]) (tg:=dD 0) (c:=bg (f2 dm (dO 0 1) (aj 1))) (fe:=aj 0) (ρ:=[sF (.lst (cs.map aU)),some (rt,false),sF (.int day),lT ((b::r).map aU),lT ((md (b::r)).map .str),sF (.str ch.p),none]) (b::r) aU (λc=>decide (c.p=ch.p)) aU (by simp) (by omega) λc hc=>⟨_,rfl,cA (b7 (.str c.p) (.str ch.p) (b7 (aU c) (.int 1) (by simp[cF]) rfl (N7 c)) (by simp[cF]) (by simp)),λ_=>⟨false,by simp[cF]⟩⟩;obtain⟨b2,r2,hf⟩:∃b2 r2,(b::r).filter (λc=>decide (c.p=ch.p))=b2::r2:=by
    cases hq:(b::r).filter (λc=>decide (c.p=ch.p)) with
    |nil=>
     have:=List.filter_eq_nil_iff.mp hq _ oC;simp[ch]at this
    |cons b2 r2=>exact⟨b2,r2,rfl⟩
   rw[hf]at h6 ⊢;refine aB j9 (fz (.str ch.p) (aI [.lst ((b::r).map aU),.str rl] (bY (by simp) (aF (Hq _ rfl) rfl)) (Gk rl b r)) rfl (fz (aU (nw b2 r2)) (Gj (bb:=true) h6) (nv _) (ay (aI [.str "one",.str ch.p,.int (nw b2 r2).n] (bY rfl (bY rfl (aF (b7 (aU (nw b2 r2)) (.int 4) rfl rfl (RX _)) rfl))) (bZ _ (by simp))))))
def Lr:D->D
 |.tup ds=>.tup (sE ds none (some 2))
 |d=>d
def iU (cs:List Cl)(o rl p:Str)(day:Int):Bool:=bG (Lr (jX cs o rl day)) (.tup [.str "one",.str p])
theorem AL (n:Nat)(zs:List Str):(zs.map D.str).all (aq n)=true:=by
 induction zs with
 |nil=>rfl
 |cons a l ih=>simp
theorem D9 (rl:Str)(al:List Cl):∃ds,pw rl al=.tup ds/\ds.all (aq 5)=true:=by
 cases al with
 |nil=>exact⟨_,rfl,by simp⟩
 |cons b r=>
  rw[pw];split
  ·exact⟨_,rfl,by simp only[List.all_cons,List.all_nil,aq,Bool.and_true,Bool.true_and];exact AL _ _⟩
  ·exact⟨_,rfl,by simp⟩
theorem Gm (h:ds.all (aq 5)=true):(sE ds lo hi).all (aq 5)=true:=by
 rw[List.all_eq_true]at h ⊢;exact λd hd=>h d (List.mem_of_mem_drop (List.mem_of_mem_take hd))
theorem uy (h:ds.all (aq 5)=true):aq 40 (.tup ds)=true:=i7 6 40 _ (by decide) (by simpa only[aq]using h)
theorem wM (cs:List Cl)(hl:cs.length<=60)(p:Str)(day:Int):cO [.lst (cs.map aU),row h ("root" : Str) [.str o,.int m,.int f,.str rl],.str p,.int day]=sF (.bl (iU cs o rl p day)):=by
 have hb:=nA cs hl (h:=h) (o:=o) (rl:=rl) (m:=m) (f:=f) day;obtain⟨ds,e,hd⟩:=D9 rl (O9 cs o day);have e':jX cs o rl day=.tup ds:=e;refine av rfl (ay (b7 (Lr (jX cs o rl day)) (.tup [.str "one",.str p]) ?_ (by simp[sizeLine]) ?_))
 ·have hc:=BN (F:=dY) (fa:=fV 0 (fV 1 (fV 3 ai))) (ρ:=[sF (.lst (cs.map aU)),some (row h ("root" : Str) [.str o,.int m,.int f,.str rl],false),sF (.str p),sF (.int day)]) (ds:=[.lst (cs.map aU),row h ("root" : Str) [.str o,.int m,.int f,.str rl],.int day]) rfl hb;rw[e']at hc ⊢;show RN (fA dY (fV 0 (fV 1 (fV 3 ai)))) EU (Bo (fI 2)) _=_;unfold RN;rw[show(List.map (λd=>some (d,false)) [D.lst (cs.map aU),row h ("root" : Str) [.str o,.int m,.int f,.str rl],.str p,.int day]++List.replicate 0 none:DL.Env)=[sF (.lst (cs.map aU)),some (row h ("root" : Str) [.str o,.int m,.int f,.str rl],false),sF (.str p),sF (.int day)]from rfl,hc];rfl
 ·unfold iU dm;rw[if_pos];rw[e'];exact⟨uy (Gm hd),uy (by simp)⟩
noncomputable def a9 (j:Nat):D->Str
 |.tup [_,.tup (_::aD)]=>match aD[j]? with
  |some (.str s)=>s
  |_=>("" : Str)
 |_=>("" : Str)
noncomputable def iE (j:Nat):D->Int
 |.tup [_,.tup (_::aD)]=>match aD[j]? with
  |some (.int s)=>s
  |_=>0
 |_=>0
theorem Cd.root_of (h:Cd ("root" : Str) r):∃o rl,∃m f:Int,r=[.str o,.int m,.int f,.str rl]:=by
 generalize hk:("root" : Str)=k at h;cases h with
 |root o rl m f=>exact⟨o,rl,m,f,rfl⟩
 |named=>exact absurd hk (by decide +kernel)
 |chosen=>exact absurd hk (by decide +kernel)
 |heir=>exact absurd hk (by decide +kernel)
 |three _ hh=>rcases hh with rfl|rfl|rfl<;>exact absurd hk (by decide +kernel)
 |other _ hh=>rcases hh with rfl|rfl|rfl|rfl|rfl<;>exact absurd hk (by decide +kernel)
theorem uz {κ α:Type}[DecidableEq κ]{ks:List κ}{k:κ}{x y:α}:∀ {xs:List α},y∈dL ks xs k x->y=x∨y∈xs:=by
 intro xs h;unfold dL at h;split at h
 ·rename_i Su;clear Su;induction ks generalizing xs with
  |nil=>simp at h
  |cons a ks ih=>
   cases xs with
   |nil=>simp at h
   |cons b xs=>
    rw[List.zipWith_cons_cons,List.mem_cons]at h;rcases h with h|h
    ·split at h
     ·exact .inl h
     ·exact .inr (by rw[h];exact mX)
    ·rcases ih h with h|h
     ·exact .inl h
     ·exact .inr (mZ _ h)
 ·rcases List.mem_append.mp h with h|h
  ·exact .inr h
  ·exact .inl (uT h)
theorem u0:∀(l:List (cD×D))(a:List cD×List D)(y:D),y∈(l.foldl qG a).2->y∈a.2∨∃p∈l,p.2=y
 |[],a,y,h=>.inl h
 |p::l,a,y,h=>by
  rw[List.foldl_cons]at h;rcases u0 l _ y h with h|⟨q,hq,e⟩
  ·rcases uz (show y∈dL a.1 a.2 p.1 p.2 from h)with h|h
   ·exact .inr ⟨p,mX,h.symm⟩
   ·exact .inl h
  ·exact .inr ⟨q,mZ _ hq,e⟩
theorem u5 {α:Type}(f:α->Str)(g:α->D):∀(l:List α),jc (l.map λx=>D.tup [.str (f x),g x])=some (l.map λx=>(.inr (f x),g x))
 |[]=>rfl
 |x::l=>by
  rw[uY,jc,u5 f g l];rfl
theorem nB {κ:Type}[DecidableEq κ]:∀ {ks:List κ}{vs:List D}{k:κ}{v:D},cE ks vs k=some v->v∈vs
 |k'::ks,d::ds,k,v,h=>by
  unfold cE at h;split at h
  ·cases h;exact mX
  ·exact mZ _ (nB h)
 |[],_,_,_,h=>by simp[cE]at h
 |_::_,[],_,_,h=>by simp[cE]at h
noncomputable def kP (KL:List (D×Nat)):List (cD×D):=(KL.filter λx=>bq x.1).map λx=>(.inr (a9 0 x.1),x.1)
def iV (KL:List (D×Nat))(o:Str):Option D:=cE (bW (kP KL)).1 (bW (kP KL)).2 (.inr o)
theorem rO (g:wK r)(h:bq r=true):∃a o rl,∃m f:Int,r=row a ("root" : Str) [.str o,.int m,.int f,.str rl]:=by
 obtain⟨a,k,aD,rfl,d⟩:=g;have hk:k = "root":=of_decide_eq_true h;subst hk;obtain⟨o,rl,m,f,rfl⟩:=d.root_of;exact⟨a,o,rl,m,f,rfl⟩
theorem dF (g:fM ab)(hx:x∈am ab aa):oE ab (x.2:Int)=some x.1/\wK x.1:=⟨cn (bE hx),g.2 _ (vL (bE hx))⟩
theorem yY (g:fM ab)(h:iV (am ab aa) o=some v):∃a o2 rl,∃m f:Int,v=row a ("root" : Str) [.str o2,.int m,.int f,.str rl]:=by
 have hv:=nB h;rcases u0 _ ([],[]) v hv with h|⟨p,hp,e⟩
 ·cases h
 ·obtain⟨x,hx,rfl⟩:=vO hp;obtain⟨h1,h2⟩:=vN hx;rw[←e];exact rO (dF g h1).2 h2
theorem nD (g:fM ab)(aa:Int):fK [.tup ab,.int aa]=sF (.dk (bW (kP (am ab aa))).1 (bW (kP (am ab aa))).2):=by
 have hl:=cu ab aa;have Ea:=g.1;have h1:=mM (fi:=c6 (fA cH (fV 0 (fV 1 ai)))) (nT:=1) (cap:=[0]) (tg:=dD 0) (fe:=f2 bC (aj 1) (aj 0)) (ρ:=[sF (.tup ab),sF (.int aa),none]) (am ab aa) (λx=>.int x.2) Prod.fst
  (by
   show(fA cH (fV 0 (fV 1 ai)) _).bind _=_;rw[aI [.tup ab,.int aa] rfl (kL ab g.rp g.le aa)];rfl) (by omega) λx hx=>by
   have ha:=(dF g hx).1;exact⟨_,rfl,false,by simp[cF,ha]⟩
 have hn:b8 ((am ab aa).map Prod.fst)=true:=bI λd hd=>by
  obtain⟨x,hx,rfl⟩:=vO hd;exact(dF g hx).2.rp.flat
 have h2:=ir (fi:=c6 (aj 2)) (nT:=1) (cap:=[]) (tg:=dD 0) (c:=bg (f2 dm (fA aK (fV 0 ai)) (fS "root"))) (fe:=fA aP (ae (fA au (fV 0 (ae (fS "office") ai))) (fV 0 ai)))
  (ρ:=[sF (.tup ab),sF (.int aa),lT ((am ab aa).map Prod.fst)]) (am ab aa) Prod.fst (λx=>bq x.1) (λx=>.tup [.str (a9 0 x.1),x.1]) (by simp) (by omega) λx hx=>by
   have gr:=(dF g hx).2;refine⟨_,rfl,bT (a:=kindOf x.1) (bb:=false) (aI [x.1] rfl (ji gr)) rfl,λhp=>⟨false,?_⟩⟩;obtain⟨a,o,rl,m,f,e⟩:=rO gr hp;refine aI [.str (a9 0 x.1),x.1] (bY (aI [x.1,.str "office"] rfl ?_) rfl) (bZ _ (by simp));rw[e];exact kO
 refine av rfl (bX (ds:=(am ab aa).map Prod.fst) h1 hn (ay (aI [.lst (((am ab aa).filter λx:D×Nat=>bq x.1).map λx:D×Nat=>D.tup [.str (a9 0 x.1),x.1])] (aF h2 rfl) ?_)));rw[jL,u5 (λx:D×Nat=>a9 0 x.1) Prod.fst];rfl
def pC:D×Nat->List (D×Nat)->D×Nat
 |b,[]=>b
 |b,x::r=>if bc (kA x) (kA b)=some true then pC x r else pC b r
theorem wN:∀(r:List (D×Nat))(b:D×Nat),lA (kA b,.int b.2) (r.map λx=>(kA x,D.int x.2))=.int (pC b r).2
 |[],b=>rfl
 |x::r,b=>by
  rw[uY,lA,pC];split
  ·exact wN r x
  ·exact wN r b
def iF (KL:List (D×Nat))(p:Str)(day:Int)(i:Nat):Bool:=match KL.filter (λx=>told eB p day x.1) with
 |[]=>false
 |b::r=>decide ((pC b r).2=i)
theorem Gn (g:fM ab)(aa:Int)(hx:x∈am ab aa)(e:x.1=row a ("death" : Str) [.int d,.str p]):gb [.tup ab,.int aa,.int x.2]=sF (.bl (iF (am ab aa) p d x.2)):=by
 have ha:=(dF g hx).1;have gx:=(dF g hx).2;have ht:=wI ab g.rp g.le aa eB jQ p d;have zF:au [x.1,.str "person"]=sF (.str p):=by rw[e];exact bv (i:=1) (bp (by decide +kernel)) rfl
 have xh:aT [x.1]=sF (.int d):=by rw[e];exact j4 (.inl (by decide +kernel)) rfl
 have oC:x∈pB ab aa eB p d:=List.mem_filter.mpr ⟨hx,by rw[e];simp[told,row,eB,ux]⟩;have YY:iF (am ab aa) p d x.2=match pB ab aa eB p d with|[]=>false|b::r=>decide ((pC b r).2=x.2):=rfl
 have key:∀y∈pB ab aa eB p d,∃h k dd,ab[y.2]? = some (row h k [.int dd,.str p])/\y.1=row h k [.int dd,.str p]/\cU k=true:=λy hy=>by
  obtain⟨hg,UI⟩:=Cc hy;obtain⟨h,k,dd,e2,h3,_⟩:=rE jQ (g.rp _ (vL hg)) UI;exact⟨h,k,dd,by rw[hg,e2],e2,h3⟩
 rw[YY];cases hs:pB ab aa eB p d with
 |nil=>rw[hs]at oC;cases oC
 |cons b r=>
  rw[hs]at ht key;have hm:∀ρ:DL.Env,ρ[0]? = some (sF (.tup ab))->jK (q8 [0] (fA fj (fV 1 (fV 0 ai))) ρ) ((b::r).map λy=>.int y.2)=some ((b::r).map λy=>.tup [.int (aG y.1),.int y.2]):=λρ h0=>
   iA (b::r) λy hy=>by
    obtain⟨h,k,dd,hg,e2,h3⟩:=key y hy;show(fA fj _ _).map _=_;rw[aI [.tup ab,.int y.2] (by simp[cF,h0]) (Ce hg h3),e2];rfl
  have hk:dU ((b::r).map λy=>D.tup [.int (aG y.1),.int y.2])=some ((b::r).map kA):=gW _ λy _=>rfl;have hz:((b::r).map kA).zip ((b::r).map λy=>D.int y.2)=(kA b,D.int b.2)::r.map λy=>(kA y,D.int y.2):=by rw[List.zip_map'];rfl
  have p5:b8 ((b::r).map λy=>D.int y.2)=true:=bI λd hd=>by obtain⟨y,_,rfl⟩:=vO hd;rfl
  refine av rfl (fz x.1 (by simp[ha]) gx.rp.flat (bX (ds:=(b::r).map λy=>.int y.2) (aI [.tup ab,.int aa,.tup (eB.map .str),.str p,.int d] (bY rfl (bY rfl (bY (aI [.str "death"] rfl (bZ _ (by simp))) (aF (aI [x.1,.str "person"] rfl zF) (aF (aI [x.1] rfl xh) rfl))))) ht) p5 (ay (b7 (.int (pC b r).2) (.int x.2) ?_ rfl ?_))))
  ·unfold ud Nj;show((some (D.lst ((b::r).map λy=>D.int y.2),false)).bind _)=_;rw[vJ];dsimp only;rw[hm _ rfl,vJ,hk,vJ,if_pos (wJ _),hz];show some (lA _ _,false)=_;rw[wN]
  ·rw[BP];congr 3;apply decide_eq_decide.mpr;omega
abbrev KL:=List (D×Nat)
noncomputable def rP (K:KL)(p:Str)(day:Int):Bool:=(K.filter λx=>told eB p day x.1).isEmpty
def Q1 (K:KL)(p:Str)(day:Int):Bool:=match Lq (K.filter λx=>told nq p day x.1) with
 |none=>true
 |some x=>decide (kindOf x.1 = "found")
def wO (K:KL)(r:D):Bool:=eA (kindOf r) && (rP K (cr r) (aG r) && Q1 K (cr r) (aG r))
def wP (r:D):Str:=if kindOf r = "named" then a9 1 r else a9 2 r
noncomputable def sQ:List Str:=[("named" : Str),"chosen","heir"]
def cC (K:KL)(so:List Cl)(x:D×Nat):Bool :=
 if kindOf x.1 = "death" then iF K (a9 1 x.1) (aG x.1) x.2
 else if kindOf x.1∈sQ then match iV K (wP x.1) with
  |none=>false
  |some v=>if kindOf x.1 = "named" then true else wO K x.1 && iU so (a9 0 v) (a9 3 v) (a9 1 x.1) (aG x.1)
 else false
theorem J0 (ab:List D)(aa:Int)(p:Str)(day:Int):o5 ab aa p day=rP (am ab aa) p day:=rfl
theorem J5 (h:br r<=aa):gJ ab aa r=wO (am ab aa) r:=by
 unfold gJ wO;rw[decide_eq_true h,Bool.true_and];rfl
theorem DA (g:fM ab)(aa:Int)(so:List Cl)(sw:so.length<=60)(hx:x∈am ab aa)(OV:bq x.1=false):mP [.tup ab,.int aa,.lst (so.map aU),.int x.2]=sF (.bl (cC (am ab aa) so x)):=by
 obtain⟨ha,gx⟩:=dF g hx;have hh:br x.1<=aa:=of_decide_eq_true (vN hx).2;have hf:bu x.1=true:=gx.rp.flat;have hw:∀ρ:DL.Env,ρ[4]? = some (some (x.1,false))->fA aK (fV 4 ai) ρ=sF (.str (kindOf x.1)):=λρ h4=>aI [x.1] (by simp[h4]) (ji gx);have Sy:∀ρ:DL.Env,ρ[4]? = some (some (x.1,false))->bg (f2 fY (fA aK (fV 4 ai)) (fA aP (ae (fS "named") (ae (fS "chosen") (ae (fS "heir") ai))))) ρ=some (!decide (kindOf x.1∈sQ)):=λρ h4=>
  cA (b7 (.str (kindOf x.1)) (.tup (sQ.map .str)) (hw ρ h4) (by simp[sizeLine,sQ]) (pj _ _))
 by_cases hd:kindOf x.1 = "death"
 ·obtain⟨a,k,aD,e,d⟩:=gx;have hk:k = "death":=by rw[e]at hd;exact hd
  subst hk;obtain⟨dd,p,rfl⟩:=d.deed.three (by decide +kernel);have hc:cC (am ab aa) so x=iF (am ab aa) p dd x.2:=by
   unfold cC;rw[if_pos hd,e];rfl
  rw[hc];exact av rfl (fz x.1 (by simp[ha]) hf (bz (bT (bb:=false) (hw _ rfl) (decide_eq_true hd)) (ay (aI [.tup ab,.int aa,.int x.2] rfl (Gn g aa hx e)))))
 ·by_cases h3:kindOf x.1∈sQ
  ·have Oi:au [x.1,.str "office"]=sF (.str (wP x.1)):=by
    obtain⟨a,k,aD,e,d⟩:=gx;rw[e]at h3 hd OV ⊢;replace h3:k∈sQ:=h3;clear hd OV;cases d with
    |root=>exact absurd h3 (by decide +kernel)
    |named d o p=>exact bv (i:=1) (bp (by decide +kernel)) rfl
    |chosen d b o p s=>exact bv (i:=2) (bp (by decide +kernel)) rfl
    |heir d b o p=>exact bv (i:=2) (bp (by decide +kernel)) rfl
    |three _ hk=>rcases hk with rfl|rfl|rfl<;>exact absurd h3 (by decide +kernel)
    |other _ hk=>rcases hk with rfl|rfl|rfl|rfl|rfl<;>exact absurd h3 (by decide +kernel)
   have e5:∀ρ:DL.Env,ρ[0]? = some (sF (.tup ab))->ρ[1]? = some (sF (.int aa))->ρ[4]? = some (some (x.1,false))->f2 FD (fA fK (fV 0 (fV 1 ai))) (fA au (fV 4 (ae (fS "office") ai))) ρ=some ((iV (am ab aa) (wP x.1)).getD .non,false):=λρ q0 q1 q4=>
    b7 (.dk (bW (kP (am ab aa))).1 (bW (kP (am ab aa))).2) (.str (wP x.1)) (aI [.tup ab,.int aa] (by simp[q0,q1]) (nD g aa)) (aI [x.1,.str "office"] (by simp[q4]) Oi) rfl
   cases hr:iV (am ab aa) (wP x.1) with
   |none=>
    rw[hr]at e5;have hc:cC (am ab aa) so x=false:=by unfold cC;rw[if_neg hd,if_pos h3,hr]
    rw[hc];exact av rfl (fz x.1 (by simp[ha]) hf (aB (bT (bb:=false) (hw _ rfl) (decide_eq_false hd)) (aB (by rw[Sy _ rfl,decide_eq_true h3];rfl) (fz .non (e5 _ rfl rfl rfl) rfl (bz (cA (b7 .non .non rfl rfl (by simp))) (ay rfl))))))
   |some v=>
    rw[hr]at e5;obtain⟨va,vo,ZP,vm,vf,ev⟩:=yY g hr;have W7:bu v=true:=by rw[ev];rfl
    have W8:zK v .non=sF (.bl false):=by rw[ev];simp[row]
    by_cases hn:kindOf x.1 = "named"
    ·have hc:cC (am ab aa) so x=true:=by unfold cC;rw[if_neg hd,if_pos h3,hr];dsimp only;rw[if_pos hn]
     rw[hc];exact av rfl (fz x.1 (by simp[ha]) hf (aB (bT (bb:=false) (hw _ rfl) (decide_eq_false hd)) (aB (by rw[Sy _ rfl,decide_eq_true h3];rfl) (fz v (e5 _ rfl rfl rfl) W7 (aB (cA (b7 v .non rfl rfl W8)) (bz (bT (bb:=false) (hw _ rfl) (decide_eq_true hn)) (ay rfl)))))))
    ·have hc:cC (am ab aa) so x=(wO (am ab aa) x.1 && iU so (a9 0 v) (a9 3 v) (a9 1 x.1) (aG x.1)):=by unfold cC;rw[if_neg hd,if_pos h3,hr];dsimp only;rw[if_neg hn]
     have W9:au [x.1,.str "by"]=sF (.str (a9 1 x.1))/\aT [x.1]=sF (.int (aG x.1)):=by
      refine⟨?_,by rw[rG gx];unfold sO;rw[OV];rfl⟩;obtain⟨a,k,aD,e,d⟩:=gx;rw[e]at h3 hn ⊢;replace h3:k∈sQ:=h3;cases d with
      |root=>exact absurd h3 (by decide +kernel)
      |named=>exact absurd rfl hn
      |chosen d b o p s=>exact bv (i:=1) (bp (by decide +kernel)) rfl
      |heir d b o p=>exact bv (i:=1) (bp (by decide +kernel)) rfl
      |three _ hk=>rcases hk with rfl|rfl|rfl<;>exact absurd h3 (by decide +kernel)
      |other _ hk=>rcases hk with rfl|rfl|rfl|rfl|rfl<;>exact absurd h3 (by decide +kernel)
     have hs:=nu ab g.rp g.le aa (bE hx);rw[J5 hh]at hs;have Hr:cO [.lst (so.map aU),v,.str (a9 1 x.1),.int (aG x.1)]=sF (.bl (iU so (a9 0 v) (a9 3 v) (a9 1 x.1) (aG x.1))):=by
      rw[ev];exact wM so sw _ _
     rw[hc];refine av rfl (fz x.1 (by simp[ha]) hf (aB (bT (bb:=false) (hw _ rfl) (decide_eq_false hd)) (aB (by rw[Sy _ rfl,decide_eq_true h3];rfl) (fz v (e5 _ rfl rfl rfl) W7 (aB (cA (b7 v .non rfl rfl W8)) (aB (bT (bb:=false) (hw _ rfl) (decide_eq_false hn)) (ay ?_)))))));exact dW (b1:=false) (aI [.tup ab,.int aa,.int x.2] rfl hs) λ_=>aI [.lst (so.map aU),v,.str (a9 1 x.1),.int (aG x.1)] (bY rfl (bY rfl (aF (aI [x.1,.str "by"] rfl W9.1) (aF (aI [x.1] rfl W9.2) rfl)))) Hr
  ·have hc:cC (am ab aa) so x=false:=by unfold cC;rw[if_neg hd,if_neg h3]
   rw[hc];exact av rfl (fz x.1 (by simp[ha]) hf (aB (bT (bb:=false) (hw _ rfl) (decide_eq_false hd)) (bz (by rw[Sy _ rfl,decide_eq_false h3];rfl) (ay rfl))))
def gf (dh:List Str)(p:Str)(day:Int)(c:Cl):List Cl :=
 if(!decide (c.o∈dh) || (!decide (c.p=p) || !(iC c day || decide (day<c.s))))=true then [c]else if c.s<day then [⟨c.o,p,c.s,some day,c.n⟩]else []
noncomputable def cw (so:List Cl)(dh:List Str)(p:Str)(day:Int):List Cl:=so.flatMap (gf dh p day)
theorem gg (dh:List Str)(p:Str)(day:Int):∀so:List Cl,(cw so dh p day).length<=so.length
 |[]=>vT _
 |c::so=>by
  unfold cw;rw[uO,uZ,vE];have h1:=gg dh p day so;have h2:(gf dh p day c).length<=1:=by
   unfold gf;split
   ·simp
   ·split<;>simp
  unfold cw at h1;omega
theorem AM (k:Str)(ws:List Str):fY (.str k) (.lst (ws.map .str))=sF (.bl (!decide (k∈ws))):=by
 simp only[fY,gt,vJ,rB];rw[if_pos ⟨rfl,o3 ws⟩]
theorem yZ (so:List Cl)(sw:so.length<=60)(dh:List Str)(p:Str)(day:Int):pR [.lst (so.map aU),.lst (dh.map .str),.str p,.int day]=lT ((cw so dh p day).map aU):=by
 obtain⟨ρ',e,v5,rfl⟩:=iq (tg:=dD 5) (g:=qY) (λj ρ=>∃v5:Option (D×Bool),ρ=[sF (.lst (so.map aU)),sF (.lst (dh.map .str)),sF (.str p),sF (.int day),lT ((cw (so.take j) dh p day).map aU),v5]) (so.map aU)
  [sF (.lst (so.map aU)),sF (.lst (dh.map .str)),sF (.str p),sF (.int day),lT [],none] ⟨none,rfl⟩ (by
   rintro j d ρ hd ⟨v5,rfl⟩;rw[vA]at hd;obtain⟨c,hc,rfl⟩:=oY hd;have hj:j<so.length:=(vV hc).1;have et:cw (so.take (j+1)) dh p day=cw (so.take j) dh p day++gf dh p day c:=by
    unfold cw;rw[List.take_add_one,hc,Option.toList_some,List.flatMap_append,uO,List.flatMap_nil,uQ]
   have bR:(cw (so.take j) dh p day).length<=60:=vR (gg dh p day _) (by rw[List.length_take];omega);let ρ1:DL.Env:=[sF (.lst (so.map aU)),sF (.lst (dh.map .str)),sF (.str p),sF (.int day),lT ((cw (so.take j) dh p day).map aU),some (aU c,false)];have q0:dO 5 0 ρ1=sF (.str c.o):=b7 (aU c) (.int 0) rfl rfl (O8 c);have q1:dO 5 1 ρ1=sF (.str c.p):=b7 (aU c) (.int 1) rfl rfl (N7 c);have q2:dO 5 2 ρ1=sF (.int c.s):=b7 (aU c) (.int 2) rfl rfl (RW c);have q4:dO 5 4 ρ1=sF (.int c.n):=b7 (aU c) (.int 4) rfl rfl (RX c);have j9:jq (bg (f2 fY (dO 5 0) (aj 1))) (jq (bg (f2 zI (dO 5 1) (aj 2))) (dQ (jq (bg (fA cQ (fV 5 (fV 3 ai)))) (bg (f2 Aj (dO 5 2) (aj 3)))))) ρ1=some (!decide (c.o∈dh) || (!decide (c.p=p) || !(iC c day || decide (day<c.s)))) :=
    dG (cA (b7 (.str c.o) (.lst (dh.map .str)) q0 rfl (AM _ _))) λ_=>dG (cA (b7 (.str c.p) (.str p) q1 rfl (by simp))) λ_=>bH (dG (cA (aI [aU c,.int day] rfl (rH c day))) λ_=>cA (b7 (.int c.s) (.int day) q2 rfl (by simp)))
   by_cases h1:(!decide (c.o∈dh) || (!decide (c.p=p) || !(iC c day || decide (day<c.s))))=true
   ·have eo:gf dh p day c=[c]:=by unfold gf;rw[if_pos h1]
    rw[h1]at j9;refine⟨_,_,rfl,.inl (ls j9 (jd (ds:=(cw (so.take j) dh p day).map aU) (d:=aU c) (b:=false) rfl rfl (nv c) (bO (by simp;omega)))),some (aU c,false),?_⟩;rw[et,eo,uW];rfl
   ·rw[Bool.not_eq_true]at h1;rw[h1]at j9;by_cases h2:c.s<day
    ·have eo:gf dh p day c=[⟨c.o,p,c.s,some day,c.n⟩]:=by unfold gf;rw[if_neg (by rw[h1];decide),if_pos h2]
     refine⟨_,_,rfl,.inl (lU j9 (ls (cA (b7 (.int c.s) (.int day) q2 rfl (by simp[h2]))) (jd (ds:=(cw (so.take j) dh p day).map aU) (d:=aU ⟨c.o,p,c.s,some day,c.n⟩) (b:=false) rfl (aI [.str c.o,.str p,.int c.s,.int day,.int c.n] (aF q0 (bY rfl (aF q2 (bY rfl (aF q4 rfl))))) (bZ _ (by simp))) (nv _) (bO (by simp;omega))))),some (aU c,false),?_⟩;rw[et,eo,uW];rfl
    ·have eo:gf dh p day c=[]:=by unfold gf;rw[if_neg (by rw[h1];decide),if_neg h2]
     refine⟨_,_,rfl,.inl (lU j9 (lU (cA (b7 (.int c.s) (.int day) q2 rfl (by simp;omega))) rfl)),some (aU c,false),?_⟩;rw[et,eo,uQ];rfl)
 have e':iY (dD 5) qY (so.map aU) [sF (.lst (so.map aU)),sF (.lst (dh.map .str)),sF (.str p),sF (.int day),lT [],none]=some (.nx [sF (.lst (so.map aU)),sF (.lst (dh.map .str)),sF (.str p),sF (.int day),lT ((cw so dh p day).map aU),v5]):=by
  rw[e];have:so.take (so.map aU).length=so:=by rw[vI,List.take_length]
  rw[this]
 exact av rfl (bX (ds:=[]) (by simp[sizeLine]) rfl (dz (kY (ds:=so.map aU) (by simp[m4]) e') (mK rfl)))
theorem Ls (ho:au [r,.str "office"]=sF (.str o))(hp:au [r,.str "person"]=sF (.str p))(s:Int)(n:Nat):gB [r,.int s,.int n]=some (aU ⟨o,p,s,none,n⟩,false) :=
 av rfl (ay (aI [.str o,.str p,.int s,.non,.int n] (aF (aI [r,.str "office"] rfl ho) (aF (aI [r,.str "person"] rfl hp) rfl)) (bZ _ (by simp))))
theorem DB (so:List Cl)(sw:so.length<=60)(n:Nat):iw [.lst (so.map aU),row a ("chosen" : Str) [.int d,.str b,.str o,.str p,.int s],.int n]=lT ((cw so [o] b s++[(⟨o,p,s,none,n⟩:Cl)]).map aU):=by
 let r:D:=row a ("chosen" : Str) [.int d,.str b,.str o,.str p,.int s];have ho:au [r,.str "office"]=sF (.str o):=bv (i:=2) (bp (by decide +kernel)) rfl;have hp:au [r,.str "person"]=sF (.str p):=bv (i:=3) (bp (by decide +kernel)) rfl;have hb:au [r,.str "by"]=sF (.str b):=bv (i:=1) (bp (by decide +kernel)) rfl;have hs:au [r,.str "since"]=sF (.int s):=bv (i:=4) (bp (by decide +kernel)) rfl;have hl:=gg [o] b s so;refine av rfl (fz (.int s) (aI [r,.str "since"] rfl hs) rfl (bX (ds:=(cw so [o] b s).map aU) (aI [.lst (so.map aU),.lst ([o].map .str),.str b,.int s] (bY rfl (aF (b:=true) (aI [.str o] (aF (aI [r,.str "office"] rfl ho) rfl) (de _ (by simp))) (aF (aI [r,.str "by"] rfl hb) rfl))) (yZ so sw [o] b s)) (iB _) (ay ?_)));refine g9 (x:=.lst ((cw so [o] b s).map aU)) (y:=.lst [aU ⟨o,p,s,none,n⟩]) (b1:=false) (b2:=true) rfl (aI [aU ⟨o,p,s,none,n⟩] (aF (aI [r,.int s,.int n] rfl (Ls ho hp s n)) rfl) (de _ (by simp))) ?_;rw[uW];exact if_pos (dA (by rw[vI,List.length_singleton];omega))
noncomputable def za (hk:List (List cD))(hv:List D)(o p:Str):Option Str:=match cE hk hv [.inr o,.inr p] with
 |some (.str h)=>some h
 |_=>none
def dH (K:KL)(hk:List (List cD))(hv:List D)(p:Str)(day:Int)(n:Nat)(o:Str):List Cl:=match za hk hv o p with
 |some h=>if rP K h day=true then [⟨o,h,day,none,n⟩]else []
 |none=>[]
def cV (so:List Cl)(p:Str)(day:Int):List Str:=jV (ie ((so.filter λc=>decide (c.p=p) && iC c day).map (·.o)))
def rQ (K:KL)(so:List Cl)(hk:List (List cD))(hv:List D)(p:Str)(day:Int)(n:Nat):List Cl:=(cV so p day).flatMap (dH K hk hv p day n)
theorem mf (K:KL)(hk:List (List cD))(hv:List D)(p:Str)(day:Int)(n:Nat)(o:Str):(dH K hk hv p day n o).length<=1:=by
 unfold dH;split
 ·split<;>simp
 ·simp
theorem rR {α β:Type}(f:α->List β)(h:∀a,(f a).length<=1):∀l:List α,(l.flatMap f).length<=l.length
 |[]=>vT _
 |a::l=>by
  rw[uO,uZ,vE];have:=h a;have:=rR f h l;omega
theorem zb (so:List Cl)(p:Str)(day:Int):(cV so p day).length<=so.length:=by
 unfold cV;rw[(dq _).length_eq];refine vR (mB _) ?_;rw[vI];exact vM _ _
theorem wQ (g:fM ab)(aa:Int)(so:List Cl)(sw:so.length<=60)(hk:List (List cD))(hv:List D)(UJ:∀v∈hv,∃s,v=.str s)(hx:x∈am ab aa)(e:x.1=row a ("death" : Str) [.int d,.str p]):
  kH [.tup ab,.int aa,.lst (so.map aU),.dt hk hv,.int x.2]=lT ((rQ (am ab aa) so hk hv p d x.2).map aU):=by
 have ha:=(dF g hx).1;have zF:au [x.1,.str "person"]=sF (.str p):=by rw[e];exact bv (i:=1) (bp (by decide +kernel)) rfl
 have xh:aT [x.1]=sF (.int d):=by rw[e];exact j4 (.inl (by decide +kernel)) rfl
 have WA:=zb so p d;have Ry:∀(o:Str)(l:List Cl)(v9:Option (D×Bool)),l.length<=60->gP [sF (.tup ab),sF (.int aa),sF (.lst (so.map aU)),sF (.dt hk hv),sF (.int x.2),sF (.str p),sF (.int d),lT (l.map aU),sF (.str o),v9]=some (.nx [sF (.tup ab),sF (.int aa),sF (.lst (so.map aU)),sF (.dt hk hv),sF (.int x.2),sF (.str p),sF (.int d),lT ((l++dH (am ab aa) hk hv p d x.2 o).map aU),sF (.str o),some ((cE hk hv [.inr o,.inr p]).getD .non,false)]):=λo l v9 hl=>by
  have eg:FM (aj 3) (fV 8 (fV 5 ai)) [sF (.tup ab),sF (.int aa),sF (.lst (so.map aU)),sF (.dt hk hv),sF (.int x.2),sF (.str p),sF (.int d),lT (l.map aU),sF (.str o),v9]=some ((cE hk hv [.inr o,.inr p]).getD .non,false):=by
   simp[iP,sizeLine]
  cases hlk:cE hk hv [.inr o,.inr p] with
  |none=>
   rw[hlk]at eg;have ei:dH (am ab aa) hk hv p d x.2 o=[]:=by unfold dH za;rw[hlk]
   rw[ei,uQ];exact fz .non eg rfl (lU (dM (p:=false) (q:=false) (cA (by simp)) (by simp)) rfl)
  |some v=>
   obtain⟨h,rfl⟩:=UJ v (nB hlk);rw[hlk]at eg;have Oj:=yV ab g.rp g.le aa h d;rw[J0]at Oj;have Rz:∀ρ:DL.Env,ρ[0]? = some (sF (.tup ab))->ρ[1]? = some (sF (.int aa))->ρ[6]? = some (sF (.int d))->ρ[9]? = some (sF (.str h))->eG (bg (f2 jG (aj 9) (fC .non))) (bg (fA mN (fV 0 (fV 1 (fV 9 (fV 6 ai)))))) ρ=some (true && rP (am ab aa) h d):=λρ q0 q1 q6 q9=>
    dM (cA (by simp[q9])) λ_=>cA (aI [.tup ab,.int aa,.str h,.int d] (by simp[q0,q1,q6,q9]) Oj)
   cases Ea:rP (am ab aa) h d with
   |false=>
    have ei:dH (am ab aa) hk hv p d x.2 o=[]:=by unfold dH za;rw[hlk];dsimp only;rw[Ea];rfl
    rw[ei,uQ];exact fz (.str h) eg rfl (lU (by rw[Rz _ rfl rfl rfl rfl,Ea];rfl) rfl)
   |true=>
    have ei:dH (am ab aa) hk hv p d x.2 o=[⟨o,h,d,none,x.2⟩]:=by unfold dH za;rw[hlk];dsimp only;rw[Ea];rfl
    rw[ei,uW];exact fz (.str h) eg rfl (ls (by rw[Rz _ rfl rfl rfl rfl,Ea];rfl) (jd (ds:=l.map aU) (d:=aU ⟨o,h,d,none,x.2⟩) (b:=false) rfl (aI [.str o,.str h,.int d,.non,.int x.2] rfl (bZ _ (by simp))) rfl (bO (by simp;omega))))
 obtain⟨ρ',el,v8,v9,rfl⟩:=iq (tg:=dD 8) (g:=gP) (λj ρ=>∃v8 v9:Option (D×Bool),ρ=[sF (.tup ab),sF (.int aa),sF (.lst (so.map aU)),sF (.dt hk hv),sF (.int x.2),sF (.str p),sF (.int d),lT ((((cV so p d).take j).flatMap (dH (am ab aa) hk hv p d x.2)).map aU),v8,v9]) ((cV so p d).map .str)
  [sF (.tup ab),sF (.int aa),sF (.lst (so.map aU)),sF (.dt hk hv),sF (.int x.2),sF (.str p),sF (.int d),lT [],none,none] ⟨none,none,rfl⟩ (by
   rintro j dd ρ hd ⟨v8,v9,rfl⟩;rw[vA]at hd;obtain⟨o,ho,rfl⟩:=oY hd;have hl:(((cV so p d).take j).flatMap (dH (am ab aa) hk hv p d x.2)).length<=60:=vR (rR _ (mf _ _ _ _ _ _) _) (by rw[List.length_take];omega);refine⟨_,_,rfl,.inl (Ry o _ v9 hl),sF (.str o),some ((cE hk hv [.inr o,.inr p]).getD .non,false),?_⟩;rw[List.take_add_one,ho,Option.toList_some,List.flatMap_append,uO,List.flatMap_nil,uQ])
 have e':iY (dD 8) gP ((cV so p d).map .str) [sF (.tup ab),sF (.int aa),sF (.lst (so.map aU)),sF (.dt hk hv),sF (.int x.2),sF (.str p),sF (.int d),lT [],none,none]=some (.nx [sF (.tup ab),sF (.int aa),sF (.lst (so.map aU)),sF (.dt hk hv),sF (.int x.2),sF (.str p),sF (.int d),lT ((rQ (am ab aa) so hk hv p d x.2).map aU),v8,v9]):=by
  rw[el];have:(cV so p d).take ((cV so p d).map D.str).length=cV so p d:=by rw[vI,List.take_length]
  rw[this];rfl
 have Ku:∀ρ:DL.Env,ρ[2]? = some (sF (.lst (so.map aU)))->ρ[5]? = some (sF (.str p))->ρ[6]? = some (sF (.int d))->c6 (f1 eS (cf (c6 (aj 2)) 1 [5,6] (dD 0) (eG (bg (f2 dm (dO 0 1) (aj 1))) (bg (fA cQ (fV 0 (fV 2 ai))))) (dO 0 0))) ρ=some ((cV so p d).map .str):=λρ q2 q5 q6=>by
  have hc:=ir (fi:=c6 (aj 2)) (nT:=1) (cap:=[5,6]) (tg:=dD 0) (c:=eG (bg (f2 dm (dO 0 1) (aj 1))) (bg (fA cQ (fV 0 (fV 2 ai))))) (fe:=dO 0 0) (ρ:=ρ) so aU (λc=>decide (c.p=p) && iC c d) (λc=>.str c.o) (by simp[q2]) (by omega) λc hc=>
   ⟨_,rfl,dM (cA (b7 (.str c.p) (.str p) (b7 (aU c) (.int 1) (by simp[cF]) rfl (N7 c)) (by simp[cF,q5]) (by simp))) λ_=>cA (aI [aU c,.int d] (by simp[cF,q6]) (rH c d)),λ_=>⟨false,b7 (aU c) (.int 0) (by simp[cF]) rfl (O8 c)⟩⟩
  have e2:(so.filter λc=>decide (c.p=p) && iC c d).map (λc=>D.str c.o)=((so.filter λc=>decide (c.p=p) && iC c d).map (·.o)).map .str:=by rw[uP];rfl
  rw[e2]at hc;show(f1 eS _ ρ).bind _=_;unfold f1;rw[hc,vJ];have YZ:((so.filter λc=>decide (c.p=p) && iC c d).map (·.o)).length<64:=by rw[vI];exact Nat.lt_of_le_of_lt (vM _ _) (by omega)
  show((gL _).bind _).bind _=_;rw[nz,vJ,if_pos YZ];rfl
 refine av rfl (fz (.str p) (aI [x.1,.str "person"] (by simp[ha]) zF) rfl (fz (.int d) (aI [x.1] (by simp[ha]) xh) rfl (bX (ds:=[]) (by simp[sizeLine]) rfl (dz (ρ':=[sF (.tup ab),sF (.int aa),sF (.lst (so.map aU)),sF (.dt hk hv),sF (.int x.2),sF (.str p),sF (.int d),lT ((rQ (am ab aa) so hk hv p d x.2).map aU),v8,v9]) ?_ (mK rfl)))));exact kY (ρ:=[sF (.tup ab),sF (.int aa),sF (.lst (so.map aU)),sF (.dt hk hv),sF (.int x.2),sF (.str p),sF (.int d),lT [],none,none]) (Ku _ rfl rfl rfl) e'
theorem Go (g:fM ab)(aa:Int)(so:List Cl)(sw:so.length<=60)(hk:List (List cD))(hv:List D)(UJ:∀v∈hv,∃s,v=.str s)(hx:x∈am ab aa)(e:x.1=row a ("death" : Str) [.int d,.str p]):
  je [.tup ab,.int aa,.lst (so.map aU),.dt hk hv,.int x.2]=lT ((cw so (so.map Cl.o) p d++rQ (am ab aa) so hk hv p d x.2).map aU):=by
 have ha:=(dF g hx).1;have zF:au [x.1,.str "person"]=sF (.str p):=by rw[e];exact bv (i:=1) (bp (by decide +kernel)) rfl
 have xh:aT [x.1]=sF (.int d):=by rw[e];exact j4 (.inl (by decide +kernel)) rfl
 have h1:=mM (fi:=c6 (aj 2)) (nT:=1) (cap:=[]) (tg:=dD 0) (fe:=dO 0 0) (ρ:=[sF (.tup ab),sF (.int aa),sF (.lst (so.map aU)),sF (.dt hk hv),sF (.int x.2),none,none]) so aU (λc=>.str c.o) (by simp) (by omega) λc hc=>⟨_,rfl,false,b7 (aU c) (.int 0) (by simp[cF]) rfl (O8 c)⟩;have e2:so.map (λc=>D.str c.o)=(so.map Cl.o).map .str:=by rw[uP];rfl
 rw[e2]at h1;have HC:=gg (so.map Cl.o) p d so;have Ea:(rQ (am ab aa) so hk hv p d x.2).length<=60:=vR (rR _ (mf _ _ _ _ _ _) _) (vR (zb so p d) sw);refine av rfl (bX (ds:=(so.map Cl.o).map .str) h1 (di _) (bX (ds:=(cw so (so.map Cl.o) p d).map aU) (aI [.lst (so.map aU),.lst ((so.map Cl.o).map .str),.str p,.int d] (bY rfl (bY rfl (bY (aI [x.1,.str "person"] (by simp[ha]) zF) (bY (aI [x.1] (by simp[ha]) xh) rfl)))) (yZ so sw _ p d)) (iB _) (ay ?_)));refine g9 (x:=.lst ((cw so (so.map Cl.o) p d).map aU)) (y:=.lst ((rQ (am ab aa) so hk hv p d x.2).map aU)) (b1:=false) (b2:=true) rfl (aI [.tup ab,.int aa,.lst (so.map aU),.dt hk hv,.int x.2] rfl (wQ g aa so sw hk hv UJ hx e)) ?_;rw[uW];exact if_pos (dA (by rw[vI,vI];omega))
abbrev Lu:=List Cl×List (List cD)×List D
def dN (K:KL)(st:Lu)(x:D×Nat):Lu :=
 if cC K st.1 x=true then
  if kindOf x.1 = "named" then (st.1++[⟨a9 1 x.1,a9 2 x.1,aG x.1,none,x.2⟩],st.2)
  else if kindOf x.1 = "chosen" then (cw st.1 [a9 2 x.1] (a9 1 x.1) (iE 4 x.1)++[⟨a9 2 x.1,a9 3 x.1,iE 4 x.1,none,x.2⟩],st.2)
  else if kindOf x.1 = "heir" then (st.1,dJ st.2.1 [.inr (a9 2 x.1),.inr (a9 1 x.1)],dL st.2.1 st.2.2 [.inr (a9 2 x.1),.inr (a9 1 x.1)] (.str (a9 3 x.1)))
  else (cw st.1 (st.1.map Cl.o) (a9 1 x.1) (aG x.1)++rQ K st.1 st.2.1 st.2.2 (a9 1 x.1) (aG x.1) x.2,st.2)
 else st
def cL (K:KL):KL:=eI (λx=>cP (kA x)) (K.filter λx=>!bq x.1)
noncomputable def nE (K:KL)(l:KL):Lu:=l.foldl (dN K) ([],[],[])
noncomputable def kC (c:Cl):List At:=[.s c.o,.i c.s,.i c.n]
def bi (K:KL):List Cl:=eI (λc=>cP (kC c)) (nE K (cL K)).1
noncomputable def AN:List cD->Str
 |[_,.inr p]=>p
 |_=>("" : Str)
noncomputable def J6 (dd:List Str)(ks:List (List cD)):Nat:=(ks.filter λk=>decide (AN k∉dd)).length
structure zG (K l:KL)(dd:List Str)(st:Lu):Prop where
 len:st.1.length+J6 dd st.2.1<=l.length
 ded:∀q∈dd,∃y∈l,iF K q (aG y.1) y.2=true
 nod:(st.1.map λc=>(c.o,c.n)).Nodup
 num:∀c∈st.1,c.n∈l.map (·.2)
 hs:∀v∈st.2.2,∃s,v=D.str s
 hk:st.2.1.length<=l.length
theorem Ci (h:told ws p d r=true):aG r<=d/\∀d',aG r<=d'->told ws p d' r=true:=by
 unfold told at h;split at h
 ·rename_i k aD;rw[vC]at h;obtain⟨h1,h2⟩:=h;unfold ux at h2;split at h2
  ·rename_i dd q;rw[vC]at h2;refine⟨of_decide_eq_true h2.2,λd' hd=>?_⟩;unfold told;rw[vC];refine⟨h1,?_⟩;unfold ux;rw[vC];exact⟨h2.1,decide_eq_true hd⟩
  ·cases h2
 ·cases h
theorem rS:∀(r:KL)(b:D×Nat),pC b r∈b::r/\∀y∈b::r,fU y (pC b r)=false
 |[],b=>⟨by simp[pC],λy hy=>by rw[uT hy];simp[pC,fU]⟩
 |x::r,b=>by
  rw[pC,AJ];by_cases h:fU x b=true
  ·rw[if_pos (by rw[h])];obtain⟨h1,h2⟩:=rS r x;refine⟨mZ _ h1,λy hy=>?_⟩;rcases vP hy with rfl|hy
   ·have:=h2 x mX;unfold fU at *;simp at *;omega
   ·exact h2 y hy
  ·rw[if_neg (by simpa using h)];obtain⟨h1,h2⟩:=rS r b;refine⟨?_,λy hy=>?_⟩
   ·rcases vP h1 with e|e
    ·rw[e];exact mX
    ·exact mZ _ (mZ _ e)
   ·rcases vP hy with rfl|hy
    ·exact h2 _ mX
    ·rcases vP hy with rfl|hy
     ·have:=h2 b mX;unfold fU at *;simp at *;omega
     ·exact h2 y (mZ _ hy)
theorem rT (h:iF K p d i=true):∃m∈K,told eB p d m.1=true/\m.2=i/\∀y∈K,told eB p d y.1=true->fU y m=false:=by
 unfold iF at h;split at h
 ·cases h
 ·rename_i b r e;obtain⟨h1,h2⟩:=rS r b;rw[←e]at h1 h2;obtain⟨h3,h4⟩:=vN h1;exact⟨_,h3,h4,of_decide_eq_true h,λy hy ht=>h2 y (List.mem_filter.mpr ⟨hy,ht⟩)⟩
theorem AO (h1:iF K p d1 i1=true)(h2:iF K p d2 i2=true):i1=i2:=by
 obtain⟨m1,k1,t1,e1,q1⟩:=rT h1;obtain⟨m2,k2,t2,e2,q2⟩:=rT h2;have a1:=Ci t1;have a2:=Ci t2;by_cases hd:d1<=d2
 ·have z1:=q2 m1 k1 (a1.2 d2 (by omega));have hm:aG m2.1<=aG m1.1:=by unfold fU at z1;simp at z1;omega
  have z2:=q1 m2 k2 (a2.2 d1 (by omega));unfold fU at z1 z2;simp at z1 z2;omega
 ·have z1:=q1 m2 k2 (a2.2 d1 (by omega));have hm:aG m1.1<=aG m2.1:=by unfold fU at z1;simp at z1;omega
  have z2:=q2 m1 k1 (a1.2 d2 (by omega));unfold fU at z1 z2;simp at z1 z2;omega
theorem zc {κ:Type}[DecidableEq κ]:∀ {ks:List κ}{vs:List D}{k:κ}{v:D},cE ks vs k=some v->k∈ks
 |k'::ks,d::ds,k,v,h=>by
  unfold cE at h;split at h
  ·rename_i e;rw[←e];exact mX
  ·exact mZ _ (zc h)
 |[],_,_,_,h=>by simp[cE]at h
 |_::_,[],_,_,h=>by simp[cE]at h
theorem rV (p:Str)(dd:List Str)(hp:p∉dd):∀ks:List (List cD),J6 dd ks=J6 (p::dd) ks+(ks.filter λk=>decide (AN k=p)).length
 |[]=>rfl
 |k::ks=>by
  have ih:=rV p dd hp ks;unfold J6 at ih ⊢;by_cases e:AN k=p
  ·rw[List.filter_cons_of_pos (by simpa [e]using hp),List.filter_cons_of_neg (by simp[e]),List.filter_cons_of_pos (by simp[e]),vE,vE];omega
  ·by_cases h:AN k∈dd
   ·rw[List.filter_cons_of_neg (by simp[h]),List.filter_cons_of_neg (by simp[h]),List.filter_cons_of_neg (by simp[e])];exact ih
   ·rw[List.filter_cons_of_pos (by simp[h]),List.filter_cons_of_pos (by simp[h,e]),List.filter_cons_of_neg (by simp[e]),vE,vE];omega
theorem lb (dh:List Str)(p:Str)(day:Int):∀so:List Cl,((cw so dh p day).map λc=>(c.o,c.n)).Sublist (so.map λc=>(c.o,c.n))
 |[]=>List.Sublist.slnil
 |c::so=>by
  have ih:=lb dh p day so;unfold cw at ih ⊢;rw[uO,uW,uY];have:((gf dh p day c).map λc=>(c.o,c.n))=[(c.o,c.n)]∨((gf dh p day c).map λc=>(c.o,c.n))=[]:=by
   unfold gf;split
   ·exact .inl rfl
   ·split
    ·exact .inl rfl
    ·exact .inr rfl
  rcases this with h|h
  ·rw[h];exact ih.cons₂ _
  ·rw[h];exact ih.cons _
theorem gX (h:c∈cw so dh p day):∃c'∈so,c'.o=c.o/\c'.n=c.n:=by
 have:=(lb dh p day so).subset (uS ⟨c,h,rfl⟩);obtain⟨c',h1,h2⟩:=vO this;injection h2 with h3 h4;exact⟨c',h1,h3,h4⟩
theorem j5:∀(ss ts:List Str),ts.Nodup->(ss.foldl jJ ts).Nodup
 |[],_,h=>h
 |s::ss,ts,h=>j5 ss _ (Az h s)
theorem iG:∀(ss ts:List Str)(x:Str),x∈ss.foldl jJ ts->x∈ts∨x∈ss
 |[],_,_,h=>.inl h
 |s::ss,ts,x,h=>by
  rcases iG ss _ x h with h|h
  ·rcases ql.mp h with h|h
   ·exact .inl h
   ·exact .inr (by rw[h];exact mX)
  ·exact .inr (mZ _ h)
theorem rW (so:List Cl)(p:Str)(day:Int):(cV so p day).Nodup:=(dq _).nodup_iff.mpr (j5 _ [] List.nodup_nil)
theorem Gp (h:o∈cV so p day):∃c∈so,c.o=o:=by
 have h1:=(dq _).mem_iff.mp h;rcases iG _ _ _ h1 with h|h
 ·cases h
 ·obtain⟨c,hc,e⟩:=vO h;exact⟨c,(vN hc).1,e⟩
theorem zd (K:KL)(hk:List (List cD))(hv:List D)(p:Str)(day:Int)(n:Nat):∀os:List Str,((os.flatMap (dH K hk hv p day n)).map λc=>(c.o,c.n)).Sublist (os.map λo=>(o,n))
 |[]=>List.Sublist.slnil
 |o::os=>by
  have ih:=zd K hk hv p day n os;rw[uO,uW,uY];have:((dH K hk hv p day n o).map λc=>(c.o,c.n))=[(o,n)]∨((dH K hk hv p day n o).map λc=>(c.o,c.n))=[]:=by
   unfold dH;split
   ·split
    ·exact .inl rfl
    ·exact .inr rfl
   ·exact .inr rfl
  rcases this with h|h
  ·rw[h];exact ih.cons₂ _
  ·rw[h];exact ih.cons _
theorem u6 {α:Type}[DecidableEq α]:∀(l m:List α),l.Nodup->(∀x∈l,x∈m)->l.length<=m.length
 |[],_,_,_=>uN _
 |x::l,m,h,s=>by
  rw[List.nodup_cons]at h;have hx:=s x mX;have:=u6 l (m.erase x) h.2 λy hy=>(List.mem_erase_of_ne (a:=y) (b:=x) (λe=>h.1 (by rw[←e];exact hy))).mpr (s y (mZ _ hy));rw[List.length_erase_of_mem hx]at this;have:0<m.length:=List.length_pos_of_mem hx;rw[vE];omega
theorem uA {α β:Type}(f:α->List β)(q:α->Bool)(h:∀a,(f a).length<=1/\(q a=false->f a=[])):∀l:List α,(l.flatMap f).length<=(l.filter q).length
 |[]=>vT _
 |a::l=>by
  have ih:=uA f q h l;rw[uO,uZ];cases hq:q a with
  |true=>rw[List.filter_cons_of_pos hq,vE];have:=(h a).1;omega
  |false=>rw[List.filter_cons_of_neg (by rw[hq];decide),(h a).2 hq];simpa using ih
theorem J7 (K:KL)(so:List Cl)(hk:List (List cD))(hv:List D)(p:Str)(day:Int)(n:Nat):(rQ K so hk hv p day n).length<=(hk.filter λk=>decide (AN k=p)).length:=by
 refine vR (uA _ (λo=>(cE hk hv [.inr o,.inr p]).isSome) (λo=>⟨mf _ _ _ _ _ _ _,λh=>?_⟩) _) ?_
 ·have hl:cE hk hv [.inr o,.inr p]=none:=by simpa using h
  unfold dH za;rw[hl]
 ·have Kv:(((cV so p day).filter λo=>(cE hk hv [.inr o,.inr p]).isSome).map λo=>([.inr o,.inr p]:List cD)).Nodup:=List.Pairwise.map _ (λa b hab e=>hab (by injection e with e _;injection e)) ((rW so p day).filter _);have:=u6 _ (hk.filter λk=>decide (AN k=p)) Kv λk hm=>by
   obtain⟨o,ho,rfl⟩:=vO hm;obtain⟨v,hv⟩:=uU (vN ho).2;exact List.mem_filter.mpr ⟨zc hv,decide_eq_true rfl⟩
  rwa [vI]at this
theorem zG.step {K l:KL}{dd:List Str}{st:Lu}(h:zG K l dd st){x:D×Nat}(hx:x.2∉l.map (·.2)):∃Kg,zG K (l++[x]) Kg (dN K st x):=by
 have up:∀ {n:Nat},n∈l.map (·.2)->n∈(l++[x]).map (·.2):=λh=>by rw[uW];exact List.mem_append_left _ h
 have me:x.2∈(l++[x]).map (·.2):=by simp
 have ll:(l++[x]).length=l.length+1:=by simp
 have R0:∀q∈dd,∃y∈l++[x],iF K q (aG y.1) y.2=true:=λq hq=>by
  obtain⟨y,h1,h2⟩:=h.ded q hq;exact⟨y,List.mem_append_left _ h1,h2⟩
 have wk:zG K (l++[x]) dd st:=⟨by have:=h.len;omega,R0,h.nod,λc hc=>up (h.num c hc),h.hs,by have:=h.hk;omega⟩;have bR:=h.len;unfold dN;split
 ·rename_i hcount;split
  ·refine⟨dd,by simp;omega,R0,?_,λc hc=>?_,h.hs,by rw[ll];exact Nat.le_succ_of_le h.hk⟩
   ·rw[uW,List.nodup_append];refine⟨h.nod,by simp,λa ha b hb e=>?_⟩;obtain⟨c,hc,rfl⟩:=vO ha;simp at hb;subst hb;injection e with _ e2;exact hx (e2 ▸ h.num c hc)
   ·rcases List.mem_append.mp hc with hc|hc
    ·exact up (h.num c hc)
    ·rw[uT hc];exact me
  ·split
   ·have hl:=gg [a9 2 x.1] (a9 1 x.1) (iE 4 x.1) st.1;refine⟨dd,by simp;omega,R0,?_,λc hc=>?_,h.hs,by rw[ll];exact Nat.le_succ_of_le h.hk⟩
    ·rw[uW,List.nodup_append];refine⟨h.nod.sublist (lb _ _ _ _),by simp,λa ha b hb e=>?_⟩;obtain⟨c,hc,rfl⟩:=vO ha;simp at hb;subst hb;injection e with _ e2;obtain⟨c',h1,_,h3⟩:=gX hc;exact hx (e2 ▸ h3 ▸ h.num c' h1)
    ·rcases List.mem_append.mp hc with hc|hc
     ·obtain⟨c',h1,_,h3⟩:=gX hc;rw[←h3];exact up (h.num c' h1)
     ·rw[uT hc];exact me
   ·split
    ·have hp:∀k:List cD,J6 dd (dJ st.2.1 k)<=J6 dd st.2.1+1/\(dJ st.2.1 k).length<=st.2.1.length+1:=λk=>by
      unfold dJ;split
      ·omega
      ·have:([k].filter λk=>decide (AN k∉dd)).length<=1:=vM _ _;unfold J6;rw[List.filter_append,uZ,uZ,List.length_singleton];omega
     refine⟨dd,?_,R0,wk.nod,wk.num,λv hv=>?_,?_⟩
     ·have:=(hp [.inr (a9 2 x.1),.inr (a9 1 x.1)]).1;rw[ll];show st.1.length+J6 dd (dJ st.2.1 [.inr (a9 2 x.1),.inr (a9 1 x.1)])<=_;omega
     ·rcases uz hv with hv|hv
      ·exact⟨_,hv⟩
      ·exact h.hs v hv
     ·have:=(hp [.inr (a9 2 x.1),.inr (a9 1 x.1)]).2;have:=h.hk;rw[ll];show(dJ _ _).length<=_;omega
    ·rename_i n1 n2 n3;have hd:kindOf x.1 = "death":=by
      unfold cC at hcount;by_cases hd:kindOf x.1 = "death"
      ·exact hd
      ·rw[if_neg hd,if_neg (by simp[sQ,n1,n2,n3])]at hcount;cases hcount
     have hf:iF K (a9 1 x.1) (aG x.1) x.2=true:=by unfold cC at hcount;rwa [if_pos hd]at hcount
     have OM:a9 1 x.1∉dd:=λhm=>by
      obtain⟨y,h1,h2⟩:=h.ded _ hm;exact hx (by rw[←AO h2 hf];exact uS ⟨y,h1,rfl⟩)
     have hl:=gg (st.1.map Cl.o) (a9 1 x.1) (aG x.1) st.1;have ZQ:=J7 K st.1 st.2.1 st.2.2 (a9 1 x.1) (aG x.1) x.2;have U1:=rV (a9 1 x.1) dd OM st.2.1;have WB:=zd K st.2.1 st.2.2 (a9 1 x.1) (aG x.1) x.2 (cV st.1 (a9 1 x.1) (aG x.1));have WC:∀c∈rQ K st.1 st.2.1 st.2.2 (a9 1 x.1) (aG x.1) x.2,c.o∈cV st.1 (a9 1 x.1) (aG x.1)/\c.n=x.2:=λc hc=>by
      have:=WB.subset (uS ⟨c,hc,rfl⟩);obtain⟨o,h1,h2⟩:=vO this;injection h2 with h3 h4;exact⟨h3 ▸ h1,h4.symm⟩
     refine⟨a9 1 x.1::dd,?_,λq hq=>?_,?_,λc hc=>?_,h.hs,by rw[ll];exact Nat.le_succ_of_le h.hk⟩
     ·rw[ll];show(cw st.1 (st.1.map Cl.o) (a9 1 x.1) (aG x.1)++rQ K st.1 st.2.1 st.2.2 (a9 1 x.1) (aG x.1) x.2).length+J6 _ st.2.1<=_;rw[uZ];omega
     ·rcases vP hq with rfl|hq
      ·exact⟨x,by simp,hf⟩
      ·exact R0 q hq
     ·rw[uW,List.nodup_append];refine⟨h.nod.sublist (lb _ _ _ _),List.Nodup.sublist WB (List.Pairwise.map _ (λa b hab e=>hab (by injection e)) (rW _ _ _)),λa ha b hb e=>?_⟩;obtain⟨c,hc,rfl⟩:=vO ha;obtain⟨c2,xl,rfl⟩:=vO hb;injection e with _ e2;obtain⟨c',h1,_,h3⟩:=gX hc;exact hx ((WC c2 xl).2 ▸ e2 ▸ h3 ▸ h.num c' h1)
     ·rcases List.mem_append.mp hc with hc|hc
      ·obtain⟨c',h1,_,h3⟩:=gX hc;rw[←h3];exact up (h.num c' h1)
      ·rw[(WC c hc).2];exact me
 ·exact⟨dd,wk⟩
theorem J8 (e:ρ[i]? = some (some (.dt ks vs,true)))(ev:fv ρ=some (d,b))(ek:fk ρ=some kd)(hk:iP kd=some kk)(hf:bu d=true)(h1:ks.length<=1000)(h2:kd.length<=1000):uh i fk fv ρ=some (.nx (ρ.set i (some (.dt (dJ ks kk) (dL ks vs kk d),true)))):=by
 unfold uh;rw[e];dsimp only;rw[ev,vJ,ek,vJ,hk,vJ,if_pos ⟨hf,bO (by omega),dA (by omega)⟩]
theorem T1 (a b:Cl):(bc (kC a) (kC b)).isSome=true:=by
 unfold kC;rw[bc];split
 ·rw[bc];split
  ·rw[bc];split
   ·rw[bc];rfl
   ·rfl
  ·rfl
 ·rfl
theorem Cj (cs:List Cl):eJ (cs.map kC)=true:=by
 unfold eJ;simp[List.all_eq_true,T1]
theorem uB {α β:Type}(f:α->β):∀ {l:List α},(l.map f).Nodup->∀ {a b:α},a∈l->b∈l->f a=f b->a=b
 |[],_,_,_,ha,_,_=>by cases ha
 |c::l,h,a,b,ha,hb,e=>by
  rw[uY,List.nodup_cons]at h;rcases vP ha with ea|ha1
  ·rcases vP hb with eb|hb1
   ·rw[ea,eb]
   ·exact absurd (uS ⟨b,hb1,by rw[←e,ea]⟩) h.1
  ·rcases vP hb with eb|hb1
   ·exact absurd (uS ⟨a,ha1,by rw[e,eb]⟩) h.1
   ·exact uB f h.2 ha1 hb1 e
theorem Gq {cs:List Cl}{a b:Cl}(ha:a∈cs)(hb:b∈cs)(e:cP (kC a)=cP (kC b)):(a.o,a.n)=(b.o,b.n):=by
 have h:=oi (Cj cs) (uS ⟨a,ha,rfl⟩) (uS ⟨b,hb,rfl⟩) e;unfold kC at h;injection h with h1 h2;injection h1 with h1;injection h2 with _ h3;injection h3 with h3 _;injection h3 with h3;rw[h1,show a.n=b.n by omega]
theorem J9 (g:fM ab)(aa:Int)(h:zG (am ab aa) l dd st)(hj:l.length<=60)(hx:x∈am ab aa)(OV:bq x.1=false)(v5:Option (D×Bool)):
  ∃w5,(kZ [sF (.tup ab),sF (.int aa),lT (st.1.map aU),some (.dt st.2.1 st.2.2,true),sF (.int x.2),v5]=some (.nx [sF (.tup ab),sF (.int aa),lT ((dN (am ab aa) st x).1.map aU),some (.dt (dN (am ab aa) st x).2.1 (dN (am ab aa) st x).2.2,true),sF (.int x.2),w5])
   ∨ kZ [sF (.tup ab),sF (.int aa),lT (st.1.map aU),some (.dt st.2.1 st.2.2,true),sF (.int x.2),v5]=some (.ct [sF (.tup ab),sF (.int aa),lT ((dN (am ab aa) st x).1.map aU),some (.dt (dN (am ab aa) st x).2.1 (dN (am ab aa) st x).2.2,true),sF (.int x.2),w5])):=by
 obtain⟨ha,gx⟩:=dF g hx;have sw:st.1.length<=60:=by have:=h.len;omega
 have hf:bu x.1=true:=gx.rp.flat;have ec:=DA g aa st.1 sw hx OV;have CC:dQ (bg (fA mP (fV 0 (fV 1 (fV 2 (fV 4 ai)))))) [sF (.tup ab),sF (.int aa),lT (st.1.map aU),some (.dt st.2.1 st.2.2,true),sF (.int x.2),some (x.1,false)]=some (!cC (am ab aa) st.1 x) :=
  bH (cA (aI [.tup ab,.int aa,.lst (st.1.map aU),.int x.2] (by simp) ec))
 have hw:fA aK (fV 5 ai) [sF (.tup ab),sF (.int aa),lT (st.1.map aU),some (.dt st.2.1 st.2.2,true),sF (.int x.2),some (x.1,false)]=sF (.str (kindOf x.1)):=aI [x.1] rfl (ji gx);refine⟨some (x.1,false),?_⟩;cases hc:cC (am ab aa) st.1 x with
 |false=>
  rw[hc]at CC;have es:dN (am ab aa) st x=st:=by unfold dN;rw[hc];rfl
  rw[es];exact .inr (fz x.1 (by simp[ha]) hf (Tz (ls CC rfl)))
 |true=>
  rw[hc]at CC;left;refine fz x.1 (by simp[ha]) hf (dz (lU CC rfl) ?_);by_cases hn:kindOf x.1 = "named"
  ·have es:dN (am ab aa) st x=(st.1++[⟨a9 1 x.1,a9 2 x.1,aG x.1,none,x.2⟩],st.2):=by unfold dN;rw[hc,if_pos rfl,if_pos hn]
   rw[es];refine ls (bT (bb:=false) hw (decide_eq_true hn)) ?_;have OW:au [x.1,.str "office"]=sF (.str (a9 1 x.1))/\au [x.1,.str "person"]=sF (.str (a9 2 x.1)):=by
    obtain⟨a,k,aD,e,d⟩:=gx;rw[e]at hn ⊢;replace hn:k = "named":=hn;cases d with
    |named d o p=>exact⟨bv (i:=1) (bp (by decide +kernel)) rfl,bv (i:=2) (bp (by decide +kernel)) rfl⟩
    |root=>exact absurd hn (by decide +kernel)
    |chosen=>exact absurd hn (by decide +kernel)
    |heir=>exact absurd hn (by decide +kernel)
    |three _ hk=>rcases hk with rfl|rfl|rfl<;>exact absurd hn (by decide +kernel)
    |other _ hk=>rcases hk with rfl|rfl|rfl|rfl|rfl<;>exact absurd hn (by decide +kernel)
   have xh:aT [x.1]=sF (.int (aG x.1)):=by rw[rG gx];unfold sO;rw[OV];rfl
   have e2:f2 cm (aj 2) (fA bj (ae (fA gB (fV 5 (ae (fA aT (fV 5 ai)) (fV 4 ai)))) ai)) [sF (.tup ab),sF (.int aa),lT (st.1.map aU),some (.dt st.2.1 st.2.2,true),sF (.int x.2),some (x.1,false)]=lT (st.1.map aU++[aU ⟨a9 1 x.1,a9 2 x.1,aG x.1,none,x.2⟩]):=by
    refine g9 (x:=.lst (st.1.map aU)) (y:=.lst [aU ⟨a9 1 x.1,a9 2 x.1,aG x.1,none,x.2⟩]) (b1:=false) (b2:=true) rfl ?_ (if_pos (dA (by rw[vI,List.length_singleton];omega)));exact aI [aU ⟨a9 1 x.1,a9 2 x.1,aG x.1,none,x.2⟩] (aF (aI [x.1,.int (aG x.1),.int x.2] (bY rfl (bY (aI [x.1] rfl xh) rfl)) (Ls OW.1 OW.2 _ _)) rfl) (de _ (by simp))
   have:=pP (i:=2) e2 (by have hq:=iB (st.1++[(⟨a9 1 x.1,a9 2 x.1,aG x.1,none,x.2⟩:Cl)]);rwa [uW]at hq);rw[uW];exact this
  ·refine lU (bT (bb:=false) hw (decide_eq_false hn)) ?_;by_cases pD:kindOf x.1 = "chosen"
   ·have es:dN (am ab aa) st x=(cw st.1 [a9 2 x.1] (a9 1 x.1) (iE 4 x.1)++[⟨a9 2 x.1,a9 3 x.1,iE 4 x.1,none,x.2⟩],st.2):=by unfold dN;rw[hc,if_pos rfl,if_neg hn,if_pos pD]
    rw[es];refine ls (bT (bb:=false) hw (decide_eq_true pD)) (pP (i:=2) (aI [.lst (st.1.map aU),x.1,.int x.2] rfl ?_) (iB _));obtain⟨a,k,aD,e,d⟩:=gx;rw[e]at pD ⊢;replace pD:k = "chosen":=pD;cases d with
    |chosen d b o p s=>exact DB st.1 sw x.2
    |root=>exact absurd pD (by decide +kernel)
    |named=>exact absurd pD (by decide +kernel)
    |heir=>exact absurd pD (by decide +kernel)
    |three _ hk=>rcases hk with rfl|rfl|rfl<;>exact absurd pD (by decide +kernel)
    |other _ hk=>rcases hk with rfl|rfl|rfl|rfl|rfl<;>exact absurd pD (by decide +kernel)
   ·refine lU (bT (bb:=false) hw (decide_eq_false pD)) ?_;by_cases hh:kindOf x.1 = "heir"
    ·have es:dN (am ab aa) st x=(st.1,dJ st.2.1 [.inr (a9 2 x.1),.inr (a9 1 x.1)],dL st.2.1 st.2.2 [.inr (a9 2 x.1),.inr (a9 1 x.1)] (.str (a9 3 x.1))):=by unfold dN;rw[hc,if_pos rfl,if_neg hn,if_neg pD,if_pos hh]
     rw[es];have OW:au [x.1,.str "office"]=sF (.str (a9 2 x.1))/\au [x.1,.str "by"]=sF (.str (a9 1 x.1))/\au [x.1,.str "person"]=sF (.str (a9 3 x.1)):=by
      obtain⟨a,k,aD,e,d⟩:=gx;rw[e]at hh ⊢;replace hh:k = "heir":=hh;cases d with
      |heir d b o p=>exact⟨bv (i:=2) (bp (by decide +kernel)) rfl,bv (i:=1) (bp (by decide +kernel)) rfl,bv (i:=3) (bp (by decide +kernel)) rfl⟩
      |root=>exact absurd hh (by decide +kernel)
      |named=>exact absurd hh (by decide +kernel)
      |chosen=>exact absurd hh (by decide +kernel)
      |three _ hk=>rcases hk with rfl|rfl|rfl<;>exact absurd hh (by decide +kernel)
      |other _ hk=>rcases hk with rfl|rfl|rfl|rfl|rfl<;>exact absurd hh (by decide +kernel)
     exact ls (bT (bb:=false) hw (decide_eq_true hh)) (J8 (ks:=st.2.1) (vs:=st.2.2) (kd:=[.str (a9 2 x.1),.str (a9 1 x.1)]) (b:=false) rfl (aI [x.1,.str "person"] rfl OW.2.2) (aF (aI [x.1,.str "office"] rfl OW.1) (aF (aI [x.1,.str "by"] rfl OW.2.1) rfl)) rfl rfl (by have:=h.hk;omega) (by simp))
    ·refine lU (bT (bb:=false) hw (decide_eq_false hh)) ?_;have es:dN (am ab aa) st x=(cw st.1 (st.1.map Cl.o) (a9 1 x.1) (aG x.1)++rQ (am ab aa) st.1 st.2.1 st.2.2 (a9 1 x.1) (aG x.1) x.2,st.2):=by unfold dN;rw[hc,if_pos rfl,if_neg hn,if_neg pD,if_neg hh]
     rw[es];have hd:kindOf x.1 = "death":=by
      unfold cC at hc;by_cases hd:kindOf x.1 = "death"
      ·exact hd
      ·rw[if_neg hd,if_neg (by simp[sQ,hn,pD,hh])]at hc;cases hc
     refine pP (i:=2) (aI [.tup ab,.int aa,.lst (st.1.map aU),.dt st.2.1 st.2.2,.int x.2] (by simp) ?_) (iB _);obtain⟨a,k,aD,e,d⟩:=gx;have hk:k = "death":=by rw[e]at hd;exact hd
     subst hk;obtain⟨dd,p,rfl⟩:=d.deed.three (by decide +kernel);have:=Go g aa st.1 sw st.2.1 st.2.2 h.hs hx e;rw[this,e];rfl
theorem Ck (K:KL):∀(l l0:KL)(st:Lu)(dd:List Str),zG K l0 dd st->((l0++l).map (·.2)).Nodup->∃Kg,zG K (l0++l) Kg (l.foldl (dN K) st)
 |[],l0,st,dd,h,_=>⟨dd,by rw[uQ];exact h⟩
 |x::l,l0,st,dd,h,hn=>by
  have hx:x.2∉l0.map (·.2):=λhm=>by
   rw[uW,List.nodup_append]at hn;exact hn.2.2 _ hm x.2 (by simp) rfl
  obtain⟨Kg,h'⟩:=h.step hx;have e:l0++x::l=(l0++[x])++l:=by simp
  rw[e]at hn ⊢;exact Ck K l _ _ _ h' hn
theorem Cm (K l:KL)(h:(l.map (·.2)).Nodup):∃dd,zG K l dd (nE K l):=by
 have:=Ck K l [] ([],[],[]) [] ⟨uN _,by simp,by simp,by simp,by simp,uN _⟩ h;exact this
theorem lf (h:(K.map (·.2)).Nodup):((cL K).map (·.2)).Nodup:=((bN _ _).map _).nodup_iff.mpr (List.Nodup.sublist (List.Sublist.map _ List.filter_sublist) h)
theorem lg {ab:List D}(g:fM ab)(aa:Int)(bR:(cL (am ab aa)).length<=60):j3 [.tup ab,.int aa]=lT ((bi (am ab aa)).map aU)/\(bi (am ab aa)).length<=60:=by
 have eL:dX [.tup ab,.int aa]=lT ((cL (am ab aa)).map λx=>.int x.2):=pq g aa;generalize hK:am ab aa=K at bR eL ⊢;have oC:∀x∈cL K,x∈K/\bq x.1=false:=λx hx=>by
  obtain⟨h1,h2⟩:=vN ((bN _ _).mem_iff.mp hx);exact⟨h1,by simpa using h2⟩
 have Kv:((cL K).map (·.2)).Nodup:=lf (by rw[←hK];exact eF ab aa);obtain⟨ρ',e,v4,v5,rfl⟩:=iq (tg:=dD 4) (g:=kZ) (λj ρ=>∃v4 v5:Option (D×Bool),ρ=[sF (.tup ab),sF (.int aa),lT ((nE K ((cL K).take j)).1.map aU),some (.dt (nE K ((cL K).take j)).2.1 (nE K ((cL K).take j)).2.2,true),v4,v5]) ((cL K).map λx=>.int x.2)
  [sF (.tup ab),sF (.int aa),lT [],some (.dt [] [],true),none,none] ⟨none,none,rfl⟩ (by
   rintro j d ρ hd ⟨v4,v5,rfl⟩;rw[vA]at hd;obtain⟨x,hx,rfl⟩:=oY hd;have ZR:j<(cL K).length:=(vV hx).1;have et:(cL K).take (j+1)=(cL K).take j++[x]:=by rw[List.take_add_one,hx];rfl
   have ef:nE K ((cL K).take (j+1))=dN K (nE K ((cL K).take j)) x:=by rw[et];unfold nE;rw[List.foldl_append];rfl
   obtain⟨Sz,Za⟩:=oC x (vL hx);obtain⟨dd,h⟩:=Cm K ((cL K).take j) (List.Nodup.sublist (List.Sublist.map _ (List.take_sublist _ _)) Kv);rw[←hK]at h;have nO:=J9 g aa h (by rw[hK,List.length_take];omega) (x:=x) (by rw[hK];exact Sz) Za v5;rw[hK]at nO;obtain⟨w5,nO⟩:=nO;exact⟨_,_,rfl,nO,sF (.int x.2),w5,by rw[ef]⟩)
 have nL:(cL K).take ((cL K).map λx=>D.int x.2).length=cL K:=by rw[vI,List.take_length]
 rw[nL]at e;obtain⟨dd,sw⟩:=Cm K (cL K) Kv;generalize xm:(nE K (cL K))=st at e sw;have oB:st.1.length<=60:=by have:=sw.len;omega
 have WD:bi K=eI (λc=>cP (kC c)) st.1:=by unfold bi;rw[xm]
 have hm:∀ρ:DL.Env,jK (sL gA ρ) (st.1.map aU)=some (st.1.map λc=>.tup [.str c.o,.int c.s,.int c.n]):=λρ=>iA st.1 λc _=>by
  show(gA [aU c]).map _=_;rw[wL];rfl
 have hk:dU (st.1.map λc=>D.tup [.str c.o,.int c.s,.int c.n])=some (st.1.map kC):=gW st.1 λc _=>rfl;have j9:(st.1.map kC).length<64/\eJ (st.1.map kC)=true/\fJ (st.1.map kC)=true/\((st.1.map kC).map cP).Nodup:=by
  refine⟨by rw[vI];omega,Cj _,?_,?_⟩
  ·unfold fJ;rw[Bool.or_eq_true];right;simp[List.all_eq_true,kC]
  ·rw[uP];have h1:st.1.Pairwise λa b=>(a.o,a.n)≠(b.o,b.n):=List.pairwise_map.mp sw.nod;have h2:st.1.Pairwise λa b=>cP (kC a)≠cP (kC b):=by
    refine List.Pairwise.imp_of_mem ?_ h1;intro a b ha hb lJ e;exact lJ (Gq ha hb e)
   exact List.pairwise_map.mpr h2
 have hz:(st.1.map kC).zip (st.1.map aU)=st.1.map λc=>(kC c,aU c):=by rw[List.zip_map']
 have key:((bi K).map λc=>(kC c,aU c))=eI (λp:List At×D=>cP p.1) (st.1.map λc=>(kC c,aU c)):=by
  rw[WD];refine k7 _ (λx hx y hy e=>?_) ((bN _ _).map _) ?_
  ·obtain⟨a,ha,rfl⟩:=vO hx;obtain⟨b,hb,rfl⟩:=vO hy;rw[uB (λc:Cl=>(c.o,c.n)) sw.nod ha hb (Gq ha hb e)]
  ·exact List.pairwise_map.mpr (ig _ _)
 refine⟨av rfl (bX (ds:=[]) (by simp[sizeLine]) rfl (dz (ρ':=[sF (.tup ab),sF (.int aa),lT [],some (.dt [] [],true),none,none]) rfl (dz (kY (ds:=(cL K).map λx=>.int x.2) ?_ e) (ay ?_)))),by rw[WD,(bN _ _).length_eq];exact oB⟩
 ·show(fA dX (fV 0 (fV 1 ai)) _).bind _=_;rw[aI [.tup ab,.int aa] rfl eL];rfl
 ·unfold qA;show((some (D.lst (st.1.map aU),false)).bind _)=_;simp only[vJ];rw[hm];simp only[vJ];rw[hk];simp only[vJ];rw[if_pos j9];unfold jw;rw[hz,←key,uP];rfl
end Lw
namespace Lw
open PySem PySem.Spec DL L2
theorem ze (ns:List Int)(k:Nat)(x:Int):∃c:Int,(aA (aS 2 (f2 bQ (f2 gp (f2 cm (f2 cm (f2 bQ (aj 2) (fI 2147483629)) (f2 gp (fI 6151) (aj 1))) (fI 1)) (fI 48271)) (fI 2147483647)))
  (aR (f2 bQ (f2 gp (aj 2) (f2 cm (f2 cm (f2 bQ (aj 2) (fI 65519)) (aj 1)) (fI 2))) (fI 2147483629)))) [sF (.lst (ns.map .int)),sF (.int k),sF (.int x)]=some (.rt (.int c) false)/\0<=c:=by
 obtain⟨y,hy⟩:∃y,((x % 2147483629+6151*k+1)*48271) % 2147483647=y:=⟨_,rfl⟩;have hb:0<=y/\y<2147483647:=by rw[←hy];exact mod_lt (by decide)
 have hc : -18446744073709551616<y/\y<18446744073709551616:=by omega
 exact⟨(y*(y % 65519+k+2)) % 2147483629,fz (.int y) (by simp[hy]) rfl (ay (by simp[hc])),(mod_lt (by decide)).1⟩
theorem gQ (ns:List Int)(k:Nat):∃c:Int,da [.lst (ns.map .int),.int k]=sF (.int c)/\0<=c:=by
 by_cases h:ns.length=0
 ·have e:ns=[]:=List.length_eq_zero_iff.mp h;subst e;obtain⟨c,h1,h2⟩:=ze [] k 5;exact⟨c,av rfl (fz (.int 5) rfl rfl (aB (cA (by simp)) h1)),h2⟩
 ·have hm:=mod_lt (x:=(k:Int)) (m:=ns.length) (by omega);obtain⟨c,h1,h2⟩:=ze ns k (ns.getD ((k:Int) % ns.length).toNat 0);refine⟨c,av rfl (fz (.int 5) rfl rfl (dz (ls (cA (by simp;omega)) (mL (d:=.int (ns.getD ((k:Int) % ns.length).toNat 0)) (b:=false) ?_ rfl)) h1)),h2⟩;refine b7 (.lst (ns.map .int)) (.int ((k:Int) % ns.length)) rfl ?_ (BO hm.1 (by omega));refine b7 (.int k) (.int ns.length) rfl (by simp) ?_;have lJ:¬ns=[]:=λe=>h (by rw[e];rfl);simp[bQ,lJ]
theorem Gr {ρ:DL.Env}{i n:Nat}{ds:List D}{fk fv:FE}{d:D}{b b':Bool}(e:ρ[i]? = some (lT ds))(ev:fv ρ=some (d,b))(ek:fk ρ=some (.int n,b'))(hn:n<ds.length)(hf:bu d=true):Dn i fk fv ρ=some (.nx (ρ.set i (lT (ds.set n d)))):=by
 have hx:CS ds.length (n:Int)=some n:=by
  unfold CS;rw[if_pos (by omega)];simp[hn]
 simp only[Dn,e,ev,ek,vJ,hx,if_pos hf]
theorem Cn:∀(zs:List Str),(∀z∈zs,z.length=1)->(zs.map (·.length)).sum=zs.length
 |[],_=>rfl
 |z::zs,h=>by
  rw[uY,List.sum_cons,Cn zs λy hy=>h y (mZ _ hy),h z mX,vE];omega
theorem Co (x:Int):0<=x % 26/\x % 26<26:=mod_lt (by decide)
noncomputable def nF:PySem.Str:="abcdefghijklmnopqrstuvwxyz"
theorem DC:nF.cps.size=26:=by decide +kernel
def Q2 (x:Int):Str:=⟨#[nF.cps.toList.getD (x % 26).toNat 0]⟩
theorem Gs (x:Int):bC (.str nF) (.int (x % 26))=sF (.str (Q2 x)):=DL.zZ (Co x).1 (by rw[DC];have:=Co x;omega) (by decide +kernel)
theorem zf:∀(zs:List Str)(y:Str),(Str.join ("" : Str) (y::zs)).cps.toList=(y::zs).flatMap λz=>z.cps.toList
 |[],y=>by rw[uO,List.flatMap_nil,uQ];rfl
 |z::r,y=>by
  have e3:∀a b:Str,(a++b).cps.toList=a.cps.toList++b.cps.toList:=λa b=>by show(a.cps++b.cps).toList=_;simp
  show(y++("" : Str)++Str.join ("" : Str) (z::r)).cps.toList=_;rw[e3,e3,zf r z,show("" : Str).cps.toList=[]from rfl,uQ];rfl
theorem Gu (h:zs≠[]):(Txt.join ("" : Str) zs).cps.toList=zs.flatMap λz=>z.cps.toList:=by
 cases zs with
 |nil=>exact absurd rfl h
 |cons y zs=>
  unfold Txt.join;rw[StrLaws.glued_eq_join];exact zf zs y
theorem nG (x y:Nat):∀(bs:List Str)(a:Nat),a<bs.length->(∀z∈bs,∃c,z.cps.toList=[c])->((bs.set a ⟨#[x]⟩).flatMap λz=>z.cps.toList)=((bs.set a ⟨#[y]⟩).flatMap λz=>z.cps.toList)->x=y
 |b::bs,0,_,_,h=>by
  rw[List.set_cons_zero,List.set_cons_zero,uO,uO]at h;exact(List.cons.inj h).1
 |b::bs,a+1,hl,hb,h=>by
  rw[List.set_cons_succ,List.set_cons_succ,uO,uO]at h;exact nG x y bs a (by simpa using hl) (λz hz=>hb z (mZ _ hz)) (List.append_cancel_left h)
theorem Gv:∀i j:Fin 26,nF.cps.toList.getD i.val 0=nF.cps.toList.getD j.val 0->i=j:=by decide +kernel
def zg (bs:List Str)(a:Nat)(c:Int)(i:Nat):Str:=Txt.join ("" : Str) (bs.set a (Q2 (c / 64+3*(i:Int))))
theorem Lv {bs:List Str}{a:Nat}{c:Int}{i j:Nat}(ha:a<bs.length)(hb:∀z∈bs,∃c,z.cps.toList=[c])(CA:(3*(i:Int) - 3*(j:Int)) % 26≠0):zg bs a c i≠zg bs a c j:=by
 intro e;have e:=congrArg (λs:Str=>s.cps.toList) e;unfold zg at e;have lJ:∀x,bs.set a x≠[]:=λx z=>by have:=congrArg List.length z;rw[List.length_set,List.length_nil]at this;omega
 simp only[Gu (lJ _)]at e;have:=nG _ _ bs a ha hb e;have h1:=Co (c / 64+3*(i:Int));have h2:=Co (c / 64+3*(j:Int));have:=Gv ⟨((c / 64+3*(i:Int)) % 26).toNat,by omega⟩ ⟨((c / 64+3*(j:Int)) % 26).toNat,by omega⟩ this;have:=congrArg Fin.val this;simp only at this;omega
theorem Gw (c:Int)(hc:0<=c):∃zs:List Str,ou [.int c]=lT (zs.map .str)/\zs.length=7/\∀x y,zs[5]? = some x->zs[6]? = some y->x≠y:=by
 have h8:=mod_lt (x:=c) (m:=8) (by decide);obtain⟨n,hn⟩:∃n:Nat,1+c % 8=n:=⟨(1+c % 8).toNat,by omega⟩;have S1:1<=n:=by omega
 have ZS:n<=8:=by omega
 let bs:List Str:=(List.range n).map λ(k:Nat)=>Q2 (c / (3+4*k));have OX:bs.length=n:=by simp[bs]
 have hb:=mM (fi:=ga (f2 cm (fI 1) (f2 bQ (aj 0) (fI 8)))) (nT:=1) (cap:=[1,0]) (tg:=dD 0) (fe:=f2 bC (aj 1) (f2 bQ (f2 cS (aj 2) (f2 cm (fI 3) (f2 gp (fI 4) (aj 0)))) (fI 26)))
  (ρ:=[sF (.int c),sF (.str nF),none,none,none,none,none]) (List.range n) (λ(k:Nat)=>.int k) (λ(k:Nat)=>.str (Q2 (c / (3+4*k))))
  (by rw[gU (j:=n) (b:=false) (by simp;omega) (by omega),D5];simp) (by simp;omega) λk hk=>by
   have hk:=List.mem_range.mp hk;refine⟨_,rfl,false,b7 (.str nF) (.int (c / (3+4*k) % 26)) (by simp[cF]) ?_ (Gs _)⟩;have h1:(0:Int)<3+4*k:=by omega
   have h2:(3:Int)+4*k<1073741824:=by omega
   simp[cF,h1,h2]
 have Zb:cf (ga (f2 cm (fI 1) (f2 bQ (aj 0) (fI 8)))) 1 [1,0] (dD 0) hU (f2 bC (aj 1) (f2 bQ (f2 cS (aj 2) (f2 cm (fI 3) (f2 gp (fI 4) (aj 0)))) (fI 26))) [sF (.int c),sF (.str nF),none,none,none,none,none]=lT (bs.map .str):=by
  rw[hb];simp[bs]
 have ZT:=mod_lt (x:=c / 8) (m:=n) (by omega);obtain⟨a,ha⟩:∃a:Nat,c / 8 % n=a:=⟨(c / 8 % n).toNat,by omega⟩;obtain⟨zs,v5,v6,e,hz,Ol⟩:∃(zs:List Str)(v5 v6:Option (D×Bool)),iY (dD 5) lZ (fZ 0 7) [sF (.int c),sF (.str nF),lT (bs.map .str),sF (.int (c / 8 % n)),lT [],none,none]=some (.nx [sF (.int c),sF (.str nF),lT (bs.map .str),sF (.int (c / 8 % n)),lT (zs.map .str),v5,v6])/\zs.length=7/\zs=(List.range 7).map (zg bs a c):=by
  obtain⟨ρ',e,zs,v5,v6,rfl,hz,Ol⟩:=kB (tg:=dD 5) (g:=lZ) 7 (λi ρ=>∃(zs:List Str)(v5 v6:Option (D×Bool)),ρ=[sF (.int c),sF (.str nF),lT (bs.map .str),sF (.int (c / 8 % n)),lT (zs.map .str),v5,v6]/\zs.length=i/\zs=(List.range i).map (zg bs a c))
   [sF (.int c),sF (.str nF),lT (bs.map .str),sF (.int (c / 8 % n)),lT [],none,none] ⟨[],none,none,rfl,rfl,rfl⟩ (by
    rintro i ρ hi ⟨zs,v5,v6,rfl,hz,Ol⟩;let l:=Q2 (c / 64+3*i);let nm:=bs.set a l;have h1:∀z∈nm,z.length=1:=λz hz=>by
     rcases List.mem_or_eq_of_mem_set hz with h|h
     ·obtain⟨k,_,rfl⟩:=vO h;rfl
     ·rw[h];rfl
    have Sw:nm.length=n:=by simp[nm,OX]
    refine⟨_,_,rfl,.inl (bX (ds:=bs.map .str) (by simp) (di _) (dz (Gr (n:=a) (ds:=bs.map .str) (d:=.str l) (b:=false) (b':=false) rfl ?_ ?_ (by simp[OX];omega) rfl) (jd (ds:=zs.map .str) (d:=.str (Txt.join ("" : Str) nm)) (b:=false) rfl ?_ rfl (bO (by simp;omega))))),zs++[Txt.join ("" : Str) nm],sF (.int i),lT (nm.map .str),?_,by simp[hz],by rw[Ol,List.range_succ,uW];rfl⟩
    ·exact b7 (.str nF) (.int ((c / 64+3*i) % 26)) rfl (by simp) (Gs _)
    ·simp[ha]
    ·refine b7 (.str "") (.lst (nm.map .str)) rfl (by simp[nm]) ?_;show(gL (nm.map .str)).bind _=_;rw[nz];have:=Cn nm h1;have h0:("" : Str).length=0:=rfl;show(if _ then _ else _)=_;rw[if_pos (by rw[this,h0,Sw];omega)]
    ·simp[nm])
  exact⟨zs,v5,v6,e,hz,Ol⟩
 have hsz:(bs.length:Int)=n:=by omega
 refine⟨if c / 1000 % 8=1 then zs.set 5 (zs.getD 0 ⟨#[]⟩)else zs,?_,by split<;>simp[hz],?_⟩
 refine av rfl (fz (.str nF) rfl rfl (bX (ds:=bs.map .str) Zb (di _) (fz (.int (c / 8 % n)) ?_ rfl (bX (ds:=[]) (by simp[sizeLine]) (by simp) (dz (kF (gU (j:=7) (b:=false) rfl (by decide)) e) ?_)))))
 ·have:(bs.length:Int)≠0:=by omega
  refine b7 (.int (c / 8)) (.int n) (by simp) (by simp[OX]) ?_;have h1:(0:Int)<n:=by omega
  show(if decide ((0:Int)<n)=true then _ else _)=_;rw[if_pos (decide_eq_true h1)]
 ·by_cases h:c / 1000 % 8=1
  ·rw[if_pos h];have h5:5<(zs.map D.str).length:=by simp[hz]
   obtain⟨z0,zr,rfl⟩:∃z0 zr,zs=z0::zr:=by cases zs with|nil=>simp at hz|cons a b=>exact⟨a,b,rfl⟩
   refine dz (ls (cA (by simp[h])) (Gr (n:=5) (ds:=(z0::zr).map .str) (d:=.str z0) (b:=false) (b':=false) rfl ?_ rfl h5 rfl)) (mK ?_)
   ·exact b7 (.lst ((z0::zr).map .str)) (.int 0) rfl rfl (by simp[D6])
   ·simp
  ·rw[if_neg h];exact aB (cA (by simp[h])) (mK rfl)
 ·have Sx:a<bs.length:=by omega
  have WE:∀z∈bs,∃c,z.cps.toList=[c]:=λz hz=>by obtain⟨k,_,rfl⟩:=vO hz;exact⟨_,rfl⟩
  intro x y hx hy;have h0:zs[0]? = some (zg bs a c 0):=by rw[Ol];rfl
  have h5:zs[5]? = some (zg bs a c 5):=by rw[Ol];rfl
  have h6:zs[6]? = some (zg bs a c 6):=by rw[Ol];rfl
  split at hx
  ·rename_i hc8;rw[if_pos hc8,vB (by decide),h6]at hy;rw[List.getElem?_set_self (by omega),vF,h0]at hx;cases hx;cases hy
   exact Lv Sx WE (by decide)
  ·rename_i hc8;rw[if_neg hc8,h6]at hy;rw[h5]at hx;cases hx;cases hy
   exact Lv Sx WE (by decide)
def iL (x:Int×Option Int):D:=.tup [.int x.1,uD x.2]
theorem j6 (x:Int×Option Int):bu (iL x)=true:=by simp[iL,Cf]
theorem uC (x:Int×Option Int):aq 5 (iL x)=true:=by obtain⟨s,u⟩:=x;cases u<;>simp[iL,uD]
theorem AQ (a d m:Int):∃x,gE [.int a,.int d,.int m]=some (iL x,false):=by
 have h8:=mod_lt (x:=a) (m:=8) (by decide);let L1:List (Int×Option Int):=[(0,none),(d,none),(d,some (d+3*m)),(0,some (d+2*m)),(0,some (9*m))];let L2:List (Int×Option Int):=[(d+m,some (d+4*m)),(d / 2,some (d+6*m)),(0,none)];have p5:∀L:List (Int×Option Int),b8 (L.map iL)=true:=λL=>bI λd hd=>by obtain⟨x,_,rfl⟩:=vO hd;exact j6 x
 have hi:(a % 8).toNat<((L1++L2).map iL).length:=by show _<8;omega
 refine⟨(L1++L2).getD (a % 8).toNat (0,none),av rfl (bX (ds:=L1.map iL) (by simp[L1,iL,uD,sizeLine]) (p5 _) (bX (ds:=(L1++L2).map iL) ?_ (p5 _) (ay (b7 (.lst ((L1++L2).map iL)) (.int (a % 8)) rfl (by simp) ((AG h8.1 hi).trans ?_)))))⟩
 ·refine g9 (x:=.lst (L1.map iL)) (y:=.lst (L2.map iL)) (b1:=false) (b2:=true) rfl (by simp[L2,iL,uD,sizeLine]) ?_;simp[L1,L2,sizeLine]
 ·rw[vF,vA,vF];rw[vI]at hi;rw[vU hi];rfl
theorem o6 {zs:List Str}{i:Int}(h1 : -(zs.length:Int)<=i)(h2:i<zs.length):∃z∈zs,bC (.lst (zs.map .str)) (.int i)=sF (.str z):=by
 obtain⟨j,hj,hl⟩:∃j,CS (zs.map D.str).length i=some j/\j<zs.length:=by
  unfold CS;rw[vI];by_cases h0:0<=i
  ·rw[if_pos h0,if_pos h2];exact⟨_,rfl,by omega⟩
  ·rw[if_neg h0,if_pos (by omega)];exact⟨_,rfl,by omega⟩
 refine⟨zs[j],List.getElem_mem hl,?_⟩;have:oE (zs.map D.str) i=some (.str zs[j]):=by unfold oE;rw[hj,vJ,vA,vU hl];rfl
 simp[this]
noncomputable def MR:List Nat:=[7,255,3,15]
noncomputable def MS:List Nat:=[1,2,3,4,5,7,128,255]
inductive Dd:Str->List D->Prop
 |root (o r:Str) (m:Nat) (hm:m∈MR) (f:Int):Dd ("root" : Str) [.str o,.int m,.int f,.str r]
 |named (d:Int) (o p:Str):Dd ("named" : Str) [.int d,.str o,.str p]
 |chosen (d:Int) (b o p:Str) (s:Int):Dd ("chosen" : Str) [.int d,.str b,.str o,.str p,.int s]
 |heir (d:Int) (b o p:Str):Dd ("heir" : Str) [.int d,.str b,.str o,.str p]
 |three (k:Str) (hk:k = "death" ∨ k = "lost" ∨ k = "found") (d:Int) (p:Str):Dd k [.int d,.str p]
 |leave (d:Int) (b p:Str) (m:Nat) (hm:m∈MS) (x:Int×Option Int) (f:Int):Dd ("leave" : Str) [.int d,.str b,.str p,.int m,iL x,.int f]
 |paper (k:Str) (hk:k = "paper" ∨ k = "like") (d:Int) (b:Str) (m:Nat) (hm:m∈MS) (x:Int×Option Int) (r:List D) (hf:b8 r=true) (hp:r.all (aq 5)=true):Dd k (.int d::.str b::.int m::iL x::r)
 |copy (k:Str) (hk:k = "copy" ∨ k = "call") (d:Int) (b:Str) (n:Nat):Dd k [.int d,.str b,.int n]
theorem Dd.cd (h:Dd k r):Cd k r:=by
 cases h with
 |root o r m hm f=>exact .root _ _ _ _
 |named d o p=>exact .named _ _ _
 |chosen d b o p s=>exact .chosen _ _ _ _ _
 |heir d b o p=>exact .heir _ _ _ _
 |three k hk d p=>exact .three _ hk _ _
 |leave d b p m hm x f=>exact .other _ (.inl rfl) _ _ _ (by simp[j6]) (by simp only[List.all_cons,List.all_nil,uC,aq,Bool.and_true])
 |paper k hk d b m hm x r hf hp=>exact .other _ (hk.elim (λh=>.inr (.inl h)) λh=>.inr (.inr (.inl h))) _ _ _ (by simp[hf,j6]) (by simp only[List.all_cons,hp,uC,aq,Bool.and_true])
 |copy k hk d b n=>exact .other _ (hk.elim (λh=>.inr (.inr (.inr (.inl h)))) λh=>.inr (.inr (.inr (.inr h)))) _ _ _ rfl (by simp)
theorem Dd.had3 (h:Dd k r)(hk:k = "leave" ∨ k = "named"):∃p,r[2]? = some (.str p):=by
 have hk:k∈[("leave" : Str),"named"]:=by simpa using hk
 cases h with
 |named d o p=>exact⟨p,rfl⟩
 |leave d b p=>exact⟨p,rfl⟩
 |root=>exact absurd hk (by decide +kernel)
 |chosen=>exact absurd hk (by decide +kernel)
 |heir=>exact absurd hk (by decide +kernel)
 |three k fD=>rcases fD with rfl|rfl|rfl<;>exact absurd hk (by decide +kernel)
 |paper k fD=>rcases fD with rfl|rfl<;>exact absurd hk (by decide +kernel)
 |copy k fD=>rcases fD with rfl|rfl<;>exact absurd hk (by decide +kernel)
theorem Dd.had4 (h:Dd k r)(hk:k = "chosen"):∃p,r[3]? = some (.str p):=by
 cases h with
 |chosen d b o p=>exact⟨p,rfl⟩
 |root=>exact absurd hk (by decide +kernel)
 |named=>exact absurd hk (by decide +kernel)
 |leave=>exact absurd hk (by decide +kernel)
 |heir=>exact absurd hk (by decide +kernel)
 |three k fD=>rcases fD with rfl|rfl|rfl<;>exact absurd hk (by decide +kernel)
 |paper k fD=>rcases fD with rfl|rfl<;>exact absurd hk (by decide +kernel)
 |copy k fD=>rcases fD with rfl|rfl<;>exact absurd hk (by decide +kernel)
theorem Dd.flat (h:Dd k r):b8 r=true:=h.cd.deed.flat
noncomputable def fu:List Str:=[("leave" : Str),"leave","leave","leave","paper","paper","like","copy","copy","call","call","call","call","lost","lost","lost","found","death"]
theorem DD (h:w∈fu):w = "leave" ∨ w = "paper" ∨ w = "like" ∨ w = "copy" ∨ w = "call" ∨ w = "death" ∨ w = "lost" ∨ w = "found":=by
 simp only[fu,List.mem_cons,List.not_mem_nil,or_false]at h;rcases h with rfl|rfl|rfl|rfl|rfl|rfl|rfl|rfl|rfl|rfl|rfl|rfl|rfl|rfl|rfl|rfl|rfl|rfl<;>simp
theorem Gx (many c o day m:Int)(zs iK:List Str)(hz:zs.length=7)(hh:iK≠[]):
  ∃(w sx p:Str)(LG:Nat),w∈fu/\∀(h:FS)(r:Option Res),h [sF (.int many),sF (.int c),sF (.int o),sF (.lst (zs.map .str)),sF (.int day),sF (.lst (iK.map .str)),sF (.int m),lT (fu.map .str),sF (.str w),sF (.str sx),sF (.str p),sF (.int LG),none,none,none]=r ->
   (aA (aS 7 (f2 cm (f2 cm (f2 cm (yB (fA bj (ae (fS "leave") ai)) (fI 4)) (yB (fA bj (ae (fS "paper") ai)) (fI 2))) (fA bj (ae (fS "like") (ae (fS "copy") (ae (fS "copy") ai))))) (yB (fA bj (ae (fS "call") ai)) (fI 4)))) (aA (aS 7 (f2 cm (aj 7) (fA bj (ae (fS "lost") (ae (fS "lost") (ae (fS "lost") (ae (fS "found") (ae (fS "death") ai)))))))) (aA (aS 8 (f2 bC (aj 7) (f2 bQ (aj 1) (fI 18)))) (aA (aS 9 (f2 bC (aj 5) (f2 Ai (f1 xX (fI 1)) (f2 bQ (f2 cS (aj 1) (fI 18)) (fA IM (ae (fI 3) (ae (fA fR (fV 5 ai)) ai))))))) (aA (dC (bg (f2 dm (f2 bQ (f2 cS (aj 1) (fI 54)) (fI 6)) (fI 1))) (aS 9 (f2 bC (aj 3) (f2 bQ (f2 cS (aj 1) (fI 324)) (fI 5)))) aX) (aA (aS 10 (f2 bC (aj 3) (f2 bQ (f2 cS (aj 1) (fI 1620)) (fI 5)))) (aA (aS 11 (fA IL (ae (fI 0) (ae (f2 Ai (f2 Ai (aj 0) (fI 1)) (f2 bQ (aj 2) (fI 4))) ai)))) (aA (dC (bg (f2 dm (f2 bQ (f2 cS (aj 2) (fI 4)) (fI 8)) (fI 1))) (aS 11 (f2 bQ (f2 cS (aj 2) (fI 32)) (fI 60))) aX) h)))))))) [sF (.int many),sF (.int c),sF (.int o),sF (.lst (zs.map .str)),sF (.int day),sF (.lst (iK.map .str)),sF (.int m),none,none,none,none,none,none,none,none]=r:=by
 have ZU:=mod_lt (x:=c) (m:=18) (by decide);obtain⟨w,hw,ew⟩:=o6 (zs:=fu) (i:=c % 18) (by simp[fu];omega) (by simp[fu];omega);obtain⟨n,hn,S1,ZV⟩:∃n:Int,(if(iK.length:Int)<3 then (iK.length:Int)else 3)=n/\0<n/\n<=iK.length:=by
  have:0<iK.length:=List.length_pos_iff.mpr hh;split
  ·exact⟨_,rfl,by omega,by omega⟩
  ·exact⟨_,rfl,by omega,by omega⟩
 have ZW:=mod_lt (x:=c / 18) (m:=n) S1;obtain⟨b0,_,Zc⟩:=o6 (zs:=iK) (i:=-1 - c / 18 % n) (by omega) (by omega);have h5:=mod_lt (x:=c / 324) (m:=5) (by decide);obtain⟨b1,_,Zd⟩:=o6 (zs:=zs) (i:=c / 324 % 5) (by omega) (by omega);have ZX:=mod_lt (x:=c / 1620) (m:=5) (by decide);obtain⟨p,_,ep⟩:=o6 (zs:=zs) (i:=c / 1620 % 5) (by omega) (by omega);have ZY:=mod_lt (x:=o / 32) (m:=60) (by decide);obtain⟨f0,Ze⟩:∃f0:Nat,(if many - 1 - o % 4 > 0 then many - 1 - o % 4 else 0)=(f0:Int):=by
  split
  ·exact⟨(many - 1 - o % 4).toNat,by omega⟩
  ·exact⟨0,rfl⟩
 obtain⟨f1,Zf⟩:∃f1:Nat,o / 32 % 60=(f1:Int):=⟨(o / 32 % 60).toNat,by omega⟩;refine⟨w,if c / 54 % 6=1 then b1 else b0,p,if o / 4 % 8=1 then f1 else f0,hw,λh r hr=>?_⟩;refine bX (ds:=(fu.take 13).map .str) ?_ (di _) (bX (ds:=fu.map .str) ?_ (di _) (fz (.str w) (b7 (.lst (fu.map .str)) (.int (c % 18)) rfl (by simp) ew) rfl (fz (.str b0) ?_ rfl (dz (ρ':=[sF (.int many),sF (.int c),sF (.int o),sF (.lst (zs.map .str)),sF (.int day),sF (.lst (iK.map .str)),sF (.int m),lT (fu.map .str),sF (.str w),sF (.str (if c / 54 % 6=1 then b1 else b0)),none,none,none,none,none]) ?_ (fz (.str p) ?_ rfl (fz (.int f0) ?_ rfl (dz ?_ hr)))))))
 ·have e1:∀(s:Str)(k:Nat),k<=100->yB (fA bj (ae (fS s) ai)) (fC (.int k)) [sF (.int many),sF (.int c),sF (.int o),sF (.lst (zs.map .str)),sF (.int day),sF (.lst (iK.map .str)),sF (.int m),none,none,none,none,none,none,none,none]=lT (List.replicate k (.str s)):=λs k hk=>by
   have h1:(k:Int)<=1000:=by omega
   have h2:k<=1000:=by omega
   have h3:∀n:Nat,(List.replicate n [D.str s]).flatten=List.replicate n (.str s):=λn=>by
    induction n with
    |zero=>rfl
    |succ n ih=>rw[List.replicate_succ,List.flatten_cons,ih,List.replicate_succ];rfl
   simp[sizeLine,h1,h2,h3]
  have z:∀n:Nat,n<=100->n<=sizeLine:=λn h=>dA (by omega);refine g9 (x:=.lst ((fu.take 9).map .str)) (y:=.lst (List.replicate 4 (.str "call"))) (b1:=true) (b2:=true) (g9 (x:=.lst ((fu.take 6).map .str)) (y:=.lst (((fu.drop 6).take 3).map .str)) (b1:=true) (b2:=true) (g9 (x:=.lst ((fu.take 4).map .str)) (y:=.lst (List.replicate 2 (.str "paper"))) (b1:=true) (b2:=true) (e1 _ 4 (by decide)) (e1 _ 2 (by decide)) ?_) (aI (((fu.drop 6).take 3).map .str) rfl (de _ (by simp[fu]))) ?_) (e1 _ 4 (by decide)) ?_
  ·refine(if_pos (c:=6<=sizeLine) (e:=none) (z 6 (by decide))).trans ?_;rfl
  ·refine(if_pos (c:=9<=sizeLine) (e:=none) (z 9 (by decide))).trans ?_;rfl
  ·refine(if_pos (c:=13<=sizeLine) (e:=none) (z 13 (by decide))).trans ?_;rfl
 ·refine g9 (x:=.lst ((fu.take 13).map .str)) (y:=.lst ((fu.drop 13).map .str)) (b1:=false) (b2:=true) rfl (aI ((fu.drop 13).map .str) rfl (de _ (by decide))) ?_;refine(if_pos (c:=18<=sizeLine) (e:=none) (dA (by decide))).trans ?_;rfl
 ·refine b7 (.lst (iK.map .str)) (.int (-1 - c / 18 % n)) rfl ?_ Zc;refine b7 (.int (-1)) (.int (c / 18 % n)) rfl ?_ rfl;refine b7 (.int (c / 18)) (.int n) (by simp) (by simp[hn]) ?_;show(if decide ((0:Int)<n)=true then _ else _)=_;rw[if_pos (decide_eq_true S1)]
 ·by_cases hx:c / 54 % 6=1
  ·rw[if_pos hx];exact ls (cA (by simp[hx])) (mL (d:=.str b1) (b:=false) (b7 (.lst (zs.map .str)) (.int (c / 324 % 5)) rfl (by simp) Zd) rfl)
  ·rw[if_neg hx];exact lU (cA (by simp[hx])) rfl
 ·exact b7 (.lst (zs.map .str)) (.int (c / 1620 % 5)) rfl (by simp) ep
 ·show some (D.int (if many - 1 - o % 4 > 0 then many - 1 - o % 4 else 0),false)=_;rw[Ze]
 ·by_cases hx:o / 4 % 8=1
  ·simp only[if_pos hx];exact ls (cA (by simp[hx])) (mL (d:=.int f1) (b:=false) (by simp[Zf]) rfl)
  ·simp only[if_neg hx];exact lU (cA (by simp[hx])) rfl
theorem nH {ns:List Int}{i:Int}(h1:0<=i)(h2:i<ns.length):∃m∈ns,bC (.lst (ns.map .int)) (.int i)=sF (.int m):=by
 have h:i.toNat<ns.length:=by omega
 refine⟨ns.getD i.toNat 0,?_,BO h1 h⟩;rw[vF,vU h];exact List.getElem_mem h
theorem rX (h : -1000<=a/\a<=1000):ME (.int a) (.int b)=sF (.int (a*b)):=by
 have : -18446744073709551616<a/\a<18446744073709551616:=by omega
 simp[this]
theorem fN (e:ρ[i]? = some (sF (.str a)))(h:decide (a=b)=false:=by decide +kernel):bg (f2 dm (aj i) (fS b)) ρ=some false:=bT (a:=a) (bb:=false) (by simp[e]) h
theorem JB (e:ρ[i]? = some (sF (.str a)))(h:decide (a=b)=true:=by decide +kernel):bg (f2 dm (aj i) (fS b)) ρ=some true:=bT (a:=a) (bb:=false) (by simp[e]) h
theorem Gy (x:Bool)(e:ρ[i]? = some (sF (.str a)))(h:decide (a∈[b,c])=x:=by decide +kernel):bg (f2 wl (aj i) (fA aP (ae (fS b) (ae (fS c) ai)))) ρ=some x:=cA (b7 (.str a) (.tup ([b,c].map .str)) (by simp[e]) (by simp[sizeLine]) (by rw[gF,h]))
theorem Lx {l:List Int}{x:Int}(h:x∈l)(hl:l.all (λy=>decide (0<=y/\y.toNat∈MS))=true):∃m:Nat,x=m/\m∈MS:=by
 have:=of_decide_eq_true (uR hl x h);exact⟨x.toNat,by omega,this.2⟩
theorem JD (many c o day m:Int)(zs iK:List Str)(hz:zs.length=7)(hh:iK≠[]):
  ∃k r,r6 [.int many,.int c,.int o,.lst (zs.map .str),.int day,.lst (iK.map .str),.int m]=sF (.tup (.str k::r))/\Dd k r/\k ≠ "root":=by
 obtain⟨w,sx,p,LG,hw,pre⟩:=Gx many c o day m zs iK hz hh;obtain⟨s,es⟩:=AQ (o / 32) day m;have h8:=mod_lt (x:=c / 8100) (m:=8) (by decide);obtain⟨ZZ,UK,Zg⟩:=nH (ns:=[3,1,7,2,255,5,1,3]) (i:=c / 8100 % 8) h8.1 h8.2;obtain⟨m2i,UL,WG⟩:=nH (ns:=[1,1,3,2,4,5,128,7]) (i:=c / 8100 % 8) h8.1 h8.2;obtain⟨m1,rfl,OP⟩:=Lx UK (by decide);obtain⟨m2,rfl,S2⟩:=Lx UL (by decide);have h4:=mod_lt (x:=o / 2560) (m:=4) (by decide);obtain⟨dv,UM,ed⟩:=nH (ns:=[5,5,5,10]) (i:=o / 2560 % 4) h4.1 h4.2;have OS:0<dv:=by simp only[List.mem_cons,List.not_mem_nil,or_false]at UM;omega
 have h2:=mod_lt (x:=o / 256) (m:=2) (by decide);obtain⟨wv,Zh,S3,WH⟩:∃wv,bC (.lst [.non,.str p]) (.int (o / 256 % 2))=some (wv,false)/\bu wv=true/\aq 5 wv=true:=by
  rcases (show o / 256 % 2=0∨o / 256 % 2=1 by omega)with h|h
  ·rw[h];exact⟨.non,by simp[D6],rfl,by simp⟩
  ·rw[h];exact⟨.str p,by simp[Ei],rfl,by simp⟩
 have Hd:=mod_lt (x:=o) (m:=2) (by decide);have OG:=mod_lt (x:=o) (m:=2) (by decide);have h3o:=mod_lt (x:=o / 32) (m:=3) (by decide);have UN:∀(ρ:DL.Env),ρ[2]? = some (sF (.int o))->ρ[4]? = some (sF (.int day))->ρ[6]? = some (sF (.int m))->fA gE (ae (f2 cS (aj 2) (fI 32)) (fV 4 (fV 6 ai))) ρ=some (iL s,false):=λρ q1 q2 q3=>
  aI [.int (o / 32),.int day,.int m] (by simp[q1,q2,q3]) es
 have UO:∀(ns:List Int)(M:Nat)(ρ:DL.Env)(fl:FE),fl ρ=lT (ns.map .int)->ρ[1]? = some (sF (.int c))->bC (.lst (ns.map .int)) (.int (c / 8100 % 8))=sF (.int M)->f2 bC fl (f2 bQ (f2 cS (aj 1) (fI 8100)) (fI 8)) ρ=sF (.int M):=λns M ρ fl e1 q e=>g9 (x:=.lst (ns.map .int)) (y:=.int (c / 8100 % 8)) (b1:=true) (b2:=false) e1 (by simp[q]) e;have WI:∀(ρ:DL.Env),ρ[2]? = some (sF (.int o))->ρ[10]? = some (sF (.str p))->f2 bC (fA bj (ae (fC .non) (fV 10 ai))) (f2 bQ (f2 cS (aj 2) (fI 256)) (fI 2)) ρ=some (wv,false):=λρ q1 q2=>g9 (x:=.lst [.non,.str p]) (y:=.int (o / 256 % 2)) (b1:=true) (b2:=false) (by simp[sizeLine,q2]) (by simp[q1]) Zh;rcases DD hw with rfl|rfl|rfl|rfl|rfl|rfl|rfl|rfl
 ·refine⟨_,[.int day,.str sx,.str p,.int m1,iL s,.int (o / 256 % dv)],av rfl (pre _ _ ?_),.leave _ _ _ _ OP _ _,by decide +kernel⟩;refine bz (JB rfl) (fz (.int m1) (UO [3,1,7,2,255,5,1,3] _ _ _ (by simp[sizeLine]) rfl Zg) rfl (fz (.int (o / 256 % dv)) ?_ rfl (ay (aI [.str "leave",.int day,.str sx,.str p,.int m1,iL s,.int (o / 256 % dv)] (bY rfl (bY rfl (bY rfl (bY rfl (bY rfl (aF (UN _ rfl rfl rfl) (bY rfl rfl))))))) (bZ _ (by simp))))));refine b7 (.int (o / 256)) (.int dv) (by simp) (g9 (x:=.lst (([5,5,5,10]:List Int).map .int)) (y:=.int (o / 2560 % 4)) (b1:=true) (b2:=false) (by simp[sizeLine]) (by simp) ed) ?_;show(if decide ((0:Int)<dv)=true then _ else _)=_;rw[if_pos (decide_eq_true OS)]
 ·refine⟨_,[.int day,.str sx,.int m2,iL s,wv,.tup [.str p]],av rfl (pre _ _ ?_),.paper _ (.inl rfl) _ _ _ S2 _ _ (by simp[S3]) (by simp[WH]),by decide +kernel⟩;exact aB (fN rfl) (bz (dG (p:=true) (q:=false) (JB rfl) λ_=>fN rfl) (fz (.int m2) (UO [1,1,3,2,4,5,128,7] _ _ _ (by simp[sizeLine]) rfl WG) rfl (fz (.tup [.str "paper",.int day,.str sx,.int m2,iL s,wv]) (aI [.str "paper",.int day,.str sx,.int m2,iL s,wv] (bY rfl (bY rfl (bY rfl (bY rfl (aF (UN _ rfl rfl rfl) (aF (WI _ rfl rfl) rfl)))))) (bZ _ (by simp))) (by simp[j6,S3]) (aB (fN rfl) (ay (b7 (.tup [.str "paper",.int day,.str sx,.int m2,iL s,wv]) (.tup [.tup [.str p]]) rfl (by simp[sizeLine]) (by simp[sizeLine])))))))
 ·refine⟨_,[.int day,.str sx,.int m2,iL s,wv,.int LG,.tup [.tup [.int 0,.str p]]],av rfl (pre _ _ ?_),.paper _ (.inr rfl) _ _ _ S2 _ _ (by simp[S3]) (by simp[WH]),by decide +kernel⟩;exact aB (fN rfl) (bz (dG (p:=false) (q:=true) (fN rfl) λ_=>JB rfl) (fz (.int m2) (UO [1,1,3,2,4,5,128,7] _ _ _ (by simp[sizeLine]) rfl WG) rfl (fz (.tup [.str "like",.int day,.str sx,.int m2,iL s,wv]) (aI [.str "like",.int day,.str sx,.int m2,iL s,wv] (bY rfl (bY rfl (bY rfl (bY rfl (aF (UN _ rfl rfl rfl) (aF (WI _ rfl rfl) rfl)))))) (bZ _ (by simp))) (by simp[j6,S3]) (bz (JB rfl) (ay (b7 (.tup [.str "like",.int day,.str sx,.int m2,iL s,wv]) (.tup [.int LG,.tup [.tup [.int 0,.str p]]]) rfl (by simp[sizeLine]) (by simp[sizeLine])))))))
 ·exact⟨_,[.int day,.str sx,.int LG],av rfl (pre _ _ (aB (fN rfl) (aB (dG (p:=false) (q:=false) (fN rfl) λ_=>fN rfl) (bz (Gy true rfl) (ay (aI [.str "copy",.int day,.str sx,.int LG] rfl (bZ _ (by simp)))))))),.copy _ (.inl rfl) _ _ _,by decide +kernel⟩
 ·exact⟨_,[.int day,.str sx,.int LG],av rfl (pre _ _ (aB (fN rfl) (aB (dG (p:=false) (q:=false) (fN rfl) λ_=>fN rfl) (bz (Gy true rfl) (ay (aI [.str "call",.int day,.str sx,.int LG] rfl (bZ _ (by simp)))))))),.copy _ (.inr rfl) _ _ _,by decide +kernel⟩
 ·exact⟨_,[.int day,.str sx],av rfl (pre _ _ (aB (fN rfl) (aB (dG (p:=false) (q:=false) (fN rfl) λ_=>fN rfl) (aB (Gy false rfl) (aB (fN rfl) (aB (fN rfl) (aB (fN rfl) (ay (aI [.str "death",.int day,.str sx] rfl (bZ _ (by simp))))))))))),.three _ (.inl rfl) _ _,by decide +kernel⟩
 ·exact⟨_,[.int day,.str sx],av rfl (pre _ _ (aB (fN rfl) (aB (dG (p:=false) (q:=false) (fN rfl) λ_=>fN rfl) (aB (Gy false rfl) (aB (fN rfl) (aB (fN rfl) (aB (fN rfl) (ay (aI [.str "lost",.int day,.str sx] rfl (bZ _ (by simp))))))))))),.three _ (.inr (.inl rfl)) _ _,by decide +kernel⟩
 ·exact⟨_,[.int day,.str sx],av rfl (pre _ _ (aB (fN rfl) (aB (dG (p:=false) (q:=false) (fN rfl) λ_=>fN rfl) (aB (Gy false rfl) (aB (fN rfl) (aB (fN rfl) (aB (fN rfl) (ay (aI [.str "found",.int day,.str sx] rfl (bZ _ (by simp))))))))))),.three _ (.inr (.inr rfl)) _ _,by decide +kernel⟩
def c7 (r:D):Prop:=∃h k aD,r=row h k aD/\Dd k aD
theorem c7.c (g:c7 r):wK r:=by obtain⟨h,k,aD,e,d⟩:=g;exact⟨h,k,aD,e,d.cd⟩
theorem c7.flat (g:c7 r):bu r=true:=g.c.rp.flat
theorem Q3 (c1 m most:Int)(xs zs iK:List Str)(ns:List Int)(ab:List D)(hz:zs.length=7)(i:Nat)(hi:i<2)(hr:ab.length<=100)(hh:iK.length<=100)(v8 v9 pF sq:Option (D×Bool)):
  ∃r1 r2 p w8 w9 Om HH,(c7 r1/\bq r1=true/\zs[5+i]? = some (a9 0 r1))/\(c7 r2/\bq r2=false)/\oy [sF (.lst (ns.map .int)),sF (.lst (zs.map .str)),sF (.int m),sF (.int most),sF (.int c1),lT ab,lT (iK.map .str),sF (.int i),v8,v9,pF,sq,none,none,none]
   = some (.nx [sF (.lst (ns.map .int)),sF (.lst (zs.map .str)),sF (.int m),sF (.int most),sF (.int c1),lT (ab++[r1]++[r2]),lT ((iK++[p]).map .str),sF (.int i),w8,w9,Om,HH,none,none,none]):=by
 have h3:=mod_lt (x:=c1 / (64+9*i)) (m:=3) (by decide);obtain⟨rl,_,Zi⟩:=o6 (zs:=[("open" : Str),"first","last"]) (i:=c1 / (64+9*i) % 3) (by simp;omega) (by simp;omega);have h4:=mod_lt (x:=c1 / (2+8*i)) (m:=4) (by decide);obtain⟨Zj,R1,UP⟩:=nH (ns:=[7,255,3,15]) (i:=c1 / (2+8*i) % 4) h4.1 h4.2;obtain⟨mt,UQ,Zk⟩:∃mt:Nat,Zj=mt/\mt∈MR:=by
  simp only[List.mem_cons,List.not_mem_nil,or_false]at R1;rcases R1 with rfl|rfl|rfl|rfl<;>first|exact⟨7,rfl,by decide⟩|exact⟨255,rfl,by decide⟩|exact⟨3,rfl,by decide⟩|exact⟨15,rfl,by decide⟩
 have WJ:=UP;rw[UQ]at WJ;have Sn:=mod_lt (x:=c1 / (31+i)) (m:=3) (by decide);obtain⟨dv,UM,ed⟩:=nH (ns:=[5,5,10]) (i:=c1 / (31+i) % 3) Sn.1 Sn.2;have OS:0<dv:=by simp only[List.mem_cons,List.not_mem_nil,or_false]at UM;omega
 obtain⟨of,UR,WK⟩:∃of,zs[5+i]? = some of/\bC (.lst (zs.map .str)) (.int (5+i))=sF (.str of):=by
  have hl:5+i<zs.length:=by omega
  refine⟨zs[5+i],vU hl,?_⟩;have Ea:((5:Int)+i).toNat<(zs.map D.str).length:=by rw[vI];omega
  rw[DL.AG (by omega) Ea,show((5:Int)+i).toNat=5+i by omega,vF,vA,vU hl];rfl
 obtain⟨pn,_,WL⟩:=o6 (zs:=zs) (i:=i) (by omega) (by omega);have Zl:(0:Int)<64+9*i/\(64:Int)+9*i<1073741824:=by omega
 have b2:(0:Int)<2+8*i/\(2:Int)+8*i<1073741824:=by omega
 have US:(0:Int)<512+i/\(512:Int)+i<1073741824:=by omega
 have R3:(0:Int)<1024+5*i/\(1024:Int)+5*i<1073741824:=by omega
 have Zm:(0:Int)<31+i/\(31:Int)+i<1073741824:=by omega
 let t:Int:=if c1 / (512+i) % 8=1 then 1 else 0;have ht:0<=t/\t<=1:=by show 0<=(if _ then (1:Int)else 0)/\(if _ then (1:Int)else 0)<=1;split<;>omega
 refine⟨row (t*4*m) ("root" : Str) [.str of,.int mt,.int (c1 / (1024+5*i) % dv),.str rl],row 0 ("named" : Str) [.int 0,.str of,.str pn],pn,sF (.str rl),sF (.int mt),sF (.int (t*4*m)),sF (.int (c1 / (1024+5*i) % dv)),⟨⟨_,_,_,rfl,.root _ _ _ Zk _⟩,decide_eq_true rfl,UR⟩,⟨⟨_,_,_,rfl,.named _ _ _⟩,show decide (("named" : Str) = "root")=false by decide +kernel⟩,?_⟩;refine fz (.str rl) ?_ rfl (fz (.int mt) ?_ rfl (fz (.int (t*4*m)) ?_ rfl (fz (.int (c1 / (1024+5*i) % dv)) ?_ rfl (Lo (ds:=ab) (d:=row (t*4*m) ("root" : Str) [.str of,.int mt,.int (c1 / (1024+5*i) % dv),.str rl]) (b:=false) rfl ?_ rfl (bO (by omega)) (Lo (ds:=ab++[row (t*4*m) ("root" : Str) [.str of,.int mt,.int (c1 / (1024+5*i) % dv),.str rl]]) (d:=row 0 ("named" : Str) [.int 0,.str of,.str pn]) (b:=false) rfl ?_ rfl (bO (by simp;omega)) ((jd (ds:=iK.map .str) (d:=.str pn) (b:=false) rfl ?_ rfl (bO (by simp;omega))).trans ?_))))))
 ·exact g9 (x:=.lst (([("open" : Str),"first","last"]:List Str).map .str)) (y:=.int (c1 / (64+9*i) % 3)) (b1:=true) (b2:=false) (by simp[sizeLine]) (by simp[Zl]) Zi
 ·exact g9 (x:=.lst (([7,255,3,15]:List Int).map .int)) (y:=.int (c1 / (2+8*i) % 4)) (b1:=true) (b2:=false) (by simp[sizeLine]) (by simp[b2]) WJ
 ·refine b7 (.int (t*4)) (.int m) (b7 (.int t) (.int 4) ?_ rfl (by simp)) rfl (rX (by omega));refine aI [.bl (decide (c1 / (512+i) % 8=1))] (bY (b7 (.int (c1 / (512+i) % 8)) (.int 1) (by simp[US]) rfl (by simp)) rfl) ?_;simp[t]
 ·refine b7 (.int (c1 / (1024+5*i))) (.int dv) (by simp[R3]) (g9 (x:=.lst (([5,5,10]:List Int).map .int)) (y:=.int (c1 / (31+i) % 3)) (b1:=true) (b2:=false) (by simp[sizeLine]) (by simp[Zm]) ed) ?_;show(if decide ((0:Int)<dv)=true then _ else _)=_;rw[if_pos (decide_eq_true OS)]
 ·refine aI [.int (t*4*m),.tup [.str "root",.str of,.int mt,.int (c1 / (1024+5*i) % dv),.str rl]] (bY rfl (bY (aI [.str "root",.str of,.int mt,.int (c1 / (1024+5*i) % dv),.str rl] (bY rfl (aF (b7 (.lst (zs.map .str)) (.int (5+i)) rfl (by simp) WK) (bY rfl (bY rfl (bY rfl rfl))))) (bZ _ (by simp))) rfl)) (bZ _ (by simp))
 ·refine aI [.int 0,.tup [.str "named",.int 0,.str of,.str pn]] (bY rfl (bY (aI [.str "named",.int 0,.str of,.str pn] (bY rfl (bY rfl (aF (b7 (.lst (zs.map .str)) (.int (5+i)) rfl (by simp) WK) (aF (b7 (.lst (zs.map .str)) (.int i) rfl rfl WL) rfl)))) (bZ _ (by simp))) rfl)) (bZ _ (by simp))
 ·exact b7 (.lst (zs.map .str)) (.int i) rfl rfl WL
 ·simp
noncomputable def lG (ab:List D):List Str:=(ab.filter bq).map (a9 0)
theorem o7 (ab:List D)(r:D):lG (ab++[r])=lG ab++if bq r=true then [a9 0 r]else []:=by
 unfold lG;rw[List.filter_append,uW,List.filter_cons];split
 ·rename_i h;rfl
 ·rename_i h;rfl
theorem Q4 (c1 m most:Int)(zs iK:List Str)(ns:List Int)(ab:List D)(hz:zs.length=7)(i:Nat)(hi:i<100)(hr:ab.length<=200)(hh:iK≠[])(hh2:iK.length<=200)(v8 v9 pF sq R4 R5 R6:Option (D×Bool)):
  ∃r1 sr S4 S5 S6,(c7 r1/\bq r1=false)/\sr≠[]/\sr.length<=iK.length+1/\oz [sF (.lst (ns.map .int)),sF (.lst (zs.map .str)),sF (.int m),sF (.int most),sF (.int c1),lT ab,lT (iK.map .str),sF (.int i),v8,v9,pF,sq,R4,R5,R6]
   = some (.nx [sF (.lst (ns.map .int)),sF (.lst (zs.map .str)),sF (.int m),sF (.int most),sF (.int c1),lT (ab++[r1]),lT (sr.map .str),sF (.int i),v8,v9,pF,sq,S4,S5,S6]):=by
 obtain⟨ca,Zn,ca0⟩:=gQ ns (5+i);obtain⟨cb,Zo,cb0⟩:=gQ ns (30+i);obtain⟨cc,Zp,cc0⟩:=gQ ns (60+i);have h3:=mod_lt (x:=ca / 7) (m:=3) (by decide);obtain⟨day,xh⟩:∃day:Int,((i:Int) / 2+ca / 7 % 3)*m=day:=⟨_,rfl⟩;obtain⟨k,r,ed,hD,Of⟩:=JD ab.length cb cc day m zs iK hz hh;have Zq:=λh=>hD.had3 h;have Zr:=λh=>hD.had4 h;have h6:=mod_lt (x:=ca / 21) (m:=6) (by decide);obtain⟨tv,Zs,Zt⟩:=nH (ns:=[0,0,0,0,1,4]) (i:=ca / 21 % 6) h6.1 h6.2;have Uy : -1000<=tv/\tv<=1000:=by simp only[List.mem_cons,List.not_mem_nil,or_false]at Zs;omega
 have QG:bu (.tup (.str k::r))=true:=by simp[hD.flat]
 have e4:∀(ρ:DL.Env),ρ[14]? = some (sF (.tup (.str k::r)))->dO 14 0 ρ=sF (.str k):=λρ h=>b7 (.tup (.str k::r)) (.int 0) (by simp[h]) rfl (by simp[D6]);have e1:∀(b:Bool),decide (k = "leave" ∨ k = "named")=b->bg (f2 wl (dO 14 0) (fA aP (ae (fS "leave") (ae (fS "named") ai)))) [sF (.lst (ns.map .int)),sF (.lst (zs.map .str)),sF (.int m),sF (.int most),sF (.int c1),lT ab,lT (iK.map .str),sF (.int i),v8,v9,pF,sq,sF (.int ca),sF (.int day),sF (.tup (.str k::r))]=some b:=λb hb=>cA (b7 (.str k) (.tup (([("leave" : Str),"named"]:List Str).map .str)) (e4 _ rfl) (by simp[sizeLine]) (by rw[gF,←hb];simp));have at_:∀(j:Nat)(p:Str),r[j]? = some (.str p)->∀ρ:DL.Env,ρ[14]? = some (sF (.tup (.str k::r)))->f2 bC (aj 14) (fC (.int ((j+1:Nat):Int))) ρ=sF (.str p):=λj p hp ρ hρ=>by
  have hl:j<r.length:=(vV hp).1;refine b7 (.tup (.str k::r)) (.int ((j+1:Nat):Int)) (by simp[hρ]) rfl ?_;rw[DL.zY (by omega) (by simp;omega),show((j+1:Nat):Int).toNat=j+1 by omega,vF];show some ((r[j]?).getD .non,false)=_;rw[hp];rfl
 obtain⟨sr,UT,R7,Zu⟩:∃sr:List Str,sr≠[]/\sr.length<=iK.length+1/\∀(h:FS)(rr:Option Res),h [sF (.lst (ns.map .int)),sF (.lst (zs.map .str)),sF (.int m),sF (.int most),sF (.int c1),lT ab,lT (sr.map .str),sF (.int i),v8,v9,pF,sq,sF (.int ca),sF (.int day),sF (.tup (.str k::r))]=rr->aA (dC (bg (f2 wl (dO 14 0) (fA aP (ae (fS "leave") (ae (fS "named") ai))))) (kh 6 (dO 14 3)) aX) (aA (dC (bg (f2 dm (dO 14 0) (fS "chosen"))) (kh 6 (dO 14 4)) aX) h) [sF (.lst (ns.map .int)),sF (.lst (zs.map .str)),sF (.int m),sF (.int most),sF (.int c1),lT ab,lT (iK.map .str),sF (.int i),v8,v9,pF,sq,sF (.int ca),sF (.int day),sF (.tup (.str k::r))]=rr:=by
  by_cases hx:k = "leave" ∨ k = "named"
  ·obtain⟨p,hp⟩:=Zq hx;have Re:k ≠ "chosen":=by rcases hx with rfl|rfl<;>decide +kernel
   refine⟨iK++[p],by simp,by simp,λh rr hr=>dz (ls (e1 true (decide_eq_true hx)) (jd (ds:=iK.map .str) (d:=.str p) (b:=false) rfl (at_ 2 p hp _ rfl) rfl (bO (by simp;omega)))) (aB (bT (a:=k) (bb:=false) (e4 _ rfl) (decide_eq_false Re)) ?_)⟩;rw[uW]at hr;exact hr
  ·by_cases hy:k = "chosen"
   ·obtain⟨p,hp⟩:=Zr hy;refine⟨iK++[p],by simp,by simp,λh rr hr=>aB (e1 false (decide_eq_false hx)) (dz (ls (bT (a:=k) (bb:=false) (e4 _ rfl) (decide_eq_true hy)) (jd (ds:=iK.map .str) (d:=.str p) (b:=false) rfl (at_ 3 p hp _ rfl) rfl (bO (by simp;omega)))) ?_)⟩;rw[uW]at hr;exact hr
   ·exact⟨iK,hh,by omega,λh rr hr=>aB (e1 false (decide_eq_false hx)) (aB (bT (a:=k) (bb:=false) (e4 _ rfl) (decide_eq_false hy)) hr)⟩
 refine⟨row (day+tv*m) k r,sr,sF (.int ca),sF (.int day),sF (.tup (.str k::r)),⟨⟨_,_,_,rfl,hD⟩,decide_eq_false Of⟩,UT,R7,?_⟩;refine fz (.int ca) (aI [.lst (ns.map .int),.int ((5+i:Nat):Int)] (by simp) Zn) rfl (fz (.int day) ?_ rfl (fz (.tup (.str k::r)) ?_ QG (Zu _ _ ((jd (ds:=ab) (d:=row (day+tv*m) k r) (b:=false) rfl ?_ (by simp[row,hD.flat]) (bO (by omega))).trans ?_))))
 ·refine b7 (.int ((i:Int) / 2+ca / 7 % 3)) (.int m) (by simp) rfl ?_;rw[←xh];exact rX (by omega)
 ·refine aI [.int ab.length,.int cb,.int cc,.lst (zs.map .str),.int day,.lst (iK.map .str),.int m] (bY (by simp) (aF (aI [.lst (ns.map .int),.int ((30+i:Nat):Int)] (by simp) Zo) (aF (aI [.lst (ns.map .int),.int ((60+i:Nat):Int)] (by simp) Zp) (bY rfl (bY rfl (bY rfl (bY rfl rfl))))))) ed
 ·refine aI [.int (day+tv*m),.tup (.str k::r)] (bY (b7 (.int day) (.int (tv*m)) rfl (b7 (.int tv) (.int m) (g9 (x:=.lst (([0,0,0,0,1,4]:List Int).map .int)) (y:=.int (ca / 21 % 6)) (b1:=true) (b2:=false) (by simp[sizeLine]) (by simp) Zt) rfl (rX Uy)) rfl) (bY rfl rfl)) (bZ _ (by simp))
 ·simp
theorem JF (ns:List Int)(zs:List Str)(hz:zs.length=7)(m:Int):∃ab:List D,r9 [.lst (ns.map .int),.lst (zs.map .str),.int m,.int 14]=sF (.tup ab)/\(∀r∈ab,c7 r)/\ab.length<=24/\lG ab=(zs.drop 5).take (lG ab).length:=by
 obtain⟨c1,e1,h1⟩:=gQ ns 1;obtain⟨c2,e2,h2⟩:=gQ ns 2;have OP:=mod_lt (x:=c1) (m:=2) (by decide);have S2:=mod_lt (x:=c2) (m:=14) (by decide);obtain⟨n1,S1⟩:∃n1:Nat,1+c1 % 2=n1:=⟨(1+c1 % 2).toNat,by omega⟩;obtain⟨n2,UU⟩:∃n2:Nat,3+c2 % 14=n2:=⟨(3+c2 % 14).toNat,by omega⟩;obtain⟨ρ1,f1,LH,R8,u7,u8,u9,UV,UW,rfl,g1,l1,k1,o1⟩:=kB (tg:=dD 7) (g:=oy) n1 (λi ρ=>∃(ab:List D)(iK:List Str)(v7 v8 v9 pF sq:Option (D×Bool)),ρ=[sF (.lst (ns.map .int)),sF (.lst (zs.map .str)),sF (.int m),sF (.int 14),sF (.int c1),lT ab,lT (iK.map .str),v7,v8,v9,pF,sq,none,none,none]/\(∀r∈ab,c7 r)/\ab.length=2*i/\iK.length=i/\lG ab=(zs.drop 5).take i)
  [sF (.lst (ns.map .int)),sF (.lst (zs.map .str)),sF (.int m),sF (.int 14),sF (.int c1),lT [],lT [],none,none,none,none,none,none,none,none] ⟨[],[],none,none,none,none,none,rfl,by simp,rfl,rfl,rfl⟩ (by
   rintro i ρ hi ⟨ab,iK,v7,v8,v9,pF,sq,rfl,g,l,k,o⟩;obtain⟨r1,r2,p,w8,w9,Om,HH,q1,q2,e⟩:=Q3 c1 m 14 [] zs iK ns ab hz i (by omega) (by omega) (by omega) v8 v9 pF sq;refine⟨_,_,rfl,.inl e,ab++[r1]++[r2],iK++[p],_,w8,w9,Om,HH,rfl,?_,by simp;omega,by simp[k],by rw[o7,o7,if_pos q1.2.1,if_neg (by rw[q2.2];decide),uQ,o,List.take_add_one,List.getElem?_drop,q1.2.2];rfl⟩;intro r hr;simp only[List.mem_append,List.mem_singleton]at hr;rcases hr with (hr|rfl)|rfl
   ·exact g r hr
   ·exact q1.1
   ·exact q2.1)
 obtain⟨ρ2,UX,LI,Zv,w7,S4,S5,S6,rfl,g2,l2,k2,k3,o2⟩:=kB (tg:=dD 7) (g:=oz) n2 (λi ρ=>∃(ab:List D)(iK:List Str)(v7 R4 R5 R6:Option (D×Bool)),ρ=[sF (.lst (ns.map .int)),sF (.lst (zs.map .str)),sF (.int m),sF (.int 14),sF (.int c1),lT ab,lT (iK.map .str),v7,u8,u9,UV,UW,R4,R5,R6]/\(∀r∈ab,c7 r)/\ab.length=2*n1+i/\iK≠[]/\iK.length<=n1+i/\lG ab=(zs.drop 5).take n1)
  [sF (.lst (ns.map .int)),sF (.lst (zs.map .str)),sF (.int m),sF (.int 14),sF (.int c1),lT LH,lT (R8.map .str),u7,u8,u9,UV,UW,none,none,none] ⟨LH,R8,u7,none,none,none,rfl,g1,by omega,λe=>by rw[e]at k1;simp at k1;omega,by omega,o1⟩ (by
   rintro i ρ hi ⟨ab,iK,v7,R4,R5,R6,rfl,g,l,k,k',o⟩;obtain⟨r1,sr,S4,S5,S6,q1,q2,q3,e⟩:=Q4 c1 m 14 zs iK ns ab hz i (by omega) (by omega) k (by omega) u8 u9 UV UW R4 R5 R6;refine⟨_,_,rfl,.inl e,ab++[r1],sr,_,S4,S5,S6,rfl,?_,by simp;omega,q2,by omega,by rw[o7,if_neg (by rw[q1.2];decide),uQ,o]⟩;intro r hr;simp only[List.mem_append,List.mem_singleton]at hr;rcases hr with hr|rfl
   ·exact g r hr
   ·exact q1.1)
 refine⟨LI,av rfl (fz (.int c1) (aI [.lst (ns.map .int),.int ((1:Nat):Int)] (by simp) e1) rfl (bX (ds:=[]) (by simp[sizeLine]) rfl (bX (ds:=[]) (by simp[sizeLine]) rfl (dz (kF (gU (j:=n1) (b:=false) (by simp;omega) (by omega)) f1) (dz (kF (gU (j:=n2) (b:=false) ?_ (by omega)) UX) (ay (by simp))))))),g2,by omega,?_⟩
 ·refine b7 (.int 3) (.int (c2 % 14)) rfl (b7 (.int c2) (.int 14) (aI [.lst (ns.map .int),.int ((2:Nat):Int)] (by simp) e2) rfl (by simp)) ?_;rw[←UU];rfl
 ·have hl:(lG LI).length<=n1:=by rw[o2,List.length_take];omega
  rw[o2,List.length_take];congr 1;rw[List.length_drop];omega
theorem uE (a b:Nat):iz [.int a,.int b]=sF (.bl (decide (a &&& b=b))):=by
 have:Builtin.bitAnd (a:Int) (b:Int)=((a &&& b:Nat):Int):=by simp[Builtin.bitAnd]
 simp[iz,rg,this];omega
def jk (r:D):Nat:=(if kindOf r = "root" then iE 1 r else if kindOf r = "leave" then iE 3 r else iE 2 r).toNat
theorem fO (a:Int)(k:Str)(aD:List D):kindOf (row a k aD)=k:=rfl
noncomputable def dB:List Str:=[("leave" : Str),"paper","like"]
theorem rY (g:c7 r)(h:bq r=true):∃a o rl,∃m:Nat,∃f:Int,r=row a ("root" : Str) [.str o,.int m,.int f,.str rl]/\m∈MR/\jk r=m:=by
 obtain⟨a,k,aD,rfl,d⟩:=g;have hk:k = "root":=of_decide_eq_true h;clear h;cases d with
 |root o rl m hm f=>exact⟨a,o,rl,m,f,rfl,hm,by unfold jk;rw[fO,if_pos rfl];rfl⟩
 |named=>exact absurd hk (by decide +kernel)
 |chosen=>exact absurd hk (by decide +kernel)
 |heir=>exact absurd hk (by decide +kernel)
 |three k fD=>rcases fD with rfl|rfl|rfl<;>exact absurd hk (by decide +kernel)
 |leave=>exact absurd hk (by decide +kernel)
 |paper k fD=>rcases fD with rfl|rfl<;>exact absurd hk (by decide +kernel)
 |copy k fD=>rcases fD with rfl|rfl<;>exact absurd hk (by decide +kernel)
theorem Cp (g:c7 r)(h:bq r=true):au [r,.str "matters"]=sF (.int (jk r)):=by
 obtain⟨a,o,rl,m,f,rfl,_,e⟩:=rY g h;rw[e];exact bv (i:=1) (bp (by decide +kernel)) rfl
theorem NB {a:Int}{k:Str}{aD:List D}(d:Dd k aD)(h:k∈dB):jk (row a k aD)∈MS/\(∃i:Nat,pA gO (.str k) (.str "matters")=sF (.int i)/\aD[i]? = some (.int (jk (row a k aD))))/\(D.str k::aD).getD (3+if k = "leave" then 1 else 0) .non=.int (jk (row a k aD))/\(3+if k = "leave" then 1 else 0)<(D.str k::aD).length:=by
 cases d with
 |leave d b p m hm x f=>
  have e:jk (row a ("leave" : Str) [.int d,.str b,.str p,.int m,iL x,.int f])=m:=by unfold jk;rw[fO,if_neg (by decide +kernel),if_pos rfl];rfl
  rw[e];refine⟨hm,⟨3,bp (by decide +kernel),rfl⟩,?_,?_⟩
  ·rw[if_pos rfl];rfl
  ·rw[if_pos rfl];simp
 |paper k hk d b m hm x r hf hp=>
  have hl:k ≠ "leave":=by rcases hk with rfl|rfl<;>decide +kernel
  have hr:k ≠ "root":=by rcases hk with rfl|rfl<;>decide +kernel
  have e:jk (row a k (.int d::.str b::.int m::iL x::r))=m:=by unfold jk;rw[fO,if_neg hr,if_neg hl];rfl
  rw[e];refine⟨hm,⟨2,by rcases hk with rfl|rfl<;>exact bp (by decide +kernel),rfl⟩,?_,?_⟩
  ·rw[if_neg hl];rfl
  ·rw[if_neg hl];simp
 |root=>exact absurd h (by decide +kernel)
 |named=>exact absurd h (by decide +kernel)
 |chosen=>exact absurd h (by decide +kernel)
 |heir=>exact absurd h (by decide +kernel)
 |three k fD=>rcases fD with rfl|rfl|rfl<;>exact absurd h (by decide +kernel)
 |copy k fD=>rcases fD with rfl|rfl<;>exact absurd h (by decide +kernel)
theorem wR (g:c7 r)(h:kindOf r∈dB):au [r,.str "matters"]=sF (.int (jk r)):=by
 obtain⟨a,k,aD,rfl,d⟩:=g;obtain⟨_,⟨i,h1,h2⟩,_⟩:=NB (a:=a) d h;exact bv h1 h2
noncomputable def bP:List Str:=[("leave" : Str),"paper","like","copy"]
theorem ft (h:k∈bP∨k = "call"):eA k=true:=by
 rw[rF];refine decide_eq_true ?_;rcases h with h|rfl
 ·have:∀k∈bP,k∈yW:=by decide +kernel
  exact this k h
 ·decide +kernel
theorem Cq {k:Str}{aD:List D}(d:Dd k aD)(h:eA k=true):∃(dd:Int)(b:Str)(r:List D),aD=.int dd::.str b::r:=d.cd.deed.slg h
theorem uF (g:c7 r)(h:eA (kindOf r)=true):au [r,.str "by"]=sF (.str (cr r)):=by
 obtain⟨a,k,aD,rfl,d⟩:=g;obtain⟨dd,b,q,rfl⟩:=Cq d h;exact bv (i:=1) (Gh h) rfl
noncomputable def bM (K:KL):List D:=(K.filter λx=>bq x.1).map (·.1)
theorem zh:∀(l:List (cD×D))(a:List cD×List D),(a.1++l.map (·.1)).Nodup->l.foldl qG a=(a.1++l.map (·.1),a.2++l.map (·.2))
 |[],a,_=>by simp
 |p::l,a,h=>by
  have hn:p.1∉a.1:=by
   rw[uY,List.nodup_append]at h;exact λz=>h.2.2 _ z _ mX rfl
  have e:qG a p=(a.1++[p.1],a.2++[p.2]):=by unfold qG dJ dL;rw[if_neg hn,if_neg hn]
  rw[List.foldl_cons,e,zh l _ (by rw[List.append_assoc];exact h)];simp
section
variable {K:KL}(hn:((bM K).map (a9 0)).Nodup)
include hn
theorem mh:bW (kP K)=((bM K).map λv=>(.inr (a9 0 v):cD),bM K):=by
 have e:kP K=(bM K).map λv=>((.inr (a9 0 v):cD),v):=by unfold kP bM;rw[uP];rfl
 have UU:((bM K).map λv=>(.inr (a9 0 v):cD)).Nodup:=by
  refine List.pairwise_map.mpr ((List.pairwise_map.mp hn).imp λh z=>h (Sum.inr.inj z))
 rw[e];unfold bW;rw[zh _ _ (by rw[uP];exact UU),uP,uP];simp only[List.nil_append];congr 1;exact List.map_id _
end
noncomputable def JG (j:Nat):D->Int×Option Int
 |.tup [_,.tup (_::aD)]=>match aD[j]? with
  |some (.tup [.int s,.int u])=>(s,some u)
  |some (.tup [.int s,.non])=>(s,none)
  |_=>(0,none)
 |_=>(0,none)
theorem wS {h:Int}{k:Str}{aD:List D}{j:Nat}{x:Int×Option Int}(e:aD[j]? = some (iL x)):JG j (row h k aD)=x:=by
 unfold JG row;simp only[e];obtain⟨s,u⟩:=x;cases u<;>rfl
def iH (r:D):Int×Option Int:=if kindOf r = "leave" then JG 4 r else JG 3 r
def j7 (r:D):Int:=if kindOf r = "root" then iE 2 r else iE 5 r
def o8 (r:D):Bool:=decide (kindOf r = "leave")
theorem px {r:D}(g:c7 r)(h:kindOf r = "leave"):∃a d b p,∃m:Nat,∃x f,r=row a ("leave" : Str) [.int d,.str b,.str p,.int m,iL x,.int f]/\m∈MS/\jk r=m/\iH r=x/\j7 r=f:=by
 obtain⟨a,k,aD,rfl,d⟩:=g;have hk:k = "leave":=h;clear h;cases d with
 |leave d b p m hm x f=>exact⟨a,d,b,p,m,x,f,rfl,hm,by unfold jk;rw[fO,if_neg (by decide +kernel),if_pos rfl];rfl,by unfold iH;rw[fO,if_pos rfl];exact wS rfl,by unfold j7;rw[fO,if_neg (by decide +kernel)];rfl⟩
 |root=>exact absurd hk (by decide +kernel)
 |named=>exact absurd hk (by decide +kernel)
 |chosen=>exact absurd hk (by decide +kernel)
 |heir=>exact absurd hk (by decide +kernel)
 |three k fD=>rcases fD with rfl|rfl|rfl<;>exact absurd hk (by decide +kernel)
 |paper k fD=>rcases fD with rfl|rfl<;>exact absurd hk (by decide +kernel)
 |copy k fD=>rcases fD with rfl|rfl<;>exact absurd hk (by decide +kernel)
theorem JH {a:Int}{k:Str}{aD:List D}(d:Dd k aD)(h:k∈dB):(∃i:Nat,pA gO (.str k) (.str "stretch")=sF (.int i)/\aD[i]? = some (iL (iH (row a k aD))))/\(D.str k::aD).getD (4+if k = "leave" then 1 else 0) .non=iL (iH (row a k aD))/\(4+if k = "leave" then 1 else 0)<(D.str k::aD).length:=by
 cases d with
 |leave d b p m hm x f=>
  have e:iH (row a ("leave" : Str) [.int d,.str b,.str p,.int m,iL x,.int f])=x:=by unfold iH;rw[fO,if_pos rfl];exact wS rfl
  rw[e,if_pos rfl];exact⟨⟨4,bp (by decide +kernel),rfl⟩,rfl,by simp⟩
 |paper k hk d b m hm x r hf hp=>
  have hl:k ≠ "leave":=by rcases hk with rfl|rfl<;>decide +kernel
  have e:iH (row a k (.int d::.str b::.int m::iL x::r))=x:=by unfold iH;rw[fO,if_neg hl];exact wS rfl
  rw[e,if_neg hl];exact⟨⟨3,by rcases hk with rfl|rfl<;>exact bp (by decide +kernel),rfl⟩,rfl,by simp⟩
 |root=>exact absurd h (by decide +kernel)
 |named=>exact absurd h (by decide +kernel)
 |chosen=>exact absurd h (by decide +kernel)
 |heir=>exact absurd h (by decide +kernel)
 |three k fD=>rcases fD with rfl|rfl|rfl<;>exact absurd h (by decide +kernel)
 |copy k fD=>rcases fD with rfl|rfl<;>exact absurd h (by decide +kernel)
theorem Cr (g:c7 r)(h:kindOf r∈dB):au [r,.str "stretch"]=some (iL (iH r),false):=by
 obtain⟨a,k,aD,rfl,d⟩:=g;obtain⟨⟨i,h1,h2⟩,_⟩:=JH (a:=a) d h;exact bv h1 h2
theorem wT (h:kindOf r = "leave"):kindOf r∈dB:=by rw[h];decide +kernel
theorem Ly (g:c7 r)(h:bq r=true∨kindOf r = "leave"):au [r,.str "further"]=sF (.int (j7 r)):=by
 rcases h with h|h
 ·obtain⟨a,o,rl,m,f,rfl,_,_⟩:=rY g h;rw[show j7 (row a ("root" : Str) [.str o,.int m,.int f,.str rl])=f by unfold j7;rw[fO,if_pos rfl];rfl];exact bv (i:=2) (bp (by decide +kernel)) rfl
 ·obtain⟨a,d,b,p,m,x,f,e,_,_,_,ef⟩:=px g h;rw[ef,e];exact bv (i:=5) (bp (by decide +kernel)) rfl
def Sd (d:D):Prop:=d=.non∨∃s,d=.str s
def rZ (r v:D):Bool:=decide (jk v &&& jk r=jk r) && !(o8 r && decide (j7 v<=j7 r))
theorem zi (gr:c7 r)(gv:c7 v)(kr:kindOf r∈dB)(kv:bq v=true∨kindOf v = "leave"):∃d,iQ [r,v]=some (d,false)/\zK d .non=sF (.bl (rZ r v))/\Sd d:=by
 have Zw:au [v,.str "matters"]=sF (.int (jk v)):=kv.elim (Cp gv) λh=>wR gv (wT h);have t1:bg (fA iz (ae (fA au (fV 1 (ae (fS "matters") ai))) (ae (fA au (fV 0 (ae (fS "matters") ai))) ai))) [some (r,false),some (v,false)]=some (decide (jk v &&& jk r=jk r)):=cA (aI [.int (jk v),.int (jk r)] (aF (aI [v,.str "matters"] rfl Zw) (aF (aI [r,.str "matters"] rfl (wR gr kr)) rfl)) (uE _ _));have t2:bg (f2 dm (fA aK (fV 0 ai)) (fS "leave")) [some (r,false),some (v,false)]=some (o8 r):=bT (a:=kindOf r) (bb:=false) (aI [r] rfl (ji gr.c)) rfl;have t3:o8 r=true->bg (f2 SX (fA au (fV 0 (ae (fS "further") ai))) (fA au (fV 1 (ae (fS "further") ai)))) [some (r,false),some (v,false)]=some (decide (j7 v<=j7 r)):=λh=>cA (b7 (.int (j7 r)) (.int (j7 v)) (aI [r,.str "further"] rfl (Ly gr (.inr (of_decide_eq_true h)))) (aI [v,.str "further"] rfl (Ly gv kv)) rfl);have t4:=dM t2 t3;unfold rZ;cases hA:decide (jk v &&& jk r=jk r) with
 |false=>exact⟨.str "matters",av rfl (bz (bH (p:=false) (t1.trans (by rw[hA]))) (ay rfl)),rfl,.inr ⟨_,rfl⟩⟩
 |true=>
  cases hB:(o8 r && decide (j7 v<=j7 r)) with
  |true=>exact⟨.str "further",av rfl (aB (bH (p:=true) (t1.trans (by rw[hA]))) (bz (t4.trans (by rw[hB])) (ay rfl))),rfl,.inr ⟨_,rfl⟩⟩
  |false=>exact⟨.non,av rfl (aB (bH (p:=true) (t1.trans (by rw[hA]))) (aB (t4.trans (by rw[hB])) (ay rfl))),rfl,.inl rfl⟩
theorem jR (h:k∈dB):k∈bP:=by
 have:∀k∈dB,k∈bP:=by decide +kernel
 exact this k h
theorem iW (h:kindOf r∈dB):bq r=false:=by
 have:∀k∈dB,decide (k = "root")=false:=by decide +kernel
 exact this _ h
theorem o9 (g:c7 r)(h:bq r=false):aT [r]=sF (.int (aG r)):=by
 have:=rG g.c;unfold sO at this;rwa [h,if_neg (by decide)]at this
def sR (cs:List Cl)(r v:D):Bool:=iU cs (a9 0 v) (a9 3 v) (cr r) (aG r) && rZ r v
theorem Cs (cs:List Cl)(xm:cs.length<=60)(gr:c7 r)(gv:c7 v)(kr:kindOf r∈dB)(hv:bq v=true):∃d,cB [.lst (cs.map aU),r,v]=some (d,false)/\zK d .non=sF (.bl (sR cs r v))/\Sd d:=by
 obtain⟨d,e1,e2,e3⟩:=zi gr gv kr (.inl hv);have t1:bg (fA cO (fV 0 (fV 2 (ae (fA au (fV 1 (ae (fS "by") ai))) (ae (fA aT (fV 1 ai)) ai))))) [sF (.lst (cs.map aU)),some (r,false),some (v,false)]=some (iU cs (a9 0 v) (a9 3 v) (cr r) (aG r)):=by
  refine cA (aI [.lst (cs.map aU),v,.str (cr r),.int (aG r)] (bY rfl (bY rfl (aF (aI [r,.str "by"] rfl (uF gr (ft (.inl (jR kr))))) (aF (aI [r] rfl (o9 gr (iW kr))) rfl)))) ?_);obtain⟨a,o,rl,m,f,rfl,_,_⟩:=rY gv hv;exact wM cs xm _ _
 unfold sR;cases hA:iU cs (a9 0 v) (a9 3 v) (cr r) (aG r) with
 |false=>exact⟨.str "holder",av rfl (bz (bH (p:=false) (t1.trans (by rw[hA]))) (ay rfl)),rfl,.inr ⟨_,rfl⟩⟩
 |true=>exact⟨d,av rfl (aB (bH (p:=true) (t1.trans (by rw[hA]))) (ay (aI [r,v] rfl e1))),e2,e3⟩
def Gz (cs:List Cl)(r v:D):Int:=match jX cs (a9 0 v) (a9 3 v) (aG r) with
 |.tup [_,_,.int n]=>n
 |_=>0
theorem G0 (h:iU cs o rl p day=true):∃n:Int,jX cs o rl day=.tup [.str "one",.str p,.int n]:=by
 unfold iU jX at h;unfold jX;generalize O9 cs o day=al at h ⊢;cases al with
 |nil=>
  have h:bG (.tup [.str "none"]) (.tup [.str "one",.str p])=true:=h;simp[dj]at h
 |cons b r=>
  rw[pw]at h ⊢;split at h
  ·have h:bG (.tup [.str "parted",.lst ((md (b::r)).map .str)]) (.tup [.str "one",.str p])=true:=h;simp[dj]at h
  ·rename_i hn;rw[if_neg hn];have h:bG (.tup [.str "one",.str (iD rl b r).p]) (.tup [.str "one",.str p])=true:=h;have h:(iD rl b r).p=p:=by simpa [dj]using h
   exact⟨_,by rw[h]⟩
theorem JJ (h:iU cs (a9 0 v) (a9 3 v) (cr r) (aG r)=true):jX cs (a9 0 v) (a9 3 v) (aG r)=.tup [.str "one",.str (cr r),.int (Gz cs r v)]:=by
 obtain⟨n,e⟩:=G0 h;unfold Gz;rw[e]
def NC (cs:List Cl)(r v:D):D:=.tup [.str "office",.str (a9 0 v),.int (Gz cs r v)]
theorem nI (g:∀r∈ab,c7 r)(hv:v∈bM (am ab aa)):c7 v/\bq v=true:=by
 obtain⟨x,hx,rfl⟩:=vO hv;obtain⟨h1,h2⟩:=vN hx;exact⟨g _ (vL (bE h1)),h2⟩
theorem G1 (hl:ab.length<=60)(aa:Int):(bM (am ab aa)).length<=60:=by
 unfold bM;rw[vI];exact vR (vM _ _) (vR (cu ab aa) hl)
theorem DE {ab:List D}(g:∀r∈ab,c7 r)(hl:ab.length<=60)(aa:Int)(hn:((bM (am ab aa)).map (a9 0)).Nodup)(cs:List Cl)(xm:cs.length<=60){ri:Nat}{r:D}(hr:ab[ri]? = some r)(kr:kindOf r∈dB):
  i6 [.tup ab,.int aa,.lst (cs.map aU),.int ri]=lT (((bM (am ab aa)).filter (sR cs r)).map (NC cs r)):=by
 have gC:fM ab:=⟨hl,λr hr=>(g r hr).c⟩;have gr:=g r (vL hr);have R9:=G1 hl aa;have h1:=ir (fi:=qL (fA fK (fV 0 (fV 1 ai)))) (nT:=1) (cap:=[2,4]) (tg:=dD 0) (c:=bg (f2 zK (fA cB (fV 1 (fV 2 (fV 0 ai)))) (fC .non))) (fe:=aj 0)
  (ρ:=[sF (.tup ab),sF (.int aa),sF (.lst (cs.map aU)),sF (.int ri),some (r,false),none]) (bM (am ab aa)) id (sR cs r) id
  (by show(fA fK _ _).bind _=_;rw[aI [.tup ab,.int aa] rfl (nD gC aa),mh hn];simp) (by omega) λv hv=>by
   obtain⟨gv,HG⟩:=nI g hv;obtain⟨d,e1,e2,_⟩:=Cs cs xm gr gv kr HG;exact⟨[some (v,false),sF (.lst (cs.map aU)),some (r,false)],rfl,cA (b7 d .non (aI [.lst (cs.map aU),r,v] rfl e1) rfl e2),λ_=>⟨false,rfl⟩⟩
 rw[List.map_id]at h1;have p5:b8 ((bM (am ab aa)).filter (sR cs r))=true:=bI λv hv=>(nI g (vN hv).1).1.flat;refine av rfl (fz r (b7 (.tup ab) (.int ri) rfl rfl (by simp[cn hr])) gr.flat (bX h1 p5 (ay ?_)));refine mM (fi:=c6 (aj 5)) (nT:=1) (cap:=[2,4]) (tg:=dD 0) (fe:=fA aP (ae (fS "office") (ae (fA au (fV 0 (ae (fS "office") ai))) (ae (f2 bC (fA dY (fV 1 (fV 0 (ae (fA aT (fV 2 ai)) ai)))) (fI 2)) ai))))
  (ρ:=[sF (.tup ab),sF (.int aa),sF (.lst (cs.map aU)),sF (.int ri),some (r,false),lT ((bM (am ab aa)).filter (sR cs r))]) ((bM (am ab aa)).filter (sR cs r)) id (NC cs r) (by simp) (vR (vM _ _) (by omega)) λv hv=>?_
 obtain⟨Zx,Zy⟩:=vN hv;obtain⟨gv,HG⟩:=nI g Zx;have WM:(iU cs (a9 0 v) (a9 3 v) (cr r) (aG r) && rZ r v)=true:=Zy;rw[vC]at WM;have hh:=JJ WM.1;refine⟨[some (v,false),sF (.lst (cs.map aU)),some (r,false)],rfl,false,?_⟩;obtain⟨a,o,rl,m,f,rfl,_,_⟩:=rY gv HG;refine aI [.str "office",.str o,.int (Gz cs r _)] (bY rfl (aF (aI [row a ("root" : Str) [.str o,.int m,.int f,.str rl],.str "office"] rfl kO) (bY (b7 (jX cs o rl (aG r)) (.int 2) (aI [.lst (cs.map aU),row a ("root" : Str) [.str o,.int m,.int f,.str rl],.int (aG r)] (bY rfl (bY rfl (aF (aI [r] rfl (o9 gr (iW kr))) rfl))) (nA cs xm _)) rfl ?_) rfl))) (bZ _ (by simp));have hh:jX cs o rl (aG r)=_:=hh;rw[hh];simp[Vz]
noncomputable def G2 (day:Int)(x:Int×Option Int):Bool:=decide (x.1<=day) && (match x.2 with|none=>true|some u=>decide (day<u))
noncomputable def Q5:Option Int->Option Int->Bool
 |_,none=>true
 |none,some _=>false
 |some x,some y=>decide (x<=y)
theorem JL (a b:Option Int):jf [uD a,uD b]=sF (.bl (Q5 a b)):=by
 cases b with
 |none=>exact av rfl (bz (cA (by simp[uD])) (ay (by cases a<;>rfl)))
 |some y=>
  refine av rfl (aB (cA (by simp[uD])) (ay ?_));cases a with
  |none=>exact dW (p:=false) (q:=false) (b1:=false) (by simp[uD]) (by simp)
  |some x=>exact dW (p:=true) (q:=decide (x<=y)) (b1:=false) (by simp[uD]) λ_=>by simp[uD]
def JM (a b:Int×Option Int):Bool:=decide (b.1<=a.1) && Q5 a.2 b.2
theorem ND (a b:Int×Option Int):iR [iL a,iL b]=sF (.bl (JM a b)) :=
 av rfl (ay (dW (b1:=false) (by simp[iL,D6]) λ_=>aI [uD a.2,uD b.2] (bY (by simp[iL,Ei]) (bY (by simp[iL,Ei]) rfl)) (JL _ _)))
theorem Lz {ab:List D}{i:Nat}{r:D}(hr:ab[i]? = some r)(g:c7 r)(h:bq r=false):fj [.tup ab,.int i]=sF (.tup [.int (aG r),.int i]) :=
 av rfl (ay (aI [.int (aG r),.int i] (bY (aI [r] (by simp[cn hr]) (o9 g h)) rfl) (by simp[sizeLine])))
theorem T2 (a b c d:Int):LU (.tup [.int a,.int b]) (.tup [.int c,.int d])=sF (.bl (decide (a<c∨(a=c/\b<d)))):=by
 show(bc [.i a,.i b] [.i c,.i d]).map _=_;rw[N6];rfl
theorem zj {ab:List D}{i j:Nat}{x y:D}(hx:ab[i]? = some x)(hy:ab[j]? = some y)(gx:c7 x)(gy:c7 y)(nx:bq x=false)(ny:bq y=false):ge [.tup ab,.int i,.int j]=sF (.bl (fU (x,i) (y,j))) :=
 av rfl (ay (b7 (.tup [.int (aG x),.int i]) (.tup [.int (aG y),.int j]) (aI [.tup ab,.int i] rfl (Lz hx gx nx)) (aI [.tup ab,.int j] rfl (Lz hy gy ny)) (T2 _ _ _ _)))
def wU (r:D)(ri:Nat)(x:D×Nat):Bool:=fU x (r,ri) && ((G2 (aG r) (iH x.1) && JM (iH r) (iH x.1)) && rZ r x.1)
theorem Ct {ab:List D}{ri li:Nat}{r l:D}(hr:ab[ri]? = some r)(hl:ab[li]? = some l)(gr:c7 r)(gl:c7 l)(kr:kindOf r∈dB)(kl:kindOf l = "leave"):∃d,gD [.tup ab,.int ri,.int li]=some (d,false)/\zK d .non=sF (.bl (wU r ri (l,li)))/\Sd d:=by
 have nr:=iW kr;have nl:=iW (wT kl);obtain⟨d,e1,e2,e3⟩:=zi gr gl kr (.inr kl);let E:DL.Env:=[sF (.tup ab),sF (.int ri),sF (.int li),some (r,false),some (iL (iH l),false)];have al:∀ρ:DL.Env,ρ[0]? = some (sF (.tup ab))->ρ[2]? = some (sF (.int li))->f2 bC (aj 0) (aj 2) ρ=some (l,false):=λρ h0 h2=>b7 (.tup ab) (.int li) (by simp[h0]) (by simp[h2]) (by simp[cn hl]);have t1:bg (fA ge (fV 0 (fV 2 (fV 1 ai)))) E=some (fU (l,li) (r,ri)):=cA (aI [.tup ab,.int li,.int ri] rfl (zj hl hr gl gr nl nr));have t2:bg (fA jz (ae (fA aT (fV 3 ai)) (fV 4 ai))) E=some (G2 (aG r) (iH l)):=cA (aI [.int (aG r),iL (iH l)] (aF (aI [r] rfl (o9 gr nr)) (bY rfl rfl)) (Cg _ _ _));have t3:bg (fA iR (ae (fA au (fV 3 (ae (fS "stretch") ai))) (fV 4 ai))) E=some (JM (iH r) (iH l)):=cA (aI [iL (iH r),iL (iH l)] (aF (aI [r,.str "stretch"] rfl (Cr gr kr)) (bY rfl rfl)) (ND _ _));have t4:=dG (bH t2) λ_=>bH t3;have go:∀(h:FS)(res:Option Res),h E=res->aA (aS 3 (f2 bC (aj 0) (aj 1))) (aA (aS 4 (fA au (ae (f2 bC (aj 0) (aj 2)) (ae (fS "stretch") ai)))) h) [sF (.tup ab),sF (.int ri),sF (.int li),none,none]=res:=λh res k=>
  fz r (b7 (.tup ab) (.int ri) rfl rfl (by simp[cn hr])) gr.flat (fz (iL (iH l)) (aI [l,.str "stretch"] (aF (al _ rfl rfl) rfl) (Cr gl (wT kl))) (j6 _) k)
 unfold wU;cases hA:fU (l,li) (r,ri) with
 |false=>exact⟨.str "order",av rfl (go _ _ (bz (bH (p:=false) (t1.trans (by rw[hA]))) (ay rfl))),rfl,.inr ⟨_,rfl⟩⟩
 |true=>
  cases hB:(G2 (aG r) (iH l) && JM (iH r) (iH l)) with
  |false=>exact⟨.str "days",av rfl (go _ _ (aB (bH (p:=true) (t1.trans (by rw[hA]))) (bz (t4.trans (by rw[←Bool.not_and,hB];rfl)) (ay rfl)))),rfl,.inr ⟨_,rfl⟩⟩
  |true=>exact⟨d,av rfl (go _ _ (aB (bH (p:=true) (t1.trans (by rw[hA]))) (aB (t4.trans (by rw[←Bool.not_and,hB];rfl)) (ay (aI [r,l] (bY rfl (aF (al _ rfl rfl) rfl)) e1))))),e2,e3⟩
theorem ml {ab:List D}{aa:Int}{i:Nat}{r:D}(hr:ab[i]? = some r)(g:c7 r):gd [.tup ab,.int aa,.int i]=sF (.bl (decide (br r<=aa) && o8 r)):=by
 have HI:cG [.tup ab,.int aa,.int i]=sF (.bl (decide (br r<=aa))):=by
  obtain⟨a,k,aD,rfl,d⟩:=g;exact kM hr aa
 exact av rfl (ay (dW (aI [.tup ab,.int aa,.int i] rfl HI) λ_=>b7 (.str (kindOf r)) (.str "leave") (aI [r] (bY (b7 (.tup ab) (.int i) rfl rfl (by simp[cn hr])) rfl) (ji g.c)) rfl (by simp[o8])))
noncomputable def kQ (K:KL)(p:Str):KL:=(K.filter λx=>o8 x.1).filter λx=>decide (a9 2 x.1=p)
theorem zk (g:∀r∈ab,c7 r)(h:x∈kQ (am ab aa) p):ab[x.2]? = some x.1/\c7 x.1/\kindOf x.1 = "leave":=by
 obtain⟨h1,_⟩:=vN h;obtain⟨h2,h3⟩:=vN h1;exact⟨bE h2,g _ (vL (bE h2)),of_decide_eq_true h3⟩
theorem uG {ab:List D}(g:∀r∈ab,c7 r)(hl:ab.length<=60)(aa:Int)(p:Str):iS [.tup ab,.int aa,.str p]=lT ((kQ (am ab aa) p).map λx=>.int x.2):=by
 have LF:=cu ab aa;have h1:=ir (fi:=c6 (fA cH (fV 0 (fV 1 ai)))) (nT:=1) (cap:=[0,1]) (tg:=dD 0) (c:=bg (fA gd (fV 1 (fV 2 (fV 0 ai))))) (fe:=aj 0)
  (ρ:=[sF (.tup ab),sF (.int aa),sF (.str p),none]) (am ab aa) (λx=>.int x.2) (λx=>o8 x.1) (λx=>.int x.2)
  (by show(fA cH _ _).bind _=_;rw[aI [.tup ab,.int aa] rfl (kL ab (λr hr=>(g r hr).c.rp) (by omega) aa)];rfl) (by omega) λx hx=>by
   have hk:decide (br x.1<=aa)=true:=(vN hx).2;have:=ml (aa:=aa) (bE hx) (g _ (vL (bE hx)));rw[hk,Bool.true_and]at this;exact⟨_,rfl,cA (aI [.tup ab,.int aa,.int x.2] rfl this),λ_=>⟨false,rfl⟩⟩
 have p5:b8 (((am ab aa).filter λx=>o8 x.1).map λx=>D.int x.2)=true:=bI λd hd=>by obtain⟨x,_,rfl⟩:=vO hd;rfl
 refine av rfl (bX h1 p5 (ay ?_));refine ir (fi:=c6 (aj 3)) (nT:=1) (cap:=[2,0]) (tg:=dD 0) (c:=bg (f2 dm (fA au (ae (f2 bC (aj 2) (aj 0)) (ae (fS "person") ai))) (aj 1))) (fe:=aj 0)
  (ρ:=[sF (.tup ab),sF (.int aa),sF (.str p),lT (((am ab aa).filter λx=>o8 x.1).map λx=>.int x.2)]) ((am ab aa).filter λx=>o8 x.1) (λx=>.int x.2) (λx=>decide (a9 2 x.1=p)) (λx=>.int x.2) (by simp) (vR (vM _ _) (by omega)) λx hx=>?_
 obtain⟨h2,h3⟩:=vN hx;obtain⟨a,d,b,q,m,st,f,e,_⟩:=px (g _ (vL (bE h2))) (of_decide_eq_true h3);refine⟨[sF (.int x.2),sF (.str p),sF (.tup ab)],rfl,cA (b7 (.str (a9 2 x.1)) (.str p) (aI [x.1,.str "person"] (bY (b7 (.tup ab) (.int x.2) rfl rfl (by simp[cn (bE h2)])) rfl) ?_) rfl (by simp)),λ_=>⟨false,rfl⟩⟩;rw[e];exact bv (i:=2) (bp (by decide +kernel)) rfl
theorem DF {ab:List D}(g:∀r∈ab,c7 r)(hl:ab.length<=60)(aa:Int){ri:Nat}{r:D}(hr:ab[ri]? = some r)(kr:kindOf r∈dB):
  jg [.tup ab,.int aa,.int ri]=lT (((kQ (am ab aa) (cr r)).filter (wU r ri)).map λx=>.tup [.str "leave",.int x.2]):=by
 have gr:=g r (vL hr);have LF:=cu ab aa;have Oj:(kQ (am ab aa) (cr r)).length<=60:=vR (vM _ _) (vR (vM _ _) (by omega));have p5:b8 ((kQ (am ab aa) (cr r)).map λx=>D.int x.2)=true:=bI λd hd=>by obtain⟨x,_,rfl⟩:=vO hd;rfl
 refine av rfl (bX (ds:=(kQ (am ab aa) (cr r)).map λx=>.int x.2) (aI [.tup ab,.int aa,.str (cr r)] (bY rfl (bY rfl (aF (aI [r,.str "by"] (bY (b7 (.tup ab) (.int ri) rfl rfl (by simp[cn hr])) rfl) (uF gr (ft (.inl (jR kr))))) rfl))) (uG g hl aa _)) p5 (ay ?_));refine ir (fi:=c6 (aj 3)) (nT:=1) (cap:=[0,2]) (tg:=dD 0) (c:=bg (f2 zK (fA gD (fV 1 (fV 2 (fV 0 ai)))) (fC .non))) (fe:=fA aP (ae (fS "leave") (fV 0 ai)))
  (ρ:=[sF (.tup ab),sF (.int aa),sF (.int ri),lT ((kQ (am ab aa) (cr r)).map λx=>.int x.2)]) (kQ (am ab aa) (cr r)) (λx=>.int x.2) (wU r ri) (λx=>.tup [.str "leave",.int x.2]) (by simp) (by omega) λx hx=>?_
 obtain⟨h1,h2,h3⟩:=zk g hx;obtain⟨d,e1,e2,_⟩:=Ct hr h1 gr h2 kr h3;exact⟨[sF (.int x.2),sF (.tup ab),sF (.int ri)],rfl,cA (b7 d .non (aI [.tup ab,.int ri,.int x.2] rfl e1) rfl e2),λ_=>⟨false,aI [.str "leave",.int x.2] rfl (bZ _ (by simp))⟩⟩
abbrev Bs:=Option Str×Int
noncomputable def zM:Bs->D
 | (some o,n)=>.tup [.str "office",.str o,.int n]
 | (none,n)=>.tup [.str "leave",.int n]
noncomputable def zl:Bs->List At
 | (some o,n)=>[.i n,.s ("office" : Str),.s o,.i n]
 | (none,n)=>[.i n,.s ("leave" : Str),.i n]
theorem G3 (b:Bs):bu (zM b)=true:=by rcases b with⟨_|o,n⟩<;>rfl
theorem JN (b:Bs):bC (zM b) (.int (-1))=sF (.int b.2):=by rcases b with⟨_|o,n⟩<;>rfl
theorem G4 (a b:Bs):(bc (zl a) (zl b)).isSome=true:=by
 have Kr:("office" : Str) ≠ "leave":=by decide +kernel
 rcases a with⟨_|o,n⟩<;>rcases b with⟨_|o',n'⟩
 ·show(bc [.i n,.s ("leave" : Str),.i n] [.i n',.s ("leave" : Str),.i n']).isSome=true;rw[bc];split
  ·rw[bc,if_pos rfl,bc];split
   ·rw[bc];rfl
   ·rfl
  ·rfl
 ·show(bc [.i n,.s ("leave" : Str),.i n] [.i n',.s ("office" : Str),.s o',.i n']).isSome=true;rw[bc];split
  ·rw[bc,if_neg (Ne.symm Kr)];rfl
  ·rfl
 ·show(bc [.i n,.s ("office" : Str),.s o,.i n] [.i n',.s ("leave" : Str),.i n']).isSome=true;rw[bc];split
  ·rw[bc,if_neg Kr];rfl
  ·rfl
 ·show(bc [.i n,.s ("office" : Str),.s o,.i n] [.i n',.s ("office" : Str),.s o',.i n']).isSome=true;rw[bc];split
  ·rw[bc,if_pos rfl,bc];split
   ·rw[bc];split
    ·rw[bc];rfl
    ·rfl
   ·rfl
  ·rfl
theorem JP (h:zl a=zl b):a=b:=by
 rcases a with⟨_|o,n⟩<;>rcases b with⟨_|o',n'⟩<;>simp[zl]at h
 ·rw[h]
 ·rw[h.1,h.2.1]
theorem Cu (l:List Bs):eJ (l.map zl)=true:=by
 unfold eJ;simp[List.all_eq_true,G4]
theorem G5 (e:cP (zl a)=cP (zl b)):a=b:=JP (oi (Cu [a,b]) (by simp) (by simp) e)
def Xs (cs:List Cl)(r v:D):Bs:=(some (a9 0 v),Gz cs r v)
def zm (K:KL)(cs:List Cl)(r:D)(ri:Nat):List Bs:=((bM K).filter (sR cs r)).map (Xs cs r)++((kQ K (cr r)).filter (wU r ri)).map λx=>(none,(x.2:Int))
def NE (K:KL)(cs:List Cl)(r:D)(ri:Nat):List Bs:=eI (λb=>cP (zl b)) (zm K cs r ri)
theorem DG (hn:((bM (am ab aa)).map (a9 0)).Nodup)(cs:List Cl)(r:D)(ri:Nat):(zm (am ab aa) cs r ri).Nodup:=by
 unfold zm;rw[List.nodup_append];refine⟨?_,?_,?_⟩
 ·exact List.pairwise_map.mpr ((List.Pairwise.sublist List.filter_sublist (List.pairwise_map.mp hn)).imp λh e=>h (vK (Prod.mk.inj e).1))
 ·refine List.pairwise_map.mpr ((List.Pairwise.sublist (List.filter_sublist.trans (List.filter_sublist.trans List.filter_sublist)) (List.pairwise_map.mp (eF ab aa))).imp λh e=>h ?_);have:=(Prod.mk.inj e).2;omega
 ·intro a ha b hb e;obtain⟨v,_,rfl⟩:=vO ha;obtain⟨x,_,rfl⟩:=vO hb;cases (Prod.mk.inj e).1
theorem uH {α:Type}{g:α->D}{h:α->List At}:∀(l:List α),(∀x∈l,Nu (g x)=some (h x))->jx (l.map g)=some (l.map h)
 |[],_=>rfl
 |x::l,k=>by
  rw[uY,jx,k x mX,vJ,uH l λy hy=>k y (mZ _ hy)];rfl
theorem Cv (hl:ab.length<=30)(aa:Int)(cs:List Cl)(r:D)(ri:Nat):(zm (am ab aa) cs r ri).length<=60:=by
 have h1:((bM (am ab aa)).filter (sR cs r)).length<=30:=by
  refine vR (vM _ _) ?_;unfold bM;rw[vI];exact vR (vM _ _) (vR (cu ab aa) hl)
 have h2:((kQ (am ab aa) (cr r)).filter (wU r ri)).length<=30:=vR (vM _ _) (vR (vM _ _) (vR (vM _ _) (vR (cu ab aa) hl)));unfold zm;rw[uZ,vI,vI];omega
theorem G6 {f:FE}{ρ:DL.Env}{b:Bool}(l:List Bs)(hl:l.length<=60)(hn:l.Nodup)(e:f ρ=some (.lst (l.map zM),b)):AE f (q8 [] (fA aP (ae (f2 bC (aj 0) (f1 xX (fI 1))) (fV 0 ai)))) ρ=lT ((eI (λb=>cP (zl b)) l).map zM):=by
 have hm:jK (q8 [] (fA aP (ae (f2 bC (aj 0) (f1 xX (fI 1))) (fV 0 ai))) ρ) (l.map zM)=some (l.map λb=>.tup [.int b.2,zM b]):=iA l λb _=>by
  show(fA aP _ _).map _=_;rw[aI [.int b.2,zM b] (bY (b7 (zM b) (.int (-1)) rfl rfl (JN b)) (bY rfl rfl)) (bZ _ (by simp))];rfl
 have hk:jx (l.map λb=>D.tup [.int b.2,zM b])=some (l.map zl):=uH l λb _=>by rcases b with⟨_|o,n⟩<;>rfl
 have j9:(l.map zl).length<64/\eJ (l.map zl)=true/\True/\((l.map zl).map cP).Nodup:=by
  refine⟨by rw[vI];omega,Cu l,trivial,?_⟩;rw[uP];exact List.pairwise_map.mpr (List.Pairwise.imp (λh e=>h (G5 e)) hn)
 unfold AE wD;rw[e];simp only[vJ];rw[hm];simp only[vJ];rw[hk];simp only[vJ];rw[if_pos j9];unfold jw;have key:((eI (λb=>cP (zl b)) l).map λb=>(zl b,zM b))=eI (λp:List At×D=>cP p.1) (l.map λb=>(zl b,zM b)):=by
  refine k7 _ (λx hx y hy e=>?_) ((bN _ _).map _) ?_
  ·obtain⟨a,_,rfl⟩:=vO hx;obtain⟨b,_,rfl⟩:=vO hy;rw[G5 e]
  ·exact List.pairwise_map.mpr (ig _ _)
 rw[List.zip_map',←key,uP];rfl
section
variable {ab:List D}(g:∀r∈ab,c7 r) (hl:ab.length<=30) (aa:Int) (hn:((bM (am ab aa)).map (a9 0)).Nodup)
include g hl hn
theorem zn (cs:List Cl)(xm:cs.length<=60){ri:Nat}{r:D}(hr:ab[ri]? = some r)(kr:kindOf r∈dB)(hk:br r<=aa):eu [.tup ab,.int aa,.lst (cs.map aU),.int ri]=lT ((NE (am ab aa) cs r ri).map zM):=by
 have gr:=g r (vL hr);have wd:∀(ρ:DL.Env)(j:Nat),ρ[0]? = some (sF (.tup ab))->ρ[j]? = some (sF (.int ri))->fA aK (ae (f2 bC (aj 0) (aj j)) ai) ρ=sF (.str (kindOf r)):=λρ j h0 h2=>aI [r] (bY (b7 (.tup ab) (.int ri) (by simp[h0]) (by simp[h2]) (by simp[cn hr])) rfl) (ji gr.c);have HI:cG [.tup ab,.int aa,.int ri]=sF (.bl true):=by
  obtain⟨a,k,aD,rfl,d⟩:=id gr;rw[kM hr aa,decide_eq_true (show a<=aa from hk)]
 have UY:fm [.tup ab,.int aa,.int ri]=sF (.bl (decide (kindOf r∈[("paper" : Str),"like","copy"]))):=av rfl (ay (dW (p:=true) (aI [.tup ab,.int aa,.int ri] rfl HI) λ_=>b7 (.str (kindOf r)) (.tup ([("paper" : Str),"like","copy"].map .str)) (wd _ 2 rfl rfl) rfl (gF _ _)));have hb:dZ [.tup ab,.int aa,.int ri]=sF (.bl true):=by
  refine(av rfl (ay (qQ (aI [.tup ab,.int aa,.int ri] rfl (ml hr gr)) λ_=>aI [.tup ab,.int aa,.int ri] rfl UY))).trans ?_;rw[decide_eq_true hk,Bool.true_and];have:∀k∈dB,(decide (k = "leave") || decide (k∈[("paper" : Str),"like","copy"]))=true:=by decide +kernel
  unfold o8;rw[this _ kr]
 have Re:decide (kindOf r = "copy")=false:=by
  have:∀k∈dB,decide (k = "copy")=false:=by decide +kernel
  exact this _ kr
 have OX:=Cv hl aa cs r ri;have p5:b8 ((zm (am ab aa) cs r ri).map zM)=true:=bI λd hd=>by obtain⟨b,_,rfl⟩:=vO hd;exact G3 b
 refine av rfl (aB (bH (p:=true) (cA (aI [.tup ab,.int aa,.int ri] rfl hb))) (aB (bT (a:=kindOf r) (bb:=false) (wd _ 3 rfl rfl) Re) (bX (ds:=(zm (am ab aa) cs r ri).map zM) ?_ p5 (ay (G6 (b:=false) _ OX (DG hn cs r ri) rfl)))));have ho:=DE g (by omega) aa hn cs xm hr kr;have hv:=DF g (by omega) aa hr kr;refine g9 (x:=.lst (((bM (am ab aa)).filter (sR cs r)).map (NC cs r))) (y:=.lst (((kQ (am ab aa) (cr r)).filter (wU r ri)).map λx=>.tup [.str "leave",.int x.2])) (b1:=true) (b2:=true) (aI [.tup ab,.int aa,.lst (cs.map aU),.int ri] rfl ho) (aI [.tup ab,.int aa,.int ri] rfl hv) ?_;have RA:=OX;unfold zm at RA ⊢;rw[uZ,vI,vI]at RA;refine(if_pos (dA (by rw[vI,vI];omega))).trans ?_;rw[uW,uP,uP];rfl
end
def NF (K:KL)(c r:D):Bool:=decide (cr c=cr r) || (!decide (kindOf r = "copy") && (bM K).any λv=>decide (jk v &&& jk r=jk r) && iU (bi K) (a9 0 v) (a9 3 v) (cr c) (aG c))
theorem AR {α:Type}(l:List α)(p f:α->Bool):((l.filter p).map f).any id=l.any λx=>p x && f x:=by
 induction l with
 |nil=>rfl
 |cons x l ih=>
  rw[List.filter_cons,List.any_cons,←ih];cases h:p x with
  |true=>rw[if_pos rfl,uY,List.any_cons];rfl
  |false=>rw[if_neg (by decide)];rfl
theorem NG {ab:List D}(g:∀r∈ab,c7 r)(hl:ab.length<=60)(aa:Int)(bR:(bi (am ab aa)).length<=60)(hn:((bM (am ab aa)).map (a9 0)).Nodup){ci ri:Nat}{c r:D}(hc:ab[ci]? = some c)(hr:ab[ri]? = some r)(kc:kindOf c = "call")(kr:kindOf r∈bP):
  lX [.tup ab,.int aa,.lst ((bi (am ab aa)).map aU),.int ci,.int ri]=sF (.bl (NF (am ab aa) c r)):=by
 have gC:fM ab:=⟨hl,λr hr=>(g r hr).c⟩;have gc:=g c (vL hc);have gr:=g r (vL hr);have ac:=cn hc;have ar:=cn hr;have pc:=uF gc (ft (.inr kc));have pr:=uF gr (ft (.inl kr));have R9:∀v∈bM (am ab aa),c7 v/\bq v=true:=λv hv=>by
  obtain⟨x,hx,rfl⟩:=vO hv;obtain⟨h1,h2⟩:=vN hx;exact⟨g _ (vL (bE h1)),h2⟩
 have hrn:(bM (am ab aa)).length<=60:=by
  unfold bM;rw[vI];exact vR (vM _ _) (vR (cu ab aa) hl)
 have jA:aT [c]=sF (.int (aG c)):=by
  have:=rG gc.c;unfold sO at this;rwa [if_neg (by unfold bq;rw[kc];decide +kernel)]at this
 have WN:∀(v7:Option (D×Bool)),bg (f2 dm (aj 6) (fA au (fV 5 (ae (fS "by") ai)))) [sF (.tup ab),sF (.int aa),sF (.lst ((bi (am ab aa)).map aU)),sF (.int ci),sF (.int ri),some (r,false),sF (.str (cr c)),v7]=some (decide (cr c=cr r)):=λv7=>cA (b7 (.str (cr c)) (.str (cr r)) rfl (aI [r,.str "by"] rfl pr) (by simp));have WO:∀(v7:Option (D×Bool)),bg (f2 dm (fA aK (fV 5 ai)) (fS "copy")) [sF (.tup ab),sF (.int aa),sF (.lst ((bi (am ab aa)).map aU)),sF (.int ci),sF (.int ri),some (r,false),sF (.str (cr c)),v7]=some (decide (kindOf r = "copy")):=λv7=>bT (a:=kindOf r) (bb:=false) (aI [r] rfl (ji gr.c)) rfl;refine av rfl (fz r (b7 (.tup ab) (.int ri) rfl rfl (by simp[ar])) gr.flat (fz (.str (cr c)) (aI [c,.str "by"] (bY (b7 (.tup ab) (.int ci) rfl rfl (by simp[ac])) rfl) pc) rfl ?_));unfold NF;cases h1:decide (cr c=cr r) with
 |true=>exact bz ((WN none).trans (by rw[h1])) (ay rfl)
 |false=>
  refine aB ((WN none).trans (by rw[h1])) ?_;cases h2:decide (kindOf r = "copy") with
  |true=>exact bz ((WO none).trans (by rw[h2])) (ay rfl)
  |false=>
   have kb:kindOf r∈dB:=by
    have lJ:=of_decide_eq_false h2;have:∀k∈bP,k ≠ "copy"->k∈dB:=by decide +kernel
    exact this _ kr lJ
   have pm:=wR gr kb;refine aB ((WO none).trans (by rw[h2])) ?_;have LJ:=ir (fi:=qL (fA fK (fV 0 (fV 1 ai)))) (nT:=1) (cap:=[5]) (tg:=dD 0) (c:=bg (fA iz (ae (fA au (fV 0 (ae (fS "matters") ai))) (ae (fA au (fV 1 (ae (fS "matters") ai))) ai)))) (fe:=aj 0)
    (ρ:=[sF (.tup ab),sF (.int aa),sF (.lst ((bi (am ab aa)).map aU)),sF (.int ci),sF (.int ri),some (r,false),sF (.str (cr c)),none]) (bM (am ab aa)) id (λv=>decide (jk v &&& jk r=jk r)) id
    (by show(fA fK _ _).bind _=_;rw[aI [.tup ab,.int aa] rfl (nD gC aa),mh hn];simp) (by omega) λv hv=>by
     obtain⟨gv,HG⟩:=R9 v hv;exact⟨[some (v,false),some (r,false)],rfl,cA (aI [.int (jk v),.int (jk r)] (aF (aI [v,.str "matters"] rfl (Cp gv HG)) (aF (aI [r,.str "matters"] rfl pm) rfl)) (uE _ _)),λ_=>⟨false,rfl⟩⟩
   rw[List.map_id]at LJ;refine bX (ds:=(bM (am ab aa)).filter λv=>decide (jk v &&& jk r=jk r)) LJ (bI λv hv=>(R9 v (vN hv).1).1.flat) (ay ?_);have Hr:=mM (fi:=c6 (aj 7)) (nT:=1) (cap:=[2,6,0,3]) (tg:=dD 0) (fe:=fA cO (fV 1 (fV 0 (fV 2 (ae (fA aT (ae (f2 bC (aj 3) (aj 4)) ai)) ai)))))
    (ρ:=[sF (.tup ab),sF (.int aa),sF (.lst ((bi (am ab aa)).map aU)),sF (.int ci),sF (.int ri),some (r,false),sF (.str (cr c)),lT ((bM (am ab aa)).filter λv=>decide (jk v &&& jk r=jk r))]) ((bM (am ab aa)).filter λv=>decide (jk v &&& jk r=jk r)) id (λv=>.bl (iU (bi (am ab aa)) (a9 0 v) (a9 3 v) (cr c) (aG c)))
    (by simp) (vR (vM _ _) (by omega)) λv hv=>by
     obtain⟨gv,HG⟩:=R9 v (vN hv).1;obtain⟨a,o,rl,m,f,rfl,_,_⟩:=rY gv HG;exact⟨[some (row a ("root" : Str) [.str o,.int m,.int f,.str rl],false),sF (.lst ((bi (am ab aa)).map aU)),sF (.str (cr c)),sF (.tup ab),sF (.int ci)],rfl,false,aI [.lst ((bi (am ab aa)).map aU),row a ("root" : Str) [.str o,.int m,.int f,.str rl],.str (cr c),.int (aG c)] (bY rfl (bY rfl (bY rfl (aF (aI [c] (bY (b7 (.tup ab) (.int ci) rfl rfl (by simp[ac])) rfl) jA) rfl)))) (wM _ bR _ _)⟩
   refine(aI [_] (aF Hr rfl) ?_);show(sG _).map _=_;rw[yI,Option.map_some,AR];rfl
theorem AS (g:c7 r)(h:kindOf r = "call"):∃a d b,∃n:Nat,r=row a ("call" : Str) [.int d,.str b,.int n]:=by
 obtain⟨a,k,aD,rfl,d⟩:=g;have hk:k = "call":=h;clear h;cases d with
 |copy k fD d b n=>subst hk;exact⟨a,d,b,n,rfl⟩
 |root=>exact absurd hk (by decide +kernel)
 |named=>exact absurd hk (by decide +kernel)
 |chosen=>exact absurd hk (by decide +kernel)
 |heir=>exact absurd hk (by decide +kernel)
 |three k fD=>rcases fD with rfl|rfl|rfl<;>exact absurd hk (by decide +kernel)
 |leave=>exact absurd hk (by decide +kernel)
 |paper k fD=>rcases fD with rfl|rfl<;>exact absurd hk (by decide +kernel)
def JQ (ab:List D)(aa:Int)(ri:Nat)(r:D)(day:Int)(c:D):Bool:=decide (kindOf c = "call") && (decide (iE 2 c=ri) && (decide (aG c<=day) && (gJ ab aa c && NF (am ab aa) c r)))
theorem NH (e:f ρ=some (.str a,bb)):bg (f2 zI f (fS b)) ρ=some (!decide (a=b)):=cA (g9 (x:=.str a) (y:=.str b) (b1:=bb) (b2:=false) e rfl (by simp))
section
variable {ab:List D}(g:∀r∈ab,c7 r) (hl:ab.length<=60) (aa:Int) (bR:(bi (am ab aa)).length<=60) (hn:((bM (am ab aa)).map (a9 0)).Nodup)
include g hl bR hn
theorem zo {ci ri:Nat}{c r:D}(hc:ab[ci]? = some c)(hr:ab[ri]? = some r)(kr:kindOf r∈bP)(day:Int):jN [.tup ab,.int aa,.lst ((bi (am ab aa)).map aU),.int ci,.int ri,.int day]=sF (.bl (JQ ab aa ri r day c)):=by
 have gc:=g c (vL hc);have ac:=cn hc;have tw:bg (f2 zI (fA aK (fV 6 ai)) (fS "call")) [sF (.tup ab),sF (.int aa),sF (.lst ((bi (am ab aa)).map aU)),sF (.int ci),sF (.int ri),sF (.int day),some (c,false)]=some (!decide (kindOf c = "call")):=NH (a:=kindOf c) (bb:=false) (aI [c] rfl (ji gc.c));refine av rfl (fz c (b7 (.tup ab) (.int ci) rfl rfl (by simp[ac])) gc.flat ?_);unfold JQ;by_cases hk:kindOf c = "call"
 ·obtain⟨a,d,b,n,ec⟩:=AS gc hk;have e1:iE 2 c=(n:Int):=by rw[ec];rfl
  have e2:aG c=d:=by rw[ec];rfl
  have po:au [c,.str "of"]=sF (.int n):=by rw[ec];exact bv (i:=2) (bp (by decide +kernel)) rfl
  have pd:aT [c]=sF (.int d):=by
   have:=rG gc.c;unfold sO at this;rwa [if_neg (by unfold bq;rw[hk];decide +kernel),e2]at this
  have t2:bg (f2 zI (fA au (fV 6 (ae (fS "of") ai))) (aj 4)) [sF (.tup ab),sF (.int aa),sF (.lst ((bi (am ab aa)).map aU)),sF (.int ci),sF (.int ri),sF (.int day),some (c,false)]=some (!decide ((n:Int)=ri)):=cA (b7 (.int n) (.int ri) (aI [c,.str "of"] rfl po) rfl (by simp));have t3:bg (f2 Aj (fA aT (fV 6 ai)) (aj 5)) [sF (.tup ab),sF (.int aa),sF (.lst ((bi (am ab aa)).map aU)),sF (.int ci),sF (.int ri),sF (.int day),some (c,false)]=some (decide (day<d)):=cA (b7 (.int d) (.int day) (aI [c] rfl pd) rfl rfl);have tt:=dG tw λ_=>dG t2 λ_=>t3;rw[e1,e2,decide_eq_true hk,Bool.true_and];rw[decide_eq_true hk]at tt;by_cases h1:(n:Int)=ri
  ·by_cases h2:d<=day
   ·rw[decide_eq_true h1,decide_eq_true h2,Bool.true_and,Bool.true_and];rw[decide_eq_true h1,decide_eq_false (by omega)]at tt;exact aB tt (ay (dW (aI [.tup ab,.int aa,.int ci] rfl (nu ab (λr hr=>(g r hr).c.rp) (by omega) aa hc)) λ_=>aI [.tup ab,.int aa,.lst ((bi (am ab aa)).map aU),.int ci,.int ri] rfl (NG g hl aa bR hn hc hr hk kr)))
   ·rw[decide_eq_false h2,Bool.false_and,Bool.and_false];rw[decide_eq_true h1,decide_eq_true (show day<d by omega)]at tt;exact bz tt (ay rfl)
  ·rw[decide_eq_false h1,Bool.false_and];rw[decide_eq_false h1]at tt;exact bz tt (ay rfl)
 ·rw[decide_eq_false hk,Bool.false_and];refine bz (dG (p:=true) (q:=false) (tw.trans (by rw[decide_eq_false hk];rfl)) λh=>by cases h) (ay rfl)
def fP (ab:List D)(aa:Int)(ri:Nat)(r:D)(day:Int):List Nat:=if br r<=aa/\kindOf r∈bP then ((am ab aa).filter λx=>JQ ab aa ri r day x.1).map (·.2)else []
theorem pz {ri:Nat}{r:D}(hr:ab[ri]? = some r)(day:Int):jO [.tup ab,.int aa,.lst ((bi (am ab aa)).map aU),.int ri,.int day]=lT ((fP ab aa ri r day).map λn:Nat=>.int n):=by
 have gr:=g r (vL hr);have ar:=cn hr;have HI:cG [.tup ab,.int aa,.int ri]=sF (.bl (decide (br r<=aa))):=by
  obtain⟨a,k,aD,e,d⟩:=gr;rw[e]at hr;rw[show br r=a by rw[e];rfl];exact kM hr aa
 have wd:∀ρ:DL.Env,ρ[0]? = some (sF (.tup ab))->ρ[2]? = some (sF (.int ri))->fA aK (ae (f2 bC (aj 0) (aj 2)) ai) ρ=sF (.str (kindOf r)):=λρ h0 h2=>aI [r] (bY (b7 (.tup ab) (.int ri) (by simp[h0]) (by simp[h2]) (by simp[ar])) rfl) (ji gr.c);have Oj:gd [.tup ab,.int aa,.int ri]=sF (.bl (decide (br r<=aa) && decide (kindOf r = "leave"))):=av rfl (ay (dW (aI [.tup ab,.int aa,.int ri] rfl HI) λ_=>b7 (.str (kindOf r)) (.str "leave") (wd _ rfl rfl) rfl (by simp)));have UY:fm [.tup ab,.int aa,.int ri]=sF (.bl (decide (br r<=aa) && decide (kindOf r∈[("paper" : Str),"like","copy"]))):=av rfl (ay (dW (aI [.tup ab,.int aa,.int ri] rfl HI) λ_=>b7 (.str (kindOf r)) (.tup ([("paper" : Str),"like","copy"].map .str)) (wd _ rfl rfl) rfl (gF _ _)));have hb:dZ [.tup ab,.int aa,.int ri]=sF (.bl (decide (br r<=aa/\kindOf r∈bP))):=by
  refine(av rfl (ay (qQ (aI [.tup ab,.int aa,.int ri] rfl Oj) λ_=>aI [.tup ab,.int aa,.int ri] rfl UY))).trans ?_;congr 3;simp only[bP,List.mem_cons,List.not_mem_nil,or_false];by_cases h1:br r<=aa
  ·simp[h1]
  ·simp[h1]
 unfold fP;by_cases hx:br r<=aa/\kindOf r∈bP
 ·rw[if_pos hx];refine av rfl (aB (bH (p:=true) (cA (aI [.tup ab,.int aa,.int ri] rfl (by rw[hb,decide_eq_true hx])))) (ay ?_));have RB:=ir (fi:=c6 (fA cH (fV 0 (fV 1 ai)))) (nT:=1) (cap:=[0,1,2,3,4]) (tg:=dD 0) (c:=bg (fA jN (fV 1 (fV 2 (fV 3 (fV 0 (fV 4 (fV 5 ai)))))))) (fe:=aj 0)
   (ρ:=[sF (.tup ab),sF (.int aa),sF (.lst ((bi (am ab aa)).map aU)),sF (.int ri),sF (.int day)]) (am ab aa) (λx=>.int x.2) (λx=>JQ ab aa ri r day x.1) (λx=>.int x.2)
   (by show(fA cH _ _).bind _=_;rw[aI [.tup ab,.int aa] rfl (kL ab (λr hr=>(g r hr).c.rp) (by omega) aa)];rfl) (vR (cu ab aa) (by omega)) λx hx2=>by
    exact⟨_,rfl,cA (aI [.tup ab,.int aa,.lst ((bi (am ab aa)).map aU),.int x.2,.int ri,.int day] rfl (zo g hl aa bR hn (bE hx2) hr hx.2 day)),λ_=>⟨false,rfl⟩⟩
  rw[uP];exact RB
 ·rw[if_neg hx];exact av rfl (bz (bH (p:=false) (cA (aI [.tup ab,.int aa,.int ri] rfl (by rw[hb,decide_eq_false hx])))) (ay (aI [] rfl (de _ (by simp)))))
omit bR in
theorem G7 (ho:(cL (am ab aa)).length<=60){ri:Nat}{r:D}(hr:ab[ri]? = some r)(day:Int):pT [.tup ab,.int aa,.int ri,.int day]=lT ((fP ab aa ri r day).map λn:Nat=>.int n):=by
 obtain⟨ec,oB⟩:=lg (ab:=ab) ⟨hl,λr hr=>(g r hr).c⟩ aa ho;exact av rfl (ay (aI [.tup ab,.int aa,.lst ((bi (am ab aa)).map aU),.int ri,.int day] (bY rfl (bY rfl (aF (aI [.tup ab,.int aa] rfl ec) (bY rfl (bY rfl rfl))))) (pz g hl aa oB hn hr day)))
end
noncomputable def lh:List Str:=[("paper" : Str),"like","copy"]
noncomputable def AT (w:Str):Bs->D
 | (some o,n)=>.tup [.str "office",.str o,.int n]
 | (none,n)=>.tup [.str w,.int n]
def Ej (r:D):Str:=if kindOf r = "copy" then ("copy" : Str)else ("leave" : Str)
theorem DH (b:Bs):AT ("leave" : Str) b=zM b:=by rcases b with⟨_|o,n⟩<;>rfl
theorem DI {ab:List D}{n:Nat}(h:ab.length<=n)(aa:Int):cG [.tup ab,.int aa,.int n]=sF (.bl false):=by
 refine av rfl (ay (dW (p:=false) (q:=false) (b1:=false) ?_ λz=>by cases z));have h1:¬(n:Int)<ab.length:=by omega
 exact(yH (p:=true) (q:=false) (x:=.int 0) (y:=.int n) (z:=.int ab.length) (b1:=false) (b2:=false) (b3:=false) (b4:=false) rfl rfl (by simp) (by simp) λ_=>by simp[h1])
theorem G8 {ab:List D}{i:Nat}{r:D}(hr:ab[i]? = some r)(g:c7 r)(aa:Int):cG [.tup ab,.int aa,.int i]=sF (.bl (decide (br r<=aa))):=by
 obtain⟨a,k,aD,rfl,d⟩:=g;exact kM hr aa
theorem wV {ab:List D}{i:Nat}{r:D}(hr:ab[i]? = some r)(g:c7 r){ρ:DL.Env}{j:Nat}(h0:ρ[0]? = some (sF (.tup ab)))(hj:ρ[j]? = some (sF (.int i))):fA aK (ae (f2 bC (aj 0) (aj j)) ai) ρ=sF (.str (kindOf r)) :=
 aI [r] (bY (b7 (.tup ab) (.int i) (by simp[h0]) (by simp[hj]) (by simp[cn hr])) rfl) (ji g.c)
theorem zp {ab:List D}{i:Nat}{r:D}(hr:ab[i]? = some r)(g:c7 r)(aa:Int):fm [.tup ab,.int aa,.int i]=sF (.bl (decide (br r<=aa) && decide (kindOf r∈lh))) :=
 av rfl (ay (dW (aI [.tup ab,.int aa,.int i] rfl (G8 hr g aa)) λ_=>b7 (.str (kindOf r)) (.tup (lh.map .str)) (wV hr g rfl rfl) rfl (gF _ _)))
theorem zq {ab:List D}{i:Nat}{r:D}(hr:ab[i]? = some r)(g:c7 r)(aa:Int):dZ [.tup ab,.int aa,.int i]=sF (.bl (decide (br r<=aa) && decide (kindOf r∈bP))):=by
 refine(av rfl (ay (qQ (aI [.tup ab,.int aa,.int i] rfl (ml hr g)) λ_=>aI [.tup ab,.int aa,.int i] rfl (zp hr g aa)))).trans ?_;congr 3;unfold o8;simp only[bP,lh,List.mem_cons,List.not_mem_nil,or_false];by_cases h1:br r<=aa
 ·simp[h1]
 ·simp[h1]
def zu (ab:List D)(aa:Int)(r:D)(ri n:Nat):Bool:=match ab[n]? with
 |none=>false
 |some q=>(decide (br q<=aa) && decide (kindOf q∈lh)) && fU (q,n) (r,ri)
theorem sd (g:c7 r)(h:kindOf r = "copy"):∃a d b,∃n:Nat,r=row a ("copy" : Str) [.int d,.str b,.int n]:=by
 obtain⟨a,k,aD,rfl,d⟩:=g;have hk:k = "copy":=h;clear h;cases d with
 |copy k fD d b n=>subst hk;exact⟨a,d,b,n,rfl⟩
 |root=>exact absurd hk (by decide +kernel)
 |named=>exact absurd hk (by decide +kernel)
 |chosen=>exact absurd hk (by decide +kernel)
 |heir=>exact absurd hk (by decide +kernel)
 |three k fD=>rcases fD with rfl|rfl|rfl<;>exact absurd hk (by decide +kernel)
 |leave=>exact absurd hk (by decide +kernel)
 |paper k fD=>rcases fD with rfl|rfl<;>exact absurd hk (by decide +kernel)
theorem se (h:kindOf r∈lh):bq r=false:=by
 have:∀k∈lh,decide (k = "root")=false:=by decide +kernel
 exact this _ h
theorem DJ {ab:List D}(g:∀r∈ab,c7 r)(aa:Int){ri:Nat}{r:D}(hr:ab[ri]? = some r)(kc:kindOf r = "copy"):∃n:Nat,iE 2 r=n/\jM [.tup ab,.int aa,.int ri]=lT ((if zu ab aa r ri n=true then [((none,(n:Int)):Bs)]else []).map (AT ("copy" : Str))):=by
 have gr:=g r (vL hr);obtain⟨a,d,b,n,er⟩:=sd gr kc;have nr:bq r=false:=se (by rw[kc];decide +kernel);have po:au [r,.str "of"]=sF (.int n):=by rw[er];exact bv (i:=2) (bp (by decide +kernel)) rfl
 refine⟨n,by rw[er];rfl,?_⟩;let E:DL.Env:=[sF (.tup ab),sF (.int aa),sF (.int ri),sF (.int n)];refine av rfl (fz (.int n) (aI [r,.str "of"] (bY (b7 (.tup ab) (.int ri) rfl rfl (by simp[cn hr])) rfl) po) rfl ?_);have tt:eG (bg (fA fm (fV 0 (fV 1 (fV 3 ai))))) (bg (fA ge (fV 0 (fV 3 (fV 2 ai))))) E=some (zu ab aa r ri n):=by
  unfold zu;cases hq:ab[n]? with
  |none=>
   have hn:ab.length<=n:=List.getElem?_eq_none_iff.mp hq;exact dM (p:=false) (q:=false) (cA (aI [.tup ab,.int aa,.int n] rfl (av rfl (ay (dW (p:=false) (q:=false) (aI [.tup ab,.int aa,.int n] rfl (DI hn aa)) λz=>by cases z))))) λz=>by cases z
  |some q=>
   have gq:=g q (vL hq);exact dM (cA (aI [.tup ab,.int aa,.int n] rfl (zp hq gq aa))) λh=>by
    rw[vC]at h;exact cA (aI [.tup ab,.int n,.int ri] rfl (zj hq hr gq gr (se (of_decide_eq_true h.2)) nr))
 cases hv:zu ab aa r ri n with
 |true=>
  rw[hv]at tt;rw[if_pos rfl];exact bz tt (ay (aI [.tup [.str "copy",.int n]] (bY (aI [.str "copy",.int n] rfl (bZ _ (by simp))) rfl) (de _ (by simp))))
 |false=>
  rw[hv]at tt;rw[if_neg (by decide)];exact aB tt (ay (aI [] rfl (de _ (by simp))))
def uI (ab:List D)(aa:Int)(cs:List Cl)(x:D×Nat):List Bs:=if kindOf x.1 = "copy" then (if zu ab aa x.1 x.2 (iE 2 x.1).toNat=true then [(none,iE 2 x.1)]else [])else NE (am ab aa) cs x.1 x.2
section
variable {ab:List D}(g:∀r∈ab,c7 r) (hl:ab.length<=30) (aa:Int) (hn:((bM (am ab aa)).map (a9 0)).Nodup)
include g hl hn
theorem Cw (cs:List Cl)(xm:cs.length<=60){ri:Nat}{r:D}(hr:ab[ri]? = some r)(kr:kindOf r∈bP)(hk:br r<=aa):eu [.tup ab,.int aa,.lst (cs.map aU),.int ri]=lT ((uI ab aa cs (r,ri)).map (AT (Ej r))):=by
 have gr:=g r (vL hr);unfold uI Ej;by_cases kc:kindOf r = "copy"
 ·rw[if_pos kc,if_pos kc];obtain⟨n,e1,e2⟩:=DJ g aa hr kc;rw[e1,Int.toNat_natCast];refine av rfl (aB (bH (p:=true) (cA (aI [.tup ab,.int aa,.int ri] rfl ((zq hr gr aa).trans (by rw[decide_eq_true hk,decide_eq_true kr];rfl))))) (bz (bT (a:=kindOf r) (bb:=false) (wV hr gr rfl rfl) (decide_eq_true kc)) (ay (aI [.tup ab,.int aa,.int ri] rfl e2))))
 ·rw[if_neg kc,if_neg kc];have kb:kindOf r∈dB:=by
   have:∀k∈bP,k ≠ "copy"->k∈dB:=by decide +kernel
   exact this _ kr kc
  rw[show AT ("leave" : Str)=zM from funext DH];exact zn g hl aa hn cs xm hr kb hk
end
theorem NI (e:f (m4 ρ)=some (d,b))(k:h (ρ.set i (some (d,false)))=r):aA (xF i f) h ρ=r:=dz (ρ':=ρ.set i (some (d,false))) (by simp only[xF,e,Option.map_some]) k
theorem Cy (e:ρ[i]? = some (some (.dk ks vs,b))):jr i ρ=some (.rt (.dk ks vs) false):=by simp[jr,e]
noncomputable def kN (x:D×Nat):cD:=.inl (x.2:Int)
def G9 (ab:List D)(aa day:Int)(x:D×Nat):Bool:=(gJ ab aa x.1 && decide (aG x.1<=day)) && (fP ab aa x.2 x.1 day).isEmpty
theorem Cz {α:Type}(l:List α)(f:α->D):decide ((((l.map f).length:Nat):Int)=0)=l.isEmpty:=by
 cases l with
 |nil=>rfl
 |cons a l=>rw[uY,vE];exact decide_eq_false (by omega)
noncomputable def lu (ab:List D)(aa day:Int)(l:KL):KL:=l.filter λx=>decide (kindOf x.1∈bP) && G9 ab aa day x
section
variable {ab:List D}(g:∀r∈ab,c7 r) (hl:ab.length<=30) (aa:Int) (hn:((bM (am ab aa)).map (a9 0)).Nodup)
include g hl hn
theorem NJ (bR:(bi (am ab aa)).length<=60){ri:Nat}{r:D}(hr:ab[ri]? = some r)(kr:kindOf r∈bP)(day:Int):mS [.tup ab,.int aa,.lst ((bi (am ab aa)).map aU),.int ri,.int day]=sF (.bl (G9 ab aa day (r,ri))):=by
 have gr:=g r (vL hr);have nr:bq r=false:=by
  have:∀k∈bP,decide (k = "root")=false:=by decide +kernel
  exact this _ kr
 let E:DL.Env:=[sF (.tup ab),sF (.int aa),sF (.lst ((bi (am ab aa)).map aU)),sF (.int ri),sF (.int day)];have t1:bg (fA du (fV 0 (fV 1 (fV 3 ai)))) E=some (gJ ab aa r):=cA (aI [.tup ab,.int aa,.int ri] rfl (nu ab (λr hr=>(g r hr).c.rp) (by omega) aa hr));have t2:bg (f2 Aj (fA aT (ae (f2 bC (aj 0) (aj 3)) ai)) (aj 4)) E=some (decide (day<aG r)):=cA (b7 (.int (aG r)) (.int day) (aI [r] (bY (b7 (.tup ab) (.int ri) rfl rfl (by simp[cn hr])) rfl) (o9 gr nr)) rfl rfl);have tt:=dG (bH t1) λ_=>t2;have e:(!gJ ab aa r || decide (day<aG r)) = !(gJ ab aa r && decide (aG r<=day)):=by
  rw[Bool.not_and];congr 1;rw[←decide_not];congr 1;rw[Int.not_le]
 rw[e]at tt;unfold G9;cases hA:(gJ ab aa r && decide (aG r<=day)) with
 |false=>
  rw[hA]at tt;exact av rfl (bz tt (ay rfl))
 |true=>
  rw[hA]at tt;refine av rfl (aB tt (ay ?_));rw[Bool.true_and,←Cz (fP ab aa ri r day) λn:Nat=>.int n];exact b7 (.int (((fP ab aa ri r day).map λn:Nat=>D.int n).length:Nat)) (.int 0) (aI [.lst ((fP ab aa ri r day).map λn:Nat=>.int n)] (aF (aI [.tup ab,.int aa,.lst ((bi (am ab aa)).map aU),.int ri,.int day] rfl (pz g (by omega) aa bR hn hr day)) rfl) rfl) rfl (by simp)
theorem zv (ho:(cL (am ab aa)).length<=60)(day:Int):mT [.tup ab,.int aa,.int day]=sF (.dk ((lu ab aa day (cL (am ab aa))).map kN) ((lu ab aa day (cL (am ab aa))).map λx=>.lst ((uI ab aa (bi (am ab aa)) x).map (AT (Ej x.1))))):=by
 have gC:fM ab:=⟨by omega,λr hr=>(g r hr).c⟩;obtain⟨ec,oB⟩:=lg (ab:=ab) gC aa ho;have eL:dX [.tup ab,.int aa]=lT ((cL (am ab aa)).map λx=>.int x.2):=pq gC aa;generalize xm:bi (am ab aa)=cs at ec oB ⊢;have oC:∀x∈cL (am ab aa),x∈am ab aa:=λx hx=>(vN ((bN _ _).mem_iff.mp hx)).1;have Kv:((cL (am ab aa)).map (·.2)).Nodup:=lf (eF ab aa);generalize cL (am ab aa)=O at ho eL oC Kv ⊢;let vD:D×Nat->D:=λx=>.lst ((uI ab aa cs x).map (AT (Ej x.1)));let E:KL->Option (D×Bool)->DL.Env:=λL v5=>[sF (.tup ab),sF (.int aa),sF (.int day),sF (.lst (cs.map aU)),some (.dk (L.map kN) (L.map vD),true),v5];obtain⟨ρ',e,v5,rfl⟩:=iq (tg:=dD 5) (g:=yO) (λj ρ=>∃v5,ρ=E (lu ab aa day (O.take j)) v5) (O.map λx=>.int x.2) (E [] none) ⟨none,rfl⟩ (by
  rintro j d ρ hd ⟨v5,rfl⟩;rw[vA]at hd;obtain⟨x,hx,rfl⟩:=oY hd;have Sz:=oC x (vL hx);have hr:=bE Sz;have HI:br x.1<=aa:=of_decide_eq_true (vN Sz).2;have gx:=g x.1 (vL hr);have et:O.take (j+1)=O.take j++[x]:=by rw[List.take_add_one,hx];rfl
  have ef:lu ab aa day (O.take (j+1))=lu ab aa day (O.take j)++if(decide (kindOf x.1∈bP) && G9 ab aa day x)=true then [x]else []:=by
   unfold lu;rw[et,List.filter_append,List.filter_cons];split<;>rfl
  have WP:x.2∉(lu ab aa day (O.take j)).map (·.2):=by
   have h2:((O.take (j+1)).map (·.2)).Nodup:=List.Nodup.sublist (List.Sublist.map _ (List.take_sublist _ _)) Kv;rw[et,uW,List.nodup_append]at h2;intro hm;obtain⟨y,hy,ey⟩:=vO hm;exact h2.2.2 _ (uS ⟨y,(vN hy).1,rfl⟩) _ (by simp) ey
  have Zz:(lu ab aa day (O.take j)).length<=60:=vR (vM _ _) (vR (List.length_take_le' _ _) ho);generalize lu ab aa day (O.take j)=L at ef WP Zz;let F:DL.Env:=E L (sF (.int x.2));have t1:bg (fA dZ (fV 0 (fV 1 (fV 5 ai)))) F=some (decide (kindOf x.1∈bP)):=cA (aI [.tup ab,.int aa,.int x.2] rfl ((zq hr gx aa).trans (by rw[decide_eq_true HI,Bool.true_and])));have tt:=dM t1 λh=>cA (f:=fA mS (fV 0 (fV 1 (fV 3 (fV 5 (fV 2 ai)))))) (aI [.tup ab,.int aa,.lst (cs.map aU),.int x.2,.int day] rfl (by rw[←xm];exact NJ g hl aa hn (by rw[xm];exact oB) hr (of_decide_eq_true h) day));refine⟨F,E (L++if(decide (kindOf x.1∈bP) && G9 ab aa day x)=true then [x]else []) (sF (.int x.2)),rfl,.inl (Qy tt (λh=>?_) λh=>?_),sF (.int x.2),by rw[ef]⟩
  ·rw[if_pos h];have kb:kindOf x.1∈bP:=by rw[vC]at h;exact of_decide_eq_true h.1
   have Oo:qN 4 (aj 5) (fA eu (fV 0 (fV 1 (fV 3 (fV 5 ai))))) F=some (.nx (F.set 4 (some (.dk (dJ (L.map kN) (kN x)) (dL (L.map kN) (L.map vD) (kN x) (vD x)),true)))):=by
    have ev:fA eu (fV 0 (fV 1 (fV 3 (fV 5 ai)))) (m4 F)=some (vD x,true):=aI [.tup ab,.int aa,.lst (cs.map aU),.int x.2] rfl (Cw g hl aa hn cs oB hr kb HI);show((fA eu _ (m4 F)).bind _)=_;rw[ev];simp only[vJ];exact if_pos (c:=(L.map kN).length<sizeLine) (bO (by rw[vI];omega))
   rw[Oo];have hk:kN x∉L.map kN:=λhm=>by
    obtain⟨y,hy,ey⟩:=vO hm;exact WP (uS ⟨y,hy,by have:=Sum.inl.inj (show(Sum.inl (y.2:Int):cD)=Sum.inl (x.2:Int)from ey);omega⟩)
   unfold dJ dL;rw[if_neg hk,if_neg hk];simp[F,E]
  ·rw[h,if_neg (by decide),uQ];rfl)
 rw[vI,List.take_length]at e;exact av rfl (NI (aI [.tup ab,.int aa] rfl ec) (dz (ρ':=E [] none) rfl (dz (kY (ds:=O.map λx=>.int x.2) (by show(fA dX _ _).bind _=_;rw[aI [.tup ab,.int aa] rfl eL];rfl) e) (Cy (b:=true) rfl))))
end
noncomputable def nK (n:Nat):cD:=.inl (n:Int)
noncomputable def DK:Nat->D:=λ_=>.bl true
noncomputable def nJ (S:List Nat)(b:Bs):Bool:=b.1.isSome || S.any λn=>decide ((n:Int)=b.2)
noncomputable def jY (S:List Nat)(p:Nat×List Bs):List Nat:=if p.2.any (nJ S)=true then S++[p.1]else S
noncomputable def jj (l:List (Nat×List Bs)):List Nat:=l.foldl jY []
theorem sf (n:Int):∀S:List Nat,(cE (S.map nK) (S.map DK) (.inl n)).isSome=S.any λm=>decide ((m:Int)=n)
 |[]=>rfl
 |m::S=>by
  rw[uY,uY,cE,List.any_cons];by_cases h:(m:Int)=n
  ·rw[if_pos (show nK m=.inl n by unfold nK;rw[h]),decide_eq_true h];rfl
  ·rw[if_neg (show ¬nK m=.inl n from λz=>h (Sum.inl.inj z)),decide_eq_false h,sf n S];rfl
theorem GA (hw:decide (w=("office" : Str))=false)(S:List Nat)(b:Bs):mU [AT w b,.dk (S.map nK) (S.map DK)]=sF (.bl (nJ S b)):=by
 unfold nJ;rcases b with⟨_|o,n⟩
 ·refine av rfl (ay (qQ (p:=false) (b1:=false) (b7 (.str w) (.str "office") rfl rfl (by simp[of_decide_eq_false hw])) λ_=>b7 (.int n) (.dk (S.map nK) (S.map DK)) rfl rfl ?_));show some (D.bl (cE (S.map nK) (S.map DK) (.inl n)).isSome,false)=_;rw[sf]
 ·exact av rfl (ay (qQ (p:=true) (q:=S.any λm=>decide ((m:Int)=n)) (b1:=false) (b7 (.str "office") (.str "office") rfl rfl (by simp)) λh=>by cases h))
theorem any_map {α:Type}(l:List α)(f:α->Bool):Fc [.lst (l.map λx=>.bl (f x))]=sF (.bl (l.any f)):=by
 show(sG _).map _=_;rw[yI,Option.map_some,List.any_map];rfl
theorem GB (h:m∈jY S p):m∈S∨m=p.1:=by
 unfold jY at h;split at h
 ·simpa using h
 ·exact .inl h
theorem uJ:∀(l:List (Nat×List Bs))(S:List Nat)(m:Nat),m∈l.foldl jY S->m∈S∨m∈l.map (·.1)
 |[],_,_,h=>.inl h
 |p::l,S,m,h=>by
  rcases uJ l _ m h with h|h
  ·rcases GB h with h|rfl
   ·exact .inl h
   ·exact .inr (by simp)
  ·exact .inr (mZ _ h)
abbrev Rs:=Nat×Str×List Bs
noncomputable def L0 (p:Rs):D:=.lst (p.2.2.map (AT p.2.1))
noncomputable def C0 (p:Rs):Nat×List Bs:=(p.1,p.2.2)
theorem zw (l:List Rs)(hl:l.length<=60)(hw:∀p∈l,decide (p.2.1 = "office")=false)(hb:∀p∈l,p.2.2.length<=100)(hn:(l.map (·.1)).Nodup):mV [.dk (l.map λp=>nK p.1) (l.map L0)]=sF (.dk ((jj (l.map C0)).map nK) ((jj (l.map C0)).map DK)):=by
 let E:List Nat->Option (D×Bool)->Option (D×Bool)->DL.Env:=λS v2 v3=>[sF (.dk (l.map λp=>nK p.1) (l.map L0)),some (.dk (S.map nK) (S.map DK),true),v2,v3];have HE:lS (l.map λp=>nK p.1) (l.map L0)=l.map λp=>.tup [.int (p.1:Int),L0 p]:=by
  unfold lS;rw[List.zip_map',uP];rfl
 obtain⟨ρ',e,v2,v3,rfl⟩:=iq (tg:=O6 [2,3]) (g:=yP) (λj ρ=>∃v2 v3,ρ=E (jj ((l.take j).map C0)) v2 v3) (l.map λp=>.tup [.int (p.1:Int),L0 p]) (E [] none none) ⟨none,none,rfl⟩ (by
  rintro j d ρ hd ⟨v2,v3,rfl⟩;rw[vA]at hd;obtain⟨p,hp,rfl⟩:=oY hd;have Sm:=vL hp;have et:l.take (j+1)=l.take j++[p]:=by rw[List.take_add_one,hp];rfl
  have es:jj ((l.take (j+1)).map C0)=jY (jj ((l.take j).map C0)) (C0 p):=by
   rw[et,uW];unfold jj;rw[List.foldl_append];rfl
  have OM:p.1∉jj ((l.take j).map C0):=λhm=>by
   have h2:((l.take (j+1)).map (·.1)).Nodup:=List.Nodup.sublist (List.Sublist.map _ (List.take_sublist _ _)) hn;rw[et,uW,List.nodup_append]at h2;rcases uJ _ _ _ hm with h|h
   ·cases h
   ·rw[uP]at h;exact h2.2.2 _ h _ (by simp) rfl
  have Sq:(jj ((l.take j).map C0)).length<=60:=by
   have:∀(q:List (Nat×List Bs))(S:List Nat),(q.foldl jY S).length<=S.length+q.length:=λq=>by
    induction q with
    |nil=>intro S;exact vT _
    |cons a q ih=>
     intro S;refine vR (ih _) ?_;unfold jY;split
     ·rw[uZ,vE,List.length_nil,vE];omega
     ·rw[vE];omega
   have h3:=this ((l.take j).map C0) [];rw[vI,List.length_take,List.length_nil]at h3;exact vR h3 (by omega)
  generalize jj ((l.take j).map C0)=S at es OM Sq;let F:DL.Env:=E S (sF (.int (p.1:Int))) (some (L0 p,false));have hc:=mM (fi:=c6 (aj 3)) (nT:=1) (cap:=[1]) (tg:=dD 0) (fe:=fA mU (fV 0 (fV 1 ai))) (ρ:=F) p.2.2 (AT p.2.1) (λb=>.bl (nJ S b)) rfl (by have:=hb p Sm;omega) λb _=>⟨[some (AT p.2.1 b,false),sF (.dk (S.map nK) (S.map DK))],rfl,false,aI [AT p.2.1 b,.dk (S.map nK) (S.map DK)] rfl (GA (hw p Sm) S b)⟩;have t1:bg (fA Fc (ae (cf (c6 (aj 3)) 1 [1] (dD 0) hU (fA mU (fV 0 (fV 1 ai)))) ai)) F=some (p.2.2.any (nJ S)):=cA (aI [.lst (p.2.2.map λb=>.bl (nJ S b))] (aF hc rfl) (any_map _ _));refine⟨F,E (jY S (C0 p)) (sF (.int (p.1:Int))) (some (L0 p,false)),rfl,.inl (Qy t1 (λh=>?_) λh=>?_),_,_,by rw[es]⟩
  ·have hk:nK p.1∉S.map nK:=λhm=>by
    obtain⟨y,hy,ey⟩:=vO hm;have:=Sum.inl.inj (show(Sum.inl (y:Int):cD)=Sum.inl (p.1:Int)from ey);exact OM (by rw[show p.1=y by omega];exact hy)
   have Oo:yA 1 (aj 2) (fC (.bl true)) F=some (.nx (F.set 1 (some (.dk (dJ (S.map nK) (nK p.1)) (dL (S.map nK) (S.map DK) (nK p.1) (.bl true)),true)))):=if_pos (c:=bu (.bl true)=true/\(S.map nK).length<sizeLine) ⟨rfl,bO (by rw[vI];omega)⟩;rw[Oo];unfold dJ dL jY;rw[if_neg hk,if_neg hk,if_pos (show(C0 p).2.any (nJ S)=true from h)];simp[F,E,C0,DK]
  ·unfold jY;rw[if_neg (show ¬(C0 p).2.any (nJ S)=true by show ¬p.2.2.any (nJ S)=true;rw[h];decide)];rfl)
 rw[vI,List.take_length]at e;exact av rfl (dz (ρ':=E [] none none) rfl (dz (kY (ds:=l.map λp=>.tup [.int (p.1:Int),L0 p]) (by show some (lS _ _)=_;rw[HE]) e) (Cy (b:=true) rfl)))
theorem uK:∀S:List Nat,ul (S.map nK)=some (S.map λ(n:Nat)=>(n:Int))
 |[]=>rfl
 |n::S=>by
  show(ul (S.map nK)).map _=_;rw[uK S];rfl
theorem zx {α β:Type}(g:α->β)(f:β->List Int)(x:α):∀l:List α,oe f (g x) (l.map g)=(oe (λa=>f (g a)) x l).map g
 |[]=>rfl
 |y::r=>by
  rw[uY,oe,oe];split
  ·rw[uY,zx g f x r]
  ·rfl
theorem uL {α β:Type}(g:α->β)(f:β->List Int):∀l:List α,eI f (l.map g)=(eI (λa=>f (g a)) l).map g
 |[]=>rfl
 |x::l=>by
  show oe f (g x) (eI f (l.map g))=(oe (λa=>f (g a)) x (eI (λa=>f (g a)) l)).map g;rw[uL g f l,zx]
theorem GC (n:Int)(S:List Nat):Hy (.int n) (S.map λ(m:Nat)=>D.int (m:Int))=S.any λm=>decide ((m:Int)=n):=by
 unfold Hy;induction S with
 |nil=>rfl
 |cons m S ih=>
  rw[uY,List.any_cons,ih,List.any_cons];by_cases h:(m:Int)=n
  ·simp[h]
  ·simp[h,Ne.symm h]
def jZ (ab:List D)(aa:Int)(x:D×Nat):List Bs:=uI ab aa (bi (am ab aa)) x
def fQ (ab:List D)(aa day:Int):List Nat:=jj ((lu ab aa day (cL (am ab aa))).map λx=>(x.2,jZ ab aa x))
def iX (S:List Nat):List D:=(qy (S.map λ(n:Nat)=>(n:Int))).map .int
theorem GD (r:D):decide (Ej r = "office")=false:=by
 unfold Ej;split
 ·decide +kernel
 ·decide +kernel
theorem wW (h:kindOf r∈bP):bq r=false:=by
 have:∀k∈bP,decide (k = "root")=false:=by decide +kernel
 exact this _ h
section
variable {ab:List D}(g:∀r∈ab,c7 r) (hl:ab.length<=30) (aa:Int) (hn:((bM (am ab aa)).map (a9 0)).Nodup) (ho:(cL (am ab aa)).length<=60)
include hl
theorem zy (x:D×Nat):(jZ ab aa x).length<=60:=by
 unfold jZ uI;split
 ·split
  ·exact(by decide:1<=60)
  ·exact uN _
 ·unfold NE;rw[(bN _ _).length_eq];exact Cv hl aa _ _ _
theorem DM (day:Int):(fQ ab aa day).length<=60:=by
 have:∀(q:List (Nat×List Bs))(S:List Nat),(q.foldl jY S).length<=S.length+q.length:=λq=>by
  induction q with
  |nil=>intro S;exact vT _
  |cons a q ih=>
   intro S;refine vR (ih _) ?_;unfold jY;split
   ·rw[uZ,vE,List.length_nil,vE];omega
   ·rw[vE];omega
 have h3:=this ((lu ab aa day (cL (am ab aa))).map λx=>(x.2,jZ ab aa x)) [];have h4:(cL (am ab aa)).length<=30:=by
  unfold cL;rw[(bN _ _).length_eq];exact vR (vM _ _) (vR (cu ab aa) hl)
 have h5:(lu ab aa day (cL (am ab aa))).length<=30:=vR (vM _ _) h4;rw[vI,List.length_nil]at h3;exact vR h3 (by omega)
include g hn ho
theorem z4 (day:Int):lY [.tup ab,.int aa,.int day]=lT (iX (fQ ab aa day)):=by
 have el:=zv g hl aa hn ho day;have h4:(lu ab aa day (cL (am ab aa))).length<=60:=vR (vM _ _) ho;have es:=zw ((lu ab aa day (cL (am ab aa))).map λx=>(x.2,Ej x.1,jZ ab aa x)) (by rw[vI];exact h4)
  (λp hp=>by obtain⟨x,_,rfl⟩:=vO hp;exact GD _) (λp hp=>by obtain⟨x,_,rfl⟩:=vO hp;exact vR (zy hl aa x) (by decide))
  (by rw[uP];exact List.Nodup.sublist (List.Sublist.map _ List.filter_sublist) (lf (eF ab aa)))
 rw[uP,uP,uP]at es;refine av rfl (ay (aI [_] (aF (aI [_] (aF (aI [.tup ab,.int aa,.int day] rfl el) rfl) es) rfl) ?_));show(ul ((fQ ab aa day).map nK)).bind _=_;rw[uK,vJ,if_pos (by rw[vI];have:=DM hl aa day;omega)];rfl
end
def Q6 (K:KL)(so:List Cl):Prop:=∀c∈so,(iV K c.o).isSome=true
theorem p0 (h:cC K so x=true)(hk:kindOf x.1∈sQ):(iV K (wP x.1)).isSome=true:=by
 unfold cC at h;rw[if_neg (by intro e;rw[e]at hk;exact absurd hk (by decide +kernel)),if_pos hk]at h;cases e:iV K (wP x.1) with
 |none=>rw[e]at h;cases h
 |some v=>rfl
theorem GF {K:KL}{st:Lu}{x:D×Nat}(h:Q6 K st.1):Q6 K (dN K st x).1:=by
 unfold dN;split
 ·rename_i hc;split
  ·rename_i hk;intro c hm;rcases List.mem_append.mp hm with hm|hm
   ·exact h c hm
   ·rw[uT hm];have:=p0 hc (by rw[hk];decide +kernel);unfold wP at this;rwa [if_pos hk]at this
  ·rename_i hn;have UR:wP x.1=a9 2 x.1:=if_neg hn;split
   ·rename_i hk;intro c hm;rcases List.mem_append.mp hm with hm|hm
    ·obtain⟨c',h1,h2,_⟩:=gX hm;rw[←h2];exact h c' h1
    ·rw[uT hm,←UR];exact p0 hc (by rw[hk];decide +kernel)
   ·split
    ·exact h
    ·intro c hm;rcases List.mem_append.mp hm with hm|hm
     ·obtain⟨c',h1,h2,_⟩:=gX hm;rw[←h2];exact h c' h1
     ·obtain⟨o,h1,h2⟩:=List.mem_flatMap.mp hm;have ho:c.o=o:=by
       unfold dH at h2;split at h2
       ·split at h2
        ·rw[uT h2]
        ·cases h2
       ·cases h2
      obtain⟨c',h3,h4⟩:=Gp h1;rw[ho,←h4];exact h c' h3
 ·exact h
theorem z5 (K:KL):∀(l:KL)(st:Lu),Q6 K st.1->Q6 K (l.foldl (dN K) st).1
 |[],_,h=>h
 |_::l,_,h=>z5 K l _ (GF h)
theorem JR (K:KL):Q6 K (bi K):=λc hc=>z5 K (cL K) ([],[],[]) (λ_ h=>nomatch h) c ((bN _ _).mem_iff.mp hc)
theorem DN (hn:((bM K).map (a9 0)).Nodup)(h:iV K o=some v):v∈bM K:=by
 unfold iV at h;rw[mh hn]at h;exact nB h
noncomputable def sg:List Str:=[("office" : Str),"leave","copy","none"]
def Ft (d:D):Prop:=∃w r,d=.tup (.str w::r)/\w∈sg/\bu d=true/\aq 5 d=true
theorem C1 {ds:List D}(h:∀d∈ds,Ft d):b8 ds=true:=bI λd hd=>by obtain⟨_,_,_,_,e,_⟩:=h d hd;exact e
theorem GG {ds:List D}(h:∀d∈ds,Ft d):aq 40 (.lst ds)=true:=by
 simp only[aq,List.all_eq_true];intro d hd;obtain⟨_,_,_,_,_,e⟩:=h d hd;exact i7 5 39 _ (by decide) e
theorem Sd.flat (h:Sd d):bu d=true:=by rcases h with rfl|⟨s,rfl⟩<;>rfl
theorem Sd.plain (h:Sd d)(n:Nat):aq n d=true:=by rcases h with rfl|⟨s,rfl⟩<;>simp
theorem GH (hw:w∈sg)(hf:bu a=true)(hp:aq 4 a=true)(h:Sd d):Ft (.tup [.str w,a,d]):=⟨w,[a,d],rfl,hw,by simp[hf,h.flat],by simp[hp,h.plain]⟩
theorem Q7 {c:FT}{f g:FE}(e:c ρ=some true)(k:f ρ=x):Hx c f g ρ=x:=by unfold Hx;rw[e];exact k
theorem Q8 {c:FT}{f g:FE}(e:c ρ=some false)(k:g ρ=x):Hx c f g ρ=x:=by unfold Hx;rw[e];exact k
noncomputable def GI (x:Option (D×Bool)):D:=match x with|some (d,_)=>d|none=>.non
section
variable {ab:List D}(g:∀r∈ab,c7 r) (hl:ab.length<=30) (aa:Int) (hn:((bM (am ab aa)).map (a9 0)).Nodup) (ho:(cL (am ab aa)).length<=60)
include g hl hn ho
theorem AU {ri:Nat}{r:D}(hr:ab[ri]? = some r)(kr:kindOf r∈dB):∃ds,eW [.tup ab,.int aa,.int ri]=lT ds/\(∀d∈ds,Ft d)/\ds.length<=60:=by
 have gC:fM ab:=⟨by omega,λr hr=>(g r hr).c⟩;have gr:=g r (vL hr);obtain⟨ec,oB⟩:=lg (ab:=ab) gC aa ho;have WQ:=JR (am ab aa);generalize bi (am ab aa)=cs at ec oB WQ;let R:D:=.dk (bW (kP (am ab aa))).1 (bW (kP (am ab aa))).2;let os:List Str:=jV (ie ((cs.filter λc=>decide (c.p=cr r)).map (·.o)));have p5:(cs.filter λc=>decide (c.p=cr r)).length<=60:=vR (vM _ _) oB;have Kr:os.length<=60:=by
  show(jV _).length<=60;rw[(dq _).length_eq];exact vR (mB _) (by rw[vI];exact p5)
 have GY:∀o∈os,∃v,iV (am ab aa) o=some v:=λo h=>by
  rcases iG _ _ _ ((dq _).mem_iff.mp h)with h|h
  ·cases h
  ·obtain⟨c,hc,rfl⟩:=vO h;exact uU (WQ c (vN hc).1)
 let E:Option (D×Bool)->DL.Env:=λv6=>[sF (.tup ab),sF (.int aa),sF (.int ri),some (r,false),sF (.lst (cs.map aU)),sF R,v6];have hc:=ir (fi:=c6 (aj 4)) (nT:=1) (cap:=[3]) (tg:=dD 0) (c:=bg (f2 dm (dO 0 1) (fA au (fV 1 (ae (fS "by") ai))))) (fe:=dO 0 0) (ρ:=E none) cs aU (λc=>decide (c.p=cr r)) (λc=>.str c.o) rfl (by omega) λc _=>⟨[some (aU c,false),some (r,false)],rfl,cA (b7 (.str c.p) (.str (cr r)) (b7 (aU c) (.int 1) rfl rfl (N7 c)) (aI [r,.str "by"] rfl (uF gr (ft (.inl (jR kr))))) (by simp)),λ_=>⟨false,b7 (aU c) (.int 0) rfl rfl (O8 c)⟩⟩;have e2:(cs.filter λc=>decide (c.p=cr r)).map (λc=>D.str c.o)=((cs.filter λc=>decide (c.p=cr r)).map (·.o)).map .str:=by rw[uP];rfl
 rw[e2]at hc;have hs:f1 eS (cf (c6 (aj 4)) 1 [3] (dD 0) (bg (f2 dm (dO 0 1) (fA au (fV 1 (ae (fS "by") ai))))) (dO 0 0)) (E none)=lT (os.map .str):=by
  unfold f1;rw[hc,vJ];show(gL (((cs.filter λc=>decide (c.p=cr r)).map (·.o)).map .str)).bind _=_;rw[nz,vJ,if_pos (by rw[vI];omega)]
 let UZ:Str->D:=λo=>GI (cB [.lst (cs.map aU),r,(iV (am ab aa) o).getD .non]);have RC:∀o∈os,∃v d,iV (am ab aa) o=some v/\cB [.lst (cs.map aU),r,v]=some (d,false)/\Sd d/\UZ o=d:=λo h=>by
  obtain⟨v,hv⟩:=GY o h;obtain⟨gv,HG⟩:=nI g (DN hn hv);obtain⟨d,e1,_,e3⟩:=Cs cs oB gr gv kr HG;exact⟨v,d,hv,e1,e3,by show GI (cB [.lst (cs.map aU),r,(iV (am ab aa) o).getD .non])=d;rw[hv];show GI (cB [.lst (cs.map aU),r,v])=d;rw[e1];rfl⟩
 refine⟨os.map λo=>.tup [.str "office",.str o,UZ o],av rfl (fz r (b7 (.tup ab) (.int ri) rfl rfl (by simp[cn hr])) gr.flat (bX (ds:=cs.map aU) (aI [.tup ab,.int aa] rfl ec) (iB cs) (Tv (d:=R) (b:=false) (aI [.tup ab,.int aa] rfl (nD gC aa)) (by simp[R,bu]) (.inl rfl) (bX (ds:=os.map .str) hs (di _) (ay (mM (fi:=c6 (aj 6)) (nT:=1) (cap:=[4,3,5]) (tg:=dD 0) os .str _ rfl (by omega) λo h=>?_)))))),λd hd=>?_,by rw[vI];exact Kr⟩
 ·obtain⟨v,d,hv,e1,_,eb⟩:=RC o h;rw[eb];exact⟨[sF (.str o),sF (.lst (cs.map aU)),some (r,false),sF R],rfl,false,aI [.str "office",.str o,d] (bY rfl (bY rfl (aF (aI [.lst (cs.map aU),r,v] (bY rfl (bY rfl (aF (b7 R (.str o) rfl rfl (show(iV (am ab aa) o).map (λd=>(d,false))=some (v,false) by rw[hv];rfl)) rfl))) e1) rfl))) (bZ _ (by simp))⟩
 ·obtain⟨o,h,rfl⟩:=vO hd;obtain⟨_,d,_,_,e3,eb⟩:=RC o h;rw[eb];exact GH (by decide +kernel) rfl (by simp) e3
omit hn ho in
theorem AV {ri:Nat}{r:D}(hr:ab[ri]? = some r)(kr:kindOf r∈dB):∃ds,fL [.tup ab,.int aa,.int ri]=lT ds/\(∀d∈ds,Ft d)/\ds.length<=60:=by
 have gr:=g r (vL hr);have LF:=cu ab aa;have Oj:(kQ (am ab aa) (cr r)).length<=60:=vR (vM _ _) (vR (vM _ _) (by omega));have p5:b8 ((kQ (am ab aa) (cr r)).map λx=>D.int x.2)=true:=bI λd hd=>by obtain⟨x,_,rfl⟩:=vO hd;rfl
 let F:D×Nat->D:=λx=>GI (dE [.tup ab,.int ri,.int x.2]);have hF:∀x∈kQ (am ab aa) (cr r),∃d,dE [.tup ab,.int ri,.int x.2]=some (F x,false)/\F x=.tup [.str "leave",.int x.2,d]/\Sd d:=λx hx=>by
  obtain⟨h1,h2,h3⟩:=zk g hx;obtain⟨d,e1,e2,e3⟩:=Ct hr h1 gr h2 kr h3;have:∃d',dE [.tup ab,.int ri,.int x.2]=sF (.tup [.str "leave",.int x.2,d'])/\Sd d':=by
   have tt:bg (f2 zK (aj 3) (fC .non)) [sF (.tup ab),sF (.int ri),sF (.int x.2),some (d,false)]=some (wU r ri x):=cA (b7 d .non rfl rfl e2);cases hb:wU r ri x with
   |true=>exact⟨.str "falls",av rfl (fz d (aI [.tup ab,.int ri,.int x.2] rfl e1) e3.flat (ay (aI [.str "leave",.int x.2,.str "falls"] (bY rfl (bY rfl (bY (Q7 (tt.trans (by rw[hb])) rfl) rfl))) (bZ _ (by simp))))),.inr ⟨_,rfl⟩⟩
   |false=>exact⟨d,av rfl (fz d (aI [.tup ab,.int ri,.int x.2] rfl e1) e3.flat (ay (aI [.str "leave",.int x.2,d] (bY rfl (bY rfl (bY (Q8 (tt.trans (by rw[hb])) rfl) rfl))) (bZ _ (by simp))))),e3⟩
  obtain⟨d',e4,e5⟩:=this;have e6:F x=.tup [.str "leave",.int x.2,d']:=by show GI (dE _)=_;rw[e4];rfl
  exact⟨d',by rw[e6];exact e4,e6,e5⟩
 refine⟨(kQ (am ab aa) (cr r)).map F,av rfl (bX (ds:=(kQ (am ab aa) (cr r)).map λx=>.int x.2) (aI [.tup ab,.int aa,.str (cr r)] (bY rfl (bY rfl (aF (aI [r,.str "by"] (bY (b7 (.tup ab) (.int ri) rfl rfl (by simp[cn hr])) rfl) (uF gr (ft (.inl (jR kr))))) rfl))) (uG g (by omega) aa _)) p5 (ay (mM (fi:=c6 (aj 3)) (nT:=1) (cap:=[0,2]) (tg:=dD 0) (kQ (am ab aa) (cr r)) (λx=>.int x.2) F (by simp) (by omega) λx hx=>?_))),λd hd=>?_,by rw[vI];exact Oj⟩
 ·obtain⟨_,e,_⟩:=hF x hx;exact⟨[sF (.int x.2),sF (.tup ab),sF (.int ri)],rfl,false,aI [.tup ab,.int ri,.int x.2] rfl e⟩
 ·obtain⟨x,hx,rfl⟩:=vO hd;obtain⟨d',_,e,h⟩:=hF x hx;rw[e];exact GH (by decide +kernel) rfl (by simp) h
theorem AW {ri:Nat}{r:D}(hr:ab[ri]? = some r)(kr:kindOf r∈bP)(hk:br r<=aa):∃ds,jh [.tup ab,.int aa,.int ri]=lT ds/\ds≠[]/\(∀d∈ds,Ft d)/\ds.length<=200:=by
 have gr:=g r (vL hr);have gC:fM ab:=⟨by omega,λr hr=>(g r hr).c⟩;have wd:bg (f2 dm (fA aK (ae (f2 bC (aj 0) (aj 2)) ai)) (fS "copy")) [sF (.tup ab),sF (.int aa),sF (.int ri),none]=some (decide (kindOf r = "copy")):=bT (a:=kindOf r) (bb:=false) (wV hr gr rfl rfl) rfl;by_cases kc:kindOf r = "copy"
 ·rw[decide_eq_true kc]at wd;obtain⟨ec,oB⟩:=lg (ab:=ab) gC aa ho;have Z0:mW [.tup ab,.int aa,.int ri]=lT ((jZ ab aa (r,ri)).map (AT (Ej r))):=av rfl (ay (aI [.tup ab,.int aa,.lst ((bi (am ab aa)).map aU),.int ri] (bY rfl (bY rfl (aF (aI [.tup ab,.int aa] rfl ec) (bY rfl rfl)))) (Cw g hl aa hn _ oB hr kr hk)));have hw:∃w:Str,Hx (bg (f2 dm (fA fR (ae (fA mW (fV 0 (fV 1 (fV 2 ai)))) ai)) (fI 0))) (fS "none") (fS "falls") [sF (.tup ab),sF (.int aa),sF (.int ri),none]=sF (.str w):=by
   have tt:bg (f2 dm (fA fR (ae (fA mW (fV 0 (fV 1 (fV 2 ai)))) ai)) (fI 0)) [sF (.tup ab),sF (.int aa),sF (.int ri),none]=some (jZ ab aa (r,ri)).isEmpty:=by
    rw[←Cz (jZ ab aa (r,ri)) (AT (Ej r))];exact cA (b7 (.int ((((jZ ab aa (r,ri)).map (AT (Ej r))).length:Nat):Int)) (.int 0) (aI [.lst ((jZ ab aa (r,ri)).map (AT (Ej r)))] (aF (aI [.tup ab,.int aa,.int ri] rfl Z0) rfl) rfl) rfl (by simp))
   unfold Hx;rw[tt];cases (jZ ab aa (r,ri)).isEmpty
   ·exact⟨_,rfl⟩
   ·exact⟨_,rfl⟩
  obtain⟨w,hw⟩:=hw;obtain⟨a,d,b,n,er⟩:=sd gr kc;have Z1:jP [.tup ab,.int aa,.int ri]=sF (.tup [.str "copy",.int n,.str w]):=av rfl (fz (.str w) hw rfl (ay (aI [.str "copy",.int n,.str w] (bY rfl (aF (aI [r,.str "of"] (bY (b7 (.tup ab) (.int ri) rfl rfl (by simp[cn hr])) rfl) (by rw[er];exact bv (i:=2) (bp (by decide +kernel)) rfl)) (bY rfl rfl))) (bZ _ (by simp)))));exact⟨[.tup [.str "copy",.int n,.str w]],av rfl (bz wd (ay (aI [.tup [.str "copy",.int n,.str w]] (bY (aI [.tup ab,.int aa,.int ri] rfl Z1) rfl) (de _ (by simp))))),by simp,λd hd=>by rw[uT hd];exact GH (by decide +kernel) rfl (by simp) (.inr ⟨_,rfl⟩),by simp⟩
 ·rw[decide_eq_false kc]at wd;have kb:kindOf r∈dB:=by
   have:∀k∈bP,k ≠ "copy"->k∈dB:=by decide +kernel
   exact this _ kr kc
  obtain⟨d1,e1,f1,l1⟩:=AU g hl aa hn ho hr kb;obtain⟨d2,e2,UX,l2⟩:=AV g hl aa hr kb;have hf:∀d∈d1++d2,Ft d:=λd hd=>(List.mem_append.mp hd).elim (f1 d) (UX d);have ea:f2 cm (fA eW (fV 0 (fV 1 (fV 2 ai)))) (fA fL (fV 0 (fV 1 (fV 2 ai)))) [sF (.tup ab),sF (.int aa),sF (.int ri),none]=lT (d1++d2):=g9 (x:=.lst d1) (y:=.lst d2) (b1:=true) (b2:=true) (aI [.tup ab,.int aa,.int ri] rfl e1) (aI [.tup ab,.int aa,.int ri] rfl e2) (if_pos (dA (by omega)));by_cases h0:d1++d2=[]
  ·rw[h0]at ea;exact⟨[.tup [.str "none"]],av rfl (aB wd (bX (ds:=[]) ea rfl (bz (cA (b7 (.int 0) (.int 0) (aI [.lst []] rfl rfl) rfl (by simp))) (ay (aI [.tup [.str "none"]] (bY (aI [.str "none"] rfl (bZ _ (by simp))) rfl) (de _ (by simp))))))),by simp,λd hd=>by rw[uT hd];exact⟨_,[],rfl,by decide +kernel,rfl,by simp⟩,by simp⟩
  ·refine⟨d1++d2,av rfl (aB wd (bX (ds:=d1++d2) ea (C1 hf) (aB (cA (b7 (.int (((d1++d2).length:Nat):Int)) (.int 0) (aI [.lst (d1++d2)] rfl rfl) rfl ?_)) (mK rfl)))),h0,hf,by rw[uZ];omega⟩;have:0<(d1++d2).length:=List.length_pos_iff.mpr h0;have:¬(((d1++d2).length:Nat):Int)=0:=by omega
   simp only[dm,aq,and_self,if_true,bG];rw[decide_eq_false this]
end
theorem C2 (n:Nat)(S:List Nat):(S.any λm=>decide ((m:Int)=(n:Int)))=decide (n∈S):=by
 rw[Bool.eq_iff_iff,List.any_eq_true,decide_eq_true_iff];constructor
 ·rintro⟨m,h,e⟩;have:=of_decide_eq_true e;rw[show n=m by omega];exact h
 ·exact λh=>⟨n,h,decide_eq_true rfl⟩
theorem GJ (n:Nat)(S:List Nat):(cE (S.map nK) (S.map DK) (.inl (n:Int))).isSome=decide (n∈S):=by rw[sf,C2]
theorem GK (n:Int)(S:List Nat):wl (.int n) (.lst (S.map λ(m:Nat)=>.int (m:Int)))=sF (.bl (S.any λm=>decide ((m:Int)=n))):=by
 have p5:(S.map λ(n:Nat)=>D.int (n:Int)).all gs=true:=by
  rw[List.all_eq_true];intro d hd;obtain⟨m,_,rfl⟩:=vO hd;rfl
 simp only[wl,gt,vJ];rw[if_pos ⟨rfl,p5⟩,GC]
theorem z6 (h:aq 40 d=true):zI d d=sF (.bl false):=by
 unfold zI;rw[if_pos ⟨h,h⟩,nn 40 _ h];rfl
theorem DO (S:List Nat):b8 (iX S)=true:=bI λd hd=>by obtain⟨n,_,rfl⟩:=vO hd;rfl
theorem GL (ab:List D)(aa:Int):bM (am ab aa)=ab.filter λv=>bq v && decide (br v<=aa):=by
 unfold bM am;rw[List.filter_filter];have:∀(l:List (D×Nat))(q:D->Bool),(l.filter λx=>q x.1).map (·.1)=(l.map (·.1)).filter q:=λl q=>by rw[List.filter_map];rfl
 refine(this ab.zipIdx λv=>bq v && decide (br v<=aa)).trans ?_;rw[List.zipIdx_map_fst]
theorem GN (ab:List D)(aa:Int):((bM (am ab aa)).map (a9 0)).Sublist (lG ab):=by
 rw[GL];unfold lG;refine List.Sublist.map _ ?_;have:(ab.filter λv=>bq v && decide (br v<=aa))=(ab.filter bq).filter λv=>decide (br v<=aa):=by rw[List.filter_filter];congr 1;funext v;rw[Bool.and_comm]
 rw[this];exact List.filter_sublist
def GO (S:List Nat):List Nat:=eI (λn:Nat=>[(n:Int)]) S
theorem JU (S:List Nat):iX S=(GO S).map λ(n:Nat)=>.int (n:Int):=by
 unfold iX qy GO;rw[uL,uP];rfl
theorem DP {m:Nat}{S:List Nat}:m∈GO S↔m∈S:=(bN _ _).mem_iff
theorem JV (n:Nat)(S:List Nat):wl (.int (n:Int)) (.lst (iX S))=sF (.bl (decide (n∈S))):=by
 rw[JU,GK,C2];congr 3;exact propext DP
theorem GP (ab:List D)(aa:Int):((am ab aa).map (·.2)).Pairwise (· < ·):=by
 have h:(ab.zipIdx.map (·.2)).Pairwise (· < ·):=by
  rw[List.zipIdx_map_snd];exact List.pairwise_lt_range'
 exact h.sublist (List.Sublist.map _ List.filter_sublist)
theorem GQ (ab:List D)(aa:Int)(ri:Nat)(r:D)(day:Int):(fP ab aa ri r day).Pairwise (· < ·):=by
 unfold fP;split
 ·exact(GP ab aa).sublist (List.Sublist.map _ List.filter_sublist)
 ·exact List.Pairwise.nil
theorem uM:∀l:List Nat,mF (l.map λ(n:Nat)=>D.int (n:Int))=some (l.map λ(n:Nat)=>(n:Int))
 |[]=>rfl
 |a::l=>by rw[uY,mF,uM l];rfl
theorem DQ {n:Nat}{l:List Nat}(h:(n::l).Pairwise (· < ·)):FZ [.lst ((n::l).map λ(n:Nat)=>.int (n:Int))]=sF (.int (n:Int)):=by
 have e:sM (n:Int) (l.map λ(n:Nat)=>(n:Int))=n:=by
  obtain⟨h1,h2⟩:=ot (l.map λ(n:Nat)=>(n:Int)) (n:Int);have h3:=h2 _ mX;rcases vP h1 with h1|h1
  ·exact h1
  ·obtain⟨m,hm,em⟩:=vO h1;have:=(List.pairwise_cons.mp h).1 m hm;omega
 show(match mF ((n::l).map λ(n:Nat)=>D.int (n:Int)) with|some (n::r)=>some (D.int (sM n r),false)|_=>none)=_;rw[uM (n::l)];show some (D.int (sM (n:Int) (l.map λ(n:Nat)=>(n:Int))),false)=_;rw[e]
def T3 (u:D)(ds:List D):Prop:=(u=.lst ds/\b8 ds=true/\aq 40 (.lst ds)=true)∨(u=.non/\ds≠[]/\∀d∈ds,Ft d)
theorem C3 (w:Str):T3 (.lst [.tup [.str w]]) [.tup [.str w]]:=.inl ⟨rfl,rfl,by simp[aq]⟩
section
variable {ab:List D}(g:∀r∈ab,c7 r) (hl:ab.length<=30) (aa:Int) (hn:((bM (am ab aa)).map (a9 0)).Nodup) (ho:(cL (am ab aa)).length<=60)
include g hl hn ho
theorem DR (day:Int){n:Nat}{r:D}(hr:ab[n]? = some r)(kr:kindOf r∈bP)(hk:br r<=aa):∃ds u b,ni [.tup ab,.int aa,.int day,.int n]=lT ds/\nj [.tup ab,.int aa,.int day,.int n,.lst (iX (fQ ab aa day))]=some (u,b)/\(u=.lst ds->b=true)/\T3 u ds/\ds.length<=200:=by
 have gr:=g r (vL hr);have nr:=wW kr;have el:=zv g hl aa hn ho day;have h4:(lu ab aa day (cL (am ab aa))).length<=60:=vR (vM _ _) ho;have es:=zw ((lu ab aa day (cL (am ab aa))).map λx=>(x.2,Ej x.1,jZ ab aa x)) (by rw[vI];exact h4)
  (λp hp=>by obtain⟨x,_,rfl⟩:=vO hp;exact GD _) (λp hp=>by obtain⟨x,_,rfl⟩:=vO hp;exact vR (zy hl aa x) (by decide))
  (by rw[uP];exact List.Nodup.sublist (List.Sublist.map _ List.filter_sublist) (lf (eF ab aa)))
 rw[uP,uP,uP]at es;have tS:bg (f2 Ji (aj 3) (fA mV (ae (fA mT (fV 0 (fV 1 (fV 2 ai)))) ai))) [sF (.tup ab),sF (.int aa),sF (.int day),sF (.int n),none]=some (decide (n∈fQ ab aa day)):=by
  refine cA (b7 (.int n) (.dk ((fQ ab aa day).map nK) ((fQ ab aa day).map DK)) rfl (aI [_] (aF (aI [.tup ab,.int aa,.int day] rfl el) rfl) es) ?_);show some (D.bl (cE ((fQ ab aa day).map nK) ((fQ ab aa day).map DK) (.inl (n:Int))).isSome,false)=_;rw[GJ]
 have LK:bg (f2 wl (aj 3) (aj 4)) [sF (.tup ab),sF (.int aa),sF (.int day),sF (.int n),sF (.lst (iX (fQ ab aa day))),none]=some (decide (n∈fQ ab aa day)):=cA (b7 (.int n) (.lst (iX (fQ ab aa day))) rfl rfl (JV n _));generalize fQ ab aa day=S at tS LK;have tD:bg (f2 Aj (fA aT (ae (f2 bC (aj 0) (aj 3)) ai)) (aj 2)) [sF (.tup ab),sF (.int aa),sF (.int day),sF (.int n),none]=some (decide (day<aG r)):=cA (b7 (.int (aG r)) (.int day) (aI [r] (bY (b7 (.tup ab) (.int n) rfl rfl (by simp[cn hr])) rfl) (o9 gr nr)) rfl rfl);have OY:bg (f2 Aj (f2 bC (f2 bC (f2 bC (aj 0) (aj 3)) (fI 1)) (fI 1)) (aj 2)) [sF (.tup ab),sF (.int aa),sF (.int day),sF (.int n),sF (.lst (iX S)),none]=some (decide (day<aG r)):=by
  obtain⟨xa,xk,xr,ex,xd⟩:=id gr;obtain⟨dd,b2,q,er⟩:=Cq xd (ft (.inl (by rw[ex]at kr;exact kr)));have hd:aG r=dd:=by rw[ex,er];rfl
  have ax:=cn hr;rw[show r=.tup [.int xa,.tup (.str xk::xr)]from ex]at ax;rw[hd];exact cA (b7 (.int dd) (.int day) (b7 (.tup (.str xk::xr)) (.int 1) (b7 (.tup [.int xa,.tup (.str xk::xr)]) (.int 1) (b7 (.tup ab) (.int n) rfl rfl (by simp[ax])) rfl (by simp[Ei])) rfl (by rw[er];simp[Ei])) rfl rfl)
 have es:=nu ab (λr hr=>(g r hr).c.rp) (by omega) aa hr;have ec:=G7 g (by omega) aa hn ho hr day;have tC:∀ρ:DL.Env,ρ[0]? = some (sF (.tup ab))->ρ[1]? = some (sF (.int aa))->ρ[3]? = some (sF (.int n))->bg (fA du (fV 0 (fV 1 (fV 3 ai)))) ρ=some (gJ ab aa r):=λρ h0 h1 h3=>cA (aI [.tup ab,.int aa,.int n] (by simp[h0,h1,h3]) es);have fT:=GQ ab aa n r day;have oB:(fP ab aa n r day).length<=60:=by
  unfold fP;split
  ·rw[vI];exact vR (vM _ _) (vR (cu ab aa) (by omega))
  ·exact uN _
 have one:∀(ρ:DL.Env)(w:Str),aR (fA bj (ae (fA aP (ae (fS w) ai)) ai)) ρ=some (.rt (.lst [.tup [.str w]]) true):=λρ w=>ay (aI [.tup [.str w]] (bY (aI [.str w] rfl (bZ _ (by simp))) rfl) (de _ (by simp)));by_cases hS:n∈S
 ·rw[decide_eq_true hS]at tS LK;exact⟨[],.lst [],true,av rfl (bz tS (ay (aI [] rfl (de _ (by simp))))),av rfl (bz LK (ay (aI [] rfl (de _ (by simp))))),λ_=>rfl,.inl ⟨rfl,rfl,by simp[aq]⟩,by simp⟩
 rw[decide_eq_false hS]at tS LK;by_cases hd:day<aG r
 ·rw[decide_eq_true hd]at tD OY;exact⟨[.tup [.str "early"]],_,true,av rfl (aB tS (bz tD (one _ _))),av rfl (aB LK (bz OY (one _ _))),λ_=>rfl,C3 _,by simp⟩
 rw[decide_eq_false hd]at tD OY;cases hs:gJ ab aa r with
 |false=>
  rw[hs]at tC;exact⟨[.tup [.str "seal"]],_,true,av rfl (aB tS (aB tD (bz (bH (p:=false) (tC _ rfl rfl rfl)) (one _ _)))),av rfl (aB LK (aB OY (bz (bH (p:=false) (tC _ rfl rfl rfl)) (one _ _)))),λ_=>rfl,C3 _,by simp⟩
 |true=>
  rw[hs]at tC;have p5:b8 ((fP ab aa n r day).map λm:Nat=>D.int m)=true:=bI λd hd=>by obtain⟨m,_,rfl⟩:=vO hd;rfl
  have lx:aq 40 (.lst ((fP ab aa n r day).map λm:Nat=>D.int m))=true:=by
   simp only[aq,List.all_eq_true];intro d hd;obtain⟨m,_,rfl⟩:=vO hd;simp
  generalize fP ab aa n r day=C at ec fT oB p5 lx;cases C with
  |nil=>
   obtain⟨ds,eb,lJ,Z2,LF⟩:=AW g hl aa hn ho hr kr hk;refine⟨ds,.non,false,av rfl (aB tS (aB tD (aB (bH (p:=true) (tC _ rfl rfl rfl)) (bX (ds:=[]) (aI [.tup ab,.int aa,.int n,.int day] rfl ec) rfl (aB (cA (b7 (.int 0) (.int 0) (aI [.lst []] rfl rfl) rfl rfl)) (ay (aI [.tup ab,.int aa,.int n] rfl eb))))))),av rfl (aB LK (aB OY (aB (bH (p:=true) (tC _ rfl rfl rfl)) (bX (ds:=[]) (aI [.tup ab,.int aa,.int n,.int day] rfl ec) rfl (aB (cA (g9 (x:=.lst []) (y:=.lst []) (b1:=false) (b2:=true) rfl (aI [] rfl (de _ (by simp))) (z6 (by simp[aq])))) (ay rfl)))))),(λh=>by cases h),.inr ⟨rfl,lJ,Z2⟩,LF⟩
  |cons m C=>
   have e1:aR (fA bj (ae (fA aP (ae (fS "called") (ae (dO 4 0) ai))) ai)) [sF (.tup ab),sF (.int aa),sF (.int day),sF (.int n),lT ((m::C).map λm:Nat=>.int m)]=some (.rt (.lst [.tup [.str "called",.int m]]) true):=ay (aI [.tup [.str "called",.int m]] (bY (aI [.str "called",.int m] (bY rfl (bY (b7 (.lst ((m::C).map λm:Nat=>.int m)) (.int 0) rfl rfl (by simp[D6])) rfl)) (bZ _ (by simp))) rfl) (de _ (by simp)));have e2:aR (fA bj (ae (fA aP (ae (fS "called") (ae (fA FZ (fV 5 ai)) ai))) ai)) [sF (.tup ab),sF (.int aa),sF (.int day),sF (.int n),sF (.lst (iX S)),lT ((m::C).map λm:Nat=>.int m)]=some (.rt (.lst [.tup [.str "called",.int m]]) true):=ay (aI [.tup [.str "called",.int m]] (bY (aI [.str "called",.int m] (bY rfl (bY (aI [.lst ((m::C).map λm:Nat=>.int m)] rfl (DQ fT)) rfl)) (bZ _ (by simp))) rfl) (de _ (by simp)));have ne:zI (.lst ((m::C).map λm:Nat=>.int m)) (.lst [])=sF (.bl true):=by
    unfold zI;rw[if_pos ⟨lx,by simp[aq]⟩];simp
   refine⟨[.tup [.str "called",.int m]],_,true,av rfl (aB tS (aB tD (aB (bH (p:=true) (tC _ rfl rfl rfl)) (bX (ds:=(m::C).map λm:Nat=>.int m) (aI [.tup ab,.int aa,.int n,.int day] rfl ec) p5 (bz (cA (b7 (.int ((((m::C).map λm:Nat=>D.int m).length:Nat):Int)) (.int 0) (aI [.lst ((m::C).map λm:Nat=>.int m)] rfl rfl) rfl ?_)) e1))))),av rfl (aB LK (aB OY (aB (bH (p:=true) (tC _ rfl rfl rfl)) (bX (ds:=(m::C).map λm:Nat=>.int m) (aI [.tup ab,.int aa,.int n,.int day] rfl ec) p5 (bz (cA (g9 (b1:=false) (b2:=true) rfl (aI [] rfl (de _ (by simp))) ne)) e2))))),λ_=>rfl,.inl ⟨rfl,rfl,by simp[aq]⟩,by simp⟩;simp
end
theorem GR {ds:List D}(lJ:ds≠[])(hf:∀d∈ds,Ft d):la [.lst ds]=sF (.bl true):=by
 have t0:bg (f2 dm (aj 0) (fA bj ai)) [sF (.lst ds),none]=some false:=by
  refine cA (g9 (x:=.lst ds) (y:=.lst []) (b1:=false) (b2:=true) rfl (aI [] rfl (de _ (by simp))) ?_);unfold dm;rw[if_pos ⟨GG hf,by simp[aq]⟩];cases ds with
  |nil=>exact absurd rfl lJ
  |cons=>simp
 obtain⟨ρ',e,v,rfl⟩:=iq (tg:=dD 1) (g:=rA) (λ_ ρ=>∃v,ρ=[sF (.lst ds),v]) ds [sF (.lst ds),none] ⟨none,rfl⟩ (by
  rintro j d ρ hd ⟨v,rfl⟩;obtain⟨w,r,rfl,hw,_,_⟩:=hf d (vL hd);refine⟨_,[sF (.lst ds),sF (.tup (.str w::r))],rfl,.inl (lU (dG (p:=false) (q:=false) (bH (p:=true) (cA (aI [.tup (.str w::r),.ty "tuple"] rfl (bp rfl)))) λ_=>cA (b7 (.str w) (.tup (sg.map .str)) (b7 (.tup (.str w::r)) (.int 0) rfl rfl (by simp[D6])) (aI (sg.map .str) rfl (bZ _ (by decide))) ?_)) rfl),_,rfl⟩;have:=gF w sg;simp only[wl,gt,vJ]at this;simp only[fY,gt,vJ];split at this
  ·rename_i hc;rw[if_pos hc];have e:=(vK this);injection e with e _;injection e with e;rw[e,decide_eq_true hw];rfl
  ·cases this)
 exact av rfl (aB t0 (dz (kY (ρ:=[sF (.lst ds),none]) (ds:=ds) rfl e) (ay rfl)))
theorem JX {u:D}{ds:List D}{n:Nat}(hd:T3 u ds)(hL:ds.length<=200)(ec:ni [.tup ab,.int aa,.int day,.int n]=lT ds)(v0 v1 v2 v3 v7 pF sq:Option (D×Bool))(b:Bool):
  ∃HH,AH [v0,v1,v2,v3,sF (.int aa),sF (.tup ab),sF (.int day),v7,sF (.int n),some (u,b),pF,sq]=some (.nx [v0,v1,v2,v3,sF (.int aa),sF (.tup ab),sF (.int day),v7,sF (.int n),some (u,b),pF,HH]):=by
 let E:DL.Env:=[v0,v1,v2,v3,sF (.int aa),sF (.tup ab),sF (.int day),v7,sF (.int n),some (u,b),pF,lT ds];have p5:b8 ds=true:=hd.elim (λh=>h.2.1) λh=>C1 h.2.2;have t1:bg (fA gu (fV 11 (ae (fC (.ty "list")) ai))) E=some true:=cA (aI [.lst ds,.ty "list"] rfl (bp rfl));have t2:∃p q,bg (f2 jG (aj 9) (fC .non)) E=some p/\(p=true->bg (f2 zI (aj 11) (aj 9)) E=some q)/\(p && q)=false:=by
  rcases hd with⟨rfl,_,hp⟩|⟨rfl,_,_⟩
  ·exact⟨true,false,cA (b7 (.lst ds) .non rfl rfl rfl),λ_=>cA (b7 (.lst ds) (.lst ds) rfl rfl (z6 hp)),rfl⟩
  ·exact⟨false,false,cA (b7 .non .non rfl rfl rfl),λh=>(by cases h),rfl⟩
 have t3:∃p q,bg (f2 zK (aj 9) (fC .non)) E=some p/\(p=true->bg (fA la (fV 11 ai)) E=some q)/\(p && !q)=false:=by
  rcases hd with⟨rfl,_,_⟩|⟨rfl,lJ,hf⟩
  ·exact⟨false,false,cA (b7 (.lst ds) .non rfl rfl rfl),λh=>(by cases h),rfl⟩
  ·exact⟨true,true,cA (b7 .non .non rfl rfl rfl),λ_=>cA (aI [.lst ds] rfl (GR lJ hf)),rfl⟩
 obtain⟨p,q,a1,a2,a3⟩:=t2;obtain⟨p',q',c1,c2,c3⟩:=t3;have s1:=dM a1 a2;rw[a3]at s1;have s2:=dM c1 λh=>bH (c2 h);rw[c3]at s2;exact⟨lT (ds++[.tup [.str "early"]]),bX (ds:=ds) (aI [.tup ab,.int aa,.int day,.int n] rfl ec) p5 (aB (dG (p:=false) (q:=false) (bH t1) λ_=>s1) (aB s2 (jd (ds:=ds) (d:=.tup [.str "early"]) (b:=false) rfl (aI [.str "early"] rfl (bZ _ (by simp))) rfl (bO (by omega)))))⟩
theorem law_true (ns:List Int)(_:ns.length<=63):∃b,F_law [.lst (ns.map .int)]=some (.bl true,b):=by
 obtain⟨c0,e0,h0⟩:=gQ ns 0;obtain⟨c3,e3,h3⟩:=gQ ns 3;obtain⟨c4,e4,h4⟩:=gQ ns 4;obtain⟨Hs,WR,h90⟩:=gQ ns 90;obtain⟨zs,ez,hz,Z3⟩:=Gw c0 h0;have WS:=mod_lt (x:=c3) (m:=3) (by decide);obtain⟨ms,hms,Z4⟩:=nH (ns:=[1,1,500]) (i:=c3 % 3) WS.1 WS.2;obtain⟨ab,erw,RD,R9,Oi⟩:=JF ns zs hz ms;have Z5:=mod_lt (x:=c3 / 3) (m:=13) (by decide);have hm4:=mod_lt (x:=c4) (m:=3) (by decide);have Z6:=mod_lt (x:=Hs / 2) (m:=13) (by decide);have S2:=mod_lt (x:=Hs) (m:=2) (by decide);obtain⟨aa,HI,Z7⟩:=nH (ns:=[9999,c3 / 3 % 13*ms]) (i:=c4 % 3 / 2) (by omega) (by simp;omega);obtain⟨day,hdy,Z8⟩:=nH (ns:=[9999,Hs / 2 % 13*ms]) (i:=Hs % 2) (by omega) (by simp;omega);have LL:bu (.tup ab)=true:=by simp[bI λd hd=>(RD d hd).flat]
 have hn:((bM (am ab aa)).map (a9 0)).Nodup:=by
  refine List.Nodup.sublist (GN ab aa) ?_;rw[Oi];refine List.Nodup.sublist (List.take_sublist _ _) ?_;obtain⟨x,hx⟩:∃x,zs[5]? = some x:=⟨_,vU (by omega)⟩;obtain⟨y,hy⟩:∃y,zs[6]? = some y:=⟨_,vU (by omega)⟩;have e:zs.drop 5=[x,y]:=by
   refine List.ext_getElem? λj=>?_;rw[List.getElem?_drop];match j with
   |0=>exact hx
   |1=>exact hy
   |j+2=>rw[List.getElem?_eq_none (by omega)];rfl
  rw[e];simp[Z3 x y hx hy]
 have ho:(cL (am ab aa)).length<=60:=by
  unfold cL;rw[(bN _ _).length_eq];exact vR (vM _ _) (vR (cu ab aa) (by omega))
 have es:=z4 RD (by omega) aa hn ho day;let S:List Nat:=fQ ab aa day;let E:Option (D×Bool)->Option (D×Bool)->Option (D×Bool)->Option (D×Bool)->DL.Env:=λv8 v9 pF sq=>[sF (.lst (ns.map .int)),lT (zs.map .str),sF (.int ms),sF (.tup ab),sF (.int aa),sF (.tup ab),sF (.int day),lT (iX S),v8,v9,pF,sq];obtain⟨ρ',Z9,v8,v9,pF,sq,rfl⟩:=kB (tg:=dD 8) (g:=Gc) ab.length (λ_ ρ=>∃v8 v9 pF sq,ρ=E v8 v9 pF sq) (E none none none none) ⟨none,none,none,none,rfl⟩ (by
  rintro n ρ hi ⟨v8,v9,pF,sq,rfl⟩;have hr:ab[n]? = some ab[n]:=vU hi;generalize ab[n]=r at hr;have gr:=RD r (vL hr);obtain⟨xa,xk,xr,ex,xd⟩:=id gr;have ax:=cn hr;rw[show r=.tup [.int xa,.tup (.str xk::xr)]from ex]at ax;let F:DL.Env:=E (sF (.int n)) v9 pF sq;have WT:f2 bC (aj 3) (aj 8) F=sF (.tup [.int xa,.tup (.str xk::xr)]):=b7 (.tup ab) (.int n) rfl rfl (by simp[ax]);have c1:bg (f2 zJ (f2 bC (f2 bC (aj 3) (aj 8)) (fI 0)) (aj 4)) F=some (decide (xa<=aa)):=cA (b7 (.int xa) (.int aa) (b7 _ (.int 0) WT rfl (by simp[D6])) rfl (by simp));have c2:bg (f2 wl (f2 bC (f2 bC (f2 bC (aj 3) (aj 8)) (fI 1)) (fI 0)) (fA aP (ae (fS "leave") (ae (fS "paper") (ae (fS "like") (ae (fS "copy") ai)))))) F=some (decide (xk∈bP)):=cA (b7 (.str xk) (.tup (bP.map .str)) (b7 (.tup (.str xk::xr)) (.int 0) (b7 _ (.int 1) WT rfl (by simp[Ei])) rfl (by simp[D6])) (aI (bP.map .str) rfl (bZ _ (by decide))) (gF _ _));have tt:=dM c1 λ_=>c2;cases hb:(decide (xa<=aa) && decide (xk∈bP)) with
  |false=>rw[hb]at tt;exact⟨F,F,rfl,.inl (lU tt rfl),_,_,_,_,rfl⟩
  |true=>
   rw[hb]at tt;rw[vC]at hb;obtain⟨ds,u,b,ef,ed,HD,hD,hL⟩:=DR RD (by omega) aa hn ho day hr (by rw[ex];exact of_decide_eq_true hb.2) (by rw[ex];exact of_decide_eq_true hb.1);obtain⟨b9,e9⟩:∃b9,aS 9 (fA nj (fV 3 (fV 4 (fV 6 (fV 8 (fV 7 ai)))))) F=some (.nx (E (sF (.int n)) (some (u,b9)) pF sq)):=by
    have e:fA nj (fV 3 (fV 4 (fV 6 (fV 8 (fV 7 ai))))) F=some (u,b):=aI [.tup ab,.int aa,.int day,.int n,.lst (iX S)] rfl ed;rcases hD with⟨rfl,hf,_⟩|⟨rfl,_,_⟩
    ·rw[HD rfl]at e;exact⟨true,pP e hf⟩
    ·exact⟨false,mL e rfl⟩
   obtain⟨ρ2,e2,Om,HH,rfl⟩:=kB (tg:=dD 10) (g:=AH) 2 (λ_ ρ=>∃Om HH,ρ=E (sF (.int n)) (some (u,b9)) Om HH) (E (sF (.int n)) (some (u,b9)) pF sq) ⟨pF,sq,rfl⟩ (by
    rintro t ρ ht ⟨Om,HH,rfl⟩;obtain⟨ZA,e⟩:=JX hD hL ef (sF (.lst (ns.map .int))) (lT (zs.map .str)) (sF (.int ms)) (sF (.tup ab)) (lT (iX S)) (sF (.int t)) HH b9;exact⟨_,_,rfl,.inl e,_,ZA,rfl⟩)
   exact⟨F,_,rfl,.inl (ls tt (dz e9 (kF (gU (j:=2) (b:=false) rfl (by decide)) e2))),_,_,_,_,rfl⟩)
 refine⟨false,av rfl (bX (ds:=zs.map .str) (aI [.int c0] (aF (aI [.lst (ns.map .int),.int ((0:Nat):Int)] rfl e0) rfl) ez) (di zs) (fz (.int ms) ?_ rfl (fz (.tup ab) (aI [.lst (ns.map .int),.lst (zs.map .str),.int ms,.int 14] rfl erw) LL (fz (.int aa) ?_ rfl (fz (.tup ab) (aI [.lst ab] (aF (b:=true) (aI [.tup ab] rfl rfl) rfl) rfl) LL (fz (.int day) ?_ rfl (bX (ds:=iX S) (aI [.tup ab,.int aa,.int day] rfl es) (DO S) (dz (kF (gU (j:=ab.length) (b:=false) (by simp) (by omega)) Z9) (ay (b7 (.tup ab) (.tup ab) rfl rfl (Ju λr hr=>(RD r hr).c.rp)))))))))))⟩
 ·exact g9 (x:=.lst (([1,1,500]:List Int).map .int)) (y:=.int (c3 % 3)) (b1:=true) (b2:=false) (by simp[sizeLine]) (b7 (.int c3) (.int 3) (aI [.lst (ns.map .int),.int ((3:Nat):Int)] rfl e3) rfl (by simp)) Z4
 ·exact g9 (x:=.lst (([9999,c3 / 3 % 13*ms]:List Int).map .int)) (y:=.int (c4 % 3 / 2)) (b1:=true) (b2:=false) (aI [.int 9999,.int (c3 / 3 % 13*ms)] (bY rfl (bY (b7 (.int (c3 / 3 % 13)) (.int ms) (b7 (.int (c3 / 3)) (.int 13) (b7 (.int c3) (.int 3) (aI [.lst (ns.map .int),.int ((3:Nat):Int)] rfl e3) rfl (by simp)) rfl (by simp)) rfl (rX (by omega))) rfl)) (de _ (by simp))) (b7 (.int (c4 % 3)) (.int 2) (b7 (.int c4) (.int 3) (aI [.lst (ns.map .int),.int ((4:Nat):Int)] rfl e4) rfl (by simp)) rfl (by simp)) Z7
 ·exact g9 (x:=.lst (([9999,Hs / 2 % 13*ms]:List Int).map .int)) (y:=.int (Hs % 2)) (b1:=true) (b2:=false) (aI [.int 9999,.int (Hs / 2 % 13*ms)] (bY rfl (bY (b7 (.int (Hs / 2 % 13)) (.int ms) (b7 (.int (Hs / 2)) (.int 13) (b7 (.int Hs) (.int 2) (aI [.lst (ns.map .int),.int ((90:Nat):Int)] rfl WR) rfl (by simp)) rfl (by simp)) rfl (rX (by omega))) rfl)) (de _ (by simp))) (b7 (.int Hs) (.int 2) (aI [.lst (ns.map .int),.int ((90:Nat):Int)] rfl WR) rfl (by simp)) Z8
end Lw
namespace Lw
open PySem PySem.Spec PyProof.Rows L2 DL
noncomputable def eK (i:Nat):Stmt:=PySem.Challenge.pw_sealchain_k33_first_faults.main.body.getD i (.Pass ⟨0,0,0,0⟩)
structure Tx (w:World)(K:PySem.W.Frag)(mg:Str->Option Value):Prop where
 hX:∃h,K.In h/\h.Ns mainGlobals mg
 d0:dn K "word_of" (eK 7)
 d1:dn K "part_of" (eK 8)
 d2:dn K "day_of" (eK 9)
 d3:dn K "heard" (eK 11)
 d4:dn K "rank" (eK 13)
 d5:dn K "in_order" (eK 15)
 d6:dn K "by_office" (eK 27)
 d7:dn K "roots" (eK 16)
 d8:dn K "is_known" (eK 12)
 d9:dn K "tells" (eK 19)
 d10:dn K "told_of" (eK 20)
 d11:dn K "lives" (eK 21)
 d12:dn K "has_seal" (eK 22)
 d13:dn K "is_sound" (eK 23)
 d14:dn K "lies_in" (eK 1)
 d15:dn K "is_alive" (eK 25)
 d16:dn K "by_since" (eK 26)
 d17:dn K "chief_of" (eK 28)
 d18:dn K "holder_by" (eK 29)
 d19:dn K "is_held_by" (eK 30)
 d20:dn K "is_first_death" (eK 31)
 d21:dn K "counts" (eK 32)
 d22:dn K "new_claim" (eK 33)
 d23:dn K "ended" (eK 34)
 d24:dn K "after_choice" (eK 35)
 d25:dn K "inherited" (eK 36)
 d26:dn K "after_death" (eK 37)
 d27:dn K "claims" (eK 38)
 d28:dn K "is_paper" (eK 41)
 d29:dn K "is_leave" (eK 42)
 d30:dn K "is_borne" (eK 43)
 d31:dn K "covers" (eK 4)
 d32:dn K "reach_bar" (eK 48)
 d33:dn K "office_bar" (eK 49)
 d34:dn K "office_bases" (eK 52)
 d35:dn K "ends_within" (eK 3)
 d36:dn K "is_within" (eK 2)
 d37:dn K "is_ahead" (eK 14)
 d38:dn K "leave_bar" (eK 50)
 d39:dn K "leaves_to" (eK 51)
 d40:dn K "leave_bases" (eK 53)
 d41:dn K "copy_bases" (eK 54)
 d42:dn K "bases_by" (eK 55)
 d43:dn K "may_call" (eK 44)
 d44:dn K "calls_in" (eK 45)
 d45:dn K "calls_by" (eK 46)
 d46:dn K "is_fit" (eK 57)
 d47:dn K "links" (eK 58)
 d48:dn K "bears" (eK 59)
 d49:dn K "stood" (eK 60)
 d50:dn K "standing" (eK 61)
 d51:dn K "calls" (eK 47)
 d52:dn K "office_faults" (eK 63)
 d53:dn K "leave_fault" (eK 64)
 d54:dn K "leave_faults" (eK 65)
 d55:dn K "bases" (eK 56)
 d56:dn K "copy_fault" (eK 66)
 d57:dn K "base_faults" (eK 67)
 d58:dn K "faults" (eK 68)
 d59:dn K "_law_cell" (eK 70)
 d60:dn K "_law_names" (eK 71)
 d61:dn K "_law_stretch" (eK 72)
 d62:dn K "_law_deed" (eK 73)
 d63:dn K "_law_rows" (eK 74)
 d64:dn K "_law_due" (eK 75)
 d65:dn K "_law_later" (eK 76)
 d66:dn K "law" (eK 77)
 n0:mg "any" = none
 n1:mg "dict" = none
 n2:mg "enumerate" = none
 n3:mg "int" = none
 n4:mg "isinstance" = none
 n5:mg "len" = none
 n6:mg "list" = none
 n7:mg "max" = none
 n8:mg "min" = none
 n9:mg "range" = none
 n10:mg "set" = none
 n11:mg "sorted" = none
 n12:mg "tuple" = none
 k0:KC K mg "PAPERS" yJ
 k1:KD w K mg "PARTS" gO
 k2:KC K mg "SEALINGS" iu
 l5:A6 K "in_order"
 l12:A6 K "has_seal"
 l20:A6 K "is_first_death"
 l42:A6 K "bases_by"
section
variable {P:Program}{w:World}{K:PySem.W.Frag}{mg:Str->Option Value}{base:Heap}(T:Tx w K mg)
include T
theorem f0:Fn P w K mg base 1 "word_of" aK:=T.d0.fq T.hX uo ["row"] 1 λnd hr hu=>
  (bd (aQ (bL 0) aw))
theorem f1:Fn P w K mg base 2 "part_of" au:=T.d1.fq T.hX uq ["row","part"] 2 λnd hr hu=>
  (bd (aQ (bL 0) (az bx aw (Ja T.k1 (a8 (f0 T) hr) (ah 1)))))
theorem f2:Fn P w K mg base 3 "day_of" aT:=T.d2.fq T.hX yK ["row"] 1 λnd hr hu=>
  (ao (bJ (aJ (cI hu) (a8 (f0 T) hr) a7) cY)
   (bd (a8 (f1 T) hr)))
theorem f3:Fn P w K mg base 1 "heard" cH:=T.d3.fq T.hX BQ ["book","known"] 2 λnd hr hu=>
  (bd (io ["number","row","known"] (IU T.n2 (ah 0)) (fF (aJ oH (bL 1) (ah 2))) (ah 0)))
theorem f4:Fn P w K mg base 4 "rank" fj:=T.d4.fq T.hX Gb ["book","number"] 2 λnd hr hu=>
  (bd (aO (ag (aW (f2 T) hr (ag (aQ (ah 0) (ah 1)) ak)) (aE 1 ak))))
theorem f5:Fn P w K mg base 8 "in_order" dX:=T.d5.fqL T.hX qR ["book","known","dated"] 2 λnd hr hu jA=>
  (ao (oQ ["number","book"] nd (c9 (a8 (f3 T) hr)) (fF (aJ pH (aW (f2 T) hr (ag (aQ (ah 1) (ah 0)) ak)) cY)) (ah 0))
   (bd (F6 F4 T.n11 (ah 2) (wC (cap:=[0]) (N':=["number","book"]) (by decide +kernel) T.l5 jA rfl rfl (BB (by decide +kernel) rfl rfl rfl rfl rfl) rfl (.cons rfl rfl (Or.inl rfl) rfl (pG (by decide +kernel) rfl) (.nil rfl)) rfl hr.in1.in1 (λ_ _ _ _=>rfl) λ_ _ _ _ hr=>have hu:=Df hr;(a8 (f4 T) hr)))))
theorem f6:Fn P w K mg base 1 "by_office" gA:=T.d6.fq T.hX oR ["claim"] 1 λnd hr hu=>
  (bd (aO (ag (bL 0) (ag (bL 0) (ag (bL 0) ak)))))
theorem f7:Fn P w K mg base 3 "roots" fK:=T.d7.fq T.hX BR ["book","known","known_rows"] 2 λnd hr hu=>
  (ao (oQ ["number","book"] nd (c9 (a8 (f3 T) hr)) jC (aQ (ah 1) (ah 0)))
   (bd (gS (No rfl) T.n1 Nn (ag (io ["row"] (c9 (ah 2)) (fF (aJ (cI hu) (a8 (f0 T) hr) a7)) (aO (ag (a8 (f1 T) hr) (aE 0 ak)))) ak))))
theorem f8:Fn P w K mg base 1 "is_known" cG:=T.d8.fq T.hX qS ["book","known","number"] 3 λnd hr hu=>
  (bd (hV (EN oH EV aw (ah 2) (bD ia T.n5 ib (aE 0 ak))) (fX (cK oH (aQ (aQ (ah 0) (ah 2)) aw) (ah 1)))))
theorem f9:Fn P w K mg base 4 "tells" pQ:=T.d9.fq T.hX BS ["row","words","person","day"] 4 λnd hr hu=>
  (bd (hV (cK tI (a8 (f0 T) hr) (ah 1)) (hV (cK (cI hu) (a8 (f1 T) hr) (ah 2)) (fX (cK oH (a8 (f2 T) hr) (ah 3))))))
theorem f10:Fn P w K mg base 5 "told_of" gV:=T.d10.fq T.hX ur ["book","known","words","person","day"] 5 λnd hr hu=>
  (bd (io ["number","words","person","day","book"] (c9 (a8 (f3 T) hr)) (fF (cj (aW (f9 T) hr (ag (aQ (ah 4) (ah 0)) (aE 1 (aE 2 (aE 3 ak))))))) (ah 0)))
theorem f11:Fn P w K mg base 6 "lives" mN:=T.d11.fq T.hX BU ["book","known","person","day"] 4 λnd hr hu=>
  (bd (cK (cI hu) (bD ia T.n5 ib (ag (aW (f10 T) hr (aE 0 (aE 1 (ag (aO (ag a7 ak)) (aE 2 (aE 3 ak)))))) ak)) aw))
theorem Xt:Fn P w K mg base 8 "has_seal" lV:=T.d12.fqL T.hX qT ["book","known","person","day","told"] 4 λnd hr hu jA=>
  (ao (aC nd (aW (f10 T) hr (aE 0 (aE 1 (ag (aO (ag a7 (ag a7 ak))) (aE 2 (aE 3 ak)))))))
   (ao (bJ (aJ (cI hu) (bD ia T.n5 ib (aE 4 ak)) aw) gK)
   (bd (cK (cI hu) (aW (f0 T) hr (ag (aQ (ah 0) (y9 Vs T.n7 (ah 4) (wC (cap:=[0]) (N':=["number","book"]) (by decide +kernel) T.l12 jA rfl rfl (BB (by decide +kernel) rfl rfl rfl rfl rfl) rfl (.cons rfl rfl (Or.inl rfl) rfl (pG (by decide +kernel) rfl) (.nil rfl)) rfl hr.in1 (λ_ _ _ _=>rfl) λ_ _ _ _ hr=>have hu:=Df hr;(a8 (f4 T) hr)) hr)) ak)) a7))))
theorem Q9:Fn P w K mg base 9 "is_sound" du:=T.d13.fq T.hX qU ["book","known","number","sealer","day"] 3 λnd hr hu=>
  (ao (bJ (jE (kq (eN (cj (a8 (f8 T) hr))) (jD (aJ m7 (aW (f0 T) hr (ag (aQ (ah 0) (ah 2)) ak)) (xW T.k2))))) gK)
   (ao (aC nd (aW (f1 T) hr (ag (aQ (ah 0) (ah 2)) (ag a7 ak))))
   (ao (aC nd (aW (f2 T) hr (ag (aQ (ah 0) (ah 2)) ak)))
   (bd (hV (a8 (f11 T) hr) (fX (a8 (Xt T) hr)))))))
theorem V0:Fn P w K mg base 1 "lies_in" jz:=T.d14.fq T.hX ut ["day","stretch"] 2 λnd hr hu=>
  (bd (hV (cK oH (bL 1) (ah 0)) (fX (EO (cK Aq (bL 1) cY) (fX (cK EV (ah 0) (bL 1)))))))
theorem T4:Fn P w K mg base 2 "is_alive" cQ:=T.d15.fq T.hX qV ["claim","day"] 2 λnd hr hu=>
  (bd (aW (V0 T) hr (aE 1 (ag (aO (ag (bL 0) (ag (bL 0) ak))) ak))))
theorem T5:Fn P w K mg base 1 "by_since" dw:=T.d16.fq T.hX qW ["claim"] 1 λnd hr hu=>
  (bd (aO (ag (bL 0) (ag (bL 0) ak))))
theorem Xu:Fn P w K mg base 5 "chief_of" lW:=T.d17.fq T.hX qX ["alive","rule"] 2 λnd hr hu=>
  (ao (bJ (aJ (cI hu) (ah 1) a7) (aQ (y9 Vs T.n7 (ah 0) (BC (T5 T) (hr.in1.mono (by decide)) rfl) hr) aw))
   (bd (aQ (y9 Tp T.n8 (ah 0) (BC (T5 T) (hr.in1.mono (by decide)) rfl) hr) aw)))
theorem V1:Fn P w K mg base 6 "holder_by" dY:=T.d18.fq T.hX oS ["claimed","root","day","alive","people","person","oldest"] 3 λnd hr hu=>
  (ao (oQ ["claim","day","root"] nd (c9 (ah 0)) (fF (jE (iZ (aJ (cI hu) (bL 0) (a8 (f1 T) hr)) (gm (cj (a8 (T4 T) hr)))))) (ah 0))
   (ao (aC nd (lQ rfl T.n11 T.n10 (io ["claim"] (c9 (ah 3)) jC (bL 0))))
   (ao (bJ (aJ (cI hu) (bD ia T.n5 ib (aE 4 ak)) aw) (aO (ag a7 ak)))
   (ao (bJ (jE (iZ (aJ xI (bD ia T.n5 ib (aE 4 ak)) aw) (gm (aJ (cI hu) (a8 (f1 T) hr) a7)))) (aO (ag a7 (aE 4 ak))))
   (ao (aC nd (aW (Xu T) hr (aE 3 (ag (a8 (f1 T) hr) ak))))
   (ao (aC nd (y9 Tp T.n8 (io ["claim","person"] (c9 (ah 3)) (fF (aJ (cI hu) (bL 0) (ah 1))) (ah 0)) (BC (T5 T) (hr.in1.mono (by decide)) rfl) hr))
   (bd (aO (ag a7 (aE 5 (ag (bL 6) ak)))))))))))
theorem T6:Fn P w K mg base 7 "is_held_by" cO:=T.d19.fq T.hX mO ["claimed","root","person","day"] 4 λnd hr hu=>
  (bd (cK (cI hu) (Ff (a8 (V1 T) hr) II (IJ aw)) (aO (ag a7 (aE 2 ak)))))
theorem Xv:Fn P w K mg base 8 "is_first_death" gb:=T.d20.fqL T.hX j0 ["book","known","number","row","deaths"] 3 λnd hr hu jA=>
  (ao (aC nd (aQ (ah 0) (ah 2)))
   (ao (aC nd (aW (f10 T) hr (aE 0 (aE 1 (ag (aO (ag a7 ak)) (ag (a8 (f1 T) hr) (ag (a8 (f2 T) hr) ak)))))))
   (bd (cK (cI hu) (y9 Tp T.n8 (ah 4) (wC (cap:=[0]) (N':=["each","book"]) (by decide +kernel) T.l20 jA rfl rfl (BB (by decide +kernel) rfl rfl rfl rfl rfl) rfl (.cons rfl rfl (Or.inl rfl) rfl (pG (by decide +kernel) rfl) (.nil rfl)) rfl hr.in1 (λ_ _ _ _=>rfl) λ_ _ _ _ hr=>have hu:=Df hr;(a8 (f4 T) hr)) hr) (ah 2)))))
theorem Xw:Fn P w K mg base 10 "counts" mP:=T.d21.fq T.hX yL ["book","known","so_far","number","row","root"] 4 λnd hr hu=>
  (ao (aC nd (aQ (ah 0) (ah 3)))
   (ao (bJ (aJ (cI hu) (a8 (f0 T) hr) a7) (a8 (Xv T) hr))
   (ao (bJ (aJ m7 (a8 (f0 T) hr) (aO (ag a7 (ag a7 (ag a7 ak))))) gK)
   (ao (aC nd (FF (Lm hu) (a8 (f7 T) hr) (a8 (f1 T) hr) ⟨rfl,rfl,rfl,rfl⟩))
   (ao (bJ (aJ Aq (ah 5) cY) gK)
   (ao (bJ (aJ (cI hu) (a8 (f0 T) hr) a7) gK)
   (bd (hV (a8 (Q9 T) hr) (fX (aW (T6 T) hr (aE 2 (aE 5 (ag (a8 (f1 T) hr) (ag (a8 (f2 T) hr) ak))))))))))))))
theorem V2:Fn P w K mg base 3 "new_claim" gB:=T.d22.fq T.hX oU ["row","since","number"] 3 λnd hr hu=>
  (bd (aO (ag (a8 (f1 T) hr) (ag (a8 (f1 T) hr) (aE 1 (ag cY (aE 2 ak)))))))
theorem V3:Fn P w K mg base 3 "ended" pR:=T.d23.fq T.hX BV ["so_far","offices","person","day","left","claim"] 4 λnd hr hu=>
  (ao (aC nd (bo ak))
   (ao (uj (c9 (ah 0)) (Eh 5 nd) eQ (bA (fG (jE (kq (aJ m7 (bL 5) (ah 1)) (kq (aJ (ET hu) (bL 5) (ah 2)) (jD (eN (jE (kq (cj (a8 (T4 T) hr)) (jD (aJ xI (bL 5) (ah 3)))))))))) (bA (hZ (i:=4) (ah 5))) (bA (fG (aJ EV (bL 5) (ah 3)) (bA (hZ (i:=4) (aO (ag (bL 5) (aE 2 (ag (bL 5) (aE 3 (ag (bL 5) ak)))))))) eY)))))
   (bA (kT 4))))
theorem Xx:Fn P w K mg base 4 "after_choice" iw:=T.d24.fq T.hX kG ["so_far","row","number","since","left"] 3 λnd hr hu=>
  (ao (aC nd (a8 (f1 T) hr))
   (ao (aC nd (aW (V3 T) hr (aE 0 (ag (bo (ag (a8 (f1 T) hr) ak)) (ag (a8 (f1 T) hr) (aE 3 ak))))))
   (bd (az bx (ah 4) (bo (ag (a8 (V2 T) hr) ak))))))
theorem Xy:Fn P w K mg base 7 "inherited" kH:=T.d25.fq T.hX oV ["book","known","so_far","heirs","number","person","day","told","office","heir"] 5 λnd hr hu=>
  (ao (aC nd (aW (f1 T) hr (ag (aQ (ah 0) (ah 4)) (ag a7 ak))))
   (ao (aC nd (aW (f2 T) hr (ag (aQ (ah 0) (ah 4)) ak)))
   (ao (aC nd (bo ak))
   (ao (Qm [5,6] (uj (c9 (lQ rfl T.n11 T.n10 (io ["claim","person","day"] (c9 (ah 2)) (fF (jE (iZ (aJ (cI hu) (bL 0) (ah 1)) (gm (cj (a8 (T4 T) hr)))))) (bL 0)))) (Eh 8 nd) eQ (ao (aC nd (FN (Lm hu) (ah 3) (aE 8 (aE 5 ak)) ⟨rfl,rfl,rfl,rfl⟩))
   (bA (fG (jE (iZ (aJ pH (ah 9) cY) (gm (cj (a8 (f11 T) hr))))) (bA (hZ (i:=7) (aO (aE 8 (aE 9 (aE 6 (ag cY (aE 4 ak)))))))) eY)))))
   (bA (kT 7))))))
theorem Xz:Fn P w K mg base 8 "after_death" je:=T.d26.fq T.hX lB ["book","known","so_far","heirs","number","offices","left"] 5 λnd hr hu=>
  (ao (oQ ["claim"] nd (c9 (ah 2)) jC (bL 0))
   (ao (aC nd (aW (V3 T) hr (aE 2 (aE 5 (ag (aW (f1 T) hr (ag (aQ (ah 0) (ah 4)) (ag a7 ak))) (ag (aW (f2 T) hr (ag (aQ (ah 0) (ah 4)) ak)) ak))))))
   (bd (az bx (ah 6) (a8 (Xy T) hr)))))
theorem RY:Fn P w K mg base 11 "claims" j3:=T.d27.fq T.hX yM ["book","known","so_far","heirs","number","row"] 2 λnd hr hu=>
  (ao (aC nd (bo ak))
   (ao (Jj (i:=3) nd)
   (ao (uj (c9 (a8 (f5 T) hr)) (Eh 4 nd) eQ (ao (aC nd (aQ (ah 0) (ah 4)))
   (ao (fG (eN (cj (a8 (Xw T) hr))) (bA IS) eY)
   (bA (fG (aJ (cI hu) (a8 (f0 T) hr) a7) (bA (aC nd (az bx (ah 2) (bo (ag (aW (V2 T) hr (aE 5 (ag (a8 (f2 T) hr) (aE 4 ak)))) ak))))) (bA (fG (aJ (cI hu) (a8 (f0 T) hr) a7) (bA (aC nd (a8 (Xx T) hr))) (bA (fG (aJ (cI hu) (a8 (f0 T) hr) a7) (bA (Jl (i:=3) (Lm hu) (a8 (f1 T) hr) (ag (a8 (f1 T) hr) (ag (a8 (f1 T) hr) ak)))) (bA (aC nd (a8 (Xz T) hr))))))))))))
   (bd (F6 F4 T.n11 (ah 2) (BC (f6 T) (hr.in1.in1.mono (by decide)) rfl))))))
theorem V4:Fn P w K mg base 2 "is_paper" fm:=T.d28.fq T.hX qZ ["book","known","number"] 3 λnd hr hu=>
  (bd (hV (a8 (f8 T) hr) (fX (cK tI (aW (f0 T) hr (ag (aQ (ah 0) (ah 2)) ak)) (xW T.k0)))))
theorem V5:Fn P w K mg base 2 "is_leave" gd:=T.d29.fq T.hX re ["book","known","number"] 3 λnd hr hu=>
  (bd (hV (a8 (f8 T) hr) (fX (cK (cI hu) (aW (f0 T) hr (ag (aQ (ah 0) (ah 2)) ak)) a7))))
theorem T7:Fn P w K mg base 3 "is_borne" dZ:=T.d30.fq T.hX rf ["book","known","number"] 3 λnd hr hu=>
  (bd (EO (a8 (V5 T) hr) (fX (a8 (V4 T) hr))))
theorem V6:Fn P w K mg base 1 "covers" iz:=T.d31.fq T.hX rg ["matters","some"] 2 λnd hr hu=>
  (bd (cK (cI hu) (az PU (ah 0) (ah 1)) (ah 1)))
theorem V7:Fn P w K mg base 3 "reach_bar" iQ:=T.d32.fq T.hX oW ["row","above"] 2 λnd hr hu=>
  (ao (bJ (eN (cj (aW (V6 T) hr (ag (a8 (f1 T) hr) (ag (a8 (f1 T) hr) ak))))) a7)
   (ao (bJ (jE (iZ (aJ (cI hu) (a8 (f0 T) hr) a7) (gm (aJ Tc (a8 (f1 T) hr) (a8 (f1 T) hr))))) a7)
   (bd cY)))
theorem V8:Fn P w K mg base 8 "office_bar" cB:=T.d33.fq T.hX mQ ["claimed","row","root"] 3 λnd hr hu=>
  (ao (bJ (eN (cj (aW (T6 T) hr (aE 0 (aE 2 (ag (a8 (f1 T) hr) (ag (a8 (f2 T) hr) ak))))))) a7)
   (bd (a8 (V7 T) hr)))
theorem X0:Fn P w K mg base 9 "office_bases" i6:=T.d34.fq T.hX kI ["book","known","claimed","number","row","bearing"] 4 λnd hr hu=>
  (ao (aC nd (aQ (ah 0) (ah 3)))
   (ao (oQ ["root","claimed","row"] nd (BI (a8 (f7 T) hr)) (fF (aJ Aq (a8 (V8 T) hr) cY)) (ah 0))
   (bd (io ["root","claimed","row"] (c9 (ah 5)) jC (aO (ag a7 (ag (a8 (f1 T) hr) (ag (aQ (aW (V1 T) hr (aE 1 (aE 0 (ag (a8 (f2 T) hr) ak)))) aw) ak))))))))
theorem X1:Fn P w K mg base 1 "ends_within" jf:=T.d35.fq T.hX lC ["stop","bound"] 2 λnd hr hu=>
  (ao (bJ (aJ Aq (ah 1) cY) gK)
   (bd (hV (cK pH (ah 0) cY) (fX (cK oH (ah 0) (ah 1))))))
theorem X2:Fn P w K mg base 2 "is_within" iR:=T.d36.fq T.hX oZ ["one","other"] 2 λnd hr hu=>
  (bd (hV (cK oH (bL 1) (bL 0)) (fX (aW (X1 T) hr (ag (bL 0) (ag (bL 1) ak))))))
theorem V9:Fn P w K mg base 5 "is_ahead" ge:=T.d37.fq T.hX rh ["book","one","other"] 3 λnd hr hu=>
  (bd (cK (Qr hu) (a8 (f4 T) hr) (a8 (f4 T) hr)))
theorem VA:Fn P w K mg base 6 "leave_bar" gD:=T.d38.fq T.hX pb ["book","number","leave","row","stretch"] 3 λnd hr hu=>
  (ao (aC nd (aQ (ah 0) (ah 1)))
   (ao (aC nd (aW (f1 T) hr (ag (aQ (ah 0) (ah 2)) (ag a7 ak))))
   (ao (bJ (eN (cj (a8 (V9 T) hr))) a7)
   (ao (bJ (jE (kq (eN (cj (aW (V0 T) hr (ag (a8 (f2 T) hr) (aE 4 ak))))) (jD (eN (cj (aW (X2 T) hr (ag (a8 (f1 T) hr) (aE 4 ak)))))))) a7)
   (bd (aW (V7 T) hr (aE 3 (ag (aQ (ah 0) (ah 2)) ak))))))))
theorem VB:Fn P w K mg base 3 "leaves_to" iS:=T.d39.fq T.hX pe ["book","known","person","leaves"] 3 λnd hr hu=>
  (ao (oQ ["number","book","known"] nd (c9 (a8 (f3 T) hr)) (fF (cj (a8 (V5 T) hr))) (ah 0))
   (bd (io ["number","person","book"] (c9 (ah 3)) (fF (aJ (cI hu) (aW (f1 T) hr (ag (aQ (ah 2) (ah 0)) (ag a7 ak))) (ah 1))) (ah 0))))
theorem X3:Fn P w K mg base 7 "leave_bases" jg:=T.d40.fq T.hX lD ["book","known","number","leaves"] 3 λnd hr hu=>
  (ao (aC nd (aW (VB T) hr (aE 0 (aE 1 (ag (aW (f1 T) hr (ag (aQ (ah 0) (ah 2)) (ag a7 ak))) ak)))))
   (bd (io ["leave","book","number"] (c9 (ah 3)) (fF (aJ Aq (a8 (VA T) hr) cY)) (aO (ag a7 (aE 0 ak))))))
theorem X4:Fn P w K mg base 6 "copy_bases" jM:=T.d41.fq T.hX mR ["book","known","number","of"] 3 λnd hr hu=>
  (ao (aC nd (aW (f1 T) hr (ag (aQ (ah 0) (ah 2)) (ag a7 ak))))
   (ao (bJ (jE (iZ (cj (a8 (V4 T) hr)) (gm (cj (a8 (V9 T) hr))))) (bo (ag (aO (ag a7 (aE 3 ak))) ak)))
   (bd (bo ak))))
theorem VC:Fn P w K mg base 10 "bases_by" eu:=T.d42.fqL T.hX rj ["book","known","claimed","number","found"] 4 λnd hr hu jA=>
  (ao (bJ (eN (cj (a8 (T7 T) hr))) (bo ak))
   (ao (bJ (aJ (cI hu) (aW (f0 T) hr (ag (aQ (ah 0) (ah 3)) ak)) a7) (a8 (X4 T) hr))
   (ao (aC nd (az bx (a8 (X0 T) hr) (a8 (X3 T) hr)))
   (bd (F6 (FU hu) T.n11 (ah 4) (wC (cap:=[]) (N':=["base"]) (by decide +kernel) T.l42 jA rfl rfl (BB (by decide +kernel) rfl rfl rfl rfl rfl) rfl (.nil rfl) rfl hr.in1.in1 (λ_ _ _ _=>rfl) λ_ _ _ _ hr=>have hu:=Df hr;(aO (ag (aQ (ah 0) (K7 Ld aw)) (aE 0 ak)))))))))
theorem X5:Fn P w K mg base 8 "may_call" lX:=T.d43.fq T.hX rm ["book","known","claimed","call","number","row","caller","over"] 5 λnd hr hu=>
  (ao (aC nd (aQ (ah 0) (ah 4)))
   (ao (aC nd (aW (f1 T) hr (ag (aQ (ah 0) (ah 3)) (ag a7 ak))))
   (ao (bJ (aJ (cI hu) (ah 6) (a8 (f1 T) hr)) gK)
   (ao (bJ (aJ (cI hu) (a8 (f0 T) hr) a7) gK)
   (ao (oQ ["root","row"] nd (BI (a8 (f7 T) hr)) (fF (cj (aW (V6 T) hr (ag (a8 (f1 T) hr) (ag (a8 (f1 T) hr) ak))))) (ah 0))
   (bd (bD Lf T.n0 Lg (ag (io ["root","claimed","caller","book","call"] (c9 (ah 7)) jC (aW (T6 T) hr (aE 1 (aE 0 (aE 2 (ag (aW (f2 T) hr (ag (aQ (ah 3) (ah 4)) ak)) ak)))))) ak))))))))
theorem X6:Fn P w K mg base 10 "calls_in" jN:=T.d44.fq T.hX rq ["book","known","claimed","call","number","day","row"] 6 λnd hr hu=>
  (ao (aC nd (aQ (ah 0) (ah 3)))
   (ao (bJ (jE (kq (aJ (ET hu) (a8 (f0 T) hr) a7) (kq (aJ (ET hu) (a8 (f1 T) hr) (ah 4)) (jD (aJ xI (a8 (f2 T) hr) (ah 5)))))) gK)
   (bd (hV (a8 (Q9 T) hr) (fX (a8 (X5 T) hr))))))
theorem VD:Fn P w K mg base 11 "calls_by" jO:=T.d45.fq T.hX rz ["book","known","claimed","number","day"] 5 λnd hr hu=>
  (ao (bJ (eN (cj (a8 (T7 T) hr))) (bo ak))
   (bd (io ["call","book","known","claimed","number","day"] (c9 (a8 (f3 T) hr)) (fF (cj (a8 (X6 T) hr))) (ah 0))))
theorem X7:Fn P w K mg base 12 "is_fit" mS:=T.d46.fq T.hX yN ["book","known","claimed","number","day"] 5 λnd hr hu=>
  (ao (bJ (jE (kq (eN (cj (a8 (Q9 T) hr))) (jD (aJ xI (aW (f2 T) hr (ag (aQ (ah 0) (ah 3)) ak)) (ah 4))))) gK)
   (bd (cK (cI hu) (bD ia T.n5 ib (ag (a8 (VD T) hr) ak)) aw)))
theorem VE:Fn P w K mg base 13 "links" mT:=T.d47.fq T.hX BW ["book","known","day","claimed","found","number"] 3 λnd hr hu=>
  (ao (IF (i:=3) nd (a8 (RY T) hr))
   (ao (BH (i:=4) nd)
   (ao (uj (c9 (a8 (f5 T) hr)) (Eh 5 nd) eQ (bA (fG (jE (iZ (cj (a8 (T7 T) hr)) (gm (cj (a8 (X7 T) hr))))) (bA (FY (i:=4) (Lm hu) (a8 (VC T) hr) (ah 5))) eY)))
   (bA (kT 4)))))
theorem X8:Fn P w K mg base 1 "bears" mU:=T.d48.fq T.hX BX ["base","among"] 2 λnd hr hu=>
  (bd (EO (cK (cI hu) (bL 0) a7) (fX (Nw (Lm hu) (bL 0) (ah 1)))))
theorem VF:Fn P w K mg base 2 "stood" mV:=T.d49.fq T.hX BY ["found","stands","number","resting"] 1 λnd hr hu=>
  (ao (BH (i:=1) nd)
   (ao (uj (FX (ah 0)) (zO rfl (jn (Eh 2 nd) (jn (Eh 3 nd) vh))) Qk (bA (fG (cj (bD Lf T.n0 Lg (ag (io ["base","stands"] (c9 (ah 3)) jC (a8 (X8 T) hr)) ak))) (bA (Jk (i:=1) (Lm hu) gK (ah 2))) eY)))
   (bA (kT 1))))
theorem X9:Fn P w K mg base 14 "standing" lY:=T.d50.fq T.hX r0 ["book","known","day"] 3 λnd hr hu=>
  (bd (bD (D4 rfl) T.n11 yr (ag (aW (VF T) hr (ag (a8 (VE T) hr) ak)) ak)))
theorem VG:Fn P w K mg base 12 "calls" pT:=T.d51.fq T.hX BZ ["book","known","number","day"] 4 λnd hr hu=>
  (bd (aW (VD T) hr (aE 0 (aE 1 (ag (a8 (RY T) hr) (aE 2 (aE 3 ak)))))))
theorem XA:Fn P w K mg base 12 "office_faults" eW:=T.d52.fq T.hX jW ["book","known","number","row","claimed","by_name","offices"] 3 λnd hr hu=>
  (ao (aC nd (aQ (ah 0) (ah 2)))
   (ao (aC nd (a8 (RY T) hr))
   (ao (aC nd (a8 (f7 T) hr))
   (ao (aC nd (lQ rfl T.n11 T.n10 (io ["claim","row"] (c9 (ah 4)) (fF (aJ (cI hu) (bL 0) (a8 (f1 T) hr))) (bL 0))))
   (bd (io ["office","claimed","row","by_name"] (c9 (ah 6)) jC (aO (ag a7 (aE 0 (ag (aW (V8 T) hr (aE 1 (aE 2 (ag (Nk (Lm hu) (ah 3) (ah 0) (by intro _ _;rfl)) ak)))) ak))))))))))
theorem XB:Fn P w K mg base 7 "leave_fault" dE:=T.d53.fq T.hX lE ["book","number","leave","bar"] 3 λnd hr hu=>
  (ao (aC nd (a8 (VA T) hr))
   (bd (aO (ag a7 (aE 2 (ag (K8 (aJ Aq (ah 3) cY) a7 (ah 3)) ak))))))
theorem XC:Fn P w K mg base 8 "leave_faults" fL:=T.d54.fq T.hX kJ ["book","known","number","leaves"] 3 λnd hr hu=>
  (ao (aC nd (aW (VB T) hr (aE 0 (aE 1 (ag (aW (f1 T) hr (ag (aQ (ah 0) (ah 2)) (ag a7 ak))) ak)))))
   (bd (io ["leave","book","number"] (c9 (ah 3)) jC (a8 (XB T) hr))))
theorem XD:Fn P w K mg base 12 "bases" mW:=T.d55.fq T.hX Ca ["book","known","number"] 3 λnd hr hu=>
  (bd (aW (VC T) hr (aE 0 (aE 1 (ag (a8 (RY T) hr) (aE 2 ak))))))
theorem XE:Fn P w K mg base 13 "copy_fault" jP:=T.d56.fq T.hX ng ["book","known","number","word"] 3 λnd hr hu=>
  (ao (aC nd (K8 (aJ (cI hu) (bD ia T.n5 ib (ag (a8 (XD T) hr) ak)) aw) a7 a7))
   (bd (aO (ag a7 (ag (aW (f1 T) hr (ag (aQ (ah 0) (ah 2)) (ag a7 ak))) (aE 3 ak))))))
theorem XF:Fn P w K mg base 14 "base_faults" jh:=T.d57.fq T.hX lF ["book","known","number","told"] 3 λnd hr hu=>
  (ao (bJ (aJ (cI hu) (aW (f0 T) hr (ag (aQ (ah 0) (ah 2)) ak)) a7) (bo (ag (a8 (XE T) hr) ak)))
   (ao (aC nd (az bx (a8 (XA T) hr) (a8 (XC T) hr)))
   (ao (bJ (aJ (cI hu) (bD ia T.n5 ib (aE 3 ak)) aw) (bo (ag (aO (ag a7 ak)) ak)))
   (bA (kT 3)))))
theorem XG:Fn P w K mg base 15 "faults" ni:=T.d58.fq T.hX yQ ["book","known","day","number","called"] 4 λnd hr hu=>
  (ao (bJ (Nl (Lm hu) (ah 3) (aW (VF T) hr (ag (a8 (VE T) hr) ak))) (bo ak))
   (ao (bJ (aJ xI (aW (f2 T) hr (ag (aQ (ah 0) (ah 3)) ak)) (ah 2)) (bo (ag (aO (ag a7 ak)) ak)))
   (ao (bJ (eN (cj (a8 (Q9 T) hr))) (bo (ag (aO (ag a7 ak)) ak)))
   (ao (aC nd (a8 (VG T) hr))
   (ao (bJ (aJ xI (bD ia T.n5 ib (aE 4 ak)) aw) (bo (ag (aO (ag a7 (ag (bL 4) ak))) ak)))
   (bd (a8 (XF T) hr)))))))
theorem GS:Fn P w K mg base 1 "_law_cell" da:=T.d59.fq T.hX yR ["_law_script","_law_k","_law_cell_here"] 2 λnd hr hu=>
  (ao (aC nd aw)
   (ao (fG (aJ xI (bD ia T.n5 ib (aE 0 ak)) aw) (bA (aC nd (aQ (ah 0) (az bK (ah 1) (bD ia T.n5 ib (aE 0 ak)))))) eY)
   (ao (aC nd (az bK (az cZ (az bx (az bx (az bK (ah 2) aw) (az cZ aw (ah 1))) aw) aw) aw))
   (bd (az bK (az cZ (ah 2) (az bx (az bx (az bK (ah 2) aw) (ah 1)) aw)) aw)))))
theorem XH:Fn P w K mg base 1 "_law_names" ou:=T.d60.fq T.hX uu ["_law_cell_here","_law_letters","_law_base","_law_at","_law_names_here","_law_k","_law_name"] 1 λnd hr hu=>
  (ao (aC nd a7)
   (ao (oQ ["_law_k","_law_letters","_law_cell_here"] nd (EZ T.n9 (az bx aw (az bK (ah 0) aw))) jC (aQ (ah 1) (az bK (az bS (ah 2) (az bx aw (az cZ aw (ah 0)))) aw)))
   (ao (aC nd (az bK (az bS (ah 0) aw) (bD ia T.n5 ib (aE 2 ak))))
   (ao (aC nd (bo ak))
   (ao (yD (js T.n9 aw) (Eh 5 nd) eQ (ao (aC nd (gS Fi T.n6 Ar (aE 2 ak)))
   (ao (Fj (i:=6) (aQ (ah 1) (az bK (az bx (az bS (ah 0) aw) (az cZ aw (ah 5))) aw)) (ah 3))
   (bA (hZ (i:=4) (MX PySem.F.slot_str_join PySem.F.type_str_join MZ Fg a7 (ah 6)))))))
   (ao (fG (aJ (cI hu) (az bK (az bS (ah 0) aw) aw) aw) (bA (Fj (i:=4) (bL 4) aw)) eY)
   (bA (kT 4))))))))
theorem VH:Fn P w K mg base 1 "_law_stretch" gE:=T.d61.fq T.hX ph ["_law_cell_here","_law_day","_law_measure","_law_some"] 3 λnd hr hu=>
  (ao (aC nd (bo (ag (aO (cq (ag cY ak))) (ag (aO (aE 1 (ag cY ak))) (ag (aO (aE 1 (ag (az bx (ah 1) (az cZ aw (ah 2))) ak))) (ag (aO (cq (ag (az bx (ah 1) (az cZ aw (ah 2))) ak))) (ag (aO (cq (ag (az cZ aw (ah 2)) ak))) ak)))))))
   (ao (aC nd (az bx (ah 3) (bo (ag (aO (ag (az bx (ah 1) (ah 2)) (ag (az bx (ah 1) (az cZ aw (ah 2))) ak))) (ag (aO (ag (az bS (ah 1) aw) (ag (az bx (ah 1) (az cZ aw (ah 2))) ak))) (ag (aO (cq (ag cY ak))) ak))))))
   (bd (aQ (ah 3) (az bK (ah 0) aw)))))
theorem XI:Fn P w K mg base 2 "_law_deed" r6:=T.d62.fq T.hX yS ["_law_many","_law_cell_here","_law_other","_law_names_here","_law_day","_law_had","_law_measure","_law_kinds","_law_word","_law_by","_law_person","_law_of","_law_matters","_law_further","_law_start"] 7 λnd hr hu=>
  (ao (aC nd (az bx (az bx (az bx (AB (bo (ag a7 ak)) aw) (AB (bo (ag a7 ak)) aw)) (bo (ag a7 (ag a7 (ag a7 ak))))) (AB (bo (ag a7 ak)) aw)))
   (ao (aC nd (az bx (ah 7) (bo (ag a7 (ag a7 (ag a7 (ag a7 (ag a7 ak))))))))
   (ao (aC nd (aQ (ah 7) (az bK (ah 1) aw)))
   (ao (aC nd (aQ (ah 5) (az EQ (K7 Ld aw) (az bK (az bS (ah 1) aw) (bD Qe T.n8 Le (cq (ag (bD ia T.n5 ib (aE 5 ak)) ak)))))))
   (ao (fG (aJ (cI hu) (az bK (az bS (ah 1) aw) aw) aw) (bA (aC nd (aQ (ah 3) (az bK (az bS (ah 1) aw) aw)))) eY)
   (ao (aC nd (aQ (ah 3) (az bK (az bS (ah 1) aw) aw)))
   (ao (aC nd (bD Qd T.n7 Qb (cq (ag (az EQ (az EQ (ah 0) aw) (az bK (ah 2) aw)) ak))))
   (ao (fG (aJ (cI hu) (az bK (az bS (ah 2) aw) aw) aw) (bA (aC nd (az bK (az bS (ah 2) aw) aw))) eY)
   (ao (fG (aJ (cI hu) (ah 8) a7) (ao (aC nd (by refine aQ (hs:=?_) ?_ ?_;refine bo ?_;refine cq ?_;refine cq ?_;refine cq ?_;refine cq ?_;refine cq ?_;refine cq ?_;refine cq ?_;refine cq ?_;exact ak;exact(az bK (az bS (ah 1) aw) aw);intro _ _;rfl))
   (ao (aC nd (az bK (az bS (ah 2) aw) (aQ (bo (cq (cq (cq (cq ak))))) (az bK (az bS (ah 2) aw) aw))))
   (bd (aO (aE 8 (aE 4 (aE 9 (aE 10 (aE 12 (ag (aW (VH T) hr (ag (az bS (ah 2) aw) (aE 4 (aE 6 ak)))) (aE 13 ak))))))))))) eY)
   (ao (fG (jE (kq (aJ (cI hu) (ah 8) a7) (jD (aJ (cI hu) (ah 8) a7)))) (ao (aC nd (by refine aQ (hs:=?_) ?_ ?_;refine bo ?_;refine cq ?_;refine cq ?_;refine cq ?_;refine cq ?_;refine cq ?_;refine cq ?_;refine cq ?_;refine cq ?_;exact ak;exact(az bK (az bS (ah 1) aw) aw);intro _ _;rfl))
   (ao (aC nd (aO (aE 8 (aE 4 (aE 9 (aE 12 (ag (aW (VH T) hr (ag (az bS (ah 2) aw) (aE 4 (aE 6 ak)))) (ag (aQ (bo (ag cY (aE 10 ak))) (az bK (az bS (ah 2) aw) aw)) ak))))))))
   (ao (bJ (aJ (cI hu) (ah 8) a7) (az FC (ah 14) (aO (aE 11 (ag (aO (ag (aO (cq (aE 10 ak))) ak)) ak)))))
   (bd (az FC (ah 14) (aO (ag (aO (aE 10 ak)) ak))))))) eY)
   (ao (bJ (aJ tI (ah 8) (aO (ag a7 (ag a7 ak)))) (aO (aE 8 (aE 4 (aE 9 (aE 11 ak))))))
   (ao (bJ (aJ (cI hu) (ah 8) a7) (aO (aE 8 (aE 4 (ag (aQ (ah 3) (az bx aw (az bK (ah 2) aw))) (aE 10 ak))))))
   (ao (bJ (aJ (cI hu) (ah 8) a7) (aO (aE 8 (aE 4 (aE 9 (ag (aQ (ah 3) (az bx aw (az bK (ah 2) aw))) (aE 10 (ag (az bx (ah 4) (az cZ (az bK (az bS (ah 2) aw) aw) (ah 6))) ak))))))))
   (ao (bJ (aJ (cI hu) (ah 8) a7) (aO (aE 8 (aE 4 (aE 9 (ag (aQ (ah 3) (az bx aw (az bK (ah 2) aw))) (aE 10 ak)))))))
   (bd (aO (aE 8 (aE 4 (aE 9 ak)))))))))))))))))))
theorem XJ:Fn P w K mg base 3 "_law_rows" r9:=T.d63.fq T.hX yT ["_law_script","_law_names_here","_law_measure","_law_most","_law_head","_law_rows_here","_law_had","_law_k","_law_rule","_law_matters","_law_late","_law_further","_law_cell_here","_law_day","_law_deed_here"] 4 λnd hr hu=>
  (ao (aC nd (aW (GS T) hr (aE 0 (cq ak))))
   (ao (aC nd (bo ak))
   (ao (aC nd (bo ak))
   (ao (yD (js T.n9 (az bx aw (az bK (ah 4) aw))) (Eh 7 nd) eQ (ao (aC nd (aQ (bo (ag a7 (ag a7 (ag a7 ak)))) (az bK (az bS (ah 4) (az bx aw (az cZ aw (ah 7)))) aw)))
   (ao (aC nd (aQ (bo (cq (cq (cq (cq ak))))) (az bK (az bS (ah 4) (az bx aw (az cZ aw (ah 7)))) aw)))
   (ao (aC nd (az cZ (az cZ (gS Qn T.n3 Qc (ag (cK (cI hu) (az bK (az bS (ah 4) (az bx aw (ah 7))) aw) aw) ak)) aw) (ah 2)))
   (ao (aC nd (az bK (az bS (ah 4) (az bx aw (az cZ aw (ah 7)))) (aQ (bo (cq (cq (cq ak)))) (az bK (az bS (ah 4) (az bx aw (ah 7))) aw))))
   (ao (hZ (i:=5) (aO (aE 10 (ag (aO (ag a7 (ag (aQ (ah 1) (az bx aw (ah 7))) (aE 9 (aE 11 (aE 8 ak)))))) ak))))
   (ao (hZ (i:=5) (aO (cq (ag (aO (ag a7 (cq (ag (aQ (ah 1) (az bx aw (ah 7))) (ag (aQ (ah 1) (ah 7)) ak))))) ak))))
   (bA (hZ (i:=6) (aQ (ah 1) (ah 7)))))))))))
   (ao (yD (js T.n9 (az bx aw (az bK (aW (GS T) hr (aE 0 (cq ak))) (ah 3)))) (Eh 7 nd) eQ (ao (aC nd (aW (GS T) hr (aE 0 (ag (az bx aw (ah 7)) ak))))
   (ao (aC nd (az cZ (az bx (az bS (ah 7) aw) (az bK (az bS (ah 12) aw) aw)) (ah 2)))
   (ao (aC nd (aW (XI T) hr (ag (bD ia T.n5 ib (aE 5 ak)) (ag (aW (GS T) hr (aE 0 (ag (az bx aw (ah 7)) ak))) (ag (aW (GS T) hr (aE 0 (ag (az bx aw (ah 7)) ak))) (aE 1 (aE 13 (aE 6 (aE 2 ak)))))))))
   (ao (fG (aJ tI (bL 14) (aO (ag a7 (ag a7 ak)))) (bA (hZ (i:=6) (bL 14))) eY)
   (ao (fG (aJ (cI hu) (bL 14) a7) (bA (hZ (i:=6) (bL 14))) eY)
   (bA (hZ (i:=5) (aO (ag (az bx (ah 13) (az cZ (by refine aQ (hs:=?_) ?_ ?_;refine bo ?_;refine cq ?_;refine cq ?_;refine cq ?_;refine cq ?_;refine cq ?_;refine cq ?_;exact ak;exact(az bK (az bS (ah 12) aw) aw);intro _ _;rfl) (ah 2))) (aE 14 ak)))))))))))
   (bd (gS By T.n12 wm (aE 5 ak))))))))
theorem XM:Fn P w K mg base 13 "_law_due" nj:=T.d64.fq T.hX Cb ["_law_rows_here","_law_known","_law_day","_law_number","_law_stand","_law_told"] 5 λnd hr hu=>
  (ao (bJ (aJ tI (ah 3) (ah 4)) (bo ak))
   (ao (bJ (aJ xI (aQ (aQ (aQ (ah 0) (ah 3)) aw) aw) (ah 2)) (bo (ag (aO (ag a7 ak)) ak)))
   (ao (bJ (eN (cj (a8 (Q9 T) hr))) (bo (ag (aO (ag a7 ak)) ak)))
   (ao (aC nd (a8 (VG T) hr))
   (ao (bJ (aJ (ET hu) (ah 5) (bo ak)) (bo (ag (aO (ag a7 (ag (bD Nx T.n8 Le (aE 5 ak)) ak))) ak)))
   (bd cY))))))
theorem XN:Fn P w K mg base 1 "_law_later" la:=T.d65.fq T.hX uw ["_law_found","_law_one"] 1 λnd hr hu=>
  (ao (bJ (aJ (cI hu) (ah 0) (bo ak)) gK)
   (ao (uj (c9 (ah 0)) (Eh 1 nd) eQ (bA (bJ (jE (kq (eN (cj (bD m9 T.n4 m8 (aE 1 (ag (Lc T.n12 wm) ak))))) (jD (aJ m7 (bL 1) (aO (ag a7 (ag a7 (ag a7 (ag a7 ak))))))))) gK)))
   (bd gK)))
theorem head {fa:Addr}(Uj:mg "law" = some (.ref fa)):∃fd:FuncData,(∀(s:Shared)(u:Value),BindsTo s fd ⟨[u],[]⟩ [("_law_script",u)])/\∀base:Heap,K.In base->base.Ns mainGlobals mg->sS P w K mg base zH 16 fa fd ["_law_script"] (IH K F_law):=by
 have S:FnScope ["_law_script","_law_names_here","_law_measure","_law_rows_here","_law_known","_law_handed","_law_day","_law_stand","_law_number","_law_due_here","_law_turn","_law_found"] ["_law_script"] (aV (eK 77)):=by refine⟨rfl,rfl,rfl,?_,rfl,?_,?_⟩<;>decide +kernel
 have ⟨h,X,G⟩:=T.hX;exact dn.law T.d66 X G Uj S (λ_ _ _ _ _ _ u=>rfl) λbase kb nb f eO A outer s H E hr=>have hu:=Df hr;have nd:=S.nd;(show xi _ _ Lp from
  (ao (aC nd (aW (XH T) hr (ag (aW (GS T) hr (aE 0 (cq ak))) ak)))
   (ao (aC nd (aQ (bo (cq (cq (cq ak)))) (az bK (aW (GS T) hr (aE 0 (cq ak))) aw)))
   (ao (aC nd (aW (XJ T) hr (aE 0 (aE 1 (aE 2 (cq ak))))))
   (ao (aC nd (aQ (bo (cq (ag (az cZ (az bK (az bS (aW (GS T) hr (aE 0 (cq ak))) aw) aw) (ah 2)) ak))) (az bS (az bK (aW (GS T) hr (aE 0 (cq ak))) aw) aw)))
   (ao (aC nd (gS By T.n12 wm (ag (gS Fi T.n6 Ar (aE 3 ak)) ak)))
   (ao (aC nd (aQ (bo (cq (ag (az cZ (az bK (az bS (aW (GS T) hr (aE 0 (cq ak))) aw) aw) (ah 2)) ak))) (az bK (aW (GS T) hr (aE 0 (cq ak))) aw)))
   (ao (aC nd (a8 (X9 T) hr))
   (ao (yD (js T.n9 (bD ia T.n5 ib (aE 3 ak))) (Eh 8 nd) eQ (bA (fG (jE (iZ (aJ oH (aQ (aQ (ah 3) (ah 8)) aw) (ah 4)) (gm (aJ tI (aQ (aQ (aQ (ah 3) (ah 8)) aw) aw) (aO (ag a7 (ag a7 (ag a7 (ag a7 ak))))))))) (ao (aC nd (a8 (XM T) hr))
   (bA (yD (js T.n9 aw) (Eh 10 nd) eQ (ao (aC nd (a8 (XG T) hr))
   (ao (bJ (jE (kq (eN (cj (bD m9 T.n4 m8 (aE 11 (ag (Lc T.n6 Ar) ak))))) (jD (jE (iZ (aJ pH (ah 9) cY) (gm (aJ (ET hu) (ah 11) (ah 9)))))))) gK)
   (ao (bJ (jE (iZ (aJ Aq (ah 9) cY) (gm (eN (cj (a8 (XN T) hr)))))) gK)
   (bA (hZ (i:=11) (aO (ag a7 ak)))))))))) eY)))
   (bd (cK (cI hu) (ah 5) (ah 3))))))))))))
end
end Lw
end
namespace PySem.W.Fast
def tw425010871555689863:=()
def tw12442032811054009101:=()
def tw14662279276377594824:=()
def tw15229340181967045755:=()
def tw15194676796567097355:=()
def tw18433355884248498325:=()
def tw13057202925339363726:=()
def tw10175654384334209011:=()
def tw13315914204103790972:=()
def tw14776213288363907255:=()
def tw16666604886647506013:=()
def tw3121824418121341744:=()
def tw15654370917426155798:=()
def tw3897286240112635453:=()
def tw8053155612379916536:=()
def tw5139617217045088898:=()
def tw539237493651291540:=()
def tw8040574093018277722:=()
def tw6178527451694419059:=()
def tw8125492231928201646:=()
def tw11181930232864020935:=()
def tw2722563437556645740:=()
def tw14488357976880150765:=()
def tw3482249623007760237:=()
def tw16430332189549320566:=()
def tw10069543725483681985:=()
def tw13649308760721520332:=()
def tw16214653437217257726:=()
def tw13266102189236284935:=()
def tw1710485037387365260:=()
def tw1155229409825643894:=()
def tw1445900013588798265:=()
def tw9635877590070305400:=()
def tw6632020746019076993:=()
def tw11565424858571236745:=()
def tw7081717303903560807:=()
def tw15518189261355820394:=()
def tw4808066243507863007:=()
def tw10164611106970326840:=()
def tw17391657350705103317:=()
def tw14330427405930696543:=()
def tw18197834677302722493:=()
def tw11282312126293244240:=()
def tw18052380497160034300:=()
def tw14024497354155829459:=()
def tw7209554957306671940:=()
def tw8182798990343898073:=()
def tw13708188434694960372:=()
def tw9500816757064397989:=()
def tw12001223730468611560:=()
def tw4469812487971583278:=()
def tw3657820155393566041:=()
def tw8616766119298683417:=()
def tw14345701003389309542:=()
def tw5812084284881189785:=()
def tw2218877018847588387:=()
def tw6130675590187113991:=()
def tw10750203328346119602:=()
def tw11775907812052843352:=()
def tw4299872556682593271:=()
def tw11542587449110084305:=()
def tw13584970825427099135:=()
def tw17101349638912917717:=()
def tw2580279616310071009:=()
def tw154476713346455916:=()
def tw9480354015048429104:=()
def tw8939208203237586194:=()
def tw6883941660328869639:=()
def tw1994153921540062470:=()
def tw88746094081927025:=()
def tw8438102380046449929:=()
def tw205071171173367640:=()
def tw16765659733382543816:=()
def tw10963188545304434422:=()
def tw7358205402882451253:=()
def tw6557959930094943599:=()
def tw10116269972936212161:=()
def tw1815674395015613189:=()
def tw12244453896507798919:=()
def tw10426881627428069112:=()
def tw520391045904316154:=()
def tw818467317225590469:=()
def tw15871102745484599032:=()
def tw1475152565565714289:=()
def tw13787024923532226415:=()
def tw9230209838788408797:=()
def tw10178030819449405052:=()
def tw16844712452078433019:=()
def tw356182204072849732:=()
def tw986022393487558999:=()
def tw8513481225043281932:=()
def tw13266965091080146355:=()
def tw3366007974657826315:=()
def tw15587752704704469595:=()
def tw16267213597527169968:=()
def tw13178804882174009025:=()
def tw3749123475365889190:=()
def tw13527472825000129681:=()
def tw18365989350018760641:=()
def tw14819038970462205385:=()
def tw2878316273588020216:=()
def tw11869178855665208453:=()
def tw8614952485328270090:=()
def tw11416025636103903342:=()
def tw3777689675540914432:=()
def tw734759146156279523:=()
def tw13248262550409362968:=()
def tw6944460133099071223:=()
def tw6605587539563200231:=()
def tw14887025600602427984:=()
def tw17907738128123694171:=()
def tw3383853253702809019:=()
def tw6715168191559318250:=()
def tw4252317212870607055:=()
def tw16530741207563659167:=()
def tw7080921316961775702:=()
def tw2746631423940875296:=()
def tw8162036552349792479:=()
def tw15345676747917416048:=()
def tw13335394316855616071:=()
def tw13833814343654496470:=()
def tw5829784031053128485:=()
def tw4837643521130021891:=()
def tw13435039083571146081:=()
def tw8650370412991489548:=()
def tw9295736787445149610:=()
def tw2867869444889644788:=()
def tw8464599484395478306:=()
def tw2973045011137812975:=()
def tw1558996836023740646:=()
def tw13379517177028729073:=()
def tw5771700352167931295:=()
def tw10122941339636523119:=()
def tw11831488574205786964:=()
def tw16646056167010171629:=()
def tw12713819117376459621:=()
def tw6331243621713597706:=()
def tw10982626935864387101:=()
def tw1347078612288531849:=()
def tw12871767433269833574:=()
def tw11878303150458935496:=()
def tw10110265602855008998:=()
end PySem.W.Fast
open PySem PySem.W PyProof.Rows
set_option maxRecDepth 100000 in
set_option maxHeartbeats 0 in
theorem PySem.Challenge.cw_sealchain_k33_first_faults_holds : PySem.Challenge.rw_sealchain_k33_first_faults.Holds := by
 w_on; o_law; k_head; (case hw => w_witness2)
 k_fill
 refine' DL.walkD (l := PySem.Challenge.rw_sealchain_k33_first_faults) (k := 16) (x := ("_law_script" : PySem.Str)) (f := Lw.F_law) (L := [(("in_order" : PySem.Str), ?t0), (("has_seal" : PySem.Str), ?t1), (("is_first_death" : PySem.Str), ?t2), (("bases_by" : PySem.Str), ?t3)]) rfl rfl ⟨rfl, by decide, by decide⟩ (fun w h Y => PySem.W.km_in_of Y) ?T ?D ?F Lw.law_true
 case T =>
  intro w
  refine' DL.tabs_fit ?h0 ?h1 ?h2 ?h3 ?ap ?nt
  (case h0 => refine' DL.tab_yes ?a ?l ?c ?m ?v; (case a => k_is); (case l => k_is); (case c => exact rfl); (case m => k_is); (case v => exact rfl))
  (case h1 => refine' DL.tab_yes ?a ?l ?c ?m ?v; (case a => k_is); (case l => k_is); (case c => exact rfl); (case m => k_is); (case v => exact rfl))
  (case h2 => refine' DL.tab_yes ?a ?l ?c ?m ?v; (case a => k_is); (case l => k_is); (case c => exact rfl); (case m => k_is); (case v => exact rfl))
  (case h3 => refine' DL.tab_yes ?a ?l ?c ?m ?v; (case a => k_is); (case l => k_is); (case c => exact rfl); (case m => k_is); (case v => exact rfl))
  (case ap => decide)
  (case nt => kernel_rfl)
 case D => kernel_rfl
 case F =>
  intro w mg fa h KX G hmg
  refine' Lw.head ⟨⟨h, KX, G⟩, ?d0, ?d1, ?d2, ?d3, ?d4, ?d5, ?d6, ?d7, ?d8, ?d9, ?d10, ?d11, ?d12, ?d13, ?d14, ?d15, ?d16, ?d17, ?d18, ?d19, ?d20, ?d21, ?d22, ?d23, ?d24, ?d25, ?d26, ?d27, ?d28, ?d29, ?d30, ?d31, ?d32, ?d33, ?d34, ?d35, ?d36, ?d37, ?d38, ?d39, ?d40, ?d41, ?d42, ?d43, ?d44, ?d45, ?d46, ?d47, ?d48, ?d49, ?d50, ?d51, ?d52, ?d53, ?d54, ?d55, ?d56, ?d57, ?d58, ?d59, ?d60, ?d61, ?d62, ?d63, ?d64, ?d65, ?d66, PySem.W.mg_none_of KX G ?z0, PySem.W.mg_none_of KX G ?z1, PySem.W.mg_none_of KX G ?z2, PySem.W.mg_none_of KX G ?z3, PySem.W.mg_none_of KX G ?z4, PySem.W.mg_none_of KX G ?z5, PySem.W.mg_none_of KX G ?z6, PySem.W.mg_none_of KX G ?z7, PySem.W.mg_none_of KX G ?z8, PySem.W.mg_none_of KX G ?z9, PySem.W.mg_none_of KX G ?z10, PySem.W.mg_none_of KX G ?z11, PySem.W.mg_none_of KX G ?z12, DL.kc_of KX G ?k0, DL.kd_of KX G ?k1, DL.kc_of KX G ?k2, ?q0, ?q1, ?q2, ?q3⟩ hmg
  iterate 67 (refine' DL.def_mk ?a ?l ?c ?k; (case a => k_is); (case l => k_is); (case c => k_is); (case k => k_is))
  (case z0 => k_is)
  (case z1 => k_is)
  (case z2 => k_is)
  (case z3 => k_is)
  (case z4 => k_is)
  (case z5 => k_is)
  (case z6 => k_is)
  (case z7 => k_is)
  (case z8 => k_is)
  (case z9 => k_is)
  (case z10 => k_is)
  (case z11 => k_is)
  (case z12 => k_is)
  (case k0 => refine' DL.const_tup ?e ?l ?v; (case e => k_is); (case l => k_is); (case v => decide +kernel))
  (case k1 => refine' DL.const_dict ?e ?l ?r ?s; (case e => k_is); (case l => k_is); (case r => refine' (DL.CRows.tup rfl ?l0 ?f0 (DL.CRows.tup rfl ?l1 ?f1 (DL.CRows.tup rfl ?l2 ?f2 (DL.CRows.tup rfl ?l3 ?f3 (DL.CRows.tup rfl ?l4 ?f4 (DL.CRows.tup rfl ?l5 ?f5 (DL.CRows.tup rfl ?l6 ?f6 (DL.CRows.tup rfl ?l7 ?f7 (DL.CRows.tup rfl ?l8 ?f8 (DL.CRows.tup rfl ?l9 ?f9 (DL.CRows.tup rfl ?l10 ?f10 (DL.CRows.tup rfl ?l11 ?f11 DL.CRows.nil)))))))))))); (case l0 => k_is); (case f0 => decide +kernel); (case l1 => k_is); (case f1 => decide +kernel); (case l2 => k_is); (case f2 => decide +kernel); (case l3 => k_is); (case f3 => decide +kernel); (case l4 => k_is); (case f4 => decide +kernel); (case l5 => k_is); (case f5 => decide +kernel); (case l6 => k_is); (case f6 => decide +kernel); (case l7 => k_is); (case f7 => decide +kernel); (case l8 => k_is); (case f8 => decide +kernel); (case l9 => k_is); (case f9 => decide +kernel); (case l10 => k_is); (case f10 => decide +kernel); (case l11 => k_is); (case f11 => decide +kernel)); (case s => decide +kernel))
  (case k2 => refine' DL.const_tup ?e ?l ?v; (case e => k_is); (case l => k_is); (case v => decide +kernel))
  (case q0 => refine' DL.lam_mk ?a ?l ?c ?m ?v1 ?v2 ?v3 ?v4 ?v5 ?v6 ?v7; (case a => k_is); (case l => k_is); (case c => exact rfl); (case m => k_is); (case v1 => exact rfl); (case v2 => exact rfl); (case v3 => exact rfl); (case v4 => exact rfl); (case v5 => exact rfl); (case v6 => exact rfl); (case v7 => decide))
  (case q1 => refine' DL.lam_mk ?a ?l ?c ?m ?v1 ?v2 ?v3 ?v4 ?v5 ?v6 ?v7; (case a => k_is); (case l => k_is); (case c => exact rfl); (case m => k_is); (case v1 => exact rfl); (case v2 => exact rfl); (case v3 => exact rfl); (case v4 => exact rfl); (case v5 => exact rfl); (case v6 => exact rfl); (case v7 => decide))
  (case q2 => refine' DL.lam_mk ?a ?l ?c ?m ?v1 ?v2 ?v3 ?v4 ?v5 ?v6 ?v7; (case a => k_is); (case l => k_is); (case c => exact rfl); (case m => k_is); (case v1 => exact rfl); (case v2 => exact rfl); (case v3 => exact rfl); (case v4 => exact rfl); (case v5 => exact rfl); (case v6 => exact rfl); (case v7 => decide))
  (case q3 => refine' DL.lam_mk ?a ?l ?c ?m ?v1 ?v2 ?v3 ?v4 ?v5 ?v6 ?v7; (case a => k_is); (case l => k_is); (case c => exact rfl); (case m => k_is); (case v1 => exact rfl); (case v2 => exact rfl); (case v3 => exact rfl); (case v4 => exact rfl); (case v5 => exact rfl); (case v6 => exact rfl); (case v7 => decide))

