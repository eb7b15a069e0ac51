import PyProof.Rows.All
import Wide.All
import OpenK.AllK
import Wide.FinOn
import Lean
import PyProof.EqAt
import PyProof.EqKinds
import PyProof.TupleCall
import PyProof.AttrMissHeap
import PySem.Challenge.RW_sealchain_k38_whole_what_is_called_in_fa
set_option Elab.async false
set_option linter.all false
set_option maxRecDepth 100000
set_option bootstrap.genMatcherCode false
set_option compiler.extract_closed false
set_option maxHeartbeats 40000000
theorem mY {α:Type _}{a:α}(l:List α){k:List α}(h:a∈k):a∈l++k:=List.mem_append_right l h
theorem mZ {α:Type _}(b:α){a:α}{l:List α}(h:a∈l):a∈b::l:=List.mem_cons_of_mem b h
theorem mX {α:Type _}{a:α}{l:List α}:a∈a::l:=List.mem_cons_self
theorem oX {α β:Type _}{o:Option α}{f:α->Option β}{b:β}(h:o.bind f=some b):∃a,o=some a/\f a=some b:=Option.bind_eq_some_iff.mp h
theorem oY {α β:Type _}{f:α->β}{o:Option α}{b:β}(h:o.map f=some b):∃a,o=some a/\f a=b:=Option.map_eq_some_iff.mp h
def wX:=@PySem.wpAny_bind
def wY:=@PySem.wpAny_pure
def vZ:=@PySem.Heap.get?_push_of_some
def vY:=@PySem.Heap.get?_push_size
def vX:=@PySem.Heap.lt_size
def vW:=@PySem.Heap.SameBut.update
theorem vV {α:Type _}{l:List α}{i:Nat}{a:α}(h:l[i]? = some a):∃h:i<l.length,l[i]=a:=List.getElem?_eq_some_iff.mp h
theorem vU {α:Type _}{l:List α}{i:Nat}(h:i<l.length):l[i]? = some l[i]:=List.getElem?_eq_getElem h
theorem vT (n:Nat):n<=n:=Nat.le_refl n
theorem vS {a b:Nat}(h:a<b):a≠b:=Nat.ne_of_lt h
theorem vR {n m k:Nat}:n<=m->m<=k->n<=k:=Nat.le_trans
theorem vQ {n m k:Nat}:n<m->m<=k->n<k:=Nat.lt_of_lt_of_le
theorem vP {α:Type _}{a b:α}{l:List α}(h:b∈a::l):b=a∨b∈l:=List.mem_cons.mp h
theorem vO {α β:Type _}{b:β}{f:α->β}{l:List α}(h:b∈l.map f):∃a,a∈l/\f a=b:=List.mem_map.mp h
theorem vN {α:Type _}{a:α}{p:α->Bool}{l:List α}(h:a∈l.filter p):a∈l/\p a=true:=List.mem_filter.mp h
theorem vM {α:Type _}(p:α->Bool)(l:List α):(l.filter p).length<=l.length:=List.length_filter_le p l
theorem vL {α:Type _}{l:List α}{i:Nat}{a:α}(h:l[i]? = some a):a∈l:=List.mem_of_getElem? h
theorem vK {α:Type _}{a b:α}(h:some a=some b):a=b:=Option.some.inj h
theorem vJ {α β:Type _}(a:α)(f:α->Option β):(some a).bind f=f a:=rfl
theorem vI {α β:Type _}{as:List α}(f:α->β):(as.map f).length=as.length:=List.length_map f
theorem vH {α:Type _}{l:List α}:l.toArray.size=l.length:=rfl
theorem vG {α:Type _}{xs:Array α}:xs.toList.length=xs.size:=rfl
theorem vF {α:Type _}{l:List α}{i:Nat}{a:α}:l.getD i a=l[i]?.getD a:=List.getD_eq_getElem?_getD
theorem vE {α:Type _}{a:α}{as:List α}:(a::as).length=as.length+1:=rfl
theorem vC (a b:Bool):((a && b)=true)=(a=true/\b=true):=Bool.and_eq_true a b
theorem vB {α:Type _}{i j:Nat}{a:α}{l:List α}(h:i≠j):(l.set i a)[j]? = l[j]?:=List.getElem?_set_ne h
theorem vA {α β:Type _}{f:α->β}{l:List α}{i:Nat}:(l.map f)[i]? = Option.map f l[i]?:=List.getElem?_map
theorem uZ {α:Type _}{as bs:List α}:(as++bs).length=as.length+bs.length:=List.length_append
theorem uY {α β:Type _}{f:α->β}{a:α}{l:List α}:(a::l).map f=f a::l.map f:=rfl
theorem uX:false≠true:=Bool.false_ne_true
theorem uW {α β:Type _}{f:α->β}{l l':List α}:(l++l').map f=l.map f++l'.map f:=List.map_append
theorem uV:(false=true)=False:=Bool.false_eq_true
theorem uU {α:Type _}{x:Option α}(h:x.isSome=true):∃a,x=some a:=Option.isSome_iff_exists.mp h
theorem uT {α:Type _}{a b:α}(h:a∈[b]):a=b:=List.mem_singleton.mp h
theorem uS {α β:Type _}{b:β}{f:α->β}{l:List α}(h:∃a,a∈l/\f a=b):b∈l.map f:=List.mem_map.mpr h
theorem uR {α:Type _}{l:List α}{p:α->Bool}(h:l.all p=true):∀x∈l,p x=true:=List.all_eq_true.mp h
theorem uQ {α:Type _}(as:List α):as++[]=as:=List.append_nil as
theorem uP {α β γ:Type _}{g:β->γ}{f:α->β}{l:List α}:(l.map f).map g=l.map (g ∘ f):=List.map_map
theorem uO {α β:Type _}{x:α}{xs:List α}{f:α->List β}:(x::xs).flatMap f=f x++xs.flatMap f:=List.flatMap_cons
theorem uN (n:Nat):0<=n:=Nat.zero_le n
noncomputable section
open PySem.W (Frag fnOf nsIn mg_of)
namespace L2
open PySem PySem.Spec PyProof.Rows
abbrev cx:=Sum Int Str
noncomputable def tF:cx->Value->Bool
 |.inl k,v=>Value.isInt k v
 |.inr x,v=>Value.isStrOf x v
noncomputable def SS (w:World):cx->Int
 |.inl k=>hashInt k
 |.inr x=>hashStr w x
theorem cK:∀ {k:cx}{v:Value},tF k v=true->(∃i t,k=Sum.inl i/\v=Value.int i t)∨(∃x t,k=Sum.inr x/\v=Value.str x t)
 |.inl i,v,h=>by
  obtain⟨t,e⟩:=Value.isInt_shape (k:=i) (v:=v) h;exact .inl ⟨i,t,rfl,e⟩
 |.inr x,v,h=>by
  obtain⟨t,e⟩:=Value.isStrOf_shape (x:=x) (v:=v) h;exact .inr ⟨x,t,rfl,e⟩
theorem Dk (i:Int)(t:Tok):tF (.inl i) (.int i t)=true:=by simp[tF,Value.isInt]
theorem Dl (x:Str)(t:Tok):tF (.inr x) (.str x t)=true:=by simp[tF,Value.isStrOf]
theorem Mp (a b:Int):decide ((Sum.inl a:cx)=Sum.inl b)=(a == b):=by
 by_cases e:a=b
 ·subst e;simp
 ·have h:¬(Sum.inl a:cx)=Sum.inl b:=λq=>e (Sum.inl.inj q);rw[decide_eq_false h];exact(beq_eq_false_iff_ne.mpr e).symm
theorem Mq (a b:Str):decide ((Sum.inr a:cx)=Sum.inr b)=decide (a=b):=by
 by_cases e:a=b
 ·subst e;simp
 ·have h:¬(Sum.inr a:cx)=Sum.inr b:=λq=>e (Sum.inr.inj q);rw[decide_eq_false h,decide_eq_false e]
theorem Mr (a:Int)(b:Str):decide ((Sum.inl a:cx)=Sum.inr b)=false:=decide_eq_false (λq=>nomatch q)
theorem Ms (a:Str)(b:Int):decide ((Sum.inr a:cx)=Sum.inl b)=false:=decide_eq_false (λq=>nomatch q)
def cq (prog:Program)(w:World):PySem.KeyKind prog w cx where
 is:=tF
 hash:=SS w
 inj:=λv a b ha hb=>by
  rcases cK ha with⟨i,t,rfl,rfl⟩|⟨x,t,rfl,rfl⟩
  ·rcases cK hb with⟨j,u,rfl,e⟩|⟨y,u,rfl,e⟩
   ·injection e with e1 _;rw[e1]
   ·exact nomatch e
  ·rcases cK hb with⟨j,u,rfl,e⟩|⟨y,u,rfl,e⟩
   ·exact nomatch e
   ·injection e with e1 _;rw[e1]
 byValue:=λk v h=>by
  rcases cK h with⟨i,t,rfl,rfl⟩|⟨x,t,rfl,rfl⟩<;>rfl
 pyHash:=λhv h=>by
  rcases cK hv with⟨i,t,rfl,rfl⟩|⟨x,t,rfl,rfl⟩
  ·exact wpAny_pyHash_int h
  ·exact wpAny_pyHash_str h
 eqBool:=λhu hv h=>by
  rcases cK hu with⟨i,t,rfl,rfl⟩|⟨x,t,rfl,rfl⟩
  ·rcases cK hv with⟨j,u,rfl,rfl⟩|⟨y,u,rfl,rfl⟩
   ·rw[Mp]at h;exact wpAny_eqBool_int h
   ·rw[Mr]at h;exact SeqAt.EqAt.int_str i t y u _ _ _ _ h
  ·rcases cK hv with⟨j,u,rfl,rfl⟩|⟨y,u,rfl,rfl⟩
   ·rw[Ms]at h;exact SeqAt.EqAt.str_int x t j u _ _ _ _ h
   ·rw[Mq]at h;exact wpAny_eqBool_str h
 «strs»:=λk x t v h=>by
  rcases cK h with⟨i,u,rfl,e⟩|⟨y,u,rfl,e⟩
  ·exact nomatch e
  ·injection e with e1 _;subst e1;cases v<;>rfl
theorem xA (prog:Program)(w:World)(i:Int)(t:Tok):(cq prog w).is (.inl i) (.int i t)=true:=Dk i t
theorem xB (prog:Program)(w:World)(x:Str)(t:Tok):(cq prog w).is (.inr x) (.str x t)=true:=Dl x t
inductive V where
 |non|bl (b:Bool)|int (i:Int)|str (x:Str)|byt (b:Array UInt8)|flt (b:UInt64)|ref (a:Addr)|ty (n:String)
 deriving DecidableEq
def ba:V->Value->Prop
 |.non,u=>u=Value.none
 |.bl b,u=>u=Value.bool b
 |.int i,u=>∃t,u=Value.int i t
 |.str x,u=>∃t,u=Value.str x t
 |.byt b,u=>∃t,u=Value.bytes b t
 |.flt b,u=>∃t,u=Value.float b t
 |.ref a,u=>u=Value.ref a
 |.ty n,u=>u=Value.type n
abbrev aY:List V->List Value->Prop:=Paired ba
theorem aY.length (r:aY xs us):xs.length=us.length:=Paired.length r
theorem aY.get:∀ {xs:List V}{us:List Value}{i:Nat}{x:V},aY xs us->xs[i]? = some x->∃u,us[i]? = some u/\ba x u
 |_,_,_,_,.nil,e=>by simp at e
 |_,_,0,_,.cons r _,e=>by simp at e;subst e;exact⟨_,rfl,r⟩
 |_,_,i+1,x,.cons _ t,e=>by
  obtain⟨u,h1,h2⟩:=aY.get (i:=i) (x:=x) t (by simpa using e);exact⟨u,by simpa using h1,h2⟩
theorem aY.set (r:ba x u):∀ {xs:List V}{us:List Value}(i:Nat),aY xs us->aY (xs.set i x) (us.set i u)
 |_,_,_,.nil=>.nil
 |_,_,0,.cons _ t=>.cons r t
 |_,_,i+1,.cons q t=>.cons q (aY.set r i t)
theorem aY.append:∀ {xs ys:List V}{us ws:List Value},aY xs us->aY ys ws->aY (xs++ys) (us++ws)
 |_,_,_,_,.nil,s=>s
 |_,_,_,_,.cons r t,s=>.cons r (aY.append t s)
theorem aY.take:∀ {xs:List V}{us:List Value}(n:Nat),aY xs us->aY (xs.take n) (us.take n)
 |_,_,0,_=>.nil
 |_,_,_+1,.nil=>.nil
 |_,_,n+1,.cons r t=>.cons r (aY.take n t)
theorem aY.drop:∀ {xs:List V}{us:List Value}(n:Nat),aY xs us->aY (xs.drop n) (us.drop n)
 |_,_,0,r=>r
 |_,_,_+1,.nil=>.nil
 |_,_,n+1,.cons _ t=>aY.drop n t
theorem aY.none_of:∀ {xs:List V}{us:List Value}{i:Nat},aY xs us->xs[i]? = none->us[i]? = none:=λ{xs us i} r e=>by
 have h1:=r.length;have h2:xs.length<=i:=List.getElem?_eq_none_iff.mp e;exact List.getElem?_eq_none_iff.mpr (by omega)
def pi:Option V->Option Value->Prop
 |some v,some u=>ba v u
 |none,none=>True
 |_,_=>False
def KV {κ:Type}:List (κ×V)->List (κ×Value)->Prop:=Paired λ(p:κ×V) (q:κ×Value)=>p.1=q.1/\ba p.2 q.2
noncomputable def kV:cx->V
 |.inl i=>.int i
 |.inr x=>.str x
inductive HO where
  |lst (xs:List V)
  |tup (xs:List V)
  |dK (aH:List (cx×V)) (ob:Obj)|dT (aH:List (List cx×V))
  |set (S:Int->Bool) (n:Nat)
  |ins (C dx:Addr) (fs:List (Str×V))
  |own (x:Addr)
  |xd (fs:List (Str×V))
  |met (f x:Addr)
  |rng (lo hi:Int)
  |frz (o:Obj) (u:HO)
  |tbl (q:Str)
  |ext (φ:Heap->Prop)
abbrev Hp:=Addr->Option HO
noncomputable def upd (H:Hp)(a:Addr)(o:HO):Hp:=λb=>if b=a then some o else H b
theorem aC:upd H a o a=some o:=by unfold upd;rw[if_pos rfl]
theorem aI (h:b≠a):upd H a o b=H b:=by unfold upd;rw[if_neg h]
theorem Ic:upd (upd H a o) a u=upd H a u:=by
 funext b;unfold upd;split<;>rfl
theorem P4 {H:Hp}{a b:Addr}{o u:HO}(h:H a=some o)(h':H b=some u)(d:o≠u):a≠b:=by
 intro e;subst e;rw[h]at h';exact d (vK h')
theorem aZ {H:Hp}{a b:Addr}{o:HO}(h:H a=some o)(h':H b=none):a≠b:=by
 intro e;subst e;rw[h]at h';cases h'
section
variable (P:Program) (w:World)
def cm (H:Hp)(h:Heap)(a:Addr):HO->Prop
 |.lst xs=>xs.length<=sizeLine/\∃(its:List Value)(n:Nat),aY xs its/\h.get? a=some { cls:=.type "list",data:=.seq its.toArray n }
 |.tup xs=>xs.length<=sizeLine/\∃its:List Value,aY xs its/\IsTup h a its.toArray
 |.dK aH ob=>h.get? a=some ob/\aH.length<=sizeLine/\(a == sysModules)=false/\∃vs,KV aH vs/\h.DictOf (cq P w) a vs
 |.dT aH=>aH.length<=sizeLine/\(a == sysModules)=false/\∃xs:List (List cx×Addr×Value),
   Paired (λ(p:List cx×V) (q:List cx×Addr×Value)=>p.1=q.1/\H q.2.1=some (.tup (p.1.map kV))/\ba p.2 q.2.2) aH xs /\
   ∃o es ep,h.get? a=some o/\o.ExactDict/\o.data=.dict es ep/\es.toList=xs.map (entryOfKey (tupleKind (cq P w)))/\(xs.map (·.1)).Nodup
 |.set S n=>h.SetOf (intKind P w) a S n
 |.ins C dx fs=>H dx=some (.own a)/\fs.length<=1000/\dx≠a/\h.get? a=some (PySem.W.instObj C dx) /\
   ∃mA,h.Ns1 dx mA/\(∀f,pi (fs.lookup f) (mA f))/\PySem.Within mA (fs.map (·.1))
 |.own _=>∃o,h.get? a=some o
 |.xd fs=>∃mA,h.Ns1 a mA/\∀f,pi (fs.lookup f) (mA f)
 |.rng lo hi=>∃t u v,h.get? a=some { cls:=.type "range",data:=.fields #[.int lo t,.int hi u,.int 1 v] }
 |.frz o u=>h.get? a=some o/\cm H h a u
 |.tbl q=>∃ps:Array Value,h.get? a=some { cls:=.none,data:=.fields ps }/\TriplesOk ps.toList/\∀pos cv,codeAmong pos ps.toList=some cv->∃(c:Addr)(oc:Obj)(u:HO)(vs:Array Value)(t:Tok),cv=.ref c/\H c=some (.frz oc u)/\oc.data=.fields vs/\vs[1]? = some (.str q t)
 |.met f x=>h.get? a=some (PySem.W.methodObj (.ref f) (.ref x))
 |.ext φ=>φ h/\(∃o,h.get? a=some o)/\∀h1 h2:Heap,φ h1->(∀o,h1.get? a=some o->h2.get? a=some o)->φ h2
def lh (H:Hp)(h:Heap):Prop:=∀a o,H a=some o->cm P w H h a o
end
section
variable {P:Program}{w:World}{H H':Hp}{h h':Heap}{a:Addr}{o:HO}
theorem cm.lt (x:cm P w H h a o):a<h.objs.size:=by
 cases o with
 |lst xs=>obtain⟨_,_,_,_,e⟩:=x;exact vX e
 |tup xs=>obtain⟨_,_,_,p⟩:=x;exact p.lt
 |dK aH ob=>exact vX (And.left x)
 |dT aH=>obtain⟨_,_,_,_,o,_,_,e,_⟩:=x;exact vX e
 |set S n=>obtain⟨o,_,_,_,e,_⟩:=x;exact vX e
 |ins C dx fs=>obtain⟨_,_,_,e,_⟩:=x;exact vX e
 |own y=>obtain⟨_,e⟩:=x;exact vX e
 |xd fs=>obtain⟨_,⟨_,_,_,e,_⟩,_⟩:=x;exact vX e
 |rng lo hi=>obtain⟨_,_,_,e⟩:=x;exact vX e
 |frz ob u=>obtain⟨e,_⟩:=x;exact vX e
 |tbl q=>obtain⟨_,e,_⟩:=x;exact vX e
 |met f y=>exact vX (show h.get? a=some _ from x)
 |ext φ=>obtain⟨_,⟨_,e⟩,_⟩:=x;exact vX e
theorem Paired.mapP {α β:Type}{F G:α->β->Prop}:∀ {l₁:List α}{l₂:List β},Paired F l₁ l₂->(∀a b,F a b->G a b)->Paired G l₁ l₂
 |_,_,.nil,_=>.nil
 |_,_,.cons r t,f=>.cons (f _ _ r) (Paired.mapP t f)
theorem cm.stay (x:cm P w H h a o)(k:∀b u,(b=a∨H b=some (.own a))->h.get? b=some u->h'.get? b=some u)
  (ho:∀b,H b=some (.own a)->H' b=some (.own a)) (ht:∀b xs,H b=some (.tup xs)->H' b=some (.tup xs)) (hf:∀b o u,H b=some (.frz o u)->H' b=some (.frz o u)):cm P w H' h' a o:=by
 induction o with
 |lst xs=>obtain⟨z,its,n,r,e⟩:=x;exact⟨z,its,n,r,k _ _ (.inl rfl) e⟩
 |tup xs=>obtain⟨z,its,r,ob,e,c⟩:=x;exact⟨z,its,r,ob,k _ _ (.inl rfl) e,c⟩
 |dK aH VS=>obtain⟨g,z,y,vs,r,ob,es,ep,e,c⟩:=x;exact⟨k _ _ (.inl rfl) g,z,y,vs,r,ob,es,ep,k _ _ (.inl rfl) e,c⟩
 |dT aH=>
  obtain⟨z,y,xs,r,ob,es,ep,e,c⟩:=x;exact⟨z,y,xs,Paired.mapP r λp q z=>⟨z.1,ht _ _ z.2.1,z.2.2⟩,ob,es,ep,k _ _ (.inl rfl) e,c⟩
 |set S n=>obtain⟨ob,es,ep,t,e,c⟩:=x;exact⟨ob,es,ep,t,k _ _ (.inl rfl) e,c⟩
 |ins C dx fs=>
  obtain⟨d,z,ne,e,mA,⟨od,es,ep,e2,c⟩,r⟩:=x;exact⟨ho _ d,z,ne,k _ _ (.inl rfl) e,mA,⟨od,es,ep,k _ _ (.inr d) e2,c⟩,r⟩
 |own y=>obtain⟨ob,e⟩:=x;exact⟨ob,k _ _ (.inl rfl) e⟩
 |xd fs=>obtain⟨mA,⟨od,es,ep,e,c⟩,r⟩:=x;exact⟨mA,⟨od,es,ep,k _ _ (.inl rfl) e,c⟩,r⟩
 |rng lo hi=>obtain⟨t,u,v,e⟩:=x;exact⟨t,u,v,k _ _ (.inl rfl) e⟩
 |frz ob u ih=>obtain⟨e,q⟩:=x;exact⟨k _ _ (.inl rfl) e,ih q⟩
 |tbl q=>obtain⟨ps,e,t,c⟩:=x;exact⟨ps,k a _ (.inl rfl) e,t,λpos cv z=>let ⟨d,oc,u,vs,tk,z1,z2,z3⟩:=c pos cv z;⟨d,oc,u,vs,tk,z1,hf _ _ _ z2,z3⟩⟩
 |met f y=>
  have e:h.get? a=some (PySem.W.methodObj (.ref f) (.ref y)):=x;show h'.get? a=some (PySem.W.methodObj (.ref f) (.ref y));exact k a _ (.inl rfl) e
 |ext φ=>obtain⟨p,⟨o,e⟩,st⟩:=x;exact⟨st _ _ p λo q=>k _ _ (.inl rfl) q,⟨o,k _ _ (.inl rfl) e⟩,st⟩
theorem lh.lt (x:lh P w H h)(e:H a=some o):a<h.objs.size:=(x a o e).lt
theorem lh.fresh (x:lh P w H h)(e:h.objs.size<=a):H a=none:=by
 cases q:H a with
 |none=>rfl
 |some u=>exact absurd (vQ (x.lt q) e) (Nat.lt_irrefl _)
theorem lh.kept (x:lh P w H h)(k:∀b u,h.get? b=some u->h'.get? b=some u):lh P w H h':=λa o e=>
 (x a o e).stay (λb u _ q=>k b u q) (λ_ q=>q) (λ_ _ q=>q) λ_ _ _ q=>q
theorem lh.laid (x:lh P w H h)(k:∀b u,h.get? b=some u->h'.get? b=some u)(hp:h.objs.size<=a)(new:cm P w (upd H a o) h' a o):lh P w (upd H a o) h':=λb u e=>by
 have hn:=x.fresh hp;by_cases hb:b=a
 ·subst hb;rw[aC]at e;cases e;exact new
 ·rw[aI hb]at e;exact(x b u e).stay (λc v _ q=>k c v q) (λc q=>by rw[aI (aZ q hn)];exact q) (λc xs q=>by rw[aI (aZ q hn)];exact q) λc o xs q=>by rw[aI (aZ q hn)];exact q
end
def Rd (H:Hp)(a:Addr)(u:HO):Prop:=H a=some u∨∃o,H a=some (.frz o u)
theorem Rd.of (h:H a=some u):Rd H a u:=.inl h
theorem Rd.ok (r:Rd H a u)(x:lh P w H h):cm P w H h a u:=by
 rcases r with r|⟨o,r⟩
 ·exact x a u r
 ·obtain⟨_,q⟩:=x a _ r;exact q
def P5:Option HO->Prop
 |some (.lst _)=>True
 |some (.dK _ _)=>True
 |some (.dT _)=>True
 |some (.set _ _)=>True
 |some (.ins _ _ _)=>True
 |some (.ext _)=>True
 |_=>False
section
variable {P:Program}{w:World}{H:Hp}{h h':Heap}{x e:Addr}{o':HO}
theorem lh.write (ok:lh P w H h)(mu:P5 (H x))(he:e=x∨H e=some (.own x))(k:∀b u,b≠e->h.get? b=some u->h'.get? b=some u)(Pd:∃u,h'.get? e=some u)
  (new:cm P w (upd H x o') h' x o'):lh P w (upd H x o') h':=λb u q=>by
 have Rc:∀c y,H c=some (.own y)->c≠x:=λc y r z=>by subst z;rw[r]at mu;exact mu
 have TX:∀c xs,H c=some (.tup xs)->c≠x:=λc xs r z=>by subst z;rw[r]at mu;exact mu
 by_cases hb:b=x
 ·subst hb;rw[aC]at q;cases q;exact new
 ·rw[aI hb]at q;by_cases hbe:b=e
  ·have q':H b=some (.own x):=by
    rcases he with z|z
    ·exact absurd (hbe.trans z) hb
    ·rw[hbe];exact z
   rw[q]at q';cases q';obtain⟨v,hv⟩:=Pd;exact⟨v,by rw[hbe];exact hv⟩
  ·refine(ok b u q).stay (λc v hc r=>k c v ?_ r) (λc r=>by rw[aI (Rc c b r)];exact r) (λc xs r=>by rw[aI (TX c xs r)];exact r) λc o xs r=>by rw[aI (λz=>by subst z;rw[r]at mu;exact mu)];exact r
   rcases hc with rfl|hc
   ·exact hbe
   ·rintro rfl;rcases he with z|z
    ·exact Rc c b hc z
    ·rw[hc]at z;cases z;exact hb rfl
end
structure Un (fs ex:List Addr)(H H':Hp)(h h':Heap):Prop where
 keep:∀b o,h.get? b=some o->H b=none->b∉fs->b∉ex->h'.get? b=some o
 slot:∀b o,h.get? b=some o->H b=none->b∈fs->b∉ex->∃sl,h'.get? b=some { o with slots:=sl }
 free:∀b o,h.get? b=some o->H b=none->b∉ex->H' b=none
 there:∀b o,h.get? b=some o->b∉ex->∃o',h'.get? b=some o'
 tups:∀b xs,H b=some (.tup xs)->H' b=some (.tup xs)
 frzs:∀b o u,H b=some (.frz o u)->H' b=some (.frz o u)
 tbls:∀b q,H b=some (.tbl q)->H' b=some (.tbl q)
section
variable {fs XW ex ZZ:List Addr}{H H1 H2:Hp}{h h1 h2 h':Heap}{a x e:Addr}{o:HO}
theorem Un.any (u:Un fs ex H H1 h h1)(q:h.get? b=some ob)(n:H b=none)(hx:b∉ex):∃sl,h1.get? b=some { ob with slots:=sl }:=by
 by_cases hb:b∈fs
 ·exact u.slot b ob q n hb hx
 ·exact⟨ob.slots,u.keep b ob q n hb hx⟩
theorem Un.trans (a:Un fs ex H H1 h h1)(b:Un fs ex H1 H2 h1 h2):Un fs ex H H2 h h2 where
 keep:=λc ob q n hc hx=>b.keep c ob (a.keep c ob q n hc hx) (a.free c ob q n hx) hc hx
 slot:=λc ob q n hc hx=>by
  obtain⟨sl,e1⟩:=a.slot c ob q n hc hx;obtain⟨TY,e2⟩:=b.slot c _ e1 (a.free c ob q n hx) hc hx;exact⟨TY,e2⟩
 free:=λc ob q n hx=>by
  obtain⟨o',e1⟩:=a.there c ob q hx;exact b.free c o' e1 (a.free c ob q n hx) hx
 there:=λc ob q hx=>by
  obtain⟨o',e1⟩:=a.there c ob q hx;exact b.there c o' e1 hx
 tups:=λc xs q=>b.tups c xs (a.tups c xs q)
 frzs:=λc ob xs q=>b.frzs c ob xs (a.frzs c ob xs q)
 tbls:=λc ps q=>b.tbls c ps (a.tbls c ps q)
theorem Un.kept (k:∀b u,h.get? b=some u->h'.get? b=some u):Un fs ex H H h h' :=
 ⟨λb ob q _ _ _=>k b ob q,λb ob q _ _ _=>⟨ob.slots,k b ob q⟩,λ_ _ _ n _=>n,λb ob q _=>⟨ob,k b ob q⟩,λ_ _ q=>q,λ_ _ _ q=>q,λ_ _ q=>q⟩
theorem Un.refl:Un fs ex H H h h:=Un.kept λ_ _ q=>q
theorem Un.laid (k:∀b u,h.get? b=some u->h'.get? b=some u)(hp:h.objs.size<=a)(hn:H a=none):Un fs ex H (upd H a o) h h' where
 keep:=λb u q _ _ _=>k b u q
 slot:=λb u q _ _ _=>⟨u.slots,k b u q⟩
 free:=λb u q n _=>by rw[aI (vS (vQ (vX q) hp))];exact n
 there:=λb u q _=>⟨u,k b u q⟩
 tups:=λb xs q=>by rw[aI (aZ q hn)];exact q
 frzs:=λb u xs q=>by rw[aI (aZ q hn)];exact q
 tbls:=λb ps q=>by rw[aI (aZ q hn)];exact q
theorem Un.write (mu:P5 (H x))(he:e=x∨H e=some (.own x))(k:∀b u,b≠e->h.get? b=some u->h'.get? b=some u)(Pd:∃u,h'.get? e=some u):Un fs ex H (upd H x o) h h':=by
 have hx:∀b,H b=none->b≠x:=λb n z=>by subst z;rw[n]at mu;exact mu
 have hb:∀b,H b=none->b≠e:=λb n z=>by
  subst z;rcases he with r|r
  ·exact hx b n r
  ·rw[n]at r;cases r
 have hm:∀b u,H b=some u->¬P5 (some u)->b≠x:=λb u q nm z=>by subst z;rw[q]at mu;exact nm mu
 refine⟨λb u q n _ _=>k b u (hb b n) q,λb u q n _ _=>⟨u.slots,k b u (hb b n) q⟩,λb u q n _=>by rw[aI (hx b n)];exact n,λb u q _=>?_,
  λb xs q=>by rw[aI (hm b _ q λz=>z)];exact q,λb u xs q=>by rw[aI (hm b _ q λz=>z)];exact q,λb ps q=>by rw[aI (hm b _ q λz=>z)];exact q⟩
 by_cases hbe:b=e
 ·subst hbe;exact Pd
 ·exact⟨u,k b u hbe q⟩
end
noncomputable def Se (h:Heap)(H:Hp):List Addr:=(List.range h.objs.size).filter λa=>(H a).isSome
def xC (h:Heap)(H:Hp):Heap:=PySem.W.hideAll h (Se h H)
theorem Dm (h:Heap)(H:Hp):(xC h H).objs.size=h.objs.size:=PySem.W.hideAll_size _ _
theorem pM (e:h.get? b=some o)(n:H b=none):(xC h H).get? b=some o :=
 PySem.W.hideAll_get _ e λhm=>by
  have q:(H b).isSome=true:=(vN hm).2;rw[n]at q;simp at q
theorem Ie (e:(xC h H).get? b=some o):h.get? b=some o/\H b=none:=by
 have e':h.get? b=some o:=PySem.W.of_hideAll (Se h H) e;refine⟨e',?_⟩;cases q:H b with
 |none=>rfl
 |some x=>
  have hm:b∈Se h H:=List.mem_filter.mpr ⟨List.mem_range.mpr (vX e'),by simp[q]⟩;have z:(xC h H).get? b=none:=PySem.W.hideAll_none (Se h H) hm;rw[z]at e;cases e
noncomputable def Ig (g h:Heap)(L:Addr):List (Addr×Obj):=(List.range h.objs.size).filterMap λa=>if a=L∨(g.get? a).isSome=true then none else (h.get? a).map λo=>(a,o)
def aD (g h:Heap)(L d:Addr):List (Addr×Obj):=(Ig g h L).filter λp=>decide (p.1≠d)
structure Mod (K:Frag)(mg:Str->Option Value)(base:Heap):Prop where
 kin:K.In base
 glob:base.Ns mainGlobals mg
 blt:∃mb,base.Ns builtinsNs mb/\∀x:Str,x ≠ "__name__"->mb x=bootBuiltins x
 nolimit:base.NoLimit
 bmain:∃bm ob,mg "__builtins__" = some (.ref bm)/\bm≠builtinsNs/\base.get? bm=some ob/\ob.cls=.type "module"/\ob.dict=some builtinsNs/\ob.data=.plain
structure Cx where
 prog:Program
 w:World
 K:Frag
 mg:Str->Option Value
 base:Heap
 A:Around
 N:List Str
 s₀:Shared
 H₀:Hp
 env:Env
 outer:List Env
 stack:List Env
 ex:List Addr
 fn:Str->Bool
 calm:Bool
 pn:List (Addr×Obj)
 xe:Value->Shared->Prop
noncomputable def EI (l:List Env):List Addr:=l.filterMap (·.frame)
abbrev Cx.fs (X:Cx):List Addr:=EI X.outer
def ET (sc:Scope)(x:Str):Prop:=sc.names.lookup x=some .local∨sc.names.lookup x=some .cell∨sc.names.lookup x=some .free
def HN (sc:Scope)(x:Str):Prop:=sc.names.lookup x=some .local∨sc.names.lookup x=some .cell
def SU (env:Env)(h:Heap)(m:Str->Option Value)(x:Str)(u:Value):Prop :=
 (env.kindOf x=some .local/\m x=some u)∨((env.kindOf x=some .cell∨env.kindOf x=some .free)/\∃c,env.cells.lookup x=some c/\h.IsCell c (some u))
abbrev wq {α:Type}(X:Cx):Sem α->(α->Shared->Prop)->(Value->Shared->Prop)->Shared->Prop:=wpAny (model X.prog X.w) X.A
structure Cx.Ok (X:Cx):Prop where
 mod:Mod X.K X.mg X.base
 kind:X.env.scope.kind=.function
 glob:X.env.globals=mainGlobals
 blt:X.env.builtins=builtinsNs
 above:X.s₀.heap.objs.size<=X.env.locals
 inj:∀x y c,X.env.cells.lookup x=some c->X.env.cells.lookup y=some c->x=y
 has:∀x,(X.env.kindOf x=some .cell∨X.env.kindOf x=some .free)->∃c,X.env.cells.lookup x=some c
 cab:∀x c,X.fn x=true->X.env.cells.lookup x=some c->X.s₀.heap.objs.size<=c
 hd:X.calm=true->X.A.handled=none
 frames:X.A.frames=some X.stack
 stk:X.stack=X.outer∨(X.stack=X.env::X.outer/\X.env.frame=some X.env.locals)
 exf:∀b∈X.ex,b≠X.env.locals/\∀x c,X.env.cells.lookup x=some c->c≠b
 bs:∀b o,X.base.get? b=some o->X.s₀.heap.get? b=some o/\X.H₀ b=none
 bsz:X.base.objs.size<=X.s₀.heap.objs.size
 noex:∀b o,X.base.get? b=some o->b∉X.ex
 exfs:∀b∈X.ex,b∉X.fs
 funs:X.s₀.heap.FunFrames X.base X.outer
 frf:∀b∈X.fs,X.H₀ b=none
structure Inv (X:Cx)(ae:List (Addr×Obj))(σ:List (Option V))(H:Hp)(s:Shared):Prop where
 ok:X.Ok
 os:s.os=X.s₀.os
 bare:AllBare s.gens
 base:Un X.fs X.ex X.H₀ H X.s₀.heap s.heap
 loc:∃m,s.heap.Ns X.env.locals m/\∀(i:Nat)(x:Str)(v:V),X.N[i]? = some x->σ[i]? = some (some v)->ET X.env.scope x->∃u,ba v u/\SU X.env s.heap m x u
 cell:∀x c,X.env.cells.lookup x=some c->∃v,s.heap.IsCell c v
 free:H X.env.locals=none
 freeC:∀x c,X.env.cells.lookup x=some c->H c=none
 pin:∀p∈X.pn++ae,s.heap.get? p.1=some p.2/\H p.1=none/\p.1≠X.env.locals/\p.1∉X.fs/\∀v,p.2.data≠.cell v
 hok:lh X.prog X.w H s.heap
 len:σ.length=X.N.length
section
variable {X:Cx}{ae:List (Addr×Obj)}{σ:List (Option V)}{H H':Hp}{s:Shared}{h':Heap}
theorem Cx.Ok.nofr (ok:X.Ok)(e:X.base.get? b=some o):b∉X.fs:=λhb=>by
 have:=(ok.funs.mem hb).1;rw[e]at this;cases this
theorem Inv.bs (I:Inv X ae σ H s):∀b o,X.base.get? b=some o->s.heap.get? b=some o/\H b=none:=λb o e=>
 ⟨I.base.keep b o (I.ok.bs b o e).1 (I.ok.bs b o e).2 (I.ok.nofr e) (I.ok.noex b o e),I.base.free b o (I.ok.bs b o e).1 (I.ok.bs b o e).2 (I.ok.noex b o e)⟩
theorem Inv.bk (I:Inv X ae σ H s):∀b o,X.base.get? b=some o->s.heap.get? b=some o:=λb o e=>(I.bs b o e).1
theorem Inv.mod (I:Inv X ae σ H s):Mod X.K X.mg X.base:=I.ok.mod
theorem Inv.kIn (I:Inv X ae σ H s):X.K.In s.heap:=I.ok.mod.kin.keeps I.bk
theorem Inv.nolimit (I:Inv X ae σ H s):s.heap.NoLimit:=I.ok.mod.nolimit.keeps I.bk
theorem Inv.lt (I:Inv X ae σ H s):X.env.locals<s.heap.objs.size:=let ⟨_,hn,_⟩:=I.loc;hn.lt
theorem Inv.sz (I:Inv X ae σ H s):X.s₀.heap.objs.size<=s.heap.objs.size:=vR I.ok.above (Nat.le_of_lt I.lt)
theorem Inv.nofs (I:Inv X ae σ H s)(h:s.heap.objs.size<=a):a∉X.fs:=λhb=>by
 obtain⟨_,o,ho,_⟩:=I.ok.funs.mem hb;exact absurd (vQ (vX ho) (vR I.sz h)) (Nat.lt_irrefl _)
theorem Inv.cne (I:Inv X ae σ H s):∀x c,X.env.cells.lookup x=some c->c≠X.env.locals:=λx c e z=>by
 obtain⟨v,o,ho,hd⟩:=I.cell x c e;obtain⟨m,⟨o',es,ep,t6,B3,_⟩,_⟩:=I.loc;rw[z,t6]at ho;cases ho;rw[B3]at hd;cases hd
theorem Inv.funs (I:Inv X ae σ H s):s.heap.FunFrames X.base X.outer:=by
 have all:∀(l:List Env),(∀b∈EI l,b∈X.fs)->X.s₀.heap.FunFrames X.base l->s.heap.FunFrames X.base l:=by
  intro l;induction l with
  |nil=>intro _ _;trivial
  |cons env r ih=>
   intro hs hl;obtain⟨hk,⟨L,o,hf,hn,ho,hd⟩,hr⟩:=hl;have hL:L∈X.fs:=hs L (by unfold EI;rw[List.filterMap_cons,hf];exact mX);obtain⟨sl,e⟩:=I.base.slot L o ho (I.ok.frf L hL) hL λz=>I.ok.exfs L z hL;exact⟨hk,⟨L,_,hf,hn,e,hd⟩,ih (λb hb=>hs b (by unfold EI;rw[List.filterMap_cons,hf];exact mZ _ hb)) hr⟩
 exact all X.outer (λ_ hb=>hb) I.ok.funs
theorem Inv.stack (I:Inv X ae σ H s):s.heap.FunFrames X.base X.stack:=by
 rcases I.ok.stk with e|⟨e,hf⟩
 ·rw[e];exact I.funs
 ·rw[e];obtain⟨m,hn,_⟩:=I.loc;refine .cons (by rw[I.ok.kind];decide) hf hn ?_ I.funs;exact Heap.get?_none_of_le (vR I.ok.bsz I.ok.above)
theorem Inv.stkSub (I:Inv X ae σ H s):∀b∈EI X.stack,b∈X.env.locals::X.fs:=λb hb=>by
 rcases I.ok.stk with e|⟨e,hf⟩
 ·rw[e]at hb;exact mZ _ hb
 ·rw[e]at hb;unfold EI at hb;rw[List.filterMap_cons,hf]at hb;exact hb
theorem Inv.stkFree (I:Inv X ae σ H s):∀b∈EI X.stack,H b=none:=λb hb=>by
 rcases vP (I.stkSub b hb)with e|hb
 ·rw[e];exact I.free
 ·obtain⟨_,o,ho,_⟩:=I.ok.funs.mem hb;exact I.base.free b o ho (I.ok.frf b hb) λz=>I.ok.exfs b z hb
theorem Inv.step {g':Array GenState}{t':Nat}{d':Drawn}{ch:List Addr}(I:Inv X ae σ H s)
  (p6:∀b∈ch,(b∈X.ex∨X.s₀.heap.objs.size<=b)/\b≠X.env.locals/\(∀x c,X.env.cells.lookup x=some c->c≠b)/\∀p∈X.pn++ae,p.1≠b)
  (keep:∀b o,b≠X.env.locals->b∉X.fs->b∉ch->s.heap.get? b=some o->H b=none->h'.get? b=some o)
  (slot:∀b o,b≠X.env.locals->b∈X.fs->b∉ch->s.heap.get? b=some o->H b=none->∃sl,h'.get? b=some { o with slots:=sl }) (free:∀b o,b∉ch->s.heap.get? b=some o->H b=none->H' b=none)
  (there:∀b o,b∉ch->s.heap.get? b=some o->∃o',h'.get? b=some o')
  (tups:∀b xs,H b=some (.tup xs)->H' b=some (.tup xs)) (frzs:∀b o u,H b=some (.frz o u)->H' b=some (.frz o u)) (tbls:∀b q,H b=some (.tbl q)->H' b=some (.tbl q))
  (ns:∀m,s.heap.Ns X.env.locals m->h'.Ns X.env.locals m) (hok:lh X.prog X.w H' h') (hg:AllBare g'):
  Inv X ae σ H' { s with heap:=h',gens:=g',drawn:=d',toks:=t' }:=by
 have VT:∀b o,X.s₀.heap.get? b=some o->b≠X.env.locals:=λb o e=>vS (vQ (vX e) I.ok.above);have Pe:∀b o,X.s₀.heap.get? b=some o->b∉X.ex->b∉ch:=λb o e hx hb=>by
  rcases (p6 b hb).1 with z|z
  ·exact hx z
  ·exact absurd (vQ (vX e) z) (Nat.lt_irrefl _)
 have LQ:∀x c,X.env.cells.lookup x=some c->∀v,s.heap.IsCell c v->h'.IsCell c v:=λx c e v ⟨o,ho,hd⟩=>by
  have Re:c∉ch:=λz=>(p6 c z).2.2.1 x c e rfl;by_cases hc:c∈X.fs
  ·obtain⟨sl,q⟩:=slot c o (I.cne x c e) hc Re ho (I.freeC x c e);exact⟨_,q,hd⟩
  ·exact⟨o,keep c o (I.cne x c e) hc Re ho (I.freeC x c e),hd⟩
 refine⟨I.ok,I.os,hg,⟨λb o e n hb hx=>?_,λb o e n hb hx=>?_,λb o e n hx=>?_,λb o e hx=>?_,λb xs e=>tups b xs (I.base.tups b xs e),λb o xs e=>frzs b o xs (I.base.frzs b o xs e),λb ps e=>?_⟩,?_,λx c e=>?_,?_,λx c e=>?_,λp hp=>?_,hok,I.len⟩
 ·exact keep b o (VT b o e) hb (Pe b o e hx) (I.base.keep b o e n hb hx) (I.base.free b o e n hx)
 ·obtain⟨sl,e1⟩:=I.base.slot b o e n hb hx;obtain⟨TY,e2⟩:=slot b _ (VT b o e) hb (Pe b o e hx) e1 (I.base.free b o e n hx);exact⟨TY,e2⟩
 ·obtain⟨o',e1⟩:=I.base.there b o e hx;exact free b o' (Pe b o e hx) e1 (I.base.free b o e n hx)
 ·obtain⟨o',e1⟩:=I.base.there b o e hx;exact there b o' (Pe b o e hx) e1
 ·exact tbls b _ (I.base.tbls b ps e)
 ·obtain⟨m,hn,hl⟩:=I.loc;refine⟨m,ns m hn,λi x v e1 e2 e3=>?_⟩;obtain⟨u,r,l⟩:=hl i x v e1 e2 e3;refine⟨u,r,?_⟩;rcases l with l|⟨k,c,e,z⟩
  ·exact .inl l
  ·exact .inr ⟨k,c,e,LQ x c e _ z⟩
 ·obtain⟨v,z⟩:=I.cell x c e;exact⟨v,LQ x c e v z⟩
 ·obtain⟨m,⟨o,_,_,ho,_⟩,_⟩:=I.loc;exact free _ o (λz=>(p6 _ z).2.1 rfl) ho I.free
 ·obtain⟨v,o,ho,hd⟩:=I.cell x c e;exact free c o (λz=>(p6 c z).2.2.1 x c e rfl) ho (I.freeC x c e)
 ·obtain⟨e,n,ne,nf,d⟩:=I.pin p hp;have Re:p.1∉ch:=λz=>(p6 p.1 z).2.2.2 p hp rfl;exact⟨keep p.1 p.2 ne nf Re e n,free p.1 p.2 Re e n,ne,nf,d⟩
theorem Inv.un {t':Nat}(I:Inv X ae σ H s)(u:Un X.fs [] H H' s.heap h')(hok:lh X.prog X.w H' h'):Inv X ae σ H' { s with heap:=h',toks:=t' }:=by
 obtain⟨m,⟨o,es,ep,ho,r⟩,_⟩:=id I.loc;obtain⟨sl,hL⟩:=u.any ho I.free (by simp);exact I.step (g':=s.gens) (d':=s.drawn) (ch:=[]) (λ_ z=>nomatch z) (λb o _ hb _ e n=>u.keep b o e n hb (by simp)) (λb o _ hb _ e n=>u.slot b o e n hb (by simp)) (λb o _ e n=>u.free b o e n (by simp)) (λb o _ e=>u.there b o e (by simp)) u.tups u.frzs u.tbls (λm' hm=>by
  obtain⟨o',EM,Pf,t6,r'⟩:=hm;rw[ho]at t6;cases t6;exact⟨_,EM,Pf,hL,r'⟩) hok I.bare
theorem Inv.call {g':Array GenState}{t':Nat}{d':Drawn}{ch:List Addr}(I:Inv X ae σ H s)(u:Un (EI X.stack) ch H H' s.heap h')(hok:lh X.prog X.w H' h')(hg:AllBare g')
  (p6:∀b∈ch,(b∈X.ex∨X.s₀.heap.objs.size<=b)/\b≠X.env.locals/\(∀x c,X.env.cells.lookup x=some c->c≠b)/\∀p∈X.pn++ae,p.1≠b):
  Inv X ae σ H' { s with heap:=h',gens:=g',drawn:=d',toks:=t' }:=by
 obtain⟨m,⟨o,es,ep,ho,r⟩,_⟩:=id I.loc;obtain⟨sl,hL⟩:=u.any ho I.free λz=>(p6 _ z).2.1 rfl;exact I.step (ch:=ch) p6 (λb o hL hb hc e n=>u.keep b o e n (λz=>(vP (I.stkSub b z)).elim hL hb) hc) (λb o _ _ hc e n=>u.any e n hc) (λb o hc e n=>u.free b o e n hc) (λb o hc e=>u.there b o e hc) u.tups u.frzs u.tbls (λm' hm=>by
  obtain⟨o',EM,Pf,t6,r'⟩:=hm;rw[ho]at t6;cases t6;exact⟨_,EM,Pf,hL,r'⟩) hok hg
theorem Inv.turned {t':Nat}{it:Addr}(I:Inv X ae σ H s)(k:∀b o,b≠it->s.heap.get? b=some o->h'.get? b=some o)(hn:H it=none)(hL:it≠X.env.locals)
  (h1:it∈X.ex∨X.s₀.heap.objs.size<=it) (h2:∀x c,X.env.cells.lookup x=some c->c≠it) (h3:∀p∈X.pn++ae,p.1≠it):Inv X ae σ H { s with heap:=h',toks:=t' }:=by
 have LR:∀b u,H b=some u->b≠it:=λb u e z=>by rw[z,hn]at e;cases e
 refine I.step (g':=s.gens) (d':=s.drawn) (ch:=[it]) (λb hb=>?_) (λb o _ _ hc e _=>k b o (λz=>hc (by simp[z])) e) (λb o _ _ hc e _=>⟨o.slots,k b o (λz=>hc (by simp[z])) e⟩) (λ_ _ _ _ n=>n)
  (λb o hc e=>⟨o,k b o (λz=>hc (by simp[z])) e⟩) (λ_ _ e=>e) (λ_ _ _ e=>e) (λ_ _ e=>e) (λm hm=>?_) (λb u e=>?_) I.bare
 ·have e:b=it:=by simpa using hb
  subst e;exact⟨h1,hL,h2,h3⟩
 ·obtain⟨o,es,ep,ho,r⟩:=hm;exact⟨o,es,ep,k _ o (Ne.symm hL) ho,r⟩
 ·refine(I.hok b u e).stay (λc v hc q=>k c v ?_ q) (λ_ q=>q) (λ_ _ q=>q) λ_ _ _ q=>q;rcases hc with z|z
  ·rw[z];exact LR b u e
  ·exact LR c _ z
theorem Inv.tok (I:Inv X ae σ H s)(t:Nat):Inv X ae σ H { s with toks:=t }:=I.un (h':=s.heap) (t':=t) Un.refl I.hok
theorem Inv.kept (I:Inv X ae σ H s)(k:∀b u,s.heap.get? b=some u->h'.get? b=some u):Inv X ae σ H { s with heap:=h',toks:=t' }:=I.un (Un.kept k) (I.hok.kept k)
theorem Inv.laid (I:Inv X ae σ H s)(k:∀b u,s.heap.get? b=some u->h'.get? b=some u)(hp:s.heap.objs.size<=a)(new:cm X.prog X.w (upd H a o) h' a o):
  Inv X ae σ (upd H a o) { s with heap:=h',toks:=t' }:=I.un (Un.laid k hp (I.hok.fresh hp)) (I.hok.laid k hp new)
theorem Inv.write (I:Inv X ae σ H s)(mu:P5 (H x))(he:e=x∨H e=some (.own x))(k:∀b u,b≠e->s.heap.get? b=some u->h'.get? b=some u)(Pd:∃u,h'.get? e=some u)
  (new:cm X.prog X.w (upd H x o) h' x o):Inv X ae σ (upd H x o) { s with heap:=h',toks:=t' }:=I.un (Un.write mu he k Pd) (I.hok.write mu he k Pd new)
theorem Inv.pins_of (I:Inv X ae σ H s)(h:∀p∈Hu,s.heap.get? p.1=some p.2/\H p.1=none/\p.1≠X.env.locals/\p.1∉X.fs/\∀v,p.2.data≠.cell v):Inv X Hu σ H s :=
 ⟨I.ok,I.os,I.bare,I.base,I.loc,I.cell,I.free,I.freeC,λp hp=>(List.mem_append.mp hp).elim (λz=>I.pin p (List.mem_append_left _ z)) (h p),I.hok,I.len⟩
theorem xD {N:List Str}(hN:N.Nodup){i j:Nat}{x:Str}(a:N[i]? = some x)(b:N[j]? = some x):i=j:=by
 obtain⟨h1,e1⟩:=vV a;obtain⟨h2,e2⟩:=vV b;exact(List.getElem_inj hN).mp (e1.trans e2.symm)
theorem tG {M:Model}{A:Around}{E:Value->Shared->Prop}{i:Nat}{x:Str}{v:V}{u:Value}{Q:Unit->Shared->Prop}(I:Inv X ae σ H s)(hN:X.N.Nodup)(hi:X.N[i]? = some x)(hx:HN X.env.scope x)(r:ba v u)
  (h:∀s',Inv X ae (σ.set i (some v)) H s'->(∃a,Heap.SameBut a s.heap s'.heap/\(a=X.env.locals∨X.env.cells.lookup x=some a))->Q () s') (hf:X.fn x=true∨X.env.scope.names.lookup x=some .local:=by first|exact .inl rfl|exact .inr rfl|assumption):wpAny M A (storeName X.env x u) Q E s:=by
 obtain⟨m,hn,hl⟩:=id I.loc;have TZ:(X.env.scope.kind == .class || (X.env.scope.kind == .module && X.env.locals != X.env.globals))=false:=by rw[I.ok.kind];rfl
 have E5:i<σ.length:=by rw[I.len];exact(vV hi).1
 have cne:=I.cne;have Dc:∀ {a:Addr}{h':Heap},(∃o,s.heap.get? a=some o/\H a=none)->Heap.SameBut a s.heap h'->lh X.prog X.w H h':=λ{a h'} ha hs b ob e=>by
  obtain⟨_,_,LS⟩:=ha;refine(I.hok b ob e).stay (λc w' hc q=>(hs.2 c ?_).trans q) (λ_ q=>q) (λ_ _ q=>q) λ_ _ _ q=>q;rintro rfl;rcases hc with rfl|hc
  ·rw[LS]at e;cases e
  ·rw[LS]at hc;cases hc
 rcases hx with hk|hk
 ·refine wpAny_storeName_local hk hn (λh' Rf hs=>?_) TZ;obtain⟨oL,_,_,EN,_⟩:=id hn;refine h _ ⟨I.ok,I.os,I.bare,⟨λb o e n hb hx=>?_,λb o e n hb hx=>?_,I.base.free,λb o e hx=>?_,I.base.tups,I.base.frzs,I.base.tbls⟩,⟨_,Rf,λj y v' e1 e2 e3=>?_⟩,λy c e=>?_,I.free,I.freeC,λp hp=>?_,Dc ⟨oL,EN,I.free⟩ hs,by simpa using I.len⟩ ⟨_,hs,.inl rfl⟩
  ·exact(hs.2 b (vS (vQ (vX e) I.ok.above))).trans (I.base.keep b o e n hb hx)
  ·obtain⟨sl,e1⟩:=I.base.slot b o e n hb hx;exact⟨sl,(hs.2 b (vS (vQ (vX e) I.ok.above))).trans e1⟩
  ·obtain⟨o',e1⟩:=I.base.there b o e hx;exact⟨o',(hs.2 b (vS (vQ (vX e) I.ok.above))).trans e1⟩
  ·by_cases hj:j=i
   ·subst hj;rw[hi]at e1;cases e1;rw[List.getElem?_set_self E5]at e2;cases e2
    exact⟨u,r,.inl ⟨hk,by simp⟩⟩
   ·rw[vB (Ne.symm hj)]at e2;obtain⟨u',r',q⟩:=hl j y v' e1 e2 e3;refine⟨u',r',?_⟩;rcases q with⟨k,e⟩|⟨k,c,e,z⟩
    ·refine .inl ⟨k,?_⟩;have:y≠x:=λe=>hj (xD hN e1 (e ▸ hi));simp[this,e]
    ·exact .inr ⟨k,c,e,z.sameBut hs (cne y c e)⟩
  ·obtain⟨w',z⟩:=I.cell y c e;exact⟨w',z.sameBut hs (cne y c e)⟩
  ·obtain⟨e,n,ne,nf,d⟩:=I.pin p hp;exact⟨(hs.2 p.1 ne).trans e,n,ne,nf,d⟩
 ·have Pg:X.fn x=true:=by
   rcases hf with z|z
   ·exact z
   ·rw[z]at hk;cases hk
  obtain⟨c,hc⟩:=I.ok.has x (.inl hk);obtain⟨w',z⟩:=I.cell x c hc;refine wpAny_storeName_cell I.ok.kind hk hc z (λh' Ky hs=>?_);obtain⟨oc,Kz,Ua⟩:=id z;refine h { s with heap:=h' } ⟨I.ok,I.os,I.bare,⟨λb o e n hb hx=>?_,λb o e n hb hx=>?_,I.base.free,λb o e hx=>?_,I.base.tups,I.base.frzs,I.base.tbls⟩,⟨m,hn.sameBut hs (Ne.symm (cne x c hc)),λj y v' e1 e2 e3=>?_⟩,λy c' e=>?_,I.free,I.freeC,λp hp=>?_,Dc ⟨oc,Kz,I.freeC x c hc⟩ hs,by simpa using I.len⟩ ⟨c,hs,.inr hc⟩
  ·exact(hs.2 b (vS (vQ (vX e) (I.ok.cab x c Pg hc)))).trans (I.base.keep b o e n hb hx)
  ·obtain⟨sl,e1⟩:=I.base.slot b o e n hb hx;exact⟨sl,(hs.2 b (vS (vQ (vX e) (I.ok.cab x c Pg hc)))).trans e1⟩
  ·obtain⟨o',e1⟩:=I.base.there b o e hx;exact⟨o',(hs.2 b (vS (vQ (vX e) (I.ok.cab x c Pg hc)))).trans e1⟩
  ·by_cases hj:j=i
   ·subst hj;rw[hi]at e1;cases e1;rw[List.getElem?_set_self E5]at e2;cases e2
    exact⟨u,r,.inr ⟨.inl hk,c,hc,Ky⟩⟩
   ·rw[vB (Ne.symm hj)]at e2;obtain⟨u',r',q⟩:=hl j y v' e1 e2 e3;refine⟨u',r',?_⟩;rcases q with q|⟨k,c',e,z'⟩
    ·exact .inl q
    ·refine .inr ⟨k,c',e,z'.sameBut hs ?_⟩;rintro rfl;exact hj (xD hN e1 (I.ok.inj _ _ _ e hc ▸ hi))
  ·by_cases hcc:c'=c
   ·subst hcc;exact⟨_,Ky⟩
   ·obtain⟨w2,z2⟩:=I.cell y c' e;exact⟨w2,z2.sameBut hs hcc⟩
  ·obtain⟨e,n,ne,nf,d⟩:=I.pin p hp;refine⟨(hs.2 p.1 ?_).trans e,n,ne,nf,d⟩;intro q;rw[q,Kz]at e;have q':oc=p.2:=vK e;exact d w' (by rw[←q'];exact Ua)
theorem xE {M:Model}{A:Around}{E:Value->Shared->Prop}{i:Nat}{x:Str}{v:V}{u:Value}{Q:Unit->Shared->Prop}(I:Inv X ae σ H s)(hN:X.N.Nodup)(hi:X.N[i]? = some x)(hx:HN X.env.scope x)(r:ba v u)
  (h:∀s',Inv X ae (σ.set i (some v)) H s'->Q () s') (hf:X.fn x=true∨X.env.scope.names.lookup x=some .local:=by first|exact .inl rfl|exact .inr rfl|assumption):wpAny M A (storeName X.env x u) Q E s :=
 tG I hN hi hx r (λs' I' _=>h s' I') hf
theorem Inv.call' (I:Inv X ae σ H s)(ho:s'.os=s.os)(u:Un (EI X.stack) ch H H' s.heap s'.heap)(hok:lh X.prog X.w H' s'.heap)(hg:AllBare s'.gens)
  (p6:∀b∈ch,(b∈X.ex∨X.s₀.heap.objs.size<=b)/\b≠X.env.locals/\(∀x c,X.env.cells.lookup x=some c->c≠b)/\∀p∈X.pn++ae,p.1≠b):Inv X ae σ H' s':=by
 obtain⟨h',g',d',t',o'⟩:=s';have e:o'=s.os:=ho;subst e;exact I.call (g':=g') (t':=t') (d':=d') u hok hg p6
end
abbrev XK:=Value->Option Addr->Hp->Prop
abbrev St:=List (Option V)
abbrev VK:=V->Hp->Prop
abbrev TE:=St->Hp->VK->Prop
abbrev TT:=St->Hp->(Bool->Hp->Prop)->Prop
abbrev TA:=St->Hp->(List V->Hp->Prop)->Prop
structure Ends where
 nx:St->Hp->Prop
 rt:VK
 bk:St->Hp->Prop:=λ_ _=>False
 ct:St->Hp->Prop:=λ_ _=>False
abbrev TS:=Ends->St->Hp->Prop
def EP (X:Cx)(ae:List (Addr×Obj))(σ:St)(Q:VK)(u:Value)(s':Shared):Prop:=∃v H',Inv X ae σ H' s'/\ba v u/\Q v H'
def TP (X:Cx)(ae:List (Addr×Obj))(σ:St)(Q:Bool->Hp->Prop)(b:Bool)(s':Shared):Prop:=∃H',Inv X ae σ H' s'/\Q b H'
def AP (X:Cx)(ae:List (Addr×Obj))(σ:St)(Q:List V->Hp->Prop)(us:List Value)(s':Shared):Prop:=∃vs H',Inv X ae σ H' s'/\aY vs us/\Q vs H'
def SP (X:Cx)(ae:List (Addr×Obj))(D:Ends)(f:Flow)(s':Shared):Prop :=
 match f with
 |.next=>∃σ' H',Inv X ae σ' H' s'/\D.nx σ' H'
 |.brk=>∃σ' H',Inv X ae σ' H' s'/\D.bk σ' H'
 |.cont=>∃σ' H',Inv X ae σ' H' s'/\D.ct σ' H'
 |.ret u=>∃v σ' H',Inv X ae σ' H' s'/\ba v u/\D.rt v H'
def PE (X:Cx)(e:Expr)(t:TE):Prop :=
 ∀(ae:List (Addr×Obj))(s:Shared)(σ:St)(H:Hp)(Q:VK),Inv X ae σ H s->t σ H Q->wq X (eval e X.env) (EP X ae σ Q) X.xe s
def PT (X:Cx)(e:Expr)(t:TT):Prop :=
 ∀(ae:List (Addr×Obj))(s:Shared)(σ:St)(H:Hp)(Q:Bool->Hp->Prop),Inv X ae σ H s->t σ H Q->wq X (isTrue e X.env (eval e X.env)) (TP X ae σ Q) X.xe s
def PW (X:Cx)(e:Expr)(t:TT):Prop :=
 ∀(sD:Sem Value)(ae:List (Addr×Obj))(s:Shared)(σ:St)(H:Hp)(Q:Bool->Hp->Prop),Inv X ae σ H s->t σ H Q->wq X (isTrue e X.env sD) (TP X ae σ Q) X.xe s
theorem PW.pt (h:PW X e t):PT X e t:=h _
def PA (X:Cx)(es:List Expr)(t:TA):Prop :=
 ∀(pos:Pos)(ae:List (Addr×Obj))(s:Shared)(σ:St)(H:Hp)(Q:List V->Hp->Prop),Inv X ae σ H s->t σ H Q->wq X (spliced (backTo pos (starEach es X.env))) (AP X ae σ Q) X.xe s
def PS (X:Cx)(st:Stmt)(t:TS):Prop :=
 ∀(ae:List (Addr×Obj))(s:Shared)(σ:St)(H:Hp)(D:Ends),Inv X ae σ H s->t D σ H->wq X (exec st X.env) (SP X ae D) X.xe s
def vz (X:Cx)(st:List Stmt)(t:TS):Prop :=
 ∀(ae:List (Addr×Obj))(s:Shared)(σ:St)(H:Hp)(D:Ends),Inv X ae σ H s->t D σ H->wq X (execs st X.env) (SP X ae D) X.xe s
theorem cE {α:Type}{t:Sem α}{Q Q':α->Shared->Prop}{M:Model}{A:Around}{E:Value->Shared->Prop}{s:Shared}(h:wpAny M A t Q E s)(hQ:∀a s,Q a s->Q' a s):wpAny M A t Q' E s:=wpAny_mono h hQ λ_ _ x=>x
section
variable {X:Cx}
theorem ZS {a b:Expr}{ta tb:TE}(ha:PE X a ta)(hb:PE X b tb){ae:List (Addr×Obj)}{s:Shared}{σ:St}{H:Hp}{R:V->V->Hp->Prop}(I:Inv X ae σ H s)(h:ta σ H λx H1=>tb σ H1 λy H2=>R x y H2)
  {α:Type}{Q:α->Shared->Prop}{f:Value->Value->Sem α}
  (hf:∀v u s2 x y H2,Inv X ae σ H2 s2->ba x v->ba y u->R x y H2->wq X (f v u) Q X.xe s2):
  wq X (eval a X.env) (λv s₁=>wq X (eval b X.env) (λu s₂=>wq X (f v u) Q X.xe s₂) X.xe s₁) X.xe s:=by
 refine cE (ha ae s σ H _ I h) λv s1 ⟨x,H1,I1,r1,q1⟩=>?_;refine cE (hb ae s1 σ H1 _ I1 q1) λu s2 ⟨y,H2,I2,r2,q2⟩=>?_;exact hf v u s2 x y H2 I2 r1 r2 q2
def EU (i:Nat):TE:=λσ H Q=>∃v,σ[i]? = some (some v)/\Q v H
def tC (v:V):TE:=λ_ H Q=>Q v H
theorem lG (hN:X.N[i]? = some x)(hv:ET X.env.scope x)(hd:(x == ("__debug__" : Str))=false:=by decide)(j9:(x == ("__classdict__" : Str))=false:=by decide):PE X (.Name x pos) (EU i):=by
 intro ae s σ H Q I h;obtain⟨v,e,h⟩:=h;obtain⟨m,hn,hl⟩:=I.loc;obtain⟨u,r,l⟩:=hl i x v hN e hv;have lr:EP X ae σ Q u s:=⟨v,H,I,r,h⟩;rcases l with⟨hk,hm⟩|⟨hk,c,hc,LU⟩
 ·exact wpAny_Name (wpAny_loadName_local I.ok.kind hk hn hm lr) hd
 ·rcases hk with hk|hk
  ·exact wpAny_Name (wpAny_loadName_cell I.ok.kind hk hc LU lr) hd
  ·exact wpAny_Name (wpAny_loadName_free I.ok.kind hk hc LU lr j9) hd
theorem Mt {i j pos}:PE X (.Constant (.int i) j pos) (tC (.int i)):=λ_ _ _ H _ I h=>wpAny_Constant_int ⟨.int i,H,I.tok _,⟨_,rfl⟩,h⟩
theorem P6 {b j pos}:PE X (.Constant (.bool b) j pos) (tC (.bl b)):=λ_ _ _ H _ I h=>Constant_bool ⟨.bl b,H,I,rfl,h⟩
theorem Mu {j pos}:PE X (.Constant .none j pos) (tC .non):=λ_ _ _ H _ I h=>Constant_none ⟨.non,H,I,rfl,h⟩
theorem Mv {x j pos}:PE X (.Constant (.str x) j pos) (tC (.str x)):=λ_ _ _ H _ I h=>Calls.Constant_str ⟨.str x,H,I.tok _,⟨_,rfl⟩,h⟩
def Gl (X:Cx)(x:Str):Prop:=X.env.kindOf x=some .globalImplicit
theorem v0 {E:Value->Shared->Prop}{ae:List (Addr×Obj)}{s:Shared}{σ:St}{H:Hp}{x:Str}{u:Value}{pos:Pos}{Q:Value->Shared->Prop}(I:Inv X ae σ H s)(hg:Gl X x)(hm:X.mg x=some u)(h:Q u s)
  (hd:(x == ("__debug__" : Str))=false:=by decide):wq X (eval (.Name x pos) X.env) Q E s :=
 Calls.Name_function_global I.ok.kind hg (Calls.loadGlobal_global (by rw[I.ok.glob];exact I.mod.glob.keeps I.bk) hm h) hd
theorem nw {E:Value->Shared->Prop}{ae:List (Addr×Obj)}{s:Shared}{σ:St}{H:Hp}{x:Str}{u:Value}{pos:Pos}{Q:Value->Shared->Prop}(I:Inv X ae σ H s)(hg:Gl X x)(hm:X.mg x=none)(hv:bootBuiltins x=some u)(h:Q u s)
  (hn:x ≠ "__name__":=by decide) (hd:(x == ("__debug__" : Str))=false:=by decide):wq X (eval (.Name x pos) X.env) Q E s:=by
 obtain⟨mb,h1,h2⟩:=I.mod.blt;exact Calls.Name_function_global I.ok.kind hg (Calls.loadGlobal_builtin (by rw[I.ok.glob];exact I.mod.glob.keeps I.bk) hm (by rw[I.ok.blt];exact h1.keeps I.bk) ((h2 x hn).trans hv) h) hd
theorem BA (hg:Gl X x)(hm:X.mg x=some u)(r:ba v u)(hd:(x == ("__debug__" : Str))=false:=by decide):PE X (.Name x pos) (tC v) :=
 λ_ _ _ H _ I h=>v0 I hg hm ⟨v,H,I,r,h⟩ hd
def Xf (ta tb:TE)(k:Int->Int->Hp->Prop):St->Hp->Prop:=λσ H=>ta σ H λx H1=>tb σ H1 λy H2=>∃i j,x=.int i/\y=.int j/\k i j H2
variable {a b:Expr}{ta tb:TE}{pos:Pos}
def PC (X:Cx)(op:CmpOp)(a b:Expr)(t:TE):Prop :=
 ∀(ae:List (Addr×Obj))(s:Shared)(σ:St)(H:Hp)(Q:VK),Inv X ae σ H s->t σ H Q ->
  wq X (eval a X.env) (λv s₁=>wq X (eval b X.env) (λu s₂=>wq X (compareOp op v u) (EP X ae σ Q) X.xe s₂) X.xe s₁) X.xe s
theorem ji (b:Expr){op:CmpOp}(h:op≠.In)(h2:op≠.NotIn):behindInMarks op b=false:=by
 have e1:(op == CmpOp.In)=false:=by cases op<;>first|rfl|exact absurd rfl h
 have e2:(op == CmpOp.NotIn)=false:=by cases op<;>first|rfl|exact absurd rfl h2
 cases b<;>simp[behindInMarks,e1,e2]
def P7 (p:Int->Int->Bool)(ta tb:TE):TE:=λσ H Q=>Xf ta tb (λi j H2=>Q (.bl (p i j)) H2) σ H
abbrev Mw:TE->TE->TE:=P7 λi j=>decide (i<j)
abbrev Xg:TE->TE->TE:=P7 λi j=>decide (j<i)
def tB (t:TE):TT:=λσ H Q=>t σ H λx H1=>∃c,x=.bl c/\Q c H1
theorem Mx (h:PC X op a b t)(h1:behindInMarks op b=false:=by first|exact ji _ (by decide) (by decide)|rfl):PE X (.Compare a [op] [b] pos) t:=λae s σ H Q I hw=>wpAny_Compare1 (h ae s σ H Q I hw) h1
theorem My {op:CmpOp}{t:TE}(h:PC X op a b t)(h1:behindInMarks op b=false:=by first|exact ji _ (by decide) (by decide)|rfl):PT X (.Compare a [op] [b] pos) (tB t):=by
 intro ae s σ H Q I hw;refine wpAny_isTrue_Compare1 (cE (h ae s σ H _ I hw) λv s1 h1=>cE h1 λu s2 h2=>cE h2 λc s3 ⟨x,H1,I1,r1,q1⟩=>?_) h1;obtain⟨d,rfl,q⟩:=q1;cases r1
 exact wpAny_truthy_bool ⟨H1,I1,q⟩
theorem Mz {e:Expr}{t:TE}(h:PE X e t)(he:∀sD,isTrue e X.env sD=(do let v ←sD;standAt e.pos;holding [v] (truthy v)):=by intro _;rfl):PT X e (tB t):=by
 intro ae s σ H Q I hw;refine isTrue_plain (cE (h ae s σ H _ I hw) λv s1 ⟨x,H1,I1,r1,q1⟩=>?_) (he _);obtain⟨d,rfl,q⟩:=q1;cases r1
 exact wpAny_truthy_bool ⟨H1,I1,q⟩
variable {tA Sz:TT}{aD:List Expr}
def P8 (t u:TT):TT:=λσ H Q=>t σ H λc H1=>if c=true then u σ H1 Q else Q false H1
def Vq (t u:TT):TT:=λσ H Q=>t σ H λc H1=>if c=true then Q true H1 else u σ H1 Q
def P9 (t:TT):TT:=λσ H Q=>t σ H λc H1=>Q (!c) H1
theorem Ih (ha:PT X a tA):PW X (.BoolOp .And [a] pos) tA:=by
 intro wh ae s σ H Q I h;refine isTrue_and (cE (ha ae s σ H Q I h) λc s1 e=>?_);cases c with
 |true=>exact isTrue_and_nil e
 |false=>exact e
theorem M0 (ha:PT X a tA):PW X (.BoolOp .Or [a] pos) tA:=by
 intro wh ae s σ H Q I h;refine isTrue_or (cE (ha ae s σ H Q I h) λc s1 e=>?_);cases c with
 |false=>exact isTrue_or_nil e
 |true=>exact e
theorem M2 (ha:PT X a tA)(hb:PW X (.BoolOp .And (b::aD) pos) Sz):PW X (.BoolOp .And (a::b::aD) pos) (P8 tA Sz):=by
 intro wh ae s σ H Q I h;refine isTrue_and (cE (ha ae s σ H _ I h) λc s1 ⟨H1,I1,q1⟩=>?_);cases c with
 |true=>exact hb wh ae s1 σ H1 Q I1 q1
 |false=>exact⟨H1,I1,q1⟩
theorem PB (ha:PT X a tA)(hb:PW X (.BoolOp .Or (b::aD) pos) Sz):PW X (.BoolOp .Or (a::b::aD) pos) (Vq tA Sz):=by
 intro wh ae s σ H Q I h;refine isTrue_or (cE (ha ae s σ H _ I h) λc s1 ⟨H1,I1,q1⟩=>?_);cases c with
 |true=>exact⟨H1,I1,q1⟩
 |false=>exact hb wh ae s1 σ H1 Q I1 q1
theorem M3 (ha:PT X a tA):PT X (.UnaryOp .Not a pos) (P9 tA):=by
 intro ae s σ H Q I h;exact isTrue_not (ha ae s σ H (λc H1=>Q (!c) H1) I h)
def PD (ta tb:TE):TE:=λσ H Q=>ta σ H λx H1=>∃c,x=.bl c/\if c=true then tb σ H1 Q else Q (.bl false) H1
def SV (ta tb:TE):TE:=λσ H Q=>ta σ H λx H1=>∃c,x=.bl c/\if c=true then Q (.bl true) H1 else tb σ H1 Q
theorem M4 {op}(h:PE X a t):PE X (.BoolOp op [a] pos) t:=λae s σ H Q I hw=>BoolOp_one (h ae s σ H Q I hw)
theorem M5 (ha:PE X a ta)(hb:PE X (.BoolOp .And (b::aD) pos) tb):PE X (.BoolOp .And (a::b::aD) pos) (PD ta tb):=by
 intro ae s σ H Q I h;refine BoolOp_and (cE (ha ae s σ H _ I h) λv s1 ⟨x,H1,I1,r1,q1⟩=>?_);obtain⟨c,rfl,q1⟩:=q1;cases r1
 refine wpAny_truthy_bool ?_;cases c with
 |true=>exact hb ae s1 σ H1 Q I1 q1
 |false=>exact⟨.bl false,H1,I1,rfl,q1⟩
theorem PF (ha:PE X a ta)(hb:PE X (.BoolOp .Or (b::aD) pos) tb):PE X (.BoolOp .Or (a::b::aD) pos) (SV ta tb):=by
 intro ae s σ H Q I h;refine BoolOp_or (cE (ha ae s σ H _ I h) λv s1 ⟨x,H1,I1,r1,q1⟩=>?_);obtain⟨c,rfl,q1⟩:=q1;cases r1
 refine wpAny_truthy_bool ?_;cases c with
 |false=>exact hb ae s1 σ H1 Q I1 q1
 |true=>exact⟨.bl true,H1,I1,rfl,q1⟩
end
def hU (K:Frag)(H:Hp)(a:Addr)(xs:List V):Prop :=
 Rd H a (.lst xs) ∨
  ∃(o:Obj)(its:Array Value)(n:Nat),K.lookup a=some o/\o.cls=.type "list"/\o.dict=none/\o.data=.seq its n/\its.size<=sizeLine/\aY xs its.toList
def jj (K:Frag)(H:Hp)(a:Addr)(xs:List V):Prop :=
 Rd H a (.tup xs) ∨
  ∃(o:Obj)(its:Array Value)(n:Nat),K.lookup a=some o/\o.cls=.type "tuple"/\o.data=.seq its n/\its.size<=sizeLine/\aY xs its.toList
noncomputable def SW:Value->Option V
 |.none=>some .non
 |.bool b=>some (.bl b)
 |.int i _=>some (.int i)
 |.str x _=>some (.str x)
 |.bytes b _=>some (.byt b)
 |.float b _=>some (.flt b)
 |.ref a=>some (.ref a)
 |.type n=>some (.ty n)
 |_=>none
theorem ba.abs (r:ba x u):SW u=some x:=by
 cases x with
 |non=>cases r;rfl
 |bl _=>cases r;rfl
 |int _=>obtain⟨t,rfl⟩:=r;rfl
 |str _=>obtain⟨t,rfl⟩:=r;rfl
 |byt _=>obtain⟨t,rfl⟩:=r;rfl
 |flt _=>obtain⟨t,rfl⟩:=r;rfl
 |ref _=>cases r;rfl
 |ty _=>cases r;rfl
theorem ba.inj (r:ba x u)(q:ba y u):x=y:=vK (r.abs.symm.trans q.abs)
theorem aY.inj:∀ {xs ys:List V}{us:List Value},aY xs us->aY ys us->xs=ys
 |_,_,_,.nil,.nil=>rfl
 |_,_,_,.cons r t,.cons r' t'=>by rw[r.inj r',aY.inj t t']
section
variable {X:Cx}{ae:List (Addr×Obj)}{σ:St}{H:Hp}{s:Shared}{a:Addr}{xs ys:List V}
theorem hU.of {K:Frag}(h:H a=some (.lst xs)):hU K H a xs:=.inl (.inl h)
theorem jj.of {K:Frag}(h:H a=some (.tup xs)):jj K H a xs:=.inl (.inl h)
theorem Inv.list (I:Inv X ae σ H s)(h:hU X.K H a xs):∃its:List Value,aY xs its/\PlainL s.heap a its.toArray/\xs.length<=sizeLine:=by
 rcases h with h|⟨o,its,n,hk,hc,hd,hs,hz,r⟩
 ·obtain⟨z,its,n,r,e⟩:=h.ok I.hok;exact⟨its,r,⟨_,n,e,rfl,rfl,rfl⟩,z⟩
 ·refine⟨its.toList,r,⟨o,n,I.kIn a o hk,hc,hd,by simpa using hs⟩,?_⟩;have e:=r.length;simp only[vG]at e;omega
theorem Inv.tuple (I:Inv X ae σ H s)(h:jj X.K H a xs):∃its:List Value,aY xs its/\IsTup s.heap a its.toArray/\xs.length<=sizeLine:=by
 rcases h with h|⟨o,its,n,hk,hc,hs,hz,r⟩
 ·obtain⟨z,its,r,p⟩:=h.ok I.hok;exact⟨its,r,p,z⟩
 ·refine⟨its.toList,r,⟨o,I.kIn a o hk,hc,n,by simpa using hs⟩,?_⟩;have e:=r.length;simp only[vG]at e;omega
theorem Inv.list_inj (I:Inv X ae σ H s)(h:hU X.K H a xs)(h':hU X.K H a ys):xs=ys:=by
 obtain⟨its,r,⟨o,n,e,_,_,d⟩,_⟩:=I.list h;obtain⟨its',r',⟨o',n',e',_,_,d'⟩,_⟩:=I.list h';rw[e]at e';cases e';rw[d]at d';injection d' with d1 _;have:its=its':=by simpa using congrArg Array.toList d1
 subst this;exact r.inj r'
theorem Inv.tuple_inj (I:Inv X ae σ H s)(h:jj X.K H a xs)(h':jj X.K H a ys):xs=ys:=by
 obtain⟨its,r,⟨o,e,_,n,d⟩,_⟩:=I.tuple h;obtain⟨its',r',⟨o',e',_,n',d'⟩,_⟩:=I.tuple h';rw[e]at e';cases e';rw[d]at d';injection d' with d1 _;have:its=its':=by simpa using congrArg Array.toList d1
 subst this;exact r.inj r'
end
noncomputable abbrev Cx.wish (X:Cx)(E:Value->Shared->Prop):Cx:={ X with xe:=E }
noncomputable abbrev Cx.nox (X:Cx):Cx:=X.wish λ_ _=>False
theorem Cx.Ok.wish {X:Cx}(ok:X.Ok)(E:Value->Shared->Prop):(X.wish E).Ok :=
 ⟨ok.mod,ok.kind,ok.glob,ok.blt,ok.above,ok.inj,ok.has,ok.cab,ok.hd,ok.frames,ok.stk,ok.exf,ok.bs,ok.bsz,ok.noex,ok.exfs,ok.funs,ok.frf⟩
theorem Cx.Ok.unwish {X:Cx}{E:Value->Shared->Prop}(ok:(X.wish E).Ok):X.Ok :=
 ⟨ok.mod,ok.kind,ok.glob,ok.blt,ok.above,ok.inj,ok.has,ok.cab,ok.hd,ok.frames,ok.stk,ok.exf,ok.bs,ok.bsz,ok.noex,ok.exfs,ok.funs,ok.frf⟩
section
variable {X:Cx}{ae:List (Addr×Obj)}{σ:St}{H:Hp}{s:Shared}{E:Value->Shared->Prop}
theorem Inv.wish (I:Inv X ae σ H s)(E:Value->Shared->Prop):Inv (X.wish E) ae σ H s:=⟨I.ok.wish E,I.os,I.bare,I.base,I.loc,I.cell,I.free,I.freeC,I.pin,I.hok,I.len⟩
theorem Inv.unwish (I:Inv (X.wish E) ae σ H s):Inv X ae σ H s:=⟨I.ok.unwish,I.os,I.bare,I.base,I.loc,I.cell,I.free,I.freeC,I.pin,I.hok,I.len⟩
theorem SP.unwish (h:SP (X.wish E) ae D f s'):SP X ae D f s':=by
 cases f with
 |next=>obtain⟨σ',H',I,q⟩:=h;exact⟨σ',H',I.unwish,q⟩
 |brk=>obtain⟨σ',H',I,q⟩:=h;exact⟨σ',H',I.unwish,q⟩
 |cont=>obtain⟨σ',H',I,q⟩:=h;exact⟨σ',H',I.unwish,q⟩
 |ret u=>obtain⟨v,σ',H',I,r,q⟩:=h;exact⟨v,σ',H',I.unwish,r,q⟩
theorem PE.nox (h:PE X.nox e t):PE X e t:=λae s σ H Q I hw=>
 wpAny_mono (h ae s σ H Q (I.wish _) hw) (λ_ _ ⟨v,H',I',r,q⟩=>⟨v,H',I'.unwish,r,q⟩) λ_ _ z=>False.elim z
theorem PT.nox (h:PT X.nox e t):PT X e t:=λae s σ H Q I hw=>
 wpAny_mono (h ae s σ H Q (I.wish _) hw) (λ_ _ ⟨H',I',q⟩=>⟨H',I'.unwish,q⟩) λ_ _ z=>False.elim z
theorem vz.nox {st:List Stmt}{t:TS}(h:vz X.nox st t):vz X st t:=λae s σ H D I hw=>
 wpAny_mono (h ae s σ H D (I.wish _) hw) (λ_ _ q=>q.unwish) λ_ _ z=>False.elim z
end
section
variable {X:Cx}{st:Stmt}{aD:List Stmt}{t u:TS}{e:Expr}{te:TE}{pos:Pos}
def KN:TS:=λD σ H=>D.nx σ H
def PH (t u:TS):TS:=λD σ H=>t { D with nx:=u D } σ H
theorem Ii:vz X [] KN:=λ_ _ σ H _ I h=>wpAny_execs_nil ⟨σ,H,I,h⟩
theorem EV (h1:PS X st t)(h2:vz X aD u):vz X (st::aD) (PH t u):=by
 intro ae s σ H D I h;refine wpAny_execs_cons (cE (h1 ae s σ H { D with nx:=u D } I h) λf s1 q=>?_);cases f with
 |next=>
  obtain⟨σ',H',I',q⟩:=q;exact h2 ae s1 σ' H' D I' q
 |ret v=>exact q
 |brk=>exact q
 |cont=>exact q
theorem Ij (h1:PS X st t):vz X [st] t:=by
 intro ae s σ H D I h;refine wpAny_execs_cons (cE (h1 ae s σ H D I h) λf s1 q=>?_);cases f with
 |next=>exact wpAny_execs_nil q
 |ret v=>exact q
 |brk=>exact q
 |cont=>exact q
def PJ:TS:=λD σ H=>D.ct σ H
theorem xF:PS X (.Continue pos) PJ:=λ_ _ σ H _ I h=>wpAny_Continue ⟨σ,H,I,h⟩
theorem Inv.quiet (I:Inv X ae σ H s):interactive X.env=false:=by simp[interactive,I.ok.kind]
def PK (te:TE):TS:=λD σ H=>te σ H λ_ H1=>D.nx σ H1
theorem Ik (he:PE X e te)(hs:swapsWith e none pos.line X.env=pure false:=by rfl):PS X (.Expr e pos) (PK te):=by
 intro ae s σ H D I h;exact wpAny_Expr_any (cE (he ae s σ H _ I h) λv s1 ⟨x,H1,I1,r1,q1⟩=>⟨σ,H1,I1,q1⟩) I.quiet hs
def M6 (te:TE):TS:=λD σ H=>te σ H D.rt
theorem EW (he:PE X e te):PS X (.Return (some e) pos) (M6 te):=by
 intro ae s σ H D I h;exact wpAny_Return_some (cE (he ae s σ H _ I h) λv s1 ⟨x,H1,I1,r1,q1⟩=>⟨x,σ,H1,I1,r1,q1⟩)
def PL (c:TT)(t u:TS):TS:=λD σ H=>c σ H λb H1=>if b=true then t D σ H1 else u D σ H1
theorem PM {c:Expr}{a b:List Stmt}{tc:TT}(hc:PT X c tc)(ha:vz X a t)(hb:vz X b u):PS X (.If c a b pos) (PL tc t u):=by
 intro ae s σ H D I h;refine wpAny_If (cE (hc ae s σ H _ I h) λd s1 ⟨H1,I1,q1⟩=>?_);cases d with
 |true=>exact ha ae s1 σ H1 D I1 q1
 |false=>exact hb ae s1 σ H1 D I1 q1
end
abbrev TG:=V->St->Hp->(St->Hp->Prop)->Prop
abbrev M7:=List V->St->Hp->(St->Hp->Prop)->Prop
def PG (X:Cx)(sE:Expr)(t:TG):Prop :=
 ∀(ae:List (Addr×Obj))(s:Shared)(σ:St)(H:Hp)(v:V)(u:Value)(Q:St->Hp->Prop),Inv X ae σ H s->ba v u->t v σ H Q ->
  wq X (assign sE X.env u) (λ_ s'=>∃σ' H',Inv X ae σ' H' s'/\Q σ' H') X.xe s
def Sf (X:Cx)(ts:List Expr)(t:M7):Prop :=
 ∀(ae:List (Addr×Obj))(s:Shared)(σ:St)(H:Hp)(vs:List V)(us:List Value)(Q:St->Hp->Prop),Inv X ae σ H s->aY vs us->t vs σ H Q ->
  wq X (assignInOrder ((assignEach ts X.env).map (·.2)) us) (λ_ s'=>∃σ' H',Inv X ae σ' H' s'/\Q σ' H') X.xe s
abbrev M8:=V->V->V->Hp->(Hp->Prop)->Prop
def PN (X:Cx)(t:M8):Prop :=
 ∀(ae:List (Addr×Obj))(s:Shared)(σ:St)(H:Hp)(o i v:V)(ov iv u:Value)(Q:Hp->Prop),Inv X ae σ H s->ba o ov->ba i iv->ba v u->t o i v H Q ->
  wq X (setItem ov iv u) (λ_ s'=>∃H',Inv X ae σ H' s'/\Q H') X.xe s
section
variable {X:Cx}{pos:Pos}
def jR (i:Nat):TG:=λv σ H Q=>Q (σ.set i (some v)) H
theorem BB (hN:X.N.Nodup)(hi:X.N[i]? = some x)(hx:HN X.env.scope x)(hf:X.fn x=true∨X.env.scope.names.lookup x=some .local:=by first|exact .inl rfl|exact .inr rfl|assumption):PG X (.Name x pos) (jR i):=by
 intro ae s σ H v u Q I r h;exact wpAny_assign_Name (xE I hN hi hx r (λs' I'=>⟨_,H,I',h⟩) hf)
def PP:M7:=λvs σ H Q=>vs=[]/\Q σ H
def KO (t:TG)(u:M7):M7:=λvs σ H Q=>∃v r,vs=v::r/\t v σ H λσ' H'=>u r σ' H' Q
theorem wa:Sf X [] PP:=by
 intro ae s σ H vs us Q I r h;obtain⟨e,h⟩:=h;subst e;cases r
 exact assignInOrder_nil ⟨σ,H,I,h⟩
theorem jk {e:Expr}{es:List Expr}{t:TG}{u:M7}(h1:PG X e t)(h2:Sf X es u)
  (hs:(assignEach (e::es) X.env).map (·.2)=assign e X.env::(assignEach es X.env).map (·.2):=by rfl):Sf X (e::es) (KO t u):=by
 intro ae s σ H vs us Q I r h;obtain⟨v,vr,e1,h⟩:=h;subst e1;cases r with
 |cons r rr=>
  rw[hs];refine assignInOrder_cons (cE (h1 ae s σ H _ _ _ I r h) λ_ s1 ⟨σ1,H1,I1,q1⟩=>?_);exact h2 ae s1 σ1 H1 _ _ Q I1 rr q1
def M9 (K:Frag)(n:Nat)(t:M7):TG:=λv σ H Q=>∃a xs,v=.ref a/\jj K H a xs/\xs.length=n/\t xs σ H Q
theorem Aj (hc:X.calm=true)(h:Sf X es t)
  (hn:(assignEach es X.env).length=n:=by rfl) (km:(assignEach es X.env).findIdx? (·.1)=none:=by rfl):PG X (.Tuple es k pos) (M9 X.K n t):=by
 intro ae s σ H v u Q I r hw;obtain⟨a,xs,e1,hq,hl,hw⟩:=hw;subst e1;cases r
 obtain⟨its,rv,ht,hz⟩:=I.tuple hq;refine assign_Tuple_tuple (I.ok.hd hc) ht (by simp[hn,←hl,rv.length]) km λh' hx=>?_;have I1:Inv X ae σ H { s with heap:=h' }:=I.kept (t':=s.toks) λb o e=>hx b o (vS (vX e)) e;exact h ae _ σ H xs _ Q I1 (by simpa using rv) hw
def SX (to ti:TE)(t:M8):TG:=λv σ H Q=>to σ H λo H1=>ti σ H1 λi H2=>t o i v H2 λH3=>Q σ H3
theorem MA {o i:Expr}{to ti:TE}{t:M8}(ho:PE X o to)(hi:PE X i ti)(hs:PN X t)
  (ha:∀v,assign (.Subscript o i pos) X.env v=(do
   let ov ←holding [v] (eval o X.env)
   let iv ←holding [v,ov] (eval i X.env)
   standAt pos
   holding [v,ov,iv] (setItem ov iv v)
   release [v,ov,iv] []):=by intro _;rfl):PG X (.Subscript o i pos) (SX to ti t):=by
 intro ae s σ H v u Q I r h;rw[ha];refine wX (wpAny_holding (cE (ho ae s σ H _ I h) λov s1 ⟨x,H1,I1,r1,q1⟩=>?_));refine wX (wpAny_holding (cE (hi ae s1 σ H1 _ I1 q1) λiv s2 ⟨y,H2,I2,r2,q2⟩=>?_));refine wX (wpAny_standAt (wX (wpAny_holding (cE (hs ae s2 σ H2 x y v ov iv u _ I2 r1 r2 r q2) λ_ s3 ⟨H3,I3,q3⟩=>?_))));exact wpAny_release ⟨σ,H3,I3,q3⟩
def Ak (te:TE)(g:TG):TS:=λD σ H=>te σ H λx H1=>g x σ H1 D.nx
theorem MB {tg e:Expr}{te:TE}{g:TG}(he:PE X e te)(hg:PG X tg g)(hs:swapsWithSole [tg] e pos.line X.env=pure false:=by rfl)(hw:swappedStores [tg] e X.env=pure none:=by rfl)
  (h1:(assignEach [tg] X.env).map (·.2)=[assign tg X.env]:=by rfl):PS X (.Assign [tg] e pos) (Ak te g):=by
 intro ae s σ H D I h;refine wpAny_Assign_stores (cE (he ae s σ H _ I h) λv s1 ⟨x,H1,I1,r1,q1⟩=>?_) hs hw;rw[h1];exact cE (hg ae s1 σ H1 x v _ I1 r1 q1) λ_ s2 q=>q
theorem wb {i:Nat}{x:Str}{e:Expr}{te:TE}{zQ:Pos}(hN:X.N.Nodup)(hi:X.N[i]? = some x)(hx:HN X.env.scope x)(he:PE X e te)(hs:swapsWith e (some (.Name x zQ)) pos.line X.env=pure false:=by rfl)(hf:X.fn x=true∨X.env.scope.names.lookup x=some .local:=by first|exact .inl rfl|exact .inr rfl|assumption):
  PS X (.Assign [.Name x zQ] e pos) (Ak te (jR i)):=by
 intro ae s σ H D I h;refine wpAny_Assign_Name (cE (he ae s σ H _ I h) λv s1 ⟨y,H1,I1,r1,q1⟩=>?_) hs;exact xE I1 hN hi hx r1 (λs2 I2=>⟨_,H1,I2,q1⟩) hf
end
structure It where
 go:Nat->Hp->Prop
 yld:Nat->Hp->V->Hp->Prop
 stop:Nat->Hp->Prop
def nz (X:Cx)(ae:List (Addr×Obj))(H:Hp)(b:Addr):Prop :=
 H b=none/\b≠X.env.locals/\b∉X.fs/\(b∈X.ex∨X.s₀.heap.objs.size<=b)/\(∀x c,X.env.cells.lookup x=some c->c≠b)/\∀p∈X.pn++ae,p.1≠b
theorem Inv.fpOk (I:Inv X ae σ H s)(hb:s.heap.objs.size<=b)(hn:H' b=none):nz X ae H' b:=by
 refine⟨hn,Nat.ne_of_gt (vQ I.lt hb),I.nofs hb,.inr (vR I.sz hb),λx c e z=>?_,λp hp z=>?_⟩
 ·obtain⟨v,q⟩:=I.cell x c e;exact absurd (vQ q.lt (by rw[z];exact hb)) (Nat.lt_irrefl _)
 ·exact absurd (vQ (vX (I.pin p hp).1) (by rw[z];exact hb)) (Nat.lt_irrefl _)
structure Turn (P:Program)(w:World)(K:Frag)(tg:Expr)(J:It)(fp:List Addr)(it:Addr)(tn:Nat->Heap->Prop):Prop where
 mem:it∈fp
 obj:∀i h,tn i h->∀b∈fp,∃o,h.get? b=some o/\∀v,o.data≠.cell v
 keep:∀i h h',tn i h->(∀b∈fp,∀o,h.get? b=some o->h'.get? b=some o)->tn i h'
 item:∀(X:Cx),X.prog=P->X.w=w->X.K=K->X.calm=true->∀(i:Nat)(ae:List (Addr×Obj))(s:Shared)(σ:St)(H:Hp)(E:Value->Shared->Prop),Inv X ae σ H s->(∀b∈fp,nz X ae H b)->tn i s.heap->J.go i H ->
  wpAny (model P w) X.A (pyNext (.ref it)) (λr s1=>∃u,r=some u /\
   wpAny (model P w) X.A (letOwnedTupleGo tg (.ref it) u) (λ_ s2=>∃x H',Inv X ae σ H' s2/\ba x u/\J.yld i H x H'/\tn (i+1) s2.heap/\∀b∈fp,H' b=none) E s1) E s
 done:∀(X:Cx),X.prog=P->X.w=w->X.K=K->X.calm=true->∀(i:Nat)(ae:List (Addr×Obj))(s:Shared)(σ:St)(H:Hp)(E:Value->Shared->Prop),Inv X ae σ H s->(∀b∈fp,nz X ae H b)->tn i s.heap->J.stop i H ->
  wpAny (model P w) X.A (pyNext (.ref it)) (λr s1=>r=none/\Inv X ae σ H s1) E s
 self:∀(A:Around)(i:Nat)(s:Shared)(Q:Value->Shared->Prop)(E:Value->Shared->Prop),tn i s.heap->Q (.ref it) s->wpAny (model P w) A (pyIter (.ref it)) Q E s
abbrev TI:=St->Hp->(It->Hp->Prop)->Prop
def Vr (X:Cx)(ae:List (Addr×Obj))(σ:St)(tg:Expr)(R:It->Hp->Prop)(S1:Value)(s2:Shared):Prop :=
 ∃(it:Addr)(fp:List Addr)(tn:Nat->Heap->Prop)(J:It)(H':Hp),S1=.ref it/\Inv X ae σ H' s2/\Turn X.prog X.w X.K tg J fp it tn/\tn 0 s2.heap/\(∀b∈fp,nz X ae H' b)/\R J H'
def PI (X:Cx)(tg dc:Expr)(wi:TI):Prop :=
 ∀(ae:List (Addr×Obj))(s:Shared)(σ:St)(H:Hp)(R:It->Hp->Prop),Inv X ae σ H s->wi σ H R ->
  wq X (eval dc X.env) (λv s1=>wq X (pyIter v) (Vr X ae σ tg R) X.xe s1) X.xe s
theorem pN (ho:s.heap.get? it=some o)(hc:o.cls=.type n)(hd:o.data=.fields vs)
    (hn:["enumerate","zip","dict_itemiterator","dict_reverseitemiterator","odict_iterator","itertools.zip_longest","itertools.pairwise"].contains n=false) (hQ:Q () s):wpAny M A (letOwnedTupleGo tg (.ref it) u) Q E s:=by
  unfold letOwnedTupleGo;cases tg<;>first
    |exact wY hQ
    | (cases u<;>first
        |exact wY hQ
        | (refine wX (wpAny_load ho ?_)
           rw[hc,hd]
           show wpAny M A (if(["enumerate","zip","dict_itemiterator","dict_reverseitemiterator","odict_iterator","itertools.zip_longest","itertools.pairwise"].contains n && vs[0]? == some (rawInt _))=true then _ else _) Q E s
           rw[if_neg (by intro h;rw[hn,Bool.false_and]at h;cases h)]
           exact wY hQ))
noncomputable def Vs (K:Frag)(a:Addr):It :=
 ⟨λi H=>∃xs x,hU K H a xs/\xs[i]? = some x,λi H x H'=>H'=H/\∀xs,hU K H a xs->xs[i]? = some x,λi H=>∃xs,hU K H a xs/\xs.length<=i⟩
noncomputable def Vt (K:Frag)(a:Addr):It :=
 ⟨λi H=>∃xs x,jj K H a xs/\xs[i]? = some x,λi H x H'=>H'=H/\∀xs,jj K H a xs->xs[i]? = some x,λi H=>∃xs,jj K H a xs/\xs.length<=i⟩
noncomputable def Sg (lo:Int)(n:Nat):It:=⟨λi _=>i<n,λi H x H'=>H'=H/\x=.int (lo+i),λi _=>n<=i⟩
theorem Dn {P:Program}{w:World}{K:Frag}{tg:Expr}(a it:Addr):Turn P w K tg (Vs K a) [it] it (λi h=>h.IsListIter it a i) where
 mem:=by simp
 obj:=λi h st b hb=>by
  have e:b=it:=by simpa using hb
  subst e;obtain⟨o,e,c,d⟩:=st;exact⟨o,e,λv z=>by rw[d]at z;cases z⟩
 keep:=λi h h' st k=>st.at λo e=>k it (by simp) o e
 item:=by
  intro X hP hw hK hc i ae s σ H E I hf st hg;subst hP hw hK;obtain⟨xs,x,hq,hx⟩:=hg;obtain⟨its,rv,p,hz⟩:=I.list hq;obtain⟨u,hu,ru⟩:=rv.get hx;obtain⟨f0,f1,f2,f3,f4,f5⟩:=hf it (by simp);refine wpAny_pyNext_list_item st p.isList (x:=u) (by simpa using hu) λh' jh sb=>?_;have I1:Inv X ae σ H { s with heap:=h' }:=I.turned (t':=s.toks) (λb o hb e=>(sb.2 b hb).trans e) f0 f1 f3 f4 f5;obtain⟨o,e,c,d⟩:=id jh;exact⟨u,rfl,pN (s:={ s with heap:=h' }) e c d (by decide) ⟨x,H,I1,ru,⟨rfl,λys hy=>by rw[I.list_inj hy hq];exact hx⟩,jh,λb hb=>(hf b hb).1⟩⟩
 done:=by
  intro X hP hw hK hc i ae s σ H E I hf st hg;subst hP hw hK;obtain⟨xs,hq,hx⟩:=hg;obtain⟨its,rv,p,hz⟩:=I.list hq;obtain⟨f0,f1,f2,f3,f4,f5⟩:=hf it (by simp);have hl:=rv.length;exact wpAny_pyNext_list_end (I.ok.hd hc) st p.isList (by simp;omega) λh' eb=>⟨rfl,I.turned (t':=s.toks) (λb o hb e=>eb b o hb e) f0 f1 f3 f4 f5⟩
 self:=λ_ _ _ _ _ st h=>wpAny_pyIter_listiter st h
theorem Al {P:Program}{w:World}{K:Frag}{tg:Expr}(a it:Addr):Turn P w K tg (Vt K a) [it] it (λi h=>h.IsTupleIter it a i) where
 mem:=by simp
 obj:=λi h st b hb=>by
  have e:b=it:=by simpa using hb
  subst e;obtain⟨o,e,c,d⟩:=st;exact⟨o,e,λv z=>by rw[d]at z;cases z⟩
 keep:=λi h h' st k=>st.at λo e=>k it (by simp) o e
 item:=by
  intro X hP hw hK hc i ae s σ H E I hf st hg;subst hP hw hK;obtain⟨xs,x,hq,hx⟩:=hg;obtain⟨its,rv,p,hz⟩:=I.tuple hq;obtain⟨u,hu,ru⟩:=rv.get hx;obtain⟨f0,f1,f2,f3,f4,f5⟩:=hf it (by simp);refine wpAny_pyNext_tuple_item st (show s.heap.IsTuple a its.toArray from p) (x:=u) (by simpa using hu) λh' jh sb=>?_;have I1:Inv X ae σ H { s with heap:=h' }:=I.turned (t':=s.toks) (λb o hb e=>(sb.2 b hb).trans e) f0 f1 f3 f4 f5;obtain⟨o,e,c,d⟩:=id jh;exact⟨u,rfl,pN (s:={ s with heap:=h' }) e c d (by decide) ⟨x,H,I1,ru,⟨rfl,λys hy=>by rw[I.tuple_inj hy hq];exact hx⟩,jh,λb hb=>(hf b hb).1⟩⟩
 done:=by
  intro X hP hw hK hc i ae s σ H E I hf st hg;subst hP hw hK;obtain⟨xs,hq,hx⟩:=hg;obtain⟨its,rv,p,hz⟩:=I.tuple hq;obtain⟨f0,f1,f2,f3,f4,f5⟩:=hf it (by simp);have hl:=rv.length;exact wpAny_pyNext_tuple_end (I.ok.hd hc) st (show s.heap.IsTuple a its.toArray from p) (by simp;omega) λh' eb=>⟨rfl,I.turned (t':=s.toks) (λb o hb e=>eb b o hb e) f0 f1 f3 f4 f5⟩
 self:=λ_ _ _ _ _ st h=>wpAny_pyIter_tupleiter st h
theorem Am {P:Program}{w:World}{K:Frag}{tg:Expr}(it:Addr)(lo:Int)(n:Nat):Turn P w K tg (Sg lo n) [it] it (λi h=>IsRangeIter h it (lo+(i:Nat)*1) ((n:Int) - (i:Nat)) 1) where
 mem:=by simp
 obj:=λi h st b hb=>by
  have e:b=it:=by simpa using hb
  subst e;exact⟨_,st,λv z=>by
   have z':Data.fields _=Data.cell v:=z;cases z'⟩
 keep:=λi h h' st k=>k it (by simp) _ st
 item:=by
  intro X hP hw hK hc i ae s σ H E I hf st hg;subst hP hw hK;obtain⟨f0,f1,f2,f3,f4,f5⟩:=hf it (by simp);have W:=Walks.range (prog:=X.prog) (w:=X.w) (I.ok.hd hc) it lo 1 n;refine W.item i s _ _ hg st λv h' tk hv jh kk=>?_;obtain⟨t,rfl⟩:=hv;have I1:Inv X ae σ H { s with heap:=h',toks:=tk }:=I.turned (λb o hb e=>kk b o (by simpa using hb) e) f0 f1 f3 f4 f5;refine⟨_,rfl,pN (s:={ s with heap:=h',toks:=tk }) (n:="range_iterator") jh rfl rfl (by decide) ⟨.int (lo+i),H,I1,⟨t,?_⟩,⟨rfl,rfl⟩,jh,λb hb=>(hf b hb).1⟩⟩;rw[Int.mul_one]
 done:=by
  intro X hP hw hK hc i ae s σ H E I hf st hg;subst hP hw hK;obtain⟨f0,f1,f2,f3,f4,f5⟩:=hf it (by simp);exact wpAny_pyNext_range_end (I.ok.hd hc) st (by have:n<=i:=hg;omega) λh' eb=>⟨rfl,I.turned (t':=s.toks) (λb o hb e=>eb b o hb e) f0 f1 f3 f4 f5⟩
 self:=λ_ _ _ _ _ st h=>wpAny_pyIter_rangeiter st h
section
variable {X:Cx}{tg:Expr}
def PQ (K:Frag)(tl:TE):TI:=λσ H R=>tl σ H λx H1=>∃a,x=.ref a/\(∃xs,hU K H1 a xs)/\R (Vs K a) H1
def SY (K:Frag)(tl:TE):TI:=λσ H R=>tl σ H λx H1=>∃a,x=.ref a/\(∃xs,jj K H1 a xs)/\R (Vt K a) H1
theorem Il {l:Expr}{tl:TE}(hl:PE X l tl):PI X tg l (PQ X.K tl):=by
 intro ae s σ H R I h;refine cE (hl ae s σ H _ I h) λv s1 ⟨x,H1,I1,r1,q1⟩=>?_;obtain⟨a,e,⟨xs,hq⟩,q⟩:=q1;subst e;cases r1
 obtain⟨its,rv,p,hz⟩:=I1.list hq;refine wpAny_pyIter_list p.isList ?_;refine⟨s1.heap.objs.size,[s1.heap.objs.size],_,_,H1,rfl,I1.kept (t':=s1.toks) λb o e=>vZ _ e,Dn a _,⟨_,vY _ rfl,rfl,rfl⟩,λb hb=>?_,q⟩;have e:b=s1.heap.objs.size:=by simpa using hb
 subst e;exact I1.fpOk (vT _) (I1.hok.fresh (vT _))
theorem MC {l:Expr}{tl:TE}(hl:PE X l tl):PI X tg l (SY X.K tl):=by
 intro ae s σ H R I h;refine cE (hl ae s σ H _ I h) λv s1 ⟨x,H1,I1,r1,q1⟩=>?_;obtain⟨a,e,⟨xs,hq⟩,q⟩:=q1;subst e;cases r1
 obtain⟨its,rv,p,hz⟩:=I1.tuple hq;refine wpAny_pyIter_tuple (show s1.heap.IsTuple a its.toArray from p) ?_;refine⟨s1.heap.objs.size,[s1.heap.objs.size],_,_,H1,rfl,I1.kept (t':=s1.toks) λb o e=>vZ _ e,Al a _,⟨_,vY _ rfl,rfl,rfl⟩,λb hb=>?_,q⟩;have e:b=s1.heap.objs.size:=by simpa using hb
 subst e;exact I1.fpOk (vT _) (I1.hok.fresh (vT _))
theorem EX {ae:List (Addr×Obj)}{σ:St}{H:Hp}{s:Shared}{R:It->Hp->Prop}{E:Value->Shared->Prop}{lo hi:Int}{t u v:Tok}{tk:Nat}(I:Inv X ae σ H s)(h1 : -(2 ^ 62)<=lo)(h2:lo<2 ^ 62)(h3 : -(2 ^ 62)<=hi)(h4:hi<2 ^ 62)
  (q:R (Sg lo (hi - lo).toNat) H):wq X (pyIter (.ref s.heap.objs.size)) (Vr X ae σ tg R) E { s with heap:=s.heap.push { cls:=.type "range",data:=.fields #[.int lo t,.int hi u,.int 1 v] },toks:=tk }:=by
 refine wpAny_pyIter_range (IsRange.new ..) (small_one h1 h2 h3 h4) ?_;have I1:Inv X ae σ H { s with heap:=s.heap.push { cls:=.type "range",data:=.fields #[.int lo t,.int hi u,.int 1 v] },toks:=tk }:=I.kept λb o e=>vZ _ e;refine⟨(s.heap.push { cls:=.type "range",data:=.fields #[.int lo t,.int hi u,.int 1 v] }).objs.size,[(s.heap.push { cls:=.type "range",data:=.fields #[.int lo t,.int hi u,.int 1 v] }).objs.size],_,_,H,rfl,
  I1.kept (t':=tk) λb o e=>vZ _ e,Am _ lo (hi - lo).toNat,?_,λb hb=>?_,q⟩
 ·have e1:lo+((0:Nat):Int)*1=lo:=by simp
  have e2:(((hi - lo).toNat:Nat):Int) - ((0:Nat):Int)=Builtin.Range.rangeSize lo hi 1:=by rw[rangeSize_one];split<;>omega
  show IsRangeIter _ _ (lo+((0:Nat):Int)*1) ((((hi - lo).toNat:Nat):Int) - ((0:Nat):Int)) 1;rw[e1,e2];exact vY _ rfl
 ·have e:b=(s.heap.push { cls:=.type "range",data:=.fields #[.int lo t,.int hi u,.int 1 v] }).objs.size:=by simpa using hb
  subst e;exact I1.fpOk (vT _) (I1.hok.fresh (vT _))
def PR (ta:TA):TI:=λσ H R=>ta σ H λvs H1=>∃j:Int,vs=[.int j]/\-(2 ^ 62)<=j/\j<2 ^ 62/\R (Sg 0 j.toNat) H1
theorem Dp {a:Expr}{ta:TA}{p pos:Pos}(hg:Gl X "range")(hm:X.mg "range" = none)(ha:PA X [a] ta)(hs:starEach [a] X.env=[(false,eval a X.env)]:=by rfl):PI X tg (.Call (.Name "range" p) [a] [] pos) (PR ta):=by
 intro ae s σ H R I h;refine Call_ (nw I hg hm boot_range (PyProof.Rows.callWith_type1 (cE (ha pos ae s σ H _ I h) λus s1 ⟨vs,H1,I1,r1,q1⟩=>?_) hs rfl));obtain⟨j,e,q1,q2,q⟩:=q1;subst e;cases r1 with
 |cons r rr=>
  cases rr
  obtain⟨t,rfl⟩:=r;exact call_range_1 (EX I1 (by omega) (by omega) q1 q2 (by simpa using q))
def MD (wi:TI)(g:TG)(tb:TS):TS:=λD σ H=>wi σ H λJ H1=>∃W:Nat->Nat->St->Hp->Prop,(∃m,W 0 m σ H1)/\∀i m σ H,W i m σ H ->
 (J.stop i H/\D.nx σ H)∨(J.go i H/\∃N:St->Hp->Prop,(∀σ' H',N σ' H'->∃m',m'<m/\W (i+1) m' σ' H')/\∀x H',J.yld i H x H'->g x σ H' λσ2 H2=>tb { D with nx:=N,ct:=N,bk:=D.nx } σ2 H2)
def nA (fp:List Addr)(h:Heap):List (Addr×Obj):=fp.filterMap λb=>(h.get? b).map λo=>(b,o)
theorem jA {fp:List Addr}{h:Heap}{b:Addr}{o:Obj}(hb:b∈fp)(e:h.get? b=some o):(b,o)∈nA fp h:=List.mem_filterMap.mpr ⟨b,hb,by rw[e];rfl⟩
theorem Dq (hp:p∈nA fp h):p.1∈fp/\h.get? p.1=some p.2:=by
 obtain⟨b,hb,e⟩:=List.mem_filterMap.mp hp;cases q:h.get? b with
 |none=>rw[q]at e;cases e
 |some o=>
  rw[q]at e;have e':(b,o)=p:=vK e;subst e';exact⟨hb,q⟩
theorem Inv.pinned (I:Inv X ae σ H s)(hf:∀b∈fp,nz X ae H b)(ho:∀b∈fp,∃o,s.heap.get? b=some o/\∀v,o.data≠.cell v):Inv X (ae++nA fp s.heap) σ H s :=
 I.pins_of λp hp=>(List.mem_append.mp hp).elim (λz=>I.pin p (mY _ z)) λz=>by
  obtain⟨hb,e⟩:=Dq z;obtain⟨f0,f1,f2,_⟩:=hf p.1 hb;obtain⟨o,e',d⟩:=ho p.1 hb;rw[e]at e';cases e';exact⟨e,f0,f1,f2,d⟩
theorem Inv.unpinned (I:Inv X (ae++pl) σ H s):Inv X ae σ H s:=I.pins_of λp hp=>I.pin p (mY _ (List.mem_append_left _ hp))
theorem EY {dc:Expr}{body:List Stmt}{wi:TI}{g:TG}{tb:TS}{pos:Pos}(hp:PassesOwn (model X.prog X.w) X.A X.env X.xe)(hc:X.calm=true)(hi:PI X tg dc wi)(hg:PG X tg g)(hb:vz X body tb)
  (hs:∀x,foldedSetIterable dc X.env x=pure x:=by intro _;rfl):PS X (.For tg dc body [] pos) (MD wi g tb):=by
 intro ae s σ H D I h;refine wpAny_For (cE (hi ae s σ H _ I h) λv s1 h1=>cE h1 λS1 s2 h2=>?_) hs;obtain⟨it,fp,tn,J,H2,e,I2,T,K0,f2,W,⟨m0,w0⟩,Ol⟩:=h2;subst e
 -- what stays true of the iterator's objects through the loop
 have Om:∀ {H':Hp},(∀b∈fp,H' b=none)->∀b∈fp,nz X ae H' b:=λhn b hb=>⟨hn b hb,(f2 b hb).2⟩;refine codeAny_forLoop_any (λn s'=>∃i σ' H',Inv X ae σ' H' s'/\tn i s'.heap/\(∀b∈fp,H' b=none)/\W i n σ' H') ?_ m0 ⟨0,σ,H2,I2,K0,λb hb=>(f2 b hb).1,w0⟩;rintro n s3 ⟨i,σ3,H3,I3,VU,VV,w3⟩;rcases Ol i n σ3 H3 w3 with⟨stop,qn⟩|⟨go,N,hN,step⟩
 ·refine wpAny_passesOwn hp (cE (T.done X rfl rfl rfl hc i ae s3 σ3 H3 X.xe I3 (Om VV) VU stop) λr s4 ⟨hr,I4⟩=>?_);subst hr;exact wpAny_execs_nil ⟨σ3,H3,I4,qn⟩
 ·refine wpAny_passesOwn hp (cE (T.item X rfl rfl rfl hc i ae s3 σ3 H3 X.xe I3 (Om VV) VU go) λr s4 ⟨u,hr,h4⟩=>?_);subst hr;refine wpAny_passesOwn hp (cE h4 λ_ s5 ⟨x,H5,I5,r5,y5,Ub,Uc⟩=>?_);have XX:=I5.pinned (Om Uc) (T.obj _ _ Ub);refine wpAny_passesOwn hp (cE (hg _ s5 σ3 H5 x u _ XX r5 (step x H5 y5)) λ_ s6 ⟨σ6,H6,I6,q6⟩=>?_);refine wpAny_passesOwn hp (cE (hb _ s6 σ6 H6 _ I6 q6) λf s7 q7=>?_);have again:∀ {σ7:St}{H7:Hp},Inv X (ae++nA fp s5.heap) σ7 H7 s7->N σ7 H7->∃m,m<n/\∃i σ' H',Inv X ae σ' H' s7/\tn i s7.heap/\(∀b∈fp,H' b=none)/\W i m σ' H':=λ{σ7 H7} I7 n7=>by
   obtain⟨m',hm,w7⟩:=hN σ7 H7 n7;refine⟨m',hm,i+1,σ7,H7,I7.unpinned,T.keep _ _ _ Ub λb hb o e=>(I7.pin (b,o) (mY _ (mY _ (jA hb e)))).1,λb hb=>?_,w7⟩;obtain⟨o,e,d⟩:=T.obj _ _ Ub b hb;exact(I7.pin (b,o) (mY _ (mY _ (jA hb e)))).2.1
  cases f with
  |next=>obtain⟨σ7,H7,I7,n7⟩:=q7;exact again I7 n7
  |cont=>obtain⟨σ7,H7,I7,n7⟩:=q7;exact again I7 n7
  |brk=>obtain⟨σ7,H7,I7,q7⟩:=q7;exact⟨σ7,H7,I7.unpinned,q7⟩
  |ret v=>obtain⟨x7,σ7,H7,I7,r7,q7⟩:=q7;exact⟨x7,σ7,H7,I7.unpinned,r7,q7⟩
end
abbrev R2:=V->V->Hp->VK->Prop
def dN (X:Cx)(f:Value->Value->Sem Value)(r:R2):Prop :=
 ∀(ae:List (Addr×Obj))(s:Shared)(σ:St)(H:Hp)(x y:V)(v u:Value)(Q:VK),Inv X ae σ H s->ba x v->ba y u->r x y H Q ->
  wq X (f v u) (EP X ae σ Q) X.xe s
def PU (X:Cx)(f:Value->Sem Value)(r:V->Hp->VK->Prop):Prop :=
 ∀(ae:List (Addr×Obj))(s:Shared)(σ:St)(H:Hp)(x:V)(v:Value)(Q:VK),Inv X ae σ H s->ba x v->r x H Q ->
  wq X (f v) (EP X ae σ Q) X.xe s
def bV (X:Cx)(f:Value)(r:List V->Hp->VK->Prop):Prop :=
 ∀(ae:List (Addr×Obj))(s:Shared)(σ:St)(H:Hp)(xs:List V)(us:List Value)(Q:VK),Inv X ae σ H s->aY xs us->r xs H Q ->
  wq X (call f us) (EP X ae σ Q) X.xe s
def Sh (r:R2)(ta tb:TE):TE:=λσ H Q=>ta σ H λx H1=>tb σ H1 λy H2=>r x y H2 Q
def Xh (r:V->Hp->VK->Prop)(ta:TE):TE:=λσ H Q=>ta σ H λx H1=>r x H1 Q
def rI (C:Int->Int->Prop)(g:Int->Int->V):R2:=λx y H Q=>∃i j,x=.int i/\y=.int j/\C i j/\Q (g i j) H
def HP (g:Int->Int->V):R2:=λx y H Q=>∃i j,x=.int i/\y=.int j/\Q (g i j) H
def rU (g:Int->V):V->Hp->VK->Prop:=λx H Q=>∃i,x=.int i/\Q (g i) H
section
variable {X:Cx}{a b c:Expr}{ta tb tc:TE}{pos:Pos}
theorem ME (ha:PE X a ta)(hb:PE X b tb){ae:List (Addr×Obj)}{s:Shared}{σ:St}{H:Hp}{R:V->V->Hp->Prop}(I:Inv X ae σ H s)
  (h:ta σ H λx H1=>tb σ H1 λy H2=>R x y H2) {Q:Value->Shared->Prop}{f:Value->Value->Sem Value}
  (hf:∀v u s2 x y H2,Inv X ae σ H2 s2->ba x v->ba y u->R x y H2->wq X (f v u) Q X.xe s2):
  wq X (eval a X.env) (λv s₁=>wq X (eval b X.env) (λu s₂=>wq X (f v u) Q X.xe s₂) X.xe s₁) X.xe s:=by
 refine cE (ha ae s σ H _ I h) λv s1 ⟨x,H1,I1,r1,q1⟩=>?_;refine cE (hb ae s1 σ H1 _ I1 q1) λu s2 ⟨y,H2,I2,r2,q2⟩=>?_;exact hf v u s2 x y H2 I2 r1 r2 q2
theorem KP {op:Operator}{r:R2}(ho:dN X (binaryOp op) r)(ha:PE X a ta)(hb:PE X b tb):PE X (.BinOp a op b pos) (Sh r ta tb):=by
 intro ae s σ H Q I h;exact wpAny_BinOp (ME ha hb I h λv u s2 x y H2 I2 rx ry q=>ho ae s2 σ H2 x y v u Q I2 rx ry q)
theorem PV {op:UnaryOp}{r:V->Hp->VK->Prop}(ho:PU X (unaryOp op) r)(ha:PE X a ta):PE X (.UnaryOp op a pos) (Xh r ta):=by
 intro ae s σ H Q I h;exact UnaryOp_ (cE (ha ae s σ H _ I h) λv s1 ⟨x,H1,I1,r1,q1⟩=>ho ae s1 σ H1 x v Q I1 r1 q1)
theorem Ta {f:Value->Value->Sem Value}{C:Int->Int->Prop}{g:Int->Int->Int}
  (rule:∀(i j:Int)(t u:Tok)(s:Shared)(Q:Value->Shared->Prop)(E:Value->Shared->Prop),C i j->Q (.int (g i j) s.toks) { s with toks:=s.toks+1 }->wq X (f (.int i t) (.int j u)) Q E s):
  dN X f (rI C λi j=>.int (g i j)):=by
 intro ae s σ H x y v u Q I rx ry h;obtain⟨i,j,rfl,rfl,hc,q⟩:=h;obtain⟨t,rfl⟩:=rx;obtain⟨t',rfl⟩:=ry;exact rule i j t t' s _ _ hc ⟨.int (g i j),H,I.tok _,⟨_,rfl⟩,q⟩
theorem MF {f:Value->Value->Sem Value}{g:Int->Int->Int}
  (rule:∀(i j:Int)(t u:Tok)(s:Shared)(Q:Value->Shared->Prop)(E:Value->Shared->Prop),Q (.int (g i j) s.toks) { s with toks:=s.toks+1 }->wq X (f (.int i t) (.int j u)) Q E s):
  dN X f (HP λi j=>.int (g i j)):=by
 intro ae s σ H x y v u Q I rx ry h;obtain⟨i,j,rfl,rfl,q⟩:=h;obtain⟨t,rfl⟩:=rx;obtain⟨t',rfl⟩:=ry;exact rule i j t t' s _ _ ⟨.int (g i j),H,I.tok _,⟨_,rfl⟩,q⟩
theorem Im {f:Value->Value->Sem Value}{g:Int->Int->Bool}
  (rule:∀(i j:Int)(t u:Tok)(s:Shared)(Q:Value->Shared->Prop)(E:Value->Shared->Prop),Q (.bool (g i j)) s->wq X (f (.int i t) (.int j u)) Q E s):
  dN X f (HP λi j=>.bl (g i j)):=by
 intro ae s σ H x y v u Q I rx ry h;obtain⟨i,j,rfl,rfl,q⟩:=h;obtain⟨t,rfl⟩:=rx;obtain⟨t',rfl⟩:=ry;exact rule i j t t' s _ _ ⟨.bl (g i j),H,I,rfl,q⟩
def PX (i j:Int):Prop:=0<j/\j<1073741824
def Io (i j:Int):Prop:=(-(2 ^ 64)<i/\i<2 ^ 64)∨(-(2 ^ 64)<j/\j<2 ^ 64)
theorem Io.ok (h:Io i j):IntMulOk i j:=by
 rcases h with⟨h1,h2⟩|⟨h1,h2⟩
 ·exact .of_left (intBits_le_64 h1 h2)
 ·exact .of_right (intBits_le_64 h1 h2)
theorem MG:dN X (binaryOp .Add) (HP λi j=>.int (i+j)):=MF λ_ _ _ _ _ _ _ q=>add_int q
theorem MH:dN X (binaryOp .Sub) (HP λi j=>.int (i - j)):=MF λ_ _ _ _ _ _ _ q=>sub_int q
theorem MI:dN X (binaryOp .Mult) (rI Io λi j=>.int (i*j)):=Ta λ_ _ _ _ _ _ _ hc q=>mul_int q hc.ok
theorem Ip:dN X (binaryOp .FloorDiv) (rI PX λi j=>.int (i / j)):=Ta λi j _ _ _ _ _ hc q=>by
 have h1:(0:Int)<j:=hc.1;have h2:j<1073741824:=hc.2;exact floordiv_int (by omega) (by rw[Int.fdiv_eq_ediv_of_nonneg i (by omega)];exact q) (.inl (PyProof.noPylong_small (by omega)))
theorem MJ:dN X (binaryOp .Mod) (rI (λ_ j=>0<j) λi j=>.int (i % j)):=Ta λi j _ _ _ _ _ hc q=>by
 have h1:(0:Int)<j:=hc;exact mod_int' (by omega) (by rw[Int.fmod_eq_emod_of_nonneg i (by omega)];exact q)
theorem ML:dN X (binaryOp .BitAnd) (HP λi j=>.int (Builtin.bitAnd i j)):=MF λ_ _ _ _ _ _ _ q=>and_int q
theorem Xi {f:Value->Sem Value}{g:Int->Int}
  (rule:∀(i:Int)(t:Tok)(s:Shared)(Q:Value->Shared->Prop)(E:Value->Shared->Prop),Q (.int (g i) s.toks) { s with toks:=s.toks+1 }->wq X (f (.int i t)) Q E s):
  PU X f (rU λi=>.int (g i)):=by
 intro ae s σ H x v Q I rx h;obtain⟨i,rfl,q⟩:=h;obtain⟨t,rfl⟩:=rx;exact rule i t s _ _ ⟨.int (g i),H,I.tok _,⟨_,rfl⟩,q⟩
theorem MN:PU X (unaryOp .USub) (rU λi=>.int (-i)):=Xi λ_ _ _ _ _ q=>neg_int q
theorem Dr:dN X (binaryOp .Add) (λx y H Q=>∃i k,x=.int i/\y=.bl k/\Q (.int (i+b2i k)) H):=by
 intro ae s σ H x y v u Q I rx ry h;obtain⟨i,k,rfl,rfl,q⟩:=h;obtain⟨t,rfl⟩:=rx;cases ry
 exact add_int_bool ⟨.int (i+b2i k),H,I.tok _,⟨_,rfl⟩,q⟩
end
section
variable {X:Cx}{a b c:Expr}{ta tb tc:TE}{pos:Pos}
theorem PY:dN X (compareOp .Lt) (HP λi j=>.bl (decide (i<j))):=Im λ_ _ _ _ _ _ _ q=>lt_int q
theorem PZ:dN X (compareOp .LtE) (HP λi j=>.bl (decide (i<=j))):=Im λ_ _ _ _ _ _ _ q=>le_int q
theorem Qa:dN X (compareOp .Gt) (HP λi j=>.bl (decide (j<i))):=Im λ_ _ _ _ _ _ _ q=>gt_int q
theorem Qb:dN X (compareOp .GtE) (HP λi j=>.bl (decide (j<=i))):=Im λ_ _ _ _ _ _ _ q=>ge_int q
theorem dN.or (h:dN X f r)(h':dN X f r'):dN X f (λx y H Q=>r x y H Q∨r' x y H Q):=by
 intro ae s σ H x y v u Q I rx ry q;rcases q with q|q
 ·exact h ae s σ H x y v u Q I rx ry q
 ·exact h' ae s σ H x y v u Q I rx ry q
theorem Tc (b:Expr)(h:op≠.In:=by decide)(h2:op≠.NotIn:=by decide):behindInMarks op b=false:=by
 have e1:(op == CmpOp.In)=false:=by cases op<;>first|rfl|exact absurd rfl h
 have e2:(op == CmpOp.NotIn)=false:=by cases op<;>first|rfl|exact absurd rfl h2
 cases b<;>simp[behindInMarks,e1,e2]
theorem Iq (ho:dN X (compareOp op) r)(ha:PE X a ta)(hb:PE X b tb)(hm:behindInMarks op b=false):PE X (.Compare a [op] [b] pos) (Sh r ta tb):=by
 intro ae s σ H Q I h;exact wpAny_Compare1 (ME ha hb I h λv u s2 x y H2 I2 rx ry q=>ho ae s2 σ H2 x y v u Q I2 rx ry q) hm
def Qc (t:TE):TT:=λσ H Q=>t σ H λx H'=>∃k,x=.bl k/\Q k H'
theorem Ir {op:CmpOp}{r:R2}(ho:dN X (compareOp op) r)(ha:PE X a ta)(hb:PE X b tb)(hm:behindInMarks op b=false):PT X (.Compare a [op] [b] pos) (Qc (Sh r ta tb)):=by
 intro ae s σ H Q I h;refine wpAny_isTrue_Compare1 (cE (ha ae s σ H _ I h) λv s1 ⟨x,H1,I1,r1,q1⟩=>cE (hb ae s1 σ H1 _ I1 q1) λu s2 ⟨y,H2,I2,r2,q2⟩=>
  cE (ho ae s2 σ H2 x y v u _ I2 r1 r2 q2) λc s3 ⟨z,H3,I3,r3,k,e,q3⟩=>?_) hm
 subst e;cases r3
 exact wpAny_truthy_bool ⟨H3,I3,q3⟩
def EZ (r r':R2)(ta tb tc:TE):TE:=λσ H Q=>ta σ H λx H1=>tb σ H1 λy H2=>r x y H2 λz H3=>∃k,z=.bl k /\
 (if k=true then tc σ H3 λw' H4=>r' y w' H4 Q else Q (.bl false) H3)
theorem Fa {op Ph:CmpOp}{r r':R2}(ho:dN X (compareOp op) r)(t6:dN X (compareOp Ph) r')(ha:PE X a ta)(hb:PE X b tb)(hc:PE X c tc)
  (hm:lastMarks [op,Ph] [b,c]=false:=by with_unfolding_all rfl):PE X (.Compare a [op,Ph] [b,c] pos) (EZ r r' ta tb tc):=by
 intro ae s σ H Q I h;refine Compare_chain (cE (ha ae s σ H _ I h) λv s1 ⟨x,H1,I1,r1,q1⟩=>chain_link (cE (hb ae s1 σ H1 _ I1 q1) λu s2 ⟨y,H2,I2,r2,q2⟩=>
  cE (ho ae s2 σ H2 x y v u _ I2 r1 r2 q2) λd s3 ⟨z,H3,I3,r3,k,e,q3⟩=>?_)) hm
 subst e;cases r3
 refine wpAny_truthy_bool ?_;cases k with
 |false=>exact ite_ff ⟨.bl false,H3,I3,rfl,q3⟩
 |true=>exact ite_tt (chain_last (cE (hc ae s3 σ H3 _ I3 q3) λw' s4 ⟨z',H4,I4,r4,q4⟩=>t6 ae s4 σ H4 y z' u w' Q I4 r2 r4 q4))
theorem nB:(sizeLine:Nat)<2 ^ 63:=by rw[sizeLine_eq];decide
theorem An:dN X (binaryOp .Add) (λx y H Q=>∃i j,x=.str i/\y=.str j/\i.length+j.length<=sizeLine/\Q (.str (i++j)) H):=by
 intro ae s σ H x y v u Q I rx ry h;obtain⟨i,j,rfl,rfl,hz,q⟩:=h;obtain⟨t,rfl⟩:=rx;obtain⟨t',rfl⟩:=ry;exact add_str (λt' tk=>⟨.str (i++j),H,I.tok _,⟨_,rfl⟩,q⟩) hz
theorem hV (r:aY [x] us):∃u,us=[u]/\ba x u:=by
 cases r with
 |cons r1 r2=>cases r2;exact⟨_,rfl,r1⟩
theorem KQ (r:aY [x,y] us):∃u w',us=[u,w']/\ba x u/\ba y w':=by
 cases r with
 |cons r1 r2=>
  cases r2 with
  |cons r3 r4=>cases r4;exact⟨_,_,rfl,r1,r3⟩
theorem Ds (hc:X.calm=true):bV X (.builtin "max") (λxs H Q=>∃i j,xs=[.int i,.int j]/\Q (.int (if j > i then j else i)) H):=by
 intro ae s σ H xs us Q I r h;obtain⟨i,j,rfl,q⟩:=h;obtain⟨u,w',rfl,⟨t,rfl⟩,⟨t',rfl⟩⟩:=KQ r;refine max_two_ints (I.ok.hd hc) λh' tk k=>⟨_,H,I.kept k,?_,q⟩;by_cases hj:j > i
 ·rw[if_pos hj,if_pos hj];exact⟨_,rfl⟩
 ·rw[if_neg hj,if_neg hj];exact⟨_,rfl⟩
theorem Dt (hc:X.calm=true):bV X (.builtin "min") (λxs H Q=>∃i j,xs=[.int i,.int j]/\Q (.int (if j<i then j else i)) H):=by
 intro ae s σ H xs us Q I r h;obtain⟨i,j,rfl,q⟩:=h;obtain⟨u,w',rfl,⟨t,rfl⟩,⟨t',rfl⟩⟩:=KQ r;refine min_two_ints (I.ok.hd hc) λh' tk k=>⟨_,H,I.kept k,?_,q⟩;by_cases hj:j<i
 ·rw[if_pos hj,if_pos hj];exact⟨_,rfl⟩
 ·rw[if_neg hj,if_neg hj];exact⟨_,rfl⟩
theorem Du:bV X (.type "int") (λxs H Q=>(∃i,xs=[.int i]/\Q (.int i) H)∨∃k,xs=[.bl k]/\Q (.int (if k then 1 else 0)) H):=by
 intro ae s σ H xs us Q I r h;rcases h with⟨i,rfl,q⟩|⟨k,rfl,q⟩
 ·obtain⟨u,rfl,t,rfl⟩:=hV r;exact call_int_int ⟨.int i,H,I,⟨_,rfl⟩,q⟩
 ·obtain⟨u,rfl,r1⟩:=hV r;cases r1
  exact call_int_bool ⟨.int (if k then 1 else 0),H,I.tok _,⟨_,rfl⟩,q⟩
end
structure K1 (h:Heap)(x dx C:Addr)(mA:Str->Option Value):Prop where
 obj:h.get? x=some (PySem.W.instObj C dx)
 ns:h.Ns1 dx mA
 ne:dx≠x
theorem Dv {h:Heap}{dx:Addr}{mA:Str->Option Value}(n:h.Ns1 dx mA):∃od,h.get? dx=some od/\∀name,PySem.W.lookIn name od=some (mA name):=by
 obtain⟨o,es,ep,ho,hd,hk,_,hm⟩:=n;refine⟨o,ho,λname=>?_⟩;have e:=hm name;unfold nsFind findBy at e;rw[←Array.find?_toList]at e;unfold PySem.W.lookIn;rw[hd];dsimp only;split
 ·rename_i y q;rw[q]at e;exact congrArg some e
 ·rename_i q;rw[q]at e;have a:es.toList.any (·.refKey)=false:=by
   rw[List.any_eq_false];intro y hy;obtain⟨z,t,zR⟩:=hk y (Array.mem_toList_iff.mp hy);simp[DictEntry.refKey,zR]
  have a':¬es.toList.any (·.refKey)=true:=by rw[a];exact uX
  rw[if_neg a'];exact congrArg some e
theorem K1.look (I:K1 h x dx C mA):∃od,PySem.W.InstAt h x (PySem.W.instObj C dx) C (some od)/\∀name,PySem.W.lookIn name od=some (mA name) :=
 let ⟨od,ho,hl⟩:=Dv I.ns
 ⟨od,⟨I.obj,rfl,rfl,ho⟩,hl⟩
section
variable {prog:Program}{w:World}{A:Around}{E:Value->Shared->Prop}{s:Shared}{K:Frag}{x dx C f:Addr}{mA:Str->Option Value}{name:Str}{v:Value}
theorem Fb (X:K.In s.heap)(I:K1 s.heap x dx C mA)(hg:PySem.W.plainGet K C name=true)
  (hf:PySem.W.findIn K (.ref C) name=some (some (.ref f))) (ht:PySem.W.isFn K (.ref f)=true) (hv:mA name=none) (h:Q (.ref f,[.ref x]) s):
  wpAny (model prog w) A (getMethod (.ref x) name pl) Q E s:=by
 obtain⟨od,J,hl⟩:=I.look;exact PySem.W.method_fn X J (PySem.W.plainGet_of hg).1 (PySem.W.plainGet_of hg).2 hf (beq_iff_eq.mp ht) (by show(PySem.W.lookIn name od).map (·.isSome)=some false;rw[hl,hv];rfl) h
theorem Qd (X:K.In s.heap)(hm:PySem.W.makesIn K C=true)
  (hi:PySem.W.findIn K (.ref C) "__init__" = some (some (.ref f))) (hf:PySem.W.typeIn K (.ref f)=some (.type "function"))
  (h:codeAny (model prog w) (A.under (.builtin "type.__call__" ⟨.ref C::vs,kw⟩)) (.call (.ref f) ⟨.ref (s.heap.objs.size+1)::vs,kw⟩) (PySem.W.InitBack (s.heap.objs.size+1) R)
   { s with heap:=(s.heap.push PySem.W.emptyDict).push (PySem.W.instObj C s.heap.objs.size) }):
  codeAny (model prog w) A (.call (.ref C) ⟨vs,kw⟩) R s:=by
 obtain⟨hh,g,d,t,os⟩:=s;exact PySem.W.make_core (PySem.W.makes_of X hm) (PySem.W.looks_findIn X hi) (λself=>PySem.W.bind_fn X self hf) (.inl rfl) h
end
theorem pi.none_of (r:pi none o):o=none:=by
 cases o with
 |none=>rfl
 |some u=>exact(show False from r).elim
section
variable {P:Program}{w:World}{H H':Hp}{h h':Heap}{a C dx:Addr}{fs XW:List (Str×V)}
theorem Iu (hok:lh P w H h)(e:H a=some (.ins C dx fs)):∃mA,K1 h a dx C mA/\(∀f,pi (fs.lookup f) (mA f))/\PySem.Within mA (fs.map (·.1))/\fs.length<=1000/\H dx=some (.own a):=by
 obtain⟨d,z,ne,ob,mA,n,r,q⟩:=(show cm P w H h a (.ins C dx fs)from hok a _ e);exact⟨mA,⟨ob,n,ne⟩,r,q,z,d⟩
end
structure Cls (K:Frag)(C:Addr):Prop where
 pg:PySem.W.plainGet K C Str.empty=true
 hd:PySem.W.hasDictIn K C=true
 po:PySem.W.plainOver K C=true
 sa:PySem.W.findIn K (.ref C) "__setattr__" = some (some (.builtin "object.__setattr__"))
theorem Cls.get {K:Frag}{C:Addr}(c:Cls K C)(f:Str):PySem.W.plainGet K C f=true:=c.pg
def MO (K:Frag)(C:Addr)(f:Str):Prop:=PySem.W.findIn K (.ref C) f=some none
structure Meth (K:Frag)(C:Addr)(m:Str)(f:Addr):Prop where
 at_:PySem.W.findIn K (.ref C) m=some (some (.ref f))
 fn:PySem.W.isFn K (.ref f)=true
 kp:PySem.W.keepIn K (.ref f)=true
section
variable {X:Cx}{ae:List (Addr×Obj)}{σ:St}{H:Hp}{s:Shared}{a C dx:Addr}{fs:List (Str×V)}{f:Str}{v:V}{A:Around}{E:Value->Shared->Prop}
theorem Ao {m:Str}{g:Addr}{pl:Sem Bool}{Q:Value×List Value->Shared->Prop}(I:Inv X ae σ H s)(e:H a=some (.ins C dx fs))(c:Cls X.K C)(k:Meth X.K C m g)(l:fs.lookup m=none)
  (h:Q (.ref g,[.ref a]) s):wpAny (model X.prog X.w) A (getMethod (.ref a) m pl) Q E s:=by
 obtain⟨mA,O,r,_,_,_⟩:=Iu I.hok e;have hn:mA m=none:=pi.none_of (by rw[←l];exact r m);exact Fb I.kIn O (c.get m) k.at_ k.fn hn h
theorem Inv.made (I:Inv X ae σ H s):Inv X ae σ (upd (upd H s.heap.objs.size (.own (s.heap.objs.size+1))) (s.heap.objs.size+1) (.ins C s.heap.objs.size []))
  { s with heap:=(s.heap.push PySem.W.emptyDict).push (PySem.W.instObj C s.heap.objs.size) }:=by
 have e1:(s.heap.push PySem.W.emptyDict).get? s.heap.objs.size=some PySem.W.emptyDict:=vY s.heap rfl;have e2:((s.heap.push PySem.W.emptyDict).push (PySem.W.instObj C s.heap.objs.size)).get? (s.heap.objs.size+1)=some (PySem.W.instObj C s.heap.objs.size):=by
  have:=vY (s.heap.push PySem.W.emptyDict) (o:=PySem.W.instObj C s.heap.objs.size) rfl;rwa [Heap.size_push]at this
 have e3:(s.heap.push PySem.W.emptyDict).Ns s.heap.objs.size (λ_=>none):=⟨PySem.W.emptyDict,#[],_,e1,rfl,(λe he=>absurd he (by simp)),λ_=>rfl⟩;have I1:=I.laid (a:=s.heap.objs.size) (o:=.own (s.heap.objs.size+1)) (h':=s.heap.push PySem.W.emptyDict) (t':=s.toks) (λb u q=>vZ _ q) (vT _) ⟨_,e1⟩;refine I1.laid (a:=s.heap.objs.size+1) (o:=.ins C s.heap.objs.size []) (t':=s.toks) (λb u q=>vZ _ q) (Nat.le_of_eq (Heap.size_push _ _)) ?_;have ne:s.heap.objs.size≠s.heap.objs.size+1:=vS (Nat.lt_succ_self _);refine⟨by rw[aI ne,aC],uN _,ne,e2,λ_=>none,(Heap.Ns1.of_empty e3).at λo q=>vZ _ q,λ_=>True.intro,λy hy=>absurd rfl hy⟩
end
def Xj (K:Frag)(ta:TE)(f:Str):TE:=λσ H Q=>ta σ H λx H1=>∃a C dx fs v,x=.ref a/\H1 a=some (.ins C dx fs)/\Cls K C/\MO K C f/\fs.lookup f=some v/\Q v H1
section
variable {X:Cx}{o e value:Expr}{f:Str}{pos zQ E6:Pos}{ta tv:TE}
theorem KR {pl:Sem Bool}{m:Str}{dI:Pos}{args:List Expr}{ae:List (Addr×Obj)}{s:Shared}{σ:St}{H:Hp}{Q:Value->Shared->Prop}{te:TE}(he:PE X e te)(I:Inv X ae σ H s)
  (h:te σ H λx H1=>∃a C dx fs g,x=.ref a/\H1 a=some (.ins C dx fs)/\Cls X.K C/\Meth X.K C m g/\fs.lookup m=none /\
   ∀s1,Inv X ae σ H1 s1->wq X (callWith pos (.ref g) [.ref a] (backTo pos (starEach args X.env)) (backToKw pos (keywordEach [] X.env))) Q X.xe s1)
  (ht:eval (.Call (.Attribute e m dI) args [] pos) X.env=(do
   let ov ←eval e X.env
   standAt dI.atName
   let (f,first) ←holding [ov] (getMethod ov m pl)
   callWith pos f first (backTo pos (starEach args X.env)) (backToKw pos (keywordEach [] X.env)))):
  wq X (eval (.Call (.Attribute e m dI) args [] pos) X.env) Q X.xe s:=by
 refine PySem.W.methodCall_KW (pl:=pl) (cE (he ae s σ H _ I h) λu s1 ⟨x,H1,I1,rx,a,C,dx,fs,g,ex,ea,c,k,l,q⟩=>?_) ht;subst ex;obtain rfl:u=Value.ref a:=rx;exact Ao I1 ea c k l (q s1 I1)
end
section
variable {X:Cx}{ae:List (Addr×Obj)}{σ:St}{H:Hp}{s:Shared}{A:Around}{E:Value->Shared->Prop}{Q:Value->Shared->Prop}{c:Value}{b:Bool}
inductive TyOf (K:Frag)(H:Hp):V->Value->Prop where
 |non:TyOf K H .non (.type "NoneType")
 |bl (x:Bool):TyOf K H (.bl x) (.type "bool")
 |int (i:Int):TyOf K H (.int i) (.type "int")
 |str (x:Str):TyOf K H (.str x) (.type "str")
 |flt (x:UInt64):TyOf K H (.flt x) (.type "float")
 |lst {a:Addr}{xs:List V}(e:H a=some (.lst xs)):TyOf K H (.ref a) (.type "list")
 |frz {a:Addr}{o:Obj}{xs:List V}(e:H a=some (.frz o (.lst xs))):TyOf K H (.ref a) (.type "list")
 |tup {a:Addr}{xs:List V}(e:H a=some (.tup xs)):TyOf K H (.ref a) (.type "tuple")
 |dK {a:Addr}{aH:List (cx×V)}{ob:Obj}(e:H a=some (.dK aH ob)):TyOf K H (.ref a) (.type "dict")
 |dT {a:Addr}{aH:List (List cx×V)}(e:H a=some (.dT aH)):TyOf K H (.ref a) (.type "dict")
 |ins {a C dx:Addr}{fs:List (Str×V)}(e:H a=some (.ins C dx fs)) (cl:Cls K C) (ha:PySem.W.findIn K (.ref C) "__class__" = some (some (.builtin "object.__class__")))
   (hn:PySem.W.specialIn K (.builtin "object.__class__") "__get__" = some (some (.builtin "getset_descriptor.__get__"))) (htk:PySem.W.takesIn K (.builtin "object.__class__")=some true)
   (hm:PySem.W.mroIn K C (.type "object")=some true):TyOf K H (.ref a) (.ref C)
end
structure eP (k:Nat)(A:Around):Prop where
 hd:A.handled=none
 dp:A.depth+3*k+5<recursionLimit
 un:A.units+16*k+200<cLine
theorem eP.mono (r:eP k A)(h:j<=k):eP j A:=⟨r.hd,by have:=r.dp;omega,by have:=r.un;omega⟩
theorem eP.deeper (r:eP (k+1) A)(env:Env):eP k (A.deeper env) :=
 ⟨r.hd,by have:=r.dp;show A.depth+1+3*k+5<_;omega,by have:=r.un;show A.units+3+16*k+200<_;omega⟩
theorem eP.in1 (r:eP (k+1) A):eP k A.in1 :=
 ⟨r.hd,by have:=r.dp;show A.depth+3*k+5<_;omega,by have:=r.un;show A.units+1+16*k+200<_;omega⟩
theorem eP.depth (r:eP k A):A.depth<recursionLimit:=by have:=r.dp;omega
def Qe:TA:=λ_ H Q=>Q [] H
def KS (ta:TE)(tr:TA):TA:=λσ H Q=>ta σ H λx H1=>tr σ H1 λxs H2=>Q (x::xs) H2
section
variable {X:Cx}{e:Expr}{es:List Expr}{te:TE}{t:TA}{pos:Pos}
theorem kn:PA X [] Qe:=λ_ _ _ _ H Q I h=>Calls.spliced_nil ⟨[],H,I,.nil,h⟩
theorem iN (ha:PE X e te)(hr:PA X es t)(hs:starEach (e::es) X.env=(false,eval e X.env)::starEach es X.env:=by rfl):PA X (e::es) (KS te t):=by
 intro pos ae s σ H Q I h;rw[hs];show wpAny _ _ (spliced ((false,eval e X.env)::backTo pos (starEach es X.env))) _ _ s;refine Calls.spliced_cons (cE (ha ae s σ H _ I h) λu s1 ⟨x,H1,I1,r1,q1⟩=>?_);exact cE (hr pos ae s1 σ H1 _ I1 q1) λus s2 ⟨xs,H2,I2,r2,q2⟩=>⟨x::xs,H2,I2,.cons r1 r2,q2⟩
def Qf (t:TA):TE:=λσ H Q=>t σ H λxs H1=>xs.length<=sizeLine/\∀p,H1 p=none->Q (.ref p) (upd H1 p (.tup xs))
def Td (t:TA):TE:=λσ H Q=>t σ H λxs H1=>xs.length<=sizeLine/\∀p,H1 p=none->Q (.ref p) (upd H1 p (.lst xs))
theorem Ap {x1}(h:PA X es t):PE X (.Tuple es x1 pos) (Qf t):=by
 intro ae s σ H Q I hq;refine wpAny_Tuple_spliced (cE (h pos ae s σ H _ I hq) λus s1 ⟨xs,H1,I1,r,z,q⟩=>⟨by rw[←r.length];exact z,?_⟩);have hf:H1 s1.heap.objs.size=none:=I1.hok.fresh (vT _);refine⟨.ref s1.heap.objs.size,upd H1 s1.heap.objs.size (.tup xs),I1.laid (t':=s1.toks) (λb u e=>vZ _ e) (vT _) ?_,rfl,q _ hf⟩;exact⟨z,us,r,⟨_,vY _ rfl,rfl,_,rfl⟩⟩
theorem MP (h:PA X es t):PE X (.List es pos) (Td t):=by
 intro ae s σ H Q I hq;refine wpAny_List_spliced (cE (h pos ae s σ H _ I hq) λus s1 ⟨xs,H1,I1,r,z,q⟩=>⟨by rw[←r.length];exact z,?_⟩);have hf:H1 s1.heap.objs.size=none:=I1.hok.fresh (vT _);refine⟨.ref s1.heap.objs.size,upd H1 s1.heap.objs.size (.lst xs),I1.laid (t':=s1.toks) (λb u e=>vZ _ e) (vT _) ?_,rfl,q _ hf⟩;exact⟨z,us,0,r,vY _ rfl⟩
end
abbrev Sp:=List V->Hp->VK->XK->Prop
abbrev KU:=List Env->Hp->Shared->XK->Value->Shared->Prop
structure Env0 (P:Program)(w:World)(K:Frag)(mg:Str->Option Value)(base:Heap)(A:Around)(outer:List Env)(s:Shared)(H:Hp):Prop where
 frames:A.frames=some outer
 mod:Mod K mg base
 bs:∀b o,base.get? b=some o->s.heap.get? b=some o/\H b=none
 bsz:base.objs.size<=s.heap.objs.size
 funs:s.heap.FunFrames base outer
 frf:∀b∈EI outer,H b=none
 hok:lh P w H s.heap
 bare:AllBare s.gens
def CE (outer:List Env)(P:Program)(w:World)(H:Hp)(s:Shared)(Q:VK)(u:Value)(s':Shared):Prop :=
 ∃v H',s'.os=s.os/\AllBare s'.gens/\Un (EI outer) [] H H' s.heap s'.heap/\lh P w H' s'.heap/\ba v u/\Q v H'
def CR (CX:KU)(outer:List Env)(P:Program)(w:World)(H:Hp)(s:Shared)(Q:VK)(E:XK)(r:Result)(s':Shared):Prop :=
 match r with
 |.ok (.ret u)=>CE outer P w H s Q u s'
 |.ok _=>False
 |.error e=>CX outer H s E e s'
structure t7 (P:Program)(w:World)(K:Frag)(mg:Str->Option Value)(base:Heap)(CX:KU)(k:Nat)(f:Addr)(fd:FuncData)(ps:List Str)(sp:Sp):Prop where
 len:∀vs H Q E,sp vs H Q E->vs.length=ps.length
 run:∀(A:Around)(outer:List Env)(s:Shared)(H:Hp)(args:Args)(us:List Value)(vs:List V)(Q:VK)(E:XK),eP k A->Env0 P w K mg base A outer s H->BindsTo s fd args (ps.zip us)->aY vs us->sp vs H Q E ->
  codeAny (model P w) A (.call (.ref f) args) (CR CX outer P w H s Q E) s
section
variable {X:Cx}{ae:List (Addr×Obj)}{σ:St}{H:Hp}{s s':Shared}
theorem Inv.env0 (I:Inv X ae σ H s):Env0 X.prog X.w X.K X.mg X.base X.A X.stack s H :=
 ⟨I.ok.frames,I.ok.mod,I.bs,vR I.ok.bsz I.sz,I.stack,I.stkFree,I.hok,I.bare⟩
theorem Inv.after (I:Inv X ae σ H s)(h:CE X.stack X.prog X.w H s Q u s'):EP X ae σ Q u s':=by
 obtain⟨v,H',os,bare,un,hok,r,q⟩:=h;obtain⟨hh,g,d,t,Ud⟩:=s';obtain rfl:Ud=s.os:=os;exact⟨v,H',I.call (h':=hh) (g':=g) (d':=d) (t':=t) (ch:=[]) un hok bare (λb z=>absurd z (by simp)),r,q⟩
end
def Qg (sp:Sp)(E7:List V)(E:XK)(t:TA):TE:=λσ H Q=>t σ H λvs H1=>sp (vs++E7) H1 Q E
def Vu (C:Addr)(m:Str)(sp:Sp)(E7:List V)(E:XK)(ta:TE)(t:TA):TE:=λσ H Q=>ta σ H λx H1=>∃a dx fs,x=.ref a/\H1 a=some (.ins C dx fs)/\fs.lookup m=none /\
 t σ H1 λvs H2=>sp (x::(vs++E7)) H2 Q E
def Vv (C:Addr)(sp:Sp)(E7:List V)(E:XK)(t:TA):TE:=λσ H Q=>t σ H λvs H1=>∀x dx,H1 x=none->H1 dx=none->dx≠x ->
 sp (.ref x::(vs++E7)) (upd (upd H1 dx (.own x)) x (.ins C dx [])) (λv H2=>v=.non/\Q (.ref x) H2) E
def tH (K:Frag)(fd:FuncData)(ps:List Str)(ds:List Value):Prop :=
 ∀(s:Shared)(us:List Value),K.In s.heap->(us++ds).length=ps.length->BindsTo s fd ⟨us,[]⟩ (ps.zip (us++ds))
theorem tH.all {K:Frag}{fd:FuncData}{ps:List Str}(h:∀us:List Value,us.length=ps.length->bindArgs fd ⟨us,[]⟩=pure (ps.zip us)):tH K fd ps []:=λs us _ hl=>by
 rw[uQ]at hl ⊢;exact .of_eq (h us hl)
def Aq (CX:KU)(X:Cx)(E:XK):Prop:=∀(ae:List (Addr×Obj))(σ:St)(H:Hp)(s:Shared)(e:Value)(s':Shared),Inv X ae σ H s->CX X.stack H s E e s'->X.xe e s'
section
variable {X:Cx}{CX:KU}{k:Nat}{f C:Addr}{fd:FuncData}{ps:List Str}{sp:Sp}{E7:List V}{ds:List Value}{E:XK}{x m:Str}{p pos dI:Pos}{e o:Expr}{es:List Expr}{ta:TE}{t:TA}
theorem MQ {ae:List (Addr×Obj)}{σ:St}{H:Hp}{s:Shared}{Q:VK}{us:List Value}{vs:List V}(F:t7 X.prog X.w X.K X.mg X.base CX k f fd ps sp)(hr:eP k X.A)(hb:tH X.K fd ps ds)(hd:aY E7 ds)(hx:Aq CX X E)
  (I:Inv X ae σ H s) (r:aY vs us) (h:sp (vs++E7) H Q E):wq X (call (.ref f) us) (EP X ae σ Q) X.xe s:=by
 have r2:aY (vs++E7) (us++ds):=r.append hd;have hl:(us++ds).length=ps.length:=by rw[←r2.length];exact F.len _ _ _ _ h
 refine wpAny_call (codeAny_mono (F.run X.A X.stack s H ⟨us,[]⟩ (us++ds) (vs++E7) Q E hr I.env0 (hb s us I.kIn hl) r2 h) λr s' hq=>?_);cases r with
 |error e=>exact hx ae σ H s e s' I hq
 |ok fl=>
  cases fl with
  |ret u=>exact I.after hq
  |next=>exact False.elim hq
  |brk=>exact False.elim hq
  |cont=>exact False.elim hq
theorem Iv (F:t7 X.prog X.w X.K X.mg X.base CX k f fd ps sp)(hr:eP k X.A)(hg:Gl X x)(hm:X.mg x=some (.ref f))(hk:PySem.W.keepIn X.K (.ref f)=true)(hb:tH X.K fd ps ds)(hd:aY E7 ds)(hx:Aq CX X E)
  (ha:PA X (e::es) t) (t9:(x == ("__debug__" : Str))=false:=by decide) (he:starEach (e::es) X.env=(false,eval e X.env)::starEach es X.env:=by rfl) (lE:(backTo pos (starEach es X.env)).any (·.1)=false:=by rfl):
  PE X (.Call (.Name x p) (e::es) [] pos) (Qg sp E7 E t):=by
 intro ae s σ H Q I h;refine wpAny_Call_Name_kw (v0 I hg hm ?_ t9);refine PySem.W.callWith_K (h₀:=X.base) I.ok.mod.kin hk (cE (ha pos ae s σ H _ I h) λus s1 ⟨vs,H1,I1,r,q⟩=>⟨I1.kIn,?_⟩) he lE;exact MQ F hr hb hd hx I1 r q
end
structure FnScope (N P:List Str)(sc:Scope):Prop where
 kind:sc.kind=.function
 co:sc.isCoroutine=false
 gen:sc.isGenerator=false
 nd:N.Nodup
 pre:N.take P.length=P
 par:∀x∈P,sc.names.lookup x=some .local∨sc.names.lookup x=some .cell
 nofree:∀y∈sc.names,y.2≠.free
theorem tI {kindOf:Str->Option NameKind}{x:Str}:∀ {binds:List (Str×Value)}{m:Str->Option Value},(∀v,(x,v)∉binds)->bindL kindOf binds m x=m x
 |[],_,_=>rfl
 | (n,v)::r,m,h=>by
  unfold bindL;rw[tI λw hw=>h w (mZ _ hw)];split
  ·have:x≠n:=by rintro rfl;exact h v mX
   simp[this]
  ·rfl
theorem tJ {kindOf:Str->Option NameKind}{x:Str}:∀ {binds:List (Str×Value)}{m:Str->Option Value},(∀v,(x,v)∉binds)->bindC kindOf binds m x=m x
 |[],_,_=>rfl
 | (n,v)::r,m,h=>by
  unfold bindC;rw[tJ λw hw=>h w (mZ _ hw)];split
  ·rfl
  ·have:x≠n:=by rintro rfl;exact h v mX
   simp[this]
theorem tK {kindOf:Str->Option NameKind}{x:Str}{v:Value}:∀ {P:List Str}{vs:List Value}{i:Nat}{m:Str->Option Value},P.Nodup->P[i]? = some x->vs[i]? = some v->kindOf x=some .local ->
  bindL kindOf (P.zip vs) m x=some v
 |[],_,_,_,_,h,_,_=>by simp at h
 |_::_,[],_,_,_,_,h,_=>by simp at h
 |p::P,w::vs,0,m,nd,h1,h2,hk=>by
  simp at h1 h2;subst h1;subst h2;show bindL kindOf ((p,w)::P.zip vs) m p=_;unfold bindL;rw[tI λv hv=>(List.nodup_cons.mp nd).1 (List.of_mem_zip hv).1,if_pos hk];simp
 |p::P,w::vs,i+1,m,nd,h1,h2,hk=>by
  show bindL kindOf ((p,w)::P.zip vs) m x=_;unfold bindL;exact tK (i:=i) (List.nodup_cons.mp nd).2 (by simpa using h1) (by simpa using h2) hk
theorem tL {kindOf:Str->Option NameKind}{x:Str}{v:Value}:∀ {P:List Str}{vs:List Value}{i:Nat}{m:Str->Option Value},P.Nodup->P[i]? = some x->vs[i]? = some v->kindOf x≠some .local ->
  bindC kindOf (P.zip vs) m x=some v
 |[],_,_,_,_,h,_,_=>by simp at h
 |_::_,[],_,_,_,_,h,_=>by simp at h
 |p::P,w::vs,0,m,nd,h1,h2,hk=>by
  simp at h1 h2;subst h1;subst h2;show bindC kindOf ((p,w)::P.zip vs) m p=_;unfold bindC;rw[tJ λv hv=>(List.nodup_cons.mp nd).1 (List.of_mem_zip hv).1,if_neg hk];simp
 |p::P,w::vs,i+1,m,nd,h1,h2,hk=>by
  show bindC kindOf ((p,w)::P.zip vs) m x=_;unfold bindC;exact tL (i:=i) (List.nodup_cons.mp nd).2 (by simpa using h1) (by simpa using h2) hk
noncomputable def jS (N:List Str)(vs:List V):St:=vs.map some++List.replicate (N.length - vs.length) none
noncomputable def pj (CX:KU)(P:Program)(w:World)(K:Frag)(mg:Str->Option Value)(base:Heap)(N:List Str)(qual:Str)(scope:Scope)(f:Addr)(cd:Value)(A:Around)(outer:List Env)(s:Shared)(H:Hp)(E:XK):Cx where
 prog:=P
 w:=w
 K:=K
 mg:=mg
 base:=base
 A:=A.deeper (envOfC qual scope s.heap.objs.size f cd)
 N:=N
 s₀:=s
 H₀:=H
 env:=envOfC qual scope s.heap.objs.size f cd
 outer:=outer
 stack:=envOfC qual scope s.heap.objs.size f cd::outer
 ex:=[]
 calm:=true
 fn:=λ_=>true
 pn:=[]
 xe:=λe s'=>wpAny (model P w) (A.deeper (envOfC qual scope s.heap.objs.size f cd)) (leaving (envOfC qual scope s.heap.objs.size f cd) e) (λ_ EO=>CX outer H s E e EO) (λe' EO=>CX outer H s E e' EO) s'
theorem xG {sc:Scope}{n:Nat}{x:Str}(h:sc.names.lookup x=some .cell):∃c,(cellsFrom n sc.names []).lookup x=some c:=by
 have q:=PySem.W.cellsFrom_some sc.names n [] (.inl h);exact uU q
theorem Dw {CX:KU}{P:Program}{w:World}{K:Frag}{mg:Str->Option Value}{base:Heap}{N ps:List Str}{qual:Str}{scope:Scope}{f:Addr}{cd:Value}{A:Around}{outer:List Env}{s s1:Shared}{H:Hp}{E:XK}{us:List Value}{vs:List V}
  (S:FnScope N ps scope) (hd:A.handled=none) (e0:Env0 P w K mg base A outer s H) (hl:vs.length=ps.length) (r:aY vs us)
  (x:InCallC s s.heap.objs.size (bindL (envOfC qual scope s.heap.objs.size f cd).kindOf (ps.zip us) λ_=>none) (cellsFrom (s.heap.objs.size+1) scope.names []) (bindC (envOfC qual scope s.heap.objs.size f cd).kindOf (ps.zip us) λ_=>none) s1):
  Inv (pj CX P w K mg base N qual scope f cd A outer s H E) [] (jS N vs) H s1:=by
 have lE:ps.length<=N.length:=by have:=congrArg List.length S.pre;rw[List.length_take]at this;omega
 obtain⟨h1,tk,rfl,hk⟩:=x.done;have K2:∀b:Addr,b∉(pj CX P w K mg base N qual scope f cd A outer s H E).ex:=λb z=>absurd (show b∈([]:List Addr)from z) (by simp);refine⟨⟨e0.mod,S.kind,rfl,rfl,vT _,λy z c h1 h2=>?_,λy hy=>?_,λy c _ h=>?_,λ_=>hd,Around.frames_deeper e0.frames,.inr ⟨rfl,rfl⟩,λb z=>absurd z (K2 b),e0.bs,e0.bsz,λb _ _=>K2 b,λb z=>absurd z (K2 b),e0.funs,e0.frf⟩,
  rfl,e0.bare,Un.kept hk,⟨_,x.toInCall.ns,λi y v h1 h2 h3=>?_⟩,λy c h=>⟨_,x.cell y c h⟩,e0.hok.fresh (vT _),λy c h=>?_,λp hp=>absurd (show p∈([]:List (Addr×Obj))from hp) (by simp),e0.hok.kept hk,?_⟩
 ·exact name_of_addr x.apart (PySem.mem_of_lookup h1) (PySem.mem_of_lookup h2)
 ·have hy:scope.names.lookup y=some .cell∨scope.names.lookup y=some .free:=hy;rcases hy with hy|hy
  ·exact xG hy
  ·exact absurd rfl (S.nofree _ (PySem.mem_of_lookup hy))
 ·exact Nat.le_of_lt (x.above y c (PySem.mem_of_lookup h))
 ·have hi:i<vs.length:=by
   unfold jS at h2;by_cases hi:i<vs.length
   ·exact hi
   ·rw[List.getElem?_append_right (by simpa using hi)]at h2;rw[List.getElem?_replicate]at h2;split at h2<;>cases h2
  have ha:vs[i]? = some v:=by
   unfold jS at h2;rw[List.getElem?_append_left (by simpa using hi),vA]at h2;cases e:vs[i]? with
   |none=>rw[e]at h2;cases h2
   |some a=>rw[e]at h2;cases h2;rfl
  obtain⟨u,hu,rv⟩:=r.get ha;have hp:ps[i]? = some y:=by
   rw[←S.pre,List.getElem?_take_of_lt (by omega)];exact h1
  have VW:ps.Nodup:=by rw[←S.pre];exact S.nd.sublist (List.take_sublist _ _)
  refine⟨u,rv,?_⟩;rcases S.par y (vL hp)with k|k
  ·exact .inl ⟨k,tK VW hp hu k⟩
  ·obtain⟨c,e⟩:=xG (n:=s.heap.objs.size+1) k;refine .inr ⟨.inl k,c,e,?_⟩;have q:=x.cell y c e;rw[tL VW hp hu (by show scope.names.lookup y≠_;rw[k];decide)]at q;exact q
 ·exact e0.hok.fresh (Nat.le_of_lt (x.above y c (PySem.mem_of_lookup h)))
 ·unfold jS;show _=N.length;rw[uZ,vI,List.length_replicate];omega
theorem KW {CX:KU}{P:Program}{w:World}{K:Frag}{mg:Str->Option Value}{base:Heap}{k:Nat}{f:Addr}{name qual:Str}{params:Arguments}{body:List Stmt}{scope:Scope}{dV kV doc pm eJ ct oc:Value}{an od:Option Addr}
  {ph:Array (Option Value)}{N ps:List Str}{sp:Sp}(lk:K.lookup f=some ⟨oc,od,.func (fnOf name qual params body scope dV kV doc pm an eJ ct),ph⟩) (j9:PySem.W.codeIn K eJ qual=true) (S:FnScope N ps scope)
  (len:∀vs H Q E,sp vs H Q E->vs.length=ps.length)
  (Hx:∀(A:Around)(outer:List Env)(s:Shared)(H:Hp)(vs:List V)(Q:VK)(E:XK),eP k (A.deeper (envOfC qual scope s.heap.objs.size f eJ))->sp vs H Q E ->
   ∃t,vz (pj CX P w K mg base N qual scope f eJ A outer s H E) body t/\t { nx:=λ_ H'=>Q .non H',rt:=Q } (jS N vs) H):
  t7 P w K mg base CX (k+1) f (fnOf name qual params body scope dV kV doc pm an eJ ct) ps sp:=by
 refine⟨len,λA outer s H args us vs Q E hr e0 hb r Pj=>?_⟩;have hl:=len _ _ _ _ Pj;have KX:K.In s.heap:=e0.mod.kin.keeps λb o e=>(e0.bs b o e).1;have XY:s.heap.NoLimit:=e0.mod.nolimit.keeps λb o e=>(e0.bs b o e).1;have Rh:∀y∈ps.zip us,scope.names.lookup y.1=some .local∨(scope.names.lookup y.1=some .cell/\((cellsFrom (s.heap.objs.size+1) scope.names []).lookup y.1).isSome=true):=λ⟨n,v⟩ hy=>by
  rcases S.par n (List.of_mem_zip hy).1 with q|q
  ·exact .inl q
  ·exact .inr ⟨q,PySem.W.cellsFrom_some _ _ _ (.inl q)⟩
 refine codeAny_call_function hr.depth (KX _ _ lk) rfl S.co S.gen rfl (PySem.W.codeRec_of KX j9) (hb _ _ _ _ ?_);refine wpAny_newFunctionEnv_cells S.kind Rh λenv he s1 x=>?_;subst he;refine⟨XY.keeps x.toInCall.keep,codeAny_func ?_⟩;obtain⟨t,ht,hq⟩:=Hx A outer s H vs Q E (hr.deeper _) Pj;have I:Inv (pj CX P w K mg base N qual scope f eJ A outer s H E) [] (jS N vs) H s1:=Dw S hr.hd e0 hl r x;refine wpAny_mono (ht [] s1 (jS N vs) H _ I hq) (λfl s' hs=>?_) λe s' hs=>hs;have lr:∀ {σ':St}{H':Hp}{v:V}{u:Value},Inv (pj CX P w K mg base N qual scope f eJ A outer s H E) [] σ' H' s'->ba v u->Q v H'->CE outer P w H s Q u s' :=
  λ{σ' H' v u} J rv q=>⟨v,H',J.os,J.bare,J.base,J.hok,rv,q⟩
 cases fl with
 |ret u=>
  obtain⟨v,σ',H',J,rv,q⟩:=hs;exact lr J rv q
 |next=>
  obtain⟨σ',H',J,q⟩:=hs;exact lr (v:=V.non) (u:=Value.none) J rfl q
 |brk=>
  obtain⟨_,_,_,q⟩:=hs;exact False.elim q
 |cont=>
  obtain⟨_,_,_,q⟩:=hs;exact False.elim q
section
variable {X:Cx}{x:Str}{p pos:Pos}{e:Expr}{es:List Expr}{t:TA}{id T:String}{r:List V->Hp->VK->Prop}
def Vw (r:List V->Hp->VK->Prop)(t:TA):TE:=λσ H Q=>t σ H λvs H1=>r vs H1 Q
theorem xH (hc:bV X (.builtin id) r)(hg:Gl X x)(hm:X.mg x=none)(hv:bootBuiltins x=some (.builtin id))(ha:PA X (e::es) t)(hn:x ≠ "__name__":=by decide)(t9:(x == ("__debug__" : Str))=false:=by decide)
  (he:starEach (e::es) X.env=(false,eval e X.env)::starEach es X.env:=by rfl) (lE:(backTo pos (starEach es X.env)).any (·.1)=false:=by rfl):PE X (.Call (.Name x p) (e::es) [] pos) (Vw r t):=by
 intro ae s σ H Q I h;refine wpAny_Call_Name_kw (nw I hg hm hv ?_ hn t9);exact PyProof.Rows.callWith_builtin1 (cE (ha pos ae s σ H _ I h) λus s1 ⟨vs,H1,I1,r1,q1⟩=>hc ae s1 σ H1 vs us Q I1 r1 q1) he lE
theorem tM (hc:bV X (.type T) r)(hg:Gl X x)(hm:X.mg x=none)(hv:bootBuiltins x=some (.type T))(ha:PA X (e::es) t)(hn:x ≠ "__name__":=by decide)(t9:(x == ("__debug__" : Str))=false:=by decide)
  (he:starEach (e::es) X.env=(false,eval e X.env)::starEach es X.env:=by rfl) (lE:(backTo pos (starEach es X.env)).any (·.1)=false:=by rfl):PE X (.Call (.Name x p) (e::es) [] pos) (Vw r t):=by
 intro ae s σ H Q I h;refine wpAny_Call_Name_kw (nw I hg hm hv ?_ hn t9);exact PyProof.Rows.callWith_type1 (cE (ha pos ae s σ H _ I h) λus s1 ⟨vs,H1,I1,r1,q1⟩=>hc ae s1 σ H1 vs us Q I1 r1 q1) he lE
end
end L2
namespace HT
open PySem PyProof.Rows
section
open PySem.SeqAt
open PySem.AutoSeq1 (wpAny_loadPart')
open PySem.MeetsSeq PySem.MeetsSeq2 PySem.MeetsSeq3
end
section
variable {prog:Program}{w:World}{A:Around}{E:Value->Shared->Prop}{s:Shared}
theorem Iw (ht:IsTup s.heap t vs.toArray)(hb:IsTup s.heap b ws.toArray)(hv:vs≠[])
  (h1:ws=[]->Q (.ref t) s) (h2:ws≠[]->Q (.ref s.heap.objs.size) { s with heap:=s.heap.push { cls:=.type "tuple",data:=.seq (vs++ws).toArray } })
  (hsz:vs.length+ws.length<=sizeLine):wpAny (model prog w) A (binaryOp .Add (.ref t) (.ref b)) Q E s:=by
 obtain⟨⟨cls,dd,data,sl⟩,ho,hc,n,hd⟩:=id ht;obtain⟨⟨Ue,Oo,data2,S3⟩,K3,Ag,n2,Ri⟩:=id hb;simp only at hc hd Ag Ri;subst hc hd Ag Ri;have e:vs.toArray++ws.toArray=(vs++ws).toArray:=by simp
 by_cases hw:ws=[]
 ·exact concat_meets ⟨_,ho,rfl⟩ ⟨_,K3,rfl⟩ noFill_tuple_add seq_tuple_add PySem.F.slot_tuple_add PySem.F.entry_tuple_add (PySem.F.args_tuple_add_2 _ _)
   (tuple_addW1 t b vs.toArray ws.toArray n n2 dd Oo sl S3 (by simpa using hv) (by simp[hw])) ⟨ho,K3,h1 hw⟩
 ·refine concat_meets ⟨_,ho,rfl⟩ ⟨_,K3,rfl⟩ noFill_tuple_add seq_tuple_add PySem.F.slot_tuple_add PySem.F.entry_tuple_add (PySem.F.args_tuple_add_2 _ _)
   (tuple_addW2 t b vs.toArray ws.toArray n n2 dd Oo sl S3 (by simpa using hv) (by simpa using hw) (by rw[vH,vH];exact hsz)) ⟨ho,K3,?_⟩
  rw[e];exact h2 hw
noncomputable def eC (n d:Nat):Option Int->Nat
 |none=>d
 |some v=>if v<0 then (v+(n:Int)).toNat else min v.toNat n
theorem MT (n d:Nat)(hd:d<=n)(o:Option Int):eC n d o<=n:=by
 cases o with
 |none=>exact hd
 |some v=>
  show(if v<0 then (v+(n:Int)).toNat else min v.toNat n)<=n;by_cases hv:v<0
  ·rw[if_pos hv];omega
  ·rw[if_neg hv];exact Nat.min_le_right _ _
theorem BC (v:Int)(n d:Nat):(if v<0 then max (v+(n:Int)) 0 else min v (n:Int))=((eC n d (some v):Nat):Int):=by
 show(if v<0 then max (v+(n:Int)) 0 else min v (n:Int))=(((if v<0 then (v+(n:Int)).toNat else min v.toNat n):Nat):Int);by_cases hv:v<0
 ·simp only[if_pos hv];omega
 ·simp only[if_neg hv];omega
theorem Ar (lo hi:Option Int)(n:Nat):Builtin.Slice.sliceAdjust lo hi 1 (n:Int)=(((eC n 0 lo:Nat):Int),((eC n n hi:Nat):Int)):=by
 have h1:¬((1:Int)<0):=by omega
 unfold Builtin.Slice.sliceAdjust;simp only[h1,if_false];refine Prod.ext ?_ ?_
 ·cases lo with
  |none=>rfl
  |some v=>exact BC v n 0
 ·cases hi with
  |none=>rfl
  |some v=>exact BC v n n
theorem As (i j:Nat):Builtin.Slice.slicePlaces (i:Int) (j:Int) 1=j - i:=by
 unfold Builtin.Slice.slicePlaces;have h1:(1:Int) > 0:=by omega
 simp only[h1,if_true,Int.ediv_one];split<;>omega
theorem pO (p:IsPart v o)(h:Q o s):wpAny (model prog w) A (Builtin.Slice.slicePartIndex v) Q E s:=by
 cases p with
 |none=>exact slicePart_none h
 |int i t=>exact slicePart_int h
theorem jl {sl:Addr}{vl vu:Value}{lo hi:Option Int}{n:Nat}{Q:Int×Int×Nat->Shared->Prop}(hs:s.heap.IsSliceOf sl vl vu .none)(pl:IsPart vl lo)(pu:IsPart vu hi)
  (h:Q (((eC n 0 lo:Nat):Int),1,eC n n hi - eC n 0 lo) s):wpAny (model prog w) A (Builtin.Slice.sliceApplied (.ref sl) (pure (n:Int))) Q E s:=by
 obtain⟨os,K4,x0,Op⟩:=id hs;unfold Builtin.Slice.sliceApplied Builtin.Slice.sliceFields;refine wX (wX (wpAny_field K4 Op (x:=vl) rfl (wX (wpAny_field K4 Op (x:=vu) rfl (wX (wpAny_field K4 Op (x:=.none) rfl (wY ?_)))))));refine wX (slicePart_none ?_);show wpAny _ _ (if((1:Int) == 0)=true then _ else _) _ _ s;rw[if_neg (by decide)];refine wX (pO pl (wX (pO pu (wX (wY ?_)))));show wpAny _ _ (match Builtin.Slice.sliceAdjust lo hi 1 (n:Int) with|(lo,hi)=>pure (lo,(1:Int),Builtin.Slice.slicePlaces lo hi 1)) _ _ s;rw[Ar lo hi n];show wpAny _ _ (pure (((eC n 0 lo:Nat):Int),(1:Int),Builtin.Slice.slicePlaces ((eC n 0 lo:Nat):Int) ((eC n n hi:Nat):Int) 1)) _ _ s;rw[As];exact wY h
theorem Fc (xs:Array Value)(i k:Nat):((List.range k).filterMap λ(m:Nat)=>xs[((i:Int)+(m:Int)*1).toNat]?).toArray=((xs.toList.drop i).take k).toArray:=by
 have e:(λ(m:Nat)=>xs[((i:Int)+(m:Int)*1).toNat]?)=λm=>xs[i+m]?:=by
  funext m;have:((i:Int)+(m:Int)*1).toNat=i+m:=by omega
  rw[this]
 rw[e];have:=pick_run xs i k;rw[List.filterMap_map]at this;have e2:((λx=>xs[x]?) ∘ λx=>i+x)=λm=>xs[i+m]?:=rfl;rw[e2]at this;rw[this]
theorem mf {t sl:Addr}{items:Array Value}{vl vu:Value}{lo hi:Option Int}{Q:Value->Shared->Prop}(ht:IsTup s.heap t items)(hs:s.heap.IsSliceOf sl vl vu .none)(pl:IsPart vl lo)(pu:IsPart vu hi)
  (hw:¬(eC items.size 0 lo=0/\eC items.size items.size hi=items.size))
  (h:Q (.ref s.heap.objs.size) { s with heap:=s.heap.push { cls:=.type "tuple",data:=.seq ((items.toList.drop (eC items.size 0 lo)).take (eC items.size items.size hi - eC items.size 0 lo)).toArray } })
  (hsz:items.size<=sizeLine):wpAny (model prog w) A (getItem (.ref t) (.ref sl)) Q E s:=by
 have Df:sizeOk (.seq ((items.toList.drop (eC items.size 0 lo)).take (eC items.size items.size hi - eC items.size 0 lo)).toArray):=by
  show((items.toList.drop (eC items.size 0 lo)).take (eC items.size items.size hi - eC items.size 0 lo)).toArray.size<=sizeLine
  rw[vH,List.length_take,List.length_drop,vG]
  omega
 have hj:eC items.size items.size hi<=items.size:=MT _ _ (vT _) hi
 obtain⟨os,K4,x0,Op⟩:=id hs
 have XZ:s.TypeIs (.ref sl) "slice":=⟨os,K4,x0⟩
 unfold getItem
 try with_reducible refine wpAny_holding ?_
 first|refine wX (wY ?_)|skip
 refine wX (wpAny_sequenceKey ht.typeIs (by decide) ?_)
 refine wX (wpAny_callSpecial?_slot (name:=Str.ofString "__getitem__") ht.typeIs PyProof.Rows.slot_tuple_getitem
  (wpAny_call_entry PyProof.Rows.slot_tuple_getitem ht.typeIs entry_tuple_getitem ?_ (args_tuple_getitem _ _)))
 show wpAny _ _ (Builtin.Tuple.tupleItemsOf (.ref t)>>=_) _ _ s
 refine wX (tupleItemsOf_ ht ?_)
 refine wX (wpAny_typeOf XZ ?_)
 rw[if_pos (by decide)]
 refine wX (jl hs pl pu ?_)
 have Pk:¬((((eC items.size 0 lo:Nat):Int) == 0 && (1:Int) == 1 && (eC items.size items.size hi - eC items.size 0 lo) == items.size)=true):=by
  intro q
  rw[vC,vC]at q
  have q1:((eC items.size 0 lo:Nat):Int)=0:=eq_of_beq q.1.1
  have q2:eC items.size items.size hi - eC items.size 0 lo=items.size:=eq_of_beq q.2
  exact hw ⟨by omega,by omega⟩
 show wpAny _ _ (if(((eC items.size 0 lo:Nat):Int) == 0 && (1:Int) == 1 && (eC items.size items.size hi - eC items.size 0 lo) == items.size)=true then _ else _) _ _ s
 rw[if_neg Pk,Fc]
 first
  |exact wX (m:=Builtin.Tuple.tupleExact _) (wpAny_newObj_type (wY ⟨_,rfl,wY h⟩) Df)
  |exact wX (m:=Builtin.Tuple.tupleExact _) (wpAny_newObj_type (wX (wY (wY ⟨_,rfl,wY h⟩))) Df)
  |exact wX (wX (m:=Builtin.Tuple.tupleExact _) (wpAny_newObj_type (wY (wY ⟨_,rfl,wY h⟩)) Df))
  |exact wX (wX (m:=Builtin.Tuple.tupleExact _) (wpAny_newObj_type (wY ⟨_,rfl,wY h⟩) Df))
end
end HT
namespace L2
open PySem PySem.Spec PyProof.Rows
abbrev TO:=St->Hp->(Option Int->Hp->Prop)->Prop
def PO (X:Cx)(e:Option Expr)(t:TO):Prop :=
 ∀(ae:List (Addr×Obj))(s:Shared)(σ:St)(H:Hp)(Q:Option Int->Hp->Prop),Inv X ae σ H s->t σ H Q ->
  wq X (evalPart e X.env) (λu s'=>∃o H',Inv X ae σ H' s'/\IsPart u o/\Q o H') X.xe s
def Ix:TO:=λ_ H Q=>Q none H
def Qh (t:TE):TO:=λσ H Q=>t σ H λx H1=>∃i,x=.int i/\Q (some i) H1
section
variable {X:Cx}{e:Expr}{te:TE}{lo hi:Option Expr}{tl th:TO}{pos p2:Pos}
theorem Iy:PO X none Ix:=by
 intro ae s σ H Q I h;rw[evalPart_none];exact wY ⟨none,H,I,.none,h⟩
theorem Iz (h:PE X e te):PO X (some e) (Qh te):=by
 intro ae s σ H Q I hw;rw[evalPart_some];refine cE (h ae s σ H _ I hw) λu s1 ⟨x,H1,I1,r1,q1⟩=>?_;obtain⟨i,rfl,q⟩:=q1;obtain⟨t,rfl⟩:=r1;exact⟨some i,H1,I1,.int i t,q⟩
def EJ (X:Cx)(r:V->Option Int->Option Int->Hp->VK->Prop):Prop :=
 ∀(ae:List (Addr×Obj))(s:Shared)(σ:St)(H:Hp)(x:V)(v vl vu:Value)(lo hi:Option Int)(sl:Addr)(Q:VK),Inv X ae σ H s->ba x v->s.heap.IsSliceOf sl vl vu .none->IsPart vl lo->IsPart vu hi->r x lo hi H Q ->
  ∃T id,typeLookup (.type T) "__getitem__" = pure (some (.builtin id))/\s.TypeIs v T/\wq X (getItem v (.ref sl)) (EP X ae σ Q) X.xe s
theorem EJ.or (h:EJ X r)(h':EJ X r'):EJ X (λx lo hi H Q=>r x lo hi H Q∨r' x lo hi H Q):=by
 intro ae s σ H x v vl vu lo hi sl Q I rx hs pl pu q;rcases q with q|q
 ·exact h ae s σ H x v vl vu lo hi sl Q I rx hs pl pu q
 ·exact h' ae s σ H x v vl vu lo hi sl Q I rx hs pl pu q
def Xk (r:V->Option Int->Option Int->Hp->VK->Prop)(te:TE)(tl th:TO):TE:=λσ H Q=>te σ H λx H1=>tl σ H1 λl H2=>th σ H2 λu H3=>r x l u H3 Q
theorem Fd (hr:EJ X r)(he:PE X e te)(hl:PO X lo tl)(hu:PO X hi th):PE X (.Subscript e (.Slice lo hi none p2) pos) (Xk r te tl th):=by
 intro ae s σ H Q I h;refine Subscript_ (cE (he ae s σ H _ I h) λv s1 ⟨x,H1,I1,r1,q1⟩=>?_);refine wpAny_Slice (cE (hl ae s1 σ H1 _ I1 q1) λvl s2 ⟨l,H2,I2,pl,q2⟩=>cE (hu ae s2 σ H2 _ I2 q2) λvu s3 ⟨u,H3,I3,pu,q3⟩=>?_);rw[evalPart_none];refine wY ?_;have I4:Inv X ae σ H3 { s3 with heap:=s3.heap.push { cls:=.type "slice",data:=.fields #[vl,vu,.none] } }:=I3.kept (t':=s3.toks) λb ob q=>vZ _ q;obtain⟨T,id,hT,ht,hg⟩:=hr ae { s3 with heap:=s3.heap.push { cls:=.type "slice",data:=.fields #[vl,vu,.none] } } σ H3 x v vl vu l u s3.heap.objs.size Q I4 r1 (Heap.IsSliceOf.new ..) pl pu q3;show wq X (subscriptTail e (.Slice lo hi none p2) v (.ref s3.heap.objs.size)) (EP X ae σ Q) X.xe { s3 with heap:=s3.heap.push { cls:=.type "slice",data:=.fields #[vl,vu,.none] } };exact tail_any (ops:=[.ref s3.heap.objs.size,v]) ht hT hg (by with_unfolding_all rfl)
def sP (xs:List V)(lo hi:Option Int):List V:=(xs.drop (HT.eC xs.length 0 lo)).take (HT.eC xs.length xs.length hi - HT.eC xs.length 0 lo)
theorem o3 (xs:List V)(lo hi:Option Int):(sP xs lo hi).length<=xs.length:=by
 unfold sP;rw[List.length_take,List.length_drop];omega
def Te (K:Frag):V->Option Int->Option Int->Hp->VK->Prop:=λx lo hi H Q=>∃a xs,x=.ref a/\jj K H a xs /\
 ¬(HT.eC xs.length 0 lo=0/\HT.eC xs.length xs.length hi=xs.length)/\∀p,H p=none->Q (.ref p) (upd H p (.tup (sP xs lo hi)))
theorem MU:EJ X (Te X.K):=by
 intro ae s σ H x v vl vu lo hi sl Q I rx hs pl pu h;obtain⟨a,xs,rfl,hx,hw,q⟩:=h;cases rx
 obtain⟨its,r,ht,hz⟩:=I.tuple hx;have bB:its.toArray.size=xs.length:=by rw[vH];exact r.length.symm
 refine⟨"tuple",_,PyProof.Rows.slot_tuple_getitem.lookup,ht.typeIs,?_⟩;refine HT.mf ht hs pl pu (by rw[bB];exact hw) ?_ (by rw[bB];exact hz);rw[bB];refine⟨.ref s.heap.objs.size,_,I.laid (t':=s.toks) (o:=.tup (sP xs lo hi)) (λb ob q=>vZ _ q) (vT _) ?_,rfl,q _ (I.hok.fresh (vT _))⟩;exact⟨vR (o3 xs lo hi) hz,_,(r.drop (HT.eC xs.length 0 lo)).take (HT.eC xs.length xs.length hi - HT.eC xs.length 0 lo),IsTup.new _ _⟩
def Qi (K:Frag):R2:=λx y H Q=>∃a b xs ys,x=.ref a/\y=.ref b/\jj K H a xs/\jj K H b ys/\xs≠[]/\xs.length+ys.length<=sizeLine /\
 (ys=[]->Q (.ref a) H)/\(ys≠[]->∀p,H p=none->Q (.ref p) (upd H p (.tup (xs++ys))))
theorem aY.nil_iff (r:aY xs us):us=[]↔xs=[]:=by
 cases r with
 |nil=>simp
 |cons _ _=>simp
theorem IA:dN X (binaryOp .Add) (Qi X.K):=by
 intro ae s σ H x y v u Q I rx ry h;obtain⟨a,b,xs,ys,rfl,rfl,ha,hb,hx,hz,q1,q2⟩:=h;cases rx
 cases ry
 obtain⟨its,r1,p1,_⟩:=I.tuple ha;obtain⟨Rj,r2,p2,_⟩:=I.tuple hb;refine HT.Iw p1 p2 (λz=>hx (r1.nil_iff.mp z)) (λz=>⟨.ref a,H,I,rfl,q1 (r2.nil_iff.mp z)⟩) (λz=>?_) (by rw[←r1.length,←r2.length];exact hz);refine⟨.ref s.heap.objs.size,_,I.laid (t':=s.toks) (o:=.tup (xs++ys)) (λb ob q=>vZ _ q) (vT _) ?_,rfl,q2 (λw=>z (r2.nil_iff.mpr w)) _ (I.hok.fresh (vT _))⟩;exact⟨by rw[uZ];exact hz,_,r1.append r2,IsTup.new _ _⟩
end
def Dx (n:Nat)(i:Int):Option Nat:=if 0<=i then (if i<n then some i.toNat else none)else if -(n:Int)<=i then some (i+n).toNat else none
def o4 {α:Type}(xs:List α)(i:Int):Option α:=(Dx xs.length i).bind λj=>xs[j]?
theorem BD (h:Dx n i=some j):seqIndex? i n=some j/\j<n/\-(n:Int)<=i/\i<n:=by
 unfold Dx at h;by_cases h0:0<=i
 ·rw[if_pos h0]at h;by_cases h1:i<n
  ·rw[if_pos h1]at h;have e:i.toNat=j:=vK h;exact⟨by rw[seqIndex_of h0 h1,e],by omega,by omega,h1⟩
  ·rw[if_neg h1]at h;cases h
 ·rw[if_neg h0]at h;by_cases h1 : -(n:Int)<=i
  ·rw[if_pos h1]at h;have e:(i+n).toNat=j:=vK h;exact⟨by rw[seqIndex_neg (by omega) h1,e],by omega,h1,by omega⟩
  ·rw[if_neg h1]at h;cases h
theorem wc {α:Type}{xs:List α}{i:Int}{v:α}(h:o4 xs i=some v):∃j,seqIndex? i xs.length=some j/\xs[j]? = some v/\j<xs.length/\-(xs.length:Int)<=i/\i<xs.length:=by
 unfold o4 at h;cases e:Dx xs.length i with
 |none=>rw[e]at h;cases h
 |some j=>
  rw[e]at h;obtain⟨h1,h2,h3,h4⟩:=BD e;exact⟨j,h1,h,h2,h3,h4⟩
theorem IB {α:Type}{xs:List α}{j:Nat}{v:α}(h:xs[j]? = some v):o4 xs (j:Int)=some v:=by
 have hj:j<xs.length:=(vV h).1;have e:Dx xs.length (j:Int)=some j:=by
  unfold Dx;rw[if_pos (by omega),if_pos (by omega)];simp
 unfold o4;rw[e];exact h
def we (b:Expr):Prop:=∀o i,subscripted b false o i=operate [o,i] (getItem o i)
def HQ (X:Cx)(r:R2):Prop :=
 ∀(value slice:Expr)(ae:List (Addr×Obj))(s:Shared)(σ:St)(H:Hp)(x y:V)(v u:Value)(Q:VK),Inv X ae σ H s->ba x v->ba y u->r x y H Q ->
  subscripted slice false v u=operate [v,u] (getItem v u)->wq X (subscriptTail value slice v u) (EP X ae σ Q) X.xe s
def IC (X:Cx)(id:String)(r:V->List V->Hp->VK->Prop):Prop :=
 ∀(ae:List (Addr×Obj))(s:Shared)(σ:St)(H:Hp)(x:V)(xs:List V)(v:Value)(us:List Value)(Q:VK),Inv X ae σ H s->ba x v->aY xs us->r x xs H Q ->
  wq X (call (.builtin id) (v::us)) (EP X ae σ Q) X.xe s
section
variable {X:Cx}{a b:Expr}{ta tb:TE}{pos:Pos}
theorem HQ.or (h:HQ X r)(h':HQ X r'):HQ X (λx y H Q=>r x y H Q∨r' x y H Q):=by
 intro value slice ae s σ H x y v u Q I rx ry q hs;rcases q with q|q
 ·exact h value slice ae s σ H x y v u Q I rx ry q hs
 ·exact h' value slice ae s σ H x y v u Q I rx ry q hs
theorem IC.or {id:String}{r r':V->List V->Hp->VK->Prop}(h:IC X id r)(h':IC X id r'):IC X id (λx xs H Q=>r x xs H Q∨r' x xs H Q):=by
 intro ae s σ H x xs v us Q I rx rs q;rcases q with q|q
 ·exact h ae s σ H x xs v us Q I rx rs q
 ·exact h' ae s σ H x xs v us Q I rx rs q
theorem KY (hr:HQ X r)(ha:PE X a ta)(hb:PE X b tb)(hs:we b):PE X (.Subscript a b pos) (Sh r ta tb):=by
 intro ae s σ H Q I h;exact Subscript_ (ME ha hb I h λv u s2 x y H2 I2 rx ry q=>hr a b ae s2 σ H2 x y v u Q I2 rx ry q (hs _ _))
def Tf (K:Frag):R2:=λx y H Q=>∃p xs i v,x=.ref p/\y=.int i/\hU K H p xs/\o4 xs i=some v/\Q v H
def Tg (K:Frag):R2:=λx y H Q=>∃p xs i v,x=.ref p/\y=.int i/\jj K H p xs/\o4 xs i=some v/\Q v H
def Th:R2:=λx y H Q=>∃z i c,x=.str z/\y=.int i/\z.length<=sizeLine/\o4 z.cps.toList i=some c/\Q (.str ⟨#[c]⟩) H
theorem ID:HQ X (Tf X.K):=by
 intro value slice ae s σ H x y v u Q I rx ry h hs;obtain⟨p,xs,i,z,rfl,rfl,hq,he,q⟩:=h;cases rx
 obtain⟨t,rfl⟩:=ry;obtain⟨its,r,pl,hz⟩:=I.list hq;obtain⟨j,h1,h2,h3,h4,h5⟩:=wc he;obtain⟨w,ew,Rk⟩:=r.get h2;have hl:=r.length;have hn:=nB;have lr:EP X ae σ Q w s:=⟨z,H,I,Rk,q⟩;by_cases h0:0<=i
 ·have hj:i.toNat=j:=by
   rw[seqIndex_of h0 h5]at h1;exact vK h1
  exact item_listR pl.isList h0 (by omega) (by rw[hj];simpa using ew) lr hs
 ·have hj:(i+(its.toArray.size:Int)).toNat=j:=by
   rw[seqIndex_neg (by omega) h4]at h1;rw[vH,←hl];exact vK h1
  exact subscriptTail_builtinR (x:=w) pl.isList.typeIs slot_list_getitem.lookup
   (wpAny_getItem_list_neg (Q:=λr s'=>r=w/\EP X ae σ Q r s') pl.isList (by omega) (by rw[vH]<;>omega) (by omega) (by rw[hj];simpa using ew) ⟨rfl,lr⟩) hs
theorem wg:HQ X (Tg X.K):=by
 intro value slice ae s σ H x y v u Q I rx ry h hs;obtain⟨p,xs,i,z,rfl,rfl,hq,he,q⟩:=h;cases rx
 obtain⟨t,rfl⟩:=ry;obtain⟨its,r,pl,hz⟩:=I.tuple hq;obtain⟨j,h1,h2,h3,h4,h5⟩:=wc he;obtain⟨w,ew,Rk⟩:=r.get h2;have hl:=r.length;have hn:=nB;have lr:EP X ae σ Q w s:=⟨z,H,I,Rk,q⟩;exact subscriptTail_builtinR (x:=w) pl.typeIs slot_tuple_getitem.lookup
  (getItem_tuple (j:=j) (Q:=λr s'=>r=w/\EP X ae σ Q r s') pl (by omega) (by omega) (by rw[vH,←hl];exact h1) (by simpa using ew) ⟨rfl,lr⟩) hs
theorem Au:HQ X Th:=by
 intro value slice ae s σ H x y v u Q I rx ry h hs;obtain⟨z,i,c,rfl,rfl,hz,he,q⟩:=h;obtain⟨t,rfl⟩:=rx;obtain⟨t',rfl⟩:=ry;obtain⟨j,h1,h2,h3,h4,h5⟩:=wc he;have hl:z.cps.toList.length=z.length:=by simp[Str.length]
 rw[hl]at h1 h4 h5;have hn:=nB;exact tail_any (typeIs_str s z t) slot_str_getitem.lookup (getItem_str (c:=c) (by
  have e1:decide (i < -(2 ^ 63:Int))=false:=decide_eq_false (by omega);have e2:decide (i ≥ 2 ^ 63)=false:=decide_eq_false (by omega);rw[e1,e2,Bool.or_false]) (by rw[h1];simpa using h2) ⟨.str ⟨#[c]⟩,H,I.tok _,⟨_,rfl⟩,q⟩) hs
theorem Av (its:List Value)(n j:Nat)(u:Value):Obj.mapSeq (·.setIfInBounds j u) { cls:=.type "list",data:=.seq its.toArray n }={ cls:=.type "list",data:=.seq (its.set j u).toArray n }:=by
 simp[Obj.mapSeq]
theorem Inv.lst (I:Inv X ae σ H s)(h:H p=some (.lst xs)):
  ∃(its:List Value)(n:Nat),aY xs its/\s.heap.get? p=some { cls:=.type "list",data:=.seq its.toArray n }/\xs.length<=sizeLine:=by
 obtain⟨z,its,n,r,e⟩:=I.hok p _ h;exact⟨its,n,r,e,z⟩
theorem Inv.lstUpd {ae:List (Addr×Obj)}{σ:St}{H:Hp}{s:Shared}{p:Addr}{xs ys:List V}{its its':List Value}{n n':Nat}{f:Obj->Obj}(I:Inv X ae σ H s)(h:H p=some (.lst xs))
  (ho:s.heap.get? p=some { cls:=.type "list",data:=.seq its.toArray n }) (hf:f { cls:=.type "list",data:=.seq its.toArray n }={ cls:=.type "list",data:=.seq its'.toArray n' }) (r:aY ys its') (hz:ys.length<=sizeLine) (t:Nat):
  Inv X ae σ (upd H p (.lst ys)) { s with heap:=s.heap.update p f,toks:=t }:=by
 have e:(s.heap.update p f).get? p=some { cls:=.type "list",data:=.seq its'.toArray n' }:=by
  rw[Heap.get?_update_self f ho (by rw[hf]<;>rfl),hf]
 refine I.write (x:=p) (e:=p) (by rw[h];trivial) (.inl rfl) (λb u hb q=>(Heap.get?_update_other _ _ (Ne.symm hb)).trans q) ⟨_,e⟩ ?_;exact⟨hz,its',n',r,e⟩
def Qj:V->V->V->Hp->(Hp->Prop)->Prop:=λo i v H Q=>∃p xs k j,o=.ref p/\i=.int k/\H p=some (.lst xs)/\Dx xs.length k=some j/\Q (upd H p (.lst (xs.set j v)))
theorem Fe:PN X Qj:=by
 intro ae s σ H o i v ov iv u Q I ro ri rv h;obtain⟨p,xs,k,j,rfl,rfl,hp,hj,q⟩:=h;cases ro
 obtain⟨t,rfl⟩:=ri;obtain⟨its,n,r,ho,hz⟩:=I.lst hp;obtain⟨h1,h2,h3,h4⟩:=BD hj;have hl:=r.length;have hn:=nB;have I':Inv X ae σ (upd H p (.lst (xs.set j v))) { s with heap:=s.heap.update p (Obj.mapSeq (·.setIfInBounds j u)) } :=
  I.lstUpd hp ho (Av its n j u) (r.set rv j) (by rw[List.length_set];exact hz) s.toks
 by_cases h0:0<=k
 ·have hk:k.toNat=j:=by
   rw[seqIndex_of h0 h4]at h1;exact vK h1
  exact PySem.W.ki_setAt ho h0 (by omega) (by rw[vH,←hl];exact h4) (by rw[hk];exact⟨_,I',q⟩)
 ·have hk:(k+(its.toArray.size:Int)).toNat=j:=by
   rw[seqIndex_neg (by omega) h3]at h1;rw[vH,←hl];exact vK h1
  exact PySem.W.ki_setBack ho (by omega) (by rw[vH,←hl];exact h3) (by omega) (by rw[hk];exact⟨_,I',q⟩)
theorem wj (lo hi:Option Int)(n:Nat):(sliceBounds lo hi none n).1=((HT.eC n 0 lo:Nat):Int)/\(sliceBounds lo hi none n).2.1=((HT.eC n n hi:Nat):Int)/\(sliceBounds lo hi none n).2.2=1:=by
 refine⟨?_,?_,rfl⟩
 ·cases lo with
  |none=>simp[sliceBounds,HT.eC]
  |some i=>
   simp only[sliceBounds,HT.eC,Option.getD_none,show(1:Int) > 0 by decide,if_true];by_cases h:i<0
   ·simp only[h,if_true]<;>omega
   ·simp only[h,if_false]<;>omega
 ·cases hi with
  |none=>simp[sliceBounds,HT.eC]
  |some i=>
   simp only[sliceBounds,HT.eC,Option.getD_none,show(1:Int) > 0 by decide,if_true];by_cases h:i<0
   ·simp only[h,if_true]<;>omega
   ·simp only[h,if_false]<;>omega
theorem sQ (its:List Value)(lo hi:Option Int):slicePick its.toArray lo hi none=((its.drop (HT.eC its.length 0 lo)).take (HT.eC its.length its.length hi - HT.eC its.length 0 lo)).toArray:=by
 obtain⟨h1,h2,h3⟩:=wj lo hi its.toArray.size;unfold slicePick;rw[h1,h2,h3];simp only[sliceRange_one,pick_run,vH]<;>rfl
def Ti (K:Frag):V->Option Int->Option Int->Hp->VK->Prop:=λx lo hi H Q=>∃a xs,x=.ref a/\hU K H a xs/\∀p,H p=none->Q (.ref p) (upd H p (.lst (sP xs lo hi)))
theorem IE:EJ X (Ti X.K):=by
 intro ae s σ H x v vl vu lo hi sl Q I rx hs pl pu h;obtain⟨a,xs,rfl,hx,q⟩:=h;cases rx
 obtain⟨its,r,ht,hz⟩:=I.list hx;have bB:=r.length;refine⟨"list",_,slot_list_getitem.lookup,ht.isList.typeIs,?_⟩;refine wpAny_getItem_list_slice ht.isList hs pl pu .none (by simp) ?_ (by rw[vH]<;>omega)
 rw[sQ,←bB];refine⟨.ref s.heap.objs.size,_,I.laid (t':=s.toks) (o:=.lst (sP xs lo hi)) (λb ob q=>vZ _ q) (vT _) ?_,rfl,q _ (I.hok.fresh (vT _))⟩;exact⟨vR (o3 xs lo hi) hz,_,0,(r.drop (HT.eC xs.length 0 lo)).take (HT.eC xs.length xs.length hi - HT.eC xs.length 0 lo),vY _ rfl⟩
noncomputable def lu:V->Bool
 |.non=>true
 |.bl _=>true
 |.int _=>true
 |.str _=>true
 |_=>false
def HR:V->V->Bool
 |.non,.non=>true
 |.bl a,.bl b=>a == b
 |.bl a,.int b=>(if a then 1 else 0) == b
 |.int a,.bl b=>a == (if b then 1 else 0)
 |.int a,.int b=>a == b
 |.str a,.str b=>a == b
 |_,_=>false
theorem MV (ry:ba y u)(rx:ba x v)(fy:lu y=true)(fx:lu x=true):SeqAt.EqAt A s u v (HR y x):=by
 cases y with
 |non=>
  cases ry
  cases x with
  |non=>cases rx;exact SeqAt.EqAt.same _
  |bl b=>cases rx;exact SeqAt.EqAt.none_bool b
  |int b=>obtain⟨t,rfl⟩:=rx;exact SeqAt.EqAt.none_int b t
  |str b=>obtain⟨t,rfl⟩:=rx;exact SeqAt.EqAt.none_str b t
  |_=>exact absurd (show false=true from fx) uX
 |bl a=>
  cases ry
  cases x with
  |non=>cases rx;exact SeqAt.EqAt.bool_none a
  |bl b=>cases rx;exact SeqAt.EqAt.bool_bool a b
  |int b=>obtain⟨t,rfl⟩:=rx;exact SeqAt.EqAt.bool_int a b t
  |str b=>obtain⟨t,rfl⟩:=rx;exact SeqAt.EqAt.bool_str a b t
  |_=>exact absurd (show false=true from fx) uX
 |int a=>
  obtain⟨t',rfl⟩:=ry;cases x with
  |non=>cases rx;exact SeqAt.EqAt.int_none a t'
  |bl b=>cases rx;exact SeqAt.EqAt.int_bool a t' b
  |int b=>obtain⟨t,rfl⟩:=rx;exact SeqAt.EqAt.int_int a t' b t
  |str b=>obtain⟨t,rfl⟩:=rx;exact SeqAt.EqAt.int_str a t' b t
  |_=>exact absurd (show false=true from fx) uX
 |str a=>
  obtain⟨t',rfl⟩:=ry;cases x with
  |non=>cases rx;exact SeqAt.EqAt.str_none a t'
  |bl b=>cases rx;exact SeqAt.EqAt.str_bool a t' b
  |int b=>obtain⟨t,rfl⟩:=rx;exact SeqAt.EqAt.str_int a t' b t
  |str b=>obtain⟨t,rfl⟩:=rx;exact SeqAt.EqAt.str_str a t' b t
  |_=>exact absurd (show false=true from fx) uX
 |_=>exact absurd (show false=true from fy) uX
def Aw (x:V)(u:Value):Bool:=match u with
 |.none=>HR .non x
 |.bool b=>HR (.bl b) x
 |.int i _=>HR (.int i) x
 |.str z _=>HR (.str z) x
 |_=>false
theorem Ff (r:ba y u)(f:lu y=true):Aw x u=HR y x:=by
 cases y with
 |non=>cases r;rfl
 |bl b=>cases r;rfl
 |int i=>obtain⟨t,rfl⟩:=r;rfl
 |str z=>obtain⟨t,rfl⟩:=r;rfl
 |_=>exact absurd (show false=true from f) uX
theorem mh:∀ {xs:List V}{us:List Value},aY xs us->xs.all lu=true->us.any (Aw x)=xs.any λy=>HR y x
 |_,_,.nil,_=>rfl
 |y::xs,u::us,.cons r t,f=>by
  rw[List.all_cons,vC]at f;rw[List.any_cons,List.any_cons,Ff r f.1,mh t f.2]
theorem ko (rx:ba x v)(fx:lu x=true):∀ {xs:List V}{us:List Value},aY xs us->xs.all lu=true->∀u∈us,SeqAt.EqAt A s u v (Aw x u)
 |_,_,.nil,_=>λu hu=>by cases hu
 |y::xs,u::us,.cons r t,f=>λu' hu=>by
  rw[List.all_cons,vC]at f;rcases vP hu with rfl|hu
  ·rw[Ff r f.1];exact MV r rx f.1 fx
  ·exact ko rx fx t f.2 u' hu
noncomputable def Si (x:V)(xs:List V):Bool:=xs.any λy=>HR y x
def Vx (K:Frag)(Ya:Bool):R2:=λx y H Q=>∃p xs,y=.ref p/\(hU K H p xs∨jj K H p xs)/\lu x=true/\xs.all lu=true/\Q (.bl (if Ya then !Si x xs else Si x xs)) H
theorem Dy:dN X (compareOp .In) (Vx X.K false):=by
 intro ae s σ H x y v u Q I rx ry h;obtain⟨p,xs,rfl,hq,fx,fs,q⟩:=h;cases ry
 rcases hq with hq|hq
 ·obtain⟨its,r,pl,hz⟩:=I.list hq;refine SeqAt.in_listAt (Aw x) pl.isList (λw hw=>ko rx fx r fs w (by simpa using hw)) ⟨.bl _,H,I,rfl,?_⟩;rw[show its.toArray.any (Aw x)=its.any (Aw x) by simp,mh r fs];exact q
 ·obtain⟨its,r,pl,hz⟩:=I.tuple hq;refine SeqAt.in_tupleAt (Aw x) pl (λw hw=>ko rx fx r fs w (by simpa using hw)) ⟨.bl _,H,I,rfl,?_⟩;rw[show its.toArray.any (Aw x)=its.any (Aw x) by simp,mh r fs];exact q
theorem wl:dN X (compareOp .NotIn) (Vx X.K true):=by
 intro ae s σ H x y v u Q I rx ry h;obtain⟨p,xs,rfl,hq,fx,fs,q⟩:=h;cases ry
 rcases hq with hq|hq
 ·obtain⟨its,r,pl,hz⟩:=I.list hq;refine SeqAt.notIn_listAt (Aw x) pl.isList (λw hw=>ko rx fx r fs w (by simpa using hw)) ⟨.bl _,H,I,rfl,?_⟩;rw[show its.toArray.any (Aw x)=its.any (Aw x) by simp,mh r fs];exact q
 ·obtain⟨its,r,pl,hz⟩:=I.tuple hq;refine SeqAt.notIn_tupleAt (Aw x) pl (λw hw=>ko rx fx r fs w (by simpa using hw)) ⟨.bl _,H,I,rfl,?_⟩;rw[show its.toArray.any (Aw x)=its.any (Aw x) by simp,mh r fs];exact q
theorem wm:bV X (.builtin "len") (λxs H Q=>∃p ys,xs=[.ref p]/\(hU X.K H p ys∨jj X.K H p ys)/\Q (.int ys.length) H):=by
 intro ae s σ H xs us Q I r h;obtain⟨p,ys,rfl,hq,q⟩:=h;obtain⟨u,rfl,rx⟩:=hV r;cases rx
 have hn:=nB;rcases hq with hq|hq
 ·obtain⟨its,r',pl,hz⟩:=I.list hq;have bB:=r'.length;exact Calls.call_len_list pl.isList (by simp only[vH]<;>omega) ⟨.int ys.length,H,I.tok _,⟨s.toks+1,by rw[vH,bB]⟩,q⟩
 ·obtain⟨its,r',pl,hz⟩:=I.tuple hq;have bB:=r'.length;exact len_tuple pl (by simp only[vH]<;>omega) ⟨.int ys.length,H,I.tok _,⟨s.toks+1,by rw[vH,bB]⟩,q⟩
theorem wn:bV X (.builtin "len") (λxs H Q=>∃z,xs=[.str z]/\z.length<=sizeLine/\Q (.int z.length) H):=by
 intro ae s σ H xs us Q I r h;obtain⟨z,rfl,hz,q⟩:=h;obtain⟨u,rfl,t,rfl⟩:=hV r;have hn:=nB;exact len_str (by omega) ⟨.int z.length,H,I.tok _,⟨_,rfl⟩,q⟩
theorem bV.or (h:bV X f r)(h':bV X f r'):bV X f (λxs H Q=>r xs H Q∨r' xs H Q):=by
 intro ae s σ H xs us Q I rs q;rcases q with q|q
 ·exact h ae s σ H xs us Q I rs q
 ·exact h' ae s σ H xs us Q I rs q
theorem wo:bV X (.type "list") (λxs H Q=>∃p ys,xs=[.ref p]/\(hU X.K H p ys∨jj X.K H p ys)/\∀l,H l=none->Q (.ref l) (upd H l (.lst ys))):=by
 intro ae s σ H xs us Q I r h;obtain⟨p,ys,rfl,hq,q⟩:=h;obtain⟨u,rfl,rx⟩:=hV r;cases rx
 have lr:∀(its:List Value),aY ys its->ys.length<=sizeLine->∀(h':Heap)(c':Nat),(∀b o',s.heap.get? b=some o'->h'.get? b=some o') ->
   h'.get? s.heap.objs.size=some { cls:=.type "list",dict:=none,data:=.seq its.toArray c',slots:=#[] }->EP X ae σ Q (.ref s.heap.objs.size) { s with heap:=h' }:=λits r' hz h' c' kp e=>
  ⟨.ref s.heap.objs.size,_,I.laid (t':=s.toks) kp (vT _) (show cm X.prog X.w _ h' _ (.lst ys)from ⟨hz,its,c',r',e⟩),rfl,q _ (I.hok.fresh (vT _))⟩
 rcases hq with hq|hq
 ·obtain⟨its,r',pl,hz⟩:=I.list hq;have bB:=r'.length;obtain⟨o,ho,hc,n,hd⟩:=pl.isList;exact call_list_seq p (.inl rfl) ho hc hd (λh' c' kp e=>lr its r' hz h' c' kp e) (by simp only[vH]<;>omega)
 ·obtain⟨its,r',pl,hz⟩:=I.tuple hq;have bB:=r'.length;obtain⟨o,ho,hc,n,hd⟩:=pl;exact call_list_seq p (.inr rfl) ho hc hd (λh' c' kp e=>lr its r' hz h' c' kp e) (by simp only[vH]<;>omega)
theorem sR:bV X (.type "tuple") (λxs H Q=>∃p ys,xs=[.ref p]/\((hU X.K H p ys/\∀l,H l=none->Q (.ref l) (upd H l (.tup ys)))∨(jj X.K H p ys/\Q (.ref p) H))):=by
 intro ae s σ H xs us Q I r h;obtain⟨p,ys,rfl,h⟩:=h;obtain⟨u,rfl,rx⟩:=hV r;cases rx
 rcases h with⟨hq,q⟩|⟨hq,q⟩
 ·obtain⟨its,r',pl,hz⟩:=I.list hq;have bB:=r'.length;refine call_tuple_list pl.isList (λh' kp=>?_) (by simp only[vH]<;>omega)
  have I1:Inv X ae σ H { s with heap:=h' }:=I.kept (t':=s.toks) kp;have I2:Inv X ae σ (upd H h'.objs.size (.tup ys)) { s with heap:=h'.push { cls:=.type "tuple",data:=.seq its.toArray } } :=
   I1.laid (t':=s.toks) (λb o e=>vZ _ e) (vT _) (show cm X.prog X.w _ _ _ (.tup ys)from ⟨hz,its,r',IsTup.new _ _⟩)
  exact⟨.ref h'.objs.size,_,I2,rfl,q _ (I1.hok.fresh (vT _))⟩
 ·obtain⟨its,r',pl,hz⟩:=I.tuple hq;exact call_tuple_same pl ⟨.ref p,H,I,rfl,q⟩
def Vy (K:Frag)(T:String)(x:V)(H:Hp):Prop:=match x with
 |.str _=>T = "str"
 |.int _=>T = "int"
 |.ref p=>(T = "list"/\∃xs,hU K H p xs)∨(T = "tuple"/\∃o,K.lookup p=some o/\o.cls=.type "tuple"/\o.dict=none) ∨
   (T = "dict"/\((∃aH ob,H p=some (.dK aH ob))∨∃aH,H p=some (.dT aH)))∨(T = "set"/\∃S n,H p=some (.set S n))
 |_=>False
theorem Ax (I:Inv X ae σ H s)(r:ba x v)(ty:Vy X.K T x H):
  s.TypeIs v T/\∀a,v=.ref a->∃ob,s.heap.get? a=some ob/\ob.dict=none:=by
 cases x with
 |str z=>
  obtain⟨t,rfl⟩:=r;cases (show T = "str" from ty)
  exact⟨typeIs_str s z t,λ_ e=>nomatch e⟩
 |int i=>
  obtain⟨t,rfl⟩:=r;cases (show T = "int" from ty)
  exact⟨typeIs_int s i t,λ_ e=>nomatch e⟩
 |ref p=>
  cases r
  rcases ty with⟨rfl,xs,hq⟩|⟨rfl,o,hk,hc,hd⟩|⟨rfl,hk⟩|⟨rfl,S,n,hk⟩
  ·obtain⟨its,_,pl,_⟩:=I.list hq;refine⟨pl.isList.typeIs,λa e=>?_⟩;cases e
   obtain⟨o,n,e,c,hd,_⟩:=pl;exact⟨o,e,hd⟩
  ·refine⟨⟨o,I.kIn p o hk,hc⟩,λa e=>?_⟩;cases e
   exact⟨o,I.kIn _ o hk,hd⟩
  ·have z:∃o,s.heap.get? p=some o/\o.ExactDict:=by
    rcases hk with⟨aH,VS,hk⟩|⟨aH,hk⟩
    ·obtain⟨_,_,_,_,_,o,_,_,e,ex,_⟩:=I.hok p _ hk;exact⟨o,e,ex⟩
    ·obtain⟨_,_,_,_,o,_,_,e,ex,_⟩:=I.hok p _ hk;exact⟨o,e,ex⟩
   obtain⟨o,e,ex⟩:=z;refine⟨⟨o,e,ex.1⟩,λa e2=>?_⟩;cases e2
   exact⟨o,e,ex.2.1⟩
  ·obtain⟨o,_,_,_,e,ex,_⟩:=I.hok p _ hk;refine⟨⟨o,e,ex.1⟩,λa e2=>?_⟩;cases e2
   exact⟨o,e,ex.2.1⟩
 |_=>exact False.elim ty
def Xl (K:Frag)(T:String)(r:V->List V->Hp->VK->Prop)(to:TE)(t:TA):TE:=λσ H Q=>to σ H λx H1=>Vy K T x H1/\t σ H1 λxs H2=>r x xs H2 Q
variable {o e:Expr}{es:List Expr}{to:TE}{t:TA}{name:Str}{dI cH:Pos}{T id:String}{r:V->List V->Hp->VK->Prop}
theorem Fg (pa:PlainAttrs T)(slot:Slot T name id)(LV:typeOf (.builtin id)=pure (.type "method_descriptor"))(hm:IC X id r)(ho:PE X o to)(ha:PA X (e::es) t)
  (iG:attributeBase o name X.env (eval o X.env)=eval o X.env:=by rfl)
  (B4:((backTo cH (starEach (e::es) X.env)).all (λx=>!x.1) && (backToKw cH (keywordEach [] X.env)).all (λx=>x.1.isSome)
   && decide ((e::es).length+([]:List Keyword).length+(if([]:List Keyword).isEmpty then 0 else 1)<30))=true:=by rfl)
  (iH:(dI.endLine == cH.line)=true:=by rfl) (hs:starEach (e::es) X.env=(false,eval e X.env)::starEach es X.env:=by rfl) (Oq:(backTo cH (starEach es X.env)).any (·.1)=false:=by rfl):
  PE X (.Call (.Attribute o name dI) (e::es) [] cH) (Xl X.K T r to t):=by
 intro ae s σ H Q I h;refine wpAny_Call_method_late iG B4 iH rfl (cE (ho ae s σ H _ I h) λv s1 ⟨x,H1,I1,r1,ty,q1⟩=>?_);obtain⟨h1,h2⟩:=Ax I1 r1 ty;refine⟨T,id,pa,slot,LV,h1,h2,?_⟩;have hA:=ha cH ae s1 σ H1 _ I1 q1;rw[hs]at hA ⊢;refine Calls.callWith_builtin (by show(false || (backTo cH (starEach es X.env)).any (·.1))=false;rw[Oq]<;>rfl) (Calls.evalArgs_plain ?_)
 exact cE hA λus s2 ⟨vs,H2,I2,r2,q2⟩=>hm ae s2 σ H2 x vs v us Q I2 r1 r2 q2
/- xs.append(e),list.index on a module's tuple .. are IC facts of 06m -/
end
def Xm (X:Cx)(id:String)(r:V->List V->Hp->VK->Prop):Prop :=
 ∀(ae:List (Addr×Obj))(s:Shared)(σ:St)(H:Hp)(x:V)(xs:List V)(v:Value)(us:List Value)(Q:VK),Inv X ae σ H s->ba x v->aY xs us->r x xs H Q ->
  wq X (call (.builtin id) (v::us)) (EP X ae σ Q) X.xe s
theorem aY.one:∀ {x:V}{us:List Value},aY [x] us->∃u,us=[u]/\ba x u
 |_,_,.cons r .nil=>⟨_,rfl,r⟩
theorem aY.two:∀ {x y:V}{us:List Value},aY [x,y] us->∃u v,us=[u,v]/\ba x u/\ba y v
 |_,_,_,.cons r (.cons q .nil)=>⟨_,_,rfl,r,q⟩
theorem aY.eraseIdx:∀ {xs:List V}{us:List Value}(i:Nat),aY xs us->aY (xs.eraseIdx i) (us.eraseIdx i)
 |_,_,_,.nil=>.nil
 |_,_,0,.cons _ t=>t
 |_,_,i+1,.cons r t=>.cons r (aY.eraseIdx i t)
theorem aY.rep (h:aY xs us):∀k:Nat,aY (List.replicate k xs).flatten (List.replicate k us).flatten
 |0=>.nil
 |k+1=>by
  rw[List.replicate_succ,List.replicate_succ,List.flatten_cons,List.flatten_cons];exact aY.append h (aY.rep h k)
theorem tN (its:List Value):∀(k:Nat)(ls:List Value),
  List.foldl (λx1 x2=>x1++x2) ls.toArray (List.replicate k its.toArray)=(ls++(List.replicate k its).flatten).toArray
 |0,ls=>by simp
 |k+1,ls=>by
  have e:ls.toArray++its.toArray=(ls++its).toArray:=by simp
  have e2:(ls++its)++(List.replicate k its).flatten=ls++(List.replicate (k+1) its).flatten:=by
   rw[List.replicate_succ,List.flatten_cons,List.append_assoc]
  rw[←e2,←tN its k (ls++its),←e,List.replicate_succ,List.foldl_cons]
section
variable {X:Cx}{ae:List (Addr×Obj)}{σ:St}{H:Hp}{s:Shared}{l b:Addr}{xs ys zs:List V}
theorem Inv.lset {its its':List Value}{n:Nat}{f:Array Value->Array Value}{t':Nat}(I:Inv X ae σ H s)(hH:H l=some (.lst xs))
  (e:s.heap.get? l=some { cls:=.type "list",data:=.seq its.toArray n }) (hf:f its.toArray=its'.toArray) (hv:aY ys its') (hz:ys.length<=sizeLine):
  Inv X ae σ (upd H l (.lst ys)) { s with heap:=s.heap.update l (Obj.mapSeq f),toks:=t' }:=by
 have q:=PySem.IsL.update e f;rw[hf]at q;refine I.write (x:=l) (e:=l) (by rw[hH];exact trivial) (.inl rfl) (λb' u hb hu=>(Heap.get?_update_other s.heap (Obj.mapSeq f) (Ne.symm hb)).trans hu) ⟨_,q⟩ ?_;exact⟨hz,its',_,hv,q⟩
theorem Inv.lnew (I:Inv X ae σ H s)(hv:aY ys its)(hz:ys.length<=sizeLine):
  Inv X ae σ (upd H s.heap.objs.size (.lst ys)) { s with heap:=s.heap.push { cls:=.type "list",data:=.seq its.toArray },toks:=t' } :=
 I.laid (λ_ _ q=>vZ _ q) (vT _) ⟨hz,its,0,hv,vY _ rfl⟩
theorem Inv.fresh (I:Inv X ae σ H s):H s.heap.objs.size=none:=I.hok.fresh (vT _)
theorem Inv.lstM (I:Inv X ae σ H s)(hH:H l=some (.lst xs)):xs.length<=sizeLine/\∃(its:List Value)(n:Nat),aY xs its/\xs.length=its.length/\s.heap.get? l=some { cls:=.type "list",data:=.seq its.toArray n }:=by
 obtain⟨z,its,n,r,e⟩:=I.hok l _ hH;exact⟨z,its,n,r,r.length,e⟩
theorem Fh (h:n<=sizeLine):Builtin.List.listTooLong n=false:=by
 unfold Builtin.List.listTooLong;exact decide_eq_false (by omega)
end
section
variable {X:Cx}
def BE:V->List V->Hp->VK->Prop:=λx vs H Q=>∃l xs y,x=.ref l/\vs=[y]/\H l=some (.lst xs)/\xs.length<sizeLine/\Q .non (upd H l (.lst (xs++[y])))
theorem tO:Xm X "list.append" BE:=by
 intro ae s σ H x vs v us Q I rx rv h;obtain⟨l,xs,y,rfl,rfl,hH,hz,q⟩:=h;cases rx
 obtain⟨u,rfl,ru⟩:=rv.one;obtain⟨z,its,n,r,hl,e⟩:=I.lstM hH;refine call_meets F.slot_list_append ⟨_,e,rfl⟩ F.entry_list_append (F.args_list_append_2 _ _) (PySem.list_append l its.toArray n u (by rw[vH];omega)) ⟨e,?_⟩;refine⟨.non,_,I.lset (its':=its++[u]) hH e (by simp) (r.append (.cons ru .nil)) ?_,rfl,q⟩;rw[uZ,List.length_singleton];omega
def Tj:R2:=λx y H Q=>∃l k xs,x=.ref l/\y=.int k/\H l=some (.lst xs)/\-(2 ^ 63)<=k/\k<2 ^ 63/\xs.length*k.toNat<=sizeLine /\
 ∀p,H p=none->Q (.ref p) (upd H p (.lst (List.replicate k.toNat xs).flatten))
theorem IF {α:Type}(xs:List α)(k:Nat):(List.replicate k xs).flatten.length=k*xs.length:=by
 induction k with
 |zero=>simp
 |succ k ih=>rw[List.replicate_succ,List.flatten_cons,uZ,ih,Nat.succ_mul,Nat.add_comm]
theorem MW:dN X (binaryOp .Mult) Tj:=by
 intro ae s σ H x y v u Q I rx ry h;obtain⟨l,k,xs,rfl,rfl,hH,h1,h2,hz,q⟩:=h;cases rx
 obtain⟨t,rfl⟩:=ry;obtain⟨z,its,n,r,hl,e⟩:=I.lstM hH;have bB:its.toArray.size*k.toNat<=sizeLine:=by rw[vH,←hl];exact hz
 have Uf:¬its.toArray.size*k.toNat > (2 ^ 63 - 1) / 8:=by
  have:(sizeLine:Nat)<=(2 ^ 63 - 1) / 8:=by decide
  omega
 have Ug:¬(!Builtin.List.listFitsIndex k)=true:=by
  rw[fitsIndex_both h1 h2];exact uX
 have Rm:¬Builtin.List.listTooLong (its.toArray.size*k.toNat)=true:=by
  rw[Fh bB];exact uX
 have Uh:List.foldl (λx1 x2=>x1++x2) #[] (List.replicate (if its.toArray.isEmpty=true then 0 else k.toNat) its.toArray)=(List.replicate k.toNat its).flatten.toArray:=by
  have f0:∀m:Nat,List.foldl (λx1 x2=>x1++x2) #[] (List.replicate m its.toArray)=(List.replicate m its).flatten.toArray:=λm=>by
   have:=tN its m [];rw[List.nil_append]at this;exact this
  rw[f0];cases its with
  |nil=>simp
  |cons a r'=>rw[if_neg (by simp)]
 refine wpAny_binaryOp_repeat_ref (T:="list") (U:="int") (by decide) ⟨_,e,rfl⟩ (λs'=>typeIs_int s' k t) noFill_list_mul F.fills_int_mul F.slot_int_rmul repeat_list F.slot_int_index.lookup
  (call_meets F.slot_int_rmul (typeIs_int s k t) F.entry_int_rmul (F.args_int_rmul_2 _ _) (int___rmul___int_list k t l its.toArray n)
   ⟨e,rfl,⟨_,e,rfl⟩,call_meets F.slot_list_mul ⟨_,e,rfl⟩ F.entry_list_mul (F.args_list_mul_2 _ _) (AutoListH.list___mul___list_int_3 l its.toArray n k t Ug Uf Rm) ⟨e,?_⟩⟩)
 rw[Uh];exact⟨.ref _,_,I.lnew (t':=s.toks) (r.rep k.toNat) (by rw[IF,Nat.mul_comm];exact hz),rfl,q _ I.fresh⟩
end
end L2
namespace Att
open PySem PySem.W PySem.Calls PyProof.Rows
theorem pv:∀(ns:List Int)(vs:List Value),WellAll P h vs (ns.map WData.int)->IntsAre vs ns:=by
 intro ns;induction ns with
 |nil=>
  intro vs w;rw[List.map_nil]at w;cases w
  exact .nil
 |cons n ns ih=>
  intro vs w;rw[uY]at w;cases w with
  |cons a b=>
   cases a
   exact .cons _ _ (ih _ b)
theorem Dz {l:OpenLaw}{n:Nat}(hn:l.most=some n){P:Params}{h:Heap}{args:List WData}{vals:List Value}
  (K5:l.row.toRowW.claim.pre args=true) (Ui:WellAll P h vals args):
  ∃a vs ns,vals=[Value.ref a]/\args=[WData.list (ns.map WData.int)]/\h.get? a=some { cls:=.type "list",data:=.seq vs.toArray }/\IntsAre vs ns/\ns.length<=n:=by
 have Uj:WShape.hasAll [] args [.list .int]=true:=(pre_splitW K5).1;have hc:l.pre.holds [] { args:=args }=true:=(pre_splitW K5).2;obtain⟨d,r,rfl,h1,h2⟩:=hasAllW_cons Uj;obtain rfl:=hasAllW_nil h2;obtain⟨xs,rfl,h3⟩:=hasW_list h1;obtain⟨ns,rfl⟩:=items_int h3;have bB:ns.length<=n:=by
  unfold OpenLaw.pre at hc;have h4:(WTm.not (.lt (.lit (.int (n:Int))) (.len (.arg 0)))).holds [] { args:=[.list (ns.map .int)] }=true:=by
   have h4:=(holds_andW hc).1;rw[hn]at h4;exact h4
  have h5:=condW_of h4 (w_not (w_lt w_lit (w_len_list (w_arg rfl))));rw[vI]at h5;refine Nat.le_of_not_lt λq=>?_;have q':(n:Int)<((ns.length:Nat):Int):=by omega
  first
   | (rw[decide_eq_true q']at h5;exact absurd h5 (by decide))
   | (simp at h5;omega)
 cases Ui with
 |cons w1 w2=>
  cases w2
  cases w1 with
  |list ho nn=>exact⟨_,_,ns,rfl,rfl,ho,pv ns _ nn,bB⟩
theorem D0 (l:OpenLaw)(args:List WData):l.row.toRowW.claim.post args (.bool true) args=true :=
 postW_of (r:=l.row.toRowW) (X:=(true == true))
  (show WShape.has [] (.bool true) .bool=true by first|rfl|decide|simp[WShape.has,WShape.arms,WShape.armsAll])
  (show(WTm.eq .res (.lit (.bool true))).value [] { args:=args,res:=some (.bool true),after:=args }=some (.bool (true == true))from w_eq_bool (w_res rfl) w_lit) rfl
theorem xI {l:OpenLaw}{n:Nat}{q:Program}{Dg:List Str}{XP:(Str->Option Value)->Heap->Prop}{YP:World->Heap->Prop}{d:DefRec}
  (hn:l.most=some n) (Rn:d.params.defaults=[])
  (call:∀(w:World)(s₀ s₁:Shared)(mg mb:Str->Option Value)(fa:Addr)(o:Obj)(pm cd doc:Value)(a:Addr)(vs:List Value)(ns:List Int),
   Ground q Dg [] XP w s₀ mg mb s₁.heap->YP w s₁.heap ->
   s₁.heap.get? fa=some o->o.data=.func (docDef d.name d.params d.body d.scope pm cd doc)->s₁.heap.CodeRec cd d.name->mg d.name=some (.ref fa) ->
   s₁.heap.get? a=some { cls:=.type "list",data:=.seq vs.toArray }->IntsAre vs ns->ns.length<=n->s₁.gens=#[] ->
   codeAny (model l.prog w) callerA (.call (.ref fa) ⟨[.ref a],[]⟩) (λr s'=>r=.ok (.ret (.bool true))/\OldK s₁.heap s'.heap/\s'.os=s₁.os/\AllBare s'.gens) s₁):
  WalkO q Dg XP YP l.row.toRowW d [] (λf vs=>PySem.call f vs):=by
 intro w s₀ s₁ mg mb G Y fa o pm cd doc dV kV ho hd j9 hD hmg hg args vals as K5 hlay hrd Ui hlo;obtain rfl:dV=.none:=Dflts.none hD Rn;obtain rfl:kV=.none:=Dflts.noKw hD;obtain⟨a,vs,ns,rfl,rfl,Ot,Hy,bB⟩:=Dz hn K5 Ui;refine enter_call (codeAny_mono (call w s₀ s₁ mg mb fa o pm cd doc a vs ns G Y ho (fd_plain hd) j9 hmg Ot Hy bB hg) λr s' hq=>?_);obtain⟨rfl,h2,h3,h4⟩:=hq;exact⟨.inl ⟨.bool true,.bool true,[],rfl,λ_=>rfl,.bool true,D0 l _,λ_=>⟨List.Pairwise.nil,λ_ hm=>(nomatch hm)⟩⟩,h2,h3,h4⟩
section
variable {prog:Program}{w:World}{A:Around}{E:Value->Shared->Prop}{s:Shared}{K:Frag}
theorem Qk 
  (X:K.In s.heap) (hm:makesIn K C=true) (hi:findIn K (.ref C) "__init__" = some (some (.ref fI))) (hf:isFn K (.ref fI)=true)
  (h:codeAny (model prog w) (A.under (.builtin "type.__call__" ⟨.ref C::aD,kw⟩)) (.call (.ref fI) ⟨.ref (s.heap.objs.size+1)::aD,kw⟩) (InitBack (s.heap.objs.size+1) R)
   { s with heap:=(s.heap.push emptyDict).push (instObj C s.heap.objs.size) }):codeAny (model prog w) A (.call (.ref C) ⟨aD,kw⟩) R s:=by
 obtain⟨hh,g,d,t,os⟩:=s;exact make_core (makes_of X hm) (looks_findIn X hi) (λself=>bind_fn X self (beq_iff_eq.mp hf)) (.inl rfl) h
theorem OJ 
  (X:K.In s.heap) (I:PySem.W.InstAt s.heap x ox C (some (dictOf es n))) (hg:plainGet K C name=true) (hh:hasDictIn K C=true) (ha:findIn K (.ref C) name=some none)
  (hl:getL name es=some (some v)) (hv:handedIn v=true) (h:Q v { s with toks:=s.toks+1 }):wpAny (model prog w) A (getAttr (.ref x) name expr) Q E s :=
 get_value X I (plainGet_of hg).1 (findObj_own hh ha rfl hl) hv h
def Tk (h:Heap)(L d:Addr):List (Addr×Obj):=(List.range h.objs.size).filterMap λa=>if a=L∨a=d then none else (h.get? a).map λo=>(a,o)
end
end Att
namespace L2
open PySem PySem.Spec PyProof.Rows
theorem gW:∀ {vs:List Value}{ns:List Int},IntsAre vs ns->aY (ns.map V.int) vs
 |_,_,.nil=>.nil
 |_,_,.cons n t h=>.cons ⟨t,rfl⟩ (gW h)
noncomputable def gh (s:Stmt):Arguments:=match s with
 |.FunctionDef _ a _ _ _ _ _ _ _ _=>a
 |_=>{ posonlyargs:=[],args:=[],vararg:=none,kwonlyargs:=[],kw_defaults:=[],kwarg:=none,defaults:=[] }
noncomputable def cL (s:Stmt):List Stmt:=match s with
 |.FunctionDef _ _ b _ _ _ _ _ _ _=>b
 |_=>[]
noncomputable def aS (s:Stmt):Scope:=match s with
 |.FunctionDef _ _ _ _ _ _ sc _ _ _=>sc
 |_=>{ kind:=.function,names:=[],isGenerator:=false,isCoroutine:=false }
abbrev zZ:KU:=λ_ _ _ _ _ _=>False
abbrev E0:XK:=λ_ _ _=>False
theorem Ql:Aq zZ X E0:=λ_ _ _ _ _ _ _ h=>h.elim
structure Ou (K:Frag)(x qual:Str)(st:Stmt)(f:Addr)(fd:FuncData):Prop where
 ex:∃(oc:Value)(od:Option Addr)(kV doc pm:Value)(an:Option Addr)(eJ ct:Value)(ph:Array (Option Value)),
  fd=fnOf x qual (gh st) (cL st) (aS st) .none kV doc pm an eJ ct/\K.lookup f=some ⟨oc,od,.func fd,ph⟩/\PySem.W.codeIn K eJ qual=true
 kp:PySem.W.keepIn K (.ref f)=true
section
variable {P:Program}{w:World}{K:Frag}{mg:Str->Option Value}{base:Heap}
theorem Ou.ok {x qual:Str}{st:Stmt}{f:Addr}{fd:FuncData}{N ps:List Str}{k:Nat}{sp:Sp}(F:Ou K x qual st f fd)(S:FnScope N ps (aS st))(len:∀vs H Q E,sp vs H Q E->vs.length=ps.length)
  (Hx:∀(eJ:Value)(A:Around)(outer:List Env)(s:Shared)(H:Hp)(vs:List V)(Q:VK)(E:XK),eP k (A.deeper (envOfC qual (aS st) s.heap.objs.size f eJ))->sp vs H Q E ->
   ∃t,vz (pj zZ P w K mg base N qual (aS st) f eJ A outer s H E).nox (cL st) t/\t { nx:=λ_ H'=>Q .non H',rt:=Q } (jS N vs) H):t7 P w K mg base zZ (k+1) f fd ps sp:=by
 obtain⟨oc,od,kV,doc,pm,an,eJ,ct,ph,rfl,lk,j9⟩:=F.ex;refine KW lk j9 S len λA outer s H vs Q E hr Pj=>?_;obtain⟨t,h,q⟩:=Hx eJ A outer s H vs Q E hr Pj;exact⟨t,h.nox,q⟩
theorem Ou.binds {x qual:Str}{st:Stmt}{f:Addr}{fd:FuncData}{ps:List Str}(F:Ou K x qual st f fd)
  (h:∀(kV doc pm:Value)(an:Option Addr)(eJ ct:Value)(us:List Value),us.length=ps.length->bindArgs (fnOf x qual (gh st) (cL st) (aS st) .none kV doc pm an eJ ct) ⟨us,[]⟩=pure (ps.zip us)):tH K fd ps []:=by
 obtain⟨oc,od,kV,doc,pm,an,eJ,ct,ph,rfl,lk,j9⟩:=F.ex;exact .all (h kV doc pm an eJ ct)
theorem MX {x qual:Str}{st:Stmt}{f:Addr}{oc:Value}{od an:Option Addr}{ph:Array (Option Value)}{kV doc pm eJ ct:Value}(l:K.lookup f=some ⟨oc,od,.func (fnOf x qual (gh st) (cL st) (aS st) .none kV doc pm an eJ ct),ph⟩)
  (c:PySem.W.codeIn K eJ qual=true) (k:PySem.W.keepIn K (.ref f)=true):Ou K x qual st f (fnOf x qual (gh st) (cL st) (aS st) .none kV doc pm an eJ ct):=⟨⟨oc,od,kV,doc,pm,an,eJ,ct,ph,rfl,l,c⟩,k⟩
end
def aX (H H':Hp):Prop:=∀b o,H b=some o->H' b=some o
theorem aX.refl (H:Hp):aX H H:=λ_ _ h=>h
theorem aX.trans (a:aX H H1)(b:aX H1 H2):aX H H2:=λc o h=>b c o (a c o h)
theorem aX.free (e:aX H H')(h:H' l=Option.none):H l=Option.none:=by
 cases q:H l with
 |none=>rfl
 |some o=>
  rw[e l o q]at h;cases h
theorem aX.seq {K:Frag}{H H':Hp}{a:Addr}{xs:List V}(e:aX H H')(h:hU K H a xs):hU K H' a xs:=by
 rcases h with (h|⟨o,h⟩)|h
 ·exact .inl (.inl (e _ _ h))
 ·exact .inl (.inr ⟨o,e _ _ h⟩)
 ·exact .inr h
section
variable {κ:Type}[DecidableEq κ]
noncomputable def jZ (aH:List (κ×V))(k:κ):Option V:=(aH.find? λkv=>decide (kv.1=k)).map (·.2)
def ml (aH:List (κ×V))(k:κ)(v:V):List (κ×V) :=
 if(aH.any λkv=>decide (kv.1=k))=true then aH.map (λkv=>if kv.1=k then (kv.1,v)else kv)else aH++[(k,v)]
theorem mm {p:κ×V}{r:List (κ×V)}{k:κ}(e:p.1=k):jZ (p::r) k=some p.2:=by simp[jZ,List.find?_cons,e]
theorem mn {p:κ×V}{r:List (κ×V)}{k:κ}(e:¬p.1=k):jZ (p::r) k=jZ r k:=by simp[jZ,List.find?_cons,e]
theorem xJ (k:κ):∀aH:List (κ×V),(aH.any λkv=>decide (kv.1=k))=(jZ aH k).isSome
 |[]=>rfl
 |p::r=>by
  rw[List.any_cons];by_cases e:p.1=k
  ·simp only[mm e,decide_eq_true e,Bool.true_or,Option.isSome_some]
  ·rw[mn e,decide_eq_false e,Bool.false_or];exact xJ k r
theorem kq (aH:List (κ×V))(k:κ)(v:V):(ml aH k v).length<=aH.length+1:=by
 unfold ml;split
 ·rw[vI];omega
 ·rw[uZ,vE,List.length_nil];omega
theorem pi.isSome_eq (r:pi o u):o.isSome=u.isSome:=by
 cases o with
 |none=>cases u with
  |none=>rfl
  |some _=>exact(show False from r).elim
 |some _=>cases u with
  |none=>exact(show False from r).elim
  |some _=>rfl
theorem pi.getD (r:pi o u)(rd:ba d d'):ba (o.getD d) (u.getD d'):=by
 cases o with
 |none=>cases u with
  |none=>exact rd
  |some _=>exact(show False from r).elim
 |some _=>cases u with
  |none=>exact(show False from r).elim
  |some _=>exact r
theorem KV.val {aH:List (κ×V)}{vs:List (κ×Value)}(r:KV aH vs)(k:κ):pi (jZ aH k) (valueAt vs k):=by
 unfold KV at r;induction r with
 |nil=>exact True.intro
 |@cons p q ps qs h t ih=>
  obtain⟨h1,h2⟩:=h;by_cases e:p.1=k
  ·have e':q.1=k:=h1.symm.trans e;have b:valueAt (q::qs) k=some q.2:=by simp[valueAt,List.find?_cons,e']
   rw[mm e,b];exact h2
  ·have e':¬q.1=k:=λz=>e (h1.trans z);have b:valueAt (q::qs) k=valueAt qs k:=by simp[valueAt,List.find?_cons,e']
   rw[mn e,b];exact ih
theorem KV.any (r:KV aH vs)(k:κ):(aH.any λkv=>decide (kv.1=k))=vs.any λkv=>decide (kv.1=k):=by
 unfold KV at r;induction r with
 |nil=>rfl
 |cons h t ih=>rw[List.any_cons,List.any_cons,ih,h.1]
theorem KV.repl (r:KV aH vs)(k:κ)(ry:ba y u):
  KV (aH.map λkv=>if kv.1=k then (kv.1,y)else kv) (vs.map λkv=>if kv.1=k then (kv.1,u)else kv):=by
 unfold KV at r ⊢;induction r with
 |nil=>exact .nil
 |@cons p q ps qs h t ih=>
  rw[uY,uY];refine .cons ?_ ih;obtain⟨h1,h2⟩:=h;by_cases e:p.1=k
  ·rw[if_pos e,if_pos (h1.symm.trans e)];exact⟨h1,ry⟩
  ·rw[if_neg e,if_neg (λz=>e (h1.trans z))];exact⟨h1,h2⟩
theorem KV.put (r:KV aH vs)(k:κ)(ry:ba y u):KV (ml aH k y) (stored vs k u):=by
 unfold ml stored;rw[r.any k];by_cases e:(vs.any λkv=>decide (kv.1=k))=true
 ·rw[if_pos e,if_pos e];exact r.repl k ry
 ·rw[if_neg e,if_neg e];exact Paired.snoc r ⟨rfl,ry⟩
theorem KV.length (r:KV aH vs):aH.length=vs.length:=Paired.length r
end
theorem tP (r:ba (kV k) u):(cq P w).is k u=true:=by
 cases k with
 |inl i=>obtain⟨t,e⟩:=(show ∃t,u=Value.int i t from r);subst e;exact xA P w i t
 |inr x=>obtain⟨t,e⟩:=(show ∃t,u=Value.str x t from r);subst e;exact xB P w x t
theorem tQ:∀ {ks:List cx}{us:List Value},aY (ks.map kV) us->ItemsAre (cq P w) ks us
 |[],_,r=>by rw[List.map_nil]at r;cases r;exact .nil
 |k::ks,_,r=>by
  rw[uY]at r;cases r with
  |cons h t=>exact .cons (tP h) (tQ t)
abbrev KT (H:Hp):List (List cx×V)->List (List cx×Addr×Value)->Prop:=Paired λp q=>p.1=q.1/\H q.2.1=some (.tup (p.1.map kV))/\ba p.2 q.2.2
theorem KT.val {H:Hp}{aH:List (List cx×V)}{xs:List (List cx×Addr×Value)}(r:KT H aH xs)(k:List cx):pi (jZ aH k) ((atKey xs k).map (·.2)):=by
 induction r with
 |nil=>exact True.intro
 |@cons p q ps qs h t ih=>
  obtain⟨h1,_,h2⟩:=h;by_cases e:p.1=k
  ·have e':q.1=k:=h1.symm.trans e;have b:atKey (q::qs) k=some q.2:=by simp[atKey,List.find?_cons,e']
   rw[mm e,b];exact h2
  ·have e':¬q.1=k:=λz=>e (h1.trans z);have b:atKey (q::qs) k=atKey qs k:=by simp[atKey,List.find?_cons,e']
   rw[mn e,b];exact ih
theorem KT.repl (r:KT H aH xs)(k:List cx)(ry:ba y u):
  KT H (aH.map λkv=>if kv.1=k then (kv.1,y)else kv) (xs.map (putAt k u)):=by
 induction r with
 |nil=>exact .nil
 |@cons p q ps qs h t ih=>
  rw[uY,uY];refine .cons ?_ ih;obtain⟨h1,h2,h3⟩:=h;unfold putAt;by_cases e:p.1=k
  ·rw[if_pos e,if_pos (h1.symm.trans e)];exact⟨h1,h2,ry⟩
  ·rw[if_neg e,if_neg (λz=>e (h1.trans z))];exact⟨h1,h2,h3⟩
theorem KT.put (r:KT H aH xs)(k:List cx)(hb:H b=some (.tup (k.map kV)))(ry:ba y u):
  KT H (ml aH k y) (storedH xs k b u):=by
 have e:(aH.any λkv=>decide (kv.1=k))=(atKey xs k).isSome:=by
  rw[xJ,(r.val k).isSome_eq,Option.isSome_map]
 unfold ml storedH;rw[e];by_cases q:(atKey xs k).isSome=true
 ·rw[if_pos q,if_pos q];exact r.repl k ry
 ·rw[if_neg q,if_neg q];exact Paired.snoc r ⟨rfl,hb,ry⟩
theorem KT.keeps (r:KT H aH xs)(ht:∀b ys,H b=some (.tup ys)->H' b=some (.tup ys)):KT H' aH xs :=
 Paired.mapP r λ_ _ z=>⟨z.1,ht _ _ z.2.1,z.2.2⟩
section
variable {P:Program}{w:World}{H:Hp}{h:Heap}{a:Addr}
theorem KZ (ok:lh P w H h)(e:Rd H a u):cm P w H h a u:=e.ok ok
theorem Ay (ok:lh P w H h)(e:H a=some (.dK aH ob)):h.get? a=some ob:=And.left (show cm P w H h a (.dK aH ob)from ok a _ e)
theorem xK (ok:lh P w H h)(e:Rd H a (.dK aH ob)):aH.length<=sizeLine/\(a == sysModules)=false/\∃vs,KV aH vs/\h.DictOf (cq P w) a vs :=
 And.right (show cm P w H h a (.dK aH ob)from KZ ok e)
theorem o5 (ok:lh P w H h)(e:H a=some (.dK aH ob)):aH.length<=sizeLine/\(a == sysModules)=false/\∃vs,KV aH vs/\h.DictOf (cq P w) a vs:=xK ok (.inl e)
theorem pP (ok:lh P w H h)(e:H a=some (.tup (ks.map kV))):(tupleKind (cq P w)).is h ks a:=by
 obtain⟨_,its,r,o,h1,h2,n,h3⟩:=(show cm P w H h a (.tup (ks.map kV))from ok a _ e);exact⟨o,its.toArray,n,h1,h2,h3,by simpa using tQ r⟩
theorem xL (ok:lh P w H h)(e:Rd H a (.dT aH)):aH.length<=sizeLine/\(a == sysModules)=false /\
  ∃xs,KT H aH xs/\h.DictOfH (tupleKind (cq P w)) a xs:=by
 obtain⟨z,y,xs,r,o,es,ep,h1,h2,h3,h4,h5⟩:=(show cm P w H h a (.dT aH)from KZ ok e);refine⟨z,y,xs,r,o,es,ep,h1,h2,h3,h4,λx hx=>?_,h5⟩;have all:∀ {l:List (List cx×V)}{m:List (List cx×Addr×Value)},KT H l m->∀x∈m,(tupleKind (cq P w)).is h x.1 x.2.1:=by
  intro l m q;induction q with
  |nil=>intro x hx;exact nomatch hx
  |@cons p q ps qs hq t ih=>
   intro x hx;rcases vP hx with e|hx
   ·subst e;exact pP ok (by rw[←hq.1];exact hq.2.1)
   ·exact ih x hx
 exact all r x hx
theorem Qm (ok:lh P w H h)(e:H a=some (.dT aH)):aH.length<=sizeLine/\(a == sysModules)=false /\
  ∃xs,KT H aH xs/\h.DictOfH (tupleKind (cq P w)) a xs:=xL ok (.inl e)
end
def xM (H:Hp)(a:Addr)(y:V)(r:Option V):Prop :=
 (∃aH k ob,Rd H a (.dK aH ob)/\y=kV k/\r=jZ aH k)∨∃aH k b,Rd H a (.dT aH)/\y=.ref b/\H b=some (.tup (k.map kV))/\r=jZ aH k
def Qn (H:Hp)(a:Addr)(y v:V)(Q:Hp->Prop):Prop :=
 (∃aH k ob,H a=some (.dK aH ob)/\y=kV k/\aH.length<sizeLine/\∀Uk,Q (upd H a (.dK (ml aH k v) Uk))) ∨
 ∃aH k b,H a=some (.dT aH)/\y=.ref b/\H b=some (.tup (k.map kV))/\aH.length<sizeLine/\Q (upd H a (.dT (ml aH k v)))
theorem xM.t (e:H a=some (.dT aH))(eb:H b=some (.tup (k.map kV))):xM H a (.ref b) (jZ aH k):=.inr ⟨aH,k,b,.inl e,rfl,eb,rfl⟩
section
variable {X:Cx}{ae:List (Addr×Obj)}{σ:St}{H:Hp}{s:Shared}{a:Addr}{y v:V}{u r:Value}{o:Option V}{A:Around}{E:Value->Shared->Prop}
theorem Inv.big (I:Inv X ae σ H s):sysModules<s.heap.objs.size:=by
 have h:mainGlobals<s.heap.objs.size:=(I.mod.glob.keeps I.bk).lt;exact Nat.lt_trans (by decide) h
theorem Tl (hu:A.units+1<cLine)(I:Inv X ae σ H s)(g:xM H a y o)(ry:ba y u)(h:∀s',Inv X ae σ H s'->Q (.bool o.isSome) s'):
  wpAny (model X.prog X.w) A (compareOp .In u (.ref a)) Q E s:=by
 rcases g with⟨aH,k,ob,e,ey,l⟩|⟨aH,k,b,e,ey,eb,l⟩
 ·subst ey;obtain⟨z,hd,vs,sL,dd⟩:=xK I.hok e;refine wpAny_in_of (tP ry) hd dd.mapOf ?_;rw[←(sL.val k).isSome_eq,←l];exact h _ (I.tok _)
 ·subst ey;cases (show u=Value.ref b from ry)
  obtain⟨z,hd,xs,sL,dd⟩:=xL I.hok e;refine wpAny_in_heap (tupleKind_room_in1 hu) (pP I.hok eb) hd dd ?_;have q:=(sL.val k).isSome_eq;rw[Option.isSome_map]at q;rw[←q,←l];exact h _ (I.tok _)
theorem IG (hu:A.units+1<cLine)(I:Inv X ae σ H s)(g:xM H a y o)(ry:ba y u)(h:∀s',Inv X ae σ H s'->Q (.bool (!o.isSome)) s'):
  wpAny (model X.prog X.w) A (compareOp .NotIn u (.ref a)) Q E s:=by
 rcases g with⟨aH,k,ob,e,ey,l⟩|⟨aH,k,b,e,ey,eb,l⟩
 ·subst ey;obtain⟨z,hd,vs,sL,dd⟩:=xK I.hok e;refine wpAny_notIn_of (tP ry) hd dd.mapOf ?_;rw[←(sL.val k).isSome_eq,←l];exact h _ (I.tok _)
 ·subst ey;cases (show u=Value.ref b from ry)
  obtain⟨z,hd,xs,sL,dd⟩:=xL I.hok e;refine wpAny_notIn_heap (tupleKind_room_in1 hu) (pP I.hok eb) hd dd ?_;have q:=(sL.val k).isSome_eq;rw[Option.isSome_map]at q;rw[←q,←l];exact h _ (I.tok _)
theorem wt (I:Inv X ae σ H s)(mu:P5 (H a))(hs:Heap.SameBut a s.heap h')(he:∃q,h'.get? a=some q)(new:cm X.prog X.w (upd H a ob) h' a ob):
  Inv X ae σ (upd H a ob) { s with heap:=h',toks:=t' } :=
 I.write (x:=a) (e:=a) mu (.inl rfl) (λb q hb z=>(hs.2 b hb).trans z) he new
theorem Fi (z:aH.length<=sizeLine)(hd:(a == sysModules)=false)(sL:KV aH vs)(dd:h'.DictOf (cq P w) a vs)(hg:h'.get? a=some ob):
  cm P w H' h' a (.dK aH ob):=⟨hg,z,hd,vs,sL,dd⟩
theorem D1 (hu:A.units+1<cLine)(I:Inv X ae σ H s)(g:Qn H a y v R)(ry:ba y u)(rv:ba v r)(h:∀H' s',R H'->Inv X ae σ H' s'->Q () s'):
  wpAny (model X.prog X.w) A (setItem (.ref a) u r) Q E s:=by
 rcases g with⟨aH,k,ob,e,ey,l,eH⟩|⟨aH,k,b,e,ey,eb,l,eH⟩
 ·subst ey;obtain⟨z,hd,vs,sL,dd⟩:=o5 I.hok e;have hz:vs.length<=sizeLine:=by rw[←sL.length];exact z
  have hl:(ml aH k v).length<=sizeLine:=by have:=kq aH k v;omega
  refine wpAny_setItem_pairs (hsz:=hz) (tP ry) dd λh' K6 hs=>?_;obtain⟨q,hq⟩:∃q,h'.get? a=some q:=let ⟨q,_,_,hq,_⟩:=K6;⟨q,hq⟩;exact h _ _ (eH q) (wt I (by rw[e];exact True.intro) hs ⟨q,hq⟩ (Fi hl hd (sL.put k rv) K6 hq))
 ·subst ey;cases (show u=Value.ref b from ry)
  obtain⟨z,hd,xs,sL,dd⟩:=Qm I.hok e;have hz:xs.length<=sizeLine:=by rw[←Paired.length sL];exact z
  have hl:(ml aH k v).length<=sizeLine:=by have:=kq aH k v;omega
  refine wpAny_setItem_heap (hsz:=hz) (tupleKind_room_in1 hu) (pP I.hok eb) dd λh' K6 hs=>h _ _ eH ?_;obtain⟨q,es,ep,hq,h2,h3,h4,_,h5⟩:=K6;refine wt I (by rw[e];exact True.intro) hs ⟨q,hq⟩ ⟨hl,hd,_,(sL.put k eb rv).keeps λc ys ec=>?_,q,es,ep,hq,h2,h3,h4,h5⟩;rw[aI (P4 ec e (λz=>nomatch z))];exact ec
end
def Tn (ty td:TE):TE:=λσ H Q=>ty σ H λy H1=>td σ H1 λx H2=>∃a o,x=.ref a/\xM H2 a y o/\Q (.bl o.isSome) H2
def IH (ty td:TE):TE:=λσ H Q=>ty σ H λy H1=>td σ H1 λx H2=>∃a o,x=.ref a/\xM H2 a y o/\Q (.bl (!o.isSome)) H2
def BF (td ty tv:TE):TS:=λD σ H=>tv σ H λv H1=>td σ H1 λx H2=>ty σ H2 λy H3=>∃a,x=.ref a/\Qn H3 a y v (D.nx σ)
section
variable {X:Cx}{o i e value:Expr}{pos zQ E6:Pos}{td ty tv:TE}
theorem MY (hu:X.A.units+1<cLine)(hi:PE X i ty)(ho:PE X o td):PC X .In i o (Tn ty td):=by
 intro ae s σ H Q I h;refine cE (hi ae s σ H _ I h) λiv s1 ⟨y,H1,I1,ry,q1⟩=>cE (ho ae s1 σ H1 _ I1 q1) λu s2 ⟨x,H2,I2,rx,a,ov,ex,g,q2⟩=>?_;subst ex;obtain rfl:u=Value.ref a:=rx;exact Tl hu I2 g ry λs3 I3=>⟨.bl ov.isSome,H2,I3,rfl,q2⟩
theorem D2 (hu:X.A.units+1<cLine)(hi:PE X i ty)(ho:PE X o td):PC X .NotIn i o (IH ty td):=by
 intro ae s σ H Q I h;refine cE (hi ae s σ H _ I h) λiv s1 ⟨y,H1,I1,ry,q1⟩=>cE (ho ae s1 σ H1 _ I1 q1) λu s2 ⟨x,H2,I2,rx,a,ov,ex,g,q2⟩=>?_;subst ex;obtain rfl:u=Value.ref a:=rx;exact IG hu I2 g ry λs3 I3=>⟨.bl (!ov.isSome),H2,I3,rfl,q2⟩
theorem wu (hu:X.A.units+1<cLine)(ho:PE X o td)(hi:PE X i ty)(hv:PE X value tv)(hs:swapsWith value (some (.Subscript o i zQ)) pos.line X.env=pure false):
  PS X (.Assign [.Subscript o i zQ] value pos) (BF td ty tv):=by
 intro ae s σ H D I h;refine wpAny_Assign_Subscript (cE (hv ae s σ H _ I h) λr s1 ⟨v,H1,I1,rv,q1⟩=>cE (ho ae s1 σ H1 _ I1 q1) λu s2 ⟨x,H2,I2,rx,q2⟩=>cE (hi ae s2 σ H2 _ I2 q2) λiv s3 ⟨y,H3,I3,ry,a,ex,g⟩=>?_) hs;subst ex;obtain rfl:u=Value.ref a:=rx;exact D1 hu I3 g ry rv λH4 s4 q3 I4=>⟨σ,H4,I4,q3⟩
end
theorem xN (h:Heap)(hb:sysModules<h.objs.size):cm P w H (h.push { cls:=.type "dict",data:=.dict #[] }) h.objs.size (.dK [] { cls:=.type "dict",data:=.dict #[] }) :=
 ⟨vY _ rfl,uN _,beq_eq_false_iff_ne.mpr (Ne.symm (vS hb)),[],.nil,Heap.DictOf.new h⟩
theorem Fj (h:Heap)(hb:sysModules<h.objs.size):cm P w H (h.push { cls:=.type "dict",data:=.dict #[] }) h.objs.size (.dT []) :=
 ⟨uN _,beq_eq_false_iff_ne.mpr (Ne.symm (vS hb)),[],.nil,_,#[],0,vY _ rfl,⟨rfl,rfl,rfl⟩,rfl,rfl,List.nodup_nil⟩
def Fk:TE:=λ_ H Q=>∀p ob,H p=none->Q (.ref p) (upd H p (.dK [] ob))
def Fl:TE:=λ_ H Q=>∀p,H p=none->Q (.ref p) (upd H p (.dT []))
section
variable {X:Cx}{pos:Pos}
theorem Fm:PE X (.Dict [] [] pos) Fk:=λae s σ H Q I h=>
 wpAny_Dict_empty ⟨.ref s.heap.objs.size,_,I.laid (a:=s.heap.objs.size) (o:=.dK [] { cls:=.type "dict",data:=.dict #[] }) (t':=s.toks) (λ_ _ q=>vZ _ q) (vT _) (xN s.heap I.big),rfl,h _ _ (I.hok.fresh (vT _))⟩
theorem Fo:PE X (.Dict [] [] pos) Fl:=λae s σ H Q I h=>
 wpAny_Dict_empty ⟨.ref s.heap.objs.size,_,I.laid (a:=s.heap.objs.size) (o:=.dT []) (t':=s.toks) (λ_ _ q=>vZ _ q) (vT _) (Fj s.heap I.big),rfl,h _ (I.hok.fresh (vT _))⟩
end
structure M1 (X:Cx)(o:Expr)(m:Str)(dI:Pos)(e:Expr)(cH:Pos):Prop where
 base:attributeBase o m X.env (eval o X.env)=eval o X.env
 few:((backTo cH (starEach [e] X.env)).all (λx=>!x.1) && (backToKw cH (keywordEach [] X.env)).all (λx=>x.1.isSome)
  && decide (([e]:List Expr).length+([]:List Keyword).length+(if([]:List Keyword).isEmpty then 0 else 1)<30))=true
 line:(dI.endLine == cH.line)=true
 trees:backTo cH (starEach [e] X.env)=[(false,eval e X.env)]
def Vz (H:Hp)(a:Addr):Prop:=(∃aH ob,Rd H a (.dK aH ob))∨∃aH,Rd H a (.dT aH)
theorem MZ (I:Inv X ae σ H s)(d:Vz H a):
  s.TypeIs (.ref a) "dict"/\(∀b,Value.ref a=.ref b->∃ob,s.heap.get? b=some ob/\ob.dict=none)/\(a == sysModules)=false:=by
 rcases d with⟨aH,VS,e⟩|⟨aH,e⟩
 ·obtain⟨_,hd,vs,_,dd⟩:=xK I.hok e;refine⟨dd.typeIs,λb q=>?_,hd⟩;cases q
  obtain⟨ob,_,_,h1,h2,_⟩:=dd;exact⟨ob,h1,h2.2.1⟩
 ·obtain⟨_,hd,xs,_,dd⟩:=xL I.hok e;refine⟨dd.typeIs,λb q=>?_,hd⟩;cases q
  obtain⟨ob,_,_,h1,h2,_⟩:=dd;exact⟨ob,h1,h2.2.1⟩
section
variable {X:Cx}{ae:List (Addr×Obj)}{σ:St}{H:Hp}{s:Shared}{a:Addr}{y d:V}{u r:Value}{o:Option V}{A:Around}{E:Value->Shared->Prop}
theorem Na (hu:A.units+1<cLine)(I:Inv X ae σ H s)(g:xM H a y o)(ry:ba y u)(h:∀w' s',Inv X ae σ H s'->ba (o.getD .non) w'->Q w' s'):
  wpAny (model X.prog X.w) A (call (.builtin "dict.get") [.ref a,u]) Q E s:=by
 rcases g with⟨aH,k,ob,e,ey,l⟩|⟨aH,k,b,e,ey,eb,l⟩
 ·subst ey;obtain⟨z,hd,vs,sL,dd⟩:=xK I.hok e;refine call_meetsIn PySem.F.slot_dict_get dd.typeIs PySem.F.entry_dict_get (PySem.F.args_dict_get_2 _ _) (meets_dict_get (cq X.prog X.w) a (tP ry) hd) ⟨_,dd.mapOf,h _ _ (I.tok _) ?_⟩;rw[l];exact(sL.val k).getD rfl
 ·subst ey;cases (show u=Value.ref b from ry)
  obtain⟨z,hd,xs,sL,dd⟩:=xL I.hok e;refine call_meetsIn PySem.F.slot_dict_get dd.typeIs PySem.F.entry_dict_get (PySem.F.args_dict_get_2 _ _) (meetsH_dict_get (tupleKind (cq X.prog X.w)) a b hd) ⟨tupleKind_room_in1 hu,k,xs,pP I.hok eb,dd,h _ _ (I.tok _) ?_⟩;rw[l];exact(sL.val k).getD rfl
end
def Nb (td ty:TE):TE:=λσ H Q=>td σ H λx H1=>∃a,x=.ref a/\Vz H1 a/\ty σ H1 λy H2=>∃o,xM H2 a y o/\Q (o.getD .non) H2
section
variable {X:Cx}{o e f:Expr}{dI cH:Pos}{td ty tx:TE}
theorem xO (hu:X.A.units+1<cLine)(ho:PE X o td)(he:PE X e ty)(m:M1 X o "get" dI e cH):PE X (.Call (.Attribute o "get" dI) [e] [] cH) (Nb td ty):=by
 intro ae s σ H Q I h;refine wpAny_Call_method m.base m.few m.line PySem.F.plainAttrs_dict PySem.F.slot_dict_get PySem.F.type_dict_get (cE (ho ae s σ H _ I h) λu s1 ⟨x,H1,I1,rx,a,ex,d,q1⟩=>?_);subst ex;obtain rfl:u=Value.ref a:=rx;obtain⟨t1,t2,_⟩:=MZ I1 d;refine⟨t1,t2,?_⟩;rw[m.trees];refine Calls.callWith_builtin rfl (Calls.evalArgs_plain (Calls.spliced_cons (cE (he ae s1 σ H1 _ I1 q1) λiv s2 ⟨y,H2,I2,ry,ov,g,q2⟩=>Calls.spliced_nil ?_)));exact Na hu I2 g ry λw' s3 I3 Rk=>⟨_,H2,I3,Rk,q2⟩
end
end L2
namespace DL
open PySem L2
set_option linter.all false
abbrev St:=L2.St
inductive D where
 |non|bl (b:Bool)|int (i:Int)|str (x:Str)|ty (n:String)|tup (ds:List D)|lst (ds:List D)
  |dk (ks:List cx) (vs:List D)|dt (ks:List (List cx)) (vs:List D)
abbrev OB:=Option (D×Bool)
mutual
inductive Is (K:Frag)(H:Hp):V->D->Prop where
 |non:Is K H .non .non
 |bl (b:Bool):Is K H (.bl b) (.bl b)
 |int (i:Int):Is K H (.int i) (.int i)
 |str (x:Str):Is K H (.str x) (.str x)
 |ty (n:String):Is K H (.ty n) (.ty n)
 |tup {a:Addr}{vs:List V}{ds:List D}(h:jj K H a vs) (hs:IsL K H vs ds):Is K H (.ref a) (.tup ds)
 |lst {a:Addr}{vs:List V}{ds:List D}(h:hU K H a vs) (hs:IsL K H vs ds):Is K H (.ref a) (.lst ds)
 |dk {a:Addr}{ks:List cx}{vs:List V}{ds:List D}{ob:Obj}(h:H a=some (.dK (ks.zip vs) ob)) (hl:ks.length=vs.length) (hs:IsL K H vs ds):Is K H (.ref a) (.dk ks ds)
 |dt {a:Addr}{ks:List (List cx)}{vs:List V}{ds:List D}(h:H a=some (.dT (ks.zip vs))) (hl:ks.length=vs.length) (hs:IsL K H vs ds):Is K H (.ref a) (.dt ks ds)
inductive IsL (K:Frag)(H:Hp):List V->List D->Prop where
 |nil:IsL K H [] []
 |cons {v:V}{d:D}{vs:List V}{ds:List D}(h:Is K H v d) (hs:IsL K H vs ds):IsL K H (v::vs) (d::ds)
end
mutual
def bi:D->Bool
 |.lst _=>false
 |.dk _ _=>false
 |.dt _ _=>false
 |.tup ds=>bw ds
 |_=>true
def bw:List D->Bool
 |[]=>true
 |d::ds=>bi d && bw ds
end
@[simp] theorem OK:bi .non=true:=by simp only[bi]
@[simp] theorem Qo (b:Bool):bi (.bl b)=true:=by simp only[bi]
@[simp] theorem OL (i:Int):bi (.int i)=true:=by simp only[bi]
@[simp] theorem OM (x:Str):bi (.str x)=true:=by simp only[bi]
@[simp] theorem Qp (x:String):bi (.ty x)=true:=by simp only[bi]
@[simp] theorem ON (ds:List D):bi (.tup ds)=bw ds:=by rw[bi]
@[simp] theorem OO (ds:List D):bi (.lst ds)=false:=by rw[bi]
@[simp] theorem Qq (ks:List cx)(ds:List D):bi (.dk ks ds)=false:=by rw[bi]
@[simp] theorem Qr (ks:List (List cx))(ds:List D):bi (.dt ks ds)=false:=by rw[bi]
@[simp] theorem Nc:bw []=true:=by rw[bw]
@[simp] theorem La (d:D)(ds:List D):bw (d::ds)=(bi d && bw ds):=by rw[bw]
section
variable {K:Frag}{H H':Hp}
mutual
theorem Is.keep (hT:∀a vs,jj K H a vs->jj K H' a vs)(hL:∀a vs,hU K H a vs->hU K H' a vs)(hK:∀a aH ob,H a=some (.dK aH ob)->H' a=some (.dK aH ob))(hM:∀a aH,H a=some (.dT aH)->H' a=some (.dT aH)):∀ {v:V}{d:D},Is K H v d->Is K H' v d
 |_,_,.non=>.non
 |_,_,.bl b=>.bl b
 |_,_,.int i=>.int i
 |_,_,.str x=>.str x
 |_,_,.ty x=>.ty x
 |_,_,.tup h hs=>.tup (hT _ _ h) (IsL.keep hT hL hK hM hs)
 |_,_,.lst h hs=>.lst (hL _ _ h) (IsL.keep hT hL hK hM hs)
 |_,_,.dk h hl hs=>.dk (hK _ _ _ h) hl (IsL.keep hT hL hK hM hs)
 |_,_,.dt h hl hs=>.dt (hM _ _ h) hl (IsL.keep hT hL hK hM hs)
theorem IsL.keep (hT:∀a vs,jj K H a vs->jj K H' a vs)(hL:∀a vs,hU K H a vs->hU K H' a vs)(hK:∀a aH ob,H a=some (.dK aH ob)->H' a=some (.dK aH ob))(hM:∀a aH,H a=some (.dT aH)->H' a=some (.dT aH)):∀ {vs:List V}{ds:List D},IsL K H vs ds->IsL K H' vs ds
 |_,_,.nil=>.nil
 |_,_,.cons h hs=>.cons (Is.keep hT hL hK hM h) (IsL.keep hT hL hK hM hs)
end
mutual
theorem Is.keepT (hT:∀a vs,jj K H a vs->jj K H' a vs):∀ {v:V}{d:D},Is K H v d->bi d=true->Is K H' v d
 |_,_,.non,_=>.non
 |_,_,.bl b,_=>.bl b
 |_,_,.int i,_=>.int i
 |_,_,.str x,_=>.str x
 |_,_,.ty x,_=>.ty x
 |_,_,.tup h hs,n=>.tup (hT _ _ h) (IsL.keepT hT hs (by simpa using n))
 |_,_,.lst h hs,n=>by simp at n
 |_,_,.dk h hl hs,n=>by simp at n
 |_,_,.dt h hl hs,n=>by simp at n
theorem IsL.keepT (hT:∀a vs,jj K H a vs->jj K H' a vs):∀ {vs:List V}{ds:List D},IsL K H vs ds->bw ds=true->IsL K H' vs ds
 |_,_,.nil,_=>.nil
 |_,_,.cons h hs,n=>by
  simp at n;exact .cons (Is.keepT hT h n.1) (IsL.keepT hT hs n.2)
end
theorem bj (e:aX H H')(h:jj K H a xs):jj K H' a xs:=by
 rcases h with (h|⟨o,h⟩)|h
 ·exact .inl (.inl (e _ _ h))
 ·exact .inl (.inr ⟨o,e _ _ h⟩)
 ·exact .inr h
theorem Is.mono (h:Is K H v d)(e:aX H H'):Is K H' v d:=h.keep (λ_ _=>bj e) (λ_ _=>e.seq) (λ_ _ _ q=>e _ _ q) λ_ _ q=>e _ _ q
theorem IsL.mono (h:IsL K H v d)(e:aX H H'):IsL K H' v d:=h.keep (λ_ _=>bj e) (λ_ _=>e.seq) (λ_ _ _ q=>e _ _ q) λ_ _ q=>e _ _ q
theorem IsL.length:∀ {vs:List V}{ds:List D},IsL K H vs ds->vs.length=ds.length
 |_,_,.nil=>rfl
 |_,_,.cons _ t=>congrArg (· + 1) t.length
theorem IsL.get:∀ {vs:List V}{ds:List D}{i:Nat}{d:D},IsL K H vs ds->ds[i]? = some d->∃v,vs[i]? = some v/\Is K H v d
 |_,_,_,_,.nil,e=>by simp at e
 |_,_,0,_,.cons h _,e=>by simp at e;subst e;exact⟨_,rfl,h⟩
 |_,_,i+1,d,.cons _ t,e=>by
  obtain⟨u,h1,h2⟩:=t.get (i:=i) (d:=d) (by simpa using e);exact⟨u,by simpa using h1,h2⟩
theorem IsL.append:∀ {vs ws:List V}{ds es:List D},IsL K H vs ds->IsL K H ws es->IsL K H (vs++ws) (ds++es)
 |_,_,_,_,.nil,s=>s
 |_,_,_,_,.cons r t,s=>.cons r (t.append s)
theorem IsL.take:∀ {vs:List V}{ds:List D}(n:Nat),IsL K H vs ds->IsL K H (vs.take n) (ds.take n)
 |_,_,0,_=>by simpa using IsL.nil
 |_,_,_+1,.nil=>.nil
 |_,_,n+1,.cons r t=>.cons r (t.take n)
theorem IsL.drop:∀ {vs:List V}{ds:List D}(n:Nat),IsL K H vs ds->IsL K H (vs.drop n) (ds.drop n)
 |_,_,0,r=>r
 |_,_,_+1,.nil=>.nil
 |_,_,n+1,.cons _ t=>t.drop n
theorem IsL.set (h:Is K H v d):∀ {vs:List V}{ds:List D}(i:Nat),IsL K H vs ds->IsL K H (vs.set i v) (ds.set i d)
 |_,_,_,.nil=>.nil
 |_,_,0,.cons _ t=>.cons h t
 |_,_,i+1,.cons r t=>.cons r (IsL.set h i t)
theorem IsL.eraseIdx:∀ {vs:List V}{ds:List D}(i:Nat),IsL K H vs ds->IsL K H (vs.eraseIdx i) (ds.eraseIdx i)
 |_,_,_,.nil=>.nil
 |_,_,0,.cons _ t=>t
 |_,_,i+1,.cons r t=>.cons r (t.eraseIdx i)
theorem IsL.flat {vs:List V}{ns:List Int}(h:vs=ns.map V.int):IsL K H vs (ns.map D.int):=by
 subst h;induction ns with
 |nil=>exact .nil
 |cons n ns ih=>exact .cons (.int n) ih
end
structure Ext (B N H H':Hp):Prop where
 hh:aX H H'
 bn:aX B N
 nh:aX N H'
 new:∀a o,N a=some o->B a=some o∨H a=none
theorem Ext.refl (h:aX B H):Ext B B H H:=⟨.refl _,.refl _,h,λ_ _ e=>.inl e⟩
theorem Ext.trans (x:Ext B N H H1)(y:Ext N N2 H1 H2):Ext B N2 H H2 :=
 ⟨x.hh.trans y.hh,x.bn.trans y.bn,y.nh,λa o e=>(y.new a o e).elim (λq=>x.new a o q) λq=>.inr (x.hh.free q)⟩
theorem Ext.laid (h:aX B H)(hp:H p=none):Ext B (upd B p o) H (upd H p o):=by
 have hB:B p=none:=h.free hp;refine⟨λa u e=>?_,λa u e=>?_,λa u e=>?_,λa u e=>?_⟩
 ·rw[aI (λq=>by subst q;rw[hp]at e;cases e)];exact e
 ·rw[aI (λq=>by subst q;rw[hB]at e;cases e)];exact e
 ·by_cases q:a=p
  ·subst q;rw[aC]at e ⊢;exact e
  ·rw[aI q]at e ⊢;exact h _ _ e
 ·by_cases q:a=p
  ·subst q;exact .inr hp
  ·rw[aI q]at e;exact .inl e
theorem Ext.grow (h:aX B H)(hh:aX H H'):Ext B B H H':=⟨hh,.refl _,h.trans hh,λ_ _ e=>.inl e⟩
abbrev Env:=List OB
abbrev FE:=Env->OB
abbrev FA:=Env->Option (List D)
abbrev FT:=Env->Option Bool
def OP (K:Frag)(H N:Hp)(v:V)(d:D):Prop:=∃(a:Addr)(vs:List V)(ds:List D),v=.ref a/\d=.lst ds/\H a=none/\N a=some (.lst vs)/\IsL K N vs ds
theorem OP.back (h:OP K H' N v d)(e:aX H H'):OP K H N v d:=let ⟨a,vs,ds,q,y,z,r⟩:=h;⟨a,vs,ds,q,y,e.free z,r⟩
noncomputable def mo:List Str:=["in_order","has_seal","is_first_death","bases_by"]
noncomputable def pQ (x:Str):Str:=x ++ ".<locals>." ++ "<lambda>"
def Tb (K:Frag)(B:Hp):Prop:=∀x∈mo,∀c P,PySem.W.tabIn K x=some (c,P)->B P=some (.tbl (pQ x))
theorem Tb.mono (h:Tb K B)(e:aX B B'):Tb K B':=λx hx c P q=>e _ _ (h x hx c P q)
structure fO (K:Frag)(B:Hp)(σ:St)(ρ:Env):Prop where
 tb:Tb K B
 at':∀(i:Nat)(d:D)(b:Bool),ρ[i]? = some (some (d,b))->∃v,σ[i]? = some (some v)/\Is K B v d
theorem fO.mono (h:fO K B σ ρ)(e:aX B B'):fO K B' σ ρ:=⟨h.tb.mono e,λi d b q=>let ⟨v,h1,h2⟩:=h.at' i d b q;⟨v,h1,h2.mono e⟩⟩
def Fin (K:Frag)(B H:Hp)(d:D)(b:Bool)(Q:VK):Prop:=∀(v:V)(H' N:Hp),Ext B N H H'->Is K N v d->(b=true->OP K H N v d)->Q v H'
def tD (K:Frag)(f:FE):TE:=λσ H Q=>∃(B:Hp)(ρ:Env)(d:D)(b:Bool),aX B H/\fO K B σ ρ/\f ρ=some (d,b)/\Fin K B H d b Q
def D3 (K:Frag)(f:FT):TT:=λσ H Q=>∃(B:Hp)(ρ:Env)(c:Bool),aX B H/\fO K B σ ρ/\f ρ=some c/\∀H',aX H H'->Q c H'
def OQ (K:Frag)(f:FA):TA:=λσ H Q=>∃(B:Hp)(ρ:Env)(ds:List D),aX B H/\fO K B σ ρ/\f ρ=some ds/\∀(vs:List V)(H' N:Hp),Ext B N H H'->IsL K N vs ds->Q vs H'
def rD (K:Frag)(op:D->D->OB):R2:=λx y H Q=>∃(B:Hp)(dx dy d:D)(b:Bool),aX B H/\Is K B x dx/\Is K B y dy/\op dx dy=some (d,b)/\Fin K B H d b Q
def To (K:Frag)(op:D->OB):V->Hp->VK->Prop:=λx H Q=>∃(B:Hp)(dx d:D)(b:Bool),aX B H/\Is K B x dx/\op dx=some (d,b)/\Fin K B H d b Q
def D4 (K:Frag)(op:List D->OB):List V->Hp->VK->Prop:=λxs H Q=>∃(B:Hp)(ds:List D)(d:D)(b:Bool),aX B H/\IsL K B xs ds/\op ds=some (d,b)/\Fin K B H d b Q
theorem Fin.one (h:Fin K B H d false Q)(s:aX B H)(i:Is K B v d):Q v H:=h v H B (.refl s) i (by simp)
theorem Fin.into (h:Fin K B H d b Q)(x:Ext B N H H1):Fin K N H1 d b Q:=λv H' N' y i fr=>h v H' N' (x.trans y) i λe=>(fr e).back x.hh
@[simp] noncomputable def fC (d:D):FE:=λ_=>some (d,false)
@[simp] noncomputable def ai (i:Nat):FE:=λρ=>match ρ[i]? with|some (some (d,_))=>some (d,false)|_=>none
@[simp] noncomputable def f2 (op:D->D->OB)(fa fb:FE):FE:=λρ=>(fa ρ).bind λx=>(fb ρ).bind λy=>op x.1 y.1
@[simp] noncomputable def f1 (op:D->OB)(fa:FE):FE:=λρ=>(fa ρ).bind λx=>op x.1
@[simp] noncomputable def aj:FA:=λ_=>some []
@[simp] noncomputable def af (fa:FE)(fr:FA):FA:=λρ=>(fa ρ).bind λx=>(fr ρ).bind λxs=>some (x.1::xs)
@[simp] noncomputable def fA (op:List D->OB)(fa:FA):FE:=λρ=>(fa ρ).bind op
theorem Nd (h:tD K (ai i) σ H Q):∃v,σ[i]? = some (some v)/\Q v H:=by
 obtain⟨B,ρ,d,b,s,r,e,q⟩:=h;unfold ai at e;split at e
 ·rename_i d' b' e';cases e
  obtain⟨v,h1,h2⟩:=r.at' i _ _ e';exact⟨v,h1,q.one s h2⟩
 ·cases e
theorem II (h:tD K (f2 op fa fb) σ H Q):tD K fa σ H λx H1=>tD K fb σ H1 λy H2=>rD K op x y H2 Q:=by
 obtain⟨B,ρ,d,b,s,r,e,q⟩:=h;obtain⟨x,ex,e⟩:=oX e;obtain⟨y,ey,e⟩:=oX e;refine⟨B,ρ,x.1,x.2,s,r,ex,λv H1 N x1 i1 _=>⟨N,ρ,y.1,y.2,x1.nh,r.mono x1.bn,ey,λv2 H2 N2 x2 i2 _=>⟨N2,x.1,y.1,d,b,x2.nh,i1.mono x2.bn,i2,e,?_⟩⟩⟩;exact q.into (x1.trans x2)
theorem Tp (h:tD K (f1 op fa) σ H Q):tD K fa σ H λx H1=>To K op x H1 Q:=by
 obtain⟨B,ρ,d,b,s,r,e,q⟩:=h;obtain⟨x,ex,e⟩:=oX e;exact⟨B,ρ,x.1,x.2,s,r,ex,λv H1 N x1 i1 _=>⟨N,x.1,d,b,x1.nh,i1,e,q.into x1⟩⟩
theorem IJ (h:tD K (fA op fa) σ H Q):OQ K fa σ H λxs H1=>D4 K op xs H1 Q:=by
 obtain⟨B,ρ,d,b,s,r,e,q⟩:=h;obtain⟨x,ex,e⟩:=oX e;exact⟨B,ρ,x,s,r,ex,λv H1 N x1 i1=>⟨N,x,d,b,x1.nh,i1,e,q.into x1⟩⟩
theorem IK (h:OQ K aj σ H Q):Q [] H:=by
 obtain⟨B,ρ,ds,s,r,e,q⟩:=h;cases e
 exact q [] H B (.refl s) .nil
theorem Fp (h:OQ K (af fa fr) σ H Q):tD K fa σ H λx H1=>OQ K fr σ H1 λxs H2=>Q (x::xs) H2:=by
 obtain⟨B,ρ,ds,s,r,e,q⟩:=h;obtain⟨x,ex,e⟩:=oX e;obtain⟨y,ey,e⟩:=oX e;cases e
 exact⟨B,ρ,x.1,x.2,s,r,ex,λv H1 N x1 i1 _=>⟨N,ρ,y,x1.nh,r.mono x1.bn,ey,λvs H2 N2 x2 i2=>q _ H2 N2 (x1.trans x2) (.cons (i1.mono x2.bn) i2)⟩⟩
@[simp] noncomputable def br (f:FE):FT:=λρ=>match f ρ with|some (.bl c,_)=>some c|_=>none
@[simp] noncomputable def dO (f g:FT):FT:=λρ=>match f ρ with|some true=>g ρ|some false=>some false|none=>none
@[simp] noncomputable def kg (f g:FT):FT:=λρ=>match f ρ with|some true=>some true|some false=>g ρ|none=>none
@[simp] noncomputable def fQ (f:FT):FT:=λρ=>(f ρ).map (!·)
@[simp] noncomputable def ZT (c:FT)(f g:FE):FE:=λρ=>match c ρ with|some true=>f ρ|some false=>g ρ|none=>none
open Classical in
noncomputable def eD (H:Hp)(P:Addr->Prop):Hp:=λa=>if P a then none else H a
theorem cS (h:¬P a):eD H P a=H a:=by unfold eD;rw[if_neg h]
theorem Az (h:P a):eD H P a=none:=by unfold eD;rw[if_pos h]
theorem pR (h:eD H P a=some o):¬P a/\H a=some o:=by
 by_cases q:P a
 ·rw[Az q]at h;cases h
 ·rw[cS q]at h;exact⟨q,h⟩
theorem bK:aX (eD H P) H:=λ_ _ e=>(pR e).2
theorem eK (e:∀a o,H a=some o->¬P a->H' a=some o/\¬P' a):aX (eD H P) (eD H' P'):=λa o q=>by
 obtain⟨h1,h2⟩:=pR q;obtain⟨h3,h4⟩:=e a o h2 h1;rw[cS h4];exact h3
noncomputable def join (N N':Hp):Hp:=λa=>match N a with|some o=>some o|none=>N' a
theorem eS:aX N (join N N'):=λa o e=>by unfold join;rw[e]
theorem eF (e:N a=none):join N N' a=N' a:=by unfold join;rw[e]
def own (σ:St)(ρ:Env)(a:Addr):Prop:=∃(i:Nat)(d:D),ρ[i]? = some (some (d,true))/\σ[i]? = some (some (V.ref a))
inductive Bx (K:Frag)(C:Hp):HO->D->Prop where
 |lst {vs:List V}{ds:List D}(h:IsL K C vs ds):Bx K C (.lst vs) (.lst ds)
 |dk {ks:List cx}{vs:List V}{ds:List D}(hl:ks.length=vs.length) (h:IsL K C vs ds) {ob:Obj}:Bx K C (.dK (ks.zip vs) ob) (.dk ks ds)
 |dt {ks:List (List cx)}{vs:List V}{ds:List D}(hl:ks.length=vs.length) (h:IsL K C vs ds):Bx K C (.dT (ks.zip vs)) (.dt ks ds)
theorem Bx.mono (h:Bx K C o d)(e:aX C C'):Bx K C' o d:=by
 cases h with
 |lst h=>exact .lst (h.mono e)
 |dk hl h=>exact .dk hl (h.mono e)
 |dt hl h=>exact .dt hl (h.mono e)
theorem Bx.is (h:Bx K C o d)(e:C a=some o):Is K C (.ref a) d:=by
 cases h with
 |lst h=>exact .lst (hU.of e) h
 |dk hl h=>exact .dk e hl h
 |dt hl h=>exact .dt e hl h
structure eI (K:Frag)(B0 H0 N H:Hp)(σ:St)(ρ:Env):Prop where
 bh:aX B0 H0
 tb:Tb K B0
 ext:Ext B0 N H0 H
 len:ρ.length=σ.length
 sh:∀(i:Nat)(d:D),ρ[i]? = some (some (d,false))->∃v,σ[i]? = some (some v)/\Is K (eD N (own σ ρ)) v d
 ow:∀(i:Nat)(d:D),ρ[i]? = some (some (d,true))->∃(a:Addr)(o:HO),σ[i]? = some (some (V.ref a))/\N a=some o/\H0 a=none/\Bx K (eD N (own σ ρ)) o d
 inj:∀(i j:Nat)(a:Addr)(d e:D),ρ[i]? = some (some (d,true))->ρ[j]? = some (some (e,true))->σ[i]? = some (some (V.ref a))->σ[j]? = some (some (V.ref a))->i=j
def A0 (K:Frag)(B0 H0 H:Hp)(σ:St)(ρ:Env):Prop:=∃N,eI K B0 H0 N H σ ρ
section
variable {K:Frag}{B0 H0 N H H':Hp}{σ:St}{ρ:Env}
theorem eI.owL (s:eI K B0 H0 N H σ ρ)(i:Nat)(d:D)(q:ρ[i]? = some (some (.lst es,true)))(hd:d=.lst es:=by rfl):∃(a:Addr)(vs:List V)(ds:List D),d=.lst ds/\σ[i]? = some (some (V.ref a))/\N a=some (.lst vs)/\H0 a=none/\IsL K (eD N (own σ ρ)) vs ds:=by
 obtain⟨a,o,h1,h2,h3,h4⟩:=s.ow i _ q;cases h4 with
 |lst h4=>exact⟨a,_,es,hd,h1,h2,h3,h4⟩
def boxed:HO->Prop
 |.lst _|.dK _ _|.dT _=>True
 |_=>False
theorem Bx.boxed (h:Bx K C o d):boxed o:=by cases h<;>exact trivial
theorem eI.owned (s:eI K B0 H0 N H σ ρ)(h:own σ ρ a):∃o,(N a=some o/\boxed o)/\H0 a=none:=by
 obtain⟨i,d,h1,h2⟩:=h;obtain⟨a',o,h3,h4,h5,h6⟩:=s.ow i d h1;rw[h2]at h3;cases h3;exact⟨o,⟨h4,h6.boxed⟩,h5⟩
theorem eI.rep (s:eI K B0 H0 N H σ ρ):fO K N σ ρ:=⟨s.tb.mono s.ext.bn,λi d b q=>by
 cases b with
 |false=>obtain⟨v,h1,h2⟩:=s.sh i d q;exact⟨v,h1,h2.mono bK⟩
 |true=>
  obtain⟨a,o,h2,h3,_,h4⟩:=s.ow i d q;exact⟨_,h2,(h4.mono bK).is h3⟩⟩
noncomputable def mq (ρ:Env):Env:=ρ.map λx=>match x with|some (d,false)=>some (d,false)|_=>none
theorem Fq {i:Nat}{d:D}{b:Bool}(h:(mq ρ)[i]? = some (some (d,b))):b=false/\ρ[i]? = some (some (d,false)):=by
 unfold mq at h;rw[vA]at h;cases e:ρ[i]? with
 |none=>rw[e]at h;cases h
 |some x=>
  rw[e]at h;match x,h with
  |some (d',false),h=>cases h;exact⟨rfl,rfl⟩
  |some (d',true),h=>cases h
  |none,h=>cases h
theorem eI.tbC (s:eI K B0 H0 N H σ ρ):Tb K (eD N (own σ ρ)):=λx hx c P q=>by
 have z:=s.tb.mono s.ext.bn x hx c P q;rw[cS]
 ·exact z
 ·intro y;obtain⟨o,⟨y,yb⟩,_⟩:=s.owned y;rw[z]at y;cases y;exact yb
theorem eI.repH (s:eI K B0 H0 N H σ ρ):fO K (eD N (own σ ρ)) σ (mq ρ):=⟨s.tbC,λi d b q=>by
 obtain⟨rfl,q2⟩:=Fq q;exact s.sh i d q2⟩
theorem eI.grow (s:eI K B0 H0 N H σ ρ)(x:Ext N N' H H'):eI K B0 H0 N' H' σ ρ:=by
 have c:aX (eD N (own σ ρ)) (eD N' (own σ ρ)):=eK λa o e q=>⟨x.bn a o e,q⟩;refine⟨s.bh,s.tb,s.ext.trans x,s.len,λi d q=>?_,λi d q=>?_,s.inj⟩
 ·obtain⟨v,h1,h2⟩:=s.sh i d q;exact⟨v,h1,h2.mono c⟩
 ·obtain⟨a,o,h2,h3,h4,h5⟩:=s.ow i d q;exact⟨a,o,h2,x.bn _ _ h3,h4,h5.mono c⟩
theorem eI.growH (s:eI K B0 H0 N H σ ρ)(x:Ext (eD N (own σ ρ)) N' H H'):eI K B0 H0 (join N N') H' σ ρ/\aX N' (eD (join N N') (own σ ρ)):=by
 have x':Ext N (join N N') H H':=by
  refine⟨x.hh,eS,λa o e=>?_,λa o e=>?_⟩
  ·cases q:N a with
   |some u=>
    have:join N N' a=some u:=eS _ _ q;rw[this]at e;cases e;exact x.hh _ _ (s.ext.nh _ _ q)
   |none=>rw[eF q]at e;exact x.nh _ _ e
  ·cases q:N a with
   |some u=>
    have:join N N' a=some u:=eS _ _ q;rw[this]at e;cases e;exact .inl rfl
   |none=>
    rw[eF q]at e;rcases x.new a o e with z|z
    ·have:=bK _ _ z;rw[q]at this;cases this
    ·exact .inr z
 refine⟨s.grow x',λa o e=>?_⟩;rcases x.new a o e with z|z
 ·obtain⟨z1,z2⟩:=pR z;rw[cS z1];exact eS _ _ z2
 ·have hN:N a=none:=s.ext.nh.free z;have:¬own σ ρ a:=λq=>by obtain⟨vs,⟨q,_⟩,_⟩:=s.owned q;rw[hN]at q;cases q
  rw[cS this,eF hN];exact e
noncomputable def unown (ρ:Env):Env:=ρ.map λx=>x.map λy=>(y.1,false)
theorem kP {i:Nat}{d:D}{b:Bool}(h:(unown ρ)[i]? = some (some (d,b))):b=false/\∃c,ρ[i]? = some (some (d,c)):=by
 unfold unown at h;rw[vA]at h;cases e:ρ[i]? with
 |none=>rw[e]at h;cases h
 |some x=>
  rw[e]at h;match x,h with
  |some (d',c),h=>cases h;exact⟨rfl,c,rfl⟩
  |none,h=>cases h
theorem tR {a:Addr}:¬own σ (unown ρ) a:=λ⟨i,d,h,_⟩=>by
 obtain⟨z,_⟩:=kP h;cases z
theorem eI.unown (s:eI K B0 H0 N H σ ρ):eI K B0 H0 N H σ (unown ρ):=by
 refine⟨s.bh,s.tb,s.ext,by unfold DL.unown;rw[vI];exact s.len,λi d q=>?_,λi d q=>?_,λi j a d e q=>?_⟩
 ·obtain⟨_,c,q⟩:=kP q;obtain⟨v,h1,h2⟩:=s.rep.at' i d c q;exact⟨v,h1,h2.mono λa o e=>by rw[cS tR];exact e⟩
 ·obtain⟨z,_⟩:=kP q;cases z
 ·obtain⟨z,_⟩:=kP q;cases z
theorem cf {α:Type}{l:List α}{i j:Nat}{x y:α}(h:(l.set i x)[j]? = some y):(i=j/\x=y)∨(i≠j/\l[j]? = some y):=by
 by_cases e:i=j
 ·subst e;rw[List.getElem?_set]at h;split at h
  ·split at h
   ·exact .inl ⟨rfl,vK h⟩
   ·cases h
  ·contradiction
 ·rw[vB e]at h;exact .inr ⟨e,h⟩
theorem tS {α β:Type}{l:List α}{m:List β}{i:Nat}{x y:α}(h:(l.set i x)[i]? = some y)(e:l.length=m.length):i<m.length:=by
 obtain⟨h,_⟩:=vV h;rw[List.length_set]at h;omega
theorem ww {i:Nat}{v:V}{x:OB}{a:Addr}(h:own (σ.set i (some v)) (ρ.set i x) a):(v=.ref a/\∃d,x=some (d,true))∨∃j,j≠i/\∃d,ρ[j]? = some (some (d,true))/\σ[j]? = some (some (V.ref a)):=by
 obtain⟨j,d,h1,h2⟩:=h;rcases cf h1 with⟨e,q⟩|⟨e,q⟩
 ·rcases cf h2 with⟨e2,q2⟩|⟨e2,q2⟩
  ·cases q2;exact .inl ⟨rfl,d,q⟩
  ·exact absurd e e2
 ·rcases cf h2 with⟨e2,q2⟩|⟨e2,q2⟩
  ·exact absurd e2 e
  ·exact .inr ⟨j,λz=>e z.symm,d,q,q2⟩
theorem eI.bind (s:eI K B0 H0 N H σ ρ){i:Nat}{v:V}{d:D}(h:Is K (eD N (own σ ρ)) v d):eI K B0 H0 N H (σ.set i (some v)) (ρ.set i (some (d,false))):=by
 have o:∀a,own (σ.set i (some v)) (ρ.set i (some (d,false))) a->own σ ρ a:=λa q=>by
  rcases ww q with⟨_,d',p⟩|⟨j,_,d',q1,q2⟩
  ·cases p
  ·exact⟨j,d',q1,q2⟩
 have c:aX (eD N (own σ ρ)) (eD N (own (σ.set i (some v)) (ρ.set i (some (d,false))))):=eK λa u e q=>⟨e,λz=>q (o a z)⟩;refine⟨s.bh,s.tb,s.ext,by simp[s.len],λj e q=>?_,λj e q=>?_,λj k a e f q q' h1 h2=>?_⟩
 ·rcases cf q with⟨rfl,p⟩|⟨ne,p⟩
  ·cases p
   have hi:=tS q s.len;exact⟨v,by simp[hi],h.mono c⟩
  ·obtain⟨w,h1,h2⟩:=s.sh j e p;exact⟨w,by rw[vB ne];exact h1,h2.mono c⟩
 ·rcases cf q with⟨rfl,p⟩|⟨ne,p⟩
  ·cases p
  ·obtain⟨a,o,h1,h2,h3,h4⟩:=s.ow j e p;exact⟨a,o,by rw[vB ne];exact h1,h2,h3,h4.mono c⟩
 ·rcases cf q with⟨rfl,p⟩|⟨ne,p⟩
  ·cases p
  ·rcases cf q' with⟨rfl,p'⟩|⟨Ro,p'⟩
   ·cases p'
   ·rw[vB ne]at h1;rw[vB Ro]at h2;exact s.inj j k a e f p p' h1 h2
theorem eI.bindOwn (s:eI K B0 H0 N H σ ρ){i:Nat}{a:Addr}{ob:HO}{dd:D}(hN:N a=some ob)(h0:H0 a=none)(Pk:∀(j:Nat)(d:D),ρ[j]? = some (some (d,true))->σ[j]? ≠ some (some (V.ref a)))
  (Uj:∀(j:Nat)(d:D),j≠i->ρ[j]? = some (some (d,false))->∃v,σ[j]? = some (some v)/\Is K (eD N (λb=>own σ ρ b∨b=a)) v d) (Yb:∀(j:Nat)(d:D),j≠i->ρ[j]? = some (some (d,true))->∃(a':Addr)(o:HO),σ[j]? = some (some (V.ref a'))/\N a'=some o/\Bx K (eD N (λb=>own σ ρ b∨b=a)) o d)
  (Op:Bx K (eD N (λb=>own σ ρ b∨b=a)) ob dd):eI K B0 H0 N H (σ.set i (some (.ref a))) (ρ.set i (some (dd,true))):=by
 have o:∀b,own (σ.set i (some (V.ref a))) (ρ.set i (some (dd,true))) b->own σ ρ b∨b=a:=λb q=>by
  rcases ww q with⟨p,_⟩|⟨j,_,d',q1,q2⟩
  ·cases p;exact .inr rfl
  ·exact .inl ⟨j,d',q1,q2⟩
 have c:aX (eD N (λb=>own σ ρ b∨b=a)) (eD N (own (σ.set i (some (V.ref a))) (ρ.set i (some (dd,true))))):=eK λb u e q=>⟨e,λz=>q (o b z)⟩;refine⟨s.bh,s.tb,s.ext,by simp[s.len],λj e q=>?_,λj e q=>?_,λj k b e f q q' h1 h2=>?_⟩
 ·rcases cf q with⟨rfl,p⟩|⟨ne,p⟩
  ·cases p
  ·obtain⟨w,h1,h2⟩:=Uj j e (Ne.symm ne) p;exact⟨w,by rw[vB ne];exact h1,h2.mono c⟩
 ·rcases cf q with⟨rfl,p⟩|⟨ne,p⟩
  ·cases p
   have hi:=tS q s.len;exact⟨a,ob,by simp[hi],hN,h0,Op.mono c⟩
  ·obtain⟨a',o',h1,h2,h4⟩:=Yb j e (Ne.symm ne) p;have h3:H0 a'=none:=by
    obtain⟨a2,_,k1,_,k3,_⟩:=s.ow j e p;rw[h1]at k1;cases k1;exact k3
   exact⟨a',o',by rw[vB ne];exact h1,h2,h3,h4.mono c⟩
 ·rcases cf q with⟨rfl,p⟩|⟨ne,p⟩
  ·rcases cf q' with⟨rfl,p'⟩|⟨Ro,p'⟩
   ·rfl
   ·rw[vB Ro]at h2;have S4:V.ref a=V.ref b:=by
     rcases cf h1 with⟨_,z⟩|⟨z,_⟩
     ·exact vK z
     ·exact absurd rfl z
    cases S4
    exact absurd h2 (Pk k f p')
  ·rcases cf q' with⟨rfl,p'⟩|⟨Ro,p'⟩
   ·rw[vB ne]at h1;have E8:V.ref a=V.ref b:=by
     rcases cf h2 with⟨_,z⟩|⟨z,_⟩
     ·exact vK z
     ·exact absurd rfl z
    cases E8
    exact absurd h1 (Pk j e p)
   ·rw[vB ne]at h1;rw[vB Ro]at h2;exact s.inj j k b e f p p' h1 h2
end
inductive Res where
 |nx (ρ:Env)|rt (d:D) (b:Bool)|bk (ρ:Env)|ct (ρ:Env)
abbrev FS:=Env->Option Res
def Qs (K:Frag)(B0 H0:Hp)(E:Ends):Res->Prop
 |.nx ρ=>∀σ H,A0 K B0 H0 H σ ρ->E.nx σ H
 |.rt d b=>∀v H N,Ext B0 N H0 H->Is K N v d->(b=true->OP K H0 N v d)->E.rt v H
 |.bk ρ=>∀σ H,A0 K B0 H0 H σ ρ->E.bk σ H
 |.ct ρ=>∀σ H,A0 K B0 H0 H σ ρ->E.ct σ H
def o6 (K:Frag)(g:FS):TS:=λE σ H=>∃(B0 H0:Hp)(ρ:Env)(r:Res),A0 K B0 H0 H σ ρ/\g ρ=some r/\Qs K B0 H0 E r
section
variable {K:Frag}{B0 H0 N H H':Hp}{σ:St}{ρ:Env}{E:Ends}
theorem eI.writeB (s:eI K B0 H0 N H σ ρ)(hi:ρ[i]? = some (some (d,true)))(hσ:σ[i]? = some (some (V.ref a)))(h:Bx K (eD N (own σ ρ)) ob dd):
  eI K B0 H0 (upd N a ob) (upd H a ob) σ (ρ.set i (some (dd,true))):=by
 have oa:own σ ρ a:=⟨i,d,hi,hσ⟩;obtain⟨ws,hw,h0⟩:=s.owned oa;have b0:B0 a=none:=s.bh.free h0;have o:∀b,own σ (ρ.set i (some (dd,true))) b↔own σ ρ b:=λb=>by
  constructor
  ·rintro⟨j,e,q1,q2⟩;rcases cf q1 with⟨rfl,p⟩|⟨_,p⟩
   ·exact⟨i,d,hi,q2⟩
   ·exact⟨j,e,p,q2⟩
  ·rintro⟨j,e,q1,q2⟩;by_cases z:i=j
   ·subst z;exact⟨i,dd,by rw[List.getElem?_set_self (vV hi).1],q2⟩
   ·exact⟨j,e,by rw[vB z];exact q1,q2⟩
 have c:aX (eD N (own σ ρ)) (eD (upd N a ob) (own σ (ρ.set i (some (dd,true))))):=eK λb u e q=>by
  have ne:b≠a:=λz=>q (z ▸ oa);exact⟨by rw[aI ne];exact e,λz=>q ((o b).mp z)⟩
 refine⟨s.bh,s.tb,⟨λb u e=>?_,λb u e=>?_,λb u e=>?_,λb u e=>?_⟩,by rw[List.length_set];exact s.len,λj e q=>?_,λj e q=>?_,λj k b e f q q' h1 h2=>?_⟩
 ·rw[aI (λz=>by subst z;rw[h0]at e;cases e)];exact s.ext.hh _ _ e
 ·rw[aI (λz=>by subst z;rw[b0]at e;cases e)];exact s.ext.bn _ _ e
 ·by_cases z:b=a
  ·subst z;rw[aC]at e ⊢;exact e
  ·rw[aI z]at e ⊢;exact s.ext.nh _ _ e
 ·by_cases z:b=a
  ·subst z;exact .inr h0
  ·rw[aI z]at e;exact s.ext.new _ _ e
 ·rcases cf q with⟨rfl,p⟩|⟨ne,p⟩
  ·cases p
  ·obtain⟨v,h1,h2⟩:=s.sh j e p;exact⟨v,h1,h2.mono c⟩
 ·rcases cf q with⟨rfl,p⟩|⟨ne,p⟩
  ·cases p
   exact⟨a,ob,hσ,aC,h0,h.mono c⟩
  ·obtain⟨a',o',h1,h2,h3,h4⟩:=s.ow j e p;have na:a'≠a:=λz=>by subst z;exact ne (s.inj i j _ d e hi p hσ h1)
   exact⟨a',o',h1,by rw[aI na];exact h2,h3,h4.mono c⟩
 ·have get:∀ {j:Nat}{e:D},(ρ.set i (some (dd,true)))[j]? = some (some (e,true))->∃e',ρ[j]? = some (some (e',true)):=λ{j e} q=>by
   rcases cf q with⟨rfl,p⟩|⟨ne,p⟩
   ·exact⟨d,hi⟩
   ·exact⟨e,p⟩
  obtain⟨e',q1⟩:=get q;obtain⟨f',q2⟩:=get q';exact s.inj j k b e' f' q1 q2 h1 h2
theorem eI.write (s:eI K B0 H0 N H σ ρ)(hi:ρ[i]? = some (some (d,true)))(hσ:σ[i]? = some (some (V.ref a)))(h:IsL K (eD N (own σ ρ)) vs ds):
  eI K B0 H0 (upd N a (.lst vs)) (upd H a (.lst vs)) σ (ρ.set i (some (.lst ds,true))):=s.writeB hi hσ (.lst h)
theorem eI.tups (s:eI K B0 H0 N H σ ρ):∀a vs,jj K N a vs->jj K (eD N (own σ ρ)) a vs:=λa vs h=>by
 have key:∀u,N a=some u->¬boxed u->eD N (own σ ρ) a=some u:=λu e hu=>by
  rw[cS λz=>?_];exact e;obtain⟨ws,⟨q,qb⟩,_⟩:=s.owned z;rw[e]at q;cases q;exact hu qb
 rcases h with (h|⟨o,h⟩)|h
 ·exact .inl (.inl (key _ h (λq=>q)))
 ·exact .inl (.inr ⟨o,key _ h (λq=>q)⟩)
 ·exact .inr h
theorem eI.flat (s:eI K B0 H0 N H σ ρ)(h:Is K N v d)(n:bi d=true):Is K (eD N (own σ ρ)) v d:=h.keepT s.tups n
theorem eI.rebase (s:eI K B0 H0 N H σ ρ):eI K (eD N (own σ ρ)) (eD H (own σ ρ)) N H σ ρ :=
 ⟨eK λa o e q=>⟨s.ext.nh _ _ e,q⟩,s.tbC,⟨bK,bK,s.ext.nh,λa o e=>by
  by_cases q:own σ ρ a
  ·exact .inr (Az q)
  ·exact .inl (by rw[cS q];exact e)⟩,s.len,s.sh,λi d q=>by
   obtain⟨a,o,h1,h2,_,h4⟩:=s.ow i d q;exact⟨a,o,h1,h2,Az ⟨i,d,q,h1⟩,h4⟩,s.inj⟩
theorem eI.unbase (s:eI K B0 H0 N H σ ρ)(t:eI K (eD N (own σ ρ)) (eD H (own σ ρ)) N' H' σ' ρ'):eI K B0 H0 N' H' σ' ρ':=by
 have h0:aX H0 (eD H (own σ ρ)):=λa o e=>by
  rw[cS λz=>?_];exact s.ext.hh _ _ e;obtain⟨_,_,q⟩:=s.owned z;rw[q]at e;cases e
 have b0:aX B0 (eD N (own σ ρ)):=λa o e=>by
  rw[cS λz=>?_];exact s.ext.bn _ _ e;obtain⟨_,_,q⟩:=s.owned z;rw[s.bh _ _ e]at q;cases q
 refine⟨s.bh,s.tb,⟨h0.trans t.ext.hh,b0.trans t.ext.bn,t.ext.nh,λa o e=>?_⟩,t.len,t.sh,λi d q=>?_,t.inj⟩
 ·rcases t.ext.new a o e with z|z
  ·exact s.ext.new a o (bK _ _ z)
  ·exact .inr (h0.free z)
 ·obtain⟨a,o,h1,h2,h3,h4⟩:=t.ow i d q;exact⟨a,o,h1,h2,h0.free h3,h4⟩
theorem eI.based (t:eI K B0 H0 N H σ ρ):aX B0 (eD N (own σ ρ)):=λa o e=>by
 rw[cS λz=>?_];exact t.ext.bn _ _ e;obtain⟨_,_,q⟩:=t.owned z;rw[t.bh _ _ e]at q;cases q
@[simp] noncomputable def a8 (g h:FS):FS:=λρ=>match g ρ with|some (.nx ρ')=>h ρ'|r=>r
@[simp] noncomputable def bp:FS:=λρ=>some (.nx ρ)
@[simp] noncomputable def eM (c:FT)(g h:FS):FS:=λρ=>match c ρ with|some true=>g ρ|some false=>h ρ|none=>none
@[simp] noncomputable def bc (f:FE):FS:=λρ=>(f ρ).map λx=>.rt x.1 x.2
@[simp] noncomputable def V0:FS:=λ_=>some (.rt .non false)
@[simp] noncomputable def V1 (f:FE):FS:=λρ=>(f ρ).map λ_=>.nx ρ
@[simp] noncomputable def Lb:D->Bool
 |.dk _ _=>true
 |.dt _ _=>true
 |_=>false
@[simp] def jT (i:Nat):FS:=λρ=>match ρ[i]? with|some (some (d,b))=>some (.rt d (b && !Lb d))|_=>none
@[simp] def xP:D->Bool
 |.lst ds=>bw ds
 |_=>false
@[simp] def setE (ρ:Env)(i:Nat)(d:D)(b:Bool):Env :=
 if bi d=true then ρ.set i (some (d,false))else if b=true/\xP d=true then ρ.set i (some (d,true))else (unown ρ).set i (some (d,false))
@[simp] def aN (i:Nat)(f:FE):FS:=λρ=>(f ρ).map λx=>.nx (setE ρ i x.1 x.2)
@[simp] def xQ (i:Nat)(f:FE):FS:=λρ=>(f (mq ρ)).map λx=>.nx (ρ.set i (some (x.1,false)))
@[simp] def kx (i:Nat)(f:FE):FS:=λρ=>match ρ[i]? with
 |some (some (.lst ds,true))=>(f ρ).bind λx=>if bi x.1=true/\ds.length<sizeLine then some (.nx (ρ.set i (some (.lst (ds++[x.1]),true))))else none
 |_=>none
theorem IL (q:o6 K (a8 g h) E σ H):PH (o6 K g) (o6 K h) E σ H:=by
 obtain⟨B0,H0,ρ,r,s,e,p⟩:=q;unfold a8 at e;cases eg:g ρ with
 |none=>rw[eg]at e;cases e
 |some r1=>
  rw[eg]at e;cases r1 with
  |nx ρ'=>exact⟨B0,H0,ρ,.nx ρ',s,eg,λσ' H' s'=>⟨B0,H0,ρ',r,s',e,p⟩⟩
  |rt d b=>cases e;exact⟨B0,H0,ρ,_,s,eg,p⟩
  |bk ρ'=>cases e;exact⟨B0,H0,ρ,_,s,eg,p⟩
  |ct ρ'=>cases e;exact⟨B0,H0,ρ,_,s,eg,p⟩
theorem Fs (q:o6 K bp E σ H):KN E σ H:=by
 obtain⟨B0,H0,ρ,r,s,e,p⟩:=q;cases e
 exact p σ H s
theorem A0.grown (s:eI K B0 H0 N H σ ρ)(h:aX H H'):A0 K B0 H0 H' σ ρ:=⟨N,s.grow (.grow s.ext.nh h)⟩
theorem Nf (q:o6 K (eM c g h) E σ H):PL (D3 K c) (o6 K g) (o6 K h) E σ H:=by
 obtain⟨B0,H0,ρ,r,⟨N,s⟩,e,p⟩:=q;unfold eM at e;cases ec:c ρ with
 |none=>rw[ec]at e;cases e
 |some b=>
  rw[ec]at e;refine⟨N,ρ,b,s.ext.nh,s.rep,ec,λH1 h1=>?_⟩;cases b with
  |true=>rw[if_pos rfl];exact⟨B0,H0,ρ,r,.grown s h1,e,p⟩
  |false=>rw[if_neg (by decide)];exact⟨B0,H0,ρ,r,.grown s h1,e,p⟩
theorem IM (q:o6 K (bc f) E σ H):M6 (tD K f) E σ H:=by
 obtain⟨B0,H0,ρ,r,⟨N,s⟩,e,p⟩:=q;obtain⟨x,ex,e⟩:=oY e;subst e;exact⟨N,ρ,x.1,x.2,s.ext.nh,s.rep,ex,λv H1 N1 x1 i1 f1=>p v H1 N1 (s.ext.trans x1) i1 λb=>(f1 b).back s.ext.hh⟩
theorem Ft (q:o6 K (jT i) E σ H):M6 (EU i) E σ H:=by
 obtain⟨B0,H0,ρ,r,⟨N,s⟩,e,p⟩:=q;unfold jT at e;split at e
 ·rename_i d b ei;cases e
  cases b with
  |false=>
   obtain⟨v,h1,h2⟩:=s.sh i d ei;exact⟨v,h1,p v H N s.ext (h2.mono bK) (by simp)⟩
  |true=>
   obtain⟨a,o,h1,h2,h3,h4⟩:=s.ow i d ei;cases h4 with
   |lst h4=>exact⟨_,h1,p _ H N s.ext (.lst (hU.of h2) (h4.mono bK)) λ_=>⟨a,_,_,rfl,rfl,h3,h2,h4.mono bK⟩⟩
   |dk hl h4=>exact⟨_,h1,p _ H N s.ext (.dk h2 hl (h4.mono bK)) (by simp)⟩
   |dt hl h4=>exact⟨_,h1,p _ H N s.ext (.dt h2 hl (h4.mono bK)) (by simp)⟩
 ·cases e
theorem eI.setE (s:eI K B0 H0 N H σ ρ)(x:Ext N N1 H H1)(h:Is K N1 v d)(f:b=true->OP K H N1 v d):eI K B0 H0 N1 H1 (σ.set i (some v)) (setE ρ i d b):=by
 have s1:=s.grow x;unfold DL.setE;by_cases hn:bi d=true
 ·rw[if_pos hn];exact s1.bind (s1.flat h hn)
 ·rw[if_neg hn];by_cases hb:b=true/\xP d=true
  ·rw[if_pos hb];obtain⟨a,vs,ds,rfl,rfl,ha,hN,hs⟩:=f hb.1;have VX:N a=none:=s.ext.nh.free ha;have Ul:¬own σ ρ a:=λz=>by obtain⟨ws,⟨q,_⟩,_⟩:=s.owned z;rw[VX]at q;cases q
   have c:aX (eD N (own σ ρ)) (eD N1 (λb=>own σ ρ b∨b=a)):=eK λb u e q=>⟨x.bn _ _ e,λz=>z.elim q λz=>by subst z;rw[VX]at e;cases e⟩;refine s1.bindOwn hN (s.ext.hh.free ha) (λj e q z=>Ul ⟨j,e,q,z⟩) (λj e _ q=>?_) (λj e _ q=>?_) (.lst (hs.keepT (λt ts st=>?_) hb.2))
   ·obtain⟨w,h1,h2⟩:=s.sh j e q;exact⟨w,h1,h2.mono c⟩
   ·obtain⟨a',o',h1,h2,_,h4⟩:=s.ow j e q;exact⟨a',o',h1,x.bn _ _ h2,h4.mono c⟩
   ·have key:∀u,N1 t=some u->¬boxed u->eD N1 (λb=>own σ ρ b∨b=a) t=some u:=λu e hu=>by
     rw[cS λz=>?_];exact e;rcases z with z|z
     ·obtain⟨ws,⟨q,qb⟩,_⟩:=s1.owned z;rw[e]at q;cases q;exact hu qb
     ·subst z;rw[e]at hN;cases hN;exact hu trivial
    rcases st with (st|⟨o,st⟩)|st
    ·exact .inl (.inl (key _ st (λq=>q)))
    ·exact .inl (.inr ⟨o,key _ st (λq=>q)⟩)
    ·exact .inr st
  ·rw[if_neg hb];exact s1.unown.bind (h.mono λa o e=>by rw[cS tR];exact e)
theorem BG (q:o6 K (aN i f) E σ H):Ak (tD K f) (jR i) E σ H:=by
 obtain⟨B0,H0,ρ,r,⟨N,s⟩,e,p⟩:=q;obtain⟨x,ex,e⟩:=oY e;subst e;exact⟨N,ρ,x.1,x.2,s.ext.nh,s.rep,ex,λv H1 N1 x1 i1 f1=>p _ H1 ⟨N1,s.setE x1 i1 f1⟩⟩
theorem Fu (q:o6 K (xQ i f) E σ H):Ak (tD K f) (jR i) E σ H:=by
 obtain⟨B0,H0,ρ,r,⟨N,s⟩,e,p⟩:=q;obtain⟨x,ex,e⟩:=oY e;subst e;refine⟨eD N (own σ ρ),mq ρ,x.1,x.2,bK.trans s.ext.nh,s.repH,ex,λv H1 N1 x1 i1 f1=>?_⟩;obtain⟨s1,c⟩:=s.growH x1;exact p _ H1 ⟨_,s1.bind (i1.mono c)⟩
theorem IN (q:o6 K (kx i f) E σ H):∃(a:Addr)(us:List V),σ[i]? = some (some (V.ref a))/\H a=some (.lst us)/\KS (tD K f) Qe σ H λxs H2=>BE (.ref a) xs H2 λ_ H3=>E.nx σ H3:=by
 obtain⟨B0,H0,ρ,r,⟨N,s⟩,e,p⟩:=q;unfold kx at e;split at e
 ·rename_i ds ei;obtain⟨x,ex,e⟩:=oX e;split at e
  ·rename_i hx;cases e
   obtain⟨a,vs,K7,z,h1,h2,h3,h4⟩:=s.owL i _ ei;cases z
   refine⟨a,vs,h1,s.ext.nh _ _ h2,N,ρ,x.1,x.2,s.ext.nh,s.rep,ex,λv H1 N1 x1 i1 f1=>⟨a,vs,v,rfl,rfl,x1.hh _ _ (s.ext.nh _ _ h2),by rw[h4.length];exact hx.2,?_⟩⟩;have s1:=s.grow x1;obtain⟨a',S5,K7,z,k1,k2,_,k4⟩:=s1.owL i _ ei;cases z
   rw[h1]at k1;cases k1;rw[x1.bn _ _ h2]at k2;cases k2;exact p σ _ ⟨_,s1.write ei h1 (k4.append (.cons (s1.flat i1 hx.1) .nil))⟩
  ·cases e
 ·cases e
end
noncomputable def Fv (c:FT)(g:FS):Nat->Env->Option Res
 |0,_=>none
 |n+1,ρ=>match c ρ with
  |some true=>match g ρ with
   |some (.nx ρ')=>Fv c g n ρ'
   |some (.ct ρ')=>Fv c g n ρ'
   |some (.bk ρ')=>some (.nx ρ')
   |r=>r
  |some false=>some (.nx ρ)
  |none=>none
def nD (K:Frag)(J:It)(B:Hp)(ds:List D):Prop:=∀(i:Nat)(H:Hp),aX B H ->
 (∀d,ds[i]? = some d->J.go i H/\∀x H',J.yld i H x H'->∃N,Ext B N H H'/\Is K N x d)/\(ds.length<=i->J.stop i H)
def V2 (K:Frag)(f:FA):TI:=λσ H R=>∃(B:Hp)(ρ:Env)(ds:List D),aX B H/\fO K B σ ρ/\f ρ=some ds/\∀(J:It)(H' N:Hp),Ext B N H H'->nD K J N ds->R J H'
abbrev FG:=D->Env->Option Env
def IP (K:Frag)(tg:FG)(g:TG):Prop:=∀(B0 H0 N H:Hp)(σ:St)(ρ ρ':Env)(v:V)(d:D)(Q:St->Hp->Prop),eI K B0 H0 N H σ ρ->Is K (eD N (own σ ρ)) v d->tg d ρ=some ρ' ->
 (∀σ' H',A0 K B0 H0 H' σ' ρ'->Q σ' H')->g v σ H Q
@[simp] noncomputable def dM (i:Nat):FG:=λd ρ=>some (ρ.set i (some (d,false)))
theorem gt:IP K (dM i) (jR i):=by
 intro B0 H0 N H σ ρ ρ' v d Q s h e k;cases e
 exact k _ H ⟨N,s.bind h⟩
noncomputable def iW (tg:FG)(g:FS):List D->Env->Option Res
 |[],ρ=>some (.nx ρ)
 |d::ds,ρ=>(tg d ρ).bind λρ1=>match g ρ1 with
  |some (.nx ρ')=>iW tg g ds ρ'
  |some (.ct ρ')=>iW tg g ds ρ'
  |some (.bk ρ')=>some (.nx ρ')
  |r=>r
@[simp] theorem Fw (tg:FG)(g:FS)(ρ:Env):iW tg g [] ρ=some (.nx ρ):=by rw[iW]
@[simp] theorem D5 (tg:FG)(g:FS)(d:D)(ds:List D)(ρ:Env):iW tg g (d::ds) ρ=(tg d ρ).bind λρ1=>match g ρ1 with
  |some (.nx ρ')=>iW tg g ds ρ'
  |some (.ct ρ')=>iW tg g ds ρ'
  |some (.bk ρ')=>some (.nx ρ')
  |r=>r:=by rw[iW]
@[simp] def pT (f:FA)(tg:FG)(g:FS):FS:=λρ=>(f (mq ρ)).bind λds=>iW tg g ds ρ
theorem xR (ht:IP K tg t)(s1:eI K B0 H0 N H1 σ ρ)(c:aX N1 (eD N (own σ ρ)))(J1:nD K J N1 ds)(e:iW tg g ds ρ=some r)(p:Qs K B0 H0 E r):
  ∃W:Nat->Nat->St->Hp->Prop,(∃m,W 0 m σ H1)/\∀i m σ H,W i m σ H->(J.stop i H/\E.nx σ H)∨(J.go i H/\∃N:St->Hp->Prop,(∀σ' H',N σ' H'->∃m',m'<m/\W (i+1) m' σ' H')/\∀x H',J.yld i H x H'->t x σ H' λσ2 H2=>o6 K g { E with nx:=N,ct:=N,bk:=E.nx } σ2 H2):=by
 refine⟨λi m σ H=>∃(N:Hp)(ρ:Env),eI K B0 H0 N H σ ρ/\aX N1 (eD N (own σ ρ))/\m=ds.length - i/\i<=ds.length/\iW tg g (ds.drop i) ρ=some r,⟨ds.length,_,ρ,s1,c,rfl,uN _,e⟩,?_⟩;clear e s1 c;rintro i m σ H ⟨N,ρ,s,c,rfl,hi,e⟩;have hs:aX N1 H:=c.trans (bK.trans s.ext.nh);obtain⟨j1,j2⟩:=J1 i H hs;by_cases fw:i<ds.length
 ·obtain⟨go,yl⟩:=j1 ds[i] (by simp[fw]);rw[List.drop_eq_getElem_cons fw]at e;obtain⟨ρ1,e1,e⟩:=oX e;refine .inr ⟨go,λσ' H'=>∃(N:Hp)(ρ:Env),eI K B0 H0 N H' σ' ρ/\aX N1 (eD N (own σ' ρ))/\iW tg g (ds.drop (i+1)) ρ=some r,λσ' H' ⟨N',ρ',s',c',e'⟩=>⟨_,by omega,N',ρ',s',c',rfl,fw,e'⟩,λx H' y=>?_⟩;obtain⟨N2,x2,i2⟩:=yl x H' y;have x3:Ext (eD N (own σ ρ)) (join (eD N (own σ ρ)) N2) H H':=by
   refine⟨x2.hh,eS,λa o e=>?_,λa o e=>?_⟩
   ·cases q:eD N (own σ ρ) a with
    |some u=>rw[eS _ _ q]at e;cases e;exact x2.hh _ _ (s.ext.nh _ _ (bK _ _ q))
    |none=>rw[eF q]at e;exact x2.nh _ _ e
   ·cases q:eD N (own σ ρ) a with
    |some u=>rw[eS _ _ q]at e;cases e;exact .inl rfl
    |none=>
     rw[eF q]at e;rcases x2.new a o e with z|z
     ·rw[c _ _ z]at q;cases q
     ·exact .inr z
  obtain⟨s2,c2⟩:=s.growH x3;have c3:aX N2 (join (eD N (own σ ρ)) N2):=λa o e=>by
   rcases x2.new a o e with z|z
   ·exact eS _ _ (c _ _ z)
   ·rw[eF ((bK.trans s.ext.nh).free z)];exact e
  have i3:=i2.mono (c3.trans c2);have c4:aX N1 (eD (join N (join (eD N (own σ ρ)) N2)) (own σ ρ)):=(x2.bn.trans c3).trans c2;refine ht _ _ _ _ _ _ _ _ _ _ s2.rebase i3 e1 λσ2 H2 ⟨N4,s4⟩=>?_;cases eg:g ρ1 with
  |none=>rw[eg]at e;cases e
  |some r1=>
   rw[eg]at e;refine⟨_,_,ρ1,r1,⟨N4,s4⟩,eg,?_⟩;have back:∀ {σ':St}{H':Hp}{ρ':Env}{N':Hp},eI K _ _ N' H' σ' ρ'->eI K B0 H0 N' H' σ' ρ'/\aX N1 (eD N' (own σ' ρ')):=λt=>⟨s2.unbase t,c4.trans t.based⟩;cases r1 with
   |nx ρ'=>exact λσ' H' ⟨N',t⟩=>⟨N',ρ',(back t).1,(back t).2,e⟩
   |ct ρ'=>exact λσ' H' ⟨N',t⟩=>⟨N',ρ',(back t).1,(back t).2,e⟩
   |bk ρ'=>cases e;exact λσ' H' ⟨N',t⟩=>p σ' H' ⟨N',(back t).1⟩
   |rt d b=>
    cases e
    intro v H' N' x' i' f';have y:=s2.rebase.ext;have h0:aX H0 (eD H' (λ_=>False)):=λa o e=>by rw[cS (λz=>z)];exact x'.hh _ _ (by
     rw[cS λz=>?_];exact s2.ext.hh _ _ e;obtain⟨_,_,q⟩:=s2.owned z;rw[q]at e;cases e)
    have h0':aX H0 (eD H' (λ_=>False)):=h0;have hH:aX H0 (eD H' (λ_=>False)):=h0;have hc:∀a,eD H' (λ_=>False) a=H' a:=λa=>cS (λz=>z);have hb:aX H0 (eD _ (own σ ρ)):=λa o e=>by
     rw[cS λz=>?_];exact s2.ext.hh _ _ e;obtain⟨_,_,q⟩:=s2.owned z;rw[q]at e;cases e
    have bb:aX B0 (eD _ (own σ ρ)):=λa o e=>by
     rw[cS λz=>?_];exact s2.ext.bn _ _ e;obtain⟨_,_,q⟩:=s2.owned z;rw[s2.bh _ _ e]at q;cases q
    refine p v H' N' ⟨hb.trans x'.hh,bb.trans x'.bn,x'.nh,λa o e=>?_⟩ i' λz=>(f' z).back hb;rcases x'.new a o e with z|z
    ·exact s2.ext.new a o (bK _ _ z)
    ·exact .inr (hb.free z)
 ·have ei:i=ds.length:=by omega
  subst ei;rw[List.drop_eq_nil_of_le (vT _)]at e;cases e
  exact .inl ⟨j2 (vT _),p σ H ⟨N,s⟩⟩
theorem IQ (ht:IP K tg t)(q:o6 K (pT f tg g) E σ H):MD (V2 K f) t (o6 K g) E σ H:=by
 obtain⟨B0,H0,ρ,r,⟨N,s⟩,e,p⟩:=q;obtain⟨ds,ef,e⟩:=oX e;refine⟨eD N (own σ ρ),mq ρ,ds,bK.trans s.ext.nh,s.repH,ef,λJ H1 N1 x1 J1=>?_⟩;obtain⟨s1,c⟩:=s.growH x1;exact xR ht s1 c J1 e p
def Sj (K:Frag)(f:FA):TI:=λσ H R=>∃(B:Hp)(ρ:Env)(ds:List D),aX B H/\fO K B σ ρ/\f ρ=some ds/\∀(J:It)(H' N:Hp),Ext B N H H'->(∀B',nD K J B' ds)->R J H'
@[simp] def o7 (f:FA)(tg:FG)(g:FS):FS:=λρ=>(f ρ).bind λds=>iW tg g ds ρ
theorem Fx (ht:IP K tg t)(q:o6 K (o7 f tg g) E σ H):MD (Sj K f) t (o6 K g) E σ H:=by
 obtain⟨B0,H0,ρ,r,⟨N,s⟩,e,p⟩:=q;obtain⟨ds,ef,e⟩:=oX e;refine⟨N,ρ,ds,s.ext.nh,s.rep,ef,λJ H1 N1 x1 J1=>?_⟩;exact xR ht (s.grow x1) (aX.refl _) (J1 _) e p
end DL
namespace DL
open PySem PySem.Spec PyProof.Rows L2
abbrev JE (X:Cx)(e:Expr)(f:FE):Prop:=PE X e (tD X.K f)
abbrev JT (X:Cx)(e:Expr)(f:FT):Prop:=PT X e (D3 X.K f)
abbrev JW (X:Cx)(e:Expr)(f:FT):Prop:=PW X e (D3 X.K f)
abbrev JA (X:Cx)(es:List Expr)(f:FA):Prop:=PA X es (OQ X.K f)
abbrev JS (X:Cx)(st:Stmt)(g:FS):Prop:=PS X st (o6 X.K g)
abbrev xz (X:Cx)(st:List Stmt)(g:FS):Prop:=vz X st (o6 X.K g)
abbrev JI (X:Cx)(tg dc:Expr)(f:FA):Prop:=PI X tg dc (V2 X.K f)
def Ng (M:Model)(A:Around)(sG:List Expr)(tE:Expr)(env:PySem.Env)(ls:Value)(E:Value->Shared->Prop)(P:Shared->Prop):Shared->Prop :=
 wpAny M A (forIn sG true λc r=>if r=true then do let ok ←isTrue c env (eval c env);pure (ForInStep.yield ok)else pure (ForInStep.yield r))
  (λok s₃=>if ok=true then wpAny M A (eval tE env) (λx=>wpAny M A (call (.builtin "list.append") [ls,x]) (λ_=>P) E) E s₃ else P s₃) E
theorem wx {E:Value->Shared->Prop}(hE:∀x s,¬E x s)(I:Nat->Shared->Prop)
  (Ol:∀n s,I n s->wpAny (model prog w) A (pyNext it) (λr s₁=>match r with
   |none=>R (.ok .next) s₁
   |some v=>wpAny (model prog w) A (letOwnedTupleGo sE it v) (λ_=>wpAny (model prog w) A (assign sE env v) (λ_=>Ng (model prog w) A sG tE env ls E λs=>∃m,m<n/\I m s) E) E s₁) E s)
  (n:Nat) (h:I n s):codeAny (model prog w) A (.compLoop (.ListComp tE [⟨sE,dc,sG,0⟩] scope pos) 0 it ls env) R s:=by
 refine codeAny_loop rfl I (λn s hI=>?_) n h;show wpAny _ A ((compTurn (.ListComp tE [⟨sE,dc,sG,0⟩] scope pos) 0 it ls env).onRaise (λx=>do noteFrame x env;theTreesLotGoes x)) _ _ s;refine wpAny_noted (wpAny_mono (E:=E) ?_ (λ_ _ q=>q) λ_ _ z=>(hE _ _ z).elim);rw[compTurn_list];refine wX (wpAny_standAt (wX (cE (Ol n s hI) λr s₁ h₁=>?_)));cases r with
 |none=>exact wY h₁
 |some v=>
  refine wX (cE h₁ λ_ s₁ h₁=>wX (cE h₁ λ_ s₂ h₂=>wX (cE h₂ λok s₃ h₃=>?_)));cases ok with
  |false=>exact wY ⟨rfl,h₃⟩
  |true=>exact wX (wX (cE h₃ λx s₄ h₄=>wX (cE h₄ λ_ s₅ h₅=>wY (wY ⟨rfl,h₅⟩))))
theorem Ext.upd (x:Ext B N H H')(h:H a=none)(hN:N a=none):Ext B N H (upd H' a o) :=
 ⟨λb u e=>by rw[aI (λz=>by subst z;rw[h]at e;cases e)];exact x.hh _ _ e,x.bn,λb u e=>by rw[aI (λz=>by subst z;rw[hN]at e;cases e)];exact x.nh _ _ e,x.new⟩
noncomputable abbrev iX (X:Cx)(N':List Str)(scope:Scope)(cl:List (Str×Addr))(C:Addr)(s₃:Shared)(H₃:Hp)(fp:List Addr):Cx :=
 { X with N:=N',s₀:=s₃,H₀:=H₃,env:=compEnvC scope cl C X.env,outer:=X.stack,stack:=X.stack,ex:=fp,fn:=λ_=>false,pn:=[],xe:=λ_ _=>False }
inductive np (X:Cx)(N':List Str)(scope:Scope)(cl:List (Str×Addr)):Nat->List Nat->Prop where
 |nil {j:Nat}(h:N'.length=j):np X N' scope cl j []
 |cons {j i:Nat}{r:List Nat}{x:Str}(h1:N'[j]? = some x) (h2:X.N[i]? = some x) (h3:X.env.kindOf x=some .cell∨X.env.kindOf x=some .free)
   (h4:(relabel scope X.env).names.lookup x=some .cell∨(relabel scope X.env).names.lookup x=some .free) (h5:cl.lookup x=X.env.cells.lookup x) (t:np X N' scope cl (j+1) r):np X N' scope cl j (i::r)
theorem np.len:∀ {j:Nat}{cap:List Nat},np X N' scope cl j cap->N'.length=j+cap.length
 |_,_,.nil h=>by rw[h];rfl
 |j,i::r,.cons _ _ _ _ _ t=>by rw[t.len,vE];omega
theorem np.get:∀ {j:Nat}{cap:List Nat}{k i:Nat},np X N' scope cl j cap->cap[k]? = some i->∃x,N'[j+k]? = some x/\X.N[i]? = some x/\(X.env.kindOf x=some .cell∨X.env.kindOf x=some .free) /\
  ((relabel scope X.env).names.lookup x=some .cell∨(relabel scope X.env).names.lookup x=some .free)/\cl.lookup x=X.env.cells.lookup x
 |_,_,_,_,.nil _,e=>by simp at e
 |j,_,0,_,.cons h1 h2 h3 h4 h5 _,e=>by simp at e;subst e;exact⟨_,h1,h2,h3,h4,h5⟩
 |j,_,k+1,i,.cons _ _ _ _ _ t,e=>by
  obtain⟨x,q,r⟩:=t.get (k:=k) (i:=i) (by simpa using e);exact⟨x,by rw[show j+(k+1)=j+1+k by omega];exact q,r⟩
structure CompSc (X:Cx)(scope:Scope)(cl:List (Str×Addr)):Prop where
 clos:closureFor scope X.env=pure cl
 nocell:∀y∈scope.names,y.2≠.cell
 kind:scope.kind=.function
 names:∀y∈scope.names,y.2=.local->scope.names.lookup y.1=some .local
 sub:∀x c,cl.lookup x=some c->X.env.cells.lookup x=some c
 has:∀x,((relabel scope X.env).names.lookup x=some .cell∨(relabel scope X.env).names.lookup x=some .free)->∃c,cl.lookup x=some c
noncomputable def dP:List (Str×NameKind)->List (Str×Addr)->List (Str×Addr)->List (Str×Addr)
 |[],_,cs=>cs
 | (n,k)::r,cells,cs=>dP r cells (if k == .free then (match cells.lookup n with|some c=>(n,c)::cs|none=>cs)else cs)
theorem tT:∀(names:List (Str×NameKind))(cs:List (Str×Addr)),(∀y∈names,y.2=.free->(env.cells.lookup y.1).isSome=true) ->
    (do let mut cs:=cs
        for (name,kind)in names do
          if kind == .free then cs:=(name,←cellOf env name)::cs
        return cs:Sem (List (Str×Addr)))=pure (dP names env.cells cs):=by
  intro names;induction names with
  |nil=>intro cs _;rfl
  |cons y r ih=>
    intro cs h;obtain⟨n,k⟩:=y;have Rr:=λcs=>ih cs λy hy=>h y (mZ _ hy);by_cases hk:k=.free
    . subst hk;have hc:=h (n,.free) mX rfl;cases q:env.cells.lookup n with
      |none=>rw[q]at hc;cases hc
      |some c=>
        have e1:dP ((n,.free)::r) env.cells cs=dP r env.cells ((n,c)::cs):=by
          rw[dP,q];rfl
        rw[e1,←Rr ((n,c)::cs)];have e2:cellOf env n=pure c:=by unfold cellOf;rw[q]
        simp only[List.forIn_cons,beq_self_eq_true,if_true,e2];rfl
    . have hb:(k == NameKind.free)=false:=by simpa using hk
      have e1:dP ((n,k)::r) env.cells cs=dP r env.cells cs:=by rw[dP,hb];rfl
      rw[e1,←Rr cs];simp only[List.forIn_cons,hb,uV,if_false];rfl
theorem mr:∀(names:List (Str×NameKind))(cs:List (Str×Addr)),(∀y d,cs.lookup y=some d->cells.lookup y=some d)->(dP names cells cs).lookup x=some c->cells.lookup x=some c
 |[],cs,h,e=>h x c e
 | (n,k)::r,cs,h,e=>by
  rw[dP]at e;refine mr r _ (λy d q=>?_) e;split at q
  ·split at q
   ·rename_i c' ec;rw[List.lookup_cons]at q;split at q
    ·rename_i hy;cases q
     rw[eq_of_beq hy];exact ec
    ·exact h y d q
   ·exact h y d q
  ·exact h y d q
theorem tU:∀(names:List (Str×NameKind))(cs:List (Str×Addr)),(cs.lookup x).isSome=true->((dP names cells cs).lookup x).isSome=true
 |[],cs,h=>h
 | (n,k)::r,cs,h=>by
  rw[dP];refine tU r _ ?_;split
  ·split
   ·rw[List.lookup_cons];split
    ·rfl
    ·exact h
   ·exact h
  ·exact h
theorem mv:∀(names:List (Str×NameKind))(cs:List (Str×Addr)),(x,NameKind.free)∈names->(cells.lookup x).isSome=true->((dP names cells cs).lookup x).isSome=true
 | (n,k)::r,cs,hm,hc=>by
  rw[dP];rcases vP hm with e|e
  ·cases e
   refine tU r _ ?_;cases q:cells.lookup x with
   |none=>rw[q]at hc;cases hc
   |some c=>simp
  ·exact mv r _ e hc
theorem fT {α:Type}{x:Str}{k:α}:∀ {l:List (Str×α)},l.lookup x=some k->(x,k)∈l
 | (n,j)::r,h=>by
  rw[List.lookup_cons]at h;split at h
  ·rename_i e;cases h
   rw[eq_of_beq e];exact mX
  ·exact mZ _ (fT h)
theorem Nh {X:Cx}{scope:Scope}(h1:∀y∈scope.names,y.2≠.cell)(h2:scope.kind=.function)(h3:∀y∈scope.names,y.2=.local->scope.names.lookup y.1=some .local)(Pl:(scope.names.all λy=>!(y.2 == NameKind.free) || (X.env.cells.lookup y.1).isSome)=true):
  CompSc X scope (dP scope.names X.env.cells []):=by
 have h4:∀y∈scope.names,y.2=.free->(X.env.cells.lookup y.1).isSome=true:=λy hy e=>by
  have:=uR Pl y hy;rw[e]at this;simpa using this
 have frees:∀x,((relabel scope X.env).names.lookup x=some .cell∨(relabel scope X.env).names.lookup x=some .free)->(x,NameKind.free)∈scope.names:=λx h=>by
  have:∃k,(x,k)∈(relabel scope X.env).names/\(k=.cell∨k=.free):=by
   rcases h with h|h
   ·exact⟨_,fT h,.inl rfl⟩
   ·exact⟨_,fT h,.inr rfl⟩
  obtain⟨k,hm,hk⟩:=this;obtain⟨⟨n,j⟩,hj,e⟩:=vO hm;dsimp only at e;split at e
  ·rename_i hc;rw[vC,vC]at hc;cases e
   rw[←eq_of_beq hc.1.1];exact hj
  ·cases e
   rcases hk with rfl|rfl
   ·exact absurd rfl (h1 _ hj)
   ·exact hj
 exact⟨tT scope.names [] h4,h1,h2,h3,λx c e=>mr scope.names [] (λy d q=>by cases q) e,λx h=>by
  have:=mv (x:=x) scope.names [] (frees x h) (h4 _ (frees x h) rfl);exact uU this⟩
theorem p7 {scope:Scope}{cells:List (Str×Addr)}{x:Str}(h:(x,NameKind.free)∈scope.names)(hc:(cells.lookup x).isSome=true):(dP scope.names cells []).lookup x=cells.lookup x:=by
 obtain⟨c,e⟩:=uU (mv (x:=x) scope.names [] h hc);rw[e,mr scope.names [] (λy d q=>by cases q) e]
noncomputable def sS (nT:Nat)(cap:List Nat)(σ:St):St:=List.replicate nT none++cap.map λi=>(σ[i]?).join
noncomputable def dF (nT:Nat)(cap:List Nat)(ρ:Env):Env:=List.replicate nT none++cap.map λi=>match ρ[i]? with|some (some (d,_))=>some (d,false)|_=>none
theorem wy {α:Type}{nT:Nat}{cap:List Nat}{f:Nat->Option α}{j:Nat}{v:α}(h:(List.replicate nT none++cap.map f)[j]? = some (some v)):∃k i,j=nT+k/\cap[k]? = some i/\f i=some v:=by
 by_cases hj:j<nT
 ·rw[List.getElem?_append_left (by simpa using hj),List.getElem?_replicate,if_pos hj]at h;cases h
 ·rw[List.getElem?_append_right (by simpa using Nat.not_lt.mp hj),List.length_replicate,vA]at h;obtain⟨i,h1,h2⟩:=oY h;exact⟨j - nT,i,by omega,h1,h2⟩
theorem IS {α:Type}{nT:Nat}{cap:List Nat}{f:Nat->Option α}{k i:Nat}{v:α}(h1:cap[k]? = some i)(h2:f i=some v):(List.replicate nT none++cap.map f)[nT+k]? = some (some v):=by
 rw[List.getElem?_append_right (by simp),List.length_replicate,vA,Nat.add_sub_cancel_left,h1];simp[h2]
theorem fO.caps {K:Frag}{B:Hp}{σ:St}{ρ:Env}{nT:Nat}{cap:List Nat}(h:fO K B σ ρ):fO K B (sS nT cap σ) (dF nT cap ρ):=⟨h.tb,λj d b q=>by
 obtain⟨k,i,rfl,h1,h2⟩:=wy q;split at h2
 ·rename_i d' b' e;cases h2
  obtain⟨v,g1,g2⟩:=h.at' i _ _ e;exact⟨v,IS h1 (by rw[g1];rfl),g2⟩
 ·cases h2⟩
noncomputable def gN (tg:FG)(c:FT)(fe:FE)(ρ:Env):List D->Option (List D)
 |[]=>some []
 |d::r=>(tg d ρ).bind λρ1=>(c ρ1).bind λb=>if b=true then (fe ρ1).bind λx=>(gN tg c fe ρ r).map (x.1 :: ·)else gN tg c fe ρ r
@[simp] theorem OR (tg:FG)(c:FT)(fe:FE)(ρ:Env):gN tg c fe ρ []=some []:=by rw[gN]
@[simp] theorem A1 (tg:FG)(c:FT)(fe:FE)(ρ:Env)(d:D)(r:List D):gN tg c fe ρ (d::r)=(tg d ρ).bind λρ1=>(c ρ1).bind λb=>if b=true then (fe ρ1).bind λx=>(gN tg c fe ρ r).map (x.1 :: ·)else gN tg c fe ρ r:=by rw[gN]
@[simp] def bH (fi:FA)(nT:Nat)(cap:List Nat)(tg:FG)(c:FT)(fe:FE):FE:=λρ=>(fi ρ).bind λitems=>if items.length<=sizeLine then (gN tg c fe (dF nT cap ρ) items).map λds=>(.lst ds,true)else none
def Lc (K:Frag)(n:Nat)(tg:FG)(g:TG):Prop:=∀(B H:Hp)(σ:St)(ρ ρ1:Env)(v:V)(d:D)(Q:St->Hp->Prop),(∀i,i<n->ρ[i]? = some none)->fO K B σ ρ->aX B H->Is K B v d->tg d ρ=some ρ1 ->
 ρ.length=σ.length->(∀σ1,fO K B σ1 ρ1->(∀B',fO K B' σ ρ->fO K B' σ1 ρ)->ρ.length=σ1.length->Q σ1 H)->g v σ H Q
theorem xS {K:Frag}{n i:Nat}(hi:i<n):Lc K n (dM i) (jR i):=by
 intro B H σ ρ ρ1 v d Q cl rep s h e hl k;cases e
 have E5:i<σ.length:=by
  have:=(vV (cl i hi)).1;omega
 refine k _ ⟨rep.tb,λj e b q=>?_⟩ ?_ (by simpa using hl)
 ·rcases cf q with⟨rfl,p⟩|⟨ne,p⟩
  ·cases p
   exact⟨v,by simp[E5],h⟩
  ·obtain⟨w,h1,h2⟩:=rep.at' j e b p;exact⟨w,by rw[vB ne];exact h1,h2⟩
 ·intro B' Rt;refine⟨Rt.tb,λj e b q=>?_⟩;obtain⟨w,h1,h2⟩:=Rt.at' j e b q;have ne:i≠j:=λz=>by subst z;rw[cl i hi]at q;cases q
  exact⟨w,by rw[vB ne];exact h1,h2⟩
def JC (X:Cx)(sG:List Expr)(c:FT):Prop:=∀(ae:List (Addr×Obj))(s:Shared)(σ:St)(H:Hp)(Q:Bool->Hp->Prop),Inv X ae σ H s->D3 X.K c σ H Q ->
 wq X (forIn sG true λc r=>if r=true then do let ok ←isTrue c X.env (eval c X.env);pure (ForInStep.yield ok)else pure (ForInStep.yield r)) (TP X ae σ Q) X.xe s
@[simp] noncomputable def jm:FT:=λ_=>some true
theorem lH:JC X [] jm:=by
 intro ae s σ H Q I h;obtain⟨B,ρ,c,sB,rep,e,q⟩:=h;cases e
 exact wpAny_tests_nil ⟨H,I,q H (.refl H)⟩
theorem dQ (h:JT X e f):JC X [e] f:=λae s σ H Q I q=>wpAny_tests_one (h ae s σ H Q I q)
inductive CI (Y:Cx)(tn:Nat->Heap->Prop)(fp:List Addr)(N1 H2:Hp)(κ:Env)(a:Addr)(l:List D->Option (List D))(items ds:List D)(s:Shared):Nat->Prop
 |mk (i:Nat) (N:Hp) (vs:List V) (es r:List D) (σ:St) (H:Hp) (I:Inv Y [] σ H s) (ti:tn i s.heap) (hn:∀b∈fp,H b=none) (hi:i<=items.length) (rp:fO Y.K N1 σ κ) (hl:κ.length=σ.length)
   (x:Ext N1 N H2 H) (n0:N a=none) (h0:H a=some (.lst vs)) (vl:vs.length<=i) (iv:IsL Y.K N vs es) (er:l (items.drop i)=some r) (ed:es++r=ds):CI Y tn fp N1 H2 κ a l items ds s (items.length - i)
theorem Ext.both (x:Ext N1 N H2 H)(y:Ext N1 N' H H'):Ext N (join N N') H H'/\aX N' (join N N'):=by
 refine⟨⟨y.hh,eS,λa o e=>?_,λa o e=>?_⟩,λa o e=>?_⟩
 ·cases z:N a with
  |some u'=>rw[eS _ _ z]at e;cases e;exact y.hh _ _ (x.nh _ _ z)
  |none=>rw[eF z]at e;exact y.nh _ _ e
 ·cases z:N a with
  |some u'=>rw[eS _ _ z]at e;cases e;exact .inl rfl
  |none=>
   rw[eF z]at e;exact(y.new a o e).elim (λz'=>by rw[x.bn _ _ z']at z;cases z) .inr
 ·exact(y.new a o e).elim (λz=>eS _ _ (x.bn _ _ z)) λz=>by rw[eF (x.nh.free z)];exact e
theorem Ext.off (x:Ext B N H H')(h:B a=none)(h':H a=some o):N a=none:=by
 cases z:N a with
 |none=>rfl
 |some u=>
  rcases x.new _ _ z with z|z
  ·rw[h]at z;cases z
  ·rw[h']at z;cases z
theorem D6 {Y:Cx}(jY:Y.calm=true)(hE:∀x s,¬Y.xe x s)(hg:PG Y tg g)(Hz:Lc Y.K nT pK g)(hc:JC Y sG fc)(he:JE Y tE fe)(T:Turn Y.prog Y.w Y.K tg J fp it tn)(Ru:∀i,i<nT->κ[i]? = some none)
  (J1:nD Y.K J N1 items) (hsz:items.length<=sizeLine) (hD:H2 a=none) (Uq:∀H',(∀b∈fp,H' b=none)->∀b∈fp,nz Y [] H' b)
  (hR:∀s4 σ' H' N vs,Inv Y [] σ' H' s4->Ext N1 N H2 H'->N a=none->H' a=some (.lst vs)->IsL Y.K N vs ds->R (.ok .next) s4) (h:CI Y tn fp N1 H2 κ a (gN pK fc fe κ) items ds s items.length):
  codeAny (model Y.prog Y.w) Y.A (.compLoop (.ListComp tE [⟨tg,dc,sG,0⟩] scope pos) 0 (.ref it) (.ref a) Y.env) R s:=by
 refine wx hE (λn s=>CI Y tn fp N1 H2 κ a (gN pK fc fe κ) items ds s n) (λn s' h=>?_) _ h;obtain⟨i,N,vs,es,r,σ',H',I',ti,hn,hi,rp,bB,x,S6,Rv,B5,Rw,er,S7⟩:=h;have sH:aX N1 H':=x.bn.trans x.nh;by_cases fw:i<items.length
 ·obtain⟨go,yl⟩:=(J1 i H' sH).1 items[i] (by simp[fw]);refine cE (T.item Y rfl rfl rfl jY i [] s' σ' H' Y.xe I' (Uq _ hn) ti go) λq s4 ⟨u,eu,hq⟩=>?_;subst eu;refine cE hq λ_ s5 ⟨xv,H5,I5,rx,y5,t5,Uc⟩=>?_;obtain⟨N5,x5,i5⟩:=yl xv H5 y5;obtain⟨x6,c5⟩:=x.both x5;have VY:(join N N5) a=none:=x6.off S6 Rv;have S8:aX (join N N5) H5:=x6.nh;rw[List.drop_eq_getElem_cons fw]at er;unfold gN at er;obtain⟨ρ1,e1,er⟩:=oX er;obtain⟨b,e2,er⟩:=oX er;have lr:∀(s9:Shared)(σ9:St)(H9 N9:Hp)(Ry:List V)(S9 r9:List D),Inv Y (nA fp s5.heap) σ9 H9 s9->fO Y.K N1 σ9 κ->κ.length=σ9.length->Ext N1 N9 H2 H9->N9 a=none->H9 a=some (.lst Ry) ->
    Ry.length<=i+1->IsL Y.K N9 Ry S9->gN pK fc fe κ (items.drop (i+1))=some r9->S9++r9=ds->∃m,m<items.length - i/\CI Y tn fp N1 H2 κ a (gN pK fc fe κ) items ds s9 m:=λs9 σ9 H9 N9 Ry S9 r9 I9 Yc l9 x9 n9 h9 v9 i9 Yd Ye=>
   ⟨_,by omega,i+1,N9,Ry,S9,r9,σ9,H9,I9.pins_of λp hp=>by simp at hp,T.keep _ _ _ t5 λb hb o e=>(I9.pin (b,o) (mY _ (jA hb e))).1,λb hb=>by
    obtain⟨o,e,d⟩:=T.obj _ _ t5 b hb;exact(I9.pin (b,o) (mY _ (jA hb e))).2.1,fw,Yc,l9,x9,n9,h9,v9,i9,Yd,Ye⟩
  refine cE (hg (nA fp s5.heap) s5 σ' H5 xv u (λσ6 H6=>H6=H5/\fO Y.K (join N N5) σ6 ρ1/\fO Y.K N1 σ6 κ/\κ.length=σ6.length) (I5.pinned (Uq _ Uc) (T.obj _ _ t5)) rx
   (Hz (join N N5) H5 σ' κ ρ1 xv items[i] _ Ru (rp.mono (x.bn.trans eS)) S8 (i5.mono c5) e1 bB λσ1 r1 r2 l1=>⟨rfl,r1,r2 N1 rp,l1⟩)) λ_ s6 ⟨σ6,H6,I6,eH,VZ,Wa,l6⟩=>?_
  subst eH;have Ur:H6 a=some (.lst vs):=x5.hh _ _ Rv;refine cE (hc _ s6 σ6 H6 (λc H7=>c=b/\aX H6 H7) I6 ⟨join N N5,ρ1,b,S8,VZ,e2,λH7 h7=>⟨rfl,h7⟩⟩) λok s7 ⟨H7,I7,eb,h7⟩=>?_;subst eb;have x7:Ext N1 (join N N5) H2 H7:=(x.trans x6).trans (.grow S8 h7);cases ok with
  |false=>
   rw[if_neg (by decide)]at er ⊢;exact lr s7 σ6 H7 (join N N5) vs es r I7 Wa l6 x7 VY (h7 _ _ Ur) (Nat.le_succ_of_le B5) (Rw.mono eS) er S7
  |true=>
   rw[if_pos rfl]at er ⊢;obtain⟨y,e3,er⟩:=oX er;obtain⟨r',e4,er⟩:=oY er;subst er;refine cE (he _ s7 σ6 H7 (λv H8=>∃N8,Ext (join N N5) N8 H7 H8/\Is Y.K N8 v y.1) I7 ⟨join N N5,ρ1,y.1,y.2,S8.trans h7,VZ,e3,λv H8 N8 x8 i8 _=>⟨N8,x8,i8⟩⟩) λw8 s8 ⟨v8,H8,I8,r8,N8,x8,i8⟩=>?_;refine cE (tO _ s8 σ6 H8 (.ref a) [v8] (.ref a) [w8] (λ_ H9=>H9=upd H8 a (.lst (vs++[v8]))) I8 rfl (.cons r8 .nil) ⟨_,vs,v8,rfl,rfl,x8.hh _ _ (h7 _ _ Ur),by omega,rfl⟩) λ_ s9 ⟨_,H9,I9,_,e9⟩=>?_;subst e9;have Wb:=x8.off VY (h7 _ _ Ur);exact lr s9 σ6 _ N8 (vs++[v8]) (es++[y.1]) r' I9 Wa l6 ((x7.trans x8).upd hD Wb) Wb aC (by rw[uZ,List.length_singleton];omega) ((Rw.mono (eS.trans x8.bn)).append (.cons i8 .nil)) e4 (by rw[List.append_assoc];exact S7)
 ·obtain rfl:i=items.length:=by omega
  rw[List.drop_eq_nil_of_le (vT _)]at er;cases er
  rw[uQ]at S7;subst S7;refine cE (T.done Y rfl rfl rfl jY items.length [] s' σ' H' Y.xe I' (Uq _ hn) ti ((J1 _ H' sH).2 (vT _))) λq s4 ⟨hq,I9⟩=>?_;subst hq;exact hR s4 σ' H' N vs I9 x S6 Rv Rw
theorem pU {X:Cx}(jY:X.calm=true){tg dc tE:Expr}{sG:List Expr}{scope:Scope}{pos:Pos}{cl:List (Str×Addr)}{N':List Str}{nT:Nat}{cap:List Nat}{pK:FG}{g:TG}{fc:FT}{fe:FE}
  (S:CompSc X scope cl) (cp:np X N' scope cl nT cap)
  (hg:∀C s H fp,PG (iX X N' scope cl C s H fp) tg g) (Hz:Lc X.K nT pK g) (hc:∀C s H fp,JC (iX X N' scope cl C s H fp) sG fc) (he:∀C s H fp,JE (iX X N' scope cl C s H fp) tE fe)
  {ae:List (Addr×Obj)}{σ:St}{H2:Hp}{s2:Shared}{it:Addr}{fp:List Addr}{tn:Nat->Heap->Prop}{J:It}{N1:Hp}{ρ:Env}{items ds:List D}{E:Value->Shared->Prop}
  (I2:Inv X ae σ H2 s2) (T:Turn X.prog X.w X.K tg J fp it tn) (K0:tn 0 s2.heap) (f2:∀b∈fp,nz X ae H2 b)
  (rep:fO X.K N1 σ ρ) (sN:aX N1 H2) (J1:nD X.K J N1 items) (hsz:items.length<=sizeLine) (ec:gN pK fc fe (dF nT cap ρ) items=some ds) {RR:Value->Addr->Result->Shared->Prop}
  (Yf:∀(Dd C:Addr)(s':Shared)(H' N:Hp)(vs:List V)(m:Str->Option Value),H2 Dd=none->Inv X ae σ H' s'->s'.heap.Ns C m->nz X ae H' C->Ext N1 N H2 H'->N Dd=some (.lst vs)->IsL X.K N vs ds->RR (.ref Dd) C (.ok .next) s'):
  wq X (newList []) (λls s₃=>wq X (newFunctionEnv scope X.env.globals cl [] X.env.qual none .none (some X.env)) (λRz s₄=>
   codeAny (model X.prog X.w) X.A (.compStart (.ListComp tE [⟨tg,dc,sG,0⟩] scope pos) 0 (.ref it) ls { Rz with scope:=relabel scope X.env }) (RR ls Rz.locals) s₄) E s₃) E s2:=by
 refine wpAny_newObj_type (wpAny_newFunctionEnv S.nocell (by intro y hy;simp at hy) (λh₁ B6 hsb₁=>?_) S.kind);dsimp only at B6 hsb₁ ⊢;have hD:H2 s2.heap.objs.size=none:=I2.fresh;have I3:Inv X ae σ (upd H2 s2.heap.objs.size (.lst [])) { s2 with heap:=s2.heap.push { cls:=.type "list",dict:=none,data:=.seq ([]:List Value).toArray } }:=I2.lnew (t':=s2.toks) (ys:=[]) (its:=[]) .nil (uN _);generalize hH3:s2.heap.push { cls:=.type "list",dict:=none,data:=.seq ([]:List Value).toArray }=g3 at B6 hsb₁ I3 ⊢;have hC:g3.objs.size=s2.heap.objs.size+1:=by rw[←hH3,Heap.size_push]
 have K8:∀b o,s2.heap.get? b=some o->g3.get? b=some o:=λb o e=>hH3 ▸ vZ _ e;have E9:∀b o,g3.get? b=some o->h₁.get? b=some o:=λb o e=>hsb₁.extBut b o (vS (vX e)) (vZ _ e);have Pe:∀b o,g3.get? b=some o->b≠g3.objs.size:=λb o e=>vS (vX e);have Wc:∀b∈fp,∃o,s2.heap.get? b=some o:=λb hb=>let ⟨o,e,_⟩:=T.obj 0 s2.heap K0 b hb;⟨o,e⟩;have Yg:∀b∈fp,b≠s2.heap.objs.size:=λb hb=>let ⟨o,e⟩:=Wc b hb;vS (vX e);have Wd:∀b∈fp,b≠g3.objs.size:=λb hb=>let ⟨o,e⟩:=Wc b hb;Pe b o (K8 b o e);have We:∀x c,X.env.cells.lookup x=some c->c≠g3.objs.size:=λx c e=>by
  obtain⟨v,z⟩:=I3.cell x c e;exact vS z.lt
 have Yh:(upd H2 s2.heap.objs.size (HO.lst [])) g3.objs.size=none:=I3.hok.fresh (vT _);have stk:∀b∈EI X.stack,∃o,s2.heap.get? b=some o:=λb hb=>by
  obtain⟨_,o,ho,_⟩:=(I2.stack).mem hb;exact⟨o,ho⟩
 -- the block's context
 let Y:Cx:=iX X N' scope cl g3.objs.size { s2 with heap:=g3 } (upd H2 s2.heap.objs.size (.lst [])) fp;have ok:Y.Ok:=by
  refine⟨I2.ok.mod,?_,I2.ok.glob,I2.ok.blt,vT _,λx y c e1 e2=>I2.ok.inj x y c (S.sub x c e1) (S.sub y c e2),λx h=>S.has x h,λx c h=>absurd h uX,I2.ok.hd,I2.ok.frames,.inl rfl,λb hb=>⟨Wd b hb,λx c e=>(f2 b hb).2.2.2.2.1 x c (S.sub x c e)⟩,λb o e=>?_,?_,λb o e hb=>?_,λb hb hz=>?_,I3.stack,λb hb=>I3.stkFree b hb⟩
  ·show(relabel scope X.env).kind=.function;exact S.kind
  ·exact I3.bs b o e
  ·exact vR I3.ok.bsz I3.sz
  ·have h1:=(f2 b hb).2.2.2.1;rcases h1 with z|z
   ·exact I2.ok.noex b o e z
   ·exact absurd (vQ (vX e) (vR I2.ok.bsz z)) (Nat.lt_irrefl _)
  ·rcases vP (I2.stkSub b hz)with z|z
   ·exact(f2 b hb).2.1 z
   ·exact(f2 b hb).2.2.1 z
 have I4:Inv Y [] (sS nT cap σ) (upd H2 s2.heap.objs.size (.lst [])) { s2 with heap:=h₁,toks:=s2.toks+([]:List (Str×Value)).length }:=by
  refine⟨ok,rfl,I2.bare,Un.kept E9,⟨_,B6,λj x v e1 e2 e3=>?_⟩,λx c e=>?_,Yh,λx c e=>I3.freeC x c (S.sub x c e),λp hp=>absurd (show p∈[]from hp) List.not_mem_nil,I3.hok.kept E9,?_⟩
  ·obtain⟨k,i,rfl,h1,h2⟩:=wy e2;obtain⟨y,g1,g2,Wf,g4,g5⟩:=cp.get h1;have LW:N'[nT+k]? = some x:=e1;rw[g1]at LW;cases LW;have E8:σ[i]? = some (some v):=by
    cases q:σ[i]? with
    |none=>rw[q]at h2;cases h2
    |some z=>rw[q]at h2;have:z=some v:=h2;rw[this]
   obtain⟨m,_,hl⟩:=I3.loc;obtain⟨u,r,l⟩:=hl i _ v g2 E8 (Wf.elim (λz=>.inr (.inl z)) λz=>.inr (.inr z));refine⟨u,r,?_⟩;rcases l with⟨l,_⟩|⟨_,c,lc,ic⟩
   ·rcases Wf with z|z<;>(rw[z]at l;cases l)
   ·refine .inr ⟨g4,c,by show cl.lookup _=some c;rw[g5];exact lc,?_⟩;obtain⟨o,ho,hd⟩:=ic;exact⟨o,E9 _ _ ho,hd⟩
  ·obtain⟨v,o,ho,hd⟩:=I3.cell x c (S.sub x c e);exact⟨v,o,E9 _ _ ho,hd⟩
  ·show(sS nT cap σ).length=N'.length;unfold sS;rw[cp.len];simp
 have loop:∀s₃:Shared,s₃={ s2 with heap:=h₁,toks:=s2.toks+([]:List (Str×Value)).length }->codeAny (model Y.prog Y.w) Y.A (.compLoop (.ListComp tE [⟨tg,dc,sG,0⟩] scope pos) 0 (.ref it) (.ref s2.heap.objs.size) Y.env) (RR (.ref s2.heap.objs.size) g3.objs.size) s₃:=by
  rintro s₃ rfl;refine D6 (Y:=Y) jY (λ_ _ z=>z) (hg _ _ _ _) Hz (hc _ _ _ _) (he _ _ _ _) T (λi hi=>?_) J1 hsz hD (λH' hn b hb=>⟨hn b hb,Wd b hb,ok.exfs b hb,.inl hb,λx c e=>(f2 b hb).2.2.2.2.1 x c (S.sub x c e),λp hp=>absurd (show p∈[]from hp) List.not_mem_nil⟩) (λs4 σ' H' N vs I9 x S6 Rv Rw=>?_)
   ⟨0,N1,[],[],ds,sS nT cap σ,_,I4,T.keep _ _ _ K0 λb hb o e=>E9 _ _ (K8 _ _ e),λb hb=>?_,uN _,rep.caps,?_,(Ext.refl sN).upd hD (sN.free hD),sN.free hD,aC,uN _,.nil,by simpa using ec,rfl⟩
  ·unfold dF;rw[List.getElem?_append_left (by simpa using hi),List.getElem?_replicate,if_pos hi]
  ·obtain⟨m,hm,_⟩:=I9.loc;have k:aX N (upd N s2.heap.objs.size (.lst vs)):=λa o e=>by rw[aI (λz=>by subst z;rw[S6]at e;cases e)];exact e
   refine Yf s2.heap.objs.size g3.objs.size s4 H' (upd N s2.heap.objs.size (.lst vs)) vs m hD (I2.call' (ch:=fp) I9.os ((Un.laid K8 (vT _) hD).trans I9.base) I9.hok I9.bare λb hb=>⟨(f2 b hb).2.2.2.1,(f2 b hb).2.1,(f2 b hb).2.2.2.2.1,(f2 b hb).2.2.2.2.2⟩) hm (I2.fpOk (by rw[hC];exact Nat.le_succ _) I9.free) ⟨x.hh,x.bn.trans k,λa o e=>?_,λa o e=>?_⟩ aC (Rw.mono k)
   ·by_cases z:a=s2.heap.objs.size
    ·subst z;rw[aC]at e;cases e;exact Rv
    ·rw[aI z]at e;exact x.nh _ _ e
   ·by_cases z:a=s2.heap.objs.size
    ·subst z;exact .inr hD
    ·rw[aI z]at e;exact x.new _ _ e
  ·rw[aI (Yg b hb)];exact(f2 b hb).1
  ·unfold dF sS;simp
 exact codeAny_compStart_list (loop _ rfl) (T.self _ 0 _ _ _ (T.keep _ _ _ K0 λb hb o e=>E9 _ _ (K8 _ _ e)) (loop _ rfl))
theorem IT (jY:X.calm=true) 
  (S:CompSc X scope cl) (cp:np X N' scope cl nT cap) (hi:JI X tg dc fi)
  (hg:∀C s H fp,PG (iX X N' scope cl C s H fp) tg g) (Hz:Lc X.K nT pK g) (hc:∀C s H fp,JC (iX X N' scope cl C s H fp) sG fc) (he:∀C s H fp,JE (iX X N' scope cl C s H fp) tE fe)
  (hs:∀x,foldedSetIterable dc X.env x=pure x:=by intro _;rfl):
  JE X (.ListComp tE [⟨tg,dc,sG,0⟩] scope pos) (bH fi nT cap pK fc fe):=by
 intro ae s σ H Q I h;obtain⟨B,ρ,d,b,sB,rep,e,q⟩:=h;obtain⟨items,ei,e⟩:=oX e;have hsz:items.length<=sizeLine:=Decidable.byContradiction λz=>by rw[if_neg z]at e;cases e
 rw[if_pos hsz]at e;obtain⟨ds,ec,e⟩:=oY e;cases e
 rw[eval_ListComp];refine wpAny_comprehension_free (use:=none) rfl hs S.clos S.kind S.names (cE (hi ae s σ H (λJ H2=>∃N1,Ext B N1 H H2/\nD X.K J N1 items) I ⟨B,ρ,items,sB,rep,ei,λJ H2 N1 x1 j1=>⟨N1,x1,j1⟩⟩) λv s1 h1=>cE h1 λS1 s2 h2=>?_);obtain⟨it,fp,tn,J,H2,e,I2,T,K0,f2,N1,x1,j1⟩:=h2;subst e;refine pU jY S cp hg Hz hc he I2 T K0 f2 (rep.mono x1.bn) x1.nh j1 hsz ec (RR:=λls C=>compPost (model X.prog X.w) X.A X.xe none (EP X ae σ Q) ls C) ?_;intro Dd C s' H' N vs m hD I' hm fC x hN hl;refine⟨m,hm,λh' hs'=>⟨.ref Dd,H',?_,rfl,q _ H' N (x1.trans x) (.lst (hU.of hN) hl) λ_=>⟨Dd,vs,ds,rfl,rfl,x1.hh.free hD,hN,hl⟩⟩⟩;obtain⟨c0,c1,c2,c3,c4,c5⟩:=fC;exact I'.turned (t':=s'.toks) (λb o hb e=>(hs'.2 b hb).trans e) c0 c1 c3 c4 c5
theorem IU (jY:X.calm=true) 
  (hN:X.N.Nodup) (EA:X.N[i]? = some y) (hy:X.env.kindOf y=some .local)
  (R0:swapsWith (.ListComp tE [⟨tg,dc,sG,0⟩] scope pos) (some (.Name y py)) spos.line X.env=pure true)
  (S:CompSc X scope cl) (cp:np X N' scope cl nT cap) (hi:JI X tg dc fi)
  (hg:∀C s H fp,PG (iX X N' scope cl C s H fp) tg g) (Hz:Lc X.K nT pK g) (hc:∀C s H fp,JC (iX X N' scope cl C s H fp) sG fc) (he:∀C s H fp,JE (iX X N' scope cl C s H fp) tE fe)
  (hs:∀x,foldedSetIterable dc X.env x=pure x:=by intro _;rfl):
  JS X (.Assign [.Name y py] (.ListComp tE [⟨tg,dc,sG,0⟩] scope pos) spos) (aN i (bH fi nT cap pK fc fe)):=by
 intro ae s σ H E I h;have h2:Ak (tD X.K (bH fi nT cap pK fc fe)) (jR i) E σ H:=BG h;obtain⟨B,ρ,d,b,sB,rep,e,q⟩:=h2;obtain⟨items,ei,e⟩:=oX e;have hsz:items.length<=sizeLine:=Decidable.byContradiction λz=>by rw[if_neg z]at e;cases e
 rw[if_pos hsz]at e;obtain⟨ds,ec,e⟩:=oY e;cases e
 rw[exec_Assign_Name_used _ _ _ _ R0];refine wX (wpAny_standAt (wX ?_));show wpAny _ _ (do let _ ←comprehension (.ListComp tE [⟨tg,dc,sG,0⟩] scope pos) scope X.env _ (newList []) false (eval dc X.env) (some (assign (.Name y py) X.env))) _ _ s;refine wX (wpAny_mono (wpAny_comprehension_free (use:=some (assign (.Name y py) X.env)) (Q:=λ_ s'=>SP X ae E .next s') rfl hs S.clos S.kind S.names
  (cE (hi ae s σ H (λJ H2=>∃N1,Ext B N1 H H2/\nD X.K J N1 items) I ⟨B,ρ,items,sB,rep,ei,λJ H2 N1 x1 j1=>⟨N1,x1,j1⟩⟩) λv s1 h1=>cE h1 λS1 s2 h2=>?_)) (λ_ s' hq=>wY (wY hq)) λ_ _ e=>e)
 obtain⟨it,fp,tn,J,H2,e,I2,T,K0,f2,N1,x1,j1⟩:=h2;subst e;refine pU jY S cp hg Hz hc he I2 T K0 f2 (rep.mono x1.bn) x1.nh j1 hsz ec (RR:=λls C=>compPost (model X.prog X.w) X.A X.xe (some (assign (.Name y py) X.env)) (λ_ s'=>SP X ae E .next s') ls C) ?_;intro Dd C s' H' N vs m hD I' hm fC x Wg hl;show wpAny _ _ (assign (.Name y py) X.env (.ref Dd)) _ _ s';obtain⟨c0,c1,c2,c3,c4,c5⟩:=fC;refine wpAny_assign_Name (tG I' hN EA (.inl hy) (r:=show ba (.ref Dd) (.ref Dd)from rfl) (λs9 I9 ⟨a,sb,ha⟩=>?_) (.inr hy));have nC:C≠a:=by
  rcases ha with z|z
  ·rw[z];exact c1
  ·exact λw=>c4 y a z w.symm
 refine⟨m,hm.sameBut sb nC,λh' hs'=>⟨_,H',?_,q _ H' N (x1.trans x) (.lst (hU.of Wg) hl) λ_=>⟨Dd,vs,ds,rfl,rfl,x1.hh.free hD,Wg,hl⟩⟩⟩;exact I9.turned (t':=s9.toks) (λb o hb e=>(hs'.2 b hb).trans e) c0 c1 c3 c4 c5
section
variable {X:Cx}{a b c e:Expr}{pos:Pos}
theorem PE.to (h:PE X e t)(k:∀σ H Q,t' σ H Q->t σ H Q):PE X e t':=λae s σ H Q I q=>h ae s σ H Q I (k σ H Q q)
theorem PT.to (h:PT X e t)(k:∀σ H Q,t' σ H Q->t σ H Q):PT X e t':=λae s σ H Q I q=>h ae s σ H Q I (k σ H Q q)
theorem PW.to (h:PW X e t)(k:∀σ H Q,t' σ H Q->t σ H Q):PW X e t':=λwh ae s σ H Q I q=>h wh ae s σ H Q I (k σ H Q q)
theorem PA.to (h:PA X es t)(k:∀σ H Q,t' σ H Q->t σ H Q):PA X es t':=λpos ae s σ H Q I q=>h pos ae s σ H Q I (k σ H Q q)
theorem PS.to {st:Stmt}{t t':TS}(h:PS X st t)(k:∀E σ H,t' E σ H->t E σ H):PS X st t':=λae s σ H E I q=>h ae s σ H E I (k E σ H q)
theorem vz.to {st:List Stmt}{t t':TS}(h:vz X st t)(k:∀E σ H,t' E σ H->t E σ H):vz X st t':=λae s σ H E I q=>h ae s σ H E I (k E σ H q)
theorem PI.to (h:PI X tg it t)(k:∀σ H Q,t' σ H Q->t σ H Q):PI X tg it t':=λae s σ H Q I q=>h ae s σ H Q I (k σ H Q q)
theorem Fy {K:Frag}{d:D}{v:V}(i:∀B,Is K B v d){σ:St}{H:Hp}{Q:VK}(h:tD K (fC d) σ H Q):tC v σ H Q:=by
 obtain⟨B,ρ,d',b,s,r,e,q⟩:=h;cases e
 exact q.one s (i B)
theorem ag (i:Nat)(hN:X.N[i]? = some x:=by rfl)(hv:ET X.env.scope x:=by first|exact Or.inl rfl|exact Or.inr (Or.inl rfl)|exact Or.inr (Or.inr rfl))(hd:(x == ("__debug__" : Str))=false:=by decide)
  (j9:(x == ("__classdict__" : Str))=false:=by decide):JE X (.Name x pos) (ai i):=PE.to (lG hN hv hd j9) λ_ _ _ h=>Nd h
theorem av:JE X (.Constant (.int i) j pos) (fC (.int i)):=PE.to Mt λ_ _ _ h=>Fy (λ_=>.int i) h
theorem hW:JE X (.Constant (.bool i) j pos) (fC (.bl i)):=PE.to P6 λ_ _ _ h=>Fy (λ_=>.bl i) h
theorem dG:JE X (.Constant .none j pos) (fC .non):=PE.to Mu λ_ _ _ h=>Fy (λ_=>.non) h
theorem aB:JE X (.Constant (.str x) j pos) (fC (.str x)):=PE.to Mv λ_ _ _ h=>Fy (λ_=>.str x) h
theorem IV (hg:Gl X x)(hm:X.mg x=some u)(r:ba v u)(i:∀B,Is X.K B v d)(hd:(x == ("__debug__" : Str))=false:=by decide):JE X (.Name x pos) (fC d):=PE.to (BA hg hm r hd) λ_ _ _ h=>Fy i h
theorem ax (ho:dN X (binaryOp op) (rD X.K f))(ha:JE X a fa)(hb:JE X b fb):JE X (.BinOp a op b pos) (f2 f fa fb):=PE.to (KP ho ha hb) λ_ _ _ h=>II h
theorem Ld (ho:PU X (unaryOp op) (To X.K f))(ha:JE X a fa):JE X (.UnaryOp op a pos) (f1 f fa):=PE.to (PV ho ha) λ_ _ _ h=>Tp h
theorem cQ (ho:dN X (compareOp op) (rD X.K f))(ha:JE X a fa)(hb:JE X b fb)(hm:behindInMarks op b=false:=by first|exact ji _ (by decide) (by decide)|rfl):JE X (.Compare a [op] [b] pos) (f2 f fa fb):=PE.to (Iq ho ha hb hm) λ_ _ _ h=>II h
theorem A2 {K:Frag}{f:FE}{σ:St}{H:Hp}{Q:Bool->Hp->Prop}(h:D3 K (br f) σ H Q):tD K f σ H λx H'=>∃k,x=.bl k/\Q k H':=by
 obtain⟨B,ρ,c,s,r,e,q⟩:=h;unfold br at e;split at e
 ·rename_i c' b' ef;cases e
  refine⟨B,ρ,.bl c,b',s,r,ef,λv H' N x i _=>?_⟩;cases i
  exact⟨c,rfl,q H' x.hh⟩
 ·cases e
theorem aL (ho:dN X (compareOp op) (rD X.K f))(ha:JE X a fa)(hb:JE X b fb)(hm:behindInMarks op b=false:=by first|exact ji _ (by decide) (by decide)|rfl):JT X (.Compare a [op] [b] pos) (br (f2 f fa fb)) :=
 PT.to (Ir ho ha hb hm) λ_ _ _ h=>II (A2 h)
theorem cr (h:JE X e f)(he:∀sD,isTrue e X.env sD=(do let v ←sD;standAt e.pos;holding [v] (truthy v)):=by intro _;rfl):JT X e (br f):=PT.to (Mz h he) λ_ _ _ q=>A2 q
@[simp] noncomputable def nE (f g:D->D->OB)(fa fb fc:FE):FE:=λρ=>(fa ρ).bind λx=>(fb ρ).bind λy=>match f x.1 y.1 with
 |some (.bl true,_)=>(fc ρ).bind λz=>g y.1 z.1
 |some (.bl false,_)=>some (.bl false,false)
 |_=>none
theorem Fz {K:Frag}{f g:D->D->OB}{fa fb fc:FE}{σ:St}{H:Hp}{Q:VK}(h:tD K (nE f g fa fb fc) σ H Q):EZ (rD K f) (rD K g) (tD K fa) (tD K fb) (tD K fc) σ H Q:=by
 obtain⟨B,ρ,d,b,s,r,e,q⟩:=h;obtain⟨x,ex,e⟩:=oX e;obtain⟨y,ey,e⟩:=oX e;refine⟨B,ρ,x.1,x.2,s,r,ex,λv H1 N1 x1 i1 _=>⟨N1,ρ,y.1,y.2,x1.nh,r.mono x1.bn,ey,λv2 H2 N2 x2 i2 _=>?_⟩⟩;split at e
 ·rename_i b' ef;obtain⟨z,ez,e⟩:=oX e;refine⟨N2,x.1,y.1,.bl true,b',x2.nh,i1.mono x2.bn,i2,ef,λv3 H3 N3 x3 i3 _=>?_⟩;cases i3
  refine⟨true,rfl,?_⟩;rw[if_pos rfl];refine⟨N3,ρ,z.1,z.2,x3.nh,r.mono (x1.bn.trans (x2.bn.trans x3.bn)),ez,λv4 H4 N4 x4 i4 _=>⟨N4,y.1,z.1,d,b,x4.nh,i2.mono (x3.bn.trans x4.bn),i4,e,?_⟩⟩;exact q.into ((x1.trans x2).trans (x3.trans x4))
 ·rename_i b' ef;cases e
  refine⟨N2,x.1,y.1,.bl false,b',x2.nh,i1.mono x2.bn,i2,ef,λv3 H3 N3 x3 i3 _=>?_⟩;cases i3
  refine⟨false,rfl,?_⟩;rw[if_neg (by decide)];exact(q.into ((x1.trans x2).trans x3)).one x3.nh (.bl false)
 ·cases e
theorem F0 (ho:dN X (compareOp op) (rD X.K f))(t6:dN X (compareOp Ph) (rD X.K g))(ha:JE X a fa)(hb:JE X b fb)(hc:JE X c fc)
  (hm:lastMarks [op,Ph] [b,c]=false:=by with_unfolding_all rfl):JE X (.Compare a [op,Ph] [b,c] pos) (nE f g fa fb fc):=PE.to (Fa ho t6 ha hb hc hm) λ_ _ _ h=>Fz h
theorem IW {K:Frag}{f g:FT}{σ:St}{H:Hp}{Q:Bool->Hp->Prop}(h:D3 K (dO f g) σ H Q):P8 (D3 K f) (D3 K g) σ H Q:=by
 obtain⟨B,ρ,c,s,r,e,q⟩:=h;unfold dO at e;cases ef:f ρ with
 |none=>rw[ef]at e;cases e
 |some k=>
  rw[ef]at e;refine⟨B,ρ,k,s,r,ef,λH1 h1=>?_⟩;cases k with
  |true=>rw[if_pos rfl];exact⟨B,ρ,c,s.trans h1,r,e,λH2 h2=>q H2 (h1.trans h2)⟩
  |false=>rw[if_neg (by decide)];cases e;exact q H1 h1
theorem Ni {K:Frag}{f g:FT}{σ:St}{H:Hp}{Q:Bool->Hp->Prop}(h:D3 K (kg f g) σ H Q):Vq (D3 K f) (D3 K g) σ H Q:=by
 obtain⟨B,ρ,c,s,r,e,q⟩:=h;unfold kg at e;cases ef:f ρ with
 |none=>rw[ef]at e;cases e
 |some k=>
  rw[ef]at e;refine⟨B,ρ,k,s,r,ef,λH1 h1=>?_⟩;cases k with
  |false=>rw[if_neg (by decide)];exact⟨B,ρ,c,s.trans h1,r,e,λH2 h2=>q H2 (h1.trans h2)⟩
  |true=>rw[if_pos rfl];cases e;exact q H1 h1
theorem IX {K:Frag}{f:FT}{σ:St}{H:Hp}{Q:Bool->Hp->Prop}(h:D3 K (fQ f) σ H Q):P9 (D3 K f) σ H Q:=by
 obtain⟨B,ρ,c,s,r,e,q⟩:=h;obtain⟨k,ek,e⟩:=oY e;subst e;exact⟨B,ρ,k,s,r,ek,λH1 h1=>q H1 h1⟩
variable {aD:List Expr}
theorem gQ (ha:JT X a f):JW X (.BoolOp .And [a] pos) f:=Ih ha
theorem lI (ha:JT X a f):JW X (.BoolOp .Or [a] pos) f:=M0 ha
theorem jB (ha:JT X a f)(hb:JW X (.BoolOp .And (b::aD) pos) g):JW X (.BoolOp .And (a::b::aD) pos) (dO f g):=PW.to (M2 ha hb) λ_ _ _ h=>IW h
theorem mw (ha:JT X a f)(hb:JW X (.BoolOp .Or (b::aD) pos) g):JW X (.BoolOp .Or (a::b::aD) pos) (kg f g):=PW.to (PB ha hb) λ_ _ _ h=>Ni h
theorem lm (h:JW X e f):JT X e f:=h.pt
theorem hZ (ha:JT X a f):JT X (.UnaryOp .Not a pos) (fQ f):=PT.to (M3 ha) λ_ _ _ h=>IX h
@[simp] noncomputable def ln (f g:FE):FE:=λρ=>match f ρ with|some (.bl true,_)=>g ρ|some (.bl false,_)=>some (.bl false,false)|_=>none
@[simp] noncomputable def Nj (f g:FE):FE:=λρ=>match f ρ with|some (.bl true,_)=>some (.bl true,false)|some (.bl false,_)=>g ρ|_=>none
@[simp] noncomputable def Xn (f:FE):FE:=λρ=>match f ρ with|some (.bl c,_)=>some (.bl (!c),false)|_=>none
theorem ia (ha:JE X a f)(hb:JE X (.BoolOp .And (b::aD) pos) g):JE X (.BoolOp .And (a::b::aD) pos) (ln f g):=PE.to (M5 ha hb) λσ H Q h=>by
 obtain⟨B,ρ,d,k,s,r,e,q⟩:=h;unfold ln at e;split at e
 ·rename_i b' ef;refine⟨B,ρ,_,_,s,r,ef,λv H1 N1 x1 i1 _=>?_⟩;cases i1
  refine⟨true,rfl,?_⟩;rw[if_pos rfl];exact⟨N1,ρ,d,k,x1.nh,r.mono x1.bn,e,q.into x1⟩
 ·rename_i b' ef;cases e
  refine⟨B,ρ,_,_,s,r,ef,λv H1 N1 x1 i1 _=>?_⟩;cases i1
  refine⟨false,rfl,?_⟩;rw[if_neg (by decide)];exact(q.into x1).one x1.nh (.bl false)
 ·cases e
theorem F3 (ha:JE X a f)(hb:JE X (.BoolOp .Or (b::aD) pos) g):JE X (.BoolOp .Or (a::b::aD) pos) (Nj f g):=PE.to (PF ha hb) λσ H Q h=>by
 obtain⟨B,ρ,d,k,s,r,e,q⟩:=h;unfold Nj at e;split at e
 ·rename_i b' ef;cases e
  refine⟨B,ρ,_,_,s,r,ef,λv H1 N1 x1 i1 _=>?_⟩;cases i1
  refine⟨true,rfl,?_⟩;rw[if_pos rfl];exact(q.into x1).one x1.nh (.bl true)
 ·rename_i b' ef;refine⟨B,ρ,_,_,s,r,ef,λv H1 N1 x1 i1 _=>?_⟩;cases i1
  refine⟨false,rfl,?_⟩;rw[if_neg (by decide)];exact⟨N1,ρ,d,k,x1.nh,r.mono x1.bn,e,q.into x1⟩
 ·cases e
theorem fU (h:JE X a f):JE X (.BoolOp op [a] pos) f:=M4 h
variable {es:List Expr}
theorem am:JA X [] aj:=PA.to kn λ_ _ _ h=>IK h
theorem ah (ha:JE X e f)(hr:JA X es g)(hs:starEach (e::es) X.env=(false,eval e X.env)::starEach es X.env:=by rfl):JA X (e::es) (af f g):=PA.to (iN ha hr hs) λ_ _ _ h=>Fp h
@[simp] noncomputable def aP:List D->OB:=λds=>if ds.length<=sizeLine then some (.tup ds,false)else none
@[simp] noncomputable def bL:List D->OB:=λds=>if ds.length<=sizeLine then some (.lst ds,true)else none
theorem aM {x1}(h:JA X es f):JE X (.Tuple es x1 pos) (fA aP f):=PE.to (Ap h) λσ H Q q=>by
 obtain⟨B,ρ,ds,s,r,e,k⟩:=IJ q;refine⟨B,ρ,ds,s,r,e,λvs H1 N1 x1 i1=>?_⟩;obtain⟨B2,Wh,d,b,s2,i2,e2,k2⟩:=k vs H1 N1 x1 i1;unfold aP at e2;split at e2
 ·rename_i hz;cases e2
  refine⟨by rw[i2.length];exact hz,λp hp=>k2 _ _ (upd B2 p (.tup vs)) (.laid s2 hp) (.tup (jj.of aC) (i2.mono (Ext.laid s2 hp).bn)) (by simp)⟩
 ·cases e2
theorem bM (h:JA X es f):JE X (.List es pos) (fA bL f):=PE.to (MP h) λσ H Q q=>by
 obtain⟨B,ρ,ds,s,r,e,k⟩:=IJ q;refine⟨B,ρ,ds,s,r,e,λvs H1 N1 x1 i1=>?_⟩;obtain⟨B2,Wh,d,b,s2,i2,e2,k2⟩:=k vs H1 N1 x1 i1;unfold bL at e2;split at e2
 ·rename_i hz;cases e2
  refine⟨by rw[i2.length];exact hz,λp hp=>k2 _ _ (upd B2 p (.lst vs)) (.laid s2 hp) (.lst (hU.of aC) (i2.mono (Ext.laid s2 hp).bn)) λ_=>⟨p,vs,Wh,rfl,rfl,hp,aC,i2.mono (Ext.laid s2 hp).bn⟩⟩
 ·cases e2
end
section
variable {X:Cx}
theorem iY (h:dN X f r)(k:∀x y H Q,r' x y H Q->r x y H Q):dN X f r':=λae s σ H x y v u Q I rx ry q=>h ae s σ H x y v u Q I rx ry (k x y H Q q)
noncomputable def EK (f g:D->D->OB):D->D->OB:=λx y=>match f x y with|some r=>some r|none=>g x y
theorem nF (h:dN X s (rD X.K f))(h':dN X s (rD X.K g)):dN X s (rD X.K (EK f g)):=by
 intro ae st σ H x y v u Q I rx ry q;obtain⟨B,dx,dy,d,b,sB,ix,iy,e,q⟩:=q;unfold EK at e;split at e
 ·rename_i r ef;cases e
  exact h ae st σ H x y v u Q I rx ry ⟨B,dx,dy,_,_,sB,ix,iy,ef,q⟩
 ·exact h' ae st σ H x y v u Q I rx ry ⟨B,dx,dy,_,_,sB,ix,iy,e,q⟩
@[simp] noncomputable def Aa (C:Int->Int->Bool)(g:Int->Int->D):D->D->OB
 |.int i,.int j=>if C i j=true then some (g i j,false)else none
 |_,_=>none
theorem wz (h:dN X s (rI C g))(hC:∀i j,C' i j=true->C i j)(hg:∀i j B,Is X.K B (g i j) (g' i j)):dN X s (rD X.K (Aa C' g')):=by
 refine iY h λx y H Q q=>?_;obtain⟨B,dx,dy,d,b,sB,ix,iy,e,q⟩:=q;cases ix<;>try (cases e;done)
 cases iy<;>try (cases e;done)
 rename_i i j;simp only[Aa]at e;split at e
 ·rename_i hc;cases e
  exact⟨i,j,rfl,rfl,hC i j hc,q.one sB (hg i j B)⟩
 ·cases e
theorem ib (h:dN X s (HP g))(hg:∀i j B,Is X.K B (g i j) (g' i j)):dN X s (rD X.K (Aa (λ_ _=>true) g')):=by
 refine iY h λx y H Q q=>?_;obtain⟨B,dx,dy,d,b,sB,ix,iy,e,q⟩:=q;cases ix<;>try (cases e;done)
 cases iy<;>try (cases e;done)
 rename_i i j;simp only[Aa,if_true]at e;cases e
 exact⟨i,j,rfl,rfl,q.one sB (hg i j B)⟩
abbrev Nk:D->D->OB:=Aa (λ_ _=>true) λi j=>.int (i+j)
abbrev A3:D->D->OB:=Aa (λ_ _=>true) λi j=>.int (i - j)
abbrev Nl:D->D->OB:=Aa (λi j=>decide ((-18446744073709551616<i/\i<18446744073709551616)∨(-18446744073709551616<j/\j<18446744073709551616))) λi j=>.int (i*j)
abbrev cU:D->D->OB:=Aa (λ_ j=>decide (0<j/\j<1073741824)) λi j=>.int (i / j)
abbrev bE:D->D->OB:=Aa (λ_ j=>decide (0<j)) λi j=>.int (i % j)
abbrev Qt:D->D->OB:=Aa (λ_ _=>true) λi j=>.int (Builtin.bitAnd i j)
abbrev V3:D->D->OB:=Aa (λ_ _=>true) λi j=>.bl (decide (i<j))
abbrev Tq:D->D->OB:=Aa (λ_ _=>true) λi j=>.bl (decide (i<=j))
abbrev HS:D->D->OB:=Aa (λ_ _=>true) λi j=>.bl (decide (j<i))
abbrev Tr:D->D->OB:=Aa (λ_ _=>true) λi j=>.bl (decide (j<=i))
theorem Qu:dN X (binaryOp .Add) (rD X.K Nk):=ib MG λ_ _ _=>.int _
theorem F4:dN X (binaryOp .Sub) (rD X.K A3):=ib MH λ_ _ _=>.int _
theorem Qv:dN X (binaryOp .Mult) (rD X.K Nl):=wz MI (λi j h=>by have h:=of_decide_eq_true h;unfold Io;omega) λ_ _ _=>.int _
theorem bN:dN X (binaryOp .FloorDiv) (rD X.K cU):=wz Ip (λi j h=>by have h:=of_decide_eq_true h;unfold PX;omega) λ_ _ _=>.int _
theorem bD:dN X (binaryOp .Mod) (rD X.K bE):=wz MJ (λ_ _ h=>of_decide_eq_true h) λ_ _ _=>.int _
theorem Qw:dN X (binaryOp .BitAnd) (rD X.K Qt):=ib ML λ_ _ _=>.int _
theorem Ts:dN X (compareOp .Lt) (rD X.K V3):=ib PY λ_ _ _=>.bl _
theorem Tt:dN X (compareOp .LtE) (rD X.K Tq):=ib PZ λ_ _ _=>.bl _
theorem F5:dN X (compareOp .Gt) (rD X.K HS):=ib Qa λ_ _ _=>.bl _
theorem Tu:dN X (compareOp .GtE) (rD X.K Tr):=ib Qb λ_ _ _=>.bl _
@[simp] noncomputable def OS (C:Str->Str->Bool)(g:Str->Str->D):D->D->OB
 |.str i,.str j=>if C i j=true then some (g i j,false)else none
 |_,_=>none
abbrev IY:D->D->OB:=OS (λi j=>decide (i.length+j.length<=sizeLine)) λi j=>.str (i++j)
abbrev Sk:D->D->OB:=OS (λ_ _=>true) λi j=>.bl (!decide (j.cps.toList<i.cps.toList))
theorem Nm:dN X (binaryOp .Add) (rD X.K IY):=by
 refine iY An λx y H Q q=>?_;obtain⟨B,dx,dy,d,b,sB,ix,iy,e,q⟩:=q;cases ix<;>try (cases e;done)
 cases iy<;>try (cases e;done)
 rename_i i j;simp only[IY,OS]at e;split at e
 ·rename_i hc;cases e
  exact⟨i,j,rfl,rfl,of_decide_eq_true hc,q.one sB (.str _)⟩
 ·cases e
theorem Qx:dN X (compareOp .LtE) (rD X.K Sk):=by
 intro ae s σ H x y v u Q I rx ry q;obtain⟨B,dx,dy,d,b,sB,ix,iy,e,q⟩:=q;cases ix<;>try (cases e;done)
 cases iy<;>try (cases e;done)
 rename_i i j;simp only[Sk,OS,if_true]at e;cases e
 obtain⟨t,rfl⟩:=rx;obtain⟨t',rfl⟩:=ry;exact PySem.P.le_str ⟨.bl _,H,I,rfl,q.one sB (.bl _)⟩
end
section
variable {X:Cx}{a b c e:Expr}{pos:Pos}{st:Stmt}{aD:List Stmt}
theorem eU:xz X [] bp:=vz.to Ii λ_ _ _ h=>Fs h
theorem ao (h1:JS X st g)(h2:xz X aD h):xz X (st::aD) (a8 g h):=vz.to (EV h1 h2) λ_ _ _ q=>IL q
theorem bv (h1:JS X st g):xz X [st] g:=Ij h1
theorem fE {c:Expr}{a b:List Stmt}{fc:FT}{g h:FS}(hc:JT X c fc)(ha:xz X a g)(hb:xz X b h):JS X (.If c a b pos) (eM fc g h):=PS.to (PM hc ha hb) λ_ _ _ q=>Nf q
theorem F6 (he:JE X e f):JS X (.Return (some e) pos) (bc f):=PS.to (EW he) λ_ _ _ q=>IM q
theorem mz (i:Nat)(hN:X.N[i]? = some x:=by rfl)(hv:ET X.env.scope x:=by first|exact Or.inl rfl|exact Or.inr (Or.inl rfl)|exact Or.inr (Or.inr rfl))(hd:(x == ("__debug__" : Str))=false:=by decide)
  (j9:(x == ("__classdict__" : Str))=false:=by decide):JS X (.Return (some (.Name x p)) pos) (jT i):=PS.to (EW (lG hN hv hd j9)) λ_ _ _ q=>Ft q
theorem a9 (hN:X.N.Nodup)(he:JE X e f)(hi:X.N[i]? = some x:=by rfl)(hx:HN X.env.scope x:=by first|exact Or.inl rfl|exact Or.inr rfl)(hs:swapsWith e (some (.Name x p)) pos.line X.env=pure false:=by rfl)
  (hf:X.fn x=true∨X.env.scope.names.lookup x=some .local:=by first|exact .inl rfl|exact .inr rfl):JS X (.Assign [.Name x p] e pos) (aN i f):=PS.to (wb hN hi hx he hs hf) λ_ _ _ q=>BG q
theorem IZ (hN:X.N.Nodup)(he:JE X e f)(hi:X.N[i]? = some x:=by rfl)(hx:HN X.env.scope x:=by first|exact Or.inl rfl|exact Or.inr rfl)(hs:swapsWith e (some (.Name x p)) pos.line X.env=pure false:=by rfl)
  (hf:X.fn x=true∨X.env.scope.names.lookup x=some .local:=by first|exact .inl rfl|exact .inr rfl):JS X (.Assign [.Name x p] e pos) (xQ i f):=PS.to (wb hN hi hx he hs hf) λ_ _ _ q=>Fu q
theorem Nn (hp:PassesOwn (model X.prog X.w) X.A X.env X.xe)(hc:X.calm=true)(hi:JI X tg dc fi)(hg:PG X tg t)(ht:IP X.K pK t)(hb:xz X body g)
  (hs:∀x,foldedSetIterable dc X.env x=pure x:=by intro _;rfl):JS X (.For tg dc body [] pos) (pT fi pK g):=PS.to (EY hp hc hi hg hb hs) λ_ _ _ q=>IQ ht q
theorem Ja (hp:PassesOwn (model X.prog X.w) X.A X.env X.xe)(hc:X.calm=true)(hi:PI X tg dc (Sj X.K fi))(hg:PG X tg t)(ht:IP X.K pK t)(hb:xz X body g)
  (hs:∀x,foldedSetIterable dc X.env x=pure x:=by intro _;rfl):JS X (.For tg dc body [] pos) (o7 fi pK g):=PS.to (EY hp hc hi hg hb hs) λ_ _ _ q=>Fx ht q
theorem iZ (he:JE X e f)(hN:X.N[i]? = some x:=by rfl)(hv:ET X.env.scope x:=by first|exact Or.inl rfl|exact Or.inr (Or.inl rfl)|exact Or.inr (Or.inr rfl))(hd:(x == ("__debug__" : Str))=false:=by decide)
  (j9:(x == ("__classdict__" : Str))=false:=by decide)
  (iG:attributeBase (.Name x p) "append" X.env (eval (.Name x p) X.env)=eval (.Name x p) X.env:=by rfl)
  (B4:((backTo cH (starEach [e] X.env)).all (λx=>!x.1) && (backToKw cH (keywordEach [] X.env)).all (λx=>x.1.isSome)
   && decide ([e].length+([]:List Keyword).length+(if([]:List Keyword).isEmpty then 0 else 1)<30))=true:=by rfl)
  (iH:(dI.endLine == cH.line)=true:=by rfl) (hs:starEach [e] X.env=[(false,eval e X.env)]:=by rfl) (R0:swapsWith (.Call (.Attribute (.Name x p) "append" dI) [e] [] cH) none pos.line X.env=pure false:=by rfl):
  JS X (.Expr (.Call (.Attribute (.Name x p) "append" dI) [e] [] cH) pos) (kx i f):=by
 refine PS.to (Ik (Fg PySem.F.plainAttrs_list PySem.F.slot_list_append PySem.F.type_list_append tO (lG hN hv hd j9) (iN he kn hs) iG B4 iH hs rfl) R0) λE σ H q=>?_;obtain⟨a,us,h1,h2,k⟩:=IN q;exact⟨_,h1,.inl ⟨rfl,us,hU.of h2⟩,k⟩
end
@[simp] noncomputable def aO (g:FS)(n k:Nat):List D->OB:=λds=>if ds.length=n then
 match g (ds.map (λd=>some (d,false))++List.replicate k none) with
 |some (.rt d b)=>some (d,b)
 |some (.nx _)=>some (.non,false)
 |_=>none
 else none
def Jb (K:Frag)(f:List D->OB):Sp:=λvs H Q _=>∃(B:Hp)(ds:List D)(d:D)(b:Bool),(aX B H/\Tb K B)/\IsL K B vs ds/\f ds=some (d,b)/\Fin K B H d b Q
theorem xT {K:Frag}{B H:Hp}{vs:List V}{ds:List D}{N:List Str}(sB:aX B H)(tb:Tb K B)(i:IsL K B vs ds):eI K B H B H (L2.jS N vs) (ds.map (λd=>some (d,false))++List.replicate (N.length - vs.length) none):=by
 have nf:∀(j:Nat)(d:D)(b:Bool),(ds.map (λd=>some (d,false))++List.replicate (N.length - vs.length) none:Env)[j]? = some (some (d,b))->b=false/\ds[j]? = some d:=λj d b e=>by
  by_cases hj:j<ds.length
  ·rw[List.getElem?_append_left (by simpa using hj),vA]at e;obtain⟨d',h1,h2⟩:=oY e;cases h2
   exact⟨rfl,h1⟩
  ·rw[List.getElem?_append_right (by simpa using Nat.not_lt.mp hj),List.getElem?_replicate]at e;split at e<;>cases e
 have no:∀a,¬own (L2.jS N vs) (ds.map (λd=>some (d,false))++List.replicate (N.length - vs.length) none) a:=λa ⟨j,d,h,_⟩=>by
  obtain⟨z,_⟩:=nf j d true h;cases z
 refine⟨sB,tb,.refl sB,?_,λj d e=>?_,λj d e=>?_,λj k a d e h=>?_⟩
 ·unfold L2.jS;rw[uZ,uZ,vI,vI,List.length_replicate,List.length_replicate,i.length]
 ·obtain⟨_,e1⟩:=nf j d false e;obtain⟨v,h1,h2⟩:=i.get e1;refine⟨v,?_,h2.mono λa o e=>by rw[cS (no a)];exact e⟩;unfold L2.jS;have hj:j<vs.length:=(vV h1).1;rw[List.getElem?_append_left (by simpa using hj),vA,h1]<;>rfl
 ·obtain⟨z,_⟩:=nf j d true e;cases z
 ·obtain⟨z,_⟩:=nf j d true h;cases z
section
variable {P:Program}{w:World}{K:Frag}{mg:Str->Option Value}{base:Heap}
theorem Qy {x qual:Str}{st:Stmt}{f:Addr}{fd:FuncData}{N ps:List Str}{k:Nat}{g:FS}(F:Ou K x qual st f fd)(S:FnScope N ps (aS st))
  (hb:∀(eJ:Value)(A:Around)(outer:List PySem.Env)(s:Shared)(H:Hp)(E:XK),eP k (A.deeper (envOfC qual (aS st) s.heap.objs.size f eJ))->xz (pj zZ P w K mg base N qual (aS st) f eJ A outer s H E).nox (cL st) g):
  t7 P w K mg base zZ (k+1) f fd ps (Jb K (aO g ps.length (N.length - ps.length))):=by
 have len:∀vs H Q E,Jb K (aO g ps.length (N.length - ps.length)) vs H Q E->vs.length=ps.length:=λvs H Q E h=>by
  obtain⟨B,ds,d,b,sB,i,e,q⟩:=h;unfold aO at e;split at e
  ·rename_i hl;rw[i.length];exact hl
  ·cases e
 refine F.ok S len λeJ A outer s H vs Q E hr h=>⟨_,hb eJ A outer s H E hr,?_⟩;have bB:=len vs H Q E h;obtain⟨B,ds,d,b,sB,i,e,q⟩:=h;unfold aO at e;rw[if_pos (by rw[←i.length];exact bB)]at e;have s0:=xT (N:=N) sB.1 sB.2 i;rw[bB]at s0;split at e
 ·rename_i d' b' eg;cases e
  exact⟨B,H,_,_,⟨B,s0⟩,eg,λv H' N' x' i' f'=>q v H' N' x' i' f'⟩
 ·rename_i ρ' eg;cases e
  exact⟨B,H,_,_,⟨B,s0⟩,eg,λσ' H' ⟨N',s'⟩=>q .non H' N' s'.ext .non (by simp)⟩
 ·cases e
structure Fn (P:Program)(w:World)(K:Frag)(mg:Str->Option Value)(base:Heap)(k:Nat)(x:Str)(f:List D->OB):Prop where
 ex:∃(ad:Addr)(fd:FuncData)(ps:List Str),t7 P w K mg base zZ k ad fd ps (Jb K f)/\mg x=some (.ref ad)/\PySem.W.keepIn K (.ref ad)=true/\tH K fd ps []
end
theorem BH (F:Fn X.prog X.w X.K X.mg X.base k x f)(hr:eP k X.A)(ha:JA X (e::es) fa)(hg:Gl X x:=by rfl)
  (t9:(x == ("__debug__" : Str))=false:=by decide) (he:starEach (e::es) X.env=(false,eval e X.env)::starEach es X.env:=by rfl) (lE:(backTo pos (starEach es X.env)).any (·.1)=false:=by rfl):
  JE X (.Call (.Name x p) (e::es) [] pos) (fA f fa):=by
 obtain⟨ad,fd,ps,F1,hm,hk,hb⟩:=F.ex;refine PE.to (Iv F1 hr hg hm hk hb .nil Ql ha t9 he lE) λσ H Q q=>?_;obtain⟨B,ρ,d,b,s,r,e,q⟩:=q;obtain⟨ds,ex,e⟩:=oX e;exact⟨B,ρ,ds,s,r,ex,λvs H1 N1 x1 i1=>by
  show Jb X.K f (vs++[]) H1 Q _;rw[uQ];exact⟨N1,ds,d,b,⟨x1.nh,r.tb.mono x1.bn⟩,i1,e,q.into x1⟩⟩
mutual
def bz:D->D->Bool
 |.non,.non=>true
 |.bl a,.bl b=>a == b
 |.bl a,.int b=>decide ((if a then 1 else 0)=b)
 |.int a,.bl b=>decide (a=(if b then 1 else 0))
 |.int a,.int b=>decide (a=b)
 |.str a,.str b=>decide (a=b)
 |.tup xs,.tup ys=>dn xs ys
 |.lst xs,.lst ys=>dn xs ys
 |_,_=>false
def dn:List D->List D->Bool
 |[],[]=>true
 |x::xs,y::ys=>bz x y && dn xs ys
 |_,_=>false
end
@[simp] theorem xU:bz .non .non=true:=by simp only[bz]
@[simp] theorem A4 (b:Bool):bz .non (.bl b)=false:=by simp only[bz]
@[simp] theorem xV (b:Int):bz .non (.int b)=false:=by simp only[bz]
@[simp] theorem xW (b:Str):bz .non (.str b)=false:=by simp only[bz]
@[simp] theorem Le (b:List D):bz .non (.tup b)=false:=by simp only[bz]
@[simp] theorem Lf (b:List D):bz .non (.lst b)=false:=by simp only[bz]
@[simp] theorem A5 (a:Bool):bz (.bl a) .non=false:=by simp only[bz]
@[simp] theorem D7 (a:Bool)(b:Bool):bz (.bl a) (.bl b)=(a == b):=by simp only[bz]
@[simp] theorem A6 (a:Bool)(b:Int):bz (.bl a) (.int b)=decide ((if a then 1 else 0)=b):=by simp only[bz]
@[simp] theorem A7 (a:Bool)(b:Str):bz (.bl a) (.str b)=false:=by simp only[bz]
@[simp] theorem No (a:Bool)(b:List D):bz (.bl a) (.tup b)=false:=by simp only[bz]
@[simp] theorem Np (a:Bool)(b:List D):bz (.bl a) (.lst b)=false:=by simp only[bz]
@[simp] theorem xX (a:Int):bz (.int a) .non=false:=by simp only[bz]
@[simp] theorem A8 (a:Int)(b:Bool):bz (.int a) (.bl b)=decide (a=(if b then 1 else 0)):=by simp only[bz]
@[simp] theorem xY (a:Int)(b:Int):bz (.int a) (.int b)=decide (a=b):=by simp only[bz]
@[simp] theorem xZ (a:Int)(b:Str):bz (.int a) (.str b)=false:=by simp only[bz]
@[simp] theorem Lg (a:Int)(b:List D):bz (.int a) (.tup b)=false:=by simp only[bz]
@[simp] theorem Lh (a:Int)(b:List D):bz (.int a) (.lst b)=false:=by simp only[bz]
@[simp] theorem ya (a:Str):bz (.str a) .non=false:=by simp only[bz]
@[simp] theorem A9 (a:Str)(b:Bool):bz (.str a) (.bl b)=false:=by simp only[bz]
@[simp] theorem yc (a:Str)(b:Int):bz (.str a) (.int b)=false:=by simp only[bz]
@[simp] theorem o8 (a:Str)(b:Str):bz (.str a) (.str b)=decide (a=b):=by simp only[bz]
@[simp] theorem Li (a:Str)(b:List D):bz (.str a) (.tup b)=false:=by simp only[bz]
@[simp] theorem Lj (a:Str)(b:List D):bz (.str a) (.lst b)=false:=by simp only[bz]
@[simp] theorem Lk (a:List D):bz (.tup a) .non=false:=by simp only[bz]
@[simp] theorem Nq (a:List D)(b:Bool):bz (.tup a) (.bl b)=false:=by simp only[bz]
@[simp] theorem Ll (a:List D)(b:Int):bz (.tup a) (.int b)=false:=by simp only[bz]
@[simp] theorem Lm (a:List D)(b:Str):bz (.tup a) (.str b)=false:=by simp only[bz]
@[simp] theorem Ln (a:List D)(b:List D):bz (.tup a) (.tup b)=dn a b:=by simp only[bz]
@[simp] theorem Lo (a:List D)(b:List D):bz (.tup a) (.lst b)=false:=by simp only[bz]
@[simp] theorem Lp (a:List D):bz (.lst a) .non=false:=by simp only[bz]
@[simp] theorem Nr (a:List D)(b:Bool):bz (.lst a) (.bl b)=false:=by simp only[bz]
@[simp] theorem Lq (a:List D)(b:Int):bz (.lst a) (.int b)=false:=by simp only[bz]
@[simp] theorem Lr (a:List D)(b:Str):bz (.lst a) (.str b)=false:=by simp only[bz]
@[simp] theorem Ls (a:List D)(b:List D):bz (.lst a) (.tup b)=false:=by simp only[bz]
@[simp] theorem Lu (a:List D)(b:List D):bz (.lst a) (.lst b)=dn a b:=by simp only[bz]
@[simp] theorem Qz:dn [] []=true:=by rw[dn]
@[simp] theorem OT (x y:D)(xs ys:List D):dn (x::xs) (y::ys)=(bz x y && dn xs ys):=by rw[dn]
@[simp] theorem Sl (y:D)(ys:List D):dn [] (y::ys)=false:=by simp only[dn]
@[simp] theorem Sm (x:D)(xs:List D):dn (x::xs) []=false:=by simp only[dn]
noncomputable def aq:Nat->D->Bool
 |_,.non=>true
 |_,.bl _=>true
 |_,.int _=>true
 |_,.str _=>true
 |_,.ty _=>false
 |_,.dk _ _=>false
 |_,.dt _ _=>false
 |0,.tup _=>false
 |0,.lst _=>false
 |n+1,.tup ds=>ds.all (aq n)
 |n+1,.lst ds=>ds.all (aq n)
@[simp] theorem Nt (n:Nat):aq n .non=true:=by cases n<;>simp only[aq]
@[simp] theorem OU (n:Nat)(a:Bool):aq n (.bl a)=true:=by cases n<;>simp only[aq]
@[simp] theorem Nu (n:Nat)(a:Int):aq n (.int a)=true:=by cases n<;>simp only[aq]
@[simp] theorem Nv (n:Nat)(a:Str):aq n (.str a)=true:=by cases n<;>simp only[aq]
@[simp] theorem OV (n:Nat)(ks:List cx)(vs:List D):aq n (.dk ks vs)=false:=by cases n<;>simp only[aq]
@[simp] theorem OW (n:Nat)(ks:List (List cx))(vs:List D):aq n (.dt ks vs)=false:=by cases n<;>simp only[aq]
@[simp] theorem Nw (n:Nat)(ds:List D):aq (n+1) (.tup ds)=ds.all (aq n):=by simp only[aq]
@[simp] theorem Nx (n:Nat)(ds:List D):aq (n+1) (.lst ds)=ds.all (aq n):=by simp only[aq]
theorem ye:∀ {xs ys:List D},dn xs ys=true->xs.length=ys.length
 |[],[],_=>rfl
 |x::xs,y::ys,h=>by
  simp only[dn,vC]at h;rw[vE,vE,ye h.2]
 |[],_::_,h=>by simp[dn]at h
 |_::_,[],h=>by simp[dn]at h
theorem w4 (h:xs.length≠ys.length):dn xs ys=false:=by
 cases e:dn xs ys with
 |false=>rfl
 |true=>exact absurd (ye e) h
theorem jC (f:Nat->Bool):∀ {xs ys:List D},xs.length=ys.length->(∀(j:Nat) x y,xs[j]? = some x->ys[j]? = some y->f j=bz x y)->(List.range xs.length).all f=dn xs ys
 |[],[],_,_=>by simp[dn]
 |x::xs,y::ys,hl,h=>by
  have e:=jC (λj=>f (j+1)) (xs:=xs) (ys:=ys) (by simpa using hl) λj a b h1 h2=>h (j+1) a b (by simpa using h1) (by simpa using h2);rw[vE,List.range_succ_eq_map,List.all_cons,List.all_map,dn,←h 0 x y rfl rfl,←e];rfl
 |[],_::_,hl,_=>by simp at hl
 |_::_,[],hl,_=>by simp at hl
section
variable {X:Cx}{ae:List (Addr×Obj)}{σ:St}{H:Hp}{s:Shared}
theorem BI (I:Inv X ae σ H s)(h1:jj X.K H a vs)(h2:hU X.K H a ws):False:=by
 obtain⟨its,_,⟨o,e,c,_⟩,_⟩:=I.tuple h1;obtain⟨its',_,⟨o',n',e',c',_⟩,_⟩:=I.list h2;rw[e]at e';cases e';rw[c]at c';injection c' with z;exact absurd z (by decide)
theorem BJ (I:Inv X ae σ H s)(e:s.heap.get? a=some o)(d:o.data=.seq its n):(∀aH ob,H a≠some (.dK aH ob))/\∀aH,H a≠some (.dT aH):=by
 refine⟨λaH ob h=>?_,λaH h=>?_⟩
 ·obtain⟨_,_,_,_,_,o',es,ep,e',_,d',_⟩:=(show cm X.prog X.w H s.heap a (.dK aH ob)from I.hok a _ h);rw[e]at e';cases e';rw[d]at d';cases d'
 ·obtain⟨_,_,_,_,o',es,ep,e',_,d',_⟩:=(show cm X.prog X.w H s.heap a (.dT aH)from I.hok a _ h);rw[e]at e';cases e';rw[d]at d';cases d'
theorem yf (I:Inv X ae σ H s)(h1:jj X.K H a vs):(∀aH ob,H a≠some (.dK aH ob))/\∀aH,H a≠some (.dT aH):=by
 obtain⟨its,_,⟨o,e,c,n,d⟩,_⟩:=I.tuple h1;exact BJ I e d
theorem yg (I:Inv X ae σ H s)(h1:hU X.K H a vs):(∀aH ob,H a≠some (.dK aH ob))/\∀aH,H a≠some (.dT aH):=by
 obtain⟨its,_,p,_⟩:=I.list h1;obtain⟨o,e,c,n,d⟩:=p.isList;exact BJ I e d
theorem BK (I:Inv X ae σ H s):∀(n:Nat){v:V}{d d':D},Is X.K H v d->Is X.K H v d'->aq n d=true->bz d d'=true:=by
 have lists:∀ {p:D->Bool}(ih:∀ {v:V}{d d':D},Is X.K H v d->Is X.K H v d'->p d=true->bz d d'=true) {vs:List V}{ds K7:List D},IsL X.K H vs ds->IsL X.K H vs K7->ds.all p=true->dn ds K7=true:=by
  intro p ih vs;induction vs with
  |nil=>intro ds K7 h h' _;cases h;cases h';simp[dn]
  |cons v vs Yi=>
   intro ds K7 h h' hp;cases h with
   |cons h1 h2=>
    cases h' with
    |cons h3 h4=>
     rw[List.all_cons,vC]at hp;rw[dn,ih h1 h3 hp.1,Yi h2 h4 hp.2];rfl
 intro n;induction n with
 |zero=>
  intro v d d' h h' hp;cases h<;>cases h'<;>first|(simp[aq]at hp;done)|simp[bz]
 |succ n ih=>
  intro v d d' h h' hp;cases h with
  |tup h1 h2=>
   cases h' with
   |tup h3 h4=>
    rw[I.tuple_inj h3 h1]at h4;rw[bz];exact lists ih h2 h4 (by simpa [aq]using hp)
   |lst h3 h4=>exact(BI I h1 h3).elim
   |dk h3 _ _=>exact((yf I h1).1 _ _ h3).elim
   |dt h3 _ _=>exact((yf I h1).2 _ h3).elim
  |lst h1 h2=>
   cases h' with
   |lst h3 h4=>
    rw[I.list_inj h3 h1]at h4;rw[bz];exact lists ih h2 h4 (by simpa [aq]using hp)
   |tup h3 h4=>exact(BI I h3 h1).elim
   |dk h3 _ _=>exact((yg I h1).1 _ _ h3).elim
   |dt h3 _ _=>exact((yg I h1).2 _ h3).elim
  |ty=>simp[aq]at hp
  |dk=>simp[aq]at hp
  |dt=>simp[aq]at hp
  |_=>cases h'<;>simp[bz]
theorem Lv {α:Type}{p:α->Bool}{l:List α}{j:Nat}{x:α}(h:l.all p=true)(e:l[j]? = some x):p x=true:=uR h x (vL e)
theorem yh {A:Around}{p:D->Bool}(ih:∀ {v1 v2:V}{d1 d2:D}{u1 u2:Value},p d1=true->p d2=true->Is X.K H v1 d1->Is X.K H v2 d2->ba v1 u1->ba v2 u2->SeqAt.EqAt A s u1 u2 (bz d1 d2))
  {vs ws:List V}{ds es:List D}{its gJ:List Value}(i1:IsL X.K H vs ds) (i2:IsL X.K H ws es) (r1:aY vs its) (r2:aY ws gJ) (p1:ds.all p=true) (p2:es.all p=true):
  ∀j (h1:j<its.toArray.size) (h2:j<gJ.toArray.size),SeqAt.EqAt A s its.toArray[j] gJ.toArray[j] (bz (ds.getD j .non) (es.getD j .non)):=by
 intro j h1 h2;rw[vH]at h1 h2;have l1:=r1.length;have l2:=r2.length;have l3:=i1.length;have l4:=i2.length;have hv:j<vs.length:=by omega
 have hw:j<ws.length:=by omega
 have hd:j<ds.length:=by omega
 have he:j<es.length:=by omega
 obtain⟨u,e1,q1⟩:=r1.get (i:=j) (x:=vs[j]) (by simp[hv]);obtain⟨u',e2,q2⟩:=r2.get (i:=j) (x:=ws[j]) (by simp[hw]);obtain⟨v,e3,q3⟩:=i1.get (i:=j) (d:=ds[j]) (by simp[hd]);obtain⟨w,e4,q4⟩:=i2.get (i:=j) (d:=es[j]) (by simp[he]);have a1:its.toArray[j]=u:=by have z:=(vV e1).2;simpa using z
 have a2:gJ.toArray[j]=u':=by have z:=(vV e2).2;simpa using z
 have a3:vs[j]=v:=by simpa [hv]using e3
 have a4:ws[j]=w:=by simpa [hw]using e4
 have a5:ds.getD j .non=ds[j]:=by simp[List.getD,hd]
 have a6:es.getD j .non=es[j]:=by simp[List.getD,he]
 rw[a1,a2,a5,a6];exact ih (Lv p1 (j:=j) (by simp[hd])) (Lv p2 (j:=j) (by simp[he])) (a3 ▸ q3) (a4 ▸ q4) q1 q2
theorem w6 {xs ys:List D}(j:Nat)(x y:D)(h1:xs[j]? = some x)(h2:ys[j]? = some y):bz (xs.getD j .non) (ys.getD j .non)=bz x y:=by
 simp[List.getD,h1,h2]
abbrev V4 (A:Around)(s:Shared)(u1 u2:Value)(b:Bool):Prop:=SeqAt.RcAt A s u1 u2 b/\SeqAt.EqAt A s u1 u2 b/\SeqAt.RcNeAt A s u1 u2 (!b)
theorem cn (p1:aq 0 d1=true)(p2:aq 0 d2=true)(i1:Is X.K H v1 d1)(i2:Is X.K H v2 d2)(r1:ba v1 u1)(r2:ba v2 u2):V4 A s u1 u2 (bz d1 d2):=by
 cases i1 with
 |non=>
  cases r1
  cases i2 with
  |non=>
   cases r2
   rw[xU];exact⟨SeqAt.RcAt.none_none,SeqAt.EqAt.same _,SeqAt.RcNeAt.none_none⟩
  |bl b=>
   cases r2
   rw[A4];exact⟨SeqAt.RcAt.none_bool _,SeqAt.EqAt.none_bool _,SeqAt.RcNeAt.none_bool _⟩
  |int b=>
   obtain⟨t',rfl⟩:=r2;rw[xV];exact⟨SeqAt.RcAt.none_int _ _,SeqAt.EqAt.none_int _ _,SeqAt.RcNeAt.none_int _ _⟩
  |str b=>
   obtain⟨t',rfl⟩:=r2;rw[xW];exact⟨SeqAt.RcAt.none_str _ _,SeqAt.EqAt.none_str _ _,SeqAt.RcNeAt.none_str _ _⟩
  |ty=>simp[aq]at p2
  |dk=>simp[aq]at p2
  |dt=>simp[aq]at p2
  |tup=>simp[aq]at p2
  |lst=>simp[aq]at p2
 |bl a=>
  cases r1
  cases i2 with
  |non=>
   cases r2
   rw[A5];exact⟨SeqAt.RcAt.bool_none _,SeqAt.EqAt.bool_none _,SeqAt.RcNeAt.bool_none _⟩
  |bl b=>
   cases r2
   rw[D7];exact⟨SeqAt.RcAt.bool_bool _ _,SeqAt.EqAt.bool_bool _ _,SeqAt.RcNeAt.bool_bool _ _⟩
  |int b=>
   obtain⟨t',rfl⟩:=r2;rw[A6,←Bool.beq_eq_decide_eq];exact⟨SeqAt.RcAt.bool_int _ _ _,SeqAt.EqAt.bool_int _ _ _,SeqAt.RcNeAt.bool_int _ _ _⟩
  |str b=>
   obtain⟨t',rfl⟩:=r2;rw[A7];exact⟨SeqAt.RcAt.bool_str _ _ _,SeqAt.EqAt.bool_str _ _ _,SeqAt.RcNeAt.bool_str _ _ _⟩
  |ty=>simp[aq]at p2
  |dk=>simp[aq]at p2
  |dt=>simp[aq]at p2
  |tup=>simp[aq]at p2
  |lst=>simp[aq]at p2
 |int a=>
  obtain⟨t,rfl⟩:=r1;cases i2 with
  |non=>
   cases r2
   rw[xX];exact⟨SeqAt.RcAt.int_none _ _,SeqAt.EqAt.int_none _ _,SeqAt.RcNeAt.int_none _ _⟩
  |bl b=>
   cases r2
   rw[A8,←Bool.beq_eq_decide_eq];exact⟨SeqAt.RcAt.int_bool _ _ _,SeqAt.EqAt.int_bool _ _ _,SeqAt.RcNeAt.int_bool _ _ _⟩
  |int b=>
   obtain⟨t',rfl⟩:=r2;rw[xY,←Bool.beq_eq_decide_eq];exact⟨SeqAt.RcAt.int_int _ _ _ _,SeqAt.EqAt.int_int _ _ _ _,SeqAt.RcNeAt.int_int _ _ _ _⟩
  |str b=>
   obtain⟨t',rfl⟩:=r2;rw[xZ];exact⟨SeqAt.RcAt.int_str _ _ _ _,SeqAt.EqAt.int_str _ _ _ _,SeqAt.RcNeAt.int_str _ _ _ _⟩
  |ty=>simp[aq]at p2
  |dk=>simp[aq]at p2
  |dt=>simp[aq]at p2
  |tup=>simp[aq]at p2
  |lst=>simp[aq]at p2
 |str a=>
  obtain⟨t,rfl⟩:=r1;cases i2 with
  |non=>
   cases r2
   rw[ya];exact⟨SeqAt.RcAt.str_none _ _,SeqAt.EqAt.str_none _ _,SeqAt.RcNeAt.str_none _ _⟩
  |bl b=>
   cases r2
   rw[A9];exact⟨SeqAt.RcAt.str_bool _ _ _,SeqAt.EqAt.str_bool _ _ _,SeqAt.RcNeAt.str_bool _ _ _⟩
  |int b=>
   obtain⟨t',rfl⟩:=r2;rw[yc];exact⟨SeqAt.RcAt.str_int _ _ _ _,SeqAt.EqAt.str_int _ _ _ _,SeqAt.RcNeAt.str_int _ _ _ _⟩
  |str b=>
   obtain⟨t',rfl⟩:=r2;rw[o8,←Bool.beq_eq_decide_eq];exact⟨SeqAt.RcAt.str_str _ _ _ _,SeqAt.EqAt.str_str _ _ _ _,SeqAt.RcNeAt.str_str _ _ _ _⟩
  |ty=>simp[aq]at p2
  |dk=>simp[aq]at p2
  |dt=>simp[aq]at p2
  |tup=>simp[aq]at p2
  |lst=>simp[aq]at p2
 |ty=>simp[aq]at p1
 |dk=>simp[aq]at p1
 |dt=>simp[aq]at p1
 |tup=>simp[aq]at p1
 |lst=>simp[aq]at p1
theorem Lx (I:Inv X ae σ H s):∀(n:Nat){A:Around}{v1 v2:V}{d1 d2:D}{u1 u2:Value},A.units+n<cLine->aq n d1=true->aq n d2=true->Is X.K H v1 d1->Is X.K H v2 d2->ba v1 u1->ba v2 u2->V4 A s u1 u2 (bz d1 d2):=by
 intro n;induction n with
 |zero=>exact λ_ p1 p2 i1 i2 r1 r2=>cn p1 p2 i1 i2 r1 r2
 |succ n ih=>
  intro A v1 v2 d1 d2 u1 u2 hu p1 p2 i1 i2 r1 r2;have fD:A.units<cLine:=by omega
  have Rr:∀ {v1 v2:V}{d1 d2:D}{u1 u2:Value},aq n d1=true->aq n d2=true->Is X.K H v1 d1->Is X.K H v2 d2->ba v1 u1->ba v2 u2->SeqAt.EqAt A.in1 s u1 u2 (bz d1 d2):=λp1 p2 i1 i2 r1 r2=>(ih (A:=A.in1) (by show A.units+1+n<cLine;omega) p1 p2 i1 i2 r1 r2).2.1;cases i1 with
  |tup h1 k1=>
   cases r1
   obtain⟨its,Ov,t1,z1⟩:=I.tuple h1;have ki:s.heap.IsTuple _ its.toArray:=t1;have q1:=p1;simp only[aq]at q1;cases i2 with
   |tup h2 k2=>
    cases r2
    obtain⟨gJ,Ah,t2,z2⟩:=I.tuple h2;have oz:s.heap.IsTuple _ gJ.toArray:=t2;have q2:=p2;simp only[aq]at q2;rename_i a1 vs ds a2 ws es;have he:=yh (A:=A.in1) (p:=aq n) Rr k1 k2 Ov Ah q1 q2;have R1:((List.range (min its.toArray.size gJ.toArray.size)).all (λj=>bz (ds.getD j .non) (es.getD j .non)) && its.toArray.size == gJ.toArray.size)=bz (.tup ds) (.tup es):=by
     rw[bz,vH,vH,←Ov.length,←Ah.length,k1.length,k2.length];by_cases hl:ds.length=es.length
     ·rw[←hl,Nat.min_self,beq_self_eq_true,Bool.and_true];exact jC _ hl λj x y e1 e2=>w6 j x y e1 e2
     ·rw[w4 hl,beq_eq_false_iff_ne.mpr hl,Bool.and_false]
    have rc:=SeqAt.RcAt.tuples ki oz fD he;have rn:=SeqAt.RcNeAt.tuples ki oz fD he;rw[R1]at rc rn;refine⟨rc,?_,rn⟩;by_cases ha:a1=a2
    ·subst ha;rw[BK I (n+1) (.tup h1 k1) (.tup h2 k2) p1];exact SeqAt.EqAt.same _
    ·exact SeqAt.EqAt.of_refs ha rc
   |lst h2 k2=>
    cases r2
    obtain⟨gJ,Ah,t2,z2⟩:=I.list h2;rw[show bz (.tup _) (.lst _)=false by simp only[bz]];exact⟨SeqAt.RcAt.tuple_list ki t2.isList fD,SeqAt.EqAt.tuple_list ki t2.isList fD,SeqAt.RcNeAt.tuple_list ki t2.isList fD⟩
   |ty=>simp[aq]at p2
   |dk=>simp[aq]at p2
   |dt=>simp[aq]at p2
   |non=>cases r2;simp only[bz];exact⟨SeqAt.RcAt.tuple_none ki fD,SeqAt.EqAt.tuple_none ki fD,SeqAt.RcNeAt.tuple_none ki fD⟩
   |bl=>cases r2;simp only[bz];exact⟨SeqAt.RcAt.tuple_bool _ ki fD,SeqAt.EqAt.tuple_bool _ ki fD,SeqAt.RcNeAt.tuple_bool _ ki fD⟩
   |int=>obtain⟨t,rfl⟩:=r2;simp only[bz];exact⟨SeqAt.RcAt.tuple_int _ _ ki fD,SeqAt.EqAt.tuple_int _ _ ki fD,SeqAt.RcNeAt.tuple_int _ _ ki fD⟩
   |str=>obtain⟨t,rfl⟩:=r2;simp only[bz];exact⟨SeqAt.RcAt.tuple_str _ _ ki fD,SeqAt.EqAt.tuple_str _ _ ki fD,SeqAt.RcNeAt.tuple_str _ _ ki fD⟩
  |lst h1 k1=>
   cases r1
   obtain⟨its,Ov,t1,z1⟩:=I.list h1;have ki:s.heap.IsList _ its.toArray:=t1.isList;have q1:=p1;simp only[aq]at q1;cases i2 with
   |lst h2 k2=>
    cases r2
    obtain⟨gJ,Ah,t2,z2⟩:=I.list h2;have oz:s.heap.IsList _ gJ.toArray:=t2.isList;have q2:=p2;simp only[aq]at q2;rename_i a1 vs ds a2 ws es;have he:=yh (A:=A.in1) (p:=aq n) Rr k1 k2 Ov Ah q1 q2;have both:SeqAt.RcAt A s (.ref a1) (.ref a2) (bz (.lst ds) (.lst es))/\SeqAt.RcNeAt A s (.ref a1) (.ref a2) (!bz (.lst ds) (.lst es)):=by
     by_cases hl:ds.length=es.length
     ·have hs:its.toArray.size=gJ.toArray.size:=by rw[vH,vH,←Ov.length,←Ah.length,k1.length,k2.length];exact hl
      have R1:(List.range its.toArray.size).all (λj=>bz (ds.getD j .non) (es.getD j .non))=bz (.lst ds) (.lst es):=by
       rw[bz,vH,←Ov.length,k1.length];exact jC _ hl λj x y e1 e2=>w6 j x y e1 e2
      have rc:=SeqAt.RcAt.lists ki oz hs fD he;have rn:=SeqAt.RcNeAt.lists ki oz hs fD he;rw[R1]at rc rn;exact⟨rc,rn⟩
     ·have hs:(its.toArray.size != gJ.toArray.size)=true:=by rw[vH,vH,←Ov.length,←Ah.length,k1.length,k2.length];exact bne_iff_ne.mpr hl
      rw[bz,w4 hl];exact⟨SeqAt.RcAt.lists_lengths ki oz hs fD,SeqAt.RcNeAt.lists_lengths ki oz hs fD⟩
    refine⟨both.1,?_,both.2⟩;by_cases ha:a1=a2
    ·subst ha;rw[BK I (n+1) (.lst h1 k1) (.lst h2 k2) p1];exact SeqAt.EqAt.same _
    ·exact SeqAt.EqAt.of_refs ha both.1
   |tup h2 k2=>
    cases r2
    obtain⟨gJ,Ah,t2,z2⟩:=I.tuple h2;have oz:s.heap.IsTuple _ gJ.toArray:=t2;rw[show bz (.lst _) (.tup _)=false by simp only[bz]];exact⟨SeqAt.RcAt.list_tuple ki oz fD,SeqAt.EqAt.list_tuple ki oz fD,SeqAt.RcNeAt.list_tuple ki oz fD⟩
   |ty=>simp[aq]at p2
   |dk=>simp[aq]at p2
   |dt=>simp[aq]at p2
   |non=>cases r2;simp only[bz];exact⟨SeqAt.RcAt.list_none ki fD,SeqAt.EqAt.list_none ki fD,SeqAt.RcNeAt.list_none ki fD⟩
   |bl=>cases r2;simp only[bz];exact⟨SeqAt.RcAt.list_bool _ ki fD,SeqAt.EqAt.list_bool _ ki fD,SeqAt.RcNeAt.list_bool _ ki fD⟩
   |int=>obtain⟨t,rfl⟩:=r2;simp only[bz];exact⟨SeqAt.RcAt.list_int _ _ ki fD,SeqAt.EqAt.list_int _ _ ki fD,SeqAt.RcNeAt.list_int _ _ ki fD⟩
   |str=>obtain⟨t,rfl⟩:=r2;simp only[bz];exact⟨SeqAt.RcAt.list_str _ _ ki fD,SeqAt.EqAt.list_str _ _ ki fD,SeqAt.RcNeAt.list_str _ _ ki fD⟩
  |ty=>simp[aq]at p1
  |dk=>simp[aq]at p1
  |dt=>simp[aq]at p1
  |non=>
   cases i2 with
   |tup h2 k2=>cases r1;cases r2;obtain⟨gJ,Ah,t2,z2⟩:=I.tuple h2;have oz:s.heap.IsTuple _ gJ.toArray:=t2;simp only[bz];exact⟨SeqAt.RcAt.none_tuple oz fD,SeqAt.EqAt.none_tuple oz fD,SeqAt.RcNeAt.none_tuple oz fD⟩
   |lst h2 k2=>cases r1;cases r2;obtain⟨gJ,Ah,t2,z2⟩:=I.list h2;simp only[bz];exact⟨SeqAt.RcAt.none_list t2.isList fD,SeqAt.EqAt.none_list t2.isList fD,SeqAt.RcNeAt.none_list t2.isList fD⟩
   |ty=>simp[aq]at p2
   |dk=>simp[aq]at p2
   |dt=>simp[aq]at p2
   |non=>exact cn (X:=X) (H:=H) (by simp[aq]) (by simp[aq]) .non .non r1 r2
   |bl x=>exact cn (X:=X) (H:=H) (by simp[aq]) (by simp[aq]) .non (.bl x) r1 r2
   |int x=>exact cn (X:=X) (H:=H) (by simp[aq]) (by simp[aq]) .non (.int x) r1 r2
   |str x=>exact cn (X:=X) (H:=H) (by simp[aq]) (by simp[aq]) .non (.str x) r1 r2
  |bl y=>
   cases i2 with
   |tup h2 k2=>cases r1;cases r2;obtain⟨gJ,Ah,t2,z2⟩:=I.tuple h2;have oz:s.heap.IsTuple _ gJ.toArray:=t2;simp only[bz];exact⟨SeqAt.RcAt.bool_tuple _ oz fD,SeqAt.EqAt.bool_tuple _ oz fD,SeqAt.RcNeAt.bool_tuple _ oz fD⟩
   |lst h2 k2=>cases r1;cases r2;obtain⟨gJ,Ah,t2,z2⟩:=I.list h2;simp only[bz];exact⟨SeqAt.RcAt.bool_list _ t2.isList fD,SeqAt.EqAt.bool_list _ t2.isList fD,SeqAt.RcNeAt.bool_list _ t2.isList fD⟩
   |ty=>simp[aq]at p2
   |dk=>simp[aq]at p2
   |dt=>simp[aq]at p2
   |non=>exact cn (X:=X) (H:=H) (by simp[aq]) (by simp[aq]) (.bl y) .non r1 r2
   |bl x=>exact cn (X:=X) (H:=H) (by simp[aq]) (by simp[aq]) (.bl y) (.bl x) r1 r2
   |int x=>exact cn (X:=X) (H:=H) (by simp[aq]) (by simp[aq]) (.bl y) (.int x) r1 r2
   |str x=>exact cn (X:=X) (H:=H) (by simp[aq]) (by simp[aq]) (.bl y) (.str x) r1 r2
  |int y=>
   cases i2 with
   |tup h2 k2=>obtain⟨t,rfl⟩:=r1;cases r2;obtain⟨gJ,Ah,t2,z2⟩:=I.tuple h2;have oz:s.heap.IsTuple _ gJ.toArray:=t2;simp only[bz];exact⟨SeqAt.RcAt.int_tuple _ _ oz fD,SeqAt.EqAt.int_tuple _ _ oz fD,SeqAt.RcNeAt.int_tuple _ _ oz fD⟩
   |lst h2 k2=>obtain⟨t,rfl⟩:=r1;cases r2;obtain⟨gJ,Ah,t2,z2⟩:=I.list h2;simp only[bz];exact⟨SeqAt.RcAt.int_list _ _ t2.isList fD,SeqAt.EqAt.int_list _ _ t2.isList fD,SeqAt.RcNeAt.int_list _ _ t2.isList fD⟩
   |ty=>simp[aq]at p2
   |dk=>simp[aq]at p2
   |dt=>simp[aq]at p2
   |non=>exact cn (X:=X) (H:=H) (by simp[aq]) (by simp[aq]) (.int y) .non r1 r2
   |bl x=>exact cn (X:=X) (H:=H) (by simp[aq]) (by simp[aq]) (.int y) (.bl x) r1 r2
   |int x=>exact cn (X:=X) (H:=H) (by simp[aq]) (by simp[aq]) (.int y) (.int x) r1 r2
   |str x=>exact cn (X:=X) (H:=H) (by simp[aq]) (by simp[aq]) (.int y) (.str x) r1 r2
  |str y=>
   cases i2 with
   |tup h2 k2=>obtain⟨t,rfl⟩:=r1;cases r2;obtain⟨gJ,Ah,t2,z2⟩:=I.tuple h2;have oz:s.heap.IsTuple _ gJ.toArray:=t2;simp only[bz];exact⟨SeqAt.RcAt.str_tuple _ _ oz fD,SeqAt.EqAt.str_tuple _ _ oz fD,SeqAt.RcNeAt.str_tuple _ _ oz fD⟩
   |lst h2 k2=>obtain⟨t,rfl⟩:=r1;cases r2;obtain⟨gJ,Ah,t2,z2⟩:=I.list h2;simp only[bz];exact⟨SeqAt.RcAt.str_list _ _ t2.isList fD,SeqAt.EqAt.str_list _ _ t2.isList fD,SeqAt.RcNeAt.str_list _ _ t2.isList fD⟩
   |ty=>simp[aq]at p2
   |dk=>simp[aq]at p2
   |dt=>simp[aq]at p2
   |non=>exact cn (X:=X) (H:=H) (by simp[aq]) (by simp[aq]) (.str y) .non r1 r2
   |bl x=>exact cn (X:=X) (H:=H) (by simp[aq]) (by simp[aq]) (.str y) (.bl x) r1 r2
   |int x=>exact cn (X:=X) (H:=H) (by simp[aq]) (by simp[aq]) (.str y) (.int x) r1 r2
   |str x=>exact cn (X:=X) (H:=H) (by simp[aq]) (by simp[aq]) (.str y) (.str x) r1 r2
@[simp] def fu:D->D->OB:=λx y=>if aq 40 x=true/\aq 40 y=true then some (.bl (bz x y),false)else none
@[simp] def sT:D->D->OB:=λx y=>if aq 40 x=true/\aq 40 y=true then some (.bl (!bz x y),false)else none
theorem de (hu:X.A.units+40<cLine):dN X (compareOp .Eq) (rD X.K fu):=by
 intro ae s σ H x y v u Q I rx ry q;obtain⟨B,dx,dy,d,b,sB,ix,iy,e,q⟩:=q;unfold fu at e;split at e
 ·rename_i hp;cases e
  exact(Lx I 40 hu hp.1 hp.2 (ix.mono sB) (iy.mono sB) rx ry).1 _ _ _ _ ⟨.bl _,H,I,rfl,q.one sB (.bl _)⟩
 ·cases e
theorem AA (hu:X.A.units+40<cLine):dN X (compareOp .NotEq) (rD X.K sT):=by
 intro ae s σ H x y v u Q I rx ry q;obtain⟨B,dx,dy,d,b,sB,ix,iy,e,q⟩:=q;unfold sT at e;split at e
 ·rename_i hp;cases e
  exact(Lx I 40 hu hp.1 hp.2 (ix.mono sB) (iy.mono sB) rx ry).2.2 _ _ _ _ ⟨.bl _,H,I,rfl,q.one sB (.bl _)⟩
 ·cases e
end
section
variable {X:Cx}{a b e:Expr}{pos:Pos}
theorem BL {K:Frag}{H:Hp}{vs:List V}{ds:List D}{i:Int}{d:D}(h:IsL K H vs ds)(e:o4 ds i=some d):∃v,o4 vs i=some v/\Is K H v d:=by
 unfold o4 at e ⊢;rw[h.length];cases q:Dx ds.length i with
 |none=>rw[q]at e;cases e
 |some j=>rw[q]at e;exact h.get e
@[simp] def bG:D->D->OB
 |.lst ds,.int i=>(o4 ds i).map λd=>(d,false)
 |.tup ds,.int i=>(o4 ds i).map λd=>(d,false)
 |.str z,.int i=>if z.length<=sizeLine then (o4 z.cps.toList i).map λc=>(.str ⟨#[c]⟩,false)else none
 |_,_=>none
theorem Tv:HQ X (rD X.K bG):=by
 intro value slice ae s σ H x y v u Q I rx ry q hs;obtain⟨B,dx,dy,d,b,sB,ix,iy,e,q⟩:=q;cases ix<;>try (cases e;done)
 all_goals (cases iy<;>try (cases e;done))
 ·simp only[bG]at e;split at e
  ·rename_i hz;obtain⟨c,e1,e2⟩:=oY e;cases e2
   exact Au value slice ae s σ H _ _ v u Q I rx ry ⟨_,_,c,rfl,rfl,hz,e1,q.one sB (.str _)⟩ hs
  ·cases e
 ·rename_i h hl i;simp only[bG]at e;obtain⟨c,e1,e2⟩:=oY e;cases e2
  obtain⟨w,h1,h2⟩:=BL hl e1;exact wg value slice ae s σ H _ _ v u Q I rx ry ⟨_,_,_,w,rfl,rfl,bj sB h,h1,q.one sB h2⟩ hs
 ·rename_i h hl i;simp only[bG]at e;obtain⟨c,e1,e2⟩:=oY e;cases e2
  obtain⟨w,h1,h2⟩:=BL hl e1;exact ID value slice ae s σ H _ _ v u Q I rx ry ⟨_,_,_,w,rfl,rfl,sB.seq h,h1,q.one sB h2⟩ hs
theorem aU (ha:JE X a fa)(hb:JE X b fb)(hs:we b:=by intro _ _;rfl):JE X (.Subscript a b pos) (f2 bG fa fb):=PE.to (KY Tv ha hb hs) λ_ _ _ h=>II h
abbrev FO:=Env->Option (Option Int)
def Xo (K:Frag)(f:FO):TO:=λσ H Q=>∃(B:Hp)(ρ:Env)(o:Option Int),aX B H/\fO K B σ ρ/\f ρ=some o/\∀H',aX H H'->Q o H'
abbrev JO (X:Cx)(e:Option Expr)(f:FO):Prop:=PO X e (Xo X.K f)
@[simp] noncomputable def BM:FO:=λ_=>some none
@[simp] noncomputable def yi (f:FE):FO:=λρ=>match f ρ with|some (.int i,_)=>some (some i)|_=>none
theorem BN:JO X none BM:=λae s σ H Q I h=>Iy ae s σ H Q I (by
 obtain⟨B,ρ,o,sB,r,e,q⟩:=h;cases e
 exact q H (.refl H))
theorem BO (h:JE X e f):JO X (some e) (yi f):=λae s σ H Q I q=>Iz h ae s σ H Q I (by
 obtain⟨B,ρ,o,sB,r,e,q⟩:=q;unfold yi at e;split at e
 ·rename_i i b' ef;cases e
  refine⟨B,ρ,_,_,sB,r,ef,λv H1 N1 x1 i1 _=>?_⟩;cases i1
  exact⟨i,rfl,q H1 x1.hh⟩
 ·cases e)
def nG (ds:List D)(lo hi:Option Int):List D:=(ds.drop (HT.eC ds.length 0 lo)).take (HT.eC ds.length ds.length hi - HT.eC ds.length 0 lo)
theorem wA {K:Frag}{H:Hp}{vs:List V}{ds:List D}{lo hi:Option Int}(h:IsL K H vs ds):IsL K H (sP vs lo hi) (nG ds lo hi):=by
 unfold sP nG;rw[h.length];exact(h.drop _).take _
@[simp] def Xp (fa:FE)(fl fh:FO):FE:=λρ=>(fa ρ).bind λx=>(fl ρ).bind λl=>(fh ρ).bind λh=>match x.1 with
 |.lst ds=>some (.lst (nG ds l h),true)
 |.tup ds=>if HT.eC ds.length 0 l=0/\HT.eC ds.length ds.length h=ds.length then none else some (.tup (nG ds l h),false)
 |_=>none
theorem bV.to (h:bV X f r)(k:∀xs H Q,r' xs H Q->r xs H Q):bV X f r':=λae s σ H xs us Q I rs q=>h ae s σ H xs us Q I rs (k xs H Q q)
variable {es:List Expr}{x:Str}{p:Pos}{id T:String}
theorem bW (hc:bV X (.builtin id) (D4 X.K f))(hm:X.mg x=none)(hv:bootBuiltins x=some (.builtin id))(ha:JA X (e::es) fa)(hg:Gl X x:=by rfl)(hn:x ≠ "__name__":=by decide)(t9:(x == ("__debug__" : Str))=false:=by decide)
  (he:starEach (e::es) X.env=(false,eval e X.env)::starEach es X.env:=by rfl) (lE:(backTo pos (starEach es X.env)).any (·.1)=false:=by rfl):JE X (.Call (.Name x p) (e::es) [] pos) (fA f fa):=PE.to (xH hc hg hm hv ha hn t9 he lE) λ_ _ _ h=>IJ h
theorem jn (hc:bV X (.type T) (D4 X.K f))(hm:X.mg x=none)(hv:bootBuiltins x=some (.type T))(ha:JA X (e::es) fa)(hg:Gl X x:=by rfl)(hn:x ≠ "__name__":=by decide)(t9:(x == ("__debug__" : Str))=false:=by decide)
  (he:starEach (e::es) X.env=(false,eval e X.env)::starEach es X.env:=by rfl) (lE:(backTo pos (starEach es X.env)).any (·.1)=false:=by rfl):JE X (.Call (.Name x p) (e::es) [] pos) (fA f fa):=PE.to (tM hc hg hm hv ha hn t9 he lE) λ_ _ _ h=>IJ h
@[simp] noncomputable def gR:List D->OB
 |[.lst ds]=>some (.int ds.length,false)
 |[.tup ds]=>some (.int ds.length,false)
 |[.str z]=>if z.length<=sizeLine then some (.int z.length,false)else none
 |_=>none
theorem jU:bV X (.builtin "len") (D4 X.K gR):=by
 refine bV.to (bV.or wm wn) λxs H Q q=>?_;obtain⟨B,ds,d,b,sB,i,e,q⟩:=q;cases i with
 |nil=>simp[gR]at e
 |cons i1 i2=>
  cases i2 with
  |cons _ _=>cases i1<;>simp[gR]at e
  |nil=>
   cases i1<;>try (simp[gR]at e;done)
   ·simp only[gR]at e;split at e
    ·rename_i hz;cases e
     exact .inr ⟨_,rfl,hz,q.one sB (.int _)⟩
    ·cases e
   ·rename_i h hl;simp only[gR]at e;cases e
    refine .inl ⟨_,_,rfl,.inr (bj sB h),?_⟩;rw[hl.length];exact q.one sB (.int _)
   ·rename_i h hl;simp only[gR]at e;cases e
    refine .inl ⟨_,_,rfl,.inl (sB.seq h),?_⟩;rw[hl.length];exact q.one sB (.int _)
end
theorem D8 (hr:eP k A):A.units+40<cLine:=by have:=hr.un;omega
section
variable {X:Cx}{a b e:Expr}{pos:Pos}{x:Str}{p:Pos}
theorem yj (h:∃u v,X.mg x=some u/\ba v u/\∀B,Is X.K B v d)(hg:Gl X x:=by rfl)(hd:(x == ("__debug__" : Str))=false:=by decide):JE X (.Name x pos) (fC d):=by
 obtain⟨u,v,hm,r,i⟩:=h;exact IV hg hm r i hd
@[simp] noncomputable def BP:D->D->OB
 |.int i,.int j=>some (.int (i+j),false)
 |.str i,.str j=>if i.length+j.length<=sizeLine then some (.str (i++j),false)else none
 |_,_=>none
theorem Jc:dN X (binaryOp .Add) (rD X.K BP):=by
 refine iY (r:=rD X.K (EK Nk IY)) (nF Qu Nm) λx y H Q q=>?_;obtain⟨B,dx,dy,d,b,sB,ix,iy,e,q⟩:=q;refine⟨B,dx,dy,d,b,sB,ix,iy,?_,q⟩;cases dx<;>try (cases e;done)
 all_goals (cases dy<;>try (cases e;done))
 all_goals (simp[BP]at e;simp[EK,Nk,IY,Aa,OS,e])
@[simp] def gu:D->D->OB:=Nl
theorem cV:dN X (binaryOp .Mult) (rD X.K gu):=Qv
@[simp] def Jd:D->D->OB:=V3
theorem yk:dN X (compareOp .Lt) (rD X.K Jd):=Ts
@[simp] noncomputable def BQ:D->D->OB
 |.int i,.int j=>some (.bl (decide (i<=j)),false)
 |.str i,.str j=>some (.bl (!decide (j.cps.toList<i.cps.toList)),false)
 |_,_=>none
theorem pV:dN X (compareOp .LtE) (rD X.K BQ):=by
 refine iY (r:=rD X.K (EK Tq Sk)) (nF Tt Qx) λx y H Q q=>?_;obtain⟨B,dx,dy,d,b,sB,ix,iy,e,q⟩:=q;refine⟨B,dx,dy,d,b,sB,ix,iy,?_,q⟩;cases dx<;>try (cases e;done)
 all_goals (cases dy<;>try (cases e;done))
 all_goals (simp[BQ]at e;simp[EK,Tq,Sk,Aa,OS,e])
@[simp] noncomputable def ym:D->OB
 |.int i=>some (.int (-i),false)
 |_=>none
theorem Ly:PU X (unaryOp .USub) (To X.K ym):=by
 intro ae s σ H x v Q I rx q;obtain⟨B,dx,d,b,sB,ix,e,q⟩:=q;cases ix<;>try (simp[ym]at e;done)
 simp only[ym]at e;cases e
 exact MN ae s σ H _ v Q I rx ⟨_,rfl,q.one sB (.int _)⟩
@[simp] noncomputable def D9:D->D->Option Bool
 |.non,.non=>some true
 |_,.non=>some false
 |.bl a,.bl b=>some (a == b)
 |_,.bl _=>some false
 |_,_=>none
@[simp] def EL:D->D->OB:=λx y=>(D9 x y).map λb=>(.bl b,false)
@[simp] def lJ:D->D->OB:=λx y=>(D9 x y).map λb=>(.bl (!b),false)
theorem BR {K:Frag}{B:Hp}{x y:V}{v u:Value}{dx dy:D}{k:Bool}(ix:Is K B x dx)(iy:Is K B y dy)(rx:ba x v)(ry:ba y u)(e:D9 dx dy=some k):plainIs v u=true/\(v == u)=k:=by
 cases iy<;>(first|(cases dx<;>simp[D9]at e;done)|skip)
 all_goals (cases ix)
 all_goals (first|(obtain⟨t,rfl⟩:=rx)|cases rx)
 all_goals (cases ry)
 all_goals (simp only[D9,Option.some.injEq]at e;subst e)
 all_goals (first|exact⟨rfl,rfl⟩|skip)
 all_goals (rename_i c d;cases c<;>cases d<;>exact⟨rfl,rfl⟩)
theorem F7:dN X (compareOp .Is) (rD X.K EL):=by
 intro ae s σ H x y v u Q I rx ry q;obtain⟨B,dx,dy,d,b,sB,ix,iy,e,q⟩:=q;obtain⟨k,ek,e⟩:=oY e;cases e
 obtain⟨h1,h2⟩:=BR ix iy rx ry ek;refine wpAny_is_plain h1 ⟨.bl k,H,I,by rw[h2];rfl,q.one sB (.bl _)⟩
theorem wB:dN X (compareOp .IsNot) (rD X.K lJ):=by
 intro ae s σ H x y v u Q I rx ry q;obtain⟨B,dx,dy,d,b,sB,ix,iy,e,q⟩:=q;obtain⟨k,ek,e⟩:=oY e;cases e
 obtain⟨h1,h2⟩:=BR ix iy rx ry ek;refine wpAny_isNot_plain h1 ⟨.bl (!k),H,I,by rw[h2];rfl,q.one sB (.bl _)⟩
@[simp] noncomputable def gw:D->Bool
 |.non=>true|.bl _=>true|.int _=>true|.str _=>true
 |_=>false
noncomputable def HU (x:D)(ds:List D):Bool:=ds.any λy=>bz y x
@[simp] noncomputable def ie:D->Option (List D)
 |.lst ds=>some ds
 |.tup ds=>some ds
 |_=>none
@[simp] def F8:D->D->OB:=λx y=>(ie y).bind λds=>if gw x=true/\ds.all gw=true then some (.bl (HU x ds),false)else none
@[simp] def fF:D->D->OB:=λx y=>(ie y).bind λds=>if gw x=true/\ds.all gw=true then some (.bl (!HU x ds),false)else none
theorem pW {K:Frag}{B:Hp}{v:V}{d:D}(i:Is K B v d)(h:gw d=true):lu v=true:=by
 cases i<;>first|rfl|(simp[gw]at h)
theorem Tw {K:Frag}{B:Hp}{v w:V}{d e:D}(i:Is K B v d)(j:Is K B w e)(h:gw d=true)(h':gw e=true):HR v w=bz d e:=by
 cases i<;>(first|(simp[gw]at h;done)|skip)
 all_goals (cases j<;>(first|(simp[gw]at h';done)|skip))
 all_goals (simp only[HR,bz,Bool.beq_eq_decide_eq])
theorem yn {K:Frag}{B:Hp}:∀ {vs:List V}{ds:List D},IsL K B vs ds->ds.all gw=true->vs.all lu=true
 |_,_,.nil,_=>rfl
 |_,_,.cons i t,h=>by
  rw[List.all_cons,vC]at h;rw[List.all_cons,pW i h.1,yn t h.2];rfl
theorem F9 {K:Frag}{B:Hp}{v:V}{d:D}(j:Is K B v d)(hd:gw d=true):∀ {vs:List V}{ds:List D},IsL K B vs ds->ds.all gw=true->Si v vs=HU d ds
 |_,_,.nil,_=>rfl
 |_,_,.cons i t,h=>by
  rw[List.all_cons,vC]at h;have e:=F9 j hd t h.2;unfold Si HU at *;rw[List.any_cons,List.any_cons,e,Tw i j h.1 hd]
theorem BS:dN X (compareOp .In) (rD X.K F8):=by
 refine iY Dy λx y H Q q=>?_;obtain⟨B,dx,dy,d,b,sB,ix,iy,e,q⟩:=q;obtain⟨ds,es,e⟩:=oX e;split at e
 ·rename_i hf;cases e
  cases iy<;>simp only[ie]at es<;>try (cases es;done)
  ·rename_i h hl;cases es
   exact⟨_,_,rfl,.inr (bj sB h),pW ix hf.1,yn hl hf.2,by rw[if_neg (by decide),F9 ix hf.1 hl hf.2];exact q.one sB (.bl _)⟩
  ·rename_i h hl;cases es
   exact⟨_,_,rfl,.inl (sB.seq h),pW ix hf.1,yn hl hf.2,by rw[if_neg (by decide),F9 ix hf.1 hl hf.2];exact q.one sB (.bl _)⟩
 ·cases e
theorem m4:dN X (compareOp .NotIn) (rD X.K fF):=by
 refine iY wl λx y H Q q=>?_;obtain⟨B,dx,dy,d,b,sB,ix,iy,e,q⟩:=q;obtain⟨ds,es,e⟩:=oX e;split at e
 ·rename_i hf;cases e
  cases iy<;>simp only[ie]at es<;>try (cases es;done)
  ·rename_i h hl;cases es
   exact⟨_,_,rfl,.inr (bj sB h),pW ix hf.1,yn hl hf.2,by rw[if_pos rfl,F9 ix hf.1 hl hf.2];exact q.one sB (.bl _)⟩
  ·rename_i h hl;cases es
   exact⟨_,_,rfl,.inl (sB.seq h),pW ix hf.1,yn hl hf.2,by rw[if_pos rfl,F9 ix hf.1 hl hf.2];exact q.one sB (.bl _)⟩
 ·cases e
theorem jV:bootBuiltins "len" = some (.builtin "len"):=PySem.boot_len
theorem Q0:bootBuiltins "max" = some (.builtin "max"):=by decide +kernel
theorem Q1:bootBuiltins "min" = some (.builtin "min"):=by decide +kernel
theorem Q2:bootBuiltins "int" = some (.type "int"):=by decide +kernel
theorem Ny:bootBuiltins "list" = some (.type "list"):=by decide +kernel
theorem Je:bootBuiltins "tuple" = some (.type "tuple"):=by decide +kernel
@[simp] noncomputable def Jf:List D->OB
 |[.int i,.int j]=>some (.int (if j > i then j else i),false)
 |_=>none
@[simp] noncomputable def Jg:List D->OB
 |[.int i,.int j]=>some (.int (if j<i then j else i),false)
 |_=>none
theorem yo {K:Frag}{B:Hp}{xs:List V}{i j:Int}(h:IsL K B xs [.int i,.int j]):xs=[.int i,.int j]:=by
 cases h with
 |cons h1 h2=>cases h1;cases h2 with|cons h3 h4=>cases h3;cases h4;rfl
theorem Q3 (hc:X.calm=true:=by rfl):bV X (.builtin "max") (D4 X.K Jf):=by
 refine bV.to (Ds hc) λxs H Q q=>?_;obtain⟨B,ds,d,b,sB,i,e,q⟩:=q;match ds,e with
 |[.int i',.int j'],e=>simp only[Jf]at e;cases e;exact⟨i',j',yo i,q.one sB (.int _)⟩
theorem Q4 (hc:X.calm=true:=by rfl):bV X (.builtin "min") (D4 X.K Jg):=by
 refine bV.to (Dt hc) λxs H Q q=>?_;obtain⟨B,ds,d,b,sB,i,e,q⟩:=q;match ds,e with
 |[.int i',.int j'],e=>simp only[Jg]at e;cases e;exact⟨i',j',yo i,q.one sB (.int _)⟩
@[simp] noncomputable def Nz:D->String
 |.non=>"NoneType" | .bl _=>"bool" | .int _=>"int" | .str _=>"str" | .ty _=>"type" | .tup _=>"tuple" | .lst _=>"list" | .dk _ _=>"dict" | .dt _ _=>"dict"
@[simp] noncomputable def Q5:D->Bool
 |.ty _=>true
 |_=>false
@[simp] noncomputable def Jh (t n:String):OB :=
 if n = "int" then some (.bl (t == "int" || t == "bool"),false)else if n = "bool" then some (.bl (t == "bool"),false)else if n = "str" then some (.bl (t == "str"),false)
 else if n = "list" then some (.bl (t == "list"),false)else if n = "tuple" then some (.bl (t == "tuple"),false)else none
@[simp] def Lz:List D->OB
 |[d,.ty n]=>if Q5 d=true then none else Jh (Nz d) n
 |_=>none
@[simp] noncomputable def V5:D->OB
 |.int i=>some (.int (Builtin.Int.intBits i),false)
 |_=>none
@[simp] def FC (f:FE):FA:=λρ=>(f ρ).bind λx=>ie x.1
theorem BU (h:JE X e f):JI X tg e (FC f):=by
 intro ae s σ H R I q;obtain⟨B,ρ,ds,sB,r,e',q⟩:=q;obtain⟨x,ex,es⟩:=oX e';obtain⟨xd,xb⟩:=x;cases xd<;>simp only[ie]at es<;>try (cases es;done)
 ·cases es
  refine MC h ae s σ H R I ⟨B,ρ,_,_,sB,r,ex,λv H1 N1 x1 i1 _=>?_⟩;cases i1 with
  |@tup a vs _ ht hl=>
   refine⟨a,rfl,⟨vs,bj x1.nh ht⟩,q _ H1 N1 x1 λi H2 s2=>⟨λd ed=>?_,λbB=>⟨vs,bj s2 ht,by rw[hl.length];exact bB⟩⟩⟩;obtain⟨v,ev,iv⟩:=hl.get ed;refine⟨⟨vs,v,bj s2 ht,ev⟩,λy H3 hy=>?_⟩;obtain⟨rfl,hy⟩:=hy;have:=hy vs (bj s2 ht);rw[ev]at this;cases this;exact⟨N1,.refl s2,iv⟩
 ·cases es
  refine Il h ae s σ H R I ⟨B,ρ,_,_,sB,r,ex,λv H1 N1 x1 i1 _=>?_⟩;cases i1 with
  |@lst a vs _ ht hl=>
   refine⟨a,rfl,⟨vs,x1.nh.seq ht⟩,q _ H1 N1 x1 λi H2 s2=>⟨λd ed=>?_,λbB=>⟨vs,s2.seq ht,by rw[hl.length];exact bB⟩⟩⟩;obtain⟨v,ev,iv⟩:=hl.get ed;refine⟨⟨vs,v,s2.seq ht,ev⟩,λy H3 hy=>?_⟩;obtain⟨rfl,hy⟩:=hy;have:=hy vs (s2.seq ht);rw[ev]at this;cases this;exact⟨N1,.refl s2,iv⟩
noncomputable def fW (lo:Int)(n:Nat):List D:=(List.range n).map λ(k:Nat)=>.int (lo+(k:Int))
theorem FD {K:Frag}{B:Hp}(lo:Int)(n:Nat):nD K (Sg lo n) B (fW lo n):=by
 intro i H s;unfold fW;refine⟨λd ed=>?_,λhl=>by rw[vI,List.length_range]at hl;exact hl⟩;rw[vA]at ed;obtain⟨k,ek,ed⟩:=oY ed;have hk:=vV ek;obtain⟨fw,hk⟩:=hk;rw[List.length_range]at fw;rw[List.getElem_range]at hk;subst hk;subst ed;refine⟨fw,λx H' hy=>?_⟩;obtain⟨rfl,rfl⟩:=hy;exact⟨B,.refl s,.int _⟩
@[simp] def ig (f:FE):FA:=λρ=>match f ρ with
 |some (.int j,_)=>if -1000<=j/\j<=1000 then some (fW 0 j.toNat)else none
 |_=>none
theorem m5 (hm:X.mg "range" = none)(h:JE X a f)(hg:Gl X "range":=by rfl)(hs:starEach [a] X.env=[(false,eval a X.env)]:=by rfl):PI X tg (.Call (.Name "range" p) [a] [] pos) (Sj X.K (ig f)):=by
 refine PI.to (Dp hg hm (ah h am hs) hs) λσ H R q=>?_;obtain⟨B,ρ,ds,sB,r,e',q⟩:=q;unfold ig at e';split at e'
 ·rename_i j b' ef;split at e'
  ·rename_i hj;cases e'
   refine⟨B,ρ,[.int j],sB,r,by simp[af,aj,ef],λvs H1 N1 x1 i1=>?_⟩;cases i1 with
   |cons i1 i2=>
    cases i1;cases i2
    exact⟨j,rfl,by omega,by omega,q _ H1 N1 x1 λ_=>FD 0 j.toNat⟩
  ·cases e'
 ·cases e'
theorem FF (hm:X.mg "range" = none)(h:JE X a f)(hg:Gl X "range":=by rfl)(hs:starEach [a] X.env=[(false,eval a X.env)]:=by rfl):JI X tg (.Call (.Name "range" p) [a] [] pos) (ig f) :=
 PI.to (m5 hm h hg hs) λσ H R ⟨B,ρ,ds,sB,r,e',q⟩=>⟨B,ρ,ds,sB,r,e',λJ H' N x h=>q J H' N x (h _)⟩
end
def eE (K:Frag)(x:Str)(st:Stmt):Prop:=∃(f:Addr)(fd:FuncData),Ou K x x st f fd/\nsIn K mainGlobals x=some (some (.ref f))
theorem def_mk {K:Frag}{x:Str}{st:Stmt}{f:Addr}{oc:Value}{od an:Option Addr}{ph:Array (Option Value)}{kV doc pm eJ ct:Value}(a:nsIn K mainGlobals x=some (some (.ref f)))
  (l:K.lookup f=some ⟨oc,od,.func (fnOf x x (gh st) (cL st) (aS st) .none kV doc pm an eJ ct),ph⟩) (c:PySem.W.codeIn K eJ x=true) (k:PySem.W.keepIn K (.ref f)=true):eE K x st:=⟨f,_,MX l c k,a⟩
section
variable {P:Program}{w:World}{K:Frag}{mg:Str->Option Value}{base:Heap}
theorem eE.fn {x:Str}{st:Stmt}{N ps:List Str}{k:Nat}{g:FS}{h:Heap}(F:eE K x st)(X:K.In h)(G:h.Ns mainGlobals mg)(S:FnScope N ps (aS st))
  (K9:∀(kV doc pm:Value)(an:Option Addr)(eJ ct:Value)(us:List Value),us.length=ps.length->bindArgs (fnOf x x (gh st) (cL st) (aS st) .none kV doc pm an eJ ct) ⟨us,[]⟩=pure (ps.zip us))
  (hb:∀(f:Addr)(eJ:Value)(A:Around)(outer:List PySem.Env)(s:Shared)(H:Hp)(E:XK),eP k (A.deeper (envOfC x (aS st) s.heap.objs.size f eJ))->xz (pj zZ P w K mg base N x (aS st) f eJ A outer s H E).nox (cL st) g):
  Fn P w K mg base (k+1) x (aO g ps.length (N.length - ps.length)):=by
 obtain⟨f,fd,F1,a⟩:=F;exact⟨f,fd,ps,Qy F1 S (hb f),mg_of X G a,F1.kp,F1.binds K9⟩
end
def Q6 (H:Hp):Prop:=∀b,H b=none∨(∃o xs,H b=some (.frz o (.lst xs)))∨∃q,H b=some (.tbl q)
noncomputable def pX (kj:List (Addr×Str))(G:Hp):Hp:=λb=>match kj.lookup b with|some q=>some (.tbl q)|none=>G b
theorem gz (e:kj.lookup b=some q):pX kj G b=some (.tbl q):=by unfold pX;rw[e]
theorem jo (e:kj.lookup b=none):pX kj G b=G b:=by unfold pX;rw[e]
theorem DA {P:Program}{w:World}{K:Frag}{mg mb:Str->Option Value}{k:Nat}{fa a:Addr}{fd:FuncData}{x:Str}{sp:Sp}{s₁:Shared}{vs:List Value}{ns:List Int}(kj:List (Addr×Str))
  (ht:∀b q,kj.lookup b=some q->s₁.heap.get? b=some (PySem.W.tabObj #[])/\isCodeTable s₁.heap b) (Yj:PySem.W.noTabs K=true)
  (KX:K.In s₁.heap) (Pm:s₁.heap.Ns mainGlobals mg) (hb:s₁.heap.Ns builtinsNs mb) (Yk:∀x:Str,x ≠ "__name__"->mb x=bootBuiltins x) (Us:s₁.heap.NoLimit)
  (Yl:∃bm ob,mg "__builtins__" = some (.ref bm)/\bm≠builtinsNs/\s₁.heap.get? bm=some ob/\ob.cls=.type "module"/\ob.dict=some builtinsNs/\ob.data=.plain) (hg:s₁.gens=#[])
  (ha:s₁.heap.get? a=some { cls:=.type "list",data:=.seq vs.toArray }) (hi:IntsAre vs ns) (hl:ns.length<=sizeLine) (hr:eP k callerA)
  (F:∀base:Heap,K.In base->base.Ns mainGlobals mg->t7 P w K mg base zZ k fa fd [x] sp) (zS:∀(s:Shared)(u:Value),BindsTo s fd ⟨[u],[]⟩ [(x,u)])
  (Pj:∀H:Hp,(∀b q,kj.lookup b=some q->H b=some (.tbl q))->hU K H a (ns.map V.int)->sp [.ref a] H (λv _=>v=.bl true) λ_ _ _=>False):
  codeAny (model P w) callerA (.call (.ref fa) ⟨[.ref a],[]⟩) (λr s'=>r=.ok (.ret (.bool true))/\OldK s₁.heap s'.heap/\s'.os=s₁.os/\AllBare s'.gens) s₁:=by
 have rv:=L2.gW hi;have Ut:=hi.length;have R3:∀H:Hp,Q6 H->(∀b q,kj.lookup b=some q->H b=some (.tbl q))->hU K H a (ns.map V.int)->lh P w H s₁.heap->(∀b q,H b=some (.tbl q)->s₁.heap.get? b=some (PySem.W.tabObj #[])/\isCodeTable s₁.heap b) ->
   (∀b o u,H b=some (.frz o u)->b=a)->(∀b o u,H b=some (.frz o u)->K.lookup b=none) ->
   codeAny (model P w) callerA (.call (.ref fa) ⟨[.ref a],[]⟩) (λr s'=>r=.ok (.ret (.bool true))/\OldK s₁.heap s'.heap/\s'.os=s₁.os/\AllBare s'.gens) s₁:=by
  intro H hO hT hS hok hA hB hK;have K2:∀ {b:Addr}{o:Obj},s₁.heap.get? b=some o->(o.cls≠.none)->(o.cls≠.type "list")->H b=none:=λ{b o} e d d'=>by
   rcases hO b with q|⟨ob,xs,q⟩|⟨u,q⟩
   ·exact q
   ·have e':b=a:=hB b _ _ q;subst e';rw[ha]at e;cases e;exact absurd rfl d'
   ·rw[(hA b u q).1]at e;cases e;exact absurd rfl d
  have Ym:∀ {b:Addr}{o:Obj}{es:Array DictEntry}{ep:Nat},s₁.heap.get? b=some o->o.data=.dict es ep->H b=none:=λ{b o es ep} e d=>by
   rcases hO b with q|⟨ob,xs,q⟩|⟨u,q⟩
   ·exact q
   ·have e':b=a:=hB b _ _ q;subst e';rw[ha]at e;cases e;cases d
   ·rw[(hA b u q).1]at e;cases e;cases d
  have SA:∀ {b:Addr}{m:Str->Option Value},s₁.heap.Ns b m->(xC s₁.heap H).Ns b m:=λ{b m} ⟨o,es,ep,e,d,r⟩=>⟨o,es,ep,pM e (Ym e d),d,r⟩;have Wi:K.In (xC s₁.heap H):=λb o e=>pM (KX b o e) (by
   rcases hO b with q|⟨ob,xs,q⟩|⟨u,q⟩
   ·exact q
   ·rw[hK b _ _ q]at e;cases e
   ·have z:=(hA b u q).1;rw[KX b o e]at z;cases z
    have:=uR Yj _ (PySem.W.mem_of_lookupK e);simp at this)
  have hM:Mod K mg (xC s₁.heap H):=⟨Wi,SA Pm,⟨mb,SA hb,Yk⟩,let ⟨mc,h1,h2⟩:=Us;⟨mc,SA h1,h2⟩,by
   obtain⟨bm,ob,b1,b2,b3,b4,b5⟩:=Yl;exact⟨bm,ob,b1,b2,pM b3 (K2 b3 (by rw[b4];exact λz=>nomatch z) (by rw[b4];intro z;injection z with z;exact absurd z (by decide))),b4,b5⟩⟩
  have e0:Env0 P w K mg (xC s₁.heap H) callerA [] s₁ H:=⟨rfl,hM,λb o e=>Ie e,Nat.le_of_eq (Dm _ _),trivial,λb hb=>absurd (show b∈([]:List Addr)from hb) (by simp),hok,.of_eq hg⟩;refine codeAny_mono ((F _ Wi (SA Pm)).run callerA [] s₁ H ⟨[.ref a],[]⟩ [.ref a] [.ref a] _ _ hr e0 (zS s₁ (.ref a)) (.cons rfl .nil) (Pj H hT hS)) λr s' h=>?_;cases r with
  |error e=>exact False.elim h
  |ok fl=>
   cases fl with
   |next=>exact False.elim h
   |brk=>exact False.elim h
   |cont=>exact False.elim h
   |ret u=>
    obtain⟨v,H',os,bare,un,R4,r',q⟩:=h;have q':v=.bl true:=q;subst q';obtain rfl:u=Value.bool true:=r';have kp:∀b o,H b=none->s₁.heap.get? b=some o->s'.heap.get? b=some o:=λb o n e=>un.keep b o e n (by intro z;exact absurd (show b∈([]:List Addr)from z) (by simp)) (by simp);refine⟨rfl,⟨λb o e=>?_,λb o e=>un.there b o e (by simp)⟩,os,bare⟩;rcases hO b with z|⟨ob,xs,z⟩|⟨u,z⟩
    ·exact .inl (kp b o z e)
    ·have z2:=un.frzs b ob _ z;obtain⟨e1,_⟩:=hok b _ z;obtain⟨e2,_⟩:=R4 b _ z2;rw[e]at e1;cases e1;exact .inl e2
    ·obtain⟨e1,e2⟩:=hA b u z;rw[e]at e1;cases e1;obtain⟨ps,e3,_⟩:=R4 b _ (un.tbls b u z);exact .inr (.inl ⟨e2,rfl,#[],ps,rfl,by simpa using e3⟩)
 have Ow:∀q,kj.lookup a≠some q:=λq z=>by
  have:=(ht a q z).1;rw[ha]at this;cases this
 have ta:kj.lookup a=none:=by
  cases z:kj.lookup a with
  |none=>rfl
  |some q=>exact absurd z (Ow q)
 have LX:∀(G:Hp) b q,kj.lookup b=some q->cm P w (pX kj G) s₁.heap b (.tbl q):=λG b q z=>⟨#[],(ht b q z).1,trivial,λpos cv c=>by cases c⟩;cases hk:K.lookup a with
 |some o=>
  have e:=KX a o hk;rw[ha]at e;cases e
  refine R3 (pX kj λ_=>none) (λb=>?_) (λb q z=>gz z) (.inr ⟨_,vs.toArray,_,hk,rfl,rfl,rfl,by rw[vH,Ut];exact hl,by simpa using rv⟩) (λb u z=>?_) (λb q z=>?_) (λb o u z=>?_) λb o u z=>?_
  all_goals cases zt:kj.lookup b with
   |none=>first|exact .inl (jo zt)|(rw[jo zt]at z;cases z)
   |some q'=>first|exact .inr (.inr ⟨q',gz zt⟩)|(rw[gz zt]at z;cases z;done)|(rw[gz zt]at z;cases z;first|exact LX _ b _ zt|exact ht b _ zt)
 |none=>
  refine R3 (pX kj λb=>if b=a then some (.frz { cls:=.type "list",data:=.seq vs.toArray } (.lst (ns.map V.int)))else none) (λb=>?_) (λb q z=>gz z) (.inl (.inr ⟨{ cls:=.type "list",data:=.seq vs.toArray },by rw[jo ta,if_pos rfl]⟩)) (λb u z=>?_) (λb q z=>?_) (λb o u z=>?_) λb o u z=>?_
  all_goals cases zt:kj.lookup b with
   |some q'=>first|exact .inr (.inr ⟨q',gz zt⟩)|(rw[gz zt]at z;cases z;done)|(rw[gz zt]at z;cases z;first|exact LX _ b _ zt|exact ht b _ zt)
   |none=>
    first
    |rw[jo zt]at z
    |rw[jo zt]
    by_cases hb:b=a
    ·first
     |rw[if_pos hb]at z
     |rw[if_pos hb]
     first
     |exact .inr (.inl ⟨_,_,rfl⟩)
     | (cases z;subst hb;exact⟨ha,by rw[vI];exact hl,vs,_,rv,ha⟩)
     |exact hb
     | (rw[hb];exact hk)
     |cases z
    ·first
     | (rw[if_neg hb]at z;cases z)
     |exact .inl (if_neg hb)
noncomputable def wC (L:List (Str×Option (Addr×Addr))):List (Addr×Str):=L.filterMap λp=>p.2.map λq=>(q.2,pQ p.1)
structure pL (K:Frag)(L:List (Str×Option (Addr×Addr))):Prop where
 names:L=mo.map λx=>(x,PySem.W.tabIn K x)
 apart:((wC L).map (·.1)).Nodup
 none:PySem.W.noTabs K=true
theorem lw {α β:Type}[BEq α][LawfulBEq α]:∀ {l:List (α×β)}{a:α}{b:β},(l.map (·.1)).Nodup->(a,b)∈l->l.lookup a=some b
 | (c,d)::l,a,b,nd,h=>by
  rw[List.lookup_cons];rcases vP h with e|h
  ·cases e;simp
  ·have ne:a≠c:=λz=>(List.nodup_cons.mp nd).1 (by rw[←z];exact uS ⟨(a,b),h,rfl⟩);rw[show(a == c)=false by simpa using ne];exact lw (List.nodup_cons.mp nd).2 h
theorem ky {α β:Type}[BEq α][LawfulBEq α]:∀ {l:List (α×β)}{a:α}{b:β},l.lookup a=some b->(a,b)∈l
 | (c,d)::l,a,b,h=>by
  rw[List.lookup_cons]at h;cases e:a == c with
  |true=>rw[e]at h;cases h;rw[eq_of_beq e];exact mX
  |false=>rw[e]at h;exact mZ _ (ky h)
theorem pL.tb {K:Frag}{L:List (Str×Option (Addr×Addr))}(F:pL K L){H:Hp}(h:∀b q,(wC L).lookup b=some q->H b=some (.tbl q)):Tb K H:=λx hx c P e=>by
 refine h P (pQ x) (lw F.apart ?_);rw[F.names];exact List.mem_filterMap.mpr ⟨(x,PySem.W.tabIn K x),uS ⟨x,hx,rfl⟩,by rw[e];rfl⟩
theorem tab_yes {K:Frag}{x:Str}{f c P:Addr}{oc Yn:Value}{od Uu:Option Addr}{ph Ox:Array (Option Value)}{fd:FuncData}{vs:Array Value}(e1:nsIn K mainGlobals x=some (some (.ref f)))(e2:K.lookup f=some ⟨oc,od,.func fd,ph⟩)(e3:fd.code=.ref c)
  (e4:K.lookup c=some ⟨Yn,Uu,.fields vs,Ox⟩) (e5:vs[11]? = some (.ref P)):PySem.W.tabIn K x=some (c,P):=by unfold PySem.W.tabIn;simp only[e1,e2,e3,e4,e5]
theorem tabs_fit {K:Frag}{t0 t1 t2 t3:Option (Addr×Addr)}(h0:PySem.W.tabIn K "in_order" = t0)(h1:PySem.W.tabIn K "has_seal" = t1)(h2:PySem.W.tabIn K "is_first_death" = t2)(h3:PySem.W.tabIn K "bases_by" = t3)
  (ap:((wC [("in_order",t0),("has_seal",t1),("is_first_death",t2),("bases_by",t3)]).map (·.1)).Nodup) (nt:PySem.W.noTabs K=true):pL K [("in_order",t0),("has_seal",t1),("is_first_death",t2),("bases_by",t3)] :=
 ⟨by subst h0;subst h1;subst h2;subst h3;rfl,ap,nt⟩
theorem walkD {l:PySem.W.OpenLaw}{q:Program}{Dg:List Str}{XP:(Str->Option Value)->Heap->Prop}{YP:World->Heap->Prop}{d:DefRec}{K:Params->Frag}{k:Nat}{x:Str}{f:List D->OB}{L:List (Str×Option (Addr×Addr))}(hn:l.most=some 63)(Rn:d.params.defaults=[])(hr:eP k callerA)
  (hY:∀(w:World)(h:Heap),YP w h->(K w.params).In h) (hT:∀w:World,pL (K w.params) L) (hD:(L.all λp=>p.2.isNone || ((recsOf q).find? λe=>e.name == p.1).isSome)=true)
  (F:∀(w:World)(mg:Str->Option Value)(fa:Addr)(h:Heap),(K w.params).In h->h.Ns mainGlobals mg->mg d.name=some (.ref fa) ->
   ∃fd:FuncData,(∀(s:Shared)(u:Value),BindsTo s fd ⟨[u],[]⟩ [(x,u)])/\∀base:Heap,(K w.params).In base->base.Ns mainGlobals mg->t7 l.prog w (K w.params) mg base zZ k fa fd [x] (Jb (K w.params) f))
  (ht:∀ns:List Int,ns.length<=63->∃b,f [.lst (ns.map .int)]=some (.bl true,b)):PySem.W.WalkO q Dg XP YP l.row.toRowW d [] (λf vs=>PySem.call f vs):=by
 refine Att.xI hn Rn λw s₀ s₁ mg mb fa o pm cd doc a vs ns G Y ho hd j9 hmg Ot Hy bB hg=>?_;have KX:=hY w _ Y;obtain⟨fd,hb,hF⟩:=F w mg fa _ KX G.T.g hmg;refine DA (wC L) (λb u e=>?_) (hT w).none KX G.T.g G.T.b G.T.builtins G.T.nolimit G.T.bmain hg Ot Hy (vR bB (by decide)) hr hF hb λH hH hS=>?_
 ·obtain⟨p,hp,e2⟩:=List.mem_filterMap.mp (ky e);obtain⟨⟨c,P⟩,e3,e4⟩:=oY e2;cases e4
  have Uv:=uR hD p hp;rw[e3]at Uv;rw[Option.isNone_some,Bool.false_or]at Uv;obtain⟨r,Yo⟩:=uU Uv;have R5:PySem.W.tabIn (K w.params) p.1=some (c,P):=by
   rw[(hT w).names]at hp;obtain⟨y,_,rfl⟩:=vO hp;exact e3
  obtain⟨h1,h2⟩:=PySem.W.tab_of G.T KX Yo R5;exact⟨h2,(h1.tab h2).isCodeTable⟩
 ·obtain⟨b,e⟩:=ht ns bB;exact⟨H,_,_,b,⟨.refl H,(hT w).tb hH⟩,.cons (.lst hS (.flat rfl)) .nil,e,λv H' N x' i' _=>by cases i';rfl⟩
theorem eE.law {P:Program}{w:World}{K:Frag}{mg:Str->Option Value}{x y:Str}{st:Stmt}{N:List Str}{k:Nat}{g:FS}{h:Heap}{fa:Addr}(F:eE K x st)(X:K.In h)(G:h.Ns mainGlobals mg)(Uw:mg x=some (.ref fa))(S:FnScope N [y] (aS st))
  (K9:∀(kV doc pm:Value)(an:Option Addr)(eJ ct:Value)(u:Value),bindArgs (fnOf x x (gh st) (cL st) (aS st) .none kV doc pm an eJ ct) ⟨[u],[]⟩=pure [(y,u)])
  (hb:∀(base:Heap),K.In base->base.Ns mainGlobals mg->∀(f:Addr)(eJ:Value)(A:Around)(outer:List PySem.Env)(s:Shared)(H:Hp)(E:XK),eP k (A.deeper (envOfC x (aS st) s.heap.objs.size f eJ))->xz (pj zZ P w K mg base N x (aS st) f eJ A outer s H E).nox (cL st) g):
  ∃fd:FuncData,(∀(s:Shared)(u:Value),BindsTo s fd ⟨[u],[]⟩ [(y,u)])/\∀base:Heap,K.In base->base.Ns mainGlobals mg->t7 P w K mg base zZ (k+1) fa fd [y] (Jb K (aO g 1 (N.length - 1))):=by
 obtain⟨f,fd,F1,a⟩:=F;have e:=Uw.symm.trans (mg_of X G a);cases e
 refine⟨fd,λs u=>?_,λbase kb nb=>Qy F1 S (hb base kb nb _)⟩;obtain⟨oc,od,kV,doc,pm,an,eJ,ct,ph,rfl,lk,j9⟩:=F1.ex;exact .of_eq (K9 kV doc pm an eJ ct u)
section
variable {X:Cx}{a b e:Expr}{pos:Pos}{x:Str}{p:Pos}
@[simp] noncomputable def Ji:D->D->OB
 |.lst xs,.lst ys=>if xs.length+ys.length<=sizeLine then some (.lst (xs++ys),true)else none
 |_,_=>none
theorem N6:dN X (binaryOp .Add) (rD X.K Ji):=by
 intro ae s σ H x y v u Q I rx ry q;obtain⟨B,dx,dy,d,bb,sB,ix,iy,ee,q⟩:=q;cases ix<;>try (cases ee;done)
 all_goals (cases iy<;>try (cases ee;done))
 rename_i l vs ds h hl l' ws es h' EB;simp only[Ji]at ee;split at ee
 ·rename_i hz;cases ee
  cases rx
  cases ry
  obtain⟨its,r1,p1,z1⟩:=I.list (sB.seq h);obtain⟨gJ,r2,p2,z2⟩:=I.list (sB.seq h');obtain⟨⟨c1,d1,t1,s1⟩,o1,e1,n1,k1⟩:=p1.isList;obtain⟨⟨c2,d2,t2,s2⟩,o2,e2,n2,k2⟩:=p2.isList;dsimp only at e1 k1 e2 k2;subst e1;subst k1;subst e2;subst k2;have hsz:its.toArray.size+gJ.toArray.size<=sizeLine:=by
   rw[vH,vH,←r1.length,←r2.length,hl.length,EB.length];exact hz
  have ea:its.toArray++gJ.toArray=(its++gJ).toArray:=by simp
  refine concat_meets ⟨_,o1,rfl⟩ ⟨_,o2,rfl⟩ noFill_list_add seq_list_add PySem.F.slot_list_add PySem.F.entry_list_add (PySem.F.args_list_add_2 _ _) (list_addW l l' its.toArray gJ.toArray n1 n2 d1 d2 s1 s2 hsz) ⟨o1,o2,?_⟩;rw[ea];have xt:=Ext.laid (o:=.lst (vs++ws)) sB I.fresh;have il:=(hl.append EB).mono xt.bn;exact⟨.ref s.heap.objs.size,_,I.lnew (t':=s.toks) (r1.append r2) (by rw[uZ,hl.length,EB.length];exact hz),rfl,q _ _ _ xt (.lst (hU.of aC) il) λ_=>⟨_,_,_,rfl,rfl,I.fresh,aC,il⟩⟩
 ·cases ee
@[simp] noncomputable def sU:D->D->OB
 |.tup xs,.tup ys=>if xs.length+ys.length<=sizeLine/\xs.isEmpty=false then some (.tup (xs++ys),false)else none
 |_,_=>none
theorem FH:dN X (binaryOp .Add) (rD X.K sU):=by
 refine iY IA λx y H Q q=>?_;obtain⟨B,dx,dy,d,bb,sB,ix,iy,ee,q⟩:=q;cases ix<;>try (cases ee;done)
 all_goals (cases iy<;>try (cases ee;done))
 rename_i l vs ds h hl l' ws es h' EB;simp only[sU]at ee;split at ee
 ·rename_i hz;cases ee
  have l1:=hl.length;have l2:=EB.length;refine⟨l,l',vs,ws,rfl,rfl,bj sB h,bj sB h',λz=>?_,by omega,λz=>?_,λ_ pp hp=>?_⟩
  ·subst z;cases hl
   simp at hz
  ·subst z;cases EB
   rw[uQ]at q;exact q.one sB (.tup h hl)
  ·have xt:=Ext.laid (o:=.tup (vs++ws)) sB hp;exact q _ _ _ xt (.tup (jj.of aC) ((hl.append EB).mono xt.bn)) (by simp)
 ·cases ee
@[simp] noncomputable def FI:D->D->OB
 |.bl i,.int j=>some (.int ((if i=true then 1 else 0)+j),false)
 |.int i,.bl j=>some (.int (i+b2i j),false)
 |_,_=>none
theorem N7:dN X (binaryOp .Add) (rD X.K FI):=by
 intro ae s σ H x y v u Q I rx ry q;obtain⟨B,dx,dy,d,bb,sB,ix,iy,ee,q⟩:=q;cases ix<;>try (cases ee;done)
 all_goals (cases iy<;>try (cases ee;done))
 ·simp only[FI]at ee;cases ee
  cases rx
  obtain⟨t,rfl⟩:=ry;exact IntBool.add_bool_int ⟨.int _,H,I.tok _,⟨_,rfl⟩,q.one sB (.int _)⟩
 ·simp only[FI]at ee;cases ee
  exact Dr ae s σ H _ _ v u Q I rx ry ⟨_,_,rfl,rfl,q.one sB (.int _)⟩
@[simp] noncomputable def bY:D->D->OB
 |.int i,.int j=>some (.int (i+j),false)
 |.str i,.str j=>if i.length+j.length<=sizeLine then some (.str (i++j),false)else none
 |.lst xs,.lst ys=>if xs.length+ys.length<=sizeLine then some (.lst (xs++ys),true)else none
 |.tup xs,.tup ys=>if xs.length+ys.length<=sizeLine/\xs.isEmpty=false then some (.tup (xs++ys),false)else none
 |.bl i,.int j=>some (.int ((if i=true then 1 else 0)+j),false)
 |.int i,.bl j=>some (.int (i+b2i j),false)
 |_,_=>none
theorem bu:dN X (binaryOp .Add) (rD X.K bY):=by
 refine iY (r:=rD X.K (EK BP (EK Ji (EK sU FI)))) (nF Jc (nF N6 (nF FH N7))) λx y H Q q=>?_;obtain⟨B,dx,dy,d,bb,sB,ix,iy,ee,q⟩:=q;refine⟨B,dx,dy,d,bb,sB,ix,iy,?_,q⟩;cases dx<;>try (cases ee;done)
 all_goals (cases dy<;>try (cases ee;done))
 all_goals (simp[bY]at ee;simp[EK,BP,Ji,sU,FI,ee])
@[simp] noncomputable def Tz:D->Option Bool
 |.bl b=>some b
 |_=>none
def sV:List D->Option (List Bool)
 |[]=>some []
 |d::ds=>(Tz d).bind λb=>(sV ds).map (b :: ·)
@[simp] theorem Q7:sV []=some []:=rfl
@[simp] theorem DB (d:D)(ds:List D):sV (d::ds)=(Tz d).bind λb=>(sV ds).map (b :: ·):=rfl
theorem BV {K:Frag}{B:Hp}:∀ {vs:List V}{ds:List D}{bs:List Bool}{its:List Value},L2.aY vs its->IsL K B vs ds->sV ds=some bs->its=bs.map Value.bool
 |_,_,_,_,.nil,.nil,e=>by cases e;rfl
 |_,_,_,_,.cons r rr,.cons i ii,e=>by
  rw[DB]at e;obtain⟨b,e1,e⟩:=oX e;obtain⟨bs,e2,e⟩:=oY e;subst e;cases i<;>simp only[Tz]at e1<;>try (cases e1;done)
  cases e1
  cases r
  rw[BV rr ii e2];rfl
@[simp] def Xq:List D->OB
 |[.lst ds]=>(sV ds).map λbs=>(.bl (bs.all id),false)
 |_=>none
@[simp] def FJ:List D->OB
 |[.lst ds]=>(sV ds).map λbs=>(.bl (bs.any id),false)
 |_=>none
theorem L0 (hc:X.calm=true:=by rfl):bV X (.builtin "any") (D4 X.K FJ):=by
 intro ae s σ H xs us Q I rs q;obtain⟨B,ds,d,bb,sB,i,ee,q⟩:=q;match ds,i,ee with
 |[.lst es],.cons i1 .nil,ee=>
  obtain⟨bs,eb,ee⟩:=oY ee;cases ee
  obtain⟨u1,rfl,r1⟩:=hV rs;cases i1 with
  |@lst l vs _ h hl=>
   cases r1
   obtain⟨its,rv,p1,z1⟩:=I.list (sB.seq h);have ei:=BV rv hl eb;have fw:l<s.heap.objs.size:=by obtain⟨_,e0,_⟩:=p1.isList;exact vX e0
   refine call_any_walk (wpAny_pyIter_list p1.isList ⟨_,_,_,_,_,_,λj=>(bs[j]?).getD false,rfl,Walks.list (A:=X.A.in1) (I.ok.hd hc) s.heap.objs.size l (vS fw) its.toArray,⟨⟨_,vY _ rfl,rfl,rfl⟩,p1.isList.push _⟩,λj v s' Q' E' hP hQ=>?_,λh' tk hk=>?_⟩)
   ·have Wj:its[j]? = some v:=by simpa using hP
    rw[ei,vA]at Wj;obtain⟨c,e1,e2⟩:=oY Wj;subst e2;dsimp only at hQ;rw[e1]at hQ;exact wpAny_truthy_bool hQ
   ·have ea:((List.range its.toArray.size).any λj=>(bs[j]?).getD false)=bs.any id:=by
     rw[vH,ei,vI];exact LSm.range_any bs
    rw[ea];refine⟨.bl _,H,I.kept λc o e0=>?_,rfl,q.one sB (.bl _)⟩;exact hk c o (λhm=>by rw[uT hm]at e0;exact Nat.lt_irrefl _ (vX e0)) (vZ _ e0)
theorem L3:bootBuiltins "any" = some (.builtin "any"):=by decide +kernel
end
noncomputable def Sn (z:Str):It:=⟨λi _=>i<z.cps.size,λi H v H'=>H'=H/\∃c,z.cps[i]? = some c/\v=.str ⟨#[c]⟩,λi _=>z.cps.size<=i⟩
theorem yp {P:Program}{w:World}{K:Frag}{tg:Expr}(z:Str)(t:Tok)(it:Addr):Turn P w K tg (Sn z) [it] it (λi h=>h.IsStrIter it "str_ascii_iterator" z t i) where
 mem:=List.mem_singleton.mpr rfl
 obj:=λi h st b hb=>by
  have eb:=uT hb;subst eb;obtain⟨o,e1,_,d1⟩:=st;exact⟨o,e1,λv zz=>by rw[d1]at zz;cases zz⟩
 keep:=λi h h' st k=>let ⟨o,e1,r⟩:=st;⟨o,k it (List.mem_singleton.mpr rfl) o e1,r⟩
 item:=by
  intro X hP hw hK hc i ae s σ H E I hf st hg;subst hP hw hK;have Oy:i<z.cps.size:=hg;obtain⟨f0,f1,f2,f3,f4,f5⟩:=hf it (List.mem_singleton.mpr rfl);refine wpAny_pyNext_ascii_item st (c:=z.cps[i]) (by simp[Oy]) λh' jh sb=>?_;obtain⟨o,e1,c1,d1⟩:=id jh;exact⟨_,rfl,pN (s:={ s with heap:=h',toks:=s.toks+1 }) e1 c1 d1 (by decide) ⟨.str ⟨#[z.cps[i]]⟩,H,I.turned (λb o hb e2=>(sb.2 b hb).trans e2) f0 f1 f3 f4 f5,⟨_,rfl⟩,⟨rfl,_,by simp[Oy],rfl⟩,jh,λb hb=>(hf b hb).1⟩⟩
 done:=by
  intro X hP hw hK hc i ae s σ H E I hf st hg;subst hP hw hK;have Oy:z.cps.size<=i:=hg;obtain⟨f0,f1,f2,f3,f4,f5⟩:=hf it (List.mem_singleton.mpr rfl);exact wpAny_pyNext_ascii_end (I.ok.hd hc) st (by simp;omega) λh' eb=>⟨rfl,I.turned (t':=s.toks) (λb o hb e2=>eb b o hb e2) f0 f1 f3 f4 f5⟩
 self:=λ_ _ _ _ _ st h=>wpAny_pyIter_striter_ascii st h
theorem yq {P:Program}{w:World}{K:Frag}{tg:Expr}(z:Str)(t:Tok)(it:Addr):Turn P w K tg (Sn z) [it] it (λi h=>h.IsStrIter it "str_iterator" z t i) where
 mem:=List.mem_singleton.mpr rfl
 obj:=λi h st b hb=>by
  have eb:=uT hb;subst eb;obtain⟨o,e1,_,d1⟩:=st;exact⟨o,e1,λv zz=>by rw[d1]at zz;cases zz⟩
 keep:=λi h h' st k=>let ⟨o,e1,r⟩:=st;⟨o,k it (List.mem_singleton.mpr rfl) o e1,r⟩
 item:=by
  intro X hP hw hK hc i ae s σ H E I hf st hg;subst hP hw hK;have Oy:i<z.cps.size:=hg;obtain⟨f0,f1,f2,f3,f4,f5⟩:=hf it (List.mem_singleton.mpr rfl);refine wpAny_pyNext_wide_item st (c:=z.cps[i]) (by simp[Oy]) λh' jh sb=>?_;obtain⟨o,e1,c1,d1⟩:=id jh;exact⟨_,rfl,pN (s:={ s with heap:=h',toks:=s.toks+1 }) e1 c1 d1 (by decide) ⟨.str ⟨#[z.cps[i]]⟩,H,I.turned (λb o hb e2=>(sb.2 b hb).trans e2) f0 f1 f3 f4 f5,⟨_,rfl⟩,⟨rfl,_,by simp[Oy],rfl⟩,jh,λb hb=>(hf b hb).1⟩⟩
 done:=by
  intro X hP hw hK hc i ae s σ H E I hf st hg;subst hP hw hK;have Oy:z.cps.size<=i:=hg;obtain⟨f0,f1,f2,f3,f4,f5⟩:=hf it (List.mem_singleton.mpr rfl);exact wpAny_pyNext_wide_end (I.ok.hd hc) st (by simp;omega) λh' eb=>⟨rfl,I.turned (t':=s.toks) (λb o hb e2=>eb b o hb e2) f0 f1 f3 f4 f5⟩
 self:=λ_ _ _ _ _ st h=>wpAny_pyIter_striter_wide st h
section
variable {X:Cx}{a b e:Expr}{pos:Pos}{x:Str}{p:Pos}{tg:Expr}
theorem FK {l:Expr}{tl:TE}(hl:PE X l tl):PI X tg l (λσ H R=>tl σ H λx H1=>∃z,x=.str z/\R (Sn z) H1):=by
 intro ae s σ H R I h;refine cE (hl ae s σ H _ I h) λv s1 ⟨x,H1,I1,r1,q1⟩=>?_;obtain⟨z,rfl,q⟩:=q1;obtain⟨t,rfl⟩:=r1;have fp:∀b∈[s1.heap.objs.size],nz X ae H1 b:=λb hb=>by
  rw[uT hb];exact I1.fpOk (vT _) (I1.hok.fresh (vT _))
 cases ha:z.cps.all (· < 128) with
 |true=>exact wpAny_pyIter_ascii ha ⟨_,[s1.heap.objs.size],_,_,H1,rfl,I1.kept (t':=s1.toks) λb o e=>vZ _ e,yp z t _,⟨_,vY _ rfl,rfl,rfl⟩,fp,q⟩
 |false=>exact wpAny_pyIter_wide ha ⟨_,[s1.heap.objs.size],_,_,H1,rfl,I1.kept (t':=s1.toks) λb o e=>vZ _ e,yq z t _,⟨_,vY _ rfl,rfl,rfl⟩,fp,q⟩
noncomputable def BW (z:Str):List D:=z.cps.toList.map λc=>.str ⟨#[c]⟩
theorem FL {K:Frag}{B:Hp}(z:Str):nD K (Sn z) B (BW z):=by
 intro i H s;refine⟨λd ed=>?_,λhl=>by unfold BW at hl;show z.cps.size<=i;simpa using hl⟩;unfold BW at ed;rw[vA]at ed;obtain⟨c,ec,rfl⟩:=oY ed;have Wk:z.cps[i]? = some c:=by simpa using ec
 refine⟨(Array.getElem?_eq_some_iff.mp Wk).1,λv H' hy=>?_⟩;obtain⟨rfl,c',e1,rfl⟩:=hy;rw[Wk]at e1;cases e1;exact⟨B,.refl s,.str _⟩
@[simp] def NA:D->Option (List D)
 |.lst ds=>some ds
 |.tup ds=>some ds
 |.str z=>some (BW z)
 |_=>none
@[simp] def cy (f:FE):FA:=λρ=>(f ρ).bind λx=>NA x.1
theorem c9 (h:JE X e f):JI X tg e (cy f):=by
 intro ae s σ H R I q;obtain⟨B,ρ,ds,sB,r,e',q⟩:=q;obtain⟨xx,ex,es⟩:=oX e';obtain⟨xd,xb⟩:=xx;cases xd with
 |lst l=>exact BU h ae s σ H R I ⟨B,ρ,ds,sB,r,by unfold FC;rw[ex];exact es,q⟩
 |tup l=>exact BU h ae s σ H R I ⟨B,ρ,ds,sB,r,by unfold FC;rw[ex];exact es,q⟩
 |str z=>
  cases es
  refine FK h ae s σ H R I ⟨B,ρ,_,_,sB,r,ex,λv H1 N1 x1 i1 _=>?_⟩;cases i1
  exact⟨z,rfl,q _ H1 N1 x1 (FL z)⟩
 |_=>cases es
theorem Jj:EJ X (λx lo hi H Q=>∃z,x=.str z/\z.length<=sizeLine/\Q (.str (Txt.slice z lo hi)) H):=by
 intro ae s σ H x v vl vu lo hi sl Q I rx hs pl pu h;obtain⟨z,rfl,hz,q⟩:=h;obtain⟨t,rfl⟩:=rx;have lr:∀lo hi,Q (.str (Txt.slice z lo hi)) H->(Txt.slice z lo hi).length<=sizeLine/\∀t' k,EP X ae σ Q (.str (Txt.slice z lo hi) t') { s with toks:=k }:=λlo hi q=>
  ⟨vR (Txt.slice_le z _ _) hz,λt' k=>⟨.str _,H,I.tok k,⟨t',rfl⟩,q⟩⟩
 refine⟨"str",_,PySem.F.slot_str_getitem.lookup,typeIs_str _ _ _,?_⟩;cases pl with
 |none=>
  cases pu with
  |none=>exact wpAny_getItem_str_slice (l:=none) (u:=none) (st:=none) hs rfl (post_val_or_str (lr _ _ q))
  |int j tj=>exact wpAny_getItem_str_slice (l:=none) (u:=some (j,tj)) (st:=none) hs rfl (post_val_or_str (lr _ _ q))
 |int i ti=>
  cases pu with
  |none=>exact wpAny_getItem_str_slice (l:=some (i,ti)) (u:=none) (st:=none) hs rfl (post_val_or_str (lr _ _ q))
  |int j tj=>exact wpAny_getItem_str_slice (l:=some (i,ti)) (u:=some (j,tj)) (st:=none) hs rfl (post_val_or_str (lr _ _ q))
theorem DC {A:Around}{E:Value->Shared->Prop}{s:Shared}{prog:Program}{w:World}{t sl:Addr}{items:Array Value}{vl vu:Value}{lo hi:Option Int}{Q:Value->Shared->Prop}(ht:IsTup s.heap t items)(hs:s.heap.IsSliceOf sl vl vu .none)(pl:IsPart vl lo)(pu:IsPart vu hi)
  (h0:HT.eC items.size 0 lo=0) (h1:HT.eC items.size items.size hi=items.size) (h:Q (.ref t) s):wpAny (model prog w) A (getItem (.ref t) (.ref sl)) Q E s:=by
 obtain⟨os,K4,x0,Op⟩:=id hs
 have hT:s.TypeIs (.ref sl) "slice":=⟨os,K4,x0⟩
 unfold getItem
 try with_reducible refine wpAny_holding ?_
 first|refine wX (wY ?_)|skip
 refine wX (wpAny_sequenceKey ht.typeIs (by decide) ?_)
 refine wX (wpAny_callSpecial?_slot (name:=Str.ofString "__getitem__") ht.typeIs PyProof.Rows.slot_tuple_getitem (wpAny_call_entry PyProof.Rows.slot_tuple_getitem ht.typeIs entry_tuple_getitem ?_ (args_tuple_getitem _ _)))
 show wpAny _ _ (Builtin.Tuple.tupleItemsOf (.ref t)>>=_) _ _ s
 refine wX (tupleItemsOf_ ht ?_)
 refine wX (wpAny_typeOf hT ?_)
 rw[if_pos (by decide)]
 refine wX (HT.jl hs pl pu ?_)
 have Yp:(((HT.eC items.size 0 lo:Nat):Int) == 0 && (1:Int) == 1 && (HT.eC items.size items.size hi - HT.eC items.size 0 lo) == items.size)=true:=by
  rw[h0,h1];simp
 show wpAny _ _ (if(((HT.eC items.size 0 lo:Nat):Int) == 0 && (1:Int) == 1 && (HT.eC items.size items.size hi - HT.eC items.size 0 lo) == items.size)=true then _ else _) _ _ s
 rw[if_pos Yp]
 refine wX ?_
 unfold Builtin.Tuple.tupleIsExact
 refine wX (wpAny_typeOf ht.typeIs (wY ?_))
 show wpAny _ _ (if((Value.type "tuple") == Value.type "tuple")=true then _ else _) _ _ s
 rw[if_pos (by decide)]
 refine wX (wpAny_rule ?_)
 exact wY ⟨_,rfl,wY h⟩
theorem Jk:EJ X (λx lo hi H Q=>∃a xs,x=.ref a/\jj X.K H a xs/\HT.eC xs.length 0 lo=0/\HT.eC xs.length xs.length hi=xs.length/\Q (.ref a) H):=by
 intro ae s σ H x v vl vu lo hi sl Q I rx hs pl pu h;obtain⟨a,xs,rfl,hx,h0,h1,q⟩:=h;cases rx
 obtain⟨its,r,ht,hz⟩:=I.tuple hx;have bB:its.toArray.size=xs.length:=by rw[vH];exact r.length.symm
 refine⟨"tuple",_,PyProof.Rows.slot_tuple_getitem.lookup,ht.typeIs,?_⟩;exact DC ht hs pl pu (by rw[bB];exact h0) (by rw[bB];exact h1) ⟨.ref a,H,I,rfl,q⟩
@[simp] def Q8 (fa:FE)(fl fh:FO):FE:=λρ=>(fa ρ).bind λx=>(fl ρ).bind λl=>(fh ρ).bind λh=>match x.1 with
 |.lst ds=>some (.lst (nG ds l h),true)
 |.tup ds=>some (.tup (nG ds l h),false)
 |.str z=>if z.length<=sizeLine then some (.str (Txt.slice z l h),false)else none
 |_=>none
theorem AB {ds:List D}{lo hi:Option Int}(h0:HT.eC ds.length 0 lo=0)(h1:HT.eC ds.length ds.length hi=ds.length):nG ds lo hi=ds:=by
 unfold nG;rw[h0,h1];simp
theorem yr {lo hi:Option Expr}{p2:Pos}{fa:FE}{fl fh:FO}(ha:JE X e fa)(hl:JO X lo fl)(hh:JO X hi fh):JE X (.Subscript e (.Slice lo hi none p2) pos) (Q8 fa fl fh):=by
 refine PE.to (Fd (EJ.or (EJ.or IE MU) (EJ.or Jj Jk)) ha hl hh) λσ H Q q=>?_;obtain⟨B,ρ,d,b,sB,r,e,q⟩:=q;obtain⟨x,ex,e⟩:=oX e;obtain⟨l,el,e⟩:=oX e;obtain⟨h,eh,e⟩:=oX e;refine⟨B,ρ,x.1,x.2,sB,r,ex,λv H1 N1 x1 i1 _=>⟨N1,ρ,l,x1.nh,r.mono x1.bn,el,λH2 h2=>⟨N1,ρ,h,x1.nh.trans h2,r.mono x1.bn,eh,λH3 h3=>?_⟩⟩⟩;have s3:aX N1 H3:=x1.nh.trans (h2.trans h3);have q3:=q.into (x1.trans (.grow x1.nh (h2.trans h3)));obtain⟨xd,xb⟩:=x;dsimp only at e i1;cases i1 with
 |@tup a' vs ds hs hv=>
  cases e
  by_cases hw:HT.eC ds.length 0 l=0/\HT.eC ds.length ds.length h=ds.length
  ·rw[AB hw.1 hw.2]at q3;exact .inr (.inr ⟨a',vs,rfl,bj s3 hs,by rw[hv.length];exact hw.1,by rw[hv.length];exact hw.2,q3.one s3 (.tup hs hv)⟩)
  ·refine .inl (.inr ⟨a',vs,rfl,bj s3 hs,by rw[hv.length];exact hw,λp hp=>?_⟩);have x4:=Ext.laid (o:=.tup (sP vs l h)) s3 hp;exact q3 _ _ _ x4 (.tup (jj.of aC) ((wA hv).mono x4.bn)) (by simp)
 |@lst a' vs ds hs hv=>
  cases e
  refine .inl (.inl ⟨a',vs,rfl,s3.seq hs,λp hp=>?_⟩);have x4:=Ext.laid (o:=.lst (sP vs l h)) s3 hp;exact q3 _ _ _ x4 (.lst (hU.of aC) ((wA hv).mono x4.bn)) λ_=>⟨p,_,_,rfl,rfl,hp,aC,(wA hv).mono x4.bn⟩
 |str z=>
  dsimp only at e;split at e
  ·rename_i hz;cases e
   exact .inr (.inl ⟨z,rfl,hz,q3.one s3 (.str _)⟩)
  ·cases e
 |_=>cases e
noncomputable def wD:Value->D->Bool
 |.none,.non=>true
 |.bool a,.bl b=>a == b
 |.int i _,.int j=>decide (i=j)
 |.str i _,.str j=>decide (i=j)
 |_,_=>false
def jD:List Value->List D->Bool
 |[],[]=>true
 |u::us,d::ds=>wD u d && jD us ds
 |_,_=>false
theorem kQ {K:Frag}{B:Hp}:∀ {u:Value}{d:D},wD u d=true->∃v,ba v u/\Is K B v d
 |.none,.non,_=>⟨.non,rfl,.non⟩
 |.bool a,.bl b,h=>by
  have:a=b:=eq_of_beq h;subst this;exact⟨.bl a,rfl,.bl a⟩
 |.int i t,.int j,h=>by
  have:i=j:=of_decide_eq_true h;subst this;exact⟨.int i,⟨t,rfl⟩,.int i⟩
 |.str i t,.str j,h=>by
  have:i=j:=of_decide_eq_true h;subst this;exact⟨.str i,⟨t,rfl⟩,.str i⟩
theorem jE {K:Frag}:∀ {us:List Value}{ds:List D},jD us ds=true->∃vs,L2.aY vs us/\∀B,IsL K B vs ds
 |[],[],_=>⟨[],.nil,λ_=>.nil⟩
 |u::us,d::ds,h=>by
  rw[jD,vC]at h;obtain⟨vs,r,i⟩:=jE (K:=K) h.2;obtain⟨v,r1,_⟩:=kQ (K:=K) (B:=λ_=>none) h.1;refine⟨v::vs,.cons r1 r,λB=>?_⟩;obtain⟨v',HA,i'⟩:=kQ (K:=K) (B:=B) h.1;have:v'=v:=by have z1:=r1.abs;rw[HA.abs]at z1;exact vK z1
  subst this;exact .cons i' (i B)
theorem const_tup {K:Frag}{y:Str}{a:Addr}{od:Option Addr}{its:Array Value}{n:Nat}{ph:Array (Option Value)}{ds:List D}(e:nsIn K mainGlobals y=some (some (.ref a)))
  (l:K.lookup a=some ⟨.type "tuple",od,.seq its n,ph⟩) (h:(decide (its.size<=1000) && jD its.toList ds)=true):∃u v,nsIn K mainGlobals y=some (some u)/\ba v u/\∀B,Is K B v (.tup ds):=by
 rw[vC]at h;obtain⟨vs,r,i⟩:=jE (K:=K) h.2;exact⟨_,.ref a,e,rfl,λB=>.tup (.inr ⟨_,its,n,l,rfl,rfl,Nat.le_of_lt (Nat.lt_of_le_of_lt (of_decide_eq_true h.1) (by decide)),r⟩) (i B)⟩
end
section
variable {X:Cx}{a b o e:Expr}{pos:Pos}{x:Str}{p:Pos}{tg:Expr}
theorem NB {name:Str}{id:String}{dI cH:Pos}{op:D->D->OB}{fo fe:FE}(slot:Slot "str" name id)(LV:typeOf (.builtin id)=pure (.type "method_descriptor"))
  (hm:IC X id (λx xs H Q=>∃y,xs=[y]/\rD X.K op x y H Q)) (HB:∀dx dy r,op dx dy=some r->∃z,dx=.str z) (ho:JE X o fo) (he:JE X e fe)
  (iG:attributeBase o name X.env (eval o X.env)=eval o X.env:=by rfl)
  (B4:((backTo cH (starEach [e] X.env)).all (λx=>!x.1) && (backToKw cH (keywordEach [] X.env)).all (λx=>x.1.isSome)
   && decide ([e].length+([]:List Keyword).length+(if([]:List Keyword).isEmpty then 0 else 1)<30))=true:=by rfl)
  (iH:(dI.endLine == cH.line)=true:=by rfl) (hs:starEach [e] X.env=[(false,eval e X.env)]:=by rfl):
  JE X (.Call (.Attribute o name dI) [e] [] cH) (f2 op fo fe):=by
 refine PE.to (Fg PySem.F.plainAttrs_str slot LV hm ho (iN he kn hs) iG B4 iH hs rfl) λσ H Q q=>?_;obtain⟨B,ρ,d,bb,sB,r,ee,q⟩:=q;obtain⟨x1,ex,ee⟩:=oX ee;obtain⟨y1,ey,ee⟩:=oX ee;obtain⟨z,hz⟩:=HB _ _ _ ee;refine⟨B,ρ,x1.1,x1.2,sB,r,ex,λv H1 N1 Ux i1 _=>?_⟩;rw[hz]at i1;cases i1
 refine⟨show "str" = "str" from rfl,N1,ρ,y1.1,y1.2,Ux.nh,r.mono Ux.bn,ey,λv2 H2 N2 R6 i2 _=>⟨v2,rfl,N2,.str z,y1.1,d,bb,R6.nh,.str z,i2,by rw[←hz];exact ee,q.into (Ux.trans R6)⟩⟩
@[simp] noncomputable def NC:D->Option Str
 |.str z=>some z
 |_=>none
def g7:List D->Option (List Str)
 |[]=>some []
 |d::ds=>(NC d).bind λz=>(g7 ds).map (z :: ·)
@[simp] theorem OX:g7 []=some []:=rfl
@[simp] theorem AD (d:D)(ds:List D):g7 (d::ds)=(NC d).bind λz=>(g7 ds).map (z :: ·):=rfl
@[simp] theorem OY (zs:List Str):g7 (zs.map D.str)=some zs:=by
 induction zs with
 |nil=>rfl
 |cons z zs ih=>simp[ih]
theorem jp {K:Frag}{B:Hp}:∀ {vs:List V}{ds:List D}{zs:List Str}{its:List Value},L2.aY vs its->IsL K B vs ds->g7 ds=some zs->StrsAre its zs
 |_,_,_,_,.nil,.nil,e=>by cases e;exact .nil
 |_,_,_,_,.cons r rr,.cons i ii,e=>by
  rw[AD]at e;obtain⟨z,e1,e⟩:=oX e;obtain⟨zs,e2,e⟩:=oY e;subst e;cases i<;>simp only[NC]at e1<;>try (cases e1;done)
  cases e1
  obtain⟨t,rfl⟩:=r;exact .cons _ t (jp rr ii e2)
@[simp] def o9:D->D->OB
 |.str sep,.lst ds=>(g7 ds).bind λzs=>if(zs.map (·.length)).sum+zs.length*sep.length<=16777216 then some (.str (Txt.join sep zs),false)else none
 |.str sep,.tup ds=>(g7 ds).bind λzs=>if(zs.map (·.length)).sum+zs.length*sep.length<=16777216 then some (.str (Txt.join sep zs),false)else none
 |_,_=>none
theorem ND:IC X "str.join" (λx xs H Q=>∃y,xs=[y]/\rD X.K o9 x y H Q):=by
 intro ae s σ H x xs v us Q I rx rs h;obtain⟨y,rfl,B,dx,dy,d,bb,sB,ix,iy,ee,q⟩:=h;obtain⟨u1,rfl,r1⟩:=hV rs;cases ix<;>(try (simp[o9]at ee;done))
 obtain⟨t,rfl⟩:=rx;cases iy<;>(try (simp[o9]at ee;done))
 ·rename_i h hl;simp only[o9]at ee;obtain⟨zs,ez,ee⟩:=oX ee;split at ee
  ·rename_i hok;cases ee
   cases r1
   obtain⟨its,rv,p1,z1⟩:=I.tuple (bj sB h);exact join_tuple p1 (by simpa using jp rv hl ez) hok λt' k=>⟨.str _,H,I.tok k,⟨t',rfl⟩,q.one sB (.str _)⟩
  ·cases ee
 ·rename_i h hl;simp only[o9]at ee;obtain⟨zs,ez,ee⟩:=oX ee;split at ee
  ·rename_i hok;cases ee
   cases r1
   obtain⟨its,rv,p1,z1⟩:=I.list (sB.seq h);exact join_list p1.isList (by simpa using jp rv hl ez) hok λt' k=>⟨.str _,H,I.tok k,⟨t',rfl⟩,q.one sB (.str _)⟩
  ·cases ee
theorem FM (dx dy:D)(r:D×Bool)(h:o9 dx dy=some r):∃z,dx=.str z:=by
 cases dx<;>first|exact⟨_,rfl⟩|(cases dy<;>simp[o9]at h)
noncomputable def g8:List Nat->List D->Env->Option Env
 |[],[],ρ=>some ρ
 |i::is,d::ds,ρ=>g8 is ds (ρ.set i (some (d,false)))
 |_,_,_=>none
@[simp] theorem tV (ρ:Env):g8 [] [] ρ=some ρ:=by rw[g8]
@[simp] theorem lK (i:Nat)(is:List Nat)(d:D)(ds:List D)(ρ:Env):g8 (i::is) (d::ds) ρ=g8 is ds (ρ.set i (some (d,false))):=by rw[g8]
@[simp] theorem Q9 (d:D)(ds:List D)(ρ:Env):g8 [] (d::ds) ρ=none:=by simp only[g8]
@[simp] theorem QA (i:Nat)(is:List Nat)(ρ:Env):g8 (i::is) [] ρ=none:=by simp only[g8]
@[simp] def L4 (is:List Nat):FG:=λd ρ=>match d with|.tup ds=>g8 is ds ρ|_=>none
def pY:List Nat->M7
 |[]=>PP
 |i::is=>KO (jR i) (pY is)
theorem FN:aX (eD N (own σ ρ)) (eD N (own (σ.set i (some v)) (ρ.set i (some (d,false))))):=eK λa u e q=>⟨e,λz=>q (by
 rcases ww z with⟨_,d',p⟩|⟨j,_,d',q1,q2⟩
 ·cases p
 ·exact⟨j,d',q1,q2⟩)⟩
theorem tW {K:Frag}:∀ {is:List Nat}{vs:List V}{ds:List D}{B0 H0 N H:Hp}{σ:St}{ρ ρ':Env}{Q:St->Hp->Prop},eI K B0 H0 N H σ ρ->IsL K (eD N (own σ ρ)) vs ds->g8 is ds ρ=some ρ'->(∀σ',eI K B0 H0 N H σ' ρ'->Q σ' H)->pY is vs σ H Q
 |[],_,_,_,_,_,_,_,_,_,_,s,.nil,e,k=>by
  rw[tV]at e;cases e;exact⟨rfl,k _ s⟩
 |[],_,_,_,_,_,_,_,_,_,_,_,.cons _ _,e,_=>by simp at e
 |_::_,_,_,_,_,_,_,_,_,_,_,_,.nil,e,_=>by simp at e
 |i::is,_,_,_,_,_,_,_,_,_,_,s,.cons h hs,e,k=>by
  rw[lK]at e;exact⟨_,_,rfl,tW (s.bind h) (hs.mono FN) e k⟩
theorem nH:∀ {is:List Nat}{ds:List D}{ρ ρ':Env},g8 is ds ρ=some ρ'->ds.length=is.length
 |[],[],_,_,_=>rfl
 |_::_,_::_,_,_,e=>by rw[lK]at e;simp[nH e]
 |[],_::_,_,_,e=>by simp at e
 |_::_,[],_,_,e=>by simp at e
theorem QB {K:Frag}{is:List Nat}:IP K (L4 is) (M9 K is.length (pY is)):=by
 intro B0 H0 N H σ ρ ρ' v d Q s h e k;cases h with
 |@tup a vs ds ht hl=>
  have e':g8 is ds ρ=some ρ':=e;exact⟨a,vs,rfl,bj (bK.trans s.ext.nh) ht,by rw[hl.length];exact nH e',tW s hl e' λσ' s'=>k σ' H ⟨N,s'⟩⟩
 |_=>cases e
theorem tX {K:Frag}{n:Nat}{B H:Hp}{ρ0:Env}{Q:St->Hp->Prop}(cl:∀i,i<n->ρ0[i]? = some none):∀ {is:List Nat}{vs:List V}{ds:List D}{σ:St}{ρ ρ1:Env},(∀i∈is,i<n)->fO K B σ ρ->IsL K B vs ds->g8 is ds ρ=some ρ1->ρ.length=σ.length->ρ.length=ρ0.length ->
  (∀σ1,fO K B σ1 ρ1->(∀B',fO K B' σ ρ0->fO K B' σ1 ρ0)->ρ0.length=σ1.length->Q σ1 H)->pY is vs σ H Q
 |[],_,_,_,_,_,_,rp,.nil,e,l1,l2,k=>by
  rw[tV]at e;cases e;exact⟨rfl,k _ rp (λ_ z=>z) (by omega)⟩
 |[],_,_,_,_,_,_,_,.cons _ _,e,_,_,_=>by simp at e
 |_::_,_,_,_,_,_,_,_,.nil,e,_,_,_=>by simp at e
 |i::is,_,_,σ,ρ,_,hn,rp,.cons (v:=v) h hs,e,l1,l2,k=>by
  rw[lK]at e;have hi:=hn i mX;have E5:i<σ.length:=by
   have:=(vV (cl i hi)).1;omega
  refine⟨_,_,rfl,tX cl (λj hj=>hn j (mZ _ hj)) ⟨rp.tb,λj d b q=>?_⟩ hs e (by simpa using l1) (by simpa using l2) λσ1 r1 r2 l=>k σ1 r1 (λB' z=>r2 B' ⟨z.tb,λj d b q=>?_⟩) l⟩
  ·rcases cf q with⟨rfl,pp⟩|⟨ne,pp⟩
   ·cases pp
    exact⟨v,by simp[E5],h⟩
   ·obtain⟨w,h1,h2⟩:=rp.at' j d b pp;exact⟨w,by rw[vB ne];exact h1,h2⟩
  ·obtain⟨w,h1,h2⟩:=z.at' j d b q;have ne:i≠j:=λz=>by subst z;rw[cl i hi]at q;cases q
   exact⟨w,by rw[vB ne];exact h1,h2⟩
theorem L5 {K:Frag}{n:Nat}{is:List Nat}(hn:∀i∈is,i<n):Lc K n (L4 is) (M9 K is.length (pY is)):=by
 intro B H σ ρ ρ1 v d Q cl rep s h e hl k;cases h with
 |@tup a vs ds ht hv=>
  have e':g8 is ds ρ=some ρ1:=e;exact⟨a,vs,rfl,bj s ht,by rw[hv.length];exact nH e',tX cl hn rep hv e' hl rfl k⟩
 |_=>cases e
end
section
variable {prog:Program}{w:World}{A:Around}{E:Value->Shared->Prop}{s:Shared}
theorem AE (st:s.heap.IsTupleIter it l i)(ht:s.heap.IsTuple l items)(hv:items[i]? = some v)
  (k:∀h',h'.IsTupleIter it l (i+1)->Heap.SameBut it s.heap h'->Q v { s with heap:=h' }):wpAny (model prog w) A (Builtin.SmallTypes.nextOf (.ref it)) Q E s:=by
 obtain⟨o1,g1,c1,d1⟩:=id st;obtain⟨o2,g2,_,n2,d2⟩:=ht;unfold Builtin.SmallTypes.nextOf;refine wX (wpAny_callSpecial?_slot (name:=Str.ofString "__next__") st.typeIs PySem.F.slot_tuple_iterator_next (wpAny_call_entry PySem.F.slot_tuple_iterator_next st.typeIs PySem.F.entry_tuple_iterator_next ?_ (PySem.F.args_tuple_iterator_next_1 _)));show wpAny _ _ (field (.ref it) 0>>=_) _ _ _;refine wX (wpAny_field g1 d1 (x:=.ref l) rfl ?_);show wpAny _ _ (if(Value.ref l == Value.none)=true then _ else _) _ _ _;rw[if_neg (λz=>uX z:¬((Value.ref l == Value.none)=true))];show wpAny _ _ (field (.ref it) 1>>=_) _ _ _;refine wX (wpAny_field g1 d1 (x:=.int i 0) rfl ?_);show wpAny _ _ (seqItems? (.ref l)>>=_) _ _ _;refine wX (wpAny_seqItems g2 d2 ?_);simp only[hv,Int.toNat_natCast];refine wX (wpAny_setField g1 d1 (by simp) (wY ⟨v,rfl,wY (k _ ?_ (vW ..))⟩));exact⟨_,Heap.get?_update_self _ g1 (Obj.isFreed_of_fields (Obj.data_mapFields d1 _)),(Obj.cls_mapFields ..).trans c1,by rw[Obj.data_mapFields d1];simp[rawInt]⟩
theorem DD (hA:A.handled=none)(st:s.heap.IsTupleIter it l i)(ht:s.heap.IsTuple l items)(hv:items[i]? = none)
  (k:∀h' x,Heap.ExtBut it s.heap h'->(∃o,h'.get? x=some o/\o.cls=.type "StopIteration")->E (.ref x) { s with heap:=h' }):wpAny (model prog w) A (Builtin.SmallTypes.nextOf (.ref it)) Q E s:=by
 obtain⟨o1,g1,c1,d1⟩:=id st;obtain⟨o2,g2,_,n2,d2⟩:=ht;unfold Builtin.SmallTypes.nextOf;refine wX (wpAny_callSpecial?_slot (name:=Str.ofString "__next__") st.typeIs PySem.F.slot_tuple_iterator_next (wpAny_call_entry PySem.F.slot_tuple_iterator_next st.typeIs PySem.F.entry_tuple_iterator_next ?_ (PySem.F.args_tuple_iterator_next_1 _)));show wpAny _ _ (field (.ref it) 0>>=_) _ _ _;refine wX (wpAny_field g1 d1 (x:=.ref l) rfl ?_);show wpAny _ _ (if(Value.ref l == Value.none)=true then _ else _) _ _ _;rw[if_neg (λz=>uX z:¬((Value.ref l == Value.none)=true))];show wpAny _ _ (field (.ref it) 1>>=_) _ _ _;refine wX (wpAny_field g1 d1 (x:=.int i 0) rfl ?_);show wpAny _ _ (seqItems? (.ref l)>>=_) _ _ _;refine wX (wpAny_seqItems g2 d2 ?_);simp only[hv,Int.toNat_natCast];refine wX (wpAny_rule (wX (wpAny_setField g1 d1 (by simp) ?_)));show wpAny _ _ (newExc (.type "StopIteration") []>>=_) _ _ _;refine wX ?_;simp only[newTuple,newExc];refine wX (wpAny_newObj_type ?_ (by size_fits));refine wX (m:=firstArgMember _ _) (wpAny_of_eq (a:=Value.none) (by first|(simp only[firstArgMember];rfl)|rfl) ?_);refine wpAny_newObj_type ?_ (by size_fits);simp only[raiseNew];refine wX (wpAny_handled ?_);first|rw[hA]|rw[show A.in1.handled=none from hA]
 exact wX (wY (wpAny_throw (k _ _ (((vW ..).extBut.push _).push _) ⟨_,vY _ rfl,rfl⟩)))
end
def BX:Bool->Heap->Addr->Addr->Nat->Prop
 |true,h,it,a,i=>h.IsListIter it a i
 |false,h,it,a,i=>h.IsTupleIter it a i
def Ab:Bool->Heap->Addr->Array Value->Prop
 |true,h,a,items=>h.IsList a items
 |false,h,a,items=>h.IsTuple a items
def AF (k:Bool)(K:Frag)(H:Hp)(a:Addr)(xs:List V):Prop:=match k with|true=>hU K H a xs|false=>jj K H a xs
theorem BX.ob (st:BX k h it a i):∃o,h.get? it=some o/\∀v,o.data≠.cell v:=by
 cases k<;>(obtain⟨o,g,_,d⟩:=st;exact⟨o,g,λv z=>by rw[d]at z;cases z⟩)
theorem BX.upon (st:BX k h it a i)(g:∀o,h.get? it=some o->h'.get? it=some o):BX k h' it a i:=by
 cases k<;>(obtain⟨o,e,r⟩:=st;exact⟨o,g o e,r⟩)
theorem Ab.upon (st:Ab k h a items)(g:∀o,h.get? a=some o->h'.get? a=some o):Ab k h' a items:=by
 cases k<;>(obtain⟨o,e,r⟩:=st;exact⟨o,g o e,r⟩)
theorem Ab.lt (st:Ab k h a items):a<h.objs.size:=by
 cases k<;>(obtain⟨o,e,r⟩:=st;exact vX e)
theorem AF.same {k:Bool}{K:Frag}{H H':Hp}{a:Addr}{xs:List V}(h:AF k K H a xs)(e:aX H H'):AF k K H' a xs:=by
 cases k
 ·exact bj e h
 ·exact e.seq h
theorem AF.vals (I:Inv X ae σ H s)(h:AF k X.K H a xs):∃its:List Value,aY xs its/\Ab k s.heap a its.toArray/\xs.length<=sizeLine:=by
 cases k
 ·exact I.tuple h
 ·obtain⟨its,r,p,z⟩:=I.list h;exact⟨its,r,p.isList,z⟩
theorem AF.inj (I:Inv X ae σ H s)(h:AF k X.K H a xs)(h':AF k X.K H a ys):xs=ys:=by
 cases k
 ·exact I.tuple_inj h h'
 ·exact I.list_inj h h'
section
variable {prog:Program}{w:World}{A:Around}{E:Value->Shared->Prop}{s:Shared}
theorem DE (st:BX k s.heap it l i)(ht:Ab k s.heap l items)(hv:items[i]? = some v)
  (q:∀h',BX k h' it l (i+1)->Heap.SameBut it s.heap h'->Q v { s with heap:=h' }):wpAny (model prog w) A (Builtin.SmallTypes.nextOf (.ref it)) Q E s:=by
 cases k
 ·exact AE st ht hv q
 ·exact wpAny_nextOf_list_item st ht hv q
theorem yt (hA:A.handled=none)(st:BX k s.heap it l i)(ht:Ab k s.heap l items)(hv:items[i]? = none)
  (q:∀h' x,Heap.ExtBut it s.heap h'->(∃o,h'.get? x=some o/\o.cls=.type "StopIteration")->E (.ref x) { s with heap:=h' }):wpAny (model prog w) A (Builtin.SmallTypes.nextOf (.ref it)) Q E s:=by
 cases k
 ·exact DD hA st ht hv q
 ·exact wpAny_nextOf_list_end hA st ht hv q
end
noncomputable def NE (k:Bool)(l:Addr):Obj:={ cls:=.type (if k=true then "list_iterator" else "tuple_iterator"),data:=.fields #[.ref l,.int 0 0] }
theorem wE (ht:Ab k s.heap l items)
  (q:Q (.ref s.heap.objs.size) { s with heap:=s.heap.push (NE k l) }):wpAny (model prog w) A (pyIter (.ref l)) Q E s:=by
 cases k
 ·exact wpAny_pyIter_tuple ht q
 ·exact wpAny_pyIter_list ht q
theorem Ab.push (st:Ab k h a items)(o:Obj):Ab k (h.push o) a items:=st.upon λ_ e=>vZ _ e
theorem p8 {X:Cx}{ae:List (Addr×Obj)}{σ:St}{H:Hp}{s:Shared}{h':Heap}{t':Nat}{ch:List Addr}(I:Inv X ae σ H s)(f:∀b∈ch,nz X ae H b)(k:∀b o,b∉ch->s.heap.get? b=some o->h'.get? b=some o):Inv X ae σ H { s with heap:=h',toks:=t' }:=by
 have LR:∀b u,H b=some u->b∉ch:=λb u e z=>by rw[(f b z).1]at e;cases e
 refine I.step (g':=s.gens) (d':=s.drawn) (ch:=ch) (λb hb=>?_) (λb o _ _ hc e _=>k b o hc e) (λb o _ _ hc e _=>⟨o.slots,k b o hc e⟩) (λ_ _ _ _ n=>n)
  (λb o hc e=>⟨o,k b o hc e⟩) (λ_ _ e=>e) (λ_ _ _ e=>e) (λ_ _ e=>e) (λm hm=>?_) (λb u e=>?_) I.bare
 ·obtain⟨_,f1,_,f3,f4,f5⟩:=f b hb;exact⟨f3,f1,f4,f5⟩
 ·obtain⟨o,es,ep,ho,r⟩:=hm;exact⟨o,es,ep,k _ o (λz=>(f _ z).2.1 rfl) ho,r⟩
 ·refine(I.hok b u e).stay (λc v hc q=>k c v ?_ q) (λ_ q=>q) (λ_ _ q=>q) λ_ _ _ q=>q;rcases hc with z|z
  ·rw[z];exact LR b u e
  ·exact LR c _ z
theorem L6 {X:Cx}{ae:List (Addr×Obj)}{σ:St}{H:Hp}{s:Shared}{h':Heap}{t':Nat}{ch:List Addr}{a:Addr}{ob:HO}(I:Inv X ae σ H s)(f:∀b∈ch,nz X ae H b)(k:∀b o,b∉ch->s.heap.get? b=some o->h'.get? b=some o)(ha:s.heap.objs.size<=a)
  (new:cm X.prog X.w (upd H a ob) h' a ob):Inv X ae σ (upd H a ob) { s with heap:=h',toks:=t' }:=by
 have hn:H a=none:=I.hok.fresh ha;have LR:∀b u,H b=some u->b∉ch:=λb u e z=>by rw[(f b z).1]at e;cases e
 have na:∀b o,s.heap.get? b=some o->b≠a:=λb o e=>vS (vQ (vX e) ha);refine I.step (g':=s.gens) (d':=s.drawn) (ch:=ch) (λb hb=>?_) (λb o _ _ hc e _=>k b o hc e) (λb o _ _ hc e _=>⟨o.slots,k b o hc e⟩) (λb o _ e n=>by rw[aI (na b o e)];exact n)
  (λb o hc e=>⟨o,k b o hc e⟩) (λb xs e=>by rw[aI (aZ e hn)];exact e) (λb o u e=>by rw[aI (aZ e hn)];exact e) (λb ps e=>by rw[aI (aZ e hn)];exact e) (λm hm=>?_) (λb u e=>?_) I.bare
 ·obtain⟨_,f1,_,f3,f4,f5⟩:=f b hb;exact⟨f3,f1,f4,f5⟩
 ·obtain⟨o,es,ep,ho,r⟩:=hm;exact⟨o,es,ep,k _ o (λz=>(f _ z).2.1 rfl) ho,r⟩
 ·by_cases hb:b=a
  ·subst hb;rw[aC]at e;cases e;exact new
  ·rw[aI hb]at e;refine(I.hok b u e).stay (λc v hc q=>k c v ?_ q) (λc q=>?_) (λc xs q=>?_) λc o xs q=>?_
   ·rcases hc with z|z
    ·rw[z];exact LR b u e
    ·exact LR c _ z
   ·rw[aI (aZ q hn)];exact q
   ·rw[aI (aZ q hn)];exact q
   ·rw[aI (aZ q hn)];exact q
section
variable {X:Cx}{a b e:Expr}{pos:Pos}{p:Pos}
noncomputable def T1 (xs ys:List D):List D:=List.zipWith (λx y=>.tup [x,y]) xs ys
@[simp] def T2 (fa fb:FE):FA:=λρ=>(fa ρ).bind λx=>(fb ρ).bind λy=>(ie x.1).bind λxs=>(ie y.1).map λys=>T1 xs ys
theorem QC {K:Frag}{B:Hp}{v:V}{d:D}{ds:List D}(h:Is K B v d)(e:ie d=some ds):∃k a vs,v=.ref a/\AF k K B a vs/\IsL K B vs ds:=by
 cases h with
 |tup ht hl=>cases e;exact⟨false,_,_,rfl,ht,hl⟩
 |lst ht hl=>cases e;exact⟨true,_,_,rfl,ht,hl⟩
 |_=>cases e
end
noncomputable def unown1 (ρ:Env)(i:Nat):Env:=match ρ[i]? with
 |some (some (d,true))=>ρ.set i (some (d,false))
 |_=>ρ
theorem eI.unown1 {K:Frag}{B0 H0 N H:Hp}{σ:St}{ρ:Env}(s:eI K B0 H0 N H σ ρ)(i:Nat):eI K B0 H0 N H σ (unown1 ρ i):=by
 unfold DL.unown1;split
 ·rename_i d hd;obtain⟨a,ob,h1,h2,h3,h4⟩:=s.ow i d hd;have get:∀ {j:Nat}{e:D}{b:Bool},(ρ.set i (some (d,false)))[j]? = some (some (e,b))->(i=j/\e=d/\b=false)∨(i≠j/\ρ[j]? = some (some (e,b))):=λq=>by
   rcases cf q with⟨z,p⟩|⟨z,p⟩
   ·cases p;exact .inl ⟨z,rfl,rfl⟩
   ·exact .inr ⟨z,p⟩
  have o:∀c,own σ (ρ.set i (some (d,false))) c->own σ ρ c/\c≠a:=λc ⟨j,e,q1,q2⟩=>by
   rcases get q1 with⟨_,_,z⟩|⟨ne,q⟩
   ·cases z
   ·exact⟨⟨j,e,q,q2⟩,λz=>by subst z;exact ne (s.inj i j _ _ _ hd q h1 q2)⟩
  have c:aX (eD N (own σ ρ)) (eD N (own σ (ρ.set i (some (d,false))))):=eK λb u e q=>⟨e,λz=>q (o b z).1⟩;have na:¬own σ (ρ.set i (some (d,false))) a:=λz=>(o a z).2 rfl;refine⟨s.bh,s.tb,s.ext,by rw[List.length_set];exact s.len,λj e q=>?_,λj e q=>?_,λj k b e f q q' z1 z2=>?_⟩
  ·rcases get q with⟨rfl,rfl,_⟩|⟨_,q⟩
   ·exact⟨_,h1,(h4.mono c).is (by rw[cS na];exact h2)⟩
   ·obtain⟨v,k1,k2⟩:=s.sh j e q;exact⟨v,k1,k2.mono c⟩
  ·rcases get q with⟨_,_,z⟩|⟨_,q⟩
   ·cases z
   ·obtain⟨a',o',k1,k2,k3,k4⟩:=s.ow j e q;exact⟨a',o',k1,k2,k3,k4.mono c⟩
  ·rcases get q with⟨_,_,z⟩|⟨_,q⟩
   ·cases z
   ·rcases get q' with⟨_,_,z⟩|⟨_,q'⟩
    ·cases z
    ·exact s.inj j k b e f q q' z1 z2
 ·exact s
@[simp] noncomputable def QD (is:List Nat)(g:FS):FS:=λρ=>g (is.foldl unown1 ρ)
theorem eI.unowns {K:Frag}{B0 H0 N H:Hp}{σ:St}:∀(is:List Nat){ρ:Env},eI K B0 H0 N H σ ρ->eI K B0 H0 N H σ (is.foldl DL.unown1 ρ)
 |[],_,s=>s
 |i::is,_,s=>eI.unowns is (s.unown1 i)
theorem NF {K:Frag}{is:List Nat}{g:FS}{E:Ends}{σ:St}{H:Hp}(q:o6 K (QD is g) E σ H):o6 K g E σ H:=by
 obtain⟨B0,H0,ρ,r,⟨N,s⟩,e,p⟩:=q;exact⟨B0,H0,_,r,⟨N,s.unowns is⟩,e,p⟩
theorem L7 {X:Cx}{st:Stmt}{g:FS}(is:List Nat)(h:JS X st g):JS X st (QD is g):=PS.to h λ_ _ _ q=>NF q
@[simp] noncomputable def L8:FS:=λρ=>some (.ct ρ)
@[simp] noncomputable def T3:FS:=λρ=>some (.bk ρ)
@[simp] noncomputable def T4:FS:=λ_=>none
section
variable {X:Cx}{pos:Pos}
theorem Jl:JS X (.Continue pos) L8:=PS.to xF λE σ H q=>by
 obtain⟨B0,H0,ρ,r,s,e,p⟩:=q;cases e
 exact p σ H s
end
inductive CRows (K:Frag)(P:Params):List DictEntry->List (Str×D)->Prop where
 |nil:CRows K P [] []
 |tup {x:Str}{t:Tok}{h:Int}{a:Addr}{its:Array Value}{n:Nat}{ph:Array (Option Value)}{ds:List D}{r:List DictEntry}{aH:List (Str×D)}(hh:h=PyData.keyHash P x)
   (l:K.lookup a=some ⟨.type "tuple",none,.seq its n,ph⟩) (f:(decide (its.size<=1000) && jD its.toList ds)=true) (tl:CRows K P r aH):CRows K P (⟨h,.str x t,.ref a⟩::r) ((x,.tup ds)::aH)
 |flat {x:Str}{t:Tok}{h:Int}{u:Value}{d:D}{r:List DictEntry}{aH:List (Str×D)}(hh:h=PyData.keyHash P x) (f:wD u d=true) (tl:CRows K P r aH):CRows K P (⟨h,.str x t,u⟩::r) ((x,d)::aH)
theorem CRows.lit {K:Frag}{P:Params}:∀ {es:List DictEntry}{aH:List (Str×D)},CRows K P es aH->PySem.W.KeysLit P es
 |_,_,.nil=>trivial
 |_,_,.tup hh _ _ tl=>⟨⟨_,_,rfl,hh⟩,tl.lit⟩
 |_,_,.flat hh _ tl=>⟨⟨_,_,rfl,hh⟩,tl.lit⟩
theorem CRows.find {K:Frag}{P:Params}(y:Str):∀ {es:List DictEntry}{aH:List (Str×D)},CRows K P es aH->match aH.lookup y with
  |none=>es.find? (λe=>Value.isStrOf y e.key)=none
  |some d=>∃e v,es.find? (λe=>Value.isStrOf y e.key)=some e/\ba v e.val/\∀B,Is K B v d
 |_,_,.nil=>rfl
 |_,_,.tup (x:=x) (t:=t) (a:=a) (ds:=ds) hh l f tl=>by
  by_cases e:y=x
  ·subst e;rw[List.lookup_cons_self];rw[vC]at f;obtain⟨vs,r,i⟩:=jE (K:=K) f.2;exact⟨_,.ref a,List.find?_cons_of_pos (by simp[Value.isStrOf]),rfl,λB=>.tup (.inr ⟨_,_,_,l,rfl,rfl,Nat.le_of_lt (Nat.lt_of_le_of_lt (of_decide_eq_true f.1) (by decide)),r⟩) (i B)⟩
  ·have ih:=tl.find y;rw[List.lookup_cons,beq_eq_false_iff_ne.mpr e];have nf:Value.isStrOf y (Value.str x t)=false:=by
    rw[Bool.eq_false_iff];intro z;obtain⟨t',q⟩:=Value.isStrOf_shape z;injection q with q1;exact e q1.symm
   simp only[List.find?_cons,nf];exact ih
 |_,_,.flat (x:=x) (t:=t) (u:=u) (d:=d) hh f tl=>by
  by_cases e:y=x
  ·subst e;rw[List.lookup_cons_self];obtain⟨v,r1,_⟩:=kQ (K:=K) (B:=λ_=>none) f;refine⟨_,v,List.find?_cons_of_pos (by simp[Value.isStrOf]),r1,λB=>?_⟩;obtain⟨v',HA,i'⟩:=kQ (K:=K) (B:=B) f;have:v'=v:=by have z1:=r1.abs;rw[HA.abs]at z1;exact vK z1
   subst this;exact i'
  ·have ih:=tl.find y;rw[List.lookup_cons,beq_eq_false_iff_ne.mpr e];have nf:Value.isStrOf y (Value.str x t)=false:=by
    rw[Bool.eq_false_iff];intro z;obtain⟨t',q⟩:=Value.isStrOf_shape z;injection q with q1;exact e q1.symm
   simp only[List.find?_cons,nf];exact ih
def tY (K:Frag)(P:Params)(a:Addr)(aH:List (Str×D)):Prop:=∃es n,K.lookup a=some ⟨.type "dict",none,.dict es n,#[]⟩/\CRows K P es.toList aH/\(a == sysModules)=false
theorem const_dict {K:Frag}{P:Params}{y:Str}{a:Addr}{es:Array DictEntry}{n:Nat}{aH:List (Str×D)}(e:nsIn K mainGlobals y=some (some (.ref a)))(l:K.lookup a=some ⟨.type "dict",none,.dict es n,#[]⟩)(r:CRows K P es.toList aH)(s:(a == sysModules)=false):
  ∃a,nsIn K mainGlobals y=some (some (.ref a))/\tY K P a aH:=⟨a,e,es,n,l,r,s⟩
section
variable {X:Cx}{a b e:Expr}{pos:Pos}{x:Str}{p:Pos}
theorem tY.map {ae:List (Addr×Obj)}{σ:St}{H:Hp}{s:Shared}{d:Addr}{aH:List (Str×D)}(I:Inv X ae σ H s)(h:tY X.K X.w.params d aH):∃f:Str->Option Value,s.heap.MapOf (strKind X.prog X.w) d f/\(d == sysModules)=false /\
  ∀y,match aH.lookup y with|none=>f y=none|some dd=>∃u v,f y=some u/\ba v u/\∀B,Is X.K B v dd:=by
 obtain⟨es,n,l,r,sm⟩:=h;refine⟨_,PySem.W.mapOf_K I.kIn l r.lit,sm,λy=>?_⟩;have:=r.find y;have ff:findBy Value.isStrOf es y=(es.toList.find? λe=>Value.isStrOf y e.key).map (·.val):=by
  unfold findBy;obtain⟨es⟩:=es;rw[List.find?_toArray]
 cases hl:aH.lookup y with
 |none=>rw[hl]at this;dsimp only at this ⊢;rw[ff,this];rfl
 |some dd=>
  rw[hl]at this;obtain⟨en,v,e1,e2,e3⟩:=this;exact⟨en.val,v,by rw[ff,e1];rfl,e2,e3⟩
@[simp] noncomputable def Xr (aH:List (Str×D)):D->OB
 |.str y=>(aH.lookup y).map λd=>(d,false)
 |_=>none
@[simp] noncomputable def ZU (aH:List (Str×D)):D->OB
 |.str y=>some (.bl (aH.lookup y).isSome,false)
 |_=>none
@[simp] noncomputable def T5 (aH:List (Str×D)):D->OB
 |.str y=>some (.bl (!(aH.lookup y).isSome),false)
 |_=>none
@[simp] noncomputable def jF:List D->OB
 |[.lst ds]=>some (.lst ds,true)
 |[.tup ds]=>some (.lst ds,true)
 |_=>none
@[simp] noncomputable def ij:List D->OB
 |[.lst ds]=>some (.tup ds,false)
 |[.tup ds]=>some (.tup ds,false)
 |_=>none
theorem NG:bV X (.type "list") (D4 X.K jF):=by
 refine bV.to wo λxs H Q q=>?_;obtain⟨B,ds,d,bb,sB,i,ee,q⟩:=q;cases i with
 |nil=>simp[jF]at ee
 |cons i1 i2=>
  cases i2 with
  |cons _ _=>cases i1<;>simp[jF]at ee
  |nil=>
   cases i1<;>try (simp[jF]at ee;done)
   ·rename_i l0 vs es h hl;simp only[jF]at ee;cases ee
    refine⟨_,_,rfl,.inr (bj sB h),λl hp=>?_⟩;have xt:=Ext.laid (o:=.lst vs) sB hp;exact q _ _ _ xt (.lst (hU.of aC) (hl.mono xt.bn)) λ_=>⟨_,_,_,rfl,rfl,hp,aC,hl.mono xt.bn⟩
   ·rename_i l0 vs es h hl;simp only[jF]at ee;cases ee
    refine⟨_,_,rfl,.inl (sB.seq h),λl hp=>?_⟩;have xt:=Ext.laid (o:=.lst vs) sB hp;exact q _ _ _ xt (.lst (hU.of aC) (hl.mono xt.bn)) λ_=>⟨_,_,_,rfl,rfl,hp,aC,hl.mono xt.bn⟩
theorem Jm:bV X (.type "tuple") (D4 X.K ij):=by
 refine bV.to sR λxs H Q q=>?_;obtain⟨B,ds,d,bb,sB,i,ee,q⟩:=q;cases i with
 |nil=>simp[ij]at ee
 |cons i1 i2=>
  cases i2 with
  |cons _ _=>cases i1<;>simp[ij]at ee
  |nil=>
   cases i1<;>try (simp[ij]at ee;done)
   ·rename_i l0 vs es h hl;simp only[ij]at ee;cases ee
    exact⟨_,_,rfl,.inr ⟨bj sB h,q.one sB (.tup h hl)⟩⟩
   ·rename_i l0 vs es h hl;simp only[ij]at ee;cases ee
    refine⟨_,_,rfl,.inl ⟨sB.seq h,λl hp=>?_⟩⟩;have xt:=Ext.laid (o:=.tup vs) sB hp;exact q _ _ _ xt (.tup (jj.of aC) (hl.mono xt.bn)) (by simp)
end
section
variable {X:Cx}{a b e:Expr}{pos:Pos}{x:Str}{p:Pos}
@[simp] def V6 (is:List Nat)(f:FE):FS:=λρ=>(f ρ).bind λx=>(ie x.1).bind λds=>(g8 is ds (if bw ds=true then ρ else unown ρ)).map .nx
@[simp] def DF (i:Nat)(fk fv:FE):FS:=λρ=>match ρ[i]? with
 |some (some (.lst ds,true))=>(fv ρ).bind λv=>(fk ρ).bind λk=>match k.1 with
  |.int j=>(Dx ds.length j).bind λn=>if bi v.1=true then some (.nx (ρ.set i (some (.lst (ds.set n v.1),true))))else none
  |_=>none
 |_=>none
theorem FP (hv:JE X e fv)(hk:JE X k fk)(hN:X.N[i]? = some y:=by rfl)(B7:ET X.env.scope y:=by first|exact Or.inl rfl|exact Or.inr (Or.inl rfl)|exact Or.inr (Or.inr rfl))(hd:(y == ("__debug__" : Str))=false:=by decide)
  (j9:(y == ("__classdict__" : Str))=false:=by decide)
  (ha:∀v,assign (.Subscript (.Name y py) k pt) X.env v=(do
   let ov ←holding [v] (eval (.Name y py) X.env)
   let iv ←holding [v,ov] (eval k X.env)
   standAt pt
   holding [v,ov,iv] (setItem ov iv v)
   release [v,ov,iv] []):=by intro _;rfl)
  (hs:swapsWithSole [.Subscript (.Name y py) k pt] e pos.line X.env=pure false:=by rfl) (hw:swappedStores [.Subscript (.Name y py) k pt] e X.env=pure none:=by rfl)
  (h1:(assignEach [.Subscript (.Name y py) k pt] X.env).map (·.2)=[assign (.Subscript (.Name y py) k pt) X.env]:=by rfl):JS X (.Assign [.Subscript (.Name y py) k pt] e pos) (DF i fk fv):=by
 refine PS.to (MB hv (MA (lG hN B7 hd j9) hk Fe ha) hs hw h1) λE σ H q=>?_;obtain⟨B0,H0,ρ,r,⟨N,s⟩,ee,p⟩:=q;unfold DF at ee;split at ee
 ·rename_i ds ei;obtain⟨v,ev,ee⟩:=oX ee;obtain⟨kk,ek,ee⟩:=oX ee;obtain⟨kd,kb⟩:=kk;cases kd with
  |int j=>
   dsimp only at ee;obtain⟨n,en,ee⟩:=oX ee;split at ee
   ·rename_i hn;cases ee
    refine⟨N,ρ,v.1,v.2,s.ext.nh,s.rep,ev,λv1 H1 N1 x1 i1 _=>?_⟩;have s1:=s.grow x1;obtain⟨l,vs,K7,z,h1,h2,h3,h4⟩:=s1.owL i _ ei;cases z
    refine⟨_,h1,N1,ρ,_,_,s1.ext.nh,s1.rep,ek,λkv H2 N2 x2 i2 _=>?_⟩;cases i2
    have s2:=s1.grow x2;obtain⟨l',S5,K7,z,k1,k2,k3,k4⟩:=s2.owL i _ ei;cases z
    rw[h1]at k1;cases k1;exact⟨l,S5,j,n,rfl,rfl,s2.ext.nh _ _ k2,by rw[k4.length];exact en,p σ _ ⟨_,s2.write ei h1 (IsL.set (s2.flat (i1.mono x2.bn) hn) n k4)⟩⟩
   ·cases ee
  |_=>cases ee
 ·cases ee
@[simp] noncomputable def Xs (i:Nat)(g:List D->Option (List D)):FS:=λρ=>match ρ[i]? with
 |some (some (.lst ds,true))=>(g ds).map λes=>.nx (ρ.set i (some (.lst es,true)))
 |_=>none
@[simp] def Xt (i:Nat)(f:FE):FS:=λρ=>match ρ[i]? with
 |some (some (.lst ds,true))=>(f ρ).bind λx=>match x.1 with
  |.lst es=>if x.2=true/\bw es=true/\ds.length+es.length<=sizeLine then some (.nx (ρ.set i (some (.lst (ds++es),true))))else none
  |_=>none
 |_=>none
@[simp] noncomputable def AG:List D->OB
 |[.int i]=>some (.int i,false)
 |[.bl b]=>some (.int (if b then 1 else 0),false)
 |_=>none
theorem QE:bV X (.type "int") (D4 X.K AG):=by
 refine bV.to Du λxs H Q q=>?_;obtain⟨B,ds,d,bb,sB,i,ee,q⟩:=q;cases i with
 |nil=>simp[AG]at ee
 |cons i1 i2=>
  cases i2 with
  |cons _ _=>cases i1<;>simp[AG]at ee
  |nil=>
   cases i1<;>try (simp[AG]at ee;done)
   ·simp only[AG]at ee;cases ee
    exact .inr ⟨_,rfl,q.one sB (.int _)⟩
   ·simp only[AG]at ee;cases ee
    exact .inl ⟨_,rfl,q.one sB (.int _)⟩
end
open AutoSeq1 (wpAny_loadPart')
set_option maxRecDepth 100000
noncomputable def V7 (k:Bool):String:=if k=true then "list" else "tuple"
theorem yu (k:Bool)(l:Addr)(items:Array Value)(n:Nat)(Oz:Option Addr)(sl:Array (Option Value)):
  Meets (Builtin.«enumerate.__new__» ⟨[.type "enumerate",.ref l],[]⟩) (λ_ R s=>s.heap.get? l=some { cls:=.type (V7 k),dict:=Oz,data:=.seq items n,slots:=sl } /\
   R (.ok (.ret (.ref (s.heap.push (NE k l)).objs.size))) { s with heap:=(s.heap.push (NE k l)).push { cls:=.type "enumerate",data:=.fields #[.none,.bool false,.ref s.heap.objs.size,rawInt 0,.none,.none] } }) :=
 .of_wp λprog w A R s hs=>by
  obtain⟨hp,g,d,tk,os⟩:=s;obtain⟨hl,hs⟩:=hs;have HC:=sub_enumerate;have hL:Ab k (Shared.heap ⟨hp,g,d,tk,os⟩) l items:=by cases k<;>exact⟨_,hl,rfl,n,rfl⟩
  wp_walk using wpAny_loadPart' hl;refine wpAny_stack_any λst=>wY ?_;split
  ·rename_i c _ _ _ _ _;cases (c == Value.type "enumerate")
   ·wp_walk using wpAny_loadPart' hl,wE hL;exact⟨_,rfl,hs⟩
   ·wp_walk using wpAny_loadPart' hl,wE hL;exact⟨_,rfl,hs⟩
  ·wp_walk using wpAny_loadPart' hl,wE hL;exact⟨_,rfl,hs⟩
section
variable {prog:Program}{w:World}{A:Around}{E:Value->Shared->Prop}{s:Shared}
theorem FQ (hL:Ab k s.heap l items)
  (q:∀h',IsEnum h' (s.heap.objs.size+1) s.heap.objs.size 0 .none->BX k h' s.heap.objs.size l 0->(∀b o,s.heap.get? b=some o->h'.get? b=some o)->Q (.ref (s.heap.objs.size+1)) { s with heap:=h' }):
  wpAny (model prog w) A (call (.type "enumerate") [.ref l]) Q E s:=by
 have hh:∃(Oz:Option Addr)(sl:Array (Option Value))(n:Nat),s.heap.get? l=some { cls:=.type (V7 k),dict:=Oz,data:=.seq items n,slots:=sl }:=by
  cases k<;>(obtain⟨⟨c,Oz,dt,sl⟩,hl,hc,n,hd⟩:=hL;dsimp only at hc hd;subst hc;subst hd;exact⟨Oz,sl,n,hl⟩)
 obtain⟨Oz,sl,n,hl⟩:=hh;refine callType_new PySem.F.called_enumerate (by decide) (PySem.F.typeCall_enumerate_1 _) (PySem.F.newCall_enumerate_1 _) (λobj=>PySem.F.args_object_init_2 obj _) PySem.F.entry_enumerate_new (yu k l items n Oz sl) ⟨hl,?_⟩;have n1:(s.heap.push (NE k l)).objs.size=s.heap.objs.size+1:=Heap.size_push ..;have g2:((s.heap.push (NE k l)).push { cls:=.type "enumerate",data:=.fields #[.none,.bool false,.ref s.heap.objs.size,rawInt 0,.none,.none] }).get? (s.heap.push (NE k l)).objs.size=some _:=vY _ rfl;have g1:((s.heap.push (NE k l)).push { cls:=.type "enumerate",data:=.fields #[.none,.bool false,.ref s.heap.objs.size,rawInt 0,.none,.none] }).get? s.heap.objs.size=some _:=vZ _ (vY _ (by cases k<;>rfl))
 rw[n1]at g2;show _/\_;rw[n1];refine⟨⟨_,g2,rfl⟩,q _ g2 ?_ λb o e=>vZ _ (vZ _ e)⟩;cases k<;>exact⟨_,g1,rfl,rfl⟩
theorem NH (hA:A.handled=none)(it l:Addr)(nu:l≠it)(items:Array Value):Draws prog w A it [it,l] items.size (λi v=>items[i]? = some v) (λi h=>BX k h it l i/\Ab k h l items) where
 live:=λi h st=>let ⟨o,e,_⟩:=st.1.ob;⟨o,e⟩
 frame:=λi h h' st kk=>⟨st.1.upon λo e=>kk it (by simp) o e,st.2.upon λo e=>kk l (by simp) o e⟩
 item:=λi s Q E hi st q=>DE st.1 st.2 (v:=items[i]) (by simp[hi]) λh' jh sb=>q _ h' s.toks (by simp[hi]) ⟨jh,st.2.upon λo e=>sb.extBut _ _ nu e⟩ sb
 done:=λs Q E st q=>yt hA st.1 st.2 (by simp) q
theorem NI (hA:A.handled=none)(it l:Addr)(items:Array Value)(n:Nat)(hn:items[n]? = none):Draws prog w A it [it,l] n (λ_ _=>True) (λi h=>(BX k h it l i/\Ab k h l items)/\i=n) where
 live:=λi h st=>let ⟨o,e,_⟩:=st.1.1.ob;⟨o,e⟩
 frame:=λi h h' st kk=>⟨⟨st.1.1.upon λo e=>kk it (by simp) o e,st.1.2.upon λo e=>kk l (by simp) o e⟩,st.2⟩
 item:=λi s Q E hi st q=>absurd st.2 (vS hi)
 done:=λs Q E st q=>yt hA st.1.1 st.1.2 hn q
end
noncomputable def T6 (K:Frag)(k:Bool)(a:Addr):It :=
  ⟨λi H=>∃xs x,AF k K H a xs/\xs[i]? = some x,
   λi H v H'=>∃T x,v=.ref T/\H T=none/\H'=upd H T (.tup [.int i,x])/\∀xs,AF k K H a xs->xs[i]? = some x,
   λi H=>∃xs,AF k K H a xs/\xs.length<=i⟩
theorem DG {P:Program}{w:World}{K:Frag}{es:List Expr}{kt:Nat}{pt:Pos}{k:Bool}{a e it:Addr}(Uy:e≠it)(Yq:a≠e)(Yr:a≠it):
  Turn P w K (.Tuple es kt pt) (T6 K k a) [e,it] e (λi h=>(∃LY,IsEnum h e it i LY)/\BX k h it a i) where
 mem:=by simp
 obj:=λi h st b hb=>by
  obtain⟨⟨LY,he⟩,t1⟩:=st;simp at hb;rcases hb with rfl|rfl
  ·exact⟨_,he,λv z=>by cases z⟩
  ·exact t1.ob
 keep:=λi h h' st kk=>by
  obtain⟨⟨LY,he⟩,t1⟩:=st;exact⟨⟨LY,kk e (by simp) _ he⟩,t1.upon λo q=>kk it (by simp) o q⟩
 item:=by
  intro X hP hw hK hc i ae s σ H E I hf st hg;subst hP hw hK;obtain⟨⟨LY,he⟩,t1⟩:=st;obtain⟨xs,x,q1,hx⟩:=hg;obtain⟨its,r1,p1,z1⟩:=q1.vals I;obtain⟨u,hu,ru⟩:=r1.get hx;have fresh:H s.heap.objs.size=none:=I.hok.fresh (vT _);have Ys:i<its.toArray.size:=by rw[vH];exact(vV hu).1
  have EQ:e≠s.heap.objs.size:=vS (vX he);have SD:it≠s.heap.objs.size:=by obtain⟨o,q,_⟩:=t1.ob;exact vS (vX q)
  refine wpAny_pyNext_enum_itemD (NH (A:=X.A.in1) (I.ok.hd hc) it a Yr its.toArray) he ⟨t1,p1⟩ Ys Uy (by simp[Uy,Yq.symm]) λv h' tk hv ho jh hT hsz hk=>?_;have ev:v=u:=by
   have Wl:its[i]? = some v:=by simpa using hv
   rw[hu]at Wl;exact(vK Wl).symm
  subst ev;refine⟨_,rfl,wpAny_letOwnedTupleGo_enum (s:={ s with heap:=h',toks:=tk+1 }) ho λh2 Pn s2=>?_⟩;have Po:Heap.SameBut e h' h2:=s2;have kk:∀b o,b∉[e,it]->s.heap.get? b=some o->h2.get? b=some o:=λb o hb q=>Po.extBut _ _ (λz=>hb (by simp[z])) (hk b o (λz=>hb (by simp[z])) (λz=>hb (by simp[z])) q);have new:cm X.prog X.w (upd H s.heap.objs.size (.tup [.int i,x])) h2 s.heap.objs.size (.tup [.int i,x]):=⟨by show 2<=sizeLine;decide,[.int i tk,v],.cons ⟨tk,rfl⟩ (.cons ru .nil),⟨_,Po.extBut _ _ EQ.symm hT,rfl,_,rfl⟩⟩;refine⟨.ref s.heap.objs.size,upd H s.heap.objs.size (.tup [.int i,x]),L6 (s:=s) (t':=tk+1) I hf kk (vT _) new,rfl,⟨_,x,rfl,fresh,rfl,λzs hq=>by rw[AF.inj I hq q1];exact hx⟩,?_,λb hb=>?_⟩
  ·exact⟨⟨_,by have:=Pn;rw[show((i:Int)+1)=((i+1:Nat):Int) by omega]at this;exact this⟩,jh.1.upon λo q=>Po.extBut _ _ Uy.symm q⟩
  ·have nu:b≠s.heap.objs.size:=by
    simp at hb;rcases hb with rfl|rfl
    ·exact EQ
    ·exact SD
   rw[aI nu];exact(hf b hb).1
 done:=by
  intro X hP hw hK hc i ae s σ H E I hf st hg;subst hP hw hK;obtain⟨⟨LY,he⟩,t1⟩:=st;obtain⟨xs,q1,hl⟩:=hg;obtain⟨its,r1,p1,z1⟩:=q1.vals I;have n1:=r1.length;refine wpAny_pyNext_enum_endD (NI (A:=X.A.in1) (I.ok.hd hc) it a its.toArray i (by simp;omega)) he ⟨⟨t1,p1⟩,rfl⟩ λh' hk=>⟨rfl,?_⟩;exact p8 (t':=s.toks) I hf λb o hb q=>hk b o (λz=>hb (by simp[z])) q
 self:=λ_ _ _ _ _ st h=>let ⟨⟨_,he⟩,_⟩:=st;wpAny_pyIter_enum he h
section
variable {X:Cx}{a b e:Expr}{pos:Pos}{p:Pos}
theorem yv:bootBuiltins "enumerate" = some (.type "enumerate"):=by decide +kernel
noncomputable def tZ (ds:List D):List D:=ds.mapIdx λi d=>.tup [.int i,d]
@[simp] def FR (fa:FE):FA:=λρ=>(fa ρ).bind λx=>(ie x.1).map tZ
theorem Jn {K:Frag}{N:Hp}{k:Bool}{l:Addr}{vs:List V}{ds:List D}(h1:AF k K N l vs)(i1:IsL K N vs ds):nD K (T6 K k l) N (tZ ds):=by
 intro i H' sm;have n1:=i1.length;refine⟨λd ed=>?_,λhl=>⟨vs,h1.same sm,?_⟩⟩
 ·unfold tZ at ed;rw[List.getElem?_mapIdx]at ed;obtain⟨x,e1,rfl⟩:=oY ed;obtain⟨v,ev,iv⟩:=i1.get e1;refine⟨⟨vs,v,h1.same sm,ev⟩,λr H2 hy=>?_⟩;obtain⟨T,v',rfl,hT,rfl,f1⟩:=hy;have e3:=f1 vs (h1.same sm);rw[ev]at e3;cases e3;have xt:=Ext.laid (o:=.tup [.int i,v]) sm hT;exact⟨_,xt,.tup (jj.of aC) (.cons (.int _) (.cons (iv.mono xt.bn) .nil))⟩
 ·unfold tZ at hl;rw[List.length_mapIdx]at hl;omega
theorem Jo {es:List Expr}{kt:Nat}{pt:Pos}{fa:FE}(hm:X.mg "enumerate" = none)(ha:JE X a fa)(hg:Gl X "enumerate":=by rfl)(hs:starEach [a] X.env=[(false,eval a X.env)]:=by rfl):
  JI X (.Tuple es kt pt) (.Call (.Name "enumerate" p) [a] [] pos) (FR fa):=by
 intro ae s σ H R I q;refine Call_ (nw I hg hm yv (PyProof.Rows.callWith_type1 (cE (ah ha am hs pos ae s σ H (λvs H1=>∃(k:Bool)(l:Addr)(us:List V),vs=[.ref l]/\AF k X.K H1 l us/\R (T6 X.K k l) H1) I ?_) λus s1 ⟨vs,H1,I1,r1,q1⟩=>?_) hs rfl))
 ·obtain⟨B,ρ,ds,sB,r,ee,q⟩:=q;obtain⟨x1,ex,ee⟩:=oX ee;obtain⟨xs,Yt,ee⟩:=oY ee;subst ee;refine⟨B,ρ,[x1.1],sB,r,by simp[af,aj,ex],λvs H1 N1 xt i1=>?_⟩;cases i1 with
  |cons j1 j2=>
   cases j2
   obtain⟨k1,l1,us,rfl,s1,m1⟩:=QC j1 Yt;exact⟨k1,l1,us,rfl,s1.same xt.nh,q _ H1 N1 xt (Jn s1 m1)⟩
 ·obtain⟨k,l,ws,rfl,h1,q⟩:=q1;obtain⟨u1,rfl,Yu⟩:=r1.one;cases Yu
  obtain⟨its,v1,p1,z1⟩:=h1.vals I1;have Sv:=p1.lt;refine FQ p1 λh' c1 c2 ck=>?_;refine wpAny_pyIter_enum c1 ⟨s1.heap.objs.size+1,[s1.heap.objs.size+1,s1.heap.objs.size],_,_,H1,rfl,I1.kept (t':=s1.toks) ck,
   DG (Nat.succ_ne_self _) (vS (Nat.lt_succ_of_lt Sv)) (vS Sv),⟨⟨_,c1⟩,c2⟩,λb hb=>?_,q⟩
  have HY:s1.heap.objs.size<=b:=by
   simp at hb;rcases hb with rfl|rfl
   ·exact Nat.le_succ _
   ·exact vT _
  exact I1.fpOk HY (I1.hok.fresh HY)
end
end DL
namespace DL
open PySem PySem.Spec PyProof.Rows
theorem DH (t:SetTable)(es:Array (Int×Value))(n:Nat):(relayAll t es n).2.1.led=t.led:=by
 unfold relayAll;split
 ·rename_i t' order h;unfold SetTable.relaid SetTable.laid at h;obtain⟨ow,_,h⟩:=oX h;cases h
  dsimp only;split<;>rfl
 ·rfl
theorem yw (t:SetTable)(es:Array (Int×Value))(n:Nat)(hp:t.plain=false):(relayAll t es n).2.1.plain=false:=by
 unfold relayAll;split
 ·rename_i t' order h;unfold SetTable.relaid SetTable.laid at h;obtain⟨ow,_,h⟩:=oX h;cases h
  dsimp only;split
  ·exact hp
  ·rfl
 ·rfl
theorem Jp (t:SetTable)(es:Array (Int×Value))(h:Int)(x:Value):(layNew t es h x).2.1.led=t.led:=by
 unfold layNew;split
 ·dsimp only[SetTable.put,SetTable.orStandIn];repeat' (first|rfl|split)
 ·rfl
structure TabT (w:World)(es:Array (Int×Value))(t:SetTable):Prop where
 fits:t.fits es.size=true
 led:t.led = !w.params.followText "set-order"
 plain:es.size≠0->t.plain=false
def ja (prog:Program)(w:World)(h:Heap)(a:Addr)(ts:List Str):Prop :=
 ∃o es ep t,h.get? a=some o/\o.ExactSet/\o.data=.set es ep t/\ElemsOf (PySem.strKind prog w) es.toList/\(es.toList.map (λe=>strOf e.2)).Perm ts/\ts.Nodup/\ts.length<scanBound/\TabT w es t
noncomputable def kh (ts:List Str)(x:Str):List Str:=if x∈ts then ts else ts++[x]
theorem FU (ts:List Str)(x:Str):(kh ts x).length<=ts.length+1:=by unfold kh;split<;>simp
theorem yx (h:Value.isStrOf k v=true):strOf v=k:=by obtain⟨t,rfl⟩:=Value.isStrOf_shape h;rfl
section
variable {prog:Program}{w:World}{A:Around}{E:Value->Shared->Prop}{s:Shared}
theorem ua {es:Array (Int×Value)}{ts:List Str}(EQ:ElemsOf (PySem.strKind prog w) es.toList)(hp:(es.toList.map (λe=>strOf e.2)).Perm ts)(k:Str):k∈ts ↔ ∃e∈es.toList,(PySem.strKind prog w).is k e.2=true:=by
 rw[←hp.mem_iff,List.mem_map];constructor
 ·rintro⟨e,he,rfl⟩;obtain⟨⟨k',hk,_⟩,_⟩:=EQ e he;have fP:Value.isStrOf k' e.2=true:=hk;refine⟨e,he,?_⟩;show Value.isStrOf (strOf e.2) e.2=true;rw[yx fP];exact fP
 ·rintro⟨e,he,hk⟩;exact⟨e,he,yx hk⟩
theorem uc {h:Heap}{a:Addr}{o:Obj}{es:Array (Int×Value)}{ep:Nat}{t:SetTable}(ho:h.get? a=some o)(hd:o.data=.set es ep t)(EM:Array (Int×Value))(t':SetTable):
  (h.update a (Obj.putSet EM t')).get? a=some { o with data:=.set EM (ep+1) t' }:=by
 have:=Heap.get?_update_self (Obj.putSet EM t') ho (by rw[putSet_of EM t' hd];rfl);rw[putSet_of EM t' hd]at this;exact this
theorem yy {g:Bool->Sem Unit}(hg:∀(b:Bool)(s₁:Shared)(Q':Unit->Shared->Prop),Q' () s₁->wpAny (model prog w) A (g b) Q' E s₁)
  {a:Addr}{o:Obj}{es:Array (Int×Value)}{ep:Nat}{t:SetTable}(ho:s.heap.get? a=some o) (KA:o.ExactSet) (hd:o.data=.set es ep t)
  {nv:Array (Int×Value)}{t2:SetTable}{ts:List Str}(HD:ElemsOf (PySem.strKind prog w) nv.toList) (Pp:(nv.toList.map (λe=>strOf e.2)).Perm ts) (nd:ts.Nodup)
  (hb1:ts.length<scanBound) (Yv:t2.fits nv.size=true) (ED:t2.led = !w.params.followText "set-order") (lE:t2.plain=false) {zT:Bool}{R:Option Bool->Shared->Prop}
  (h:∀h',Heap.SameBut a s.heap h'->ja prog w h' a ts->R (some true) { s with heap:=h' }):
  wpAny (model prog w) A (do
    storeSet a nv t2
    if(!zT && t2.tooFull)=true then do
      g (relayAll t2 nv (SetTable.grown nv.size)).2.2
      storeSet a (relayAll t2 nv (SetTable.grown nv.size)).1 (relayAll t2 nv (SetTable.grown nv.size)).2.1
      pure (some true)
     else pure (some true)) R E s:=by
 have Wm:nv.size=ts.length:=by rw[←Pp.length_eq,vI,vG]
 refine wX (wpAny_storeSet_of ho hd ?_ (fits_of_scanBound (by rw[Wm];exact hb1)));have KE:=uc ho hd nv t2;have R7:=vW s.heap a (Obj.putSet nv t2);split
 ·have hp:=relayAll_perm t2 nv (SetTable.grown nv.size);have R8:=relayAll_fits t2 nv (SetTable.grown nv.size);have HY:=DH t2 nv (SetTable.grown nv.size);have Uz:=yw t2 nv (SetTable.grown nv.size) lE;generalize hRl:relayAll t2 nv (SetTable.grown nv.size)=Rl at hp R8 HY Uz ⊢;obtain⟨SE,t3,Wn⟩:=Rl;dsimp only at hp R8 HY Uz ⊢;have U0:ElemsOf (PySem.strKind prog w) SE.toList:=HD.perm hp;have hsz:SE.size=nv.size:=by rw[←vG,hp.length_eq,vG]
  refine wX (hg _ _ _ ?_);refine wX (wpAny_storeSet_of KE rfl ?_ (fits_of_scanBound (by rw[hsz,Wm];exact hb1)));have K3:=uc KE rfl SE t3;exact wY (h _ (R7.trans (vW _ a _)) ⟨_,SE,_,t3,K3,KA,rfl,U0,(hp.map _).trans Pp,nd,hb1,R8,HY.trans ED,λ_=>Uz⟩)
 ·exact wY (h _ R7 ⟨_,nv,_,t2,KE,KA,rfl,HD,Pp,nd,hb1,Yv,ED,λ_=>lE⟩)
theorem AH {a:Addr}{ts:List Str}{k:Str}{tk:Tok}{Q:Bool->Shared->Prop}(hS:ja prog w s.heap a ts)(HE:ts.length+1<scanBound)
  (h:∀b h',Heap.SameBut a s.heap h'->ja prog w h' a (kh ts k)->Q b { s with heap:=h' }):
  wpAny (model prog w) A (setAddHashed a (.str k tk) ((PySem.strKind prog w).hash k)) Q E s:=by
 have hS0:=hS;obtain⟨o,es,ep,t,ho,KA,hd,EQ,xw,nd,hb,hf,KG,lE⟩:=hS;have zR:(PySem.strKind prog w).is k (.str k tk)=true:=strKind_is prog w k tk;have sz:es.size=ts.length:=by rw[←xw.length_eq,vI,vG]
 unfold setAddHashed setAddHashedIn;refine wpAny_holding (wX (wpAny_setState_of ho hd hf ?_));dsimp only;rw[byScan_of (x:=.str k tk) rfl (by rw[sz];exact hb) EQ];simp only[↓reduceIte];unfold setAddByScan;refine wX ?_;refine wX (wpAny_rule ?_);refine wX (wpAny_setScan_of zR ho hd hf EQ ?_);cases hr:List.findIdx? (λe=>(PySem.strKind prog w).is k e.2) es.toList with
 |some j=>
  dsimp only;obtain⟨hj,Yw,_⟩:=List.findIdx?_eq_some_iff_getElem.mp hr;have hm:k∈ts:=(ua EQ xw k).mpr ⟨es.toList[j],List.getElem_mem hj,Yw⟩;refine wY (wY ?_);have e:kh ts k=ts:=by unfold kh;rw[if_pos hm]
  exact h false s.heap (Heap.SameBut.refl a s.heap) (by rw[e];exact hS0)
 |none=>
  dsimp only;have hm:k∉ts:=λz=>by
   obtain⟨e,he,hp⟩:=(ua EQ xw k).mp z;have:=List.findIdx?_eq_none_iff.mp hr e he;rw[hp]at this;exact Bool.noConfusion this
  have ea:kh ts k=ts++[k]:=by unfold kh;rw[if_neg hm]
  have Yx:∀(b:Bool){s₁:Shared}{Q':Unit->Shared->Prop},Q' () s₁->wpAny (model prog w) A (match b with|true=>rule "set.scan.the-table-gave-way" | false=>pure ()) Q' E s₁ :=
   λb s₁ Q' hq=>by cases b<;>first|exact wY hq|exact wpAny_rule hq
  have gH:=layNew_perm t es ((PySem.strKind prog w).hash k) (.str k tk);have Dh:=layNew_fits t es ((PySem.strKind prog w).hash k) (.str k tk);have LZ:=Jp t es ((PySem.strKind prog w).hash k) (.str k tk);generalize hL:layNew t es ((PySem.strKind prog w).hash k) (.str k tk)=L at gH Dh LZ ⊢;obtain⟨nv,t1,zT,U1⟩:=L;dsimp only at gH Dh LZ ⊢;rw[Array.toList_push]at gH;have HD:ElemsOf (PySem.strKind prog w) nv.toList:=(EQ.push zR rfl).perm gH;have Pp:(nv.toList.map (λe=>strOf e.2)).Perm (ts++[k]):=(gH.map _).trans (by rw[uW];exact xw.append_right _);have Wo:(ts++[k]).Nodup:=by
   rw[List.nodup_append];refine⟨nd,by simp,λx hx y hy=>?_⟩;rw[List.mem_singleton]at hy;subst hy;exact λz=>hm (z ▸ hx)
  have hb1:(ts++[k]).length<scanBound:=by rw[uZ];exact HE
  refine wX (Yx _ ?_);have R9:∀h',Heap.SameBut a s.heap h'->ja prog w h' a (ts++[k])->Q true { s with heap:=h' }:=λh' hsb HF=>h true h' hsb (by rw[ea];exact HF);split
  ·refine wX ?_;rw[hashByValue_scannable 8 (x:=.str k tk) rfl];refine wY ?_;refine yy ?_ ho KA hd HD Pp Wo hb1 ?_ ?_ ?_ ?_
   ·intro b s₁ Q' hq;cases b<;>first|exact wY hq|exact wpAny_rule hq
   ·exact SetTable.fits_plain_off Dh
   ·exact LZ.trans KG
   ·rfl
   ·intro h' hsb HF;dsimp only;exact wY (R9 h' hsb HF)
  ·rename_i Pq;refine wX (wY ?_);simp only[↓reduceIte];refine yy ?_ ho KA hd HD Pp Wo hb1 Dh (LZ.trans KG) (by simpa using Pq) ?_
   ·intro b s₁ Q' hq;cases b<;>first|exact wY hq|exact wpAny_rule hq
   ·intro h' hsb HF;dsimp only;exact wY (R9 h' hsb HF)
end
noncomputable def iL (ss:List Str):List Str:=ss.foldl kh []
theorem AI (h:ts.Nodup)(x:Str):(kh ts x).Nodup:=by
 unfold kh;split
 ·exact h
 ·rename_i hm;rw[List.nodup_append];refine⟨h,by simp,λy hy z hz=>?_⟩;rw[List.mem_singleton]at hz;subst hz;exact λe=>hm (e ▸ hy)
theorem yz:y∈kh ts x↔y∈ts∨y=x:=by
 unfold kh;split
 ·rename_i hm;exact⟨.inl,λz=>z.elim id λe=>e ▸ hm⟩
 ·simp
theorem wF (ss:List Str):∀ts:List Str,(ss.foldl kh ts).length<=ts.length+ss.length:=by
 induction ss with
 |nil=>intro ts;simp
 |cons x r ih=>intro ts;rw[List.foldl_cons];have:=ih (kh ts x);have:=FU ts x;simp only[vE];omega
theorem pZ (ss:List Str):(iL ss).length<=ss.length:=by have:=wF ss [];simpa [iL]using this
theorem DI (ss:List Str)(x:Str):iL (ss++[x])=kh (iL ss) x:=by unfold iL;rw[List.foldl_append];rfl
theorem StrsAre.at:∀ {vs:List Value}{ss:List Str},StrsAre vs ss->∀(i:Nat)(v:Value),vs[i]? = some v->∃x t,v=.str x t/\ss[i]? = some x
 |_,_,.nil,i,v,h=>by simp at h
 |_,_,.cons x t hr,0,v,h=>by simp at h;exact⟨x,t,h.symm,rfl⟩
 |_,_,.cons x t hr,i+1,v,h=>by
  simp only[List.getElem?_cons_succ]at h;exact StrsAre.at hr i v h
theorem ja.at (x:ja prog w h a ts)(k:∀o,h.get? a=some o->h'.get? a=some o):ja prog w h' a ts:=by
 obtain⟨o,es,ep,t,ho,r⟩:=x;exact⟨o,es,ep,t,k o ho,r⟩
section
variable {prog:Program}{w:World}{A:Around}{R:Result->Shared->Prop}{I:Addr}{fp wr:List Addr}{G:Array GenState->Array GenState->Prop}{n:Nat}{P:Nat->Value->Prop}{St:Nat->Shared->Prop}
theorem wG (W:WalksS prog w A.in1 I fp wr G n P St)(S:Addr)(O0:S∉fp)(ss:List Str)(hn:ss.length=n)
  (O1:∀i v,P i v->∃x t,v=.str x t/\ss[i]? = some x) (hb:n+1<scanBound):
  ∀(k i:Nat)(s:Shared),n - i=k->i<=n->St i s->ja prog w s.heap S (iL (ss.take i)) ->
   (∀s',Moved (S::wr) G s s'->ja prog w s'.heap S (iL ss)->R (.ok (.ret .none)) s') ->
   codeAny (model prog w) A (.builtin "set.update.loop" ⟨[.ref S,.ref I],[]⟩) R s:=by
 have Wp:S∉wr:=λh=>O0 (W.sub _ h);have HC:∀b∈wr,b∈S::wr:=λb hb=>mZ _ hb;intro k;induction k with
 |zero=>
  intro i s hk hi km hS hR;have ER:i=n:=by omega
  subst ER;refine codeAny_builtin PyProof.Rows.F.entry_set_update_loop ?_;rw[Around.under_plainId PyProof.Rows.F.plain_set_update_loop _];show wpAny _ A.in1 (pyNext (.ref I)>>=_) _ _ s;refine wX (W.done s _ _ km λs' hm=>?_);show wpAny _ A.in1 (ret Value.none) _ _ s';refine wY (hR s' (hm.mono HC) ?_);rw[List.take_of_length_le (by omega)]at hS;exact hS.at λo e=>hm.heap S _ Wp e
 |succ k ih=>
  intro i s hk hi km hS hR;have fw:i<n:=by omega
  refine codeAny_builtin PyProof.Rows.F.entry_set_update_loop ?_;rw[Around.under_plainId PyProof.Rows.F.plain_set_update_loop _];show wpAny _ A.in1 (pyNext (.ref I)>>=_) _ _ s;refine wX (W.item i s _ _ fw km λv s' hP hst' hm=>?_);obtain⟨x,t,rfl,hx⟩:=O1 i v hP;have HF:ja prog w s'.heap S (iL (ss.take i)):=hS.at λo e=>hm.heap S _ Wp e;show wpAny _ A.in1 (holding [Value.str x t] (setAdd S (.str x t))>>=_) _ _ s';refine wX (wpAny_holding ?_);unfold setAdd;refine wpAny_holding ?_;refine wX ((PySem.strKind prog w).pyHash (k:=x) (strKind_is prog w x t) ?_);have hl:(iL (ss.take i)).length+1<scanBound:=by have:=pZ (ss.take i);rw[List.length_take]at this;omega
  refine AH (s:={ s' with toks:=s'.toks+1 }) HF hl λb h' hsb RA=>?_;have Yy:ja prog w h' S (iL (ss.take (i+1))):=by
   rw[List.take_add_one,hx,Option.toList_some,DI];exact RA
  refine wY ⟨plainId_quiet PyProof.Rows.F.plain_set_update_loop _,ih (i+1) _ (by omega) fw (W.frame _ s' _ _ hst' (Nat.le_succ _) λb hb o e=>?_) Yy λEO hm'' hS''=>?_⟩
  ·rw[hsb.2 b (λh:b=S=>O0 (by rw[←h];exact hb))];exact e
  ·refine hR EO (Moved.trans W.gtrans ((hm.mono HC).then_heap (Nat.le_succ _) λb o hb e=>?_) hm'') hS'';rw[hsb.2 b (λh:b=S=>hb (by rw[h];exact mX))];exact e
end
section
variable {prog:Program}{w:World}{A:Around}{E:Value->Shared->Prop}{s:Shared}
noncomputable abbrev eQ (w:World):Obj:={ cls:=.type "set",dict:=none,data:=.set #[] 0 (.fresh 0 0 (!w.params.followText "set-order")) }
theorem y0 (a:Value) 
  (h:Q₁ (.ref s.heap.objs.size) { s with heap:=s.heap.push (eQ w) }):
  codeAny (model prog w) A (.call (.builtin "set.__new__") ⟨[.type "set",a],[]⟩) (wants Q₁ E) s:=by
 refine codeAny_of_tree ?_;show wpAny _ A.in1 (do checkBuiltinCall "set.__new__" ⟨[.type "set",a],[]⟩;again (.builtin "set.__new__" ⟨[.type "set",a],[]⟩)) _ _ s;refine wX (wpAny_of_eq (PySem.F.newCall_set_1 a) (wY ⟨plainId_quiet PySem.F.plain_set_new _,codeAny_builtin PySem.F.entry_set_new ?_⟩));rw[Around.under_plainId PySem.F.plain_set_new _];unfold Builtin.«set.__new__» Builtin.Frozenset.newClass;have HC:=sub_set_self;obtain⟨hp,g,d,tk,os⟩:=s;dsimp only;wp_walk;refine wpAny_askSetting (wY ?_);dsimp only;simp only[newObj];refine wX (wpAny_alloc (wY ?_));exact wY h
set_option maxHeartbeats 3200000 in
theorem qd 
  (hh:A.handled=none) (hl:s.heap.IsList l items) (hi:StrsAre items.toList ss) (hb:items.size+1<scanBound)
  (h:∀(h':Heap)(tk:Nat),ja prog w h' s.heap.objs.size (iL ss) ->
   (∀b o,b<s.heap.objs.size->s.heap.get? b=some o->h'.get? b=some o)->Q (.ref s.heap.objs.size) { s with heap:=h',toks:=tk }):
  wpAny (model prog w) A (call (.type "set") [.ref l]) Q E s:=by
 obtain⟨c,tl,Yz⟩:=PySem.F.called_set.mro;have Wq:=PySem.F.called_set.made;have HC:=PySem.F.called_set.sub;refine wpAny_call (codeAny_of_tree ?_);show wpAny _ _ (callAny (.type "set") _) _ _ _;refine wY ⟨Code.quiet_builtin _ (by decide +kernel),codeAny_builtin PySem.F.entry_type_call ?_⟩;rw[Around.under_plain (weight_type_call_type "set" [.ref l] []) rfl];have h1:=PySem.F.called_set.notType;have h2:=PySem.F.called_set.canCreate;have hct:=PySem.F.typeCall_set_1 (.ref l);have bB:ss.length=items.size:=by have:=hi.strs;rw[←this,vI,vG]
 repeat (any_goals (first|assumption|wp_step))
 refine codeAny_mono (y0 (.ref l) (E:=E) (Q₁:=λobj s₁=>obj=.ref s.heap.objs.size/\s₁={ s with heap:=s.heap.push (eQ w) }) ⟨rfl,rfl⟩) λr s₁ hr=>?_;cases r with
 |error e=>exact hr
 |ok fl=>
  cases fl with
  |ret obj=>
   obtain⟨rfl,rfl⟩:=hr;have hS:(s.heap.push (eQ w)).get? s.heap.objs.size=some (eQ w):=vY _ rfl;have hT:Shared.TypeIs { s with heap:=s.heap.push (eQ w) } (.ref s.heap.objs.size) "set":=⟨_,hS,rfl⟩;have hli:=PySem.F.called_set.init.lookup;have hbi:=PySem.F.called_set.init.bind (.ref s.heap.objs.size);repeat (any_goals (first|assumption|wp_step))
   refine codeAny_mono (codeAny_call_builtin (R:=wants (λr s₂=>r=.none/\∃h' tk,s₂={ s with heap:=h',toks:=tk } /\
     ja prog w h' s.heap.objs.size (iL ss) /\
     (∀b o,b<s.heap.objs.size->s.heap.get? b=some o->h'.get? b=some o)) E) PySem.F.called_set.init.plain PySem.F.entry_set_init (check_set_init_1 hT ?_)) λr₂ s₂ hr₂=>?_
   ·obtain⟨ol,O2,xy,nl,Ma⟩:=hl;obtain⟨Y0,RB,Wr,O3⟩:=ol;simp only at xy Ma;subst xy;subst Ma;have U3:(s.heap.push (eQ w)).get? l=some { cls:=.type "list",dict:=RB,data:=.seq items nl,slots:=O3 }:=vZ _ O2;have Y1:=PySem.F.sub_list_set;have Y2:=PySem.F.sub_list_frozenset;have nu:(Value.type "list" == Value.type "dict")=false:=by decide
    have LZ:(s.heap.push (eQ w)).IsList l items:=⟨_,U3,rfl,nl,rfl⟩;unfold Builtin.«set.__init__» noKeywords Builtin.Frozenset.updateFrom;generalize hPI:pyIter=PI;wp_walk;subst hPI;refine wpAny_pyIter_list LZ ?_;refine wX (wpAny_runValue ?_);have Ws:l<s.heap.objs.size:=vX O2;have Y3:A.in1.in1.in1.handled=none:=by simp[hh]
    have U4:l≠(s.heap.push (eQ w)).objs.size:=by
     rw[Heap.size_push];exact vS (Nat.lt_succ_of_lt Ws)
    have O0:s.heap.objs.size∉[(s.heap.push (eQ w)).objs.size,l]:=by
     rw[Heap.size_push];simp only[List.mem_cons,List.mem_singleton,List.not_mem_nil,or_false,not_or];exact⟨vS (Nat.lt_succ_self _),Nat.ne_of_gt Ws⟩
    have O1:∀(i:Nat)(v:Value),items[i]? = some v->∃x t,v=.str x t/\ss[i]? = some x:=λi v hv=>
     StrsAre.at hi i v (by rw[Array.getElem?_toList];exact hv)
    refine wG ((Walks.list Y3 _ l U4 items).toS) s.heap.objs.size
     O0 ss bB O1 hb (items.size - 0) 0 _ (by omega) (uN _)
     ⟨⟨_,vY _ rfl,rfl,rfl⟩,(LZ.push _)⟩ ?hS0 ?hR
    case hS0=>
     have U5:((s.heap.push (eQ w)).push { cls:=.type "list_iterator",data:=.fields #[.ref l,.int 0 0] }).get? s.heap.objs.size
       = some (eQ w):=vZ _ hS
     exact⟨_,#[],0,_,U5,⟨rfl,rfl,rfl⟩,rfl,λe he=>by simp at he,List.Perm.refl _,List.nodup_nil,(by show(0:Nat)<scanBound;decide),rfl,rfl,λz=>absurd rfl z⟩
    case hR=>
     intro s' hm HF
     obtain⟨h',g',d',HZ,Ud⟩:=s'
     have eg:g'=s.gens:=hm.gens
     have ed:d'=s.drawn:=hm.drawn
     have eo:Ud=s.os:=hm.os
     subst eg;subst ed;subst eo
     show wpAny _ _ _ _ _ _
     refine wY ?_
     show wpAny _ _ (ret Value.none) _ _ _
     refine wY ⟨rfl,h',HZ,rfl,HF,λb o hb e=>?_⟩
     have hb1:b≠s.heap.objs.size:=vS hb
     have Y4:b≠(s.heap.push (eQ w)).objs.size:=by
      rw[Heap.size_push];exact vS (Nat.lt_succ_of_lt hb)
     exact hm.heap b o (by simp only[List.mem_cons,List.mem_singleton,List.not_mem_nil,or_false,not_or];exact⟨hb1,Y4⟩) (vZ _ (vZ _ e))
   ·cases r₂ with
    |error e=>exact hr₂
    |ok fl₂=>
     cases fl₂ with
     |ret r=>
      obtain⟨rfl,h',tk,rfl,HF,fP⟩:=hr₂;repeat (any_goals (first|assumption|wp_step))
      exact h _ _ HF fP
     |_=>exact hr₂.elim
  |_=>exact hr.elim
end
open Sem (wp)
section
variable {M:Model}{A:Around}{E:Value->Shared->Prop}{s:Shared}
theorem Jq (hn:n≠0)(h:∀k d,k<n->Q k { s with drawn:=d }):wpAny M A (choose src n) Q E s:=by
 intro Γ p hG;unfold choose;rw[Sem.wp_choose];refine⟨hn,?_⟩;have:=h _ (s.drawn.bump src) (Nat.mod_lt (M.w.draws src (s.drawn.get src)) (Nat.pos_of_ne_zero hn));simpa using this
end
theorem m6 {α:Type}:∀(l:List α)(i:Nat),i<l.length->(l.eraseIdx i).length=l.length - 1:=λl i h=>by rw[List.length_eraseIdx,if_pos h]
theorem lL {α:Type}:∀(l:List α)(i:Nat)(x:α),l[i]? = some x->(x::l.eraseIdx i).Perm l
 |[],i,x,h=>by simp at h
 |a::l,0,x,h=>by simp at h;subst h;exact List.Perm.refl _
 |a::l,i+1,x,h=>by
  rw[List.eraseIdx_cons_succ];simp only[List.getElem?_cons_succ]at h;exact(List.Perm.swap a x _).trans ((lL l i x h).cons a)
theorem BY {α:Type}:∀(n:Nat)(xs:List α)(s:Shared)(Q:List α->Shared->Prop),xs.length=n->(∀ys d,ys.Perm xs->Q ys { s with drawn:=d })->wpAny M A (drawOrder n xs) Q E s
 |0,xs,s,Q,hl,h=>by
  have:xs=[]:=List.eq_nil_of_length_eq_zero hl;subst this;exact wY (h [] s.drawn (List.Perm.refl _))
 |n+1,[],s,Q,hl,h=>by simp at hl
 |n+1,x::r,s,Q,hl,h=>by
  show wpAny M A (choose .order (x::r).length>>=λi=>match (x::r)[i]? with
   |some x'=>(do return x'::(←drawOrder n ((x::r).eraseIdx i)))
   |none=>unsupported "internal:drawOrder") Q E s
  refine wX (Jq (by simp) λk d hk=>?_);obtain⟨y,hy⟩:∃y,(x::r)[k]? = some y:=⟨_,vU hk⟩;rw[hy];refine wX (BY n _ _ _ (by rw[m6 _ _ hk,hl];rfl) λys d' hp=>wY (h _ _ ((hp.cons y).trans (lL _ _ _ hy))))
theorem BZ {α:Type}(next:Nat->Nat):∀(fuel k:Nat)(left:List α)(out:Array α),left.length=fuel->(pickOrder.go next fuel k left out).toList.Perm (out.toList++left)
 |0,k,left,out,hl=>by
  have:left=[]:=List.eq_nil_of_length_eq_zero hl;subst this;unfold pickOrder.go;simp
 |fuel+1,k,left,out,hl=>by
  unfold pickOrder.go;have hk:next k % left.length<left.length:=Nat.mod_lt _ (by omega);obtain⟨y,hy⟩:∃y,left[next k % left.length]? = some y:=⟨_,vU hk⟩;rw[hy];dsimp only;refine(BZ next fuel (k+1) _ _ (by rw[m6 _ _ hk];omega)).trans ?_;rw[Array.toList_push,List.append_assoc];exact(lL _ _ _ hy).append_left _
theorem DJ {α:Type}(next:Nat->Nat)(xs:Array α):(pickOrder next xs).toList.Perm xs.toList:=by
 have:=BZ next xs.size 0 xs.toList #[] (by simp);simpa [pickOrder]using this
theorem bx:Slot "set_iterator" "__next__" "set_iterator.__next__" :=
 .of (owner:="set_iterator") (n:="__next__") (by rw[typeLookup_type,builtinLookup_eq_fast];kernel_rfl) (by decide +kernel) (by decide +kernel) (by decide +kernel)
  (by first|exact .inl (by decide +kernel)|exact .inr (by decide +kernel)) (by rw[isSubtype_type];kernel_rfl)
theorem fG:entryFor table "set_iterator.__next__" = some Builtin.«set_iterator.__next__»:=entryFor_of_tree (by kernel_rfl)
theorem gk (a:Value):argsOk "set_iterator.__next__" ⟨[a],[]⟩:=by unfold argsOk;kernel_rfl
theorem lx:Slot "set_iterator" "__iter__" "set_iterator.__iter__" :=
 .of (owner:="set_iterator") (n:="__iter__") (by rw[typeLookup_type,builtinLookup_eq_fast];kernel_rfl) (by decide +kernel) (by decide +kernel) (by decide +kernel)
  (by first|exact .inl (by decide +kernel)|exact .inr (by decide +kernel)) (by rw[isSubtype_type];kernel_rfl)
theorem qe:entryFor table "set_iterator.__iter__" = some Builtin.«dict_keyiterator.__iter__» :=
 entryFor_alias (id':="dict_keyiterator.__iter__") (by kernel_rfl) rfl (by decide +kernel) (by kernel_rfl)
theorem sW (a:Value):argsOk "set_iterator.__iter__" ⟨[a],[]⟩:=by unfold argsOk;kernel_rfl
theorem pw:entryFor table "set.__iter__" = some Builtin.«frozenset.__iter__» :=
 entryFor_alias (id':="frozenset.__iter__") (by kernel_rfl) rfl (by decide +kernel) (by kernel_rfl)
noncomputable abbrev lM (fst:Value)(i:Nat)(S:Addr)(n ep:Nat):Obj:={ cls:=.type "set_iterator",data:=.fields #[fst,.int i 0,.ref S,.int n 0,.int ep 0] }
section
variable {prog:Program}{w:World}{A:Around}{E:Value->Shared->Prop}{s:Shared}{it S:Addr}{i ep:Nat}{o:Obj}{es:Array (Int×Value)}{t:SetTable}
theorem dR (ho:s.heap.get? it=some (lM fst i S n ep)):s.TypeIs (.ref it) "set_iterator":=⟨_,ho,rfl⟩
theorem wH {k k':Nat}{x:Value}{Q:Option Value->Shared->Prop}(ho:s.heap.get? it=some (lM (.int k 0) i S es.size ep))
  (hS:s.heap.get? S=some o) (hd:o.data=.set es ep t) (hf:t.fits es.size=true)
  (hN:∀(A':Around)(E':Value->Shared->Prop)(Q':Option (Value×Nat)->Shared->Prop),Q' (some (x,k')) s->wpAny (model prog w) A' (setNext S k i ep) Q' E' s)
  (hQ:∀h',h'.get? it=some (lM (.int k' 0) (i+1) S es.size ep)->Heap.SameBut it s.heap h'->Q (some x) { s with heap:=h' }):
  wpAny (model prog w) A (pyNext (.ref it)) Q E s:=by
 unfold pyNext;refine wX (wpAny_attempt (wpAny_callSpecial?_slot (name:=Str.ofString "__next__") (dR ho) bx
  (wpAny_call_entry bx (dR ho) fG ?_ (gk _))))
 show wpAny _ _ (fieldsOf (.ref it)>>=_) _ _ s;refine wX (wpAny_fieldsOf ho rfl ?_);show wpAny _ _ (setEntries S>>=_) _ _ s;refine wX (wpAny_setEntries_of hS hd hf ?_);rw[if_neg (by simp)];show wpAny _ _ (setNext S _ _ _>>=_) _ _ s;simp only[Int.toNat_natCast];refine wX (hN _ _ _ ?_);dsimp only;refine wX (wpAny_setField_rec ho (by simp) λh1 e1 b1=>?_);refine wX (wpAny_setField_rec e1 (by simp) λh2 e2 b2=>?_);exact wY ⟨x,rfl,wY (hQ h2 (by simpa [rawInt,lM]using e2) (b1.trans b2))⟩
theorem wI {k:Nat}{Q:Option Value->Shared->Prop}(hh:A.handled=none)(ho:s.heap.get? it=some (lM (.int k 0) i S es.size ep))
  (hS:s.heap.get? S=some o) (hd:o.data=.set es ep t) (hf:t.fits es.size=true)
  (hN:∀(A':Around)(E':Value->Shared->Prop)(Q':Option (Value×Nat)->Shared->Prop),Q' none s->wpAny (model prog w) A' (setNext S k i ep) Q' E' s)
  (hQ:∀h',Heap.ExtBut it s.heap h'->Q none { s with heap:=h' }):
  wpAny (model prog w) A (pyNext (.ref it)) Q E s:=by
 unfold pyNext;refine wX (wpAny_attempt (wpAny_callSpecial?_slot (name:=Str.ofString "__next__") (dR ho) bx
  (wpAny_call_entry bx (dR ho) fG ?_ (gk _))))
 show wpAny _ _ (fieldsOf (.ref it)>>=_) _ _ s;refine wX (wpAny_fieldsOf ho rfl ?_);show wpAny _ _ (setEntries S>>=_) _ _ s;refine wX (wpAny_setEntries_of hS hd hf ?_);rw[if_neg (by simp)];show wpAny _ _ (setNext S _ _ _>>=_) _ _ s;simp only[Int.toNat_natCast];refine wX (hN _ _ _ ?_);dsimp only;refine wX (wpAny_setField_rec ho (by simp) λh1 e1 b1=>?_);refine wX ?_;simp only[newExc,newTuple];refine wX (wpAny_newObj_type ?_ (by size_fits));refine wX (m:=firstArgMember _ _) (wpAny_of_eq (a:=Value.none) (by first|rfl|(simp only[firstArgMember];rfl)) ?_);refine wpAny_newObj_type ?_ (by size_fits);simp only[raiseNew];refine wX (wpAny_handled ?_);rw[show A.in1.handled=none from hh];refine wX (wY (wpAny_throw ?_));refine wX (wpAny_isInstance (T:="StopIteration") (b:=true) ⟨_,vY _ rfl,rfl⟩ isSubtype_stop ?_);exact wY (hQ _ ((b1.extBut.push _).push _))
theorem sX {T:Addr}{pl:List Nat}{p:Nat}{x:Int×Value}{nt:Nat}{Q:Option Value->Shared->Prop}(ho:s.heap.get? it=some (lM (.ref T) i S es.size ep))
  (hT:s.heap.get? T=some (seqObj "tuple" (pl.map λ(p:Nat)=>Value.int p 0).toArray nt))
  (hS:s.heap.get? S=some o) (hd:o.data=.set es ep t) (hf:t.fits es.size=true) (hp:pl[i]? = some p) (hx:es[p]? = some x)
  (hQ:∀h',h'.get? it=some (lM (.ref T) (i+1) S es.size ep)->Heap.SameBut it s.heap h'->Q (some x.2) { s with heap:=h' }):
  wpAny (model prog w) A (pyNext (.ref it)) Q E s:=by
 unfold pyNext;refine wX (wpAny_attempt (wpAny_callSpecial?_slot (name:=Str.ofString "__next__") (dR ho) bx
  (wpAny_call_entry bx (dR ho) fG ?_ (gk _))))
 show wpAny _ _ (fieldsOf (.ref it)>>=_) _ _ s;refine wX (wpAny_fieldsOf ho rfl ?_);show wpAny _ _ (setEntries S>>=_) _ _ s;refine wX (wpAny_setEntries_of hS hd hf ?_);rw[if_neg (by simp)];show wpAny _ _ (seqItems? (.ref T)>>=_) _ _ s;refine wX (wpAny_seqItems hT rfl ?_);have e1:(pl.map λ(p:Nat)=>Value.int p 0).toArray[(i:Int).toNat]? = some (.int p 0):=by simp[hp]
 dsimp only;rw[e1];dsimp only;have e2:wpAny (model prog w) A.in1 (setNextDrawn S (p:Int).toNat (ep:Int).toNat) (λy s'=>y=x.2/\s'=s) (λ_ _=>False) s:=by
  unfold setNextDrawn;refine wX (wpAny_setState_of hS hd hf ?_);dsimp only;rw[if_neg (by simp)];simp only[Int.toNat_natCast,hx];exact wY ⟨rfl,rfl⟩
 refine wX (wpAny_mono e2 (λy s' hy=>?_) λ_ _ z=>z.elim);obtain⟨rfl,rfl⟩:=hy;refine wX (wpAny_setField_rec ho (by simp) λh1 e1 b1=>?_);exact wY ⟨_,rfl,wY (hQ h1 (by simpa [rawInt,lM]using e1) b1)⟩
theorem sY {T:Addr}{pl:List Nat}{nt:Nat}{Q:Option Value->Shared->Prop}(hh:A.handled=none)(ho:s.heap.get? it=some (lM (.ref T) i S es.size ep))
  (hT:s.heap.get? T=some (seqObj "tuple" (pl.map λ(p:Nat)=>Value.int p 0).toArray nt))
  (hS:s.heap.get? S=some o) (hd:o.data=.set es ep t) (hf:t.fits es.size=true) (hp:pl[i]? = none)
  (hQ:∀h',Heap.ExtBut it s.heap h'->Q none { s with heap:=h' }):
  wpAny (model prog w) A (pyNext (.ref it)) Q E s:=by
 unfold pyNext;refine wX (wpAny_attempt (wpAny_callSpecial?_slot (name:=Str.ofString "__next__") (dR ho) bx
  (wpAny_call_entry bx (dR ho) fG ?_ (gk _))))
 show wpAny _ _ (fieldsOf (.ref it)>>=_) _ _ s;refine wX (wpAny_fieldsOf ho rfl ?_);show wpAny _ _ (setEntries S>>=_) _ _ s;refine wX (wpAny_setEntries_of hS hd hf ?_);rw[if_neg (by simp)];show wpAny _ _ (seqItems? (.ref T)>>=_) _ _ s;refine wX (wpAny_seqItems hT rfl ?_);have e1:(pl.map λ(p:Nat)=>Value.int p 0).toArray[(i:Int).toNat]? = none:=by simpa using hp
 dsimp only;rw[e1];dsimp only;refine wX (wpAny_setField_rec ho (by simp) λh0 e0 b0=>?_);refine wX (wpAny_setField_rec e0 (by simp) λh1 e1 b1=>?_);refine wX ?_;simp only[newExc,newTuple];refine wX (wpAny_newObj_type ?_ (by size_fits));refine wX (m:=firstArgMember _ _) (wpAny_of_eq (a:=Value.none) (by first|rfl|(simp only[firstArgMember];rfl)) ?_);refine wpAny_newObj_type ?_ (by size_fits);simp only[raiseNew];refine wX (wpAny_handled ?_);rw[show A.in1.handled=none from hh];refine wX (wY (wpAny_throw ?_));refine wX (wpAny_isInstance (T:="StopIteration") (b:=true) ⟨_,vY _ rfl,rfl⟩ isSubtype_stop ?_);exact wY (hQ _ (((b0.trans b1).extBut.push _).push _))
theorem y4 (ho:s.heap.get? it=some (lM fst i S n ep))(h:Q (.ref it) s):wpAny (model prog w) A (pyIter (.ref it)) Q E s:=by
 refine wpAny_pyIter_slot (dR ho) lx (wpAny_call_entry lx (dR ho) qe ?_ (sW _));show wpAny _ _ (ret (.ref it)) _ _ s;exact wY ⟨_,rfl,"set_iterator",_,dR ho,bx.lookup,h⟩
end
section
variable {prog:Program}{w:World}{A:Around}{E:Value->Shared->Prop}{s:Shared}{it S:Addr}{i k ep:Nat}{o:Obj}{es:Array (Int×Value)}{t:SetTable}
theorem ud (hS:s.heap.get? S=some o)(hd:o.data=.set es ep t)(hf:t.fits es.size=true)(hb:w.params.followText "set-order" = true)
  (h:Q (((pickOrder (w.params.setOrder S ep) es)[i]?).map λe=>(e.2,k)) s):wpAny (model prog w) A (setNext S k i ep) Q E s:=by
 unfold setNext;refine wX (wpAny_setState_of hS hd hf ?_);dsimp only;unfold setsByText;refine wX (wX (wpAny_askSetting (wY ?_)));show wpAny _ _ (if w.params.followText "set-order" = true then _ else _) _ _ _;rw[if_pos hb,if_neg (by simp)];unfold setWalk setsByText;refine wX (wX (wpAny_setState_of hS hd hf ?_));dsimp only;refine wX (wX (wpAny_askSetting (wY ?_)));show wpAny _ _ (if w.params.followText "set-order" = true then _ else _) _ _ _;rw[if_pos hb];refine wX (wpAny_askSetting (wY ?_));exact wY h
theorem qg (hS:s.heap.get? S=some o)(hd:o.data=.set es ep t)(hf:t.fits es.size=true)(hb:w.params.followText "set-order" = false)(hl:t.led=true)(hz:es.size<=1)
  (h:Q (match es[SetTable.below t.place k]?,t.place[SetTable.below t.place k]? with
   |some (_,x),some j=>some (x,j+1)
   |_,_=>none) s):wpAny (model prog w) A (setNext S k i ep) Q E s:=by
 unfold setNext;refine wX (wpAny_setState_of hS hd hf ?_);dsimp only;unfold setsByText;refine wX (wX (wpAny_askSetting (wY ?_)));show wpAny _ _ (if w.params.followText "set-order" = true then _ else _) _ _ _;rw[if_neg (by rw[hb];simp)];show wpAny _ _ (if(!t.plain && decide (es.size > 1))=true then _ else _) _ _ _;rw[if_neg (by rw[decide_eq_false (by omega)];simp)];show wpAny _ _ ((if(!t.led && !es.isEmpty)=true then unsupported "set:maker-not-led" else pure ())>>=_) _ _ _;rw[hl,if_neg (by simp)];refine wX (wY ?_);exact wY h
theorem ue (hh:A.handled=none)(hd:o.data=.set es ep t)(hf:t.fits es.size=true)(nu:S≠it)(vs:List Value)(hv:vs.length=es.size)(sl:Nat->Nat)
  (hN:∀i x,vs[i]? = some x->∀(A':Around)(E':Value->Shared->Prop)(s:Shared)(Q':Option (Value×Nat)->Shared->Prop),s.heap.get? S=some o->Q' (some (x,sl (i+1))) s->wpAny (model prog w) A' (setNext S (sl i) i ep) Q' E' s)
  (hE:∀(A':Around)(E':Value->Shared->Prop)(s:Shared)(Q':Option (Value×Nat)->Shared->Prop),s.heap.get? S=some o->Q' none s->wpAny (model prog w) A' (setNext S (sl es.size) es.size ep) Q' E' s):
  Walks prog w A it [it,S] [it] es.size (λi v=>vs[i]? = some v) (λi h=>h.get? it=some (lM (.int (sl i) 0) i S es.size ep)/\h.get? S=some o) where
 sub:=λb hb=>by simp at hb;simp[hb]
 frame:=λ_ _ _ st hk=>⟨hk it (by simp) _ st.1,hk S (by simp) _ st.2⟩
 item:=λi s Q E hi st hQ=>by
  obtain⟨x,hx⟩:∃x,vs[i]? = some x:=⟨_,vU (by omega)⟩;refine wH st.1 st.2 hd hf (λA' E' Q' q=>hN i x hx A' E' s Q' st.2 q) λh' h1 h2=>?_;exact hQ x h' s.toks hx ⟨h1,h2.extBut S _ nu st.2⟩ λb u hb e=>h2.extBut b u (λz=>hb (by simp[z])) e
 done:=λs Q E st hQ=>wI hh st.1 st.2 hd hf (λA' E' Q' q=>hE A' E' s Q' st.2 q) λh' h1=>hQ h' s.toks λb u hb e=>h1 b u (λz=>hb (by simp[z])) e
 self:=λ_ _ _ _ st hQ=>y4 st.1 hQ
theorem AJ {T:Addr}{pl:List Nat}{nt:Nat}(hh:A.handled=none)(hd:o.data=.set es ep t)(hf:t.fits es.size=true)(nu:S≠it)(Y5:T≠it)(hp:pl.Perm (List.range es.size)):
  Walks prog w A it [it,S,T] [it] es.size (λi v=>(pl.map λp=>(es.getD p (0,.none)).2)[i]? = some v)
   (λi h=>h.get? it=some (lM (.ref T) i S es.size ep)/\h.get? S=some o/\h.get? T=some (seqObj "tuple" (pl.map λ(p:Nat)=>Value.int p 0).toArray nt)) where
 sub:=λb hb=>by simp at hb;simp[hb]
 frame:=λ_ _ _ st hk=>⟨hk it (by simp) _ st.1,hk S (by simp) _ st.2.1,hk T (by simp) _ st.2.2⟩
 item:=λi s Q E hi st hQ=>by
  have bB:pl.length=es.size:=by rw[hp.length_eq,List.length_range]
  obtain⟨p,hx⟩:∃p,pl[i]? = some p:=⟨_,vU (by omega)⟩;have SF:p<es.size:=List.mem_range.mp (hp.mem_iff.mp (vL hx));have he:es[p]? = some (es.getD p (0,.none)):=by rw[Array.getD_eq_getD_getElem?,Array.getElem?_eq_getElem SF];rfl
  refine sX st.1 st.2.2 st.2.1 hd hf hx he λh' h1 h2=>?_;exact hQ _ h' s.toks (by simp[hx]) ⟨h1,h2.extBut S _ nu st.2.1,h2.extBut T _ Y5 st.2.2⟩ λb u hb e=>h2.extBut b u (λz=>hb (by simp[z])) e
 done:=λs Q E st hQ=>by
  have bB:pl.length=es.size:=by rw[hp.length_eq,List.length_range]
  exact sY hh st.1 st.2.2 st.2.1 hd hf (List.getElem?_eq_none (by omega)) λh' h1=>hQ h' s.toks λb u hb e=>h1 b u (λz=>hb (by simp[z])) e
 self:=λ_ _ _ _ st hQ=>y4 st.1 hQ
end
theorem AK {α:Type}(es:Array α)(d:α):(List.range es.size).map (λp=>es.getD p d)=es.toList:=by
 apply List.ext_getElem?;intro i;by_cases h:i<es.size
 ·simp[h,Array.getD_eq_getD_getElem?]
 ·simp[h]
section
variable {prog:Program}{w:World}{A:Around}{E:Value->Shared->Prop}{s:Shared}
theorem ug (h:xs=#[j]):SetTable.below xs k=if j<k then 1 else 0:=by
 subst h;by_cases h:j<k
 ·simp[SetTable.below,SetTable.below.go,h]
 ·simp[SetTable.below,SetTable.below.go,h]
theorem FV {S:Addr}{ts:List Str}{Q:Value->Shared->Prop}(hS:ja prog w s.heap S ts)
  (hQ:∀(h':Heap)(d:Drawn)(it:Addr)(vs:List Value)(fp:List Addr)(St:Nat->Heap->Prop),(∀A',A'.handled=none->Walks prog w A' it fp [it] ts.length (λi v=>vs[i]? = some v) St)->St 0 h' ->
   (∀b u,s.heap.get? b=some u->h'.get? b=some u)->s.heap.objs.size<=it->(∀b∈fp,b=S∨s.heap.objs.size<=b)->vs.length=ts.length->(vs.map strOf).Perm ts->(∀v∈vs,∃x t,v=.str x t) ->
   Q (.ref it) { s with heap:=h',drawn:=d }):wpAny (model prog w) A (pyIter (.ref S)) Q E s:=by
 obtain⟨o,es,ep,t,ho,KA,hd,EQ,hp,nd,hb,hf,KG,lE⟩:=hS;have sz:es.size=ts.length:=by rw[←hp.length_eq,vI,vG]
 have O4:S<s.heap.objs.size:=vX ho;have Wt:s.TypeIs (.ref S) "set":=⟨_,ho,KA.1⟩;have HG:∀e∈es.toList,∃x t,e.2=.str x t:=λe he=>by
  obtain⟨⟨k,hk,_⟩,_⟩:=EQ e he;obtain⟨t,q⟩:=Value.isStrOf_shape (show Value.isStrOf k e.2=true from hk);exact⟨k,t,q⟩
 refine wpAny_pyIter_slot Wt PySem.F.slot_set_iter (wpAny_call_entry PySem.F.slot_set_iter Wt pw ?_ (PySem.F.args_set_iter_1 _));show wpAny _ _ (Builtin.Frozenset.sizeOf S>>=_) _ _ s;unfold Builtin.Frozenset.sizeOf;refine wX (wX (wpAny_setEntries_of ho hd hf (wY ?_)));unfold setDrawn setsByText;refine wX (wX (wpAny_setState_of ho hd hf ?_));dsimp only;refine wX (wX (wpAny_askSetting (wY (wY ?_))));show wpAny _ _ (if(!w.params.followText "set-order" && (!t.plain && decide (es.size > 1)))=true then _ else _) _ _ _;have O5:(es.toList.map (·.2)).map strOf=es.toList.map (λe=>strOf e.2):=by rw[uP];rfl
 by_cases Mb:w.params.followText "set-order" = true
 ·rw[if_neg (by rw[Mb];simp)];refine wX (wY ?_);refine wX (wpAny_setEpoch_of ho hd hf ?_);have pp:=DJ (w.params.setOrder S ep) es;have bB:((pickOrder (w.params.setOrder S ep) es).toList.map (·.2)).length=es.size:=by rw[vI,pp.length_eq,vG]
  refine wX (wpAny_newObj_type (wY ⟨_,rfl,"set_iterator",_,⟨_,vY _ rfl,rfl⟩,bx.lookup,?_⟩));refine hQ _ s.drawn s.heap.objs.size ((pickOrder (w.params.setOrder S ep) es).toList.map (·.2)) [s.heap.objs.size,S] (λi h=>h.get? s.heap.objs.size=some (lM (.int ((λ_=>0:Nat->Nat) i:Nat) 0) i S es.size ep)/\h.get? S=some o) (λA' hA=>?_) ?_ (λb u e=>vZ _ e) (vT _) (λb hb=>?_) (bB.trans sz) ?_ ?_
  ·rw[←sz];exact ue hA hd hf (vS O4) _ bB (λ_=>0) (λi x hx A' E' s Q' h1 h2=>ud h1 hd hf Mb (by
    rw[vA,Array.getElem?_toList]at hx;obtain⟨e,he,rfl⟩:=oY hx;rw[he];exact h2)) (λA' E' s Q' h1 h2=>ud h1 hd hf Mb (by
    rw[Array.getElem?_eq_none (by rw[←vG,pp.length_eq,vG];exact vT _)];exact h2))
  ·exact⟨vY _ rfl,vZ _ ho⟩
  ·simp only[List.mem_cons,List.not_mem_nil,or_false]at hb;rcases hb with rfl|rfl
   ·exact .inr (vT _)
   ·exact .inl rfl
  ·refine List.Perm.trans ?_ hp;rw[←O5];exact(pp.map _).map _
  ·intro v hv;obtain⟨e,he,rfl⟩:=vO hv;exact HG e (pp.mem_iff.mp he)
 ·rw[Bool.not_eq_true]at Mb;have hl:t.led=true:=by rw[KG,Mb];rfl
  by_cases h1:es.size<=1
  ·rw[if_neg (by rw[decide_eq_false (by omega)];simp)];refine wX (wY ?_);refine wX (wpAny_setEpoch_of ho hd hf ?_);refine wX (wpAny_newObj_type (wY ⟨_,rfl,"set_iterator",_,⟨_,vY _ rfl,rfl⟩,bx.lookup,?_⟩));have hpz:t.place.size=es.size:=by
    simp only[SetTable.fits,vC,beq_iff_eq,decide_eq_true_eq]at hf;exact hf.1
   refine hQ _ s.drawn s.heap.objs.size (es.toList.map (·.2)) [s.heap.objs.size,S] (λi h=>h.get? s.heap.objs.size=some (lM (.int ((λi=>if i=0 then 0 else t.place.getD 0 0+1:Nat->Nat) i:Nat) 0) i S es.size ep)/\h.get? S=some o) (λA' hA=>?_) ?_ (λb u e=>vZ _ e) (vT _) (λb hb=>?_) (by rw[vI,vG,sz]) (by rw[O5];exact hp) ?_
   ·rw[←sz];refine ue hA hd hf (vS O4) _ (by simp) (λi=>if i=0 then 0 else t.place.getD 0 0+1) (λi x hx A' E' s Q' q1 q2=>qg q1 hd hf Mb hl h1 ?_) (λA' E' s Q' q1 q2=>qg q1 hd hf Mb hl h1 ?_)
    ·have hi:i<es.size:=by have:=(vV hx).1;simpa using this
     have Y6:i=0:=by omega
     subst Y6;obtain⟨j,hj⟩:∃j,t.place=#[j]:=Array.size_eq_one_iff.mp (by omega);rw[if_pos rfl,ug hj,if_neg (by omega)];rw[vA,Array.getElem?_toList]at hx;obtain⟨e,he,rfl⟩:=oY hx;rw[he];simp only[hj]at q2 ⊢;simpa using q2
    ·by_cases h0:es.size=0
     ·have U6:t.place=#[]:=Array.eq_empty_of_size_eq_zero (by omega);have Y7:es=#[]:=Array.eq_empty_of_size_eq_zero h0;rw[U6,Y7];simpa using q2
     ·obtain⟨j,hj⟩:∃j,t.place=#[j]:=Array.size_eq_one_iff.mp (by omega);rw[if_neg h0,ug hj];have:t.place.getD 0 0=j:=by rw[hj];rfl
      rw[this,if_pos (by omega),Array.getElem?_eq_none (by omega)];exact q2
   ·exact⟨vY _ rfl,vZ _ ho⟩
   ·simp only[List.mem_cons,List.not_mem_nil,or_false]at hb;rcases hb with rfl|rfl
    ·exact .inr (vT _)
    ·exact .inl rfl
   ·intro v hv;obtain⟨e,he,rfl⟩:=vO hv;exact HG e he
  ·have U6:t.plain=false:=lE (by omega);rw[if_pos (by rw[Mb,U6,decide_eq_true (by omega)];rfl)];refine wX (BY es.size (List.range es.size) _ _ (by simp) λpl d pp=>?_);refine wX (wpAny_newTuple ?_ (by rw[vI,pp.length_eq,List.length_range,sz];exact fits_of_scanBound hb));refine wX (wpAny_setEpoch_of (vZ _ ho) hd hf ?_);refine wX (wpAny_newObj_type (wY ⟨_,rfl,"set_iterator",_,⟨_,vY _ rfl,rfl⟩,bx.lookup,?_⟩));have hsz:(s.heap.push (seqObj "tuple" (pl.map λ(p:Nat)=>Value.int p 0).toArray 0)).objs.size=s.heap.objs.size+1:=size_push' _ _;have gH:((pl.map λp=>(es.getD p (0,.none)).2)).Perm (es.toList.map (·.2)):=by
    have:=(pp.map λp=>es.getD p (0,Value.none)).map (·.2);rw[AK]at this;rw[uP]at this;exact this
   refine hQ _ d _ (pl.map λp=>(es.getD p (0,.none)).2) [(s.heap.push (seqObj "tuple" (pl.map λ(p:Nat)=>Value.int p 0).toArray 0)).objs.size,S,s.heap.objs.size] (λi h=>h.get? (s.heap.push (seqObj "tuple" (pl.map λ(p:Nat)=>Value.int p 0).toArray 0)).objs.size=some (lM (.ref s.heap.objs.size) i S es.size ep)/\h.get? S=some o/\h.get? s.heap.objs.size=some (seqObj "tuple" (pl.map λ(p:Nat)=>Value.int p 0).toArray 0)) (λA' hA=>?_) ?_ (λb u e=>vZ _ (vZ _ e)) ?_ (λb hb=>?_) ?_ ?_ ?_
   ·rw[←sz];exact AJ (nt:=0) hA hd hf (by show S≠(s.heap.push _).objs.size;rw[size_push'];exact vS (Nat.lt_succ_of_lt O4)) (by show s.heap.objs.size≠(s.heap.push _).objs.size;rw[size_push'];exact vS (Nat.lt_succ_self _)) pp
   ·exact⟨vY _ rfl,vZ _ (vZ _ ho),vZ _ (vY _ rfl)⟩
   ·show s.heap.objs.size<=(s.heap.push _).objs.size;rw[size_push'];omega
   ·simp only[List.mem_cons,List.not_mem_nil,or_false]at hb;rcases hb with rfl|rfl|rfl
    ·refine .inr ?_;show s.heap.objs.size<=(s.heap.push _).objs.size;rw[size_push'];omega
    ·exact .inl rfl
    ·exact .inr (vT _)
   ·rw[gH.length_eq,vI,vG,sz]
   ·exact((gH.map strOf).trans (by rw[O5])).trans hp
   ·intro v hv;obtain⟨e,he,rfl⟩:=vO (gH.mem_iff.mp hv);exact HG e he
end
theorem DK (h:ItemsOf (λi v=>vs[i]? = some v) ls vs.length):ls.toList=vs:=by
 apply List.ext_getElem?;intro i;by_cases hi:i<ls.size
 ·have e:ls[i]? = some ls[i]:=Array.getElem?_eq_getElem hi;rw[Array.getElem?_toList,e,h.2 i _ e]
 ·rw[List.getElem?_eq_none (by rw[vG];omega),List.getElem?_eq_none (by rw[←h.1];omega)]
section
variable {prog:Program}{w:World}{A:Around}{E:Value->Shared->Prop}{s:Shared}
theorem y6 (hh:A.handled=none)(hS:ja prog w s.heap S ts)
  (hQ:∀s' vs,(∀b u,s.heap.get? b=some u->s'.heap.get? b=some u)->s'.gens=s.gens->s'.os=s.os->vs.length=ts.length->(vs.map strOf).Perm ts->(∀v∈vs,∃x t,v=.str x t)->Q vs s'):
  wpAny (model prog w) A (collect (.ref S)) Q E s:=by
 have LV:∀(s1:Shared),ja prog w s1.heap S ts->s1.TypeIs (.ref S) "set":=λs1 h=>by
  obtain⟨o,_,_,_,ho,KA,_⟩:=h;exact⟨o,ho,KA.1⟩
 have fw:S<s.heap.objs.size:=by obtain⟨o,_,_,_,ho,_⟩:=hS;exact vX ho
 have RC:ts.length<scanBound:=by obtain⟨_,_,_,_,_,_,_,_,_,_,h,_⟩:=hS;exact h
 unfold collect;refine wX (wpAny_runValue (codeAny_builtin PySem.F.entry_proto_collect ?_));rw[Around.under_plainId PySem.F.plain_proto_collect _];show wpAny _ A.in1 (newList []>>=λl=>again (.builtin "list.__iadd__" ⟨[l,.ref S],[]⟩)) _ _ s;refine wX (wpAny_newObj_type ?_);refine wY ⟨plainId_quiet PySem.F.plain_list_iadd _,codeAny_builtin PySem.F.entry_list_iadd ?_⟩;rw[Around.under_plainId PySem.F.plain_list_iadd _];show wpAny _ A.in1 (Builtin.List.listExtendWith (.ref s.heap.objs.size) (.ref S) (.ref s.heap.objs.size)) _ _ _;unfold Builtin.List.listExtendWith;have U7:ja prog w (s.heap.push { cls:=.type "list",data:=.seq ([]:List Value).toArray }) S ts:=hS.at λo e=>vZ _ e;refine wX (wpAny_typeOf (LV _ U7) ?_);have ES:s.heap.objs.size≠S:=Nat.ne_of_gt fw;have h1:Builtin.List.listSameRef (.ref s.heap.objs.size) (.ref S)=false:=by simp[Builtin.List.listSameRef,ES]
 have h2:(Value.type "set" == Value.type "list")=false:=by decide
 have h3:(Value.type "set" == Value.type "tuple")=false:=by decide
 simp only[h1,h2,h3,Bool.or_false,uV,if_false];refine wX (FV (s:={ s with heap:=s.heap.push { cls:=.type "list",data:=.seq ([]:List Value).toArray } }) U7 λh' d it vs fp St W km hk B8 hfp B5 gH HB=>?_);have RA:ja prog w h' S ts:=U7.at λo e=>hk _ _ e;refine wX (wpAny_holding ?_);unfold Builtin.List.listLengthHint;refine wX (wpAny_specialOf (LV _ RA) PySem.F.slot_set_len.lookup ?_);wp_delta;refine wX (wpAny_isInstance (LV _ RA) sub_set_self ?_);show wpAny _ A.in1 (typeOf (Value.ref S)>>=_) _ _ _;refine wX (wpAny_typeOf (LV _ RA) ?_);refine wY ?_;rw[if_pos (by decide)];refine wX (wpAny_rule ?_);refine wX ?_;have RD:(s.heap.push { cls:=.type "list",data:=.seq ([]:List Value).toArray }).objs.size=s.heap.objs.size+1:=size_push' _ _;have Wu:h'.get? s.heap.objs.size=some { cls:=.type "list",data:=.seq ([]:List Value).toArray }:=hk _ _ (vY _ rfl);show wpAny _ A.in1 (updateSeq s.heap.objs.size (·.push .none)>>=λ_=>updateSeq s.heap.objs.size (·.pop)) _ _ _;refine wX (wpAny_updateSeq Wu rfl ?_);have Wv:=Heap.get?_update_self (Obj.mapSeq (·.push Value.none)) Wu rfl;refine wpAny_updateSeq Wv rfl ?_;have Y8:=Heap.get?_update_self (Obj.mapSeq (·.pop)) Wv rfl;have O0:s.heap.objs.size∉fp:=λhm=>by
  rcases hfp _ hm with z|z
  ·exact ES z
  ·rw[RD]at z;exact absurd z (Nat.not_succ_le_self _)
 have Ww:∀b u,b≠s.heap.objs.size->h'.get? b=some u ->
   ((h'.update s.heap.objs.size (Obj.mapSeq (·.push Value.none))).update s.heap.objs.size (Obj.mapSeq (·.pop))).get? b=some u :=
  λb u hb e=>(Heap.get?_update_other _ _ (Ne.symm hb)).trans ((Heap.get?_update_other _ _ (Ne.symm hb)).trans e)
 have W0:=W A.in1 hh;refine wY ⟨plainId_quiet PySem.F.plain_extend_loop _,codeAny_extend_loopS W0.toS (fits_of_scanBound RC) _ O0 _ ts.length 0 _ _ _ rfl (uN _)
  (W0.frame 0 _ _ km λb hb u e=>Ww b u (λz=>O0 (z ▸ hb)) e) Y8 (ItemsOf.nil _) λs' acc' c' hm hL' HH=>?_⟩
 show wpAny _ A (load s.heap.objs.size>>=_) _ _ s';refine wX (wpAny_load hL' ?_);rw[←B5]at HH;refine wY ?_;show Q acc'.toList s';rw[DK HH];refine hQ s' vs (λb u e=>hm.heap b u (λhb=>?_) (Ww b u (vS (vX e)) (hk _ _ (vZ _ e)))) hm.gens hm.os B5 gH HB;have hl:=vX e;simp only[List.mem_cons,List.not_mem_nil,or_false]at hb;rcases hb with rfl|rfl
 ·exact absurd hl (Nat.lt_irrefl _)
 ·rw[RD]at B8;exact absurd (vQ hl (Nat.le_of_succ_le B8)) (Nat.lt_irrefl _)
theorem AL (hh:A.handled=none)(hS:ja prog w s.heap S ts)(vv:ts.length<64)
  (hQ:∀(s1:Shared)(h':Heap)(a:Addr)(out:Array Value)(n:Nat)(Mc:List Str),(∀b u,s.heap.get? b=some u->s1.heap.get? b=some u)->s1.os=s.os->s1.gens=s.gens->(∀b u,s1.heap.get? b=some u->h'.get? b=some u)->s1.heap.objs.size<=a->h'.get? a=some (seqObj "list" out n) ->
   StrsAre out.toList Mc->Mc.Perm ts->sortedS Mc=true->Q (.ref a) { s1 with heap:=h' }):
  wpAny (model prog w) A (call (.builtin "sorted") [.ref S]) Q E s:=by
 refine Calls.call_function_entry kind_sorted plain_sorted entry_sorted (args_sorted1 _) ?_;unfold Builtin.«sorted»;refine wX (m:=checkCount "sorted" 1 1 _) (wY ?_);refine wX (y6 (A:=A.in1) (by exact hh) hS λs1 vs hk hg K4 B5 gH HB=>?_);have km:StrsAre vs (vs.map strOf):=strsAre_map vs HB;refine wX (wpAny_newList ?_ (by rw[B5,sizeLine_eq];omega));have EN:(s1.heap.push (seqObj "list" vs.toArray 0)).get? s1.heap.objs.size=some (seqObj "list" vs.toArray 0):=vY _ rfl;show wpAny _ _ _ _ _ { s1 with heap:=s1.heap.push (seqObj "list" vs.toArray 0) };refine wX (wpAny_holding (wpAny_call_entry slot_list_sort ⟨_,EN,rfl⟩ entry_list_sort (list_sort_treeK strKind_oneLt EN km.keysOf (λv₁ v₂ aD e=>keyKind_strs (by rw[←e];exact km)) (by rw[B5];exact vv) λjh a1 a2=>⟨_,rfl,?_⟩) (args_list_sort _)));obtain⟨Mc,b1,b2,b3⟩:=sorted_out_str km a1 a2;obtain⟨e,he⟩:=sortedHeap_at (out:=(arrOf jh).map (·.2)) EN;refine wY ⟨_,rfl,hQ s1 _ _ _ e Mc hk K4 hg (λb u q=>?_) (vT _) he b1 (b2.trans gH) b3⟩;have hl:=vX q;rw[sortedHeap_old (vS hl) (by rw[size_push'];exact Nat.lt_succ_of_lt hl)];exact vZ _ q
end
end DL
namespace DL
open PySem PySem.Spec PyProof.Rows L2
def wJ (a b:Str):Prop:=¬b.cps.toList<a.cps.toList
theorem Ca:ltCps b.cps.toList a.cps.toList=false↔wJ a b:=by rw[ltCps_eq,decide_eq_false_iff_not];rfl
theorem uh (h:wJ a b)(k:wJ b c):wJ a c:=by
 unfold wJ at *;exact List.not_lt.mpr (List.le_trans (List.not_lt.mp h) (List.not_lt.mp k))
theorem FW (h:wJ a b)(k:wJ b a):a=b:=by
 have e:a.cps.toList=b.cps.toList:=List.le_antisymm (List.not_lt.mp h) (List.not_lt.mp k);obtain⟨a⟩:=a;obtain⟨b⟩:=b;have:a=b:=Array.toList_inj.mp e;rw[this]
noncomputable def AM (x:Str):List Str->List Str
 |[]=>[x]
 |y::r=>if ltCps y.cps.toList x.cps.toList then y::AM x r else x::y::r
noncomputable def k6 (l:List Str):List Str:=l.foldr AM []
theorem nI (x:Str):∀l,(AM x l).Perm (x::l)
 |[]=>List.Perm.refl _
 |y::r=>by
  unfold AM;split
  ·exact((nI x r).cons y).trans (List.Perm.swap x y r)
  ·exact List.Perm.refl _
theorem eV:∀l,(k6 l).Perm l
 |[]=>List.Perm.refl _
 |x::l=>(nI x (k6 l)).trans ((eV l).cons x)
theorem ui (x:Str):∀l,l.Pairwise wJ->(AM x l).Pairwise wJ
 |[],_=>by simp[AM]
 |y::r,h=>by
  obtain⟨h1,h2⟩:=List.pairwise_cons.mp h;unfold AM;split
  ·rename_i hl;refine List.pairwise_cons.mpr ⟨λz hz=>?_,ui x r h2⟩;rcases vP ((nI x r).mem_iff.mp hz)with rfl|hz
   ·rw[ltCps_eq,decide_eq_true_eq]at hl;exact λk=>List.lt_irrefl _ (List.lt_trans hl k)
   ·exact h1 z hz
  ·rename_i hl;rw[Bool.not_eq_true]at hl;have Pr:wJ x y:=Ca.mp hl;refine List.pairwise_cons.mpr ⟨λz hz=>?_,h⟩;rcases vP hz with rfl|hz
   ·exact Pr
   ·exact uh Pr (h1 z hz)
theorem qh:∀l,(k6 l).Pairwise wJ
 |[]=>List.Pairwise.nil
 |x::l=>ui x _ (qh l)
theorem oA:∀(l:List Str)(p:Str),risingS p l=true->(p::l).Pairwise wJ
 |[],p,_=>List.pairwise_singleton _ _
 |x::r,p,h=>by
  have h':(!ltCps x.cps.toList p.cps.toList && risingS x r)=true:=h;rw[vC]at h';have Wx:wJ p x:=Ca.mp (by simpa using h'.1);have ih:=oA r x h'.2;refine List.pairwise_cons.mpr ⟨λz hz=>?_,ih⟩;rcases vP hz with rfl|hz
  ·exact Wx
  ·exact uh Wx ((List.pairwise_cons.mp ih).1 z hz)
theorem y7:∀(l:List Str),sortedS l=true->l.Pairwise wJ
 |[],_=>List.Pairwise.nil
 |x::r,h=>oA r x h
theorem y8 (a:Str):wJ a a:=List.lt_irrefl _
theorem qi:∀(l1 l2:List Str),l1.Perm l2->l1.Pairwise wJ->l2.Pairwise wJ->l1=l2
 |[],l2,p,_,_=>(List.nil_perm.mp p).symm
 |x::r1,[],p,_,_=>absurd p.length_eq (by simp)
 |x::r1,y::r2,p,h1,h2=>by
  have Pr:wJ x y:=by
   rcases vP (p.mem_iff.mpr (mX ..))with z|z
   ·rw[z];exact y8 _
   ·exact(List.pairwise_cons.mp h1).1 y z
  have U8:wJ y x:=by
   rcases vP (p.mem_iff.mp (mX ..))with z|z
   ·rw[z];exact y8 _
   ·exact(List.pairwise_cons.mp h2).1 x z
  have e:=FW Pr U8;subst e;rw[qi r1 r2 (List.Perm.cons_inv p) (List.pairwise_cons.mp h1).2 (List.pairwise_cons.mp h2).2]
theorem uj (p:l'.Perm l)(h:sortedS l'=true):l'=k6 l:=qi _ _ (p.trans (eV l).symm) (y7 _ h) (qh l)
section
variable {X:Cx}
noncomputable def FX (X:Cx)(S:Addr)(ts:List Str):HO:=.ext λh=>ja X.prog X.w h S ts
theorem ul (I:Inv X ae σ H s)(k:∀b u,s.heap.get? b=some u->s1.heap.get? b=some u)(ho:s1.os=s.os)(hg:s1.gens=s.gens):Inv X ae σ H s1:=by
 have I1:=I.step (g':=s.gens) (d':=s1.drawn) (t':=s1.toks) (h':=s1.heap) (H':=H) (ch:=[]) (λ_ z=>nomatch z) (λb o _ _ _ e _=>k b o e) (λb o _ _ _ e _=>⟨o.slots,k b o e⟩) (λ_ _ _ _ n=>n)
  (λb o _ e=>⟨o,k b o e⟩) (λ_ _ e=>e) (λ_ _ _ e=>e) (λ_ _ e=>e) (λm hm=>?_) (I.hok.kept k) I.bare
 ·obtain⟨h1,g1,d1,t1,o1⟩:=s1;cases ho;cases hg
  exact I1
 ·obtain⟨o,es,ep,ho,r⟩:=hm;exact⟨o,es,ep,k _ o ho,r⟩
theorem y9 (hc:X.calm=true):bV X (.type "set") (λxs H Q=>∃p ys ss,xs=[.ref p]/\hU X.K H p ys/\(∀its,aY ys its->StrsAre its ss)/\ss.length<4000/\∀S,H S=none->Q (.ref S) (upd H S (FX X S (iL ss)))):=by
 intro ae s σ H xs us Q I r h;obtain⟨p,ys,ss,rfl,hq,hs,vv,q⟩:=h;obtain⟨u,rfl,rx⟩:=hV r;cases rx
 obtain⟨its,r',pl,hz⟩:=I.list hq;have km:=hs its r';have bB:its.length=ss.length:=by rw[←km.strs,vI]
 refine qd (I.ok.hd hc) pl.isList (by simpa using km) (by simp only[vH];unfold scanBound;omega) λh' tk hS hk=>?_;refine⟨.ref s.heap.objs.size,_,I.laid (t':=tk) (λb u e=>hk b u (vX e) e) (vT _) ?_,rfl,q _ (I.hok.fresh (vT _))⟩;refine⟨hS,?_,λh1 h2 z k=>z.at k⟩;obtain⟨o,_,_,_,ho,_⟩:=hS;exact⟨o,ho⟩
theorem px (hc:X.calm=true):bV X (.builtin "sorted") (λxs H Q=>∃S ts,xs=[.ref S]/\H S=some (FX X S ts)/\ts.length<64/\∀l,H l=none->Q (.ref l) (upd H l (.lst ((k6 ts).map .str)))):=by
 intro ae s σ H xs us Q I r h;obtain⟨S,ts,rfl,hS,vv,q⟩:=h;obtain⟨u,rfl,rx⟩:=hV r;cases rx
 have hT:ja X.prog X.w s.heap S ts:=(I.hok S _ hS).1;refine AL (I.ok.hd hc) hT vv λs1 h' a out n Mc k1 ho hg k2 hp he km gH sM=>?_;have e:=uj gH sM;subst e;have I1:=ul I k1 ho hg;have hv:∀ {its:List Value}{zs:List Str},StrsAre its zs->aY (zs.map V.str) its:=λz=>by
  induction z with
  |nil=>exact .nil
  |cons x t _ ih=>exact .cons ⟨t,rfl⟩ ih
 refine⟨.ref a,_,I1.laid (t':=s1.toks) k2 hp (show cm X.prog X.w _ h' _ (.lst _)from ⟨?_,out.toList,n,hv km,he⟩),rfl,q _ (I1.hok.fresh hp)⟩;rw[vI,(eV ts).length_eq,sizeLine_eq];omega
end
@[simp] def g9:D->OB
 |.lst ds=>(g7 ds).bind λss=>if ss.length<64 then some (.lst ((k6 (iL ss)).map .str),true)else none
 |_=>none
@[simp] def So:D->OB
 |.lst ds=>(g7 ds).bind λss=>if ss.length<4000 then some (.int ((iL ss).length:Nat),false)else none
 |_=>none
theorem qj:bootBuiltins "sorted" = some (.builtin "sorted"):=by decide +kernel
theorem QF:bootBuiltins "set" = some (.type "set"):=by decide +kernel
theorem m7 {K:Frag}{N:Hp}:∀(zs:List Str),IsL K N (zs.map V.str) (zs.map D.str)
 |[]=>.nil
 |z::zs=>.cons (.str z) (m7 zs)
section
variable {X:Cx}{e:Expr}{pos pos2 p p2:Pos}
theorem qk (hc:X.calm=true)(m1:X.mg "sorted" = none)(m2:X.mg "set" = none)(he:JE X e f)(g1:Gl X "sorted":=by rfl)(g2:Gl X "set":=by rfl)
  (h1:starEach [e] X.env=(false,eval e X.env)::starEach [] X.env:=by rfl):JE X (.Call (.Name "sorted" p) [.Call (.Name "set" p2) [e] [] pos2] [] pos) (f1 g9 f):=by
 refine PE.to (xH (px hc) g1 m1 qj (iN (tM (y9 hc) g2 m2 QF (iN he kn h1) (he:=h1)) kn)) λσ H Q q=>?_;obtain⟨B,ρ,d',bb,sB,r,ee,q⟩:=q;obtain⟨x1,ex,ee⟩:=oX ee;refine⟨B,ρ,x1.1,x1.2,sB,r,ex,λv H1 N1 xt i1 fr=>?_⟩;obtain⟨xd,xb⟩:=x1;cases i1<;>try (simp[g9]at ee;done)
 rename_i l0 vs ds h hl;simp only[g9]at ee;obtain⟨ss,ez,ee⟩:=oX ee;split at ee
 ·rename_i vv;cases ee
  refine⟨_,_,ss,rfl,xt.nh.seq h,λits r'=>jp r' hl ez,by omega,λS hS=>⟨S,_,rfl,aC,Nat.lt_of_le_of_lt (pZ ss) vv,λl EB=>?_⟩⟩;have x2:=Ext.laid (o:=FX X S (iL ss)) xt.nh hS;have x3:=Ext.laid (o:=.lst ((k6 (iL ss)).map V.str)) x2.nh EB;have YA:H l=none:=((xt.trans x2).hh).free EB;exact q _ _ _ ((xt.trans x2).trans x3) (.lst (hU.of aC) (m7 _)) λ_=>⟨_,_,_,rfl,rfl,YA,aC,m7 _⟩
 ·cases ee
end
end DL
namespace DL
open PySem PySem.Spec PySem.W PyProof.Rows
inductive Run (n:Nat)(lt:Nat->Nat->Bool){α:Type}:KasT α->α->Prop where
 |ret (a:α):Run n lt (.ret a) a
 |ask {i j:Nat}{k:Bool->KasT α}{a:α}(hi:i<n) (hj:j<n) (h:Run n lt (k (lt i j)) a):Run n lt (.ask i j k) a
theorem Run.bind {n:Nat}{lt:Nat->Nat->Bool}{α β:Type}{t:KasT α}{f:α->KasT β}{a:α}{b:β}(h:Run n lt t a)(k:Run n lt (f a) b):Run n lt (t.bind f) b:=by
 induction h with
 |ret a=>exact k
 |ask hi hj _ ih=>exact .ask hi hj (ih k)
theorem Run.wp {n:Nat}{lt:Nat->Nat->Bool}{α:Type}{Wy:Nat->Nat->(Bool->Shared->Prop)->Shared->Prop}{Q:α->Shared->Prop}{t:KasT α}{a:α}(J:Shared->Prop)
  (hc:∀i j C s,i<n->j<n->J s->(∀s',J s'->C (lt i j) s')->Wy i j C s) (h:Run n lt t a):∀ {s:Shared},J s->(∀s',J s'->Q a s')->t.kasWp Wy Q s:=by
 induction h with
 |ret a=>intro s hJ hQ;exact hQ s hJ
 |ask hi hj _ ih=>intro s hJ hQ;exact hc _ _ _ _ hi hj hJ λs' hJ'=>ih hJ' hQ
section
variable {n:Nat}{rk:Nat->Int}
noncomputable abbrev ql (rk:Nat->Int)(i j:Nat):Bool:=decide (rk i<rk j)
noncomputable def cu (rk:Nat->Int)(p:Array Nat)(k:Nat):Int:=rk (p.getD k 0)
structure nq (n:Nat)(p:Array Nat):Prop where
 size:p.size=n
 perm:p.toList.Perm (List.range n)
theorem nq.lt {p:Array Nat}(h:nq n p){k:Nat}(hk:k<n):p.getD k 0<n:=by
 have fP:k<p.size:=by rw[h.size];exact hk
 have:p.getD k 0=p[k]:=by rw[Array.getD_eq_getD_getElem?,Array.getElem?_eq_getElem fP];rfl
 rw[this];exact List.mem_range.mp (h.perm.mem_iff.mp (by simp))
theorem nq.rev {p:Array Nat}(h:nq n p)(i j:Nat):nq n (kas_rev p i j) :=
 ⟨(mirror_size _ _ _ _).trans h.size,(Array.perm_iff_toList_perm.mp (mirror_perm p i j _)).trans h.perm⟩
theorem nq.bub {p:Array Nat}(h:nq n p)(k d:Nat):nq n (bubble p k d) :=
 ⟨(bubble_size _ _ _).trans h.size,(Array.perm_iff_toList_perm.mp (bubble_perm p k d)).trans h.perm⟩
theorem wK {p:Array Nat}{i j:Nat}(hj:j<=p.size)(k:Nat):cu rk (kas_rev p i j) k=if i<=k/\k<j then cu rk p (i+j - 1 - k)else cu rk p k:=by
 unfold cu kas_rev;rw[Array.getD_eq_getD_getElem?,getElem?_mirror_all hj];split<;>rw[Array.getD_eq_getD_getElem?]
theorem FY {p:Array Nat}{src d:Nat}(hs:src<p.size)(hd:d<=src)(k:Nat):cu rk (bubble p src d) k=if k=src - d then cu rk p src else if src - d<k/\k<=src then cu rk p (k - 1)else cu rk p k:=by
 unfold cu;simp only[Array.getD_eq_getD_getElem?];rw[getElem?_bubble hs d hd];repeat' split
 all_goals rfl
def Up (rk:Nat->Int)(p:Array Nat)(m:Nat):Prop:=∀i j,i<=j->j<m->cu rk p i<=cu rk p j
def wL (rk:Nat->Int)(p:Array Nat)(m:Nat):Prop:=∀i j,i<=j->j<m->cu rk p j<=cu rk p i
theorem NJ (p:Array Nat):Up rk p 1:=λi j h1 h2=>by
 have:i=j:=by omega
 subst this;exact Int.le_refl _
theorem wM {p:Array Nat}(h:nq n p){r:Nat}(hr:r<=n):∀(f m:Nat),r - m=f->1<=m->m<=r->Up rk p m->∃m',Run n (ql rk) (kas_asc p f m) m'/\m<=m'/\m'<=r/\Up rk p m'/\(m'<r->cu rk p m'<cu rk p (m' - 1))
 |0,m,hf,h1,hm,hu=>⟨m,.ret m,vT _,hm,hu,λz=>by omega⟩
 |f+1,m,hf,h1,hm,hu=>by
  have a1:=h.lt (k:=m) (by omega);have a2:=h.lt (k:=m - 1) (by omega);by_cases hc:cu rk p m<cu rk p (m - 1)
  ·refine⟨m,.ask a1 a2 ?_,vT _,hm,hu,λ_=>hc⟩;have:ql rk (p.getD m 0) (p.getD (m - 1) 0)=true:=decide_eq_true hc;rw[this,if_pos rfl];exact .ret m
  ·have KH:Up rk p (m+1):=λi j zU hj=>by
    by_cases e:j=m
    ·subst e;by_cases e2:i=j
     ·subst e2;exact Int.le_refl _
     ·have:=hu i (j - 1) (by omega) (by omega);omega
    ·exact hu i j zU (by omega)
   obtain⟨m',q1,q2,q3,q4,q5⟩:=wM h hr f (m+1) (by omega) (by omega) (by omega) KH;refine⟨m',.ask a1 a2 ?_,by omega,q3,q4,q5⟩;have:ql rk (p.getD m 0) (p.getD (m - 1) 0)=false:=decide_eq_false hc;rw[this,if_neg uX];exact q1
def Jr (rk:Nat->Int)(p:Array Nat)(m q:Nat):Prop:=q+1<=m/\∀k,m - (q+1)<=k->k<m->cu rk p k=cu rk p (m - 1)
theorem yA {p:Array Nat}{m q:Nat}(hs:m<=p.size)(hf:Jr rk p m q)(k:Nat):cu rk (kas_rev p (m - (q+1)) m) k=cu rk p k:=by
 rw[wK hs];split
 ·rename_i hk;have h0:=hf.1;rw[hf.2 k hk.1 hk.2,hf.2 _ (by omega) (by omega)]
 ·rfl
theorem Cb {p p':Array Nat}{m:Nat}(e:∀k,cu rk p' k=cu rk p k)(h:wL rk p m):wL rk p' m:=λi j h1 h2=>by rw[e,e];exact h i j h1 h2
theorem qm (p:Array Nat){m:Nat}(h:1<=m):Jr rk p m 0:=⟨h,λk h1 h2=>by
 have:k=m - 1:=by omega
 rw[this]⟩
theorem m8 {r:Nat}(hr:r<=n):∀(f:Nat)(p:Array Nat)(m q:Nat),nq n p->r - m=f->1<=m->m<=r->wL rk p m->Jr rk p m q->∃p' m' q',Run n (ql rk) (kas_desc f p m q) (p',m',q')/\nq n p'/\m<=m'/\m'<=r/\wL rk p' m'/\Jr rk p' m' q'
 |0,p,m,q,h,hf,h1,hm,hd,hq=>⟨p,m,q,.ret _,h,vT _,hm,hd,hq⟩
 |f+1,p,m,q,h,hf,h1,hm,hd,hq=>by
  have a1:=h.lt (k:=m) (by omega);have a2:=h.lt (k:=m - 1) (by omega);have step:∀p':Array Nat,(∀k,cu rk p' k=cu rk p k)->cu rk p m<=cu rk p (m - 1)->wL rk p' (m+1):=λp' e HY i j zU hj=>by
   rw[e,e];by_cases z:j=m
   ·subst z;by_cases z2:i=j
    ·subst z2;exact Int.le_refl _
    ·have:=hd i (j - 1) (by omega) (by omega);omega
   ·exact hd i j zU (by omega)
  by_cases hc:cu rk p m<cu rk p (m - 1)
  ·have xy:ql rk (p.getD m 0) (p.getD (m - 1) 0)=true:=decide_eq_true hc;by_cases hq0:q > 0
   ·have e:=yA (p:=p) (by rw[h.size];omega) hq;obtain⟨p',m',q',g1,g2,g3,g4,g5,g6⟩:=m8 hr f (kas_rev p (m - (q+1)) m) (m+1) 0 (h.rev _ _) (by omega) (by omega) (by omega) (step _ e (by omega)) (qm _ (by omega));refine⟨p',m',q',.ask a1 a2 ?_,g2,by omega,g4,g5,g6⟩;rw[xy,if_pos rfl,if_pos hq0];exact g1
   ·obtain⟨p',m',q',g1,g2,g3,g4,g5,g6⟩:=m8 hr f p (m+1) 0 h (by omega) (by omega) (by omega) (step _ (λ_=>rfl) (by omega)) (qm _ (by omega));refine⟨p',m',q',.ask a1 a2 ?_,g2,by omega,g4,g5,g6⟩;rw[xy,if_pos rfl,if_neg hq0];exact g1
  ·have xy:ql rk (p.getD m 0) (p.getD (m - 1) 0)=false:=decide_eq_false hc;by_cases Ag:cu rk p (m - 1)<cu rk p m
   ·have O6:ql rk (p.getD (m - 1) 0) (p.getD m 0)=true:=decide_eq_true Ag;refine⟨p,m,q,.ask a1 a2 ?_,h,vT _,hm,hd,hq⟩;rw[xy,if_neg uX];refine .ask a2 a1 ?_;rw[O6,if_pos rfl];exact .ret _
   ·have O6:ql rk (p.getD (m - 1) 0) (p.getD m 0)=false:=decide_eq_false Ag;have he:cu rk p m=cu rk p (m - 1):=by omega
    obtain⟨p',m',q',g1,g2,g3,g4,g5,g6⟩:=m8 hr f p (m+1) (q+1) h (by omega) (by omega) (by omega) (step _ (λ_=>rfl) (by omega)) ⟨by have:=hq.1;omega,λk k1 k2=>by
     rw[Nat.add_sub_cancel];by_cases z:k=m
     ·rw[z]
     ·rw[hq.2 k (by omega) (by omega),he]⟩
    refine⟨p',m',q',.ask a1 a2 ?_,g2,by omega,g4,g5,g6⟩;rw[xy,if_neg uX];refine .ask a2 a1 ?_;rw[O6,if_neg uX];exact g1
theorem yB {r:Nat}(hr:r<=n){p:Array Nat}(h:nq n p){m:Nat}(h1:1<=m)(hm:m<=r)(hd:wL rk p m):∃m' p',Run n (ql rk) (kas_tail3 m r p) (m',p')/\nq n p'/\1<=m'/\m'<=r/\Up rk p' m':=by
 have hu:Up rk (kas_rev p 0 m) m:=λi j zU hj=>by
  rw[wK (by rw[h.size];omega),wK (by rw[h.size];omega),if_pos (by omega),if_pos (by omega)];exact hd _ _ (by omega) (by omega)
 obtain⟨m',q1,q2,q3,q4,_⟩:=wM (h.rev 0 m) hr (r - m) m rfl h1 hm hu;exact⟨m',_,q1.bind (.ret _),h.rev 0 m,by omega,q3,q4⟩
theorem yC {r:Nat}(hr:r<=n){p:Array Nat}(h:nq n p){m:Nat}(hm:m+1<=r)(hd:wL rk p (m+1)):∃m' p',Run n (ql rk) (kas_descPart m r p) (m',p')/\nq n p'/\1<=m'/\m'<=r/\Up rk p' m':=by
 obtain⟨p1,m1,q1,g1,g2,g3,g4,g5,g6⟩:=m8 hr (r - (m+1)) p (m+1) 0 h rfl (by omega) hm hd (qm _ (by omega));by_cases hq:q1 > 0
 ·obtain⟨m',p',k1,k2,k3,k4,k5⟩:=yB hr (g2.rev (m1 - (q1+1)) m1) (m:=m1) (by omega) g4 (Cb (yA (by rw[g2.size];omega) g6) g5);exact⟨m',p',g1.bind (by dsimp only;rw[if_pos hq];exact k1),k2,k3,k4,k5⟩
 ·obtain⟨m',p',k1,k2,k3,k4,k5⟩:=yB hr g2 (m:=m1) (by omega) g4 g5;exact⟨m',p',g1.bind (by dsimp only;rw[if_neg hq];exact k1),k2,k3,k4,k5⟩
theorem DM {p:Array Nat}(h:nq n p)(hn:1<=n):∃m' p',Run n (ql rk) (kas_count n p) (m',p')/\nq n p'/\1<=m'/\m'<=n/\Up rk p' m':=by
 obtain⟨m,q1,q2,q3,q4,q5⟩:=wM h (vT n) (n - 1) 1 rfl (vT 1) hn (NJ (rk:=rk) p);by_cases e:m=n
 ·exact⟨m,p,q1.bind (by rw[if_pos (by simp[e])];exact .ret _),h,q2,q3,q4⟩
 ·have fw:=q5 (by omega);have e1:¬(m == n)=true:=by simp[e]
  by_cases Ps:m > 1
  ·by_cases hc:cu rk p 0<cu rk p (m - 1)
   ·refine⟨m,p,q1.bind ?_,h,q2,q3,q4⟩;rw[if_neg e1,if_pos Ps];refine .ask (h.lt (by omega)) (h.lt (by omega)) ?_;have:ql rk (p.getD 0 0) (p.getD (m - 1) 0)=true:=decide_eq_true hc;rw[this,if_pos rfl];exact .ret _
   ·have nn:∀k,k<m->cu rk p k=cu rk p 0:=λk hk=>by
     have z1:=q4 0 k (by omega) hk;have z2:=q4 k (m - 1) (by omega) (by omega);omega
    have er:∀k,cu rk (kas_rev p 0 m) k=cu rk p k:=λk=>by
     rw[wK (by rw[h.size];omega)];split
     ·rename_i z;rw[nn _ (by omega),nn k z.2]
     ·rfl
    have hd:wL rk p (m+1):=λi j zU hj=>by
     by_cases z:j=m
     ·subst z;by_cases z2:i=j
      ·subst z2;exact Int.le_refl _
      ·rw[nn i (by omega)];rw[nn (j - 1) (by omega)]at fw;omega
     ·rw[nn i (by omega),nn j (by omega)];exact Int.le_refl _
    obtain⟨m',p',k1,k2,k3,k4,k5⟩:=yC (vT n) (h.rev 0 m) (m:=m) (by omega) (Cb er hd);refine⟨m',p',q1.bind ?_,k2,k3,k4,k5⟩;rw[if_neg e1,if_pos Ps];refine .ask (h.lt (by omega)) (h.lt (by omega)) ?_;have:ql rk (p.getD 0 0) (p.getD (m - 1) 0)=false:=decide_eq_false hc;rw[this,if_neg uX];exact k1
  ·have em:m=1:=by omega
   subst em;have hd:wL rk p 2:=λi j zU hj=>by
    by_cases z2:i=j
    ·subst z2;exact Int.le_refl _
    ·have:i=0:=by omega
     have:j=1:=by omega
     subst_vars;have:=fw;simp at this;omega
   obtain⟨m',p',k1,k2,k3,k4,k5⟩:=yC (vT n) h (m:=1) (by omega) hd;refine⟨m',p',q1.bind ?_,k2,k3,k4,k5⟩;rw[if_neg e1,if_neg Ps];exact k1
theorem nJ {p:Array Nat}(h:nq n p){k:Nat}(hk:k<n)(hu:Up rk p k):∀(f l r:Nat),r - l<=f->l<=r->r<=k->(∀i,i<l->cu rk p i<=cu rk p k)->(∀i,r<=i->i<k->cu rk p k<cu rk p i) ->
  ∃l',Run n (ql rk) (kas_place p k f l r) l'/\l'<=k/\(∀i,i<l'->cu rk p i<=cu rk p k)/\(∀i,l'<=i->i<k->cu rk p k<cu rk p i)
 |0,l,r,hf,hl,hr,h1,h2=>⟨l,.ret l,by omega,h1,λi a b=>h2 i (by omega) b⟩
 |f+1,l,r,hf,hl,hr,h1,h2=>by
  by_cases hge:l ≥ r
  ·refine⟨l,?_,by omega,h1,λi a b=>h2 i (by omega) b⟩;unfold kas_place;rw[if_pos hge];exact .ret l
  ·by_cases hc:cu rk p k<cu rk p ((l+r) / 2)
   ·obtain⟨l',q1,q2,q3,q4⟩:=nJ h hk hu f l ((l+r) / 2) (by omega) (by omega) (by omega) h1 λi a b=>by
     have:=hu ((l+r) / 2) i a b;omega
    refine⟨l',?_,q2,q3,q4⟩;unfold kas_place;rw[if_neg hge];refine .ask (h.lt (by omega)) (h.lt (by omega)) ?_;have:ql rk (p.getD k 0) (p.getD ((l+r) / 2) 0)=true:=decide_eq_true hc;rw[this,if_pos rfl];exact q1
   ·obtain⟨l',q1,q2,q3,q4⟩:=nJ h hk hu f ((l+r) / 2+1) r (by omega) (by omega) hr (λi a=>by
     have:=hu i ((l+r) / 2) (by omega) (by omega);omega) h2
    refine⟨l',?_,q2,q3,q4⟩;unfold kas_place;rw[if_neg hge];refine .ask (h.lt (by omega)) (h.lt (by omega)) ?_;have:ql rk (p.getD k 0) (p.getD ((l+r) / 2) 0)=false:=decide_eq_false hc;rw[this,if_neg uX];exact q1
theorem Cc:∀(f:Nat)(p:Array Nat)(k:Nat),nq n p->n - k=f->k<=n->Up rk p k->∃p',Run n (ql rk) (kas_bin f p k) p'/\nq n p'/\Up rk p' n
 |0,p,k,h,hf,hk,hu=>⟨p,.ret p,h,(show k=n by omega) ▸ hu⟩
 |f+1,p,k,h,hf,hk,hu=>by
  have fP:k<n:=by omega
  obtain⟨l,q1,q2,q3,q4⟩:=nJ h fP hu k 0 k (by omega) (by omega) (vT _) (λi z=>by omega) (λi a b=>by omega);have hsz:k<p.size:=by rw[h.size];exact fP
  have KH:Up rk (bubble p k (k - l)) (k+1):=λi j zU hj=>by
   rw[FY hsz (by omega),FY hsz (by omega)];have e:k - (k - l)=l:=by omega
   rw[e];by_cases i1:i=l
   ·rw[if_pos i1];by_cases j1:j=l
    ·rw[if_pos j1];exact Int.le_refl _
    ·rw[if_neg j1,if_pos (by omega)];have:=q4 (j - 1) (by omega) (by omega);omega
   ·rw[if_neg i1];by_cases i2:l<i/\i<=k
    ·rw[if_pos i2,if_neg (by omega),if_pos (by omega)];exact hu _ _ (by omega) (by omega)
    ·rw[if_neg i2];by_cases j1:j=l
     ·rw[if_pos j1];exact q3 i (by omega)
     ·rw[if_neg j1];by_cases j2:l<j/\j<=k
      ·rw[if_pos j2];exact hu _ _ (by omega) (by omega)
      ·rw[if_neg j2];exact hu _ _ zU (by omega)
  obtain⟨p',k1,k2,k3⟩:=Cc f (bubble p k (k - l)) (k+1) (h.bub _ _) (by omega) (by omega) KH;exact⟨p',q1.bind k1,k2,k3⟩
theorem yD (hn:1<=n):∃p,Run n (ql rk) (kas_sort n) p/\nq n p/\Up rk p n:=by
 have h0:nq n (List.toArray (List.range n)):=⟨by simp,by simp⟩;obtain⟨m,p,q1,q2,q3,q4,q5⟩:=DM (rk:=rk) h0 hn;by_cases e:m<n
 ·have YB:max m 1=m:=by omega
  obtain⟨p',k1,k2,k3⟩:=Cc (n - max m 1) p (max m 1) q2 rfl (by omega) (by rw[YB];exact q5);exact⟨p',q1.bind (by dsimp only;rw[if_pos e];exact k1),k2,k3⟩
 ·have:m=n:=by omega
  subst this;exact⟨p,q1.bind (by dsimp only;rw[if_neg e];exact .ret _),q2,q5⟩
end
theorem kR {a b c:List Int}(h:a<b)(k:b<c):a<c:=List.lt_trans h k
theorem DN {a b c:List Int}(h:¬b<a)(k:¬c<b):¬c<a:=List.not_lt.mpr (List.le_trans (List.not_lt.mp h) (List.not_lt.mp k))
theorem FZ {a b:List Int}(h:¬b<a)(k:¬a<b):a=b:=List.le_antisymm (List.not_lt.mp h) (List.not_lt.mp k)
section
variable {α:Type}(f:α->List Int)
def Ga (a b:α):Prop:=¬f b<f a
noncomputable def nL (x:α):List α->List α
 |[]=>[x]
 |y::r=>if f y<f x then y::nL x r else x::y::r
noncomputable def dB (l:List α):List α:=l.foldr (nL f) []
theorem nM (x:α):∀l,(nL f x l).Perm (x::l)
 |[]=>List.Perm.refl _
 |y::r=>by
  unfold nL;split
  ·exact((nM x r).cons y).trans (List.Perm.swap x y r)
  ·exact List.Perm.refl _
theorem aQ:∀l,(dB f l).Perm l
 |[]=>List.Perm.refl _
 |x::l=>(nM f x (dB f l)).trans ((aQ l).cons x)
theorem um (x:α):∀l,l.Pairwise (Ga f)->(nL f x l).Pairwise (Ga f)
 |[],_=>by simp[nL]
 |y::r,h=>by
  obtain⟨h1,h2⟩:=List.pairwise_cons.mp h;unfold nL;split
  ·rename_i hl;refine List.pairwise_cons.mpr ⟨λz hz=>?_,um x r h2⟩;rcases vP ((nM f x r).mem_iff.mp hz)with rfl|hz
   ·exact λk=>List.lt_irrefl _ (kR hl k)
   ·exact h1 z hz
  ·rename_i hl;refine List.pairwise_cons.mpr ⟨λz hz=>?_,h⟩;rcases vP hz with rfl|hz
   ·exact hl
   ·exact DN hl (h1 z hz)
theorem dS:∀l,(dB f l).Pairwise (Ga f)
 |[]=>List.Pairwise.nil
 |x::l=>um f x _ (dS l)
theorem uo:∀(l1 l2:List α),(∀x∈l1,∀y∈l1,f x=f y->x=y)->l1.Perm l2->l1.Pairwise (Ga f)->l2.Pairwise (Ga f)->l1=l2
 |[],l2,_,p,_,_=>(List.nil_perm.mp p).symm
 |x::r1,[],_,p,_,_=>absurd p.length_eq (by simp)
 |x::r1,y::r2,hi,p,h1,h2=>by
  have hy:y∈x::r1:=p.mem_iff.mpr (mX ..);have Pr:Ga f x y:=by
   rcases vP hy with z|z
   ·rw[z];exact List.lt_irrefl _
   ·exact(List.pairwise_cons.mp h1).1 y z
  have U8:Ga f y x:=by
   rcases vP (p.mem_iff.mp (mX ..))with z|z
   ·rw[z];exact List.lt_irrefl _
   ·exact(List.pairwise_cons.mp h2).1 x z
  have e:x=y:=hi x (mX ..) y hy (FZ Pr U8);subst e;rw[uo r1 r2 (λa ha b hb=>hi a (mZ _ ha) b (mZ _ hb)) (List.Perm.cons_inv p) (List.pairwise_cons.mp h1).2 (List.pairwise_cons.mp h2).2]
theorem fH (hi:∀x∈l,∀y∈l,f x=f y->x=y)(p:l'.Perm l)(h:l'.Pairwise (Ga f)):l'=dB f l :=
 uo f _ _ (λx hx y hy=>hi x (p.mem_iff.mp hx) y (p.mem_iff.mp hy)) (p.trans (aQ f l).symm) h (dS f l)
end
theorem lN {α:Type}{p q:α->Bool}(h:∀x,p x=true->q x=true):∀l:List α,(l.filter p).length<=(l.filter q).length
 |[]=>vT _
 |x::l=>by
  have ih:=lN h l;rw[List.filter_cons,List.filter_cons];by_cases z:p x=true
  ·rw[if_pos z,if_pos (h x z)];simp only[vE];omega
  ·rw[if_neg z];split
   ·simp only[vE];omega
   ·exact ih
noncomputable def m9 (cs:List (List Int))(c:List Int):Int:=((cs.filter λx=>decide (x<c)).length:Nat)
theorem Js {cs:List (List Int)}{a b:List Int}(h:¬b<a):m9 cs a<=m9 cs b:=by
 unfold m9;refine Int.ofNat_le.mpr (lN (λx hx=>?_) cs);rw[decide_eq_true_eq]at hx ⊢;rcases List.le_iff_lt_or_eq.mp (List.not_lt.mp h)with z|z
 ·exact kR hx z
 ·rw[←z];exact hx
theorem wN {cs:List (List Int)}{a b:List Int}(ha:a∈cs)(h:a<b):m9 cs a<m9 cs b:=by
 unfold m9;apply Int.ofNat_lt.mpr;induction cs with
 |nil=>simp at ha
 |cons c cs ih=>
  have key:∀l:List (List Int),(l.filter λx=>decide (x<a)).length<=(l.filter λx=>decide (x<b)).length:=λl=>
   lN (λx hx=>by rw[decide_eq_true_eq]at hx ⊢;exact kR hx h) l
  rw[List.filter_cons,List.filter_cons];rcases vP ha with rfl|ha
  ·rw[if_neg (by simp[List.lt_irrefl]),if_pos (by simpa using h)];have:=key cs;simp only[vE];omega
  ·have:=ih ha;by_cases z:c<a
   ·rw[if_pos (by simpa using z),if_pos (by simpa using kR z h)];simp only[vE];omega
   ·rw[if_neg (by simpa using z)];split
    ·simp only[vE];omega
    ·exact this
theorem yE (ha:a∈cs):decide (m9 cs a<m9 cs b)=decide (a<b):=by
 by_cases h:a<b
 ·rw[decide_eq_true h,decide_eq_true (wN ha h)]
 ·rw[decide_eq_false h,decide_eq_false];have:=Js (cs:=cs) h;omega
inductive At where
 |i (n:Int)
 |s (z:Str)
noncomputable def NK:At->List Int
 |.i n=>[n]
 |.s z=>z.cps.toList.map (λ(c:Nat)=>(c:Int)+1)++[0]
noncomputable def cz (xs:List At):List Int:=xs.flatMap NK
noncomputable def be:List At->List At->Option Bool
 |[],ys=>some (!ys.isEmpty)
 |_::_,[]=>some false
 |.i a::xs,.i b::ys=>if a=b then be xs ys else some (decide (a<b))
 |.s a::xs,.s b::ys=>if a=b then be xs ys else some (decide (a.cps.toList<b.cps.toList))
 |_::_,_::_=>none
theorem wO:∀(a b:List Nat)(r r':List Int),(a.map (λ(c:Nat)=>(c:Int)+1)++0::r)<(b.map (λ(c:Nat)=>(c:Int)+1)++0::r')↔a<b∨(a=b/\r<r')
 |[],[],r,r'=>by simp[List.cons_lt_cons_iff]
 |[],y::b,r,r'=>by simp[List.cons_lt_cons_iff]
 |x::a,[],r,r'=>by simp[List.cons_lt_cons_iff];omega
 |x::a,y::b,r,r'=>by
  rw[uY,uY,List.cons_append,List.cons_append,List.cons_lt_cons_iff,wO a b r r',List.cons_lt_cons_iff];constructor
  ·rintro (h|⟨h,k|⟨k1,k2⟩⟩)
   ·exact .inl (.inl (by omega))
   ·exact .inl (.inr ⟨by omega,k⟩)
   ·exact .inr ⟨by rw[k1,show x=y by omega],k2⟩
  ·rintro ((h|⟨h,k⟩)|⟨h,k⟩)
   ·exact .inl (by omega)
   ·exact .inr ⟨by omega,.inl k⟩
   ·injection h with h1 h2;exact .inr ⟨by omega,.inr ⟨h2,k⟩⟩
theorem jq (x:At)(xs:List At):cz (x::xs)=NK x++cz xs:=by unfold cz;rw[uO]
theorem NL (x:At):NK x≠[]:=by cases x<;>simp[NK]
theorem Ce {a b:Str}:a.cps.toList=b.cps.toList↔a=b:=by
 constructor
 ·intro h;obtain⟨a⟩:=a;obtain⟨b⟩:=b;have:a=b:=Array.toList_inj.mp h;rw[this]
 ·rintro rfl;rfl
theorem wP:∀(xs ys:List At)(b:Bool),be xs ys=some b->b=decide (cz xs<cz ys)
 |[],[],b,h=>by simp[be]at h;subst h;simp[cz]
 |[],y::ys,b,h=>by
  simp[be]at h;subst h;rw[jq];cases e:NK y with
  |nil=>exact absurd e (NL y)
  |cons c cs=>simp[cz]
 |x::xs,[],b,h=>by simp[be]at h;subst h;simp[cz]
 |.i a::xs,.i c::ys,b,h=>by
  rw[be]at h;rw[jq,jq];show b=decide (a::cz xs<c::cz ys);split at h
  ·rename_i e;subst e;rw[wP xs ys b h];exact decide_eq_decide.mpr (by rw[List.cons_lt_cons_iff];simp)
  ·rename_i e;cases h
   exact decide_eq_decide.mpr (by rw[List.cons_lt_cons_iff];simp[e])
 |.s a::xs,.s c::ys,b,h=>by
  rw[be]at h;rw[jq,jq];have e0:∀(z:Str)(r:List Int),NK (.s z)++r=z.cps.toList.map (λ(c:Nat)=>(c:Int)+1)++0::r:=λz r=>by simp[NK]
  rw[e0,e0];split at h
  ·rename_i e;subst e;rw[wP xs ys b h];exact decide_eq_decide.mpr (by rw[wO];exact⟨λz=>.inr ⟨rfl,z⟩,λz=>z.elim (λq=>absurd q (List.lt_irrefl _)) (·.2)⟩)
  ·rename_i e;cases h
   exact decide_eq_decide.mpr (by rw[wO,Ce];exact⟨.inl,λz=>z.elim id λq=>absurd q.1 e⟩)
 |.i _::_,.s _::_,b,h=>by simp[be]at h
 |.s _::_,.i _::_,b,h=>by simp[be]at h
theorem AN:∀(xs ys:List At),be xs ys=some false->be ys xs=some false->xs=ys
 |[],[],_,_=>rfl
 |[],y::ys,h,_=>by simp[be]at h
 |x::xs,[],_,h=>by simp[be]at h
 |.i a::xs,.i c::ys,h,k=>by
  rw[be]at h k;by_cases e:a=c
  ·subst e;rw[if_pos rfl]at h k;rw[AN xs ys h k]
  ·rw[if_neg e]at h;rw[if_neg (Ne.symm e)]at k;simp at h k;omega
 |.s a::xs,.s c::ys,h,k=>by
  rw[be]at h k;by_cases e:a=c
  ·subst e;rw[if_pos rfl]at h k;rw[AN xs ys h k]
  ·rw[if_neg e]at h;rw[if_neg (Ne.symm e)]at k;simp only[Option.some.injEq,decide_eq_false_iff_not]at h k;exact absurd (Ce.mp (List.le_antisymm (List.not_lt.mp k) (List.not_lt.mp h))) e
 |.i _::_,.s _::_,h,_=>by simp[be]at h
 |.s _::_,.i _::_,h,_=>by simp[be]at h
noncomputable def di (ks:List (List At)):Bool:=ks.all λx=>ks.all λy=>(be x y).isSome
theorem gX (h:di ks=true)(hx:x∈ks)(hy:y∈ks):be x y=some (decide (cz x<cz y)):=by
 have:=uR (uR h x hx) y hy;obtain⟨b,e⟩:=uU this;rw[e,wP _ _ _ e]
theorem kT (h:di ks=true)(hx:x∈ks)(hy:y∈ks)(e:cz x=cz y):x=y:=by
 refine AN _ _ ?_ ?_
 ·rw[gX h hx hy,e,decide_eq_false (List.lt_irrefl _)]
 ·rw[gX h hy hx,e,decide_eq_false (List.lt_irrefl _)]
def Ac:At->Value->Prop
 |.i n,v=>∃t,v=.int n t
 |.s z,v=>∃t,v=.str z t
def fz (h:Heap)(xs:List At)(v:Value):Prop:=∃a o its n,v=.ref a/\h.get? a=some o/\o.cls=.type "tuple"/\o.data=.seq its n/\Paired Ac xs its.toList
theorem fz.keep (x:fz h xs v)(k:∀a o,o.cls=.type "tuple"->h.get? a=some o->h'.get? a=some o):fz h' xs v:=by
 obtain⟨a,o,its,n,e,ho,hc,r⟩:=x;exact⟨a,o,its,n,e,k a o hc ho,hc,r⟩
noncomputable def dC (ks:List (List At)):Bool:=ks.all (λx=>match x with|.i _::_=>true|_=>false) || ks.all (λx=>match x with|.s _::_=>true|_=>false)
section
variable {prog:Program}{w:World}{A:Around}{E:Value->Shared->Prop}{s:Shared}
theorem qo:∀(xs ys:List At)(its gJ:List Value)(i:Nat),Paired Ac xs its->Paired Ac ys gJ->be xs ys=some b->lr=decide (xs.length<ys.length)->Q b s->KatLex prog w A true lr Q (its.zip gJ) i s
 |[],ys,_,gJ,i,.nil,r2,h,hf,q=>by
  rw[List.zip_nil_left];refine kat_nil ?_;cases ys with
  |nil=>simp[be]at h;subst h;rw[hf];exact q
  |cons y ys=>simp[be]at h;subst h;rw[hf];simpa using q
 |x::xs,[],_,_,i,_,.nil,h,hf,q=>by
  rw[List.zip_nil_right];refine kat_nil ?_;simp[be]at h;subst h;rw[hf];simpa using q
 |.i a::xs,.i c::ys,_,_,i,.cons r1 HA,.cons r2 r2',h,hf,q=>by
  obtain⟨t,rfl⟩:=r1;obtain⟨u,rfl⟩:=r2;rw[List.zip_cons_cons];refine kat_cons (wpAny_eqBool_int ?_);rw[be]at h;by_cases e:a=c
  ·rw[if_pos e]at h;rw[show(a == c)=true by simp[e]];exact kat_yes (qo xs ys _ _ (i+1) HA r2' h (by rw[hf];simp) q)
  ·rw[if_neg e]at h;cases h
   rw[show(a == c)=false by simp[e]];refine kat_no ?_;cases hb:(true && i == 0) with
   |true=>exact oneLt_int q
   |false=>exact kat_one _ _ (PyProof.Rows.lt_int q)
 |.s a::xs,.s c::ys,_,_,i,.cons r1 HA,.cons r2 r2',h,hf,q=>by
  obtain⟨t,rfl⟩:=r1;obtain⟨u,rfl⟩:=r2;rw[List.zip_cons_cons];refine kat_cons (wpAny_eqBool_str ?_);rw[be]at h;by_cases e:a=c
  ·rw[if_pos e]at h;rw[decide_eq_true e];exact kat_yes (qo xs ys _ _ (i+1) HA r2' h (by rw[hf];simp) q)
  ·rw[if_neg e]at h;cases h
   rw[decide_eq_false e];refine kat_no ?_;cases hb:(true && i == 0) with
   |true=>exact oneLt_str q
   |false=>exact kat_one _ _ (PySem.P.lt_str q)
 |.i _::_,.s _::_,_,_,_,_,_,h,_,_=>by simp[be]at h
 |.s _::_,.i _::_,_,_,_,_,_,h,_,_=>by simp[be]at h
theorem eW {α β:Type}{F:α->β->Prop}:∀ {l₁:List α}{l₂:List β},Paired F l₁ l₂->l₁.length=l₂.length
 |_,_,.nil=>rfl
 |_,_,.cons _ t=>by simp[eW t]
theorem NM {Q:Bool->Shared->Prop}{xs ys:List At}{x y:Value}{b:Bool}(hx:fz s.heap xs x)(hy:fz s.heap ys y)(h:be xs ys=some b)(q:Q b s):wpAny (model prog w) A (keyLt' (tuples' true) x y) Q E s:=by
 obtain⟨a,o,its,n,rfl,ho,_,hd,r⟩:=hx;obtain⟨a',o',its',n',rfl,t6,_,B3,r'⟩:=hy;refine kat_lt ho hd t6 B3 (qo xs ys _ _ 0 r r' h ?_ q);rw[←vG,←vG,eW r,eW r']
theorem oB:∀ {ks:List (List At)}{vs:List Value},Paired (fz h) ks vs->(∀k∈ks,k≠[])->∃fs,KatTups h vs fs/\fs.length=ks.length/\∀v∈fs,∃k r,(k::r)∈ks/\Ac k v
 |_,_,.nil,_=>⟨[],trivial,rfl,by simp⟩
 |k::ks,_,.cons x t,nu=>by
  obtain⟨fs,h1,h2,h3⟩:=oB t λz hz=>nu z (mZ _ hz);obtain⟨a,o,its,n,rfl,ho,hc,hd,r⟩:=x;cases r':its.toList with
  |nil=>
   rw[r']at r;cases r
   exact absurd rfl (nu [] (mX ..))
  |cons v vs=>
   rw[r']at r;obtain⟨p,r1⟩:∃p,its[0]? = some v:=⟨(),by rw[←Array.getElem?_toList,r'];rfl⟩;cases r with
   |cons q qs=>
    rename_i k0 kr;refine⟨v::fs,KatTups.cons ho hc hd r1 h1,by simp[h2],λu hu=>?_⟩;rcases vP hu with rfl|hu
    ·exact⟨k0,kr,mX ..,q⟩
    ·obtain⟨k1,r1,m1,m2⟩:=h3 u hu;exact⟨k1,r1,mZ _ m1,m2⟩
theorem yF (hp:Paired (fz s.heap) ks vs)(hf:dC ks=true)(hn:0<ks.length)(q:Q (tuples' true) s):wpAny (model prog w) A (keyKind' vs.toArray) Q E s:=by
 have nu:∀k∈ks,k≠[]:=λk hk z=>by
  subst z;unfold dC at hf;rw[Bool.or_eq_true]at hf;rcases hf with hf|hf
  ·have:=uR hf [] hk;simp at this
  ·have:=uR hf [] hk;simp at this
 obtain⟨fs,h1,h2,h3⟩:=oB hp nu;unfold dC at hf;rw[Bool.or_eq_true]at hf;rcases hf with hf|hf
 ·refine kat_kind (T:=.type "int") h1 (by omega) (λv hv=>?_) (by decide) q;obtain⟨k,r,m,z⟩:=h3 v hv;have:=uR hf _ m;cases k with
  |i n=>obtain⟨t,rfl⟩:=z;exact .now
  |s z'=>simp at this
 ·refine kat_kind (T:=.type "str") h1 (by omega) (λv hv=>?_) (by decide) q;obtain⟨k,r,m,z⟩:=h3 v hv;have:=uR hf _ m;cases k with
  |s z'=>obtain⟨t,rfl⟩:=z;exact .now
  |i n=>simp at this
end
section
variable {prog:Program}{w:World}{A:Around}{E:Value->Shared->Prop}{s:Shared}
theorem eX {α β:Type}{F:α->β->Prop}(d:α)(e:β):∀ {l₁:List α}{l₂:List β},Paired F l₁ l₂->∀ {i:Nat},i<l₁.length->F (l₁.getD i d) (l₂.getD i e)
 |_,_,.cons r t,0,_=>r
 |_,_,.cons r t,i+1,h=>by
  simp only[List.getD_cons_succ];exact eX d e t (by simpa using h)
 |_,_,.nil,i,h=>by simp at h
def Ad (ks:List (List At))(i:Nat):Int:=m9 (ks.map cz) (cz (ks.getD i []))
theorem Cf {ks:List (List At)}{vs:List Value}(hc:di ks=true)(hp:Paired (fz s.heap) ks vs):∀(i j:Nat)(C:Bool->Shared->Prop)(s1:Shared),i<ks.length->j<ks.length->s1=s->(∀s',s'=s->C (ql (Ad ks) i j) s')->kas_ask prog w A (tuples' true) vs i j C s1:=by
 intro i j C s1 hi hj e hC;subst e;unfold kas_ask;have mi:ks.getD i []∈ks:=by rw[vF,vU hi];exact List.getElem_mem hi
 have mj:ks.getD j []∈ks:=by rw[vF,vU hj];exact List.getElem_mem hj
 refine NM (eX [] Value.none hp hi) (eX [] Value.none hp hj) (gX hc mi mj) ?_;have:=hC s1 rfl;unfold ql Ad at this;rw[yE (uS ⟨_,mi,rfl⟩)]at this;exact this
theorem DO (ho:s.heap.get? a=some (seqObj "list" vs.toArray n))(hk:Paired (fz s.heap) ks vs)(hc:di ks=true)(hf:dC ks=true)(vv:vs.length<64)
  (h:∀p:Array Nat,nq vs.length p->Up (Ad ks) p vs.length->P (.done (.ret .none)) { s with heap:=sortedHeap s.heap a vs (List.toArray (p.toList.map λi=>vs.getD i Value.none)) }):
  wpAny (model prog w) A (Builtin.«list.sort» ⟨[.ref a],[]⟩) P E s:=by
 have ha:=vX ho;have bB:ks.length=vs.length:=eW hk;obtain⟨e1,KE⟩:∃e1,(s.heap.update a (Obj.mapSeq λ_=>#[])).get? a=some (seqObj "list" #[] e1):=⟨_,get?_update_seq ho (λ_=>#[])⟩;let h6:Heap:=((s.heap.update a (Obj.mapSeq λ_=>#[])).push (seqObj "tuple" vs.toArray 0)).push (seqObj "list" #[] 0);have LY:∀b u,b≠a->s.heap.get? b=some u->h6.get? b=some u:=λb u hb q=>
  vZ _ (vZ _ ((Heap.get?_update_ne _ _ _ _ hb).trans q))
 have Wz:h6.get? a=some (seqObj "list" #[] e1):=vZ _ (vZ _ KE);have W1:Paired (fz h6) ks vs:=L2.Paired.mapP hk λk v x=>x.keep λb u xy q=>LY b u (λz=>by
  subst z;rw[ho]at q;cases q;injection xy with z;exact absurd z (by decide)) q
 rw[list_sort_plain];refine wX (listItems_at ho rfl (wX (listUpdate_at ho rfl (wX (seqEpoch_at KE rfl (wX (wpAny_newTuple (wX (wpAny_newList (wpAny_holding ?_))) (by show vs.length<=sizeLine;rw[sizeLine_eq];omega))))))));show wpAny (model prog w) A _ P E { s with heap:=h6 };dsimp only;have HI:∀(st:SortSt)(p:Array Nat),arrOf st=p.map (kas_item (vs.toArray.zip vs.toArray))->failedOf st=none->nq vs.length p->Up (Ad ks) p vs.length ->
   wpAny (model prog w) A (do
    let touched:=(←seqEpoch a) != e1
    Builtin.List.listUpdate (.ref a) λ_=>(arrOf st).map (·.2)
    if let some e:=failedOf st then rule "list.sort.comparison-raised";throw e
    if touched then rule "list.sort.modified";raiseError "ValueError" "list modified during sort"
    ret .none) P E { s with heap:=h6 }:=λst p ea ef ap up=>by
  have eo:(arrOf st).map (·.2)=List.toArray (p.toList.map λi=>vs.getD i Value.none):=kat_snds rfl ea;refine wX (seqEpoch_at Wz rfl ?_);refine wX (listUpdate_at Wz rfl ?_ (hsz2:=by rw[eo];simp only[vH,vI,vG,ap.size,sizeLine_eq];omega));rw[ef];simp only[bne_self_eq_false,uV,if_false];rw[eo];exact wY (h p ap up)
 by_cases h2:vs.toArray.size<2
 ·rw[if_pos h2,if_pos h2];refine wX (wY ?_);rw[StateT.run_pure];refine wX (wY ?_);have U9:vs.length<2:=by simpa using h2
  refine HI _ (List.toArray (List.range vs.length)) ?_ rfl ⟨by simp,by simp⟩ ?_
  ·show vs.toArray.zip vs.toArray=_;have:=kas_range (vs.toArray.zip vs.toArray);rw[show(vs.toArray.zip vs.toArray).size=vs.length by simp]at this;exact this.symm
  ·intro i j zU hj;have:i=j:=by omega
   subst this;exact Int.le_refl _
 ·rw[if_neg h2,if_neg h2];have E8:2<=vs.length:=by simp at h2;omega
  refine wX (yF (s:={ s with heap:=h6 }) W1 hf (by omega) ?_);obtain⟨p,r1,r2,r3⟩:=yD (n:=vs.length) (rk:=Ad ks) (by omega);refine wX (wpAny_mono (kat_run (E:=E) (ks:=vs) (vs:=vs) (κ:=tuples' true) (s:={ s with heap:=h6 }) (Q:=λjh s'=>s'={ s with heap:=h6 }/\arrOf jh=p.map (kas_item (vs.toArray.zip vs.toArray))/\failedOf jh=none)
   (G:=λp' s'=>p'=p/\s'={ s with heap:=h6 }) rfl E8 vv (λp' jh s' _ e2 e3 e4=>by
    obtain⟨rfl,rfl⟩:=e4;exact⟨rfl,e2,e3⟩) (Run.wp (λs'=>s'={ s with heap:=h6 }) (λi j C s1 hi hj e hC=>Cf (s:={ s with heap:=h6 }) hc W1 i j C s1 (by omega) (by omega) e hC) r1 rfl λs' e=>⟨rfl,e⟩)) (λr s' hr=>?_) λ_ _ z=>z)
  obtain⟨⟨⟩,jh⟩:=r;obtain⟨rfl,e2,e3⟩:=hr;exact HI jh p e2 e3 r2 r3
theorem yG (hl:s.heap.IsList l vs.toArray)(hk:Paired (fz s.heap) ks vs)(hc:di ks=true)(hf:dC ks=true)(vv:vs.length<64)
  (h:∀p:Array Nat,nq vs.length p->Up (Ad ks) p vs.length->Q (.ref (s.heap.objs.size+1)) { s with heap:=sortedAll s.heap vs (List.toArray (p.toList.map λi=>vs.getD i Value.none)) }):
  wpAny (model prog w) A (call (.builtin "sorted") [.ref l]) Q E s:=by
 let h1:Heap:=(s.heap.push (seqObj "list" #[] 0)).update s.heap.objs.size (Obj.mapSeq (· ++ vs.toArray));have hsz:h1.objs.size=s.heap.objs.size+1:=by show(Heap.update _ _ _).objs.size=_;rw[Heap.size_update,size_push']
 let h2:Heap:=h1.push (seqObj "list" vs.toArray 0);have EN:h2.get? (s.heap.objs.size+1)=some (seqObj "list" vs.toArray 0):=by rw[←hsz];exact vY _ rfl
 have YC:Paired (fz h2) ks vs:=L2.Paired.mapP hk λk v x=>x.keep λb u _ q=>
  vZ _ ((Heap.get?_update_ne _ _ _ _ (vS (vX q))).trans (vZ _ q))
 refine Calls.call_function_entry kind_sorted plain_sorted entry_sorted (args_sorted1 _) ?_;unfold Builtin.«sorted»;refine wX (m:=checkCount "sorted" 1 1 _) (wY (wX (collect_list hl (wX (wpAny_newList ?_)))));show wpAny _ _ _ _ _ { s with heap:=h2 };rw[show((s.heap.push (seqObj "list" #[] 0)).update s.heap.objs.size (Obj.mapSeq (· ++ vs.toArray))).objs.size=s.heap.objs.size+1 from hsz];exact wX (wpAny_holding (wpAny_call_entry slot_list_sort ⟨_,EN,rfl⟩ entry_list_sort (DO EN YC hc hf vv λp ap up=>⟨_,rfl,wY ⟨_,rfl,h p ap up⟩⟩) (args_list_sort _)))
end
end DL
namespace DL
open PySem PySem.Spec PySem.W PyProof.Rows L2
noncomputable def uq:D->Option At
 |.int n=>some (.i n)
 |.str z=>some (.s z)
 |_=>none
def cW:List D->Option (List At)
 |[]=>some []
 |d::ds=>(uq d).bind λa=>(cW ds).map (a :: ·)
def mB:D->Option (List At)
 |.tup es=>cW es
 |_=>none
def dj:List D->Option (List (List At))
 |[]=>some []
 |d::ds=>(mB d).bind λa=>(dj ds).map (a :: ·)
def Gb (d:D):List Int:=cz ((mB d).getD [])
noncomputable def oC:List D->Option (List Int)
 |[]=>some []
 |.int n::ds=>(oC ds).map (n :: ·)
 |_::_=>none
def mC (ns:List Int):List Int:=dB (λn=>[n]) ns
def iO:List D->OB
 |[.lst ds]=>match g7 ds with
  |some ss=>if ss.length<64 then some (.lst ((k6 ss).map .str),true)else none
  |none=>match oC ds with
   |some ns=>if ns.length<64 then some (.lst ((mC ns).map .int),true)else none
   |none=>match dj ds with
    |some ks=>if ks.length<64/\di ks=true/\dC ks=true then some (.lst (dB Gb ds),true)else none
    |none=>none
 |_=>none
theorem DP (h:uq d=some a)(k:uq e=some a):d=e:=by
 cases d<;>simp only[uq]at h<;>cases h<;>cases e<;>simp only[uq]at k<;>cases k<;>rfl
theorem qp:∀ {ds es:List D}{as:List At},cW ds=some as->cW es=some as->ds=es
 |[],[],_,_,_=>rfl
 |[],e::es,as,h,k=>by
  simp only[cW]at h k;cases h
  obtain⟨a,_,k⟩:=oX k;obtain⟨r,_,k⟩:=oY k;cases k
 |d::ds,[],as,h,k=>by
  simp only[cW]at h k;cases k
  obtain⟨a,_,h⟩:=oX h;obtain⟨r,_,h⟩:=oY h;cases h
 |d::ds,e::es,as,h,k=>by
  simp only[cW]at h k;obtain⟨a,h1,h⟩:=oX h;obtain⟨r,h2,h⟩:=oY h;obtain⟨a',k1,k⟩:=oX k;obtain⟨r',k2,k⟩:=oY k;subst h;injection k with z1 z2;subst z1;subst z2;rw[DP h1 k1,qp h2 k2]
theorem Gc (h:mB d=some k)(h':mB e=some k):d=e:=by
 cases d<;>simp only[mB]at h<;>try (cases h;done)
 cases e<;>simp only[mB]at h'<;>try (cases h';done)
 rw[qp h h']
theorem fX:∀ {ds:List D}{ks:List (List At)},dj ds=some ks->ks.length=ds.length
 |[],_,h=>by simp only[dj]at h;cases h;rfl
 |d::ds,_,h=>by
  simp only[dj]at h;obtain⟨a,h1,h⟩:=oX h;obtain⟨r,h2,h⟩:=oY h;subst h;simp[fX h2]
theorem jr:∀ {ds:List D}{ks:List (List At)},dj ds=some ks->∀ {i:Nat},i<ds.length->mB (ds.getD i .non)=some (ks.getD i [])
 |[],_,h,i,hi=>by simp at hi
 |d::ds,_,h,0,hi=>by
  simp only[dj]at h;obtain⟨a,h1,h⟩:=oX h;obtain⟨r,h2,h⟩:=oY h;subst h;exact h1
 |d::ds,_,h,i+1,hi=>by
  simp only[dj]at h;obtain⟨a,h1,h⟩:=oX h;obtain⟨r,h2,h⟩:=oY h;subst h;simp only[List.getD_cons_succ];exact jr h2 (by simpa using hi)
theorem qq {α:Type}(l:List α)(d:α):(List.range l.length).map (λi=>l.getD i d)=l:=by
 apply List.ext_getElem?;intro i;by_cases h:i<l.length
 ·simp[h]
 ·simp[h]
theorem AO (hk:dj ds=some ks)(hc:di ks=true)(ap:nq ds.length p)(up:Up (Ad ks) p ds.length):p.toList.map (λi=>ds.getD i .non)=dB Gb ds:=by
 have mem:∀x∈ds,∃k∈ks,mB x=some k:=λx hx=>by
  obtain⟨i,hi,rfl⟩:=List.mem_iff_getElem.mp hx;have:=jr hk hi;rw[vF,vU hi]at this;refine⟨_,?_,this⟩;have EA:i<ks.length:=by rw[fX hk];exact hi
  rw[vF,vU EA];exact List.getElem_mem EA
 apply fH Gb
 ·intro x hx y hy e;obtain⟨k,mk,ek⟩:=mem x hx;obtain⟨k',YD,W2⟩:=mem y hy;unfold Gb at e;rw[ek,W2]at e;have:=kT hc mk YD e;subst this;exact Gc ek W2
 ·have:=ap.perm.map (λi=>ds.getD i .non);rw[qq]at this;exact this
 ·rw[List.pairwise_iff_getElem];intro i j hi hj zU;have hsz:=ap.size;have EA:i<p.size:=by simpa using hi
  have UA:j<p.size:=by simpa using hj
  have:=up i j (Nat.le_of_lt zU) (by omega);unfold cu Ad at this;have gi:p.getD i 0=p[i]:=by rw[Array.getD_eq_getD_getElem?,Array.getElem?_eq_getElem EA];rfl
  have gj:p.getD j 0=p[j]:=by rw[Array.getD_eq_getD_getElem?,Array.getElem?_eq_getElem UA];rfl
  have li:=ap.lt (k:=i) (by omega);have lj:=ap.lt (k:=j) (by omega);have mj:ks.getD (p.getD j 0) []∈ks:=by
   have h':p.getD j 0<ks.length:=by rw[fX hk];exact lj
   rw[vF,vU h'];exact List.getElem_mem h'
  have nl:¬cz (ks.getD (p.getD j 0) [])<cz (ks.getD (p.getD i 0) []):=λz=>by
   have:=wN (cs:=ks.map cz) (uS ⟨_,mj,rfl⟩) z;omega
  simp only[List.getElem_map,Array.getElem_toList];unfold Ga Gb;rw[←gi,←gj,jr hk li,jr hk lj];exact nl
section
variable {X:Cx}
theorem yH {K:Frag}{B:Hp}:∀ {vs:List V}{es:List D}{k:List At}{its:List Value},aY vs its->IsL K B vs es->cW es=some k->Paired Ac k its
 |_,_,_,_,.nil,.nil,h=>by simp only[cW]at h;cases h;exact .nil
 |_,_,_,_,.cons r rr,.cons i ii,h=>by
  simp only[cW]at h;obtain⟨a,h1,h⟩:=oX h;obtain⟨t,h2,h⟩:=oY h;subst h;refine .cons ?_ (yH rr ii h2);cases i<;>simp only[uq]at h1<;>cases h1
  ·exact r
  ·exact r
theorem mD {ae:List (Addr×Obj)}{σ:St}{H:Hp}{s:Shared}(I:Inv X ae σ H s):∀ {ys:List V}{ds:List D}{ks:List (List At)}{its:List Value},aY ys its->IsL X.K H ys ds->dj ds=some ks->Paired (fz s.heap) ks its
 |_,_,_,_,.nil,.nil,h=>by simp only[dj]at h;cases h;exact .nil
 |_,_,_,_,.cons r rr,.cons i ii,h=>by
  simp only[dj]at h;obtain⟨a,h1,h⟩:=oX h;obtain⟨t,h2,h⟩:=oY h;subst h;refine .cons ?_ (mD I rr ii h2);cases i<;>simp only[mB]at h1<;>try (cases h1;done)
  rename_i hq hl;cases r
  obtain⟨its',r',⟨o,ho,hc,n,hd⟩,_⟩:=I.tuple hq;exact⟨_,o,_,n,rfl,ho,hc,hd,by simpa using yH r' hl h1⟩
theorem Cg {K:Frag}{B:Hp}:∀ {vs:List V}{ds:List D},IsL K B vs ds->∀ {i:Nat},i<ds.length->Is K B (vs.getD i .non) (ds.getD i .non)
 |_,_,.cons h _,0,_=>h
 |_,_,.cons _ t,i+1,hi=>by
  simp only[List.getD_cons_succ];exact Cg t (by simpa using hi)
 |_,_,.nil,i,hi=>by simp at hi
theorem yI:∀ {vs:List V}{us:List Value},aY vs us->∀ {i:Nat},i<vs.length->ba (vs.getD i .non) (us.getD i Value.none)
 |_,_,.cons h _,0,_=>h
 |_,_,.cons _ t,i+1,hi=>by
  simp only[List.getD_cons_succ];exact yI t (by simpa using hi)
 |_,_,.nil,i,hi=>by simp at hi
theorem qr {K:Frag}{B:Hp}{vs:List V}{ds:List D}(h:IsL K B vs ds):∀(l:List Nat),(∀i∈l,i<ds.length)->IsL K B (l.map λi=>vs.getD i .non) (l.map λi=>ds.getD i .non)
 |[],_=>.nil
 |i::l,hl=>.cons (Cg h (hl i (mX ..))) (qr h l λj hj=>hl j (mZ _ hj))
theorem nN (h:aY vs us):∀(l:List Nat),(∀i∈l,i<vs.length)->aY (l.map λi=>vs.getD i .non) (l.map λi=>us.getD i Value.none)
 |[],_=>.nil
 |i::l,hl=>.cons (yI h (hl i (mX ..))) (nN h l λj hj=>hl j (mZ _ hj))
end
section
variable {X:Cx}
theorem Ch {K:Frag}{B:Hp}:∀ {vs:List V}{ds:List D}{ns:List Int}{its:List Value},aY vs its->IsL K B vs ds->oC ds=some ns->IntsAre its ns
 |_,_,_,_,.nil,.nil,h=>by simp only[oC]at h;cases h;exact .nil
 |_,_,_,_,.cons r rr,.cons i ii,h=>by
  cases i<;>simp only[oC]at h<;>try (cases h;done)
  obtain⟨t,h2,h⟩:=oY h;subst h;obtain⟨u,rfl⟩:=r;exact .cons _ u (Ch rr ii h2)
theorem ur:∀ {its:List Value}{zs:List Str},StrsAre its zs->aY (zs.map V.str) its
 |_,_,.nil=>.nil
 |_,_,.cons x t r=>.cons ⟨t,rfl⟩ (ur r)
theorem gW:∀ {its:List Value}{zs:List Int},IntsAre its zs->aY (zs.map V.int) its
 |_,_,.nil=>.nil
 |_,_,.cons x t r=>.cons ⟨t,rfl⟩ (gW r)
theorem mE {K:Frag}{N:Hp}:∀(zs:List Int),IsL K N (zs.map V.int) (zs.map D.int)
 |[]=>.nil
 |z::zs=>.cons (.int z) (mE zs)
theorem yJ (p:l'.Perm l)(h:l'.Pairwise (·<=·)):l'=mC l:=by
 refine fH _ (λx _ y _ e=>by injection e) p (h.imp λ{a b} hab=>?_);unfold Ga;intro z;rw[List.cons_lt_cons_iff]at z;rcases z with z|⟨_,z⟩
 ·omega
 ·exact List.lt_irrefl _ z
theorem lO (I:Inv X ae σ H s)(sB:aX B H)(q:Fin X.K B H (.lst ds) true Q)(hv:aY ys out.toList)(hl:IsL X.K B ys ds)(hz:ys.length<=sizeLine):
  EP X ae σ Q (.ref (s.heap.objs.size+1)) { s with heap:=sortedAll s.heap its out }:=by
 obtain⟨e,he⟩:=sortedAll_at s.heap its out;have hp:H (s.heap.objs.size+1)=none:=I.hok.fresh (Nat.le_succ _);have xt:=Ext.laid (o:=.lst ys) sB hp;exact⟨.ref _,_,I.laid (t':=s.toks) (λb o=>sortedAll_old) (Nat.le_succ _) (show cm X.prog X.w _ _ _ (.lst ys)from ⟨hz,out.toList,e,hv,he⟩),rfl,
  q _ _ _ xt (.lst (hU.of aC) (hl.mono xt.bn)) λ_=>⟨_,_,_,rfl,rfl,hp,aC,hl.mono xt.bn⟩⟩
theorem Gd:bV X (.builtin "sorted") (D4 X.K iO):=by
 intro ae s σ H xs us Q I r h;obtain⟨B,dl,d,bb,sB,i,ee,q⟩:=h;cases i with
 |nil=>simp[iO]at ee
 |cons i1 i2=>
  cases i2 with
  |cons _ _=>cases i1<;>simp[iO]at ee
  |nil=>
   cases i1<;>try (simp[iO]at ee;done)
   rename_i l0 vs ds h hl;obtain⟨u,rfl,rx⟩:=hV r;cases rx
   obtain⟨its,r',pl,hz⟩:=I.list (sB.seq h);have B5:vs.length=its.length:=r'.length;have Ma:ds.length=vs.length:=hl.length.symm;simp only[iO]at ee;split at ee
   ·rename_i ss es;split at ee
    ·rename_i vv;cases ee
     have km:=jp r' hl es;have UB:its.length=ss.length:=by rw[←km.strs,vI]
     refine sorted_strs pl.isList (by simpa using km) (by omega) λout Mc a1 a2 a3=>?_;have e:=uj a2 a3;subst e;exact lO I sB q (ur a1) (m7 _) (by rw[vI,(eV ss).length_eq,sizeLine_eq];omega)
    ·cases ee
   ·split at ee
    ·rename_i ns es;split at ee
     ·rename_i vv;cases ee
      have km:=Ch r' hl es;have UB:its.length=ns.length:=IntsAre.length km;refine sorted_ints pl.isList (by simpa using km) (by omega) λout Mc a1 a2 a3=>?_;have e:=yJ a2 a3;subst e;exact lO I sB q (gW a1) (mE _) (by rw[vI];unfold mC;rw[(aQ _ ns).length_eq,sizeLine_eq];omega)
     ·cases ee
    ·split at ee
     ·rename_i ks es;split at ee
      ·rename_i hh;obtain⟨vv,hc,hf⟩:=hh;cases ee
       have UC:=fX es;have km:=mD I r' (hl.mono sB) es;refine yG pl.isList (by simpa using km) hc hf (by omega) λp ap up=>?_;have lE:its.length=ds.length:=by omega
       rw[lE]at ap up;have e:=AO es hc ap up;have ER:∀i∈p.toList,i<ds.length:=λi hi=>List.mem_range.mp (ap.perm.mem_iff.mp hi);have il:=qr hl p.toList ER;rw[e]at il;refine lO I sB q (ys:=p.toList.map λi=>vs.getD i .non) ?_ il ?_
       ·simpa using nN r' p.toList λi hi=>by rw[←Ma];exact ER i hi
       ·rw[vI,vG,ap.size,sizeLine_eq];omega
      ·cases ee
     ·cases ee
end
end DL
namespace DL
open PySem PySem.Spec PyProof.Rows L2
section
variable {X:Cx}{pos:Pos}
@[simp] def Xu (i:Nat)(f:FE):FS:=λρ=>match ρ[i]? with
 |some (some (.lst ds,true))=>(f ρ).bind λx=>(oC ds).bind λns=>match x.1 with
  |.int n=>if ns.findIdx (· == n)<ns.length then some (.nx (ρ.set i (some (.lst ((ns.eraseIdx (ns.findIdx (· == n))).map .int),true))))else none
  |_=>none
 |_=>none
end
section
variable {prog:Program}{w:World}{A:Around}{E:Value->Shared->Prop}{s:Shared}
theorem AQ {a:Addr}{o:Obj}{its:Array Value}{n:Nat}{x:Value}{e:Value->Bool}{j:Nat}{P:PySem.Fin->Shared->Prop}(ho:s.heap.get? a=some o)(hd:o.data=.seq its n)
  (he:∀y∈its,MeetsSeq.EqGives y x (e y)) (hj:j<its.size) (B8:e its[j]=true) (Pk:∀m (hm:m<its.size),m<j->e its[m]=false)
  (h:P (.done (.ret (.int j s.toks))) { s with toks:=s.toks+1 }):wpAny (model prog w) A (Builtin.«tuple.index» ⟨[.ref a,x],[]⟩) P E s:=by
 show wpAny _ _ (Builtin.Tuple.tupleItemsOf (.ref a)>>=_) _ _ s;refine wX (wpAny_tupleItemsOf ho hd ?_);dsimp only;refine wX (wY (wX (wY (wX ?_))));rw[Std.Legacy.Range.forIn_eq_forIn_range'];refine wpAny_forIn_list _
  (λaD r s'=>r.1=none/\s'=s/\∃i,i<=j/\aD=List.range' i (its.size - i))
  _ ?_ ?_ _ _ ⟨rfl,rfl,0,uN _,?_⟩
 ·rintro k aD r s' ⟨hr,rfl,i,hi,hz⟩;have fw:i<its.size:=by omega
  obtain⟨m,hm⟩:∃m,its.size - i=m+1:=⟨its.size - i - 1,by omega⟩;rw[hm,List.range'_succ]at hz;injection hz with z1 z2;have z1:=z1.symm;subst z1;subst z2;have hg:its[i]? = some its[i]:=by simp[fw]
  simp only[hg];refine wX (he _ (Array.getElem_mem fw) prog w _ _ _ _ ?_);by_cases zU:i=j
  ·subst zU;rw[B8];simp only[if_true];refine wX ?_;show wpAny _ _ (mkInt (i:Int)>>=λv=>ret v) _ _ _;exact wX (wpAny_mkInt (wY (wY (wY h))))
  ·rw[Pk i fw (by omega)];simp only[uV,if_false];exact wY ⟨rfl,rfl,i+1,by omega,by rw[show its.size - (i+1)=m by omega]⟩
 ·rintro⟨r1,r2⟩ s' ⟨hr,rfl,i,hi,hz⟩;exfalso;have:(List.range' i (its.size - i)).length=0:=by rw[←hz];rfl
  rw[List.length_range']at this;omega
 ·simp
end
theorem CRows.findT {K:Frag}{P:Params}(y:Str){ds:List D}:∀ {es:List DictEntry}{aH:List (Str×D)},CRows K P es aH->aH.lookup y=some (.tup ds) ->
  ∃e a its n ph,es.find? (λe=>Value.isStrOf y e.key)=some e/\e.val=.ref a/\K.lookup a=some ⟨.type "tuple",none,.seq its n,ph⟩/\jD its.toList ds=true
 |_,_,.nil,h=>by simp at h
 |_,_,.tup (x:=x) (t:=t) (a:=a) (ds:=K7) hh l f tl,h=>by
  by_cases e:y=x
  ·subst e;rw[List.lookup_cons_self]at h;cases h
   rw[vC]at f;exact⟨_,a,_,_,_,List.find?_cons_of_pos (by simp[Value.isStrOf]),rfl,l,f.2⟩
  ·rw[List.lookup_cons,beq_eq_false_iff_ne.mpr e]at h;have nf:Value.isStrOf y (Value.str x t)=false:=by
    rw[Bool.eq_false_iff];intro z;obtain⟨t',q⟩:=Value.isStrOf_shape z;injection q with q1;exact e q1.symm
   simp only[List.find?_cons,nf];exact tl.findT y h
 |_,_,.flat (x:=x) (t:=t) (u:=u) (d:=d) hh f tl,h=>by
  by_cases e:y=x
  ·subst e;rw[List.lookup_cons_self]at h;cases h
   cases u<;>simp[wD]at f
  ·rw[List.lookup_cons,beq_eq_false_iff_ne.mpr e]at h;have nf:Value.isStrOf y (Value.str x t)=false:=by
    rw[Bool.eq_false_iff];intro z;obtain⟨t',q⟩:=Value.isStrOf_shape z;injection q with q1;exact e q1.symm
   simp only[List.find?_cons,nf];exact tl.findT y h
section
variable {X:Cx}{b e:Expr}{pos:Pos}{x:Str}{p:Pos}
def T7 (K:Frag):V->List V->Hp->VK->Prop:=λx xs H Q=>∃(a:Addr)(o:Obj)(its:Array Value)(n:Nat)(zs:List Str)(y:Str),x=.ref a/\xs=[.str y]/\K.lookup a=some o/\o.cls=.type "tuple"/\o.data=.seq its n/\StrsAre its.toList zs/\zs.findIdx (· == y)<zs.length/\Q (.int (zs.findIdx (· == y):Nat)) H
noncomputable def L9 (y:Str):Value->Bool
 |.str z _=>z == y
 |_=>false
theorem Ci:∀ {its:List Value}{zs:List Str},StrsAre its zs->∀(i:Nat)(hi:i<its.length),∃(h:i<zs.length)(t:Tok),its[i]=.str zs[i] t
 |_,_,.cons z t h,0,_=>⟨by simp,t,rfl⟩
 |_,_,.cons z t h,i+1,hi=>by
  obtain⟨h',t',e⟩:=Ci h i (by simpa using hi);exact⟨by simpa using h',t',by simpa using e⟩
 |_,_,.nil,i,hi=>by simp at hi
theorem yK:∀ {its:List Value}{zs:List Str},StrsAre its zs->its.length=zs.length
 |_,_,.nil=>rfl
 |_,_,.cons _ _ h=>by rw[vE,vE,yK h]
theorem Ge:IC X "tuple.index" (T7 X.K):=by
 intro ae s σ H x xs v us Q I rx rv h;obtain⟨a,o,its,n,zs,y,rfl,rfl,lk,hc,hd,hz,hk,q⟩:=h;cases rx
 obtain⟨u,rfl,⟨t,rfl⟩⟩:=rv.one;have ho:=I.kIn a o lk;have hl:=yK hz;rw[vG]at hl;have at':∀(i:Nat)(hi:i<its.size),∃(h:i<zs.length)(t:Tok),its[i]=.str zs[i] t:=λi hi=>by
  obtain⟨h',t',e⟩:=Ci hz i (by simpa using hi);exact⟨h',t',by simpa using e⟩
 refine wpAny_call_entry PySem.F.slot_tuple_index ⟨o,ho,hc⟩ PySem.F.entry_tuple_index (AQ (e:=L9 y) (j:=zs.findIdx (· == y)) ho hd (λz hm=>?_) (by omega) ?_ (λm hm fw=>?_) ⟨_,rfl,.int (zs.findIdx (· == y):Nat),H,I.tok _,⟨_,rfl⟩,q⟩) (PySem.F.args_tuple_index_2 _ _)
 ·obtain⟨i,hi,rfl⟩:=Array.mem_iff_getElem.mp hm;obtain⟨_,t',e'⟩:=at' i hi;rw[e'];exact eqGives_str _ _ _ _
 ·obtain⟨_,t',e'⟩:=at' (zs.findIdx (· == y)) (by omega);rw[e'];exact List.findIdx_getElem (p:=(· == y)) (w:=hk)
 ·obtain⟨_,t',e'⟩:=at' m hm;rw[e'];have:=List.not_of_lt_findIdx (p:=(· == y)) (xs:=zs) fw;simpa [L9]using this
@[simp] def pz (aH:List (Str×D)):D->D->OB
 |.str y,.str z=>match aH.lookup y with
  |some (.tup ds)=>(g7 ds).bind λzs=>if zs.findIdx (· == z)<zs.length then some (.int (zs.findIdx (· == z):Nat),false)else none
  |_=>none
 |_,_=>none
theorem Jt {aH:List (Str×D)}{f g:FE}{dI cH:Pos}(h:∃d,X.mg x=some (.ref d)/\tY X.K X.w.params d aH)(hb:JE X b f)(he:JE X e g)(hg:Gl X x:=by rfl)(t9:(x == ("__debug__" : Str))=false:=by decide)(hs:we b:=by intro _ _;rfl)
  (iG:attributeBase (.Subscript (.Name x p) b pos) "index" X.env (eval (.Subscript (.Name x p) b pos) X.env)=eval (.Subscript (.Name x p) b pos) X.env:=by rfl)
  (B4:((backTo cH (starEach [e] X.env)).all (λx=>!x.1) && (backToKw cH (keywordEach [] X.env)).all (λx=>x.1.isSome)
   && decide ([e].length+([]:List Keyword).length+(if([]:List Keyword).isEmpty then 0 else 1)<30))=true:=by rfl)
  (iH:(dI.endLine == cH.line)=true:=by rfl) (km:starEach [e] X.env=[(false,eval e X.env)]:=by rfl):
  JE X (.Call (.Attribute (.Subscript (.Name x p) b pos) "index" dI) [e] [] cH) (f2 (pz aH) f g):=by
 obtain⟨d,hm,cd⟩:=h;have ix:HQ X (λx y H Q=>∃z ds,x=.ref d/\y=.str z/\aH.lookup z=some (.tup ds)/\∀a its n ph,X.K.lookup a=some ⟨.type "tuple",none,.seq its n,ph⟩->jD its.toList ds=true->Q (.ref a) H):=by
  intro value slice ae s σ H x y v u Q I rx ry q hs;obtain⟨z,ds,rfl,rfl,el,q⟩:=q;cases rx
  obtain⟨t,rfl⟩:=ry;obtain⟨es,n,l,r,sm⟩:=cd;have hM:=PySem.W.mapOf_K (prog:=X.prog) (w:=X.w) I.kIn l r.lit;obtain⟨en,a,its,n',ph,e1,e2,e3,e4⟩:=r.findT z el;have ff:findBy Value.isStrOf es z=some (.ref a):=by
   unfold findBy;obtain⟨es⟩:=es;rw[List.find?_toArray,e1,←e2];rfl
  exact tail_any hM.typeIs slot_dict_getitem.lookup (wpAny_getItem_of (strKind_is X.prog X.w z t) hM ff ⟨.ref a,H,I.tok _,rfl,q a _ _ _ e3 e4⟩) hs
 refine PE.to (Fg (T:="tuple") PySem.F.plainAttrs_tuple PySem.F.slot_tuple_index PySem.F.type_tuple_index Ge (KY ix (BA (v:=.ref d) hg hm rfl t9) hb hs) (iN he kn km) iG B4 iH km rfl) λσ H Q q=>?_;obtain⟨B,ρ,d',bb,sB,r,ee,q⟩:=q;obtain⟨x1,ex,ee⟩:=oX ee;obtain⟨y1,ey,ee⟩:=oX ee;obtain⟨xd,xb⟩:=x1;obtain⟨yd,yb⟩:=y1;cases xd with
 |str z=>
  cases yd with
  |str y=>
   refine⟨B,ρ,_,xb,sB,r,ex,λv H1 N1 xt i1 _=>?_⟩;cases i1
   simp only[pz]at ee;split at ee
   ·rename_i ds el;obtain⟨zs,ez,ee⟩:=oX ee;split at ee
    ·rename_i hk;cases ee
     refine⟨z,ds,rfl,rfl,el,λa its n ph l fl=>⟨.inr (.inl ⟨rfl,_,l,rfl,rfl⟩),N1,ρ,_,yb,xt.nh,r.mono xt.bn,ey,λv2 H2 N2 R6 i2 _=>?_⟩⟩;cases i2
     obtain⟨vs,rv,iv⟩:=jE (K:=X.K) fl;exact⟨a,_,its,n,zs,y,rfl,rfl,l,rfl,rfl,jp rv (iv N2) ez,hk,(q.into (xt.trans R6)).one R6.nh (.int _)⟩
    ·cases ee
   ·cases ee
  |_=>simp[pz]at ee
 |_=>simp[pz]at ee
end
open PySem.W (tabIn tabObj CodeHd kla_fn kla_obj kla_eval kla_makeFunction kla_makeFunctionHit kla_callFunE kla_codeExpr envX)
def QG (K:Frag)(c P:Addr):Prop:=∃o vs EE tf vw tg Pt EF tt,K.lookup c=some o/\o.cls=.type "code"/\o.data=.fields vs/\vs[11]? = some (.ref P)/\vs.getD 11 .none=.ref P/\vs.getD 18 .none=.str EE tf /\
 vs.getD 7 .none=.int vw tg/\vs.getD 9 .none=.bool Pt/\vs.getD 10 .none=.int EF tt/\c≠P
def AR (K:Frag)(x:Str):Prop:=∃c P,tabIn K x=some (c,P)/\QG K c P
def Gf (H:Hp)(f:Addr)(q:Str)(params:Arguments)(body:Expr)(scope:Scope)(cl:List (Str×Addr)):Prop :=
 ∃pm c Di u oc u' vs t,H f=some (.frz (kla_obj "<lambda>" q params body scope cl pm c Di) u)/\H c=some (.frz oc u')/\oc.data=.fields vs/\vs[1]? = some (.str q t)
theorem Gf.mono (h:Gf H f q params body scope cl)(e:aX H H'):Gf H' f q params body scope cl :=
 let ⟨pm,c,Di,u,oc,u',vs,t,h1,h2,h3,h4⟩:=h;⟨pm,c,Di,u,oc,u',vs,t,e _ _ h1,e _ _ h2,h3,h4⟩
theorem lam_mk {K:Frag}{x:Str}{f c P:Addr}{oc:Value}{od Uu:Option Addr}{ph Ox:Array (Option Value)}{fd:FuncData}{vs:Array Value}{EE:Str}{tf tg tt:Tok}{vw EF:Int}{Pt:Bool}(e1:nsIn K mainGlobals x=some (some (.ref f)))(e2:K.lookup f=some ⟨oc,od,.func fd,ph⟩)
  (e3:fd.code=.ref c) (e4:K.lookup c=some ⟨.type "code",Uu,.fields vs,Ox⟩) (e5:vs[11]? = some (.ref P)) (e6:vs.getD 11 .none=.ref P) (e7:vs.getD 18 .none=.str EE tf) (e8:vs.getD 7 .none=.int vw tg) (e9:vs.getD 9 .none=.bool Pt) (YE:vs.getD 10 .none=.int EF tt) (W3:(c == P)=false):AR K x :=
 ⟨c,P,tab_yes e1 e2 e3 e4 e5,_,vs,EE,tf,vw,tg,Pt,EF,tt,e4,rfl,rfl,e5,e6,e7,e8,e9,YE,λz=>by rw[z]at W3;simp at W3⟩
theorem AS (l:List Value)(h:TriplesOk l)(e:codeAmong pos (l++[rawInt a,rawInt b,c])=some cv):codeAmong pos l=some cv∨cv=c:=by
 fun_induction TriplesOk l with
 |case1=>
  simp only[List.nil_append,rawInt,codeAmong]at e;split at e
  ·cases e;exact .inr rfl
  ·cases e
 |case2 a' t b' u x aD ih=>
  simp only[List.cons_append,codeAmong]at e ⊢;split at e
  ·rename_i hc;rw[if_pos hc];exact .inl e
  ·rename_i hc;rw[if_neg hc];exact ih h e
 |case3 l h1 h2=>exact h.elim
section
variable {X:Cx}{ae:List (Addr×Obj)}{σ:St}{H:Hp}{s:Shared}
theorem Gg 
  (hx:x∈mo) (L:AR X.K x) (hc:∀c P,tabIn X.K x=some (c,P)->X.env.code=.ref c) (hq:X.env.qual ++ "<lambda>" = pQ x) (O7:defaultsOf params X.env=([],[])) (xy:closureFor scope X.env=pure cl)
  (I:Inv X ae σ H s) (tb:Tb X.K H) (k:∀f H' s',Inv X ae σ H' s'->aX H H'->Gf H' f (pQ x) params body scope cl->Q (.ref f) s'):
  wq X (eval (.Lambda params body scope pos) X.env) Q E s:=by
 refine kla_eval O7 ?_;rw[hq];obtain⟨c,P,ht,o,vs,EE,tf,vw,tg,Pt,EF,tt,lk,ck⟩:=L;have Md:=hc c P ht;have hP:=tb x hx c P ht;obtain⟨ps,e,tr,co⟩:=I.hok P _ hP;have C:CodeHd s.heap c P:=⟨o,vs,EE,tf,vw,tg,Pt,EF,tt,I.kIn c o lk,ck⟩;have hg:s.heap.Ns mainGlobals X.mg:=I.mod.glob.keeps I.bk;have nP:∀b,H b=none->b≠P:=λb n z=>by rw[z,hP]at n;cases n
 have YF:mainGlobals≠P:=by
  obtain⟨og,_,_,eg,_⟩:=I.mod.glob;exact nP _ (I.bs _ _ eg).2
 have hb:s.heap.BuiltinsAt X.mg P:=by
  obtain⟨bm,ob,b1,b2,b3,b4,b5,b6⟩:=I.mod.bmain;refine⟨bm,ob,b1,b2,λz=>?_,nP _ (I.bs _ _ b3).2,I.bk _ _ b3,b4,b5,b6⟩;obtain⟨og,es,ep,eg,dg,_⟩:=I.mod.glob;rw[z,eg]at b3;cases b3;rw[dg]at b6;cases b6
 cases hf:codeAmong pos ps.toList with
 |some cv=>
  obtain⟨c',oc,u,ws,t,rfl,hH,hd,hv⟩:=co pos cv hf;refine kla_makeFunctionHit (mg:=X.mg) xy I.ok.glob hg Md C e tr hf hb λDi h' tk hk hsz=>?_;have hn:H h'.objs.size=none:=I.hok.fresh hsz;have sm:aX H (upd H h'.objs.size (.frz (kla_obj "<lambda>" (pQ x) params body scope cl ((X.mg "__name__").getD .none) c' Di) (.own h'.objs.size))):=λb u q=>by rw[aI (aZ q hn)];exact q
  refine k _ _ _ (I.laid (t':=tk) (λb u q=>vZ _ (hk b u q)) hsz (show cm X.prog X.w _ _ _ (.frz _ (.own h'.objs.size))from ⟨vY _ rfl,_,vY _ rfl⟩)) sm ?_;exact⟨_,c',Di,_,oc,u,ws,t,aC,sm _ _ hH,hd,hv⟩
 |none=>
  refine kla_makeFunction (mg:=X.mg) xy I.ok.glob hg Md C e tr hf YF hb λc' Di h' tk hx' hge fw hrec UD=>?_;obtain⟨c2,oc,ws,t,e2,Kz,hd,hv⟩:=hrec;cases e2
  have RE:H c'=none:=I.hok.fresh hge;have hsz:s.heap.objs.size<=h'.objs.size:=vR hge (Nat.le_of_lt fw);have YG:H h'.objs.size=none:=I.hok.fresh hsz;have YH:c'≠h'.objs.size:=vS fw;let fo:Obj:=kla_obj "<lambda>" (pQ x) params body scope cl ((X.mg "__name__").getD .none) c' Di;let H1:Hp:=upd (upd H c' (.frz oc (.own c'))) h'.objs.size (.frz fo (.own h'.objs.size));have sm:aX H H1:=λb u q=>by
   show upd _ _ _ b=_;rw[aI (aZ q YG),aI (aZ q RE)];exact q
  have UE:H1 c'=some (.frz oc (.own c')):=by show upd _ _ _ c'=_;rw[aI YH,aC]
  have keep:∀b u,b≠P->s.heap.get? b=some u->(h'.push fo).get? b=some u:=λb u n q=>vZ _ (hx' b u n q);have lt:∀b u,s.heap.get? b=some u->b≠c'/\b≠h'.objs.size:=λb u q=>⟨vS (vQ (vX q) hge),vS (vQ (vX q) hsz)⟩;have RF:(h'.push fo).get? P=some (tabObj (ps++#[rawInt pos.line,rawInt pos.col,.ref c'])):=vZ _ UD;refine k _ H1 _ (I.un (t':=tk) (h':=h'.push fo) ⟨λb u q n _ _=>keep b u (nP b n) q,λb u q n _ _=>⟨u.slots,keep b u (nP b n) q⟩,λb u q n _=>?_,λb u q _=>?_,λb xs q=>sm _ _ q,λb ob u q=>sm _ _ q,λb u q=>sm _ _ q⟩ λb u q=>?_) sm ⟨_,c',Di,_,oc,_,ws,t,aC,UE,hd,hv⟩
  ·show upd _ _ _ b=_;rw[aI (lt b u q).2,aI (lt b u q).1];exact n
  ·by_cases z:b=P
   ·subst z;exact⟨_,RF⟩
   ·exact⟨u,keep b u z q⟩
  ·by_cases z1:b=h'.objs.size
   ·subst z1;have q':some (HO.frz fo (.own h'.objs.size))=some u:=by rw[←q];exact aC.symm
    cases q'
    exact⟨vY _ rfl,_,vY _ rfl⟩
   ·by_cases z2:b=c'
    ·subst z2;rw[UE]at q;cases q;exact⟨vZ _ Kz,_,vZ _ Kz⟩
    ·have q':H b=some u:=by
      have:H1 b=H b:=by show upd _ _ _ b=_;rw[aI z1,aI z2]
      rw[←this];exact q
     by_cases z3:b=P
     ·subst z3;rw[hP]at q';cases q';refine⟨_,RF,?_,λzQ cv' ea=>?_⟩
      ·rw[Array.toList_append];exact TriplesOk_snoc _ _ _ _ tr
      ·rw[Array.toList_append]at ea;rcases AS _ tr ea with ea|rfl
       ·obtain⟨c3,YI,u3,YJ,t3,y1,y2,y3⟩:=co zQ cv' ea;exact⟨c3,YI,u3,YJ,t3,y1,sm _ _ y2,y3⟩
       ·exact⟨c',oc,_,ws,t,rfl,UE,hd,hv⟩
     ·refine(I.hok b u q').stay (λd v B3 r=>keep d v ?_ r) (λd r=>sm _ _ r) (λd xs r=>sm _ _ r) λd ob v r=>sm _ _ r;rcases B3 with rfl|r
      ·exact z3
      ·intro z;rw[z,hP]at r;cases r
end
section
variable {P:Program}{w:World}{K:Frag}{mg:Str->Option Value}{base:Heap}
theorem eE.fnL {x:Str}{st:Stmt}{N ps:List Str}{k:Nat}{g:FS}{h:Heap}(F:eE K x st)(X:K.In h)(G:h.Ns mainGlobals mg)(S:FnScope N ps (aS st))
  (K9:∀(kV doc pm:Value)(an:Option Addr)(eJ ct:Value)(us:List Value),us.length=ps.length->bindArgs (fnOf x x (gh st) (cL st) (aS st) .none kV doc pm an eJ ct) ⟨us,[]⟩=pure (ps.zip us))
  (hb:∀(f:Addr)(eJ:Value)(A:Around)(outer:List PySem.Env)(s:Shared)(H:Hp)(E:XK),(∀c P,tabIn K x=some (c,P)->eJ=.ref c)->eP k (A.deeper (envOfC x (aS st) s.heap.objs.size f eJ))->xz (pj zZ P w K mg base N x (aS st) f eJ A outer s H E).nox (cL st) g):
  Fn P w K mg base (k+1) x (aO g ps.length (N.length - ps.length)):=by
 obtain⟨f,fd,F1,a⟩:=F;have F2:=F1;obtain⟨oc,od,kV,doc,pm,an,eJ,ct,ph,rfl,lk,j9⟩:=F2.ex;have hc:∀c P,tabIn K x=some (c,P)->eJ=.ref c:=λc P e=>by
  unfold tabIn at e;simp only[a,lk]at e;split at e
  ·rename_i c' _;split at e
   ·split at e
    ·cases e;rfl
    ·cases e
   ·cases e
  ·cases e
 have len:∀vs H Q E,Jb K (aO g ps.length (N.length - ps.length)) vs H Q E->vs.length=ps.length:=λvs H Q E h=>by
  obtain⟨B,ds,d,b,sB,i,e,q⟩:=h;unfold aO at e;split at e
  ·rename_i hl;rw[i.length];exact hl
  ·cases e
 refine⟨f,_,ps,KW lk j9 S len λA outer s H vs Q E hr h=>⟨_,vz.nox (hb f eJ A outer s H E hc hr),?_⟩,mg_of X G a,F1.kp,F1.binds K9⟩;have bB:=len vs H Q E h;obtain⟨B,ds,d,b,sB,i,e,q⟩:=h;unfold aO at e;rw[if_pos (by rw[←i.length];exact bB)]at e;have s0:=xT (N:=N) sB.1 sB.2 i;rw[bB]at s0;split at e
 ·rename_i d' b' eg;cases e
  exact⟨B,H,_,_,⟨B,s0⟩,eg,λv H' N' x' i' f'=>q v H' N' x' i' f'⟩
 ·rename_i ρ' eg;cases e
  exact⟨B,H,_,_,⟨B,s0⟩,eg,λσ' H' ⟨N',s'⟩=>q .non H' N' s'.ext .non (by simp)⟩
 ·cases e
end
inductive lF (X:Cx)(N':List Str)(scope:Scope)(cl:List (Str×Addr)):Nat->List Nat->Prop where
 |nil {j:Nat}(h:N'.length=j):lF X N' scope cl j []
 |cons {j i:Nat}{r:List Nat}{x:Str}(h1:N'[j]? = some x) (h2:X.N[i]? = some x) (h3:X.env.kindOf x=some .cell∨X.env.kindOf x=some .free)
   (h4:scope.names.lookup x=some .free) (h5:cl.lookup x=X.env.cells.lookup x) (t:lF X N' scope cl (j+1) r):lF X N' scope cl j (i::r)
theorem lF.len:∀ {j:Nat}{cap:List Nat},lF X N' scope cl j cap->N'.length=j+cap.length
 |_,_,.nil h=>by rw[h];rfl
 |j,i::r,.cons _ _ _ _ _ t=>by rw[t.len,vE];omega
theorem lF.get:∀ {j:Nat}{cap:List Nat}{k i:Nat},lF X N' scope cl j cap->cap[k]? = some i->∃x,N'[j+k]? = some x/\X.N[i]? = some x/\(X.env.kindOf x=some .cell∨X.env.kindOf x=some .free) /\
  scope.names.lookup x=some .free/\cl.lookup x=X.env.cells.lookup x
 |_,_,_,_,.nil _,e=>by simp at e
 |j,_,0,_,.cons h1 h2 h3 h4 h5 _,e=>by simp at e;subst e;exact⟨_,h1,h2,h3,h4,h5⟩
 |j,_,k+1,i,.cons _ _ _ _ _ t,e=>by
  obtain⟨x,q,r⟩:=t.get (k:=k) (i:=i) (by simpa using e);exact⟨x,by rw[show j+(k+1)=j+1+k by omega];exact q,r⟩
noncomputable abbrev yL (X:Cx)(N':List Str)(scope:Scope)(cl:List (Str×Addr))(q:Str)(A:Around)(f c:Addr)(s:Shared)(H:Hp):Cx :=
 { X with A:=A.deeper (envX q scope s.heap.objs.size f (.ref c) cl),N:=N',s₀:=s,H₀:=H,env:=envX q scope s.heap.objs.size f (.ref c) cl,outer:=X.stack,stack:=envX q scope s.heap.objs.size f (.ref c) cl::X.stack,ex:=[],fn:=λ_=>false,calm:=true,pn:=[],xe:=λ_ _=>False }
structure LamSc (X:Cx)(scope:Scope)(cl:List (Str×Addr))(y:Str):Prop where
 clos:closureFor scope X.env=pure cl
 nocell:∀z∈scope.names,z.2≠.cell
 kind:scope.kind=.function
 co:scope.isCoroutine=false
 gen:scope.isGenerator=false
 par:scope.names.lookup y=some .local
 sub:∀x c,cl.lookup x=some c->X.env.cells.lookup x=some c
 has:∀x,scope.names.lookup x=some .free->∃c,cl.lookup x=some c
theorem Cj (h1:∀z∈scope.names,z.2≠.cell)(h2:scope.kind=.function)(h3:scope.isCoroutine=false)(SG:scope.isGenerator=false)(hp:scope.names.lookup y=some .local)
  (Pl:(scope.names.all λz=>!(z.2 == NameKind.free) || (X.env.cells.lookup z.1).isSome)=true):LamSc X scope (dP scope.names X.env.cells []) y:=by
 have h4:∀z∈scope.names,z.2=.free->(X.env.cells.lookup z.1).isSome=true:=λz hz e=>by
  have:=uR Pl z hz;rw[e]at this;simpa using this
 exact⟨tT scope.names [] h4,h1,h2,h3,SG,hp,λx c e=>mr scope.names [] (λy d q=>by cases q) e,λx h=>by
  have:=mv (x:=x) scope.names [] (fT h) (h4 _ (fT h) rfl);exact uU this⟩
section
variable {X:Cx}{ae:List (Addr×Obj)}{σ:St}{H:Hp}{s:Shared}{A:Around}{N':List Str}{scope:Scope}{cl:List (Str×Addr)}{q y:Str}{cap:List Nat}
theorem Ju (S:LamSc X scope cl y)(N0:N'[0]? = some y)(cp:lF X N' scope cl 1 cap)(I:Inv X ae σ H s)(hA:A.frames=some X.stack)(hh:A.handled=none)(r:ba v u)
  (Pm:h₁.Ns s.heap.objs.size (λx=>[(y,u)].reverse.lookup x)) (hk:∀b o,s.heap.get? b=some o->h₁.get? b=some o):
  Inv (yL X N' scope cl q A f c s H) [] (some v::sS 0 cap σ) H { s with heap:=h₁,toks:=tk }:=by
 have K2:∀b:Addr,b∉(yL X N' scope cl q A f c s H).ex:=λb z=>absurd (show b∈([]:List Addr)from z) (by simp);refine⟨⟨I.ok.mod,S.kind,rfl,rfl,vT _,λx z d e1 e2=>I.ok.inj x z d (S.sub _ _ e1) (S.sub _ _ e2),λx hx=>?_,(λx d e=>by cases e),λ_=>hh,Around.frames_deeper hA,.inr ⟨rfl,rfl⟩,λb z=>absurd z (K2 b),I.bs,vR I.ok.bsz I.sz,λb _ _=>K2 b,λb z=>absurd z (K2 b),I.stack,I.stkFree⟩,
  rfl,I.bare,Un.kept hk,⟨_,Pm,λi x v' e1 e2 e3=>?_⟩,λx d e=>?_,I.hok.fresh (vT _),λx d e=>I.freeC x d (S.sub _ _ e),λp hp=>absurd (show p∈([]:List (Addr×Obj))from hp) (by simp),I.hok.kept hk,?_⟩
 ·have hx':scope.names.lookup x=some .cell∨scope.names.lookup x=some .free:=hx;rcases hx' with hx'|hx'
  ·exact absurd rfl (S.nocell _ (fT hx'))
  ·exact S.has x hx'
 ·cases i with
  |zero=>
   have LW:N'[0]? = some x:=e1;rw[N0]at LW;cases LW;have UF:some v=some v':=by simpa using e2
   cases UF
   exact⟨u,r,.inl ⟨S.par,by simp⟩⟩
  |succ k=>
   have UF:(sS 0 cap σ)[k]? = some (some v'):=by simpa using e2
   obtain⟨k',i',fP,g1,g2⟩:=wy UF;have:k=k':=by omega
   subst this;obtain⟨x',n1,n2,n3,n4,n5⟩:=cp.get g1;have:x'=x:=by
    have LW:N'[k+1]? = some x:=e1;rw[show 1+k=k+1 by omega]at n1;rw[n1]at LW;exact vK LW
   subst this;have YK:σ[i']? = some (some v'):=by
    cases z:σ[i']? with
    |none=>rw[z]at g2;cases g2
    |some w=>rw[z]at g2;cases w with
     |none=>cases g2
     |some w=>cases g2;rfl
   obtain⟨m,_,hl⟩:=I.loc;obtain⟨u',ru,lk⟩:=hl i' x' v' n2 YK (by
    rcases n3 with n3|n3
    ·exact .inr (.inl n3)
    ·exact .inr (.inr n3))
   refine⟨u',ru,.inr ⟨.inr n4,?_⟩⟩;rcases lk with⟨l1,_⟩|⟨_,d,l2,l3⟩
   ·rcases n3 with n3|n3<;>(rw[l1]at n3;cases n3)
   ·obtain⟨ob,ho,hd⟩:=l3;exact⟨d,by show cl.lookup x'=_;rw[n5];exact l2,ob,hk _ _ ho,hd⟩
 ·obtain⟨w,ob,ho,hd⟩:=I.cell x d (S.sub _ _ e);exact⟨w,ob,hk _ _ ho,hd⟩
 ·have:=cp.len;show(some v::sS 0 cap σ).length=N'.length;unfold sS;rw[this];simp;omega
theorem Jv (S:LamSc X scope cl y)(N0:N'[0]? = some y)(cp:lF X N' scope cl 1 cap)(I:Inv X ae σ H s)
  (hA:A.frames=some X.stack) (hh:A.handled=none) (HE:A.depth<recursionLimit) (lv:Gf H f q params body scope cl)
  (zS:∀pm c Di u,bindArgs (kla_fn "<lambda>" q params body scope cl pm (.ref c) Di) ⟨[u],[]⟩=pure [(y,u)])
  (hb:∀(f c:Addr)(s:Shared)(H:Hp),JE (yL X N' scope cl q A f c s H) body fb)
  (rep:fO X.K B σ ρ) (sB:aX B H) (r:ba v u) (i:Is X.K B v d) (e:fb (some (d,false)::dF 0 cap ρ)=some (d',b')) (qf:Fin X.K B H d' b' Q):
  wpAny (model X.prog X.w) A (call (.ref f) [u]) (EP X ae σ Q) (λ_ _=>False) s:=by
 obtain⟨pm,c,Di,uf,oc,u',ws,t,hf,hc,hd,hv⟩:=lv;have ho:=(I.hok f _ hf).1;have Kz:=(I.hok c _ hc).1;refine wpAny_call (codeAny_mono (R:=λr s'=>CR zZ X.stack X.prog X.w H s Q (λ_ _ _=>False) r s') ?_ λr s' hq=>?_)
 ·refine kla_callFunE HE ho rfl S.co S.gen rfl ⟨c,oc,ws,t,rfl,Kz,hd,hv⟩ ?_;rw[zS];refine wY (wpAny_newFunctionEnv S.nocell (λz hz=>by rw[uT hz];exact S.par) (λh₁ Pm hsb=>⟨I.nolimit.fresh _ hsb,?_⟩) S.kind);have RG:∀b o,s.heap.get? b=some o->h₁.get? b=some o:=λb o e=>hsb.extBut b o (vS (vX e)) (vZ _ e);have J:=Ju (f:=f) (c:=c) (q:=q) (tk:=s.toks+1) S N0 cp I hA hh r Pm RG;refine kla_codeExpr (wpAny_mono (hb f c s H [] _ _ H Q J ⟨B,_,d',b',sB,⟨rep.tb,λj e0 b0 z=>?_⟩,e,qf⟩) (λw s' hw=>?_) λ_ _ z=>z.elim)
  ·cases j with
   |zero=>
    have z':some (d,false)=some (e0,b0):=by simpa using z
    cases z'
    exact⟨v,rfl,i⟩
   |succ j=>
    obtain⟨w,h1,h2⟩:=(rep.caps (nT:=0) (cap:=cap)).at' j e0 b0 (by simpa using z);exact⟨w,by simpa using h1,h2⟩
  ·obtain⟨v',H',J',rv,qv⟩:=hw;exact⟨v',H',J'.os,J'.bare,J'.base,J'.hok,rv,qv⟩
 ·cases r with
  |error e=>exact False.elim hq
  |ok fl=>
   cases fl with
   |ret w=>exact I.after hq
   |next=>exact False.elim hq
   |brk=>exact False.elim hq
   |cont=>exact False.elim hq
end
end DL
namespace DL
open PySem PySem.Spec PySem.W PyProof.Rows L2
section
variable {X:Cx}{ae:List (Addr×Obj)}{σ:St}{H:Hp}{s:Shared}{h':Heap}{t':Nat}
theorem nO (I:Inv X ((p,o)::ae) σ H s):∀x c,X.env.cells.lookup x=some c->c≠p:=λx c e z=>by
 have pf:=I.pin (p,o) (mY _ mX);obtain⟨v,ob,ho,hd⟩:=I.cell x c e;rw[z,pf.1]at ho;cases ho;exact pf.2.2.2.2 v hd
theorem k7 (I:Inv X (p::ae) σ H s):Inv X ae σ H s:=I.pins_of λq hq=>I.pin q (mY _ (mZ _ hq))
theorem im (I:Inv X ((p,o)::ae) σ H s)(h0:X.s₀.heap.objs.size<=p)(hp:∀q∈X.pn++ae,q.1≠p)(k:∀b u,b≠p->s.heap.get? b=some u->h'.get? b=some u)(e':h'.get? p=some o')(nc:∀v,o'.data≠.cell v):
  Inv X ((p,o')::ae) σ H { s with heap:=h',toks:=t' }:=by
 have pf:=I.pin (p,o) (mY _ mX);have J:=(k7 I).turned (t':=t') k pf.2.1 pf.2.2.1 (.inr h0) (nO I) hp;refine J.pins_of λq hq=>?_;rcases vP hq with rfl|hq
 ·exact⟨e',pf.2.1,pf.2.2.1,pf.2.2.2.1,nc⟩
 ·exact J.pin q (mY _ hq)
theorem p9 (I:Inv X ae σ H s)(k:∀b u,s.heap.get? b=some u->h'.get? b=some u)(hs:s.heap.objs.size<=p)(e':h'.get? p=some o)(nc:∀v,o.data≠.cell v):Inv X ((p,o)::ae) σ H { s with heap:=h',toks:=t' }:=by
 have J:=I.kept (t':=t') k;refine J.pins_of λq hq=>?_;rcases vP hq with rfl|hq
 ·exact⟨e',I.hok.fresh hs,Nat.ne_of_gt (vQ I.lt hs),I.nofs hs,nc⟩
 ·exact J.pin q (mY _ hq)
theorem Jw (I:Inv X ((p,o)::ae) σ H s)(h0:X.s₀.heap.objs.size<=p)(hp:∀q∈X.pn++ae,q.1≠p)(k:∀b u,b≠p->s.heap.get? b=some u->h'.get? b=some u)(eo:∃u,h'.get? p=some u)
  (new:cm X.prog X.w (upd H p ob) h' p ob):Inv X ae σ (upd H p ob) { s with heap:=h',toks:=t' }:=by
 have pf:=I.pin (p,o) (mY _ mX);have hn:=pf.2.1;have hn:H p=none:=hn;have cs:=nO I;refine(k7 I).step (g':=s.gens) (d':=s.drawn) (ch:=[p]) (λb hb=>?_) (λb u _ _ hc e _=>k b u (λz=>hc (by simp[z])) e) (λb u _ _ hc e _=>⟨u.slots,k b u (λz=>hc (by simp[z])) e⟩) (λb u hc _ n=>by rw[aI (λz=>hc (by simp[z]))];exact n)
  (λb u hc e=>⟨u,k b u (λz=>hc (by simp[z])) e⟩) (λb xs e=>by rw[aI (aZ e hn)];exact e) (λb u w e=>by rw[aI (aZ e hn)];exact e) (λb q e=>by rw[aI (aZ e hn)];exact e) (λm hm=>?_) (λb u e=>?_) I.bare
 ·have z:b=p:=by simpa using hb
  subst z;exact⟨.inr h0,pf.2.2.1,cs,hp⟩
 ·obtain⟨ol,es,ep,ho,r⟩:=hm;exact⟨ol,es,ep,k _ ol (λz=>pf.2.2.1 z.symm) ho,r⟩
 ·by_cases z:b=p
  ·subst z;rw[aC]at e;cases e;exact new
  ·rw[aI z]at e;refine(I.hok b u e).stay (λc v hc q=>k c v ?_ q) (λc q=>?_) (λc xs q=>?_) λc w xs q=>?_
   ·rcases hc with rfl|hc
    ·exact z
    ·exact aZ hc hn
   ·rw[aI (aZ q hn)];exact q
   ·rw[aI (aZ q hn)];exact q
   ·rw[aI (aZ q hn)];exact q
end
def Ck (X:Cx)(A:Around)(σ:St)(qv:Value)(B H1:Hp)(kf:D->Option D):Prop :=
 ∀(ae:List (Addr×Obj))(s:Shared)(H N:Hp)(v:V)(u:Value)(d d':D),Inv X ae σ H s->aX H1 H->aX B N->aX N H->Is X.K N v d->ba v u->kf d=some d' ->
  wpAny (model X.prog X.w) A (call qv [u]) (EP X ae σ λv' H'=>∃N',Ext N N' H H'/\Is X.K N' v' d') (λ_ _=>False) s
def JK (X:Cx)(A:Around)(e:Expr)(kf:Env->D->Option D):Prop:=∀(ae:List (Addr×Obj))(s:Shared)(σ:St)(H B:Hp)(ρ:Env)(Q:Value->Shared->Prop)(E:Value->Shared->Prop),Inv X ae σ H s->aX B H->fO X.K B σ ρ ->
 (∀qa H1 s1,Inv X ae σ H1 s1->aX H H1->Ck X A σ (.ref qa) B H1 (kf ρ)->Q (.ref qa) s1)->wq X (eval e X.env) Q E s
section
variable {X:Cx}{A:Around}
@[simp] def qt (cap:List Nat)(fb:FE):Env->D->Option D:=λρ d=>(fb (some (d,false)::dF 0 cap ρ)).map (·.1)
theorem wQ (hx:x∈mo)(L:AR X.K x)(hc:∀c P,tabIn X.K x=some (c,P)->X.env.code=.ref c)(hq:X.env.qual ++ "<lambda>" = pQ x)
  (O7:defaultsOf params X.env=([],[])) (S:LamSc X scope (dP scope.names X.env.cells []) y) (N0:N'[0]? = some y) (cp:lF X N' scope (dP scope.names X.env.cells []) 1 cap) (hA:A.frames=X.A.frames) (hr:eP (k+1) A)
  (zS:∀pm c Di u,bindArgs (kla_fn "<lambda>" (pQ x) params body scope (dP scope.names X.env.cells []) pm (.ref c) Di) ⟨[u],[]⟩=pure [(y,u)])
  (hb:∀(f c:Addr)(s:Shared)(H:Hp),eP k (yL X N' scope (dP scope.names X.env.cells []) (pQ x) A f c s H).A->JE (yL X N' scope (dP scope.names X.env.cells []) (pQ x) A f c s H) body fb):JK X A (.Lambda params body scope pos) (qt cap fb):=by
 intro ae s σ H B ρ Q E I sB rep kk;refine Gg hx L hc hq O7 S.clos I (rep.tb.mono sB) λf H1 s1 I1 sm lv=>kk f H1 s1 I1 sm ?_;intro Hu s' H' N v u d d' I' m1 m2 m3 iv r e;simp only[qt]at e;obtain⟨⟨d2,b2⟩,e1,e2⟩:=oY e;cases e2
 exact Jv S N0 cp I' (hA.trans I'.ok.frames) hr.hd hr.depth (lv.mono m1) zS (λf c s H=>hb f c s H (hr.deeper _)) (rep.mono m2) m3 r iv e1 λv' H2 N2 x2 i2 _=>⟨N2,x2,i2⟩
@[simp] noncomputable def sZ (g:List D->OB):Env->D->Option D:=λ_ d=>(g [d]).map (·.1)
theorem Cm (F:Fn X.prog X.w X.K X.mg X.base k x g)(hr:eP k A)(hA:A.frames=X.A.frames)(hg:Gl X x:=by rfl)(t9:(x == ("__debug__" : Str))=false:=by decide):JK X A (.Name x p) (sZ g):=by
 intro ae s σ H B ρ Q E I sB rep kk;obtain⟨ad,fd,ps,F1,hm,hk,hb⟩:=F.ex;refine v0 I hg hm ?_ t9;refine kk ad H s I (.refl H) ?_;intro Hu s' H' N v u d d' I' m1 m2 m3 iv r e;simp only[sZ]at e;obtain⟨⟨d2,b2⟩,e1,e2⟩:=oY e;cases e2
 have sp:Jb X.K g [v] H' (λv' H2=>∃N',Ext N N' H' H2/\Is X.K N' v' d2) (λ_ _ _=>False):=⟨N,[d],d2,b2,⟨m3,rep.tb.mono m2⟩,.cons iv .nil,e1,λv' H2 N2 x2 i2 _=>⟨N2,x2,i2⟩⟩;have hl:[u].length=ps.length:=by have:=F1.len _ _ _ _ sp;simpa using this
 have e0:=I'.env0;have bb:=hb s' [u] I'.kIn (by simpa using hl);rw[uQ]at bb;refine wpAny_call (codeAny_mono (F1.run A X.stack s' H' ⟨[u],[]⟩ [u] [v] _ (λ_ _ _=>False) hr ⟨hA.trans e0.frames,e0.mod,e0.bs,e0.bsz,e0.funs,e0.frf,e0.hok,e0.bare⟩ bb (.cons r .nil) sp) λr s' hq=>?_);cases r with
 |error e=>exact False.elim hq
 |ok fl=>
  cases fl with
  |ret w=>exact I'.after hq
  |next=>exact False.elim hq
  |brk=>exact False.elim hq
  |cont=>exact False.elim hq
end
noncomputable def js (f:D->Option D):List D->Option (List D)
 |[]=>some []
 |d::ds=>(f d).bind λx=>(js f ds).map (x :: ·)
theorem k8:∀ {ds ks:List D},js f ds=some ks->ks.length=ds.length
 |[],_,h=>by simp only[js]at h;cases h;rfl
 |d::ds,_,h=>by
  simp only[js]at h;obtain⟨a,h1,h⟩:=oX h;obtain⟨r,h2,h⟩:=oY h;subst h;simp[k8 h2]
theorem qu:∀ {ds ks:List D},js f ds=some ks->∀ {i:Nat}{d:D},ds[i]? = some d->∃k,ks[i]? = some k/\f d=some k
 |[],_,h,i,d,e=>by simp at e
 |d::ds,_,h,0,e,q=>by
  simp only[js]at h;obtain⟨a,h1,h⟩:=oX h;obtain⟨r,h2,h⟩:=oY h;subst h;simp at q;subst q;exact⟨a,by simp,h1⟩
 |d::ds,_,h,i+1,e,q=>by
  simp only[js]at h;obtain⟨a,h1,h⟩:=oX h;obtain⟨r,h2,h⟩:=oY h;subst h;obtain⟨k,z1,z2⟩:=qu h2 (i:=i) (d:=e) (by simpa using q);exact⟨k,by simpa using z1,z2⟩
structure KK (X:Cx)(A:Around)(kd:List D->Option (List (List At)))(ok:List (List At)->Bool):Prop where
 len:∀ {ds:List D}{ks:List (List At)},kd ds=some ks->ks.length=ds.length
 ask:∀ {ae:List (Addr×Obj)}{σ:St}{H:Hp}{s:Shared}(_:Inv X ae σ H s) {ys:List V}{ds:List D}{ks:List (List At)}{its:List Value},aY ys its->IsL X.K H ys ds->kd ds=some ks->ok ks=true->di ks=true ->
  (0<ks.length->∀ {E:Value->Shared->Prop}{Q:SortKind->Shared->Prop},Q (tuples' true) s->wpAny (model X.prog X.w) A (keyKind' its.toArray) Q E s) /\
  ∀(i j:Nat)(C:Bool->Shared->Prop)(s1:Shared),i<ks.length->j<ks.length->s1=s->(∀s',s'=s->C (ql (Ad ks) i j) s')->kas_ask X.prog X.w A (tuples' true) its i j C s1
theorem Gh:KK X A dj dC:=⟨fX,λI _ _ _ _ r i e hf hc=>have hp:=mD I r i e;⟨λhn _ _ q=>yF hp hf hn q,Cf hc hp⟩⟩
section
variable {X:Cx}{ae:List (Addr×Obj)}{σ:St}{s:Shared}
theorem ut (r:ba x u):∀ {vs:List V}{us:List Value},aY vs us->aY (vs++[x]) (us++[u])
 |_,_,.nil=>.cons r .nil
 |_,_,.cons h t=>.cons h (ut r t)
theorem dq:∀v,(Obj.mk c od (.seq its n) sl).data≠.cell v:=λv z=>by cases z
theorem AT 
  (I:Inv X ((a,seqObj "list" its.toArray n)::ae) σ H s) (h0:X.s₀.heap.objs.size<=a) (hp:∀q∈X.pn++ae,q.1≠a) (Ia:Ck X A σ qv B H kf) (rv:aY vs its) (iv:IsL X.K B vs ds) (sB:aX B H)
  (M:KK X A kd ok) (em:js kf ds=some gP) (ek:kd gP=some ks) (hc:di ks=true) (hf:ok ks=true) (vv:its.length<64)
  (h:∀(p:Array Nat)(s':Shared)(H' N:Hp),nq its.length p->Up (Ad ks) p its.length->Inv X ae σ (upd H' a (.lst (p.toList.map λi=>vs.getD i .non))) s'->Ext B N H H'->H' a=none->P (.done (.ret .none)) s'):
  wpAny (model X.prog X.w) A (ksk_tree a qv false) P E s:=by
 have pa:=I.pin (a,seqObj "list" its.toArray n) (mY _ mX)
 have B5:vs.length=its.length:=rv.length
 have Ma:ds.length=vs.length:=iv.length.symm
 have YL:gP.length=ds.length:=k8 em
 have W4:ks.length=gP.length:=M.len ek
 have hz:its.length<=sizeLine:=by rw[sizeLine_eq];omega
 have hna:H a=none:=pa.2.1
 obtain⟨e1,KE⟩:∃e1,(s.heap.update a (Obj.mapSeq λ_=>(#[]:Array Value))).get? a=some (seqObj "list" #[] e1):=⟨_,get?_update_seq pa.1 λ_=>#[]⟩
 have u1:=vW s.heap a (Obj.mapSeq λ_=>(#[]:Array Value))
 have I1:Inv X ((a,seqObj "list" #[] e1)::ae) σ H { s with heap:=s.heap.update a (Obj.mapSeq λ_=>(#[]:Array Value)) }:=im (t':=s.toks) I h0 hp (λb u n q=>(u1.2 b n).trans q) KE dq
 let h2:Heap:=(s.heap.update a (Obj.mapSeq λ_=>(#[]:Array Value))).push (seqObj "tuple" its.toArray 0)
 have I2:Inv X ((a,seqObj "list" #[] e1)::ae) σ H { s with heap:=h2 }:=I1.kept (t':=s.toks) λb u q=>vZ _ q
 let kS:Addr:=h2.objs.size
 have I3:Inv X ((kS,seqObj "list" #[] 0)::(a,seqObj "list" #[] e1)::ae) σ H { s with heap:=h2.push (seqObj "list" #[] 0) }:=p9 (s:={ s with heap:=h2 }) (t':=s.toks) I2 (λb u q=>vZ _ q) (vT _) (vY _ rfl) dq
 have k0:X.s₀.heap.objs.size<=kS:=I2.sz
 have kp:∀q∈X.pn++((a,seqObj "list" #[] e1)::ae),q.1≠kS:=λq hq=>vS (vX (I2.pin q hq).1)
 have kna:kS≠a:=λz=>kp (a,seqObj "list" #[] e1) (mY _ mX) z.symm
 unfold ksk_tree
 refine wX (listItems_at pa.1 rfl ?_)
 refine wX (listUpdate_at pa.1 rfl ?_ (by simpa using hz) (uN _))
 refine wX (seqEpoch_at KE rfl ?_)
 refine wX (wpAny_newTuple ?_ (by show its.length<=sizeLine;exact hz))
 refine wX (wpAny_newList ?_ (uN _))
 refine wpAny_holding ?_
 show wpAny (model X.prog X.w) A (ksk_rest a qv false its.toArray e1 (.ref kS)) P E { s with heap:=h2.push (seqObj "list" #[] 0) }
 unfold ksk_rest
 refine wX (wpAny_rule ?_)
 rw[List.forIn_toArray]
 refine wX (ksk_fold (λi s'=>∃(H' N:Hp)(kA:Array Value)(e:Nat)(aH:List V),Inv X ((kS,seqObj "list" kA e)::(a,seqObj "list" #[] e1)::ae) σ H' s'/\Ext B N H H'/\aY aH kA.toList/\IsL X.K N aH (gP.take i)) its 0 _
  ⟨H,B,#[],0,[],I3,.refl sB,.nil,by simpa using IsL.nil⟩ ?step ?done)
 case step=>
  rintro j u s' hu ⟨H',N,kA,e,aH,J,x1,rk,ik⟩
  simp only[Nat.zero_add]at ik ⊢
  have hj:j<its.length:=(vV hu).1
  obtain⟨d,hd⟩:∃d,ds[j]? = some d:=⟨_,vU (by omega)⟩
  obtain⟨v,hv,Me⟩:=iv.get hd
  obtain⟨kd,SH,UG⟩:=qu em hd
  obtain⟨u',KH,ru⟩:=rv.get hv
  rw[hu]at KH;cases KH
  have kl:kA.size=j:=by
   have z1:=rk.length
   have z2:=ik.length
   rw[List.length_take]at z2
   rw[vG]at z1
   exact z1.symm.trans (z2.trans (Nat.min_eq_left (by omega)))
  refine wX (wpAny_attempt (wpAny_mono (Ia _ s' H' N v u d kd J x1.hh x1.bn x1.nh (Me.mono x1.bn) ru UG) (λw EO hw=>?_) λ_ _ hF=>hF.elim))
  obtain⟨v',YM,J',YN,N',x2,i2⟩:=hw
  have pk:=J'.pin (kS,seqObj "list" kA e) (mY _ mX)
  obtain⟨c2,Ag⟩:∃c2,(EO.heap.update kS (Obj.mapSeq (·.push w))).get? kS=some (seqObj "list" (kA.push w) c2):=⟨_,get?_update_seq pk.1 (·.push w)⟩
  have u2:=vW EO.heap kS (Obj.mapSeq (·.push w))
  refine wX (listUpdate_at pk.1 rfl ?_ (by rw[sizeLine_eq];omega) (vR (Nat.le_of_eq (Array.size_push ..)) (by rw[sizeLine_eq];omega)))
  refine wY ⟨rfl,YM,N',kA.push w,c2,aH++[v'],im (t':=EO.toks) J' k0 kp (λb q n z=>(u2.2 b n).trans z) Ag dq,x1.trans x2,?_,?_⟩
  ·rw[Array.toList_push];exact ut YN rk
  ·rw[List.take_add_one,SH];exact(ik.mono x2.bn).append (.cons i2 .nil)
 case done=>
  rintro s' ⟨H',N,kA,e,aH,J,x1,rk,ik⟩
  have W5:IsL X.K N aH gP:=by
   have z:gP.take (0+its.length)=gP:=List.take_of_length_le (by omega)
   rw[z]at ik;exact ik
  have pk:=J.pin (kS,seqObj "list" kA e) (mY _ mX)
  have YO:=J.pin (a,seqObj "list" #[] e1) (mY _ (mZ _ mX))
  have Rf:H' a=none:=YO.2.1
  have kz:kA.toList.length=its.length:=by rw[←rk.length,W5.length];omega
  have W6:kA.size=its.length:=by rw[←vG];exact kz
  refine wX (listItems_at pk.1 rfl ?_)
  have W7:=M.ask J rk (W5.mono x1.nh) ek hf hc
  -- the end of the sort,for a permutation p
  have HI:∀(st:SortSt)(p:Array Nat),arrOf st=p.map (kas_item (kA.toList.toArray.zip its.toArray))->failedOf st=none->nq its.length p->Up (Ad ks) p its.length ->
    wpAny (model X.prog X.w) A (ksk_tail a false e1 (.ref kS) st) P E s':=λst p ea ef ap up=>by
   have eo:(arrOf st).map (·.2)=List.toArray (p.toList.map λi=>its.getD i Value.none):=kat_snds kz ea
   have ER:∀i∈p.toList,i<vs.length:=λi hi=>by
    have:=List.mem_range.mp (ap.perm.mem_iff.mp hi)
    omega
   obtain⟨c3,YQ⟩:∃c3,(s'.heap.update kS (Obj.mapSeq λ_=>(#[]:Array Value))).get? kS=some (seqObj "list" #[] c3):=⟨_,get?_update_seq pk.1 λ_=>#[]⟩
   have u3:=vW s'.heap kS (Obj.mapSeq λ_=>(#[]:Array Value))
   have J3:=k7 (im (t':=s'.toks) J k0 kp (λb q n z=>(u3.2 b n).trans z) YQ dq)
   have UH:=J3.pin (a,seqObj "list" #[] e1) (mY _ mX)
   obtain⟨c4,W8⟩:∃c4,((s'.heap.update kS (Obj.mapSeq λ_=>(#[]:Array Value))).update a (Obj.mapSeq λ_=>(arrOf st).map (·.2))).get? a=some (seqObj "list" ((arrOf st).map (·.2)) c4):=⟨_,get?_update_seq UH.1 λ_=>(arrOf st).map (·.2)⟩
   have u4:=vW (s'.heap.update kS (Obj.mapSeq λ_=>(#[]:Array Value))) a (Obj.mapSeq λ_=>(arrOf st).map (·.2))
   have so:((arrOf st).map (·.2)).size=its.length:=by rw[eo];simp only[vH,vI,vG,ap.size]
   unfold ksk_tail
   try dsimp only
   refine wX (listUpdate_at pk.1 rfl ?_ (by rw[W6,sizeLine_eq];omega) (uN _))
   refine wX (wpAny_letGo ?_)
   refine wX (seqEpoch_at UH.1 rfl ?_)
   refine wX (listUpdate_at UH.1 rfl ?_ (uN _) (by simp only[uV,if_false];rw[so,sizeLine_eq];omega))
   rw[ef]
   simp only[bne_self_eq_false,uV,if_false]
   refine wY (h p _ H' N ap up (Jw (s:={ s' with heap:=s'.heap.update kS (Obj.mapSeq λ_=>(#[]:Array Value)) }) (t':=s'.toks) J3 h0 hp (λb q n z=>(u4.2 b n).trans z) ⟨_,W8⟩ ?_) x1 Rf)
   refine⟨by rw[vI,vG,ap.size];exact hz,p.toList.map λi=>its.getD i Value.none,c4,nN rv p.toList ER,?_⟩
   rw[←eo];exact W8
  unfold ksk_end
  try dsimp only
  simp only[uV,if_false]
  have YR:kA=kA.toList.toArray:=by simp
  by_cases E8:its.toArray.size<2
  ·rw[if_pos E8,if_pos E8]
   refine wX (wY ?_)
   rw[StateT.run_pure]
   refine wX (wY ?_)
   have U9:its.length<2:=by simpa using E8
   refine HI _ (List.toArray (List.range its.length)) ?_ rfl ⟨by simp,by simp⟩ ?_
   ·show kA.zip its.toArray=_
    have:=kas_range (kA.toList.toArray.zip its.toArray)
    rw[show(kA.toList.toArray.zip its.toArray).size=its.length by simp[W6]]at this
    rw[this]
   ·intro i j zU hj
    have:i=j:=by omega
    subst this;exact Int.le_refl _
  ·rw[if_neg E8,if_neg E8]
   have UI:2<=its.length:=by simp at E8;omega
   rw[YR]
   refine wX (W7.1 (by omega) ?_)
   obtain⟨p,r1,r2,r3⟩:=yD (n:=its.length) (rk:=Ad ks) (by omega)
   refine wX (wpAny_mono (kat_run (E:=E) (ks:=kA.toList) (vs:=its) (κ:=tuples' true) (s:=s') (Q:=λjh s2=>s2=s'/\arrOf jh=p.map (kas_item (kA.toList.toArray.zip its.toArray))/\failedOf jh=none)
    (G:=λp' s2=>p'=p/\s2=s') kz UI vv (λp' jh s2 _ e2 e3 e4=>by
     obtain⟨rfl,rfl⟩:=e4
     exact⟨rfl,e2,e3⟩) (Run.wp (λs2=>s2=s') (λi j C s2 hi hj e hC=>W7.2 i j C s2 (by omega) (by omega) e hC) r1 rfl λs2 e=>⟨rfl,e⟩)) (λr s2 hr=>?_) λ_ _ z=>z)
   obtain⟨⟨⟩,jh⟩:=r
   obtain⟨rfl,e2,e3⟩:=hr
   exact HI jh p e2 e3 r2 r3
end
theorem yM {α β:Type}{f:α->β}:∀ {l:List α},(l.map f).Nodup->l.Nodup
 |[],_=>List.nodup_nil
 |a::l,h=>by
  rw[uY,List.nodup_cons]at h;exact List.nodup_cons.mpr ⟨λz=>h.1 (uS ⟨a,z,rfl⟩),yM h.2⟩
def jt (ks:List (List At))(ds:List D):List D:=(dB (λp:List At×D=>cz p.1) (ks.zip ds)).map (·.2)
theorem Gi {α β:Type}(d:α)(e:β):∀ {l₁:List α}{l₂:List β},l₁.length=l₂.length->(List.range l₂.length).map (λi=>(l₁.getD i d,l₂.getD i e))=l₁.zip l₂:=λ{l₁ l₂} h=>by
 apply List.ext_getElem?;intro i;by_cases hi:i<l₂.length
 ·have EA:i<l₁.length:=by omega
  have:=(List.getElem?_zip_eq_some (z:=(l₁[i],l₂[i]))).mpr ⟨vU EA,vU hi⟩;rw[this];simp[hi,EA]
 ·simp[hi,h]
theorem Jx {α β:Type}{l₁:List α}{l₂:List β}(nd:l₁.Nodup){a:α}{b c:β}(h1:(a,b)∈l₁.zip l₂)(h2:(a,c)∈l₁.zip l₂):b=c:=by
 obtain⟨i,hi⟩:=List.mem_iff_getElem?.mp h1;obtain⟨j,hj⟩:=List.mem_iff_getElem?.mp h2;obtain⟨i1,i2⟩:=List.getElem?_zip_eq_some.mp hi;obtain⟨j1,j2⟩:=List.getElem?_zip_eq_some.mp hj;obtain⟨li,ei⟩:=vV i1;obtain⟨lj,ej⟩:=vV j1;have:i=j:=(List.getElem_inj nd).mp (ei.trans ej.symm);subst this;rw[i2]at j2;exact vK j2
theorem AU {ds:List D}{ks:List (List At)}{p:Array Nat}(hl:ks.length=ds.length)(hc:di ks=true)(nd:ks.Nodup)(ap:nq ds.length p)(up:Up (Ad ks) p ds.length):p.toList.map (λi=>ds.getD i .non)=jt ks ds:=by
 unfold jt;have e:p.toList.map (λi=>(ks.getD i [],ds.getD i .non))=dB (λp:List At×D=>cz p.1) (ks.zip ds):=by
  apply fH
  ·intro x hx y hy e;have mx:=(List.of_mem_zip hx).1;have my:=(List.of_mem_zip hy).1;have:=kT hc mx my e;obtain⟨k1,d1⟩:=x;obtain⟨k2,d2⟩:=y;have z:k1=k2:=this;subst z;rw[Jx nd hx hy]
  ·have:=ap.perm.map (λi=>(ks.getD i [],ds.getD i D.non));rw[Gi [] D.non hl]at this;exact this
  ·rw[List.pairwise_iff_getElem];intro i j hi hj zU;have hsz:=ap.size;have EA:i<p.size:=by simpa using hi
   have UA:j<p.size:=by simpa using hj
   have:=up i j (Nat.le_of_lt zU) (by omega);unfold cu Ad at this;have gi:p.getD i 0=p[i]:=by rw[Array.getD_eq_getD_getElem?,Array.getElem?_eq_getElem EA];rfl
   have gj:p.getD j 0=p[j]:=by rw[Array.getD_eq_getD_getElem?,Array.getElem?_eq_getElem UA];rfl
   have lj:=ap.lt (k:=j) (by omega);have mj:ks.getD (p.getD j 0) []∈ks:=by
    have h':p.getD j 0<ks.length:=by omega
    rw[vF,vU h'];exact List.getElem_mem h'
   have nl:¬cz (ks.getD (p.getD j 0) [])<cz (ks.getD (p.getD i 0) []):=λz=>by
    have:=wN (cs:=ks.map cz) (uS ⟨_,mj,rfl⟩) z;omega
   simp only[List.getElem_map,Array.getElem_toList];unfold Ga;rw[←gi,←gj];exact nl
 rw[←e,uP];rfl
@[simp] def wR (kd:List D->Option (List (List At)))(ok:List (List At)->Bool)(f:FE)(kf:Env->D->Option D):FE:=λρ=>(f ρ).bind λx=>match x.1 with
 |.lst ds=>(js (kf ρ) ds).bind λgP=>(kd gP).bind λks=>if ks.length<64/\di ks=true/\ok ks=true/\(ks.map cz).Nodup then some (.lst (jt ks ds),true)else none
 |_=>none
@[simp] abbrev qw:FE->(Env->D->Option D)->FE:=wR dj dC
section
variable {X:Cx}{e ke:Expr}{p pos kp:Pos}
theorem Gj {kd:List D->Option (List (List At))}{ok:List (List At)->Bool}(M:KK X X.A.in1.in1 kd ok){f:FE}{kf:Env->D->Option D}(hm:X.mg "sorted" = none)(he:JE X e f)(hk:JK X X.A.in1.in1 ke kf)(hg:Gl X "sorted":=by rfl)
  (UJ:starEach [e] X.env=[(false,eval e X.env)]:=by rfl) (UK:backTo pos (starEach [e] X.env)=(false,eval e X.env)::backTo pos (starEach [] X.env):=by rfl) (lE:(backTo pos (starEach [e] X.env)).any (·.1)=false:=by rfl)
  (nn:(backToKw pos (keywordEach [⟨some "key",ke,kp⟩] X.env)).all (·.1.isSome)=true:=by rfl) (UL:(backToKw pos (keywordEach [⟨some "key",ke,kp⟩] X.env)).any (·.1.isNone)=false:=by rfl)
  (UM:(backToKw pos (keywordEach [⟨some "key",ke,kp⟩] X.env)).filterMap (·.1)=[("key" : Str)]:=by rfl):
  JE X (.Call (.Name "sorted" p) [e] [⟨some "key",ke,kp⟩] pos) (wR kd ok f kf):=by
 intro ae s σ H Q I h;obtain⟨B,ρ,d,b,sB,rep,ee,q⟩:=h;obtain⟨⟨xd,xb⟩,ex,ee⟩:=oX ee;cases xd<;>try (cases ee;done)
 rename_i ds;obtain⟨gP,em,ee⟩:=oX ee;obtain⟨ks,ek,ee⟩:=oX ee;split at ee
 ·rename_i hh;obtain⟨vv,hc,hf,nd⟩:=hh;cases ee
  refine wpAny_Call_Name_kw (nw I hg hm (u:=.builtin "sorted") rfl ?_);refine callWith_kw (cE ((iN he kn UJ) pos ae s σ H (λvs H1=>∃v N,vs=[v]/\Ext B N H H1/\Is X.K N v (.lst ds)) I ⟨B,ρ,_,_,sB,rep,ex,λv H1 N x1 i1 _=>⟨v,N,rfl,x1,i1⟩⟩) λus s1 hA=>?_) UK lE nn UL;obtain⟨YS,H1,I1,r1,v,N,rfl,x1,i1⟩:=hA;obtain⟨u,rfl,ru⟩:=hV r1;refine kws_cons (hk ae s1 σ H1 N ρ _ _ I1 x1.nh (rep.mono x1.bn) λqa H2 s2 I2 m2 Ia=>kws_nil ?_);rw[UM];show wpAny _ _ (call (.builtin "sorted") [u] [(("key" : Str),.ref qa)]) _ _ _;cases i1
  rename_i l vs hq il;cases ru
  have sN:aX N H2:=x1.nh.trans m2;obtain⟨its,rv,pl,hz⟩:=I2.list (sN.seq hq);have B5:vs.length=its.length:=rv.length;have Ma:ds.length=vs.length:=il.length.symm;have YL:gP.length=ds.length:=k8 em;have W4:ks.length=gP.length:=M.len ek;have UN:its.length<64:=by omega
  refine call_function_entry_kw kind_sorted plain_sorted entry_sorted (ksk_s1 _ _) ?_;unfold Builtin.«sorted»;refine wX (m:=checkCount "sorted" 1 1 _) (wY (wX (collect_list pl.isList (wX (wpAny_newList ?_ (by rw[sizeLine_eq];omega))) (by rw[sizeLine_eq];omega))));let h1:Heap:=(s2.heap.push (seqObj "list" #[] 0)).update s2.heap.objs.size (Obj.mapSeq (· ++ its.toArray));have hsz:h1.objs.size=s2.heap.objs.size+1:=by show(Heap.update _ _ _).objs.size=_;rw[Heap.size_update,size_push']
  have RH:∀b o,s2.heap.get? b=some o->h1.get? b=some o:=λb o q=>(Heap.get?_update_ne _ _ _ _ (vS (vX q))).trans (vZ _ q);have I3:Inv X ((h1.objs.size,seqObj "list" its.toArray 0)::ae) σ H2 { s2 with heap:=h1.push (seqObj "list" its.toArray 0) } :=
   p9 (t':=s2.toks) I2 (λb u q=>vZ _ (RH b u q)) (by rw[hsz];exact Nat.le_succ _) (vY _ rfl) dq
  have p3:=I3.pin (h1.objs.size,seqObj "list" its.toArray 0) (mY _ mX);show wpAny (model X.prog X.w) X.A.in1 (holding [.ref h1.objs.size] (call (.builtin "list.sort") [.ref h1.objs.size] [(("key" : Str),.ref qa)])>>=_) _ _ { s2 with heap:=h1.push (seqObj "list" its.toArray 0) };refine wX (wpAny_holding (wpAny_call_entry_kw slot_list_sort ⟨_,p3.1,rfl⟩ entry_list_sort ?_ (ksk_l1 _ _)));show wpAny (model X.prog X.w) X.A.in1.in1 (Builtin.«list.sort» ⟨[.ref h1.objs.size],[(Str.ofString "key",.ref qa)]⟩) _ _ _;rw[ksk_t1];refine AT I3 (vR I2.sz (by rw[hsz];exact Nat.le_succ _)) (λq hq=>by rw[hsz];exact vS (Nat.lt_succ_of_lt (vX (I2.pin q hq).1))) Ia rv il sN M em ek hc hf UN λpm s' H' N' ap up J x3 hn=>⟨_,rfl,wY ⟨_,rfl,?_⟩⟩;have lE:its.length=ds.length:=by omega
  rw[lE]at ap up;have er:=AU (by omega) hc (yM nd) ap up;have ER:∀i∈pm.toList,i<ds.length:=λi hi=>List.mem_range.mp (ap.perm.mem_iff.mp hi);have ip:=qr (il.mono x3.bn) pm.toList ER;rw[er]at ip;have x4:Ext B N' H H':=(x1.trans (.grow x1.nh m2)).trans x3;have hN:N' h1.objs.size=none:=x3.nh.free hn;have x5:=x4.trans (Ext.laid (o:=.lst (pm.toList.map λi=>vs.getD i .non)) x3.nh hn);exact⟨.ref h1.objs.size,_,J,rfl,q _ _ _ x5 (.lst (hU.of aC) (ip.mono (Ext.laid (o:=.lst (pm.toList.map λi=>vs.getD i .non)) x3.nh hn).bn)) λ_=>⟨_,_,_,rfl,rfl,x4.hh.free hn,aC,ip.mono (Ext.laid (o:=.lst (pm.toList.map λi=>vs.getD i .non)) x3.nh hn).bn⟩⟩
 ·cases ee
end
noncomputable def Xv {f:String->CmpOp->Builtin}(_:f "__lt__" .Lt=Builtin.«tuple.__lt__»):=f
noncomputable def V8:String->CmpOp->Builtin:=Xv rfl
section
variable {prog:Program}{w:World}{A:Around}{E:Value->Shared->Prop}{s:Shared}{op:CmpOp}
theorem fz.type (h:fz s.heap xs v):s.TypeIs v "tuple":=by
 obtain⟨a,o,its,n,rfl,ho,hc,_⟩:=h;exact⟨o,ho,hc⟩
inductive GeW (prog:Program)(w:World)(A:Around)(s:Shared)(op:CmpOp)(lr r:Bool):List (Value×Value)->Prop
 |nil (h:lr=r):GeW prog w A s op lr r []
 |eq {u v:Value}{l:List (Value×Value)}(h:SeqAt.EqAt A s u v true) (t:GeW prog w A s op lr r l):GeW prog w A s op lr r ((u,v)::l)
 |ne {u v:Value}{l:List (Value×Value)}(h:SeqAt.EqAt A s u v false) (t:∀(Q E:Value->Shared->Prop),Q (.bool r) s->wpAny (model prog w) A (richCompare op u v) Q E s):GeW prog w A s op lr r ((u,v)::l)
theorem Jy {nm:String}(YT:s.TypeIs (.ref b) "tuple")(Ul:s.heap.get? a=some oa)(YU:oa.data=.seq its na)(YV:s.heap.get? b=some ob)(t9:ob.data=.seq gJ nb)
  (W:GeW prog w A s op lr r (its.toList.zip gJ.toList)) (hz:Builtin.Tuple.tupleCompareSizes op its.size gJ.size=.bool lr) (RI:op=.Lt∨op=.Gt∨op=.GtE) (q:P (.done (.ret (.bool r))) s):wpAny (model prog w) A (V8 nm op ⟨[.ref a,.ref b],[]⟩) P E s:=by
 show wpAny _ _ (isInstance (.ref _) (.type "tuple")>>=_) _ _ s;refine wX (wpAny_isInstance YT isSubtype_tuple_tuple ?_);simp only[Bool.not_true,uV,if_false];refine wX (wpAny_tupleItemsOf Ul YU ?_);refine wX (wpAny_tupleItemsOf YV t9 ?_);refine wX ?_;refine wpAny_forIn_list _ (λaD z s'=>z.1=none/\s'=s/\GeW prog w A s op lr r aD) _ ?_ ?_ _ _ ⟨rfl,rfl,W⟩
 ·rintro⟨u,v⟩ aD z s' ⟨hz,rfl,W⟩;cases W with
  |eq h t=>
   refine wX (h _ _ _ _ ?_);simp only[Bool.not_true,uV,if_false];exact wY ⟨rfl,rfl,t⟩
  |ne h t=>
   refine wX (h _ _ _ _ ?_);simp only[Bool.not_false,if_true];have t:=t (λv EO=>v=.bool r/\EO=s') E ⟨rfl,rfl⟩;rcases RI with rfl|rfl|rfl<;>exact wX (wpAny_rule (wX (wpAny_mono t (λv EO hv=>by obtain⟨rfl,rfl⟩:=hv;exact wX (wY (wY (wY q)))) λ_ _ z=>z)))
 ·rintro⟨z1,z2⟩ s' ⟨W9,rfl,W⟩;simp only at W9;subst W9;refine wY ?_;cases W with
  |nil h=>
   show P (.done (.ret (Builtin.Tuple.tupleCompareSizes op its.size gJ.size))) s';rw[hz,h];exact q
structure CmR (prog:Program)(w:World)(A:Around)(s:Shared)(op:CmpOp)(R:List At->List At->Bool->Prop)(fl:Nat->Nat->Bool):Prop where
 ei:∀ {a xs ys r},R (.i a::xs) (.i a::ys) r->R xs ys r
 es:∀ {a xs ys r},R (.s a::xs) (.s a::ys) r->R xs ys r
 ni:∀ {a c xs ys r},a≠c->R (.i a::xs) (.i c::ys) r->∀t u (Q E:Value->Shared->Prop),Q (.bool r) s->wpAny (model prog w) A (richCompare op (.int a t) (.int c u)) Q E s
 ns:∀ {a c xs ys r},a≠c->R (.s a::xs) (.s c::ys) r->∀t u (Q E:Value->Shared->Prop),Q (.bool r) s->wpAny (model prog w) A (richCompare op (.str a t) (.str c u)) Q E s
 mx:∀ {a c xs ys r},¬R (.i a::xs) (.s c::ys) r/\¬R (.s c::xs) (.i a::ys) r
 en:∀ {xs r},(R [] xs r->fl 0 xs.length=r)/\(R xs [] r->fl xs.length 0=r)
 fs:∀ {m n},fl (m+1) (n+1)=fl m n
theorem qx (C:CmR prog w A s op R fl):∀(xs ys:List At)(its gJ:List Value),Paired Ac xs its->Paired Ac ys gJ->R xs ys r->GeW prog w A s op (fl xs.length ys.length) r (its.zip gJ)
 |[],_,_,_,.nil,_,h=>.nil (C.en.1 h)
 |_::_,[],_,_,.cons _ _,.nil,h=>.nil (C.en.2 h)
 |.i _::_,.s _::_,_,_,_,_,h=>absurd h C.mx.1
 |.s _::_,.i _::_,_,_,_,_,h=>absurd h C.mx.2
 |.i a::xs,.i c::ys,_,_,.cons r1 HA,.cons r2 r2',h=>by
  obtain⟨t,rfl⟩:=r1;obtain⟨u,rfl⟩:=r2;have he:=SeqAt.EqAt.int_int (A:=A) (s:=s) a t c u;rw[List.zip_cons_cons,vE,vE,C.fs];by_cases e:a=c
  ·subst e;rw[show(a == a)=true by simp]at he;exact .eq he (qx C xs ys _ _ HA r2' (C.ei h))
  ·rw[show(a == c)=false by simp[e]]at he;exact .ne he (C.ni e h t u)
 |.s a::xs,.s c::ys,_,_,.cons r1 HA,.cons r2 r2',h=>by
  obtain⟨t,rfl⟩:=r1;obtain⟨u,rfl⟩:=r2;have he:=SeqAt.EqAt.str_str (A:=A) (s:=s) a t c u;rw[List.zip_cons_cons,vE,vE,C.fs];by_cases e:a=c
  ·subst e;rw[show(a == a)=true by simp]at he;exact .eq he (qx C xs ys _ _ HA r2' (C.es h))
  ·rw[show(a == c)=false by simp[e]]at he;exact .ne he (C.ns e h t u)
theorem QH:CmR prog w A s .Lt (λxs ys r=>be xs ys=some r) (λm n=>decide (m<n)) where
 ei h:=by rwa [be,if_pos rfl]at h
 es h:=by rwa [be,if_pos rfl]at h
 ni e h _ _ _ _ q:=by rw[be,if_neg e]at h;cases h;exact PyProof.Rows.lt_int q
 ns e h _ _ _ _ q:=by rw[be,if_neg e]at h;cases h;exact PySem.P.lt_str q
 mx:=by simp[be]
 en:=λ{xs}=>by cases xs<;>simp[be]
 fs:=by simp
theorem QI:CmR prog w A s .Gt (λxs ys r=>be ys xs=some r) (λm n=>decide (n<m)) where
 ei h:=by rwa [be,if_pos rfl]at h
 es h:=by rwa [be,if_pos rfl]at h
 ni e h _ _ _ _ q:=by rw[be,if_neg (Ne.symm e)]at h;cases h;exact PyProof.Rows.gt_int q
 ns e h _ _ _ _ q:=by rw[be,if_neg (Ne.symm e)]at h;cases h;exact PySem.P.gt_str q
 mx:=by simp[be]
 en:=λ{xs}=>by cases xs<;>simp[be]
 fs:=by simp
theorem Gk (hx:fz s.heap xs (.ref a)):∃o its n,s.heap.get? a=some o/\o.data=.seq its n/\Paired Ac xs its.toList/\xs.length=its.size:=by
 obtain⟨a',o,its,n,e,ho,hc,hd,p⟩:=hx;cases e
 exact⟨o,its,n,ho,hd,p,by rw[←vG];exact eW p⟩
theorem LA {nm:String}(C:CmR prog w A s op R fl)(hz:∀m n,Builtin.Tuple.tupleCompareSizes op m n=.bool (fl m n))(RI:op=.Lt∨op=.Gt∨op=.GtE)(hx:fz s.heap xs (.ref a))(hy:fz s.heap ys (.ref b))(h:R xs ys r)(q:P (.done (.ret (.bool r))) s):wpAny (model prog w) A (V8 nm op ⟨[.ref a,.ref b],[]⟩) P E s:=by
 have hb:=hy.type;obtain⟨_,_,_,ho,hd,p,l1⟩:=Gk hx;obtain⟨_,_,_,t6,B3,p',l2⟩:=Gk hy;exact Jy hb ho hd t6 B3 (qx C _ _ _ _ p p' h) (by rw[l1,l2];exact hz _ _) RI q
theorem Gm (hx:fz s.heap xs x)(hy:fz s.heap ys y)(h:be xs ys=some r)(hu:A.units<cLine)(q:Q (.bool r) s):wpAny (model prog w) A (richCompare .Lt x y) Q E s:=by
 have tx:=hx.type;have ty:=hy.type;obtain⟨a,_,_,_,rfl,_⟩:=id hx;obtain⟨b,_,_,_,rfl,_⟩:=id hy;exact wpAny_richCompare_same_room (op:=.Lt) tx ty PySem.F.slot_tuple_lt (wpAny_call_entry PySem.F.slot_tuple_lt tx PySem.F.entry_tuple_lt (LA QH (λ_ _=>rfl) (.inl rfl) hx hy h ⟨_,rfl,(λe=>nomatch e),q⟩) (PySem.F.args_tuple_lt_2 _ _)) hu
theorem QJ (hx:fz s.heap xs x)(hy:fz s.heap ys y)(h:be ys xs=some r)(hu:A.units<cLine)(q:Q (.bool r) s):wpAny (model prog w) A (richCompare .Gt x y) Q E s:=by
 have tx:=hx.type;have ty:=hy.type;obtain⟨a,_,_,_,rfl,_⟩:=id hx;obtain⟨b,_,_,_,rfl,_⟩:=id hy;exact wpAny_richCompare_same_room (op:=.Gt) tx ty PySem.F.slot_tuple_gt (wpAny_call_entry PySem.F.slot_tuple_gt tx PySem.F.entry_tuple_gt (LA QI (λ_ _=>rfl) (.inr (.inl rfl)) hx hy h ⟨_,rfl,(λe=>nomatch e),q⟩) (PySem.F.args_tuple_gt_2 _ _)) hu
end
def mF:List At×D->List (List At×D)->D
 |b,[]=>b.2
 |b,x::r=>if be b.1 x.1=some true then mF x r else mF b r
def ly:List At×D->List (List At×D)->D
 |b,[]=>b.2
 |b,x::r=>if be x.1 b.1=some true then ly x r else ly b r
noncomputable def Xw {f:String->CmpOp->Builtin}(_:f "max" .Gt=Builtin.«max.loop»):=f
noncomputable def Xx:String->CmpOp->Builtin:=Xw rfl
noncomputable def Xy {f:String->Builtin}(_:f "max" = Builtin.«max»):=f
noncomputable def Xz:String->Builtin:=Xy rfl
structure MM (nm lp:String)(ns:Str)(op:CmpOp)(lt:List At->List At->Option Bool)(go:List At×D->List (List At×D)->D):Prop where
 hn:(toString nm++toString ".loop" : String)=lp
 en:entryFor table lp=some (Xx nm op)
 pl:plainId lp=true
 k2:builtinKind nm=none
 p2:plainId nm=true
 e2:entryFor table nm=some (Xz nm)
 ka:∀a v:Value,argsOk nm ⟨[a],[(Str.ofString "key",v)]⟩
 bt:bootBuiltins ns=some (.builtin nm)
 n1:ns ≠ "__name__"
 n2:(ns == ("__debug__" : Str))=false
 g0:∀b,go b []=b.2
 g1:∀b x r,go b (x::r)=if lt b.1 x.1=some true then go x r else go b r
 cg:∀ {ks:List (List At)},di ks=true->∀ {a b},a∈ks->b∈ks->∃r,lt a b=some r
 rc:∀ {prog:Program}{w:World}{A:Around}{E:Value->Shared->Prop}{s:Shared}{xs ys:List At}{x y:Value}{r:Bool}{Q:Value->Shared->Prop},fz s.heap xs x->fz s.heap ys y->lt ys xs=some r->A.units<cLine->Q (.bool r) s->wpAny (model prog w) A (richCompare op x y) Q E s
theorem V9:MM "max" "max.loop" "max" .Gt be mF :=
 ⟨by decide,PySem.F.entry_max_loop,PySem.F.plain_max_loop,PySem.F.kind_max,PySem.F.plain_max,PySem.F.entry_max,λ_ _=>by unfold argsOk;kernel_rfl,rfl,by decide,by decide,λ_=>rfl,λ_ _ _=>rfl,λh _ _ a b=>⟨_,gX h a b⟩,QJ⟩
theorem T8:MM "min" "min.loop" "min" .Lt (λa b=>be b a) ly :=
 ⟨by decide,PySem.F.entry_min_loop,PySem.F.plain_min_loop,PySem.F.kind_min,PySem.F.plain_min,PySem.F.entry_min,λ_ _=>by unfold argsOk;kernel_rfl,rfl,by decide,by decide,λ_=>rfl,λ_ _ _=>rfl,λh _ _ a b=>⟨_,gX h b a⟩,Gm⟩
section
variable {X:Cx}{ae:List (Addr×Obj)}{σ:St}
theorem AV (J:Inv X ((a1,o1)::(a2,o2)::ae) σ H' s'):Inv X ((a2,o2)::(a1,o1)::ae) σ H' s' :=
 J.pins_of λq hq=>J.pin q (by
  rcases vP hq with rfl|hq
  ·exact mY _ (mZ _ mX)
  ·rcases vP hq with rfl|hq
   ·exact mY _ mX
   ·exact mY _ (mZ _ (mZ _ hq)))
theorem qy (hp:∀q∈X.pn++ae,q.1≠a)(h:S≠a):∀q∈X.pn++((S,o)::ae),q.1≠a:=λq hq=>by
 rcases List.mem_append.mp hq with hq|hq
 ·exact hp q (List.mem_append_left _ hq)
 ·rcases vP hq with rfl|hq
  ·exact h
  ·exact hp q (mY _ hq)
theorem pA (I:Inv X ae σ H s)(r:ba v u)(i:Is X.K H v d)(e:mB d=some k):fz s.heap k u:=by
 have:=mD I (ys:=[v]) (ds:=[d]) (ks:=[k]) (its:=[u]) (.cons r .nil) (.cons i .nil) (by simp only[dj,e];rfl);cases this;assumption
inductive MK (X:Cx)(ae:List (Addr×Obj))(σ:St)(S It l:Addr)(o:Obj)(j:Nat)(N H:Hp)(y:List At×D)(u ku:Value)(s:Shared):Prop
 |mk (H2 N2:Hp) (v kv:V) (kd:D) (oI:Obj) (J:Inv X ((S,o)::(It,oI)::ae) σ H2 s) (B8:s.heap.IsListIter It l (j+1)) (x:Ext N N2 H H2) (ru:ba v u) (iv:Is X.K N2 v y.2) (rk:ba kv ku) (ik:Is X.K N2 kv kd) (ek:mB kd=some y.1)
theorem Gn {E:Value->Shared->Prop}{It:Addr}(hh:X.A.handled=none)(Ia:Ck X X.A.in1 σ (.ref qa) B H1 kf)(hq:hU X.K B l vs)(iv:IsL X.K B vs ds)(em:js kf ds=some gP)(ek:dj gP=some ks)(I0:X.s₀.heap.objs.size<=It)(O8:∀q∈X.pn++((S,o)::ae),q.1≠It)
  (O9:l≠It) (hz:(ks.zip ds)[j]? = some y) (I:Inv X ((S,o)::(It,oI)::ae) σ H s) (B8:s.heap.IsListIter It l j) (x1:Ext B N H1 H):
  wpAny (model X.prog X.w) X.A.in1 (pyNext (.ref It)) (λr s1=>∃u,r=some u/\wpAny (model X.prog X.w) X.A.in1 (call (.ref qa) [u]) (MK X ae σ S It l o j N H y u) (λ_ _=>False) s1) E s:=by
 obtain⟨its,rv,pl,_⟩:=I.list ((x1.bn.trans x1.nh).seq hq);obtain⟨hk,hd⟩:=List.getElem?_zip_eq_some.mp hz;obtain⟨v,hv,Me⟩:=iv.get hd;obtain⟨kd,SH,UG⟩:=qu em hd;obtain⟨u,hu,ru⟩:=rv.get hv;have Pu:mB kd=some y.1:=by
  have:=jr ek (i:=j) (vV SH).1;rw[vF,SH,vF,hk]at this;exact this
 refine(Walks.list (prog:=X.prog) (w:=X.w) (A:=X.A.in1) hh It l O9 its.toArray).item j _ _ _ (by simpa using(vV hu).1) ⟨B8,pl.isList⟩ λu' h' HZ hP hst' fP=>?_;have KH:its[j]? = some u':=by simpa using hP
 rw[hu]at KH;cases KH;obtain⟨Mf,UO,Kz,WA⟩:=id hst'.1;exact⟨u,rfl,cE (Ia _ _ H N v u y.2 kd (AV (im (t':=HZ) (AV I) I0 O8 (λb o n e=>fP b o (by simpa using n) e) UO (λv z=>by rw[WA]at z;cases z))) x1.hh x1.bn x1.nh (Me.mono x1.bn) ru UG) λku s2 ⟨kv,H2,J4,rk,N2,x2,ik⟩=>
  ⟨H2,N2,v,kv,kd,Mf,J4,⟨Mf,(J4.pin (It,Mf) (mY _ (mZ _ mX))).1,Kz,WA⟩,x2,ru,Me.mono (x1.bn.trans x2.bn),rk,ik,Pu⟩⟩
theorem Jz {nm lp:String}{ns:Str}{op:CmpOp}{lt:List At->List At->Option Bool}{go:List At×D->List (List At×D)->D}(M:MM nm lp ns op lt go){qv:Value}{l S It:Addr}{vs:List V}{ds gP:List D}{ks:List (List At)}{B H1:Hp}{kf:D->Option D}{d0:D}{R:Result->Shared->Prop}(hh:X.A.handled=none)(hu:X.A.in1.units<cLine)(Ia:Ck X X.A.in1 σ qv B H1 kf)(YW:∃a,qv=.ref a)(hq:hU X.K B l vs)(iv:IsL X.K B vs ds)
  (em:js kf ds=some gP) (ek:dj gP=some ks) (hc:di ks=true) (S0:X.s₀.heap.objs.size<=S) (I0:X.s₀.heap.objs.size<=It) (RJ:∀q∈X.pn++ae,q.1≠S) (O8:∀q∈X.pn++ae,q.1≠It) (ES:S≠It) (Mg:S≠l) (O9:l≠It)
  (hR:∀(s':Shared)(H' N:Hp)(v:V)(u:Value),Inv X ae σ H' s'->Ext B N H1 H'->ba v u->Is X.K N v d0->R (.ok (.ret u)) s'):
  ∀(r j:Nat)(s:Shared)(H N:Hp)(ub EG:Value)(vb RK:V)(db RL:D)(kb:List At)(c:Nat)(oI:Obj),vs.length - j=r->j<=vs.length->Inv X ((S,seqObj "list" #[ub,EG] c)::(It,oI)::ae) σ H s->s.heap.IsListIter It l j->Ext B N H1 H ->
   ba vb ub->Is X.K N vb db->ba RK EG->Is X.K N RK RL->mB RL=some kb->kb∈ks->go (kb,db) ((ks.zip ds).drop j)=d0 ->
   codeAny (model X.prog X.w) X.A (.builtin lp ⟨[.ref It,qv,.ref S],[]⟩) R s:=by
 obtain⟨qa,rfl⟩:=YW;intro r;induction r with
 |zero=>
  intro j s H N ub EG vb RK db RL kb c oI hr hj I B8 x1 r1 i1 r2 i2 ekb mk hd;have pS:=I.pin (S,seqObj "list" #[ub,EG] c) (mY _ mX);have sB:aX B H:=x1.bn.trans x1.nh;obtain⟨its,rv,pl,_⟩:=I.list (sB.seq hq);have hl:=pl.isList;have W:=Walks.list (prog:=X.prog) (w:=X.w) (A:=X.A.in1) hh It l O9 its.toArray;have hsz:its.toArray.size=its.length:=vH ..;have B5:vs.length=its.length:=rv.length;have Ma:ds.length=its.length:=by rw[←iv.length];exact rv.length
  have UC:ks.length=ds.length:=by rw[fX ek,k8 em]
  have B3:db=d0:=by
   rw[List.drop_of_length_le (by rw[List.length_zip];omega)]at hd;rw[M.g0]at hd;exact hd
  subst B3;refine codeAny_builtin M.en ?_;rw[Around.under_plainId M.pl _];show wpAny _ X.A.in1 (seqItems? (.ref S)>>=_) _ _ _;refine wX (wpAny_seqItems pS.1 rfl ?_);show wpAny _ X.A.in1 (tryCatch (pyNext (.ref It)) _>>=_) _ _ _;refine wX (wpAny_tryCatch (W.done _ _ _ ⟨by rw[hsz,show its.length=j by omega];exact B8,hl⟩ λh' HZ fP=>?_));have J1:Inv X ((It,oI)::(S,seqObj "list" #[ub,EG] c)::ae) σ H s:=AV I;have UP:∀q∈X.pn++((S,seqObj "list" #[ub,EG] c)::ae),q.1≠It:=qy O8 ES;have J2:Inv X ((S,seqObj "list" #[ub,EG] c)::ae) σ H { s with heap:=h',toks:=HZ } :=
   (k7 J1).turned (t':=HZ) (λb o n e=>fP b o (by simpa using n) e) (J1.pin (It,oI) (mY _ mX)).2.1 (J1.pin (It,oI) (mY _ mX)).2.2.1 (.inr I0) (nO J1) UP
  have WB:=J2.pin (S,seqObj "list" #[ub,EG] c) (mY _ mX);obtain⟨c2,Ag⟩:∃c2,(h'.update S (Obj.mapSeq λ_=>(#[]:Array Value))).get? S=some (seqObj "list" #[] c2):=⟨_,get?_update_seq WB.1 λ_=>#[]⟩;have u2:=vW h' S (Obj.mapSeq λ_=>(#[]:Array Value));show wpAny _ X.A.in1 (updateSeq S (λ_=>#[])>>=_) _ _ _;refine wX ?_;refine wpAny_updateSeq WB.1 rfl (wX (wpAny_letGo (wY ?_)));exact hR _ H N vb ub (k7 (im (t':=HZ) J2 S0 RJ (λb o n e=>(u2.2 b n).trans e) Ag dq)) x1 r1 i1
 |succ r ih=>
  intro j s H N ub EG vb RK db RL kb c oI hr hj I B8 x1 r1 i1 r2 i2 ekb mk hd;have fw:j<(ks.zip ds).length:=by rw[List.length_zip,fX ek,k8 em,←iv.length];omega
  have pS:=I.pin (S,seqObj "list" #[ub,EG] c) (mY _ mX);have hz:=vU fw;rw[List.drop_eq_getElem_cons fw,M.g1]at hd;generalize (ks.zip ds)[j]=y at hz hd;have hm:y.1∈ks:=vL (List.getElem?_zip_eq_some.mp hz).1;obtain⟨r,UQ⟩:=M.cg hc mk hm;refine codeAny_builtin M.en ?_;rw[Around.under_plainId M.pl _];show wpAny _ X.A.in1 (seqItems? (.ref S)>>=_) _ _ _;refine wX (wpAny_seqItems pS.1 rfl ?_);show wpAny _ X.A.in1 (tryCatch (pyNext (.ref It)) _>>=_) _ _ _;refine wX (wpAny_tryCatch (cE (Gn hh Ia hq iv em ek I0 (qy O8 ES) O9 hz I B8 x1) λ_ s1 ⟨u,e,h1⟩=>?_));subst e;show wpAny _ X.A.in1 (tryCatch (holding [u] (call (.ref qa) [u])) _>>=_) _ _ _;refine wX (wpAny_tryCatch (wpAny_holding (wpAny_mono h1 (λku s2 ⟨H2,N2,v,kv,kd,Mf,J4,RM,x2,ru,Me,rk,ik,Pu⟩=>?_) λ_ _ z=>z.elim)));have t1:=pA J4 rk (ik.mono x2.nh) Pu;have t2:=pA J4 r2 (i2.mono (x2.bn.trans x2.nh)) ekb;show wpAny _ X.A.in1 (tryCatch (holding [u,ku] (richCompare op ku EG>>=_)) _>>=_) _ _ _;refine wX (wpAny_tryCatch (wpAny_holding (wX (M.rc t1 t2 UQ hu ?_))));refine wX (wpAny_holding (wpAny_truthy_bool ?_));refine wX (wpAny_letGo (wY ?_));cases r with
  |true=>
   rw[if_pos UQ]at hd;have u2:=vW s2.heap S (Obj.mapSeq λ_=>#[u,ku]);simp only[if_true];have RN:=J4.pin (S,seqObj "list" #[ub,EG] c) (mY _ mX);refine wX (wpAny_updateSeq RN.1 rfl (wX (wpAny_letGo ?_)));rw[M.hn];obtain⟨o,g1,g2⟩:=RM;exact wY ⟨plainId_quiet M.pl _,ih (j+1) _ H2 N2 u ku v kv y.2 kd y.1 _ Mf (by omega) (by omega) (im (t':=s2.toks) J4 S0 (qy RJ ES.symm) (λb o n e=>(u2.2 b n).trans e) (get?_update_seq RN.1 λ_=>#[u,ku]) dq) ⟨o,(u2.2 It ES.symm).trans g1,g2⟩ (x1.trans x2) ru Me rk ik Pu hm hd⟩
  |false=>
   rw[if_neg (by rw[UQ];simp)]at hd;simp only[uV,if_false];refine wX (wpAny_letGo ?_);rw[M.hn];exact wY ⟨plainId_quiet M.pl _,ih (j+1) _ H2 N2 ub EG vb RK db RL kb c Mf (by omega) (by omega) J4 RM (x1.trans x2) r1 (i1.mono x2.bn) r2 (i2.mono x2.bn) ekb mk hd⟩
end
@[simp] def NN (go:List At×D->List (List At×D)->D)(f:FE)(kf:Env->D->Option D):FE:=λρ=>(f ρ).bind λx=>match x.1 with
 |.lst ds=>(js (kf ρ) ds).bind λgP=>(dj gP).bind λks=>if di ks=true then match ks.zip ds with
  |[]=>none
  |y::r=>some (go y r,false)
  else none
 |_=>none
@[simp] def uu:=NN mF
@[simp] def uw:=NN ly
section
variable {X:Cx}{e ke:Expr}{p pos kp:Pos}
theorem yN {nm lp:String}{ns:Str}{op:CmpOp}{lt:List At->List At->Option Bool}{go:List At×D->List (List At×D)->D}(M:MM nm lp ns op lt go){f:FE}{kf:Env->D->Option D}{k:Nat}(hm:X.mg ns=none)(he:JE X e f)(hk:JK X X.A.in1 ke kf)(hr:eP k X.A)(hg:Gl X ns:=by rfl)
  (UJ:starEach [e] X.env=[(false,eval e X.env)]:=by rfl) (UK:backTo pos (starEach [e] X.env)=(false,eval e X.env)::backTo pos (starEach [] X.env):=by rfl) (lE:(backTo pos (starEach [e] X.env)).any (·.1)=false:=by rfl)
  (nn:(backToKw pos (keywordEach [⟨some "key",ke,kp⟩] X.env)).all (·.1.isSome)=true:=by rfl) (UL:(backToKw pos (keywordEach [⟨some "key",ke,kp⟩] X.env)).any (·.1.isNone)=false:=by rfl)
  (UM:(backToKw pos (keywordEach [⟨some "key",ke,kp⟩] X.env)).filterMap (·.1)=[("key" : Str)]:=by rfl):
  JE X (.Call (.Name ns p) [e] [⟨some "key",ke,kp⟩] pos) (NN go f kf):=by
 intro ae s σ H Q I h;obtain⟨B,ρ,d,b,sB,rep,ee,q⟩:=h;obtain⟨⟨xd,xb⟩,ex,ee⟩:=oX ee;cases xd<;>try (cases ee;done)
 rename_i ds;obtain⟨gP,em,ee⟩:=oX ee;obtain⟨ks,ek,ee⟩:=oX ee;split at ee
 ·rename_i hc;split at ee
  ·cases ee
  ·rename_i y aD ez;cases ee
   refine wpAny_Call_Name_kw (nw I hg hm M.bt ?_ M.n1 M.n2);refine callWith_kw (cE ((iN he kn UJ) pos ae s σ H (λvs H1=>∃v N,vs=[v]/\Ext B N H H1/\Is X.K N v (.lst ds)) I ⟨B,ρ,_,_,sB,rep,ex,λv H1 N x1 i1 _=>⟨v,N,rfl,x1,i1⟩⟩) λus s1 hA=>?_) UK lE nn UL;obtain⟨YS,H1,I1,r1,v,N,rfl,x1,i1⟩:=hA;obtain⟨u,rfl,ru⟩:=hV r1;refine kws_cons (hk ae s1 σ H1 N ρ _ _ I1 x1.nh (rep.mono x1.bn) λqa H2 s2 I2 m2 Ia=>kws_nil ?_);rw[UM];show wpAny _ _ (call (.builtin nm) [u] [(("key" : Str),.ref qa)]) _ _ _;cases i1
   rename_i l vs hq il;cases ru
   have sN:aX N H2:=x1.nh.trans m2;obtain⟨its,rv,pl,hz⟩:=I2.list (sN.seq hq);have RO:l<s2.heap.objs.size:=by
    obtain⟨ol,O2,_⟩:=pl.isList;exact vX O2
   have z0:(ks.zip ds)[0]? = some y:=by rw[ez];rfl
   have YX:=vL (List.getElem?_zip_eq_some.mp z0).1;refine kmk_tree M.k2 M.p2 M.e2 (M.ka _ _) ?_;show wpAny _ X.A.in1 (Builtin.Builtins.bindParams nm ["key","default"] 0 ⟨[],[(Str.ofString "key",.ref qa)]⟩>>=_) _ _ s2;refine wX (wpAny_of_eq (show Builtin.Builtins.bindParams nm ["key","default"] 0 ⟨[],[(Str.ofString "key",.ref qa)]⟩=pure [some (.ref qa),none]from rfl) ?_);refine wX (wY ?_);refine wX (wpAny_pyIter_list pl.isList ?_);refine wX (wpAny_newList ?_ (uN _));rw[M.hn];let It:Addr:=s2.heap.objs.size;let oI:Obj:={ cls:=.type "list_iterator",data:=.fields #[.ref l,.int 0 0] };let S:Addr:=(s2.heap.push oI).objs.size;have hS:S=s2.heap.objs.size+1:=size_push' ..;have ES:S≠It:=by rw[hS];exact Nat.ne_of_gt (Nat.lt_succ_self _)
   have J1:Inv X ((It,oI)::ae) σ H2 { s2 with heap:=s2.heap.push oI }:=p9 (t':=s2.toks) I2 (λb u q=>vZ _ q) (vT _) (vY _ rfl) (λv z=>by cases z);have J2:Inv X ((S,seqObj "list" #[] 0)::(It,oI)::ae) σ H2 { s2 with heap:=(s2.heap.push oI).push (seqObj "list" #[] 0) }:=p9 (s:={ s2 with heap:=s2.heap.push oI }) (t':=s2.toks) J1 (λb u q=>vZ _ q) (vT _) (vY _ rfl) dq;have I0:X.s₀.heap.objs.size<=It:=I2.sz;have S0:X.s₀.heap.objs.size<=S:=by rw[hS];exact Nat.le_succ_of_le I2.sz
   have O8:∀q∈X.pn++ae,q.1≠It:=λq hq=>vS (vX (I2.pin q hq).1);have RJ:∀q∈X.pn++ae,q.1≠S:=λq hq=>by rw[hS];exact vS (Nat.lt_succ_of_lt (vX (I2.pin q hq).1))
   have O9:l≠It:=vS RO;have Mg:S≠l:=by rw[hS];exact Nat.ne_of_gt (Nat.lt_succ_of_lt RO)
   have hh:X.A.handled=none:=hr.hd;have hu:X.A.in1.units<cLine:=by have:=hr.un;show X.A.units+1<cLine;omega
   have pS:=J2.pin (S,seqObj "list" #[] 0) (mY _ mX);have pI:=J2.pin (It,oI) (mY _ (mZ _ mX));refine wY ⟨plainId_quiet M.pl _,?_⟩;refine codeAny_builtin M.en ?_;rw[Around.under_plainId M.pl _];show wpAny _ X.A.in1 (seqItems? (.ref S)>>=_) _ _ { s2 with heap:=(s2.heap.push oI).push (seqObj "list" #[] 0) };refine wX (wpAny_seqItems pS.1 rfl ?_);show wpAny _ X.A.in1 (tryCatch (pyNext (.ref It)) _>>=_) _ _ _;refine wX (wpAny_tryCatch (cE (Gn hh Ia hq il em ek I0 (qy O8 ES) O9 z0 J2 ⟨oI,pI.1,rfl,rfl⟩ (.refl sN)) λ_ s1 ⟨u,e,h1⟩=>?_));subst e;show wpAny _ X.A.in1 (tryCatch (holding [u] (call (.ref qa) [u])) _>>=_) _ _ _;refine wX (wpAny_tryCatch (wpAny_holding (wpAny_mono h1 (λku s3 ⟨H3,N3,v,kv,kd,Mf,J4,⟨o,g1,g2⟩,x3,ru,Me,rk,ik,Pu⟩=>?_) λ_ _ z=>z.elim)));have RN:=J4.pin (S,seqObj "list" #[] 0) (mY _ mX);have u2:=vW s3.heap S (Obj.mapSeq λ_=>#[u,ku]);show wpAny _ X.A.in1 (updateSeq S (λ_=>#[u,ku])>>=_) _ _ _;refine wX (wpAny_updateSeq RN.1 rfl ?_);rw[M.hn];have UR:1<=vs.length:=by
    have:=congrArg List.length ez;rw[List.length_zip,vE,←il.length]at this;omega
   exact wY ⟨plainId_quiet M.pl _,Jz M (S:=S) (It:=It) hh hu Ia ⟨qa,rfl⟩ hq il em ek hc S0 I0 RJ O8 ES Mg O9 (λs' H' N' v' u' J' x' r' i'=>⟨v',H',J',r',q _ _ _ ((x1.trans (.grow x1.nh m2)).trans x') i' (by simp)⟩) _ 1 _ H3 N3 u ku v kv y.2 kd y.1 _ Mf rfl UR
    (im (t':=s3.toks) J4 S0 (qy RJ ES.symm) (λb o n e=>(u2.2 b n).trans e) (get?_update_seq RN.1 λ_=>#[u,ku]) dq) ⟨o,(u2.2 It ES.symm).trans g1,g2⟩ x3 ru Me rk ik Pu YX (by rw[ez];rfl)⟩
 ·cases ee
end
section
variable {X:Cx}
@[simp] def Mw:D->D->OB
 |.tup xs,.tup ys=>(cW xs).bind λas=>(cW ys).bind λbs=>(be as bs).map λr=>(.bl r,false)
 |_,_=>none
@[simp] def Xg:D->D->OB
 |.tup xs,.tup ys=>(cW xs).bind λas=>(cW ys).bind λbs=>(be bs as).map λr=>(.bl r,false)
 |_,_=>none
theorem QK (hu:X.A.units+40<cLine):dN X (compareOp .Lt) (rD X.K Mw):=by
 intro ae s σ H x y v u Q I rx ry q;obtain⟨B,dx,dy,d,b,sB,ix,iy,e,q⟩:=q;cases dx<;>try (simp[Mw]at e;done)
 cases dy<;>try (simp[Mw]at e;done)
 simp only[Mw]at e;obtain⟨as,e1,e⟩:=oX e;obtain⟨bs,e2,e⟩:=oX e;obtain⟨r,e3,e⟩:=oY e;cases e
 show wpAny _ _ (richCompare .Lt v u) _ _ _;exact Gm (pA I rx (ix.mono sB) e1) (pA I ry (iy.mono sB) e2) e3 (by omega) ⟨.bl r,H,I,rfl,q.one sB (.bl r)⟩
end
section
variable {X:Cx}{a b:Expr}{p pos:Pos}
@[simp] def Sq (f g:FE):FA:=λρ=>(f ρ).bind λx=>(g ρ).bind λy=>match x.1,y.1 with
 |.int i,.int j=>if -1000<=i/\i<=1000/\-1000<=j/\j<=1000 then some (fW i (j - i).toNat)else none
 |_,_=>none
end
@[simp] def VA:List D->OB
 |[.tup xs,.tup ys]=>(cW xs).bind λas=>(cW ys).bind λbs=>(be as bs).map λr=>(if r=true then .tup ys else .tup xs,false)
 |_=>none
end DL
namespace DL
open PySem PySem.Spec PyProof.Rows L2
section
variable {X:Cx}
noncomputable def ux:D->D->OB
 |.tup xs,.tup ys=>if xs.isEmpty=true then some (.tup ys,false)else none
 |_,_=>none
theorem J0:dN X (binaryOp .Add) (rD X.K ux):=by
 intro ae s σ H x y v u Q I rx ry q;obtain⟨B,dx,dy,d,bb,sB,ix,iy,ee,q⟩:=q;cases ix<;>try (cases ee;done)
 cases iy<;>try (cases ee;done)
 rename_i l vs ds h hl l' ws es h' EB;simp only[ux]at ee;split at ee
 ·rename_i hz;cases ee
  cases rx
  cases ry
  obtain⟨its,r1,p1,_⟩:=I.tuple (bj sB h);obtain⟨Rj,r2,p2,_⟩:=I.tuple (bj sB h');have he:its.toArray.isEmpty=true:=by
   have e1:=hl.length;have e2:=r1.length;have e3:=List.isEmpty_iff.mp hz;rw[e3]at e1;cases its with
   |nil=>rfl
   |cons a b=>rw[e1]at e2;simp at e2
  obtain⟨⟨cls,dd,data,sl⟩,ho,hc,n,hd⟩:=id p1;obtain⟨⟨Ue,Oo,data2,S3⟩,K3,Ag,n2,Ri⟩:=id p2;dsimp only at hc hd Ag Ri;subst hc;subst hd;subst Ag;subst Ri;exact concat_meets ⟨_,ho,rfl⟩ ⟨_,K3,rfl⟩ noFill_tuple_add seq_tuple_add PySem.F.slot_tuple_add PySem.F.entry_tuple_add (PySem.F.args_tuple_add_2 _ _)
   (tuple_addW0 l l' its.toArray Rj.toArray n n2 dd Oo sl S3 he) ⟨ho,K3,⟨.ref l',H,I,rfl,q.one sB (.tup h' EB)⟩⟩
 ·cases ee
@[simp] noncomputable def qz:D->D->OB
 |.tup xs,.tup ys=>if xs.length+ys.length<=sizeLine then some (.tup (xs++ys),false)else none
 |_,_=>none
theorem J5 (xs ys:List D)(z:xs.length+ys.length<=sizeLine):EK sU ux (.tup xs) (.tup ys)=some (.tup (xs++ys),false):=by
 cases xs with
 |nil=>
  have:sU (.tup []) (.tup ys)=none:=if_neg (λh=>by cases h.2);show(match sU (.tup []) (.tup ys) with|some z=>some z|none=>ux (.tup []) (.tup ys))=_;rw[this];rfl
 |cons a l=>
  have:sU (.tup (a::l)) (.tup ys)=some (.tup (a::l++ys),false):=if_pos ⟨z,rfl⟩;show(match sU (.tup (a::l)) (.tup ys) with|some z=>some z|none=>ux (.tup (a::l)) (.tup ys))=_;rw[this]
theorem wS:dN X (binaryOp .Add) (rD X.K qz):=by
 refine iY (r:=rD X.K (EK sU ux)) (nF FH J0) λx y H Q q=>?_;obtain⟨B,dx,dy,d,bb,sB,ix,iy,ee,q⟩:=q;refine⟨B,dx,dy,d,bb,sB,ix,iy,?_,q⟩;cases ix<;>try (cases ee;done)
 cases iy<;>try (cases ee;done)
 rename_i l vs ds h hl l' ws es h' EB;simp only[qz]at ee;split at ee
 ·rename_i hz;rw[J5 _ _ hz];exact ee
 ·cases ee
end
section
variable {X:Cx}
@[simp] def Sr:List D->OB
 |[d,.tup [.ty n,.ty m]]=>if Q5 d=true then none else if n = "list"/\m = "tuple" then some (.bl (Nz d == "list" || Nz d == "tuple"),false)else none
 |_=>none
end
@[simp] noncomputable def jW:D->Option cx
 |.int i=>some (.inl i)
 |.str x=>some (.inr x)
 |_=>none
theorem q8 {K:Frag}{B:Hp}{v:V}{d:D}{k:cx}(i:Is K B v d)(e:jW d=some k):v=kV k:=by
 cases i<;>simp only[jW]at e<;>cases e<;>rfl
noncomputable def c6 {κ:Type}[DecidableEq κ]:List κ->List D->κ->Option D
 |k'::ks,d::ds,k=>if k'=k then some d else c6 ks ds k
 |_,_,_=>none
theorem wT {κ:Type}[DecidableEq κ]{K:Frag}{B:Hp}(k:κ):∀ {ks:List κ}{vs:List V}{ds:List D},ks.length=vs.length->IsL K B vs ds ->
  (∃v d,jZ (ks.zip vs) k=some v/\c6 ks ds k=some d/\Is K B v d)∨(jZ (ks.zip vs) k=none/\c6 ks ds k=none)
 |[],vs,ds,_,_=>.inr ⟨by cases vs<;>rfl,by cases ds<;>rfl⟩
 |k'::ks,[],_,h,_=>by simp at h
 |k'::ks,v::vs,_,h,.cons i is=>by
  rw[List.zip_cons_cons];unfold c6;by_cases e:k'=k
  ·rw[if_pos e];exact .inl ⟨v,_,mm (p:=(k',v)) e,rfl,i⟩
  ·rw[if_neg e,mn (p:=(k',v)) e];exact wT k (by simpa using h) is
section
variable {X:Cx}{o e i:Expr}{pos:Pos}
@[simp] def Go:D->D->OB
 |.dk ks vs,y=>(jW y).map λk=>((c6 ks vs k).getD .non,false)
 |_,_=>none
theorem Gp {dI cH:Pos}{fo fe:FE}(hu:X.A.units+1<cLine)(ho:JE X o fo)(he:JE X e fe)(m:M1 X o "get" dI e cH):JE X (.Call (.Attribute o "get" dI) [e] [] cH) (f2 Go fo fe):=by
 refine PE.to (xO hu ho he m) λσ H Q q=>?_;obtain⟨B,ρ,d,bb,sB,r,ee,q⟩:=q;obtain⟨x,ex,ee⟩:=oX ee;obtain⟨y,ey,ee⟩:=oX ee;refine⟨B,ρ,x.1,x.2,sB,r,ex,λv H1 N1 x1 i1 ff=>?_⟩;obtain⟨xd,xb⟩:=x;cases i1 with
 |@dk a ks vs ds ob h hl hs=>
  simp only[Go]at ee;obtain⟨k,hk,ee⟩:=oY ee;cases ee
  refine⟨a,rfl,.inl ⟨_,_,.inl (x1.nh _ _ h)⟩,N1,ρ,y.1,y.2,x1.nh,r.mono x1.bn,ey,λv2 H2 N2 x2 i2 _=>?_⟩;have hv:=q8 i2 hk;subst hv;refine⟨jZ (ks.zip vs) k,.inl ⟨_,k,_,.inl (x2.nh _ _ (x2.bn _ _ h)),rfl,rfl⟩,?_⟩;have Pw:=hs.mono x2.bn;rcases wT k hl Pw with⟨v,d',e1,e2,i3⟩|⟨e1,e2⟩
  ·rw[e1];rw[e2]at q;exact(q.into (x1.trans x2)).one x2.nh i3
  ·rw[e1];rw[e2]at q;exact(q.into (x1.trans x2)).one x2.nh .non
 |_=>simp[Go]at ee
@[simp] def ZV:D->D->OB
 |.dk ks vs,y=>(jW y).bind λk=>(c6 ks vs k).map λd=>(d,false)
 |_,_=>none
@[simp] def Ss:D->D->OB
 |y,.dk ks vs=>(jW y).map λk=>(.bl (c6 ks vs k).isSome,false)
 |_,_=>none
@[simp] def qA:D->D->OB
 |y,.dk ks vs=>(jW y).map λk=>(.bl (!(c6 ks vs k).isSome),false)
 |_,_=>none
theorem uy {κ:Type}[DecidableEq κ]{K:Frag}{B:Hp}{k:κ}{ks:List κ}{vs:List V}{ds:List D}(hl:ks.length=vs.length)(hs:IsL K B vs ds):(jZ (ks.zip vs) k).isSome=(c6 ks ds k).isSome:=by
 rcases wT k hl hs with⟨v,d,e1,e2,_⟩|⟨e1,e2⟩
 ·rw[e1,e2];rfl
 ·rw[e1,e2];rfl
theorem DQ {fi fo:FE}(hu:X.A.units+1<cLine)(hi:JE X i fi)(ho:JE X o fo)(hm:behindInMarks .NotIn o=false:=by first|exact ji _ (by decide) (by decide)|rfl):JT X (.Compare i [.NotIn] [o] pos) (br (f2 qA fi fo)):=by
 refine PT.to (My (D2 hu hi ho) hm) λσ H Q q=>?_;obtain⟨B,ρ,d,bb,sB,r,ee,q⟩:=A2 q;obtain⟨y,ey,ee⟩:=oX ee;obtain⟨x,ex,ee⟩:=oX ee;refine⟨B,ρ,y.1,y.2,sB,r,ey,λv2 H1 N1 x1 i2 _=>⟨N1,ρ,x.1,x.2,x1.nh,r.mono x1.bn,ex,λv H2 N2 x2 i1 ff=>?_⟩⟩;obtain⟨xd,xb⟩:=x;cases i1 with
 |@dk a ks vs ds ob h hl hs=>
  simp only[qA]at ee;obtain⟨k,hk,ee⟩:=oY ee;cases ee
  have hv:=q8 i2 hk;subst hv;refine⟨a,jZ (ks.zip vs) k,rfl,.inl ⟨_,k,_,.inl (x2.nh _ _ h),rfl,rfl⟩,?_⟩;rw[uy hl hs];exact(q.into (x1.trans x2)).one x2.nh (.bl _)
 |_=>simp[qA]at ee
end
noncomputable def dJ {κ:Type}[DecidableEq κ](ks:List κ)(k:κ):List κ:=if k∈ks then ks else ks++[k]
noncomputable def dL {κ α:Type}[DecidableEq κ](ks:List κ)(xs:List α)(k:κ)(x:α):List α:=if k∈ks then List.zipWith (λk' x'=>if k'=k then x else x') ks xs else xs++[x]
theorem Cn {κ:Type}[DecidableEq κ](k:κ):∀ {ks:List κ}{vs:List V},ks.length=vs.length->((ks.zip vs).any λkv=>decide (kv.1=k))=decide (k∈ks)
 |[],_,_=>by simp
 |k'::ks,[],h=>by simp at h
 |k'::ks,v::vs,h=>by
  have ih:=Cn k (ks:=ks) (vs:=vs) (by simpa using h);rw[List.zip_cons_cons,List.any_cons,ih];by_cases e:k'=k
  ·simp[e]
  ·have e':¬k=k':=λz=>e z.symm;simp[e,e']
theorem Co {κ:Type}[DecidableEq κ](k:κ)(v:V):∀(ks:List κ)(vs:List V),(ks.zip vs).map (λkv=>if kv.1=k then (kv.1,v)else kv)=ks.zip (List.zipWith (λk' x'=>if k'=k then v else x') ks vs)
 |[],_=>by simp
 |_::_,[]=>by simp
 |k'::ks,w::vs=>by
  rw[List.zip_cons_cons,uY,Co k v ks vs,List.zipWith_cons_cons,List.zip_cons_cons];by_cases e:k'=k
  ·simp[e]
  ·simp[e]
theorem pB {κ:Type}[DecidableEq κ]{ks:List κ}{vs:List V}(hl:ks.length=vs.length)(k:κ)(v:V):ml (ks.zip vs) k v=(dJ ks k).zip (dL ks vs k v):=by
 unfold ml dJ dL;rw[Cn k hl];by_cases h:k∈ks
 ·rw[if_pos (decide_eq_true h),if_pos h,if_pos h,Co]
 ·rw[if_neg (by simpa using h),if_neg h,if_neg h,List.zip_append hl];rfl
theorem mG {κ α:Type}[DecidableEq κ]{ks:List κ}{xs:List α}(hl:ks.length=xs.length)(k:κ)(x:α):(dJ ks k).length=(dL ks xs k x).length:=by
 unfold dJ dL;split<;>simp[hl]
theorem IsL.zipWith {κ:Type}[DecidableEq κ]{K:Frag}{B:Hp}{k:κ}{v:V}{d:D}(i:Is K B v d):∀ {ks:List κ}{vs:List V}{ds:List D},IsL K B vs ds->IsL K B (List.zipWith (λk' x'=>if k'=k then v else x') ks vs) (List.zipWith (λk' x'=>if k'=k then d else x') ks ds)
 |[],_,_,_=>by simpa using IsL.nil
 |_::_,_,_,.nil=>by simpa using IsL.nil
 |k'::ks,_,_,.cons h t=>by
  rw[List.zipWith_cons_cons,List.zipWith_cons_cons];refine .cons ?_ (IsL.zipWith i t);by_cases e:k'=k
  ·rw[if_pos e,if_pos e];exact i
  ·rw[if_neg e,if_neg e];exact h
theorem IsL.put {κ:Type}[DecidableEq κ]{K:Frag}{B:Hp}{k:κ}{v:V}{d:D}(i:Is K B v d){ks:List κ}{vs:List V}{ds:List D}(h:IsL K B vs ds):IsL K B (dL ks vs k v) (dL ks ds k d):=by
 unfold dL;split
 ·exact h.zipWith i
 ·exact h.append (.cons i .nil)
section
variable {K:Frag}{E:Ends}{σ:St}{H:Hp}
noncomputable def Cp (i:Nat):FS:=λρ=>some (.nx (ρ.set i (some (.dk [] [],true))))
noncomputable def Gq (i:Nat):FS:=λρ=>some (.nx (ρ.set i (some (.dt [] [],true))))
theorem eI.newBox (s:eI K B0 H0 N H σ ρ)(i:Nat)(hp:H p=none)(hb:∀C,Bx K C ob dd):eI K B0 H0 (upd N p ob) (upd H p ob) (σ.set i (some (.ref p))) (ρ.set i (some (dd,true))):=by
 have x:=Ext.laid (o:=ob) s.ext.nh hp;have s1:=s.grow x;have WC:N p=none:=s.ext.nh.free hp;have RI:¬own σ ρ p:=λz=>by obtain⟨ws,⟨q,_⟩,_⟩:=s.owned z;rw[WC]at q;cases q
 have c:aX (eD N (own σ ρ)) (eD (upd N p ob) (λb=>own σ ρ b∨b=p)):=eK λb u e q=>⟨x.bn _ _ e,λz=>z.elim q λz=>by subst z;rw[WC]at e;cases e⟩;refine s1.bindOwn aC (s.ext.hh.free hp) (λj e q z=>RI ⟨j,e,q,z⟩) (λj e _ q=>?_) (λj e _ q=>?_) (hb _)
 ·obtain⟨w,h1,h2⟩:=s.sh j e q;exact⟨w,h1,h2.mono c⟩
 ·obtain⟨a',o',h1,h2,_,h4⟩:=s.ow j e q;exact⟨a',o',h1,x.bn _ _ h2,h4.mono c⟩
theorem Gr (q:o6 K (Cp i) E σ H):Ak Fk (jR i) E σ H:=by
 obtain⟨B0,H0,ρ,r,⟨N,s⟩,e,p⟩:=q;cases e
 exact λa ob ha=>p _ _ ⟨_,s.newBox i ha λ_=>.dk (ks:=[]) (vs:=[]) rfl .nil⟩
theorem Gs (q:o6 K (Gq i) E σ H):Ak Fl (jR i) E σ H:=by
 obtain⟨B0,H0,ρ,r,⟨N,s⟩,e,p⟩:=q;cases e
 exact λa ha=>p _ _ ⟨_,s.newBox i ha λ_=>.dt (ks:=[]) (vs:=[]) rfl .nil⟩
def yO (i:Nat)(fk fv:FE):FS:=λρ=>match ρ[i]? with
 |some (some (.dk ks vs,true))=>(fv ρ).bind λv=>(fk ρ).bind λk=>(jW k.1).bind λkk=>if bi v.1=true/\ks.length<sizeLine then some (.nx (ρ.set i (some (.dk (dJ ks kk) (dL ks vs kk v.1),true))))else none
 |_=>none
theorem Gu {i:Nat}{fk fv:FE}(q:o6 K (yO i fk fv) E σ H):BF (EU i) (tD K fk) (tD K fv) E σ H:=by
 obtain⟨B0,H0,ρ,r,⟨N,s⟩,e,p⟩:=q;unfold yO at e;split at e
 ·rename_i ks ds ei;obtain⟨v,ev,e⟩:=oX e;obtain⟨k,ek,e⟩:=oX e;obtain⟨kk,hk,e⟩:=oX e;split at e
  ·rename_i hx;cases e
   refine⟨N,ρ,v.1,v.2,s.ext.nh,s.rep,ev,λv1 H1 N1 x1 i1 _=>?_⟩;have s1:=s.grow x1;obtain⟨a,o,h1,h2,h3,h4⟩:=s1.ow i _ ei;refine⟨.ref a,h1,N1,ρ,k.1,k.2,s1.ext.nh,s1.rep,ek,λv2 H2 N2 x2 i2 _=>?_⟩;have s2:=s1.grow x2;have hv:=q8 i2 hk;subst hv;obtain⟨a',o',k1,k2,k3,k4⟩:=s2.ow i _ ei;rw[h1]at k1;cases k1
   cases k4 with
   |@dk ks vs ds hl h5 ob=>
    refine⟨a,rfl,.inl ⟨_,kk,_,s2.ext.nh _ _ k2,rfl,?_,λUk=>?_⟩⟩
    ·rw[List.length_zip];omega
    ·rw[pB hl];exact p σ _ ⟨_,s2.writeB ei h1 (.dk (mG hl _ _) (h5.put (s2.flat (i1.mono x2.bn) hx.1)))⟩
  ·cases e
 ·cases e
end
section
variable {X:Cx}{pos:Pos}{e k:Expr}
theorem Cq (hN:X.N.Nodup)(hi:X.N[i]? = some x:=by rfl)(hx:HN X.env.scope x:=by first|exact Or.inl rfl|exact Or.inr rfl)(hs:swapsWith (.Dict [] [] dp) (some (.Name x p)) pos.line X.env=pure false:=by rfl)
  (hf:X.fn x=true∨X.env.scope.names.lookup x=some .local:=by first|exact .inl rfl|exact .inr rfl):JS X (.Assign [.Name x p] (.Dict [] [] dp) pos) (Cp i):=PS.to (wb hN hi hx Fm hs hf) λ_ _ _ q=>Gr q
theorem J6 (hN:X.N.Nodup)(hi:X.N[i]? = some x:=by rfl)(hx:HN X.env.scope x:=by first|exact Or.inl rfl|exact Or.inr rfl)(hs:swapsWith (.Dict [] [] dp) (some (.Name x p)) pos.line X.env=pure false:=by rfl)
  (hf:X.fn x=true∨X.env.scope.names.lookup x=some .local:=by first|exact .inl rfl|exact .inr rfl):JS X (.Assign [.Name x p] (.Dict [] [] dp) pos) (Gq i):=PS.to (wb hN hi hx Fo hs hf) λ_ _ _ q=>Gs q
theorem J7 (hu:X.A.units+1<cLine)(hv:JE X e fv)(hk:JE X k fk)(hN:X.N[i]? = some y:=by rfl)(B7:ET X.env.scope y:=by first|exact Or.inl rfl|exact Or.inr (Or.inl rfl)|exact Or.inr (Or.inr rfl))(hd:(y == ("__debug__" : Str))=false:=by decide)
  (j9:(y == ("__classdict__" : Str))=false:=by decide) (hs:swapsWith e (some (.Subscript (.Name y py) k pt)) pos.line X.env=pure false:=by rfl):JS X (.Assign [.Subscript (.Name y py) k pt] e pos) (yO i fk fv) :=
 PS.to (wu hu (lG hN B7 hd j9) hk hv hs) λ_ _ _ q=>Gu q
end
section
variable {prog:Program}{w:World}{A:Around}{E:Value->Shared->Prop}{s:Shared}
abbrev NO (h:Heap)(z TI TO T0:Addr)(f:Bool):Prop:=h.get? z=some { cls:=.type "zip",dict:=none,data:=.fields #[rawInt T0,.bool f,.bool false,.ref TI,.ref TO],slots:=#[] }
end
def VB (k1 k2:Bool)(z TI TO i1 i2 l1 l2 S:Addr)(i:Nat)(h:Heap):Prop :=
 IsPair h TI (.ref i1) (.ref i2)/\BX k1 h i1 l1 i/\BX k2 h i2 l2 i/\((IsZip h z TI TO .none/\∃a b,IsPair h TO a b)∨∃T0 f oT oO,NO h z TI TO T0 f/\h.get? T0=some oT/\T0∉[z,TI,TO,i1,i2]/\T0≠S/\h.get? TO=some oO)
section
variable {prog:Program}{w:World}{A:Around}{E:Value->Shared->Prop}{s:Shared}{k1 k2:Bool}{z TI TO i1 i2 l1 l2 S:Addr}{j:Nat}{xs ys:Array Value}
theorem VB.ty (st:VB k1 k2 z TI TO i1 i2 l1 l2 S j h):∃o,h.get? z=some o/\o.cls=.type "zip":=by
 obtain⟨_,_,_,a4⟩:=st;rcases a4 with⟨b1,_⟩|⟨T0,f,oT,oO,b1,_⟩
 ·exact⟨_,b1,rfl⟩
 ·exact⟨_,b1,rfl⟩
end
theorem qB (h:H a=none):aX H (upd H a o):=λb u e=>by rw[aI (aZ e h)];exact e
@[simp] def ZW (fa fb:FE):FE:=λρ=>(T2 fa fb ρ).map λds=>(.lst ds,true)
end DL
namespace DL
open PySem PySem.Spec PyProof.Rows
theorem wU:typeLookup (.type "list") "keys" = pure none:=by rw[typeLookup_type,builtinLookup_eq_fast];kernel_rfl
theorem DR 
  (hx:s.heap.get? a=some { cls:=.type "list",dict:=none,data:=.seq xs k,slots:=sl }) (hA:A.handled=none)
  (h:∀h' tk,(∀b o,s.heap.get? b=some o->h'.get? b=some o)->Q none { s with heap:=h',toks:=tk }):
  wpAny (model prog w) A (getAttr? (.ref a) "keys") Q E s:=by
 obtain⟨hp,g,d,tk,os⟩:=s;have hT:∀HZ,(⟨hp,g,d,HZ,os⟩:Shared).TypeIs (.ref a) "list":=λ_=>⟨_,hx,rfl⟩;have f1:=sub_AttributeError;have f3:=PySem.F.slot_list_getattribute.lookup;have f4:=PySem.F.slot_list_getattribute.bind (.ref a);have f5:=am_list_getattr_none;unfold getAttr? getAttrBy? getAttrBy;repeat (any_goals (first|assumption|exact hT _|((with_reducible show wpAny _ _ (call (Value.builtin "list.__getattribute__") _ _) _ _ _);refine call_meets PySem.F.slot_list_getattribute (hT _) am_entry_list_getattribute (PySem.F.args_list_getattribute_2 _ _) (meets_getattribute_miss_list a xs k sl "keys" _ wU (by decide) (by decide)) ⟨hx,hA,λh' HZ e hx'=>?_⟩)|wp_step))
 obtain⟨t',u',he⟩:=hx'.there;show wpAny _ _ (getattributeRaised _ _ _ _ _ _ _) _ _ _;unfold getattributeRaised;repeat (any_goals (first|assumption|wp_step))
 exact h _ _ hx'.of.keeps
end DL
namespace DL
open PySem PySem.Spec PyProof.Rows L2
def fY:List D->Option (List (cx×D))
 |[]=>some []
 |.tup [k,v]::r=>(jW k).bind λkk=>(fY r).map λl=>(kk,v)::l
 |_=>none
noncomputable def qC (a:List cx×List D)(p:cx×D):List cx×List D:=(dJ a.1 p.1,dL a.1 a.2 p.1 p.2)
noncomputable def bR (l:List (cx×D)):List cx×List D:=l.foldl qC ([],[])
theorem qD (l:List (cx×D))(p:cx×D):bR (l++[p])=qC (bR l) p:=by unfold bR;rw[List.foldl_append];rfl
theorem qE:∀ {ds:List D}{l:List (cx×D)},fY ds=some l->l.length=ds.length
 |[],l,h=>by simp[fY]at h;subst h;rfl
 |d::r,l,h=>by
  unfold fY at h;split at h
  ·rename_i h0;cases h0
  ·rename_i k v r' h0;cases h0
   obtain⟨kk,_,h⟩:=oX h;obtain⟨l',h1,rfl⟩:=oY h;simp[qE h1]
  ·cases h
theorem qF:∀ {ds:List D}{l:List (cx×D)}{i:Nat}{d:D},fY ds=some l->ds[i]? = some d->∃k v kk,d=.tup [k,v]/\jW k=some kk/\l[i]? = some (kk,v)
 |[],l,i,d,_,h=>by simp at h
 |d0::r,l,i,d,h,hi=>by
  unfold fY at h;split at h
  ·rename_i h0;cases h0
  ·rename_i k v r' h0;cases h0
   obtain⟨kk,h2,h⟩:=oX h;obtain⟨l',h1,rfl⟩:=oY h;cases i with
   |zero=>simp at hi;subst hi;exact⟨k,v,kk,rfl,h2,rfl⟩
   |succ i=>simp only[List.getElem?_cons_succ]at hi ⊢;exact qF h1 hi
  ·cases h
theorem Gv (l:List (cx×D)):∀a:List cx×List D,a.1.length=a.2.length->(l.foldl qC a).1.length=(l.foldl qC a).2.length/\(l.foldl qC a).1.length<=a.1.length+l.length:=by
 induction l with
 |nil=>intro a h;exact⟨h,vT _⟩
 |cons p l ih=>
  intro a h;have h1:(qC a p).1.length<=a.1.length+1:=by
   show(dJ _ _).length<=_;unfold dJ;split<;>simp
  have:=ih (qC a p) (mG h _ _);rw[List.foldl_cons,vE];exact⟨this.1,by omega⟩
theorem DS (l:List (cx×D)):(bR l).1.length=(bR l).2.length/\(bR l).1.length<=l.length:=by
 have:=Gv l ([],[]) rfl;exact⟨this.1,vR this.2 (by simp)⟩
theorem uz:entryFor table "dict.update.loop" = some Builtin.«dict.update.loop»:=entryFor_of_tree (by kernel_rfl)
theorem kU:plainId "dict.update.loop" = true:=by decide +kernel
section
variable {X:Cx}{ae:List (Addr×Obj)}{σ:St}{B H0:Hp}{A:Around}{R:Result->Shared->Prop}{it l d:Addr}{us:List V}{ds:List D}{gP:List (cx×D)}
theorem AW (hA:A.handled=none)(nl:l≠it)(nd:d≠it)(hl:hU X.K B l us)(il:IsL X.K B us ds)(hp:fY ds=some gP)
  (hR:∀Hc N vs ob s',Inv X ae σ (upd Hc d (.dK ((bR gP).1.zip vs) ob)) s'->Hc d=none->Ext B N H0 Hc->(bR gP).1.length=vs.length->IsL X.K N vs (bR gP).2->R (.ok (.ret .none)) s'):
  ∀(k i:Nat)(tk:Nat)(s:Shared)(Hc N:Hp)(vs:List V)(ob:Obj),ds.length - i=k->i<=ds.length->Inv X ae σ (upd Hc d (.dK ((bR (gP.take i)).1.zip vs) ob)) s->Hc d=none->Ext B N H0 Hc->nz X ae (upd Hc d (.dK ((bR (gP.take i)).1.zip vs) ob)) it ->
   s.heap.IsListIter it l i->(bR (gP.take i)).1.length=vs.length->IsL X.K N vs (bR (gP.take i)).2 ->
   codeAny (model X.prog X.w) A (.builtin "dict.update.loop" ⟨[.ref d,.ref it,.int i tk,.none],[]⟩) R s:=by
 have n1:=il.length;have n2:=qE hp;intro k;induction k with
 |zero=>
  intro i tk s Hc N vs ob hk hi I hc xt fp st hz hv;have ER:i=ds.length:=by omega
  have sm:aX B (upd Hc d (.dK ((bR (gP.take i)).1.zip vs) ob)):=(xt.bn.trans xt.nh).trans (qB hc);obtain⟨its,r1,p1,z1⟩:=I.list (sm.seq hl);have e1:=r1.length;refine codeAny_builtin uz ?_;rw[Around.under_plainId kU _];show wpAny _ A.in1 (pyNext (.ref it)>>=_) _ _ s;refine wX (wpAny_pyNext_list_end (A:=A.in1) hA st p1.isList (by simp;omega) λh' fP=>?_);show wpAny _ _ (Builtin.Dict.addKeywords d []>>=_) _ _ _;refine wX (wY (wY ?_));have I1:=p8 (t':=s.toks) (h':=h') (ch:=[it]) I (λb hb=>by rw[uT hb];exact fp) λb o hb e=>fP b o (λq=>hb (by simp[q])) e;rw[ER,←n2,List.take_length]at I1 hz hv;exact hR Hc N vs ob _ I1 hc xt hz hv
 |succ k ih=>
  intro i tk s Hc N vs ob hk hi I hc xt fp st hz hv;have fw:i<ds.length:=by omega
  have sm:aX B (upd Hc d (.dK ((bR (gP.take i)).1.zip vs) ob)):=(xt.bn.trans xt.nh).trans (qB hc);obtain⟨its,r1,p1,z1⟩:=I.list (sm.seq hl);obtain⟨kd,vd,kk,ed,ek,el⟩:=qF hp (vU fw);obtain⟨x,hx,ix⟩:=il.get (vU fw);rw[ed]at ix;cases ix with
  |@tup T xs _ hT hxs=>
   cases hxs with
   |cons ik r=>
    cases r with
    |cons iv r=>
     cases r
     rename_i xk xv;have YY:=q8 ik ek;subst YY;obtain⟨u,hu,ru⟩:=r1.get hx;cases (show u=Value.ref T from ru)
     refine codeAny_builtin uz ?_;rw[Around.under_plainId kU _];show wpAny _ A.in1 (pyNext (.ref it)>>=_) _ _ s;refine wX (wpAny_pyNext_list_item (A:=A.in1) st p1.isList (x:=.ref T) (by simpa using hu) λh' jh hs=>?_);have I1:=p8 (t':=s.toks) (h':=h') (ch:=[it]) I (λb hb=>by rw[uT hb];exact fp) λb o hb e=>hs.extBut b o (λq=>hb (by simp[q])) e;obtain⟨ps,r2,p2,z2⟩:=I1.tuple (bj sm hT);obtain⟨uk,uv,rfl,rk,rv⟩:=r2.two;have YZ:Shared.TypeIs { s with heap:=h' } (.ref T) "tuple":=by obtain⟨o,e,c,_⟩:=p2;exact⟨o,e,c⟩
     dsimp only;refine wX (wpAny_holding (wX (wpAny_tryCatch ?_)));unfold Builtin.Dict.pairItems;refine wX (wpAny_typeOf YZ ?_);obtain⟨oT,eT,cT,nT,dT⟩:=p2;rw[if_pos (by decide)];refine wX (wpAny_seqItems eT dT (wY ?_));show wpAny _ _ (holding [uk,uv] (dictSet d uk uv)) _ _ _;obtain⟨zz,U9,Za,sL,dd⟩:=o5 I1.hok (a:=d) aC;have Zb:Za.length<=sizeLine:=by rw[←sL.length];exact zz
     have nk:((bR (gP.take i)).1.zip vs).length<sizeLine:=by
      have a1:=(DS (gP.take i)).2;have a2:=z1;rw[List.length_take]at a1;rw[List.length_zip];omega
     refine wpAny_holding (wpAny_dictSet_pairs (hsz:=Zb) (tP rk) dd λh2 Oo Pw=>?_);have ED:(ml ((bR (gP.take i)).1.zip vs) kk xv).length<=sizeLine:=by have:=kq ((bR (gP.take i)).1.zip vs) kk xv;omega
     obtain⟨WD,Pn⟩:∃q,h2.get? d=some q:=let ⟨q,_,_,hq,_⟩:=Oo;⟨q,hq⟩;have I2:=wt (t':=s.toks+1) I1 (a:=d) (ob:=.dK (ml ((bR (gP.take i)).1.zip vs) kk xv) WD) (by rw[aC];exact True.intro) Pw ⟨_,Pn⟩ (Fi ED U9 (sL.put kk rv) Oo Pn);rw[Ic,pB hz]at I2;have et:gP.take (i+1)=gP.take i++[(kk,vd)]:=by rw[List.take_add_one,el];rfl
     have WE:(bR (gP.take (i+1))).1=dJ (bR (gP.take i)).1 kk:=by rw[et,qD];rfl
     have Zc:(bR (gP.take (i+1))).2=dL (bR (gP.take i)).1 (bR (gP.take i)).2 kk vd:=by rw[et,qD];rfl
     refine wY ⟨plainId_quiet kU _,?_⟩;refine ih (i+1) 0 _ Hc N (dL (bR (gP.take i)).1 vs kk xv) WD (by omega) fw (by rw[WE];exact I2) hc xt ?_ ?_ ?_ ?_
     ·obtain⟨f0,f1⟩:=fp;refine⟨?_,f1⟩;rw[aI nd.symm]at f0 ⊢;exact f0
     ·exact jh.at λo e=>(Pw.2 it nd.symm).trans e
     ·rw[WE];exact mG hz _ _
     ·rw[Zc];exact hv.put (iv.mono xt.bn)
end
@[simp] def gS:List D->OB
 |[.lst ds]=>(fY ds).map λgP=>(.dk (bR gP).1 (bR gP).2,false)
 |_=>none
theorem Gw:bootBuiltins "dict" = some (.type "dict"):=by decide +kernel
section
variable {X:Cx}
theorem Gx (US:X.calm=true):bV X (.type "dict") (D4 X.K gS):=by
 intro ae s σ H xs us Q I r h;obtain⟨B,dds,d0,bb,sB,i0,ee,q⟩:=h;cases i0 with
 |nil=>simp[gS]at ee
 |cons i1 i2=>
  cases i2 with
  |cons _ _=>cases i1<;>simp[gS]at ee
  |nil=>
   cases i1<;>try (simp[gS]at ee;done)
   rename_i l ws ds hl il;simp only[gS]at ee;obtain⟨gP,hp,ee⟩:=oY ee;cases ee
   obtain⟨u,rfl,rx⟩:=hV r;cases rx
   have hA:X.A.handled=none:=I.ok.hd US;refine callType_codes (Q₁:=λobj s₁=>obj=.ref s.heap.objs.size/\s₁={ s with heap:=s.heap.push { cls:=.type "dict",data:=.dict #[] } }) PySem.F.kt_called_dict (PySem.F.kt_typeCall_dict_1 _) PySem.F.entry_dict_init (kt_code_dict_new _ ⟨rfl,rfl⟩) ?_;rintro obj s₁ ⟨rfl,rfl⟩;have I1:Inv X ae σ (upd H s.heap.objs.size (.dK [] { cls:=.type "dict",data:=.dict #[] })) { s with heap:=s.heap.push { cls:=.type "dict",data:=.dict #[] } }:=I.laid (t':=s.toks) (λb o e=>vZ _ e) (vT _) (xN s.heap I.big);have WG:H s.heap.objs.size=none:=I.fresh;have hT:Shared.TypeIs { s with heap:=s.heap.push { cls:=.type "dict",data:=.dict #[] } } (.ref s.heap.objs.size) "dict":=⟨_,vY _ rfl,rfl⟩;refine⟨hT,PySem.F.args_dict_init_2 _ _,?_⟩;unfold Builtin.«dict.__init__»;refine wX ?_;unfold Builtin.Dict.selfAndRest;refine wX (wpAny_notOrdered_dict hT ?_);show wpAny _ _ (pure (s.heap.objs.size,[Value.ref l])) _ _ _;refine wY ?_;show wpAny _ _ (Builtin.Dict.updateFrom "dict.__init__" s.heap.objs.size (.ref l) [] .none) _ _ _;unfold Builtin.Dict.updateFrom;have sm:aX B (upd H s.heap.objs.size (.dK [] { cls:=.type "dict",data:=.dict #[] })):=sB.trans (qB WG);obtain⟨its,r1,p1,z1⟩:=I1.list (sm.seq hl);have pl:=p1.isList;obtain⟨ol,nl,SI,cl,WH,dl⟩:=p1;have Zd:Shared.TypeIs { s with heap:=s.heap.push { cls:=.type "dict",data:=.dict #[] } } (.ref l) "list":=⟨ol,SI,cl⟩;refine wX (wpAny_typeOf Zd ?_);rw[if_pos (by decide)];obtain⟨oc,od,oo,os⟩:=ol;simp only at cl WH dl;subst cl WH dl;refine wX (DR SI (by exact hA) λh' tk hk=>?_);dsimp only[Option.isNone_none];rw[if_pos rfl];have I2:Inv X ae σ (upd H s.heap.objs.size (.dK [] { cls:=.type "dict",data:=.dict #[] })) { s with heap:=h',toks:=tk }:=I1.kept (t':=tk) hk;refine wX (wpAny_rule ?_);refine wX (wpAny_pyIter_list (items:=its.toArray) ⟨_,hk _ _ SI,rfl,nl,rfl⟩ ?_);have I3:Inv X ae σ (upd H s.heap.objs.size (.dK [] { cls:=.type "dict",data:=.dict #[] })) { s with heap:=h'.push { cls:=.type "list_iterator",data:=.fields #[.ref l,.int 0 0] },toks:=tk }:=I2.kept (t':=tk) λb o e=>vZ _ e;have ld:s.heap.objs.size<h'.objs.size:=vX (hk _ _ (vY _ rfl));have ll:l<h'.objs.size:=vX (hk _ _ SI);refine wY ⟨plainId_quiet kU _,AW (A:=X.A.in1) (B:=B) (H0:=H) (l:=l) (d:=s.heap.objs.size) (it:=h'.objs.size) hA (vS ll) (vS ld) hl il hp (λHc N vs ob s' I' Ky xt hz hv=>?_) _ 0 0 _ H B [] _ rfl (uN _) I3 WG (Ext.refl sB) (I2.fpOk (vT _) (I2.hok.fresh (vT _))) ⟨_,vY _ rfl,rfl,rfl⟩ rfl .nil⟩;refine⟨rfl,.ref s.heap.objs.size,_,I',rfl,?_⟩;have x3:=xt.trans (Ext.laid (o:=.dK ((bR gP).1.zip vs) ob) xt.nh Ky);exact q _ _ _ x3 (.dk aC hz (hv.mono (Ext.laid (o:=.dK ((bR gP).1.zip vs) ob) xt.nh Ky).bn)) (by simp)
end
@[simp] noncomputable def VC:FE:=λ_=>none
@[simp] noncomputable def VD:FA:=λ_=>none
theorem NP (h:n+40<cLine):n+1<cLine:=by omega
@[simp] noncomputable def NQ:D->D->OB
 |.lst ds,.int k=>if 0<=k/\ds.length*k.toNat<=1000/\k<=1000 then some (.lst (List.replicate k.toNat ds).flatten,true)else none
 |_,_=>none
@[simp] def DT (fa fb:FE):FE:=λρ=>(fa ρ).bind λx=>if x.2=true then (fb ρ).bind λy=>NQ x.1 y.1 else none
theorem IsL.rep {K:Frag}{H:Hp}{vs:List V}{ds:List D}(h:IsL K H vs ds):∀k:Nat,IsL K H (List.replicate k vs).flatten (List.replicate k ds).flatten
 |0=>.nil
 |k+1=>by rw[List.replicate_succ,List.replicate_succ,List.flatten_cons,List.flatten_cons];exact h.append (IsL.rep h k)
section
variable {X:Cx}{a b:Expr}{pos:Pos}
theorem Gy {fa fb:FE}(ha:JE X a fa)(hb:JE X b fb):JE X (.BinOp a .Mult b pos) (DT fa fb):=by
 refine PE.to (KP MW ha hb) λσ H Q q=>?_;obtain⟨B,ρ,d,bb,sB,r,ee,q⟩:=q;obtain⟨x,ex,ee⟩:=oX ee;split at ee
 ·rename_i hx;obtain⟨⟨yd,yb⟩,ey,ee⟩:=oX ee;refine⟨B,ρ,x.1,x.2,sB,r,ex,λv H1 N1 x1 i1 fr=>⟨N1,ρ,yd,yb,x1.nh,r.mono x1.bn,ey,λu H2 N2 x2 i2 R8=>?_⟩⟩;obtain⟨a0,vs,ds,rfl,e1,h0,h1,il⟩:=fr hx;rw[e1]at ee;clear R8;cases i2<;>try (simp[NQ]at ee;done)
  rename_i k;simp only[NQ]at ee;split at ee
  ·rename_i hk;cases ee
   have hl:=il.length;refine⟨a0,k,vs,rfl,rfl,x2.nh _ _ (x2.bn _ _ h1),by omega,by omega,by rw[hl];exact vR hk.2.1 (by decide:(1000:Nat)<=sizeLine),λp hp=>?_⟩;have x3:=Ext.laid (o:=.lst (List.replicate k.toNat vs).flatten) x2.nh hp;have WI:=((il.mono x2.bn).mono x3.bn).rep k.toNat;exact q _ _ _ ((x1.trans x2).trans x3) (.lst (hU.of aC) WI) λ_=>⟨_,_,_,rfl,rfl,(x1.trans x2).hh.free hp,aC,WI⟩
  ·cases ee
 ·cases ee
end
def iP:List D->Option (List cx)
 |[]=>some []
 |d::ds=>(jW d).bind λk=>(iP ds).map (k :: ·)
theorem AX {K:Frag}{B:Hp}:∀ {vs:List V}{ds:List D}{ks:List cx},IsL K B vs ds->iP ds=some ks->vs=ks.map kV
 |_,_,ks,.nil,e=>by simp[iP]at e;subst e;rfl
 |_,_,ks,.cons i is,e=>by
  simp only[iP]at e;obtain⟨k,h1,e⟩:=oX e;obtain⟨r,h2,rfl⟩:=oY e;rw[q8 i h1,AX is h2];rfl
@[simp] def Gz (fo:FE)(fa:FA):FE:=λρ=>(fo ρ).bind λx=>(fa ρ).bind λds=>match x.1 with
 |.dt kss vs=>if ds.length<=sizeLine then (iP ds).map λk=>((c6 kss vs k).getD .non,false)else none
 |_=>none
section
variable {X:Cx}{o:Expr}{es:List Expr}{pos:Pos}
theorem G0 {dI cH E6:Pos}{x1:Nat}{fo:FE}{fa:FA}(hu:X.A.units+1<cLine)(ho:JE X o fo)(ha:JA X es fa)(m:M1 X o "get" dI (.Tuple es x1 E6) cH):JE X (.Call (.Attribute o "get" dI) [.Tuple es x1 E6] [] cH) (Gz fo fa):=by
 refine PE.to (xO hu ho (Ap ha) m) λσ H Q q=>?_;obtain⟨B,ρ,d,bb,sB,r,ee,q⟩:=q;obtain⟨x,ex,ee⟩:=oX ee;obtain⟨ds,ey,ee⟩:=oX ee;refine⟨B,ρ,x.1,x.2,sB,r,ex,λv H1 N1 x1 i1 ff=>?_⟩;obtain⟨xd,xb⟩:=x;cases i1 with
 |@dt a ks vs E7 h hl hs=>
  simp only at ee;split at ee
  ·rename_i hz;obtain⟨k,hk,ee⟩:=oY ee;cases ee
   refine⟨a,rfl,.inr ⟨_,.inl (x1.nh _ _ h)⟩,N1,ρ,ds,x1.nh,r.mono x1.bn,ey,λus H2 N2 x2 i2=>?_⟩;have hv:=AX i2 hk;have Ze:us.length<=sizeLine:=by rw[i2.length];exact hz
   refine⟨Ze,λp hp=>?_⟩;have x3:=Ext.laid (o:=.tup us) x2.nh hp;have Zf:N2 a=some (.dT (ks.zip vs)):=x2.bn _ _ h;refine⟨jZ (ks.zip vs) k,.inr ⟨_,k,p,.inl (x3.nh _ _ (x3.bn _ _ Zf)),rfl,by rw[aC,hv],rfl⟩,?_⟩;have Pw:=(hs.mono x2.bn).mono x3.bn;rcases wT k hl Pw with⟨v,d',e1,e2,i3⟩|⟨e1,e2⟩
   ·rw[e1];rw[e2]at q;exact(q.into ((x1.trans x2).trans x3)).one x3.nh i3
   ·rw[e1];rw[e2]at q;exact(q.into ((x1.trans x2).trans x3)).one x3.nh .non
  ·cases ee
 |_=>simp at ee
end
section
variable {K:Frag}{E:Ends}{σ:St}{H:Hp}
def u0 (i:Nat)(fk:FA)(fv:FE):FS:=λρ=>match ρ[i]? with
 |some (some (.dt ks vs,true))=>(fv ρ).bind λv=>(fk ρ).bind λkd=>(iP kd).bind λkk=>if bi v.1=true/\ks.length<sizeLine/\kd.length<=sizeLine then some (.nx (ρ.set i (some (.dt (dJ ks kk) (dL ks vs kk v.1),true))))else none
 |_=>none
theorem G1 {i:Nat}{fk:FA}{fv:FE}(q:o6 K (u0 i fk fv) E σ H):BF (EU i) (Qf (OQ K fk)) (tD K fv) E σ H:=by
 obtain⟨B0,H0,ρ,r,⟨N,s⟩,e,p⟩:=q;unfold u0 at e;split at e
 ·rename_i ks ds ei;obtain⟨v,ev,e⟩:=oX e;obtain⟨kd,ek,e⟩:=oX e;obtain⟨kk,hk,e⟩:=oX e;split at e
  ·rename_i hx;cases e
   refine⟨N,ρ,v.1,v.2,s.ext.nh,s.rep,ev,λv1 H1 N1 x1 i1 _=>?_⟩;have s1:=s.grow x1;obtain⟨a,o,h1,h2,h3,h4⟩:=s1.ow i _ ei;refine⟨.ref a,h1,N1,ρ,kd,s1.ext.nh,s1.rep,ek,λus H2 N2 x2 i2=>?_⟩;have s2:=s1.grow x2;have hv:=AX i2 hk;refine⟨by rw[i2.length];exact hx.2.2,λpp hp=>?_⟩;have x3:=Ext.laid (o:=.tup us) s2.ext.nh hp;have s3:=s2.grow x3;obtain⟨a',o',k1,k2,k3,k4⟩:=s3.ow i _ ei;rw[h1]at k1;cases k1
   cases k4 with
   |@dt ks vs ds hl h5=>
    refine⟨a,rfl,.inr ⟨_,kk,pp,s3.ext.nh _ _ k2,rfl,by rw[aC,hv],?_,?_⟩⟩
    ·rw[List.length_zip];omega
    ·rw[pB hl];exact p σ _ ⟨_,s3.writeB ei h1 (.dt (mG hl _ _) (h5.put (s3.flat ((i1.mono x2.bn).mono x3.bn) hx.1)))⟩
  ·cases e
 ·cases e
end
section
variable {X:Cx}{pos:Pos}{e:Expr}{es:List Expr}
theorem J8 (hu:X.A.units+1<cLine)(hv:JE X e fv)(hk:JA X es fk)(hN:X.N[i]? = some y:=by rfl)(B7:ET X.env.scope y:=by first|exact Or.inl rfl|exact Or.inr (Or.inl rfl)|exact Or.inr (Or.inr rfl))(hd:(y == ("__debug__" : Str))=false:=by decide)
  (j9:(y == ("__classdict__" : Str))=false:=by decide) (hs:swapsWith e (some (.Subscript (.Name y py) (.Tuple es x1 E6) pt)) pos.line X.env=pure false:=by rfl):JS X (.Assign [.Subscript (.Name y py) (.Tuple es x1 E6) pt] e pos) (u0 i fk fv) :=
 PS.to (wu hu (lG hN B7 hd j9) (Ap hk) hv hs) λ_ _ _ q=>G1 q
end
end DL
namespace DL
open PySem PySem.Spec PySem.W PyProof.Rows L2
section
variable {X:Cx}{a b c:Expr}{p pos:Pos}
noncomputable def NR (lo c:Int)(n:Nat):List D:=(List.range n).map λ(k:Nat)=>.int (lo+(k:Int)*c)
@[simp] def Su (f g h:FE):FA:=λρ=>(f ρ).bind λx=>(g ρ).bind λy=>(h ρ).bind λz=>match x.1,y.1,z.1 with
 |.int i,.int j,.int c=>if(-1000<=i/\i<=1000/\-1000<=j/\j<=1000)/\(c=1∨c=2∨c=3)then some (NR i c (Builtin.Range.rangeSize i j c).toNat)else none
 |_,_,_=>none
end
end DL
namespace L2
open PySem PySem.Spec PyProof.Rows
noncomputable def T9 (a:Addr)(aH:List (cx×V))(ob:Obj):It:=⟨λi H=>H a=some (.dK aH ob)/\i<aH.length,λi H x H'=>H'=H/\∃k v,aH[i]? = some (k,v)/\x=kV k,λi H=>H a=some (.dK aH ob)/\aH.length<=i⟩
noncomputable def TB (a:Addr)(aH:List (cx×V))(ob:Obj):It:=⟨λi H=>H a=some (.dK aH ob)/\i<aH.length,λi H x H'=>H'=H/\∃k,aH[i]? = some (k,x),λi H=>H a=some (.dK aH ob)/\aH.length<=i⟩
theorem KV.get {aH:List (cx×V)}{vs:List (cx×Value)}(r:KV aH vs){i:Nat}{k:cx}{x:V}(h:aH[i]? = some (k,x)):∃u,vs[i]? = some (k,u)/\ba x u:=by
 unfold KV at r;induction r generalizing i with
 |nil=>simp at h
 |@cons p q ps qs hq t ih=>
  cases i with
  |zero=>
   cases (show p=(k,x)from vK h)
   obtain⟨q1,q2⟩:=q;exact⟨q2,by rw[show k=q1 from hq.1];rfl,hq.2⟩
  |succ i=>exact ih h
theorem LB (h:(cq P w).is k u=true):ba (kV k) u:=by
 cases k with
 |inl i=>exact Value.isInt_shape h
 |inr z=>exact Value.isStrOf_shape h
section
variable {P:Program}{w:World}{H:Hp}{h:Heap}{a:Addr}
theorem lz (ok:lh P w H h)(e:H a=some (.dK aH ob))(hd:ob.data=.dict es ep):∃vs,KV aH vs/\h.DictAt (cq P w) a vs ep:=by
 obtain⟨_,_,vs,r,o,EM,Pf,h1,h2,h3,h4⟩:=o5 ok e;rw[Ay ok e]at h1;cases h1
 rw[hd]at h3;cases h3
 exact⟨vs,r,ob,es,Ay ok e,h2,hd,h4⟩
theorem pC (ok:lh P w H h)(e:H a=some (.dK aH ob)):∃es ep,ob.data=.dict es ep:=by
 obtain⟨_,_,vs,r,o,EM,Pf,h1,h2,h3,h4⟩:=o5 ok e;rw[Ay ok e]at h1;cases h1
 exact⟨EM,Pf,h3⟩
end
theorem DU {P:Program}{w:World}{K:Frag}{tg:Expr}(a it:Addr)(aH:List (cx×V))(ob:Obj){es:Array DictEntry}{ep:Nat}(hd:ob.data=.dict es ep):Turn P w K tg (TB a aH ob) [it] it (λi h=>h.IsValIter it a i aH.length ep) where
 mem:=by simp
 obj:=λi h st b hb=>by
  have e:b=it:=by simpa using hb
  subst e;obtain⟨o,e,c,d⟩:=st;exact⟨o,e,λv z=>by rw[d]at z;cases z⟩
 keep:=λi h h' st k=>st.at λo e=>k it (by simp) o e
 item:=by
  intro X hP hw hK hc i ae s σ H E I hf st hg;subst hP hw hK;obtain⟨hH,fw⟩:=hg;obtain⟨vs,r,m⟩:=lz I.hok hH hd;obtain⟨f0,f1,f2,f3,f4,f5⟩:=hf it (by simp);have hl:vs.length=aH.length:=(Paired.length r).symm;obtain⟨u,hu,ru⟩:=r.get (k:=aH[i].1) (x:=aH[i].2) (vU fw);refine wpAny_pyNext_values_item (by rw[hl];exact st) m hu λh' jh sb=>?_;rw[hl]at jh;have I1:Inv X ae σ H { s with heap:=h' }:=I.turned (t':=s.toks) (λb o hb e=>(sb.2 b hb).trans e) f0 f1 f3 f4 f5;obtain⟨o,e,c,d⟩:=id jh;exact⟨u,rfl,pN (s:={ s with heap:=h' }) e c d (by decide) ⟨aH[i].2,H,I1,ru,⟨rfl,aH[i].1,vU fw⟩,jh,λb hb=>(hf b hb).1⟩⟩
 done:=by
  intro X hP hw hK hc i ae s σ H E I hf st hg;subst hP hw hK;obtain⟨hH,HY⟩:=hg;obtain⟨vs,r,m⟩:=lz I.hok hH hd;obtain⟨f0,f1,f2,f3,f4,f5⟩:=hf it (by simp);have hl:vs.length=aH.length:=(Paired.length r).symm;exact wpAny_pyNext_values_end (I.ok.hd hc) (by rw[hl];exact st) m (List.getElem?_eq_none (by omega)) λh' eb=>⟨rfl,I.turned (t':=s.toks) (λb o hb e=>eb b o hb e) f0 f1 f3 f4 f5⟩
 self:=λ_ _ _ _ _ st h=>wpAny_pyIter_valiter st h
theorem DV {P:Program}{w:World}{K:Frag}{tg:Expr}(a it:Addr)(aH:List (cx×V))(ob:Obj){es:Array DictEntry}{ep:Nat}(hd:ob.data=.dict es ep):Turn P w K tg (T9 a aH ob) [it] it (λi h=>h.IsKeyIter it a i aH.length ep) where
 mem:=by simp
 obj:=λi h st b hb=>by
  have e:b=it:=by simpa using hb
  subst e;obtain⟨o,e,c,d⟩:=st;exact⟨o,e,λv z=>by rw[d]at z;cases z⟩
 keep:=λi h h' st k=>st.at λo e=>k it (by simp) o e
 item:=by
  intro X hP hw hK hc i ae s σ H E I hf st hg;subst hP hw hK;obtain⟨hH,fw⟩:=hg;obtain⟨vs,r,m⟩:=lz I.hok hH hd;obtain⟨f0,f1,f2,f3,f4,f5⟩:=hf it (by simp);have hl:vs.length=aH.length:=(Paired.length r).symm;obtain⟨u,hu,ru⟩:=r.get (k:=aH[i].1) (x:=aH[i].2) (vU fw);refine wpAny_pyNext_dict_item (by rw[hl];exact st) m hu λkey h' zR jh sb=>?_;rw[hl]at jh;have I1:Inv X ae σ H { s with heap:=h' }:=I.turned (t':=s.toks) (λb o hb e=>(sb.2 b hb).trans e) f0 f1 f3 f4 f5;obtain⟨o,e,c,d⟩:=id jh;exact⟨key,rfl,pN (s:={ s with heap:=h' }) e c d (by decide) ⟨kV aH[i].1,H,I1,LB zR,⟨rfl,aH[i].1,aH[i].2,vU fw,rfl⟩,jh,λb hb=>(hf b hb).1⟩⟩
 done:=by
  intro X hP hw hK hc i ae s σ H E I hf st hg;subst hP hw hK;obtain⟨hH,HY⟩:=hg;obtain⟨vs,r,m⟩:=lz I.hok hH hd;obtain⟨f0,f1,f2,f3,f4,f5⟩:=hf it (by simp);have hl:vs.length=aH.length:=(Paired.length r).symm;exact wpAny_pyNext_dict_end (I.ok.hd hc) (by rw[hl];exact st) m (List.getElem?_eq_none (by omega)) λh' eb=>⟨rfl,I.turned (t':=s.toks) (λb o hb e=>eb b o hb e) f0 f1 f3 f4 f5⟩
 self:=λ_ _ _ _ _ st h=>wpAny_pyIter_keyiter st h
section
variable {X:Cx}{tg:Expr}
def QL (td:TE):TI:=λσ H R=>td σ H λx H1=>∃a aH ob,x=.ref a/\H1 a=some (.dK aH ob)/\R (T9 a aH ob) H1
theorem J9 {o:Expr}{td:TE}(ho:PE X o td):PI X tg o (QL td):=by
 intro ae s σ H R I h;refine cE (ho ae s σ H _ I h) λv s1 ⟨x,H1,I1,r1,a,aH,ob,ex,hH,q⟩=>?_;subst ex;cases r1
 obtain⟨es,ep,hd⟩:=pC I1.hok hH;obtain⟨vs,r,m⟩:=lz I1.hok hH hd;have hl:vs.length=aH.length:=(Paired.length r).symm;refine wpAny_pyIter_dict (o5 I1.hok hH).2.1 m ?_;rw[hl];refine⟨s1.heap.objs.size,[s1.heap.objs.size],_,_,H1,rfl,I1.kept (t':=s1.toks) λb o e=>vZ _ e,DV a _ aH ob hd,⟨_,vY _ rfl,rfl,rfl⟩,λb hb=>?_,q⟩;have e:b=s1.heap.objs.size:=by simpa using hb
 subst e;exact I1.fpOk (vT _) (I1.hok.fresh (vT _))
def QM (td:TE):TI:=λσ H R=>td σ H λx H1=>∃a aH ob,x=.ref a/\H1 a=some (.dK aH ob)/\R (TB a aH ob) H1
theorem JB {o:Expr}{td:TE}{dI cH:Pos}(ho:PE X o td)(iG:attributeBase o "values" X.env (eval o X.env)=eval o X.env:=by rfl)(iH:(dI.endLine == cH.line)=true:=by rfl):PI X tg (.Call (.Attribute o "values" dI) [] [] cH) (QM td):=by
 intro ae s σ H R I h;refine wpAny_Call_method0_late iG iH (cE (ho ae s σ H _ I h) λv s1 ⟨x,H1,I1,r1,a,aH,ob,ex,hH,q⟩=>?_);subst ex;obtain⟨h1,h2⟩:=Ax I1 r1 (T:="dict") (.inr (.inr (.inl ⟨rfl,.inl ⟨aH,ob,hH⟩⟩)));cases r1
 obtain⟨es,ep,hd⟩:=pC I1.hok hH;obtain⟨vs,r,m⟩:=lz I1.hok hH hd;have hl:vs.length=aH.length:=(Paired.length r).symm;refine⟨"dict","dict.values",PySem.F.plainAttrs_dict,PySem.F.slot_dict_values,PySem.F.type_dict_values,h1,h2,Calls.callWith_builtin rfl (PySem.evalArgs_none ?_)⟩;refine call_meetsIn PySem.F.slot_dict_values h1 PySem.F.entry_dict_values (PySem.F.args_dict_values_1 _) (meets_dict_values (cq X.prog X.w) a (o5 I1.hok hH).2.1) ⟨⟨vs,m.dictOf⟩,?_⟩;have I2:Inv X ae σ H1 { s1 with heap:=s1.heap.push { cls:=.type "dict_values",data:=.fields #[.ref a] } }:=I1.kept (t':=s1.toks) λb o e=>vZ _ e;refine wpAny_pyIter_values (v:=s1.heap.objs.size) ⟨_,vY _ rfl,rfl,rfl⟩ (m.keep λb o e=>vZ _ e) ?_;rw[hl];refine⟨(s1.heap.push { cls:=.type "dict_values",data:=.fields #[.ref a] }).objs.size,[(s1.heap.push { cls:=.type "dict_values",data:=.fields #[.ref a] }).objs.size],_,_,H1,rfl,I2.kept (t':=s1.toks) λb o e=>vZ _ e,DU a _ aH ob hd,⟨_,vY _ rfl,rfl,rfl⟩,λb hb=>?_,q⟩;have e:b=(s1.heap.push { cls:=.type "dict_values",data:=.fields #[.ref a] }).objs.size:=by simpa using hb
 subst e;exact I2.fpOk (vT _) (I2.hok.fresh (vT _))
end
end L2
namespace DL
open PySem PySem.Spec PySem.W PyProof.Rows L2
noncomputable def kD:cx->D
 |.inl i=>.int i
 |.inr z=>.str z
theorem LC {K:Frag}{B:Hp}(k:cx):Is K B (kV k) (kD k):=by
 cases k with
 |inl i=>exact .int i
 |inr z=>exact .str z
section
variable {K:Frag}{B:Hp}
theorem JD {a:Addr}{ks:List cx}{vs:List V}{ds:List D}{ob:Obj}(h:B a=some (.dK (ks.zip vs) ob))(hl:ks.length=vs.length)(hs:IsL K B vs ds):nD K (TB a (ks.zip vs) ob) B ds:=by
 intro i H s;have hz:(ks.zip vs).length=vs.length:=by rw[List.length_zip];omega
 refine⟨λd ed=>?_,λbB=>⟨s _ _ h,by rw[hz,hs.length];exact bB⟩⟩;obtain⟨v,ev,iv⟩:=hs.get ed;have fw:i<vs.length:=(vV ev).1;refine⟨⟨s _ _ h,by rw[hz];exact fw⟩,λy H3 hy=>?_⟩;obtain⟨rfl,k,e⟩:=hy;have:=(List.getElem?_zip_eq_some.mp e).2;rw[ev]at this;cases this
 exact⟨B,.refl s,iv⟩
theorem JF {a:Addr}{ks:List cx}{vs:List V}{ob:Obj}(h:B a=some (.dK (ks.zip vs) ob))(hl:ks.length=vs.length):nD K (T9 a (ks.zip vs) ob) B (ks.map kD):=by
 intro i H s;have hz:(ks.zip vs).length=ks.length:=by rw[List.length_zip];omega
 refine⟨λd ed=>?_,λbB=>⟨s _ _ h,by rw[hz];rw[vI]at bB;exact bB⟩⟩;rw[vA]at ed;obtain⟨k0,ek,rfl⟩:=oY ed;have fw:i<ks.length:=(vV ek).1;refine⟨⟨s _ _ h,by rw[hz];exact fw⟩,λy H3 hy=>?_⟩;obtain⟨rfl,k,v,e,rfl⟩:=hy;have:=(List.getElem?_zip_eq_some.mp e).1;rw[ek]at this;cases this
 exact⟨B,.refl s,LC _⟩
end
section
variable {X:Cx}{e:Expr}{tg:Expr}
@[simp] noncomputable def qG (f:FE):FA:=λρ=>(f ρ).bind λx=>match x.1 with|.dk _ ds=>some ds|_=>none
@[simp] noncomputable def AY (f:FE):FA:=λρ=>(f ρ).bind λx=>match x.1 with|.dk ks _=>some (ks.map kD)|_=>none
theorem Cr (h:JE X e f)(iG:attributeBase e "values" X.env (eval e X.env)=eval e X.env:=by rfl)(iH:(dI.endLine == cH.line)=true:=by rfl):JI X tg (.Call (.Attribute e "values" dI) [] [] cH) (qG f):=by
 intro ae s σ H R I q;obtain⟨B,ρ,ds,sB,r,e',q⟩:=q;obtain⟨⟨xd,xb⟩,ex,es⟩:=oX e';cases xd<;>try (cases es;done)
 cases es
 refine JB h iG iH ae s σ H R I ⟨B,ρ,_,_,sB,r,ex,λv H1 N1 x1 i1 _=>?_⟩;cases i1 with
 |@dk a ks vs ds ob hd hl hs=>exact⟨a,_,ob,rfl,x1.nh _ _ hd,q _ H1 N1 x1 (JD hd hl hs)⟩
theorem JG {f:FE}(h:JE X e f):JI X tg e (AY f):=by
 intro ae s σ H R I q;obtain⟨B,ρ,ds,sB,r,e',q⟩:=q;obtain⟨⟨xd,xb⟩,ex,es⟩:=oX e';cases xd<;>try (cases es;done)
 cases es
 refine J9 h ae s σ H R I ⟨B,ρ,_,_,sB,r,ex,λv H1 N1 x1 i1 _=>?_⟩;cases i1 with
 |@dk a ks vs ds ob hd hl hs=>exact⟨a,_,ob,rfl,x1.nh _ _ hd,q _ H1 N1 x1 (JF hd hl)⟩
end
end DL
namespace DL
open PySem PySem.Spec PyProof.Rows L2
@[simp] abbrev eY (i:Nat)(j:Int):FE:=f2 bG (ai i) (fC (.int j))
theorem bg (F:Fn X.prog X.w X.K X.mg X.base k x f)(hr:eP j X.A)(ha:JA X (e::es) fa)(hj:k<=j:=by decide)(hg:Gl X x:=by rfl)(t9:(x == ("__debug__" : Str))=false:=by decide)(he:starEach (e::es) X.env=(false,eval e X.env)::starEach es X.env:=by rfl)(lE:(backTo pos (starEach es X.env)).any (·.1)=false:=by rfl):JE X (.Call (.Name x p) (e::es) [] pos) (fA f fa):=BH F (hr.mono hj) ha hg t9 he lE
theorem QN (h1:∀y∈scope.names,y.2≠.cell:=by decide +kernel)(h2:scope.kind=.function:=by rfl)(h3:∀y∈scope.names,y.2=.local->scope.names.lookup y.1=some .local:=by decide +kernel)(Pl:(scope.names.all λy=>!(y.2 == NameKind.free) || (X.env.cells.lookup y.1).isSome)=true:=by rfl):CompSc X scope (dP scope.names X.env.cells []):=Nh h1 h2 h3 Pl
theorem VE (h1:N'[j]? = some x)(h2:X.N[i]? = some x)(t:np X N' scope (dP scope.names X.env.cells []) (j+1) r)(h3:X.env.kindOf x=some .cell∨X.env.kindOf x=some .free:=by exact Or.inl rfl)(h4:(relabel scope X.env).names.lookup x=some .cell∨(relabel scope X.env).names.lookup x=some .free:=by exact Or.inl rfl)(hf:(x,NameKind.free)∈scope.names:=by decide +kernel)(hc:(X.env.cells.lookup x).isSome=true:=by rfl):np X N' scope (dP scope.names X.env.cells []) j (i::r):=.cons h1 h2 h3 h4 (p7 hf hc) t
end DL
namespace DL
open PySem PySem.Spec PySem.W PyProof.Rows L2
noncomputable def nQ:At->D
 |.i n=>.int n
 |.s z=>.str z
section
variable {prog:Program}{w:World}{A:Around}{E:Value->Shared->Prop}{s:Shared}
theorem QO (hx:Ac x u)(hy:Ac y v):SeqAt.EqAt A s u v (bz (nQ x) (nQ y)):=by
 cases x with
 |i a=>
  obtain⟨t,rfl⟩:=hx;cases y with
  |i c=>obtain⟨t',rfl⟩:=hy;simp only[nQ,bz];exact SeqAt.EqAt.int_int _ _ _ _
  |s c=>obtain⟨t',rfl⟩:=hy;simp only[nQ,bz];exact SeqAt.EqAt.int_str _ _ _ _
 |s a=>
  obtain⟨t,rfl⟩:=hx;cases y with
  |i c=>obtain⟨t',rfl⟩:=hy;simp only[nQ,bz];exact SeqAt.EqAt.str_int _ _ _ _
  |s c=>obtain⟨t',rfl⟩:=hy;simp only[nQ,bz];exact SeqAt.EqAt.str_str _ _ _ _
theorem Cs:∀ {xs ys:List At}{vs:List Value},Paired Ac xs vs->Paired Ac ys vs->xs=ys
 |_,_,_,.nil,.nil=>rfl
 |x::xs,y::ys,_,.cons p ps,.cons q qs=>by
  rw[Cs ps qs];congr 1;cases x with
  |i a=>
   obtain⟨t,rfl⟩:=p;cases y with
   |i c=>obtain⟨t',e⟩:=q;cases e;rfl
   |s c=>obtain⟨t',e⟩:=q;cases e
  |s a=>
   obtain⟨t,rfl⟩:=p;cases y with
   |i c=>obtain⟨t',e⟩:=q;cases e
   |s c=>obtain⟨t',e⟩:=q;cases e;rfl
theorem NS (x y:At):bz (nQ x) (nQ y)=true↔x=y:=by
 cases x<;>cases y<;>simp[nQ]
theorem pE:∀xs ys:List At,dn (xs.map nQ) (ys.map nQ)=true↔xs=ys
 |[],[]=>by simp[dn]
 |[],_::_=>by simp[dn]
 |_::_,[]=>by simp[dn]
 |x::xs,y::ys=>by
  rw[uY,uY,dn,vC,NS,pE xs ys];simp
theorem NT (hx:fz s.heap xs x)(hy:fz s.heap ys y)(hu:A.units<cLine):SeqAt.EqAt A s x y (dn (xs.map nQ) (ys.map nQ)):=by
 obtain⟨a,o,its,n,rfl,ho,hc,hd,r⟩:=hx;obtain⟨b,o',gJ,m,rfl,t6,Ky,B3,r'⟩:=hy;by_cases hab:a=b
 ·subst hab;rw[ho]at t6;cases t6;rw[hd]at B3;cases B3;rw[Cs r r',(pE ys ys).mpr rfl];exact SeqAt.EqAt.same _
 ·have t1:s.heap.IsTuple a its:=⟨o,ho,hc,n,hd⟩;have t2:s.heap.IsTuple b gJ:=⟨o',t6,Ky,m,B3⟩;have l1:xs.length=its.size:=by rw[←vG];exact eW r
  have l2:ys.length=gJ.size:=by rw[←vG];exact eW r'
  have he:∀j (h1:j<its.size) (h2:j<gJ.size),SeqAt.EqAt A.in1 s its[j] gJ[j] (bz ((xs.map nQ).getD j .non) ((ys.map nQ).getD j .non)):=λj h1 h2=>by
   have p:=eX (.i 0) Value.none r (i:=j) (by omega);have q:=eX (.i 0) Value.none r' (i:=j) (by omega);have e1:its.toList.getD j Value.none=its[j]:=by rw[vF,Array.getElem?_toList,Array.getElem?_eq_getElem h1];rfl
   have e2:gJ.toList.getD j Value.none=gJ[j]:=by rw[vF,Array.getElem?_toList,Array.getElem?_eq_getElem h2];rfl
   rw[e1]at p;rw[e2]at q;have e3:(xs.map nQ).getD j .non=nQ (xs.getD j (.i 0)):=by simp[vF,show j<xs.length by omega]
   have e4:(ys.map nQ).getD j .non=nQ (ys.getD j (.i 0)):=by simp[vF,show j<ys.length by omega]
   rw[e3,e4];exact QO p q
  have rc:=SeqAt.RcAt.tuples t1 t2 hu he;have R1:((List.range (min its.size gJ.size)).all (λj=>bz ((xs.map nQ).getD j .non) ((ys.map nQ).getD j .non)) && its.size == gJ.size)=dn (xs.map nQ) (ys.map nQ):=by
   rw[←l1,←l2];by_cases hl:xs.length=ys.length
   ·rw[←hl,Nat.min_self,beq_self_eq_true,Bool.and_true];have:=jC (λj=>bz ((xs.map nQ).getD j .non) ((ys.map nQ).getD j .non)) (xs:=xs.map nQ) (ys:=ys.map nQ) (by simpa using hl) λj x y e1 e2=>w6 j x y e1 e2;rwa [vI]at this
   ·rw[w4 (by simpa using hl),beq_eq_false_iff_ne.mpr hl,Bool.and_false]
  rw[R1]at rc;exact SeqAt.EqAt.of_refs hab rc
theorem DW (xs:List At):be xs xs=some false:=by
 induction xs with
 |nil=>rfl
 |cons x xs ih=>cases x<;>rw[be,if_pos rfl,ih]
theorem G2 (hx:fz s.heap xs x)(hy:fz s.heap ys y)(h:be (.i n::xs) (.i m::ys)=some b)(hu:A.units<cLine)(q:Q b s)(hn:Ac (.i n) u)(hm:Ac (.i m) v):KatLex prog w A true false Q [(u,v),(x,y)] 0 s:=by
 obtain⟨t,rfl⟩:=hn;obtain⟨t',rfl⟩:=hm;refine kat_cons (wpAny_eqBool_int ?_);rw[be]at h;by_cases e:n=m
 ·rw[if_pos e]at h;rw[show(n == m)=true by simp[e]];refine kat_yes (kat_cons (NT hx hy hu _ _ _ _ ?_));by_cases e2:xs=ys
  ·rw[(pE xs ys).mpr e2];rw[e2,DW]at h;cases h
   exact kat_yes (kat_nil q)
  ·rw[Bool.eq_false_iff.mpr λz=>e2 ((pE xs ys).mp z)];refine kat_no (kat_one _ _ ?_);show wpAny _ _ (richCompare .Lt x y) _ _ _;exact Gm (Q:=W.BoolBack Q) hx hy h hu (by first|exact q|exact⟨b,rfl,q⟩)
 ·rw[if_neg e]at h;cases h
  rw[show(n == m)=false by simp[e]];exact kat_no (oneLt_int q)
end
def DX (h:Heap)(xs:List At)(v:Value):Prop:=∃n k a o its m u x,xs=.i n::k/\v=.ref a/\h.get? a=some o/\o.cls=.type "tuple"/\o.data=.seq its m/\its.toList=[u,x]/\Ac (.i n) u/\fz h k x
section
variable {prog:Program}{w:World}{A:Around}{E:Value->Shared->Prop}{s:Shared}
theorem JH (hx:DX s.heap xs x)(hy:DX s.heap ys y)(h:be xs ys=some b)(hu:A.units<cLine)(q:Q b s):wpAny (model prog w) A (keyLt' (tuples' true) x y) Q E s:=by
 obtain⟨n,k,a,o,its,m,u,x',rfl,rfl,ho,_,hd,ei,an,tx⟩:=hx;obtain⟨n',k',a',o',its',m',u',y',rfl,rfl,t6,_,B3,WJ,Zg,ty⟩:=hy;refine kat_lt ho hd t6 B3 ?_;rw[ei,WJ];have hf:decide (its.size<its'.size)=false:=by
  rw[←vG,←vG,ei,WJ];rfl
 rw[hf];exact G2 tx ty h hu q an Zg
theorem oD:∀ {ks:List (List At)}{vs:List Value},Paired (DX h) ks vs->∃fs,KatTups h vs fs/\fs.length=ks.length/\∀v∈fs,∃n,Ac (.i n) v
 |_,_,.nil=>⟨[],trivial,rfl,by simp⟩
 |k::ks,_,.cons x t=>by
  obtain⟨fs,h1,h2,h3⟩:=oD t;obtain⟨n,k,a,o,its,m,u,x',rfl,rfl,ho,hc,hd,ei,an,_⟩:=x;refine⟨u::fs,KatTups.cons ho hc hd (by rw[←Array.getElem?_toList,ei];rfl) h1,by simp[h2],λv hv=>?_⟩;rcases vP hv with rfl|hv
  ·exact⟨n,an⟩
  ·exact h3 v hv
theorem DY (hp:Paired (DX s.heap) ks vs)(hn:0<ks.length)(q:Q (tuples' true) s):wpAny (model prog w) A (keyKind' vs.toArray) Q E s:=by
 obtain⟨fs,h1,h2,h3⟩:=oD hp;refine kat_kind (T:=.type "int") h1 (by omega) (λv hv=>?_) (by decide) q;obtain⟨n,t,rfl⟩:=h3 v hv;exact .now
theorem G3 (hc:di ks=true)(hu:A.units<cLine)(hp:Paired (DX s.heap) ks vs):∀(i j:Nat)(C:Bool->Shared->Prop)(s1:Shared),i<ks.length->j<ks.length->s1=s->(∀s',s'=s->C (ql (Ad ks) i j) s')->kas_ask prog w A (tuples' true) vs i j C s1:=by
 intro i j C s1 hi hj e hC;subst e;unfold kas_ask;have mi:ks.getD i []∈ks:=by rw[vF,vU hi];exact List.getElem_mem hi
 have mj:ks.getD j []∈ks:=by rw[vF,vU hj];exact List.getElem_mem hj
 refine JH (eX [] Value.none hp hi) (eX [] Value.none hp hj) (gX hc mi mj) hu ?_;have:=hC s1 rfl;unfold ql Ad at this;rw[yE (uS ⟨_,mi,rfl⟩)]at this;exact this
end
def NU:D->Option (List At)
 |.tup [.int n,.tup es]=>(cW es).map (.i n :: ·)
 |_=>none
def ju:List D->Option (List (List At))
 |[]=>some []
 |d::ds=>(NU d).bind λa=>(ju ds).map (a :: ·)
theorem u5:∀ {ds:List D}{ks:List (List At)},ju ds=some ks->ks.length=ds.length
 |[],_,h=>by simp only[ju]at h;cases h;rfl
 |d::ds,_,h=>by
  simp only[ju]at h;obtain⟨a,h1,h⟩:=oX h;obtain⟨r,h2,h⟩:=oY h;subst h;simp[u5 h2]
theorem yP (I:Inv X ae σ H s):∀ {ys:List V}{ds:List D}{ks:List (List At)}{its:List Value},aY ys its->IsL X.K H ys ds->ju ds=some ks->Paired (DX s.heap) ks its
 |_,_,_,_,.nil,.nil,h=>by simp only[ju]at h;cases h;exact .nil
 |_,_,_,_,.cons r rr,.cons i ii,h=>by
  simp only[ju]at h;obtain⟨a,h1,h⟩:=oX h;obtain⟨t,h2,h⟩:=oY h;subst h;refine .cons ?_ (yP I rr ii h2);unfold NU at h1;split at h1
  ·rename_i n es;obtain⟨k,UT,rfl⟩:=oY h1;cases i with
   |tup hq hl=>
    cases r
    obtain⟨its',r',⟨o,ho,hc,m,hd⟩,_⟩:=I.tuple hq;cases hl with
    |cons i1 hl=>
     cases hl with
     |cons i2 hl=>
      cases hl
      cases r' with
      |cons r1 r'=>
       cases r' with
       |cons r2 r'=>
        cases r'
        cases i1
        have hk:dj [D.tup es]=some [k]:=by show(cW es).bind _=_;rw[UT];rfl
        have ht:=mD I (.cons r2 .nil) (.cons i2 .nil) hk;cases ht with
        |cons ht _=>exact⟨n,k,_,o,_,m,_,_,rfl,rfl,ho,hc,hd,rfl,r1,ht⟩
  ·cases h1
theorem JJ (hu:A.units<cLine):KK X A ju λ_=>true:=⟨u5,λI _ _ _ _ r i e _ hc=>have hp:=yP I r i e;⟨λhn _ _ q=>DY hp hn q,G3 hc hu hp⟩⟩
theorem G4 (hu:X.A.units+40<cLine):KK X X.A.in1.in1 ju λ_=>true:=JJ (show X.A.units+1+1<cLine by omega)
@[simp] abbrev AZ:FE->(Env->D->Option D)->FE:=wR ju λ_=>true
end DL
namespace DL
open PySem PySem.Spec PyProof.Rows L2
def QP:Nat->(List Value->Prop)->Prop
 |0,P=>P []
 |n+1,P=>∀a,QP n λl=>P (a::l)
theorem NV:∀n P,QP n P->∀us:List Value,us.length=n->P us
 |0,_,h,[],_=>h
 |n+1,_,h,a::us,e=>NV n _ (h a) us (Nat.succ.inj e)
section
variable {P:Program}{w:World}{K:Frag}{mg:Str->Option Value}{base:Heap}
def KC (K:Frag)(mg:Str->Option Value)(x:Str)(c:D):Prop:=∃u v,mg x=some u/\ba v u/\∀B,Is K B v c
def KD (w:World)(K:Frag)(mg:Str->Option Value)(x:Str)(c:List (Str×D)):Prop:=∃d,mg x=some (.ref d)/\tY K w.params d c
theorem kc_of {x:Str}{c:D}{h:Heap}(X:K.In h)(G:h.Ns mainGlobals mg)(k:∃u v,nsIn K mainGlobals x=some (some u)/\ba v u/\∀B,Is K B v c):KC K mg x c:=let ⟨u,v,e,r⟩:=k;⟨u,v,mg_of X G e,r⟩
theorem kd_of {x:Str}{c:List (Str×D)}{h:Heap}(X:K.In h)(G:h.Ns mainGlobals mg)(k:∃d,nsIn K mainGlobals x=some (some (.ref d))/\tY K w.params d c):KD w K mg x c:=let ⟨d,e,r⟩:=k;⟨d,mg_of X G e,r⟩
theorem eE.fqL {x:Str}{st:Stmt}{k:Nat}{F':List D->OB}(F:eE K x st)(B:∃h,K.In h/\h.Ns mainGlobals mg)(g:FS)(N:List Str)(n:Nat)
  (hb:∀ {f:Addr}{eJ:Value}{A:Around}{outer:List PySem.Env}{s:Shared}{H:Hp}{E:XK},N.Nodup->eP k (A.deeper (envOfC x (aS st) s.heap.objs.size f eJ))->(A.deeper (envOfC x (aS st) s.heap.objs.size f eJ)).units+40<cLine->(∀c P,PySem.W.tabIn K x=some (c,P)->eJ=.ref c)->xz (pj zZ P w K mg base N x (aS st) f eJ A outer s H E).nox (cL st) g)
  (S:FnScope N (N.take n) (aS st):=by refine⟨rfl,rfl,rfl,?_,rfl,?_,?_⟩<;>decide +kernel)
  (K9:∀(kV doc pm:Value)(an:Option Addr)(eJ ct:Value)(us:List Value),us.length=(N.take n).length->bindArgs (fnOf x x (gh st) (cL st) (aS st) .none kV doc pm an eJ ct) ⟨us,[]⟩=pure ((N.take n).zip us):=by
   exact λ_ _ _ _ _ _=>NV _ _ (by(repeat intro);rfl))
  (e:aO g (N.take n).length (N.length - (N.take n).length)=F':=by rfl):
  Fn P w K mg base (k+1) x F':=let ⟨_,X,G⟩:=B;e ▸ F.fnL X G S K9 λ_ _ _ _ _ _ _ hc hr=>hb S.nd hr (D8 hr) hc
theorem eE.fq {x:Str}{st:Stmt}{k:Nat}{F':List D->OB}(F:eE K x st)(B:∃h,K.In h/\h.Ns mainGlobals mg)(g:FS)(N:List Str)(n:Nat)
  (hb:∀ {f:Addr}{eJ:Value}{A:Around}{outer:List PySem.Env}{s:Shared}{H:Hp}{E:XK},N.Nodup->eP k (A.deeper (envOfC x (aS st) s.heap.objs.size f eJ))->(A.deeper (envOfC x (aS st) s.heap.objs.size f eJ)).units+40<cLine->xz (pj zZ P w K mg base N x (aS st) f eJ A outer s H E).nox (cL st) g)
  (S:FnScope N (N.take n) (aS st):=by refine⟨rfl,rfl,rfl,?_,rfl,?_,?_⟩<;>decide +kernel)
  (K9:∀(kV doc pm:Value)(an:Option Addr)(eJ ct:Value)(us:List Value),us.length=(N.take n).length->bindArgs (fnOf x x (gh st) (cL st) (aS st) .none kV doc pm an eJ ct) ⟨us,[]⟩=pure ((N.take n).zip us):=by
   exact λ_ _ _ _ _ _=>NV _ _ (by(repeat intro);rfl))
  (e:aO g (N.take n).length (N.length - (N.take n).length)=F':=by rfl):
  Fn P w K mg base (k+1) x F':=F.fqL B g N n (λn r u _=>hb n r u) S K9 e
end
section
variable {X:Cx}{x:Str}{pos:Pos}
theorem HV (i:Nat)(hN:X.N.Nodup)(hi:X.N[i]? = some x:=by rfl)(hx:HN X.env.scope x:=by first|exact Or.inl rfl|exact Or.inr rfl)(hf:X.fn x=true∨X.env.scope.names.lookup x=some .local:=by first|exact .inl rfl|exact .inr rfl):PG X (.Name x pos) (jR i):=BB hN hi hx hf
theorem OZ {fp}(i:Nat)(hN:N'.Nodup:=by decide +kernel)(hi:(iX X N' scope cl C s H fp).N[i]? = some x:=by rfl)(hx:HN (iX X N' scope cl C s H fp).env.scope x:=by exact Or.inl rfl)(hf:(iX X N' scope cl C s H fp).fn x=true∨(iX X N' scope cl C s H fp).env.scope.names.lookup x=some .local:=by first|exact .inl rfl|exact .inr rfl):PG (iX X N' scope cl C s H fp) (.Name x pos) (jR i):=BB hN hi hx hf
theorem gO (N':List Str)(hi:JI X tg dc fi)(hc:∀ {C s H fp},JC (iX X N' scope (dP scope.names X.env.cells []) C s H fp) sG fc)(he:∀ {C s H fp},JE (iX X N' scope (dP scope.names X.env.cells []) C s H fp) tE fe)
  (Hz:Lc X.K nT pK g:=by first|exact xS (by decide)|exact L5 (by decide)) (hg:∀ {C s H fp},PG (iX X N' scope (dP scope.names X.env.cells []) C s H fp) tg g:=by intros;first|exact OZ 0|exact Aj rfl (jk (OZ 0) (jk (OZ 1) wa)))
  (cp:np X N' scope (dP scope.names X.env.cells []) nT cap:=by repeat first|exact .nil rfl|refine VE rfl rfl ?_)
  (S:CompSc X scope (dP scope.names X.env.cells []):=by exact QN) (jY:X.calm=true:=by rfl)
  (hs:∀x,foldedSetIterable dc X.env x=pure x:=by intro _;rfl):
  JE X (.ListComp tE [⟨tg,dc,sG,0⟩] scope pos) (bH fi nT cap pK fc fe):=IT jY S cp hi (λ_ _ _ _=>hg) Hz (λ_ _ _ _=>hc) (λ_ _ _ _=>he) hs
theorem oE (N':List Str)(hN:X.N.Nodup)(hi:JI X tg dc fi)(hc:∀ {C s H fp},JC (iX X N' scope (dP scope.names X.env.cells []) C s H fp) sG fc)(he:∀ {C s H fp},JE (iX X N' scope (dP scope.names X.env.cells []) C s H fp) tE fe)
  (Hz:Lc X.K nT pK g:=by first|exact xS (by decide)|exact L5 (by decide)) (hg:∀ {C s H fp},PG (iX X N' scope (dP scope.names X.env.cells []) C s H fp) tg g:=by intros;first|exact OZ 0|exact Aj rfl (jk (OZ 0) (jk (OZ 1) wa)))
  (cp:np X N' scope (dP scope.names X.env.cells []) nT cap:=by repeat first|exact .nil rfl|refine VE rfl rfl ?_)
  (EA:X.N[i]? = some y:=by rfl) (hy:X.env.kindOf y=some .local:=by rfl)
  (R0:swapsWith (.ListComp tE [⟨tg,dc,sG,0⟩] scope pos) (some (.Name y py)) spos.line X.env=pure true:=by rfl)
  (S:CompSc X scope (dP scope.names X.env.cells []):=by exact QN) (jY:X.calm=true:=by rfl)
  (hs:∀x,foldedSetIterable dc X.env x=pure x:=by intro _;rfl):
  JS X (.Assign [.Name y py] (.ListComp tE [⟨tg,dc,sG,0⟩] scope pos) spos) (aN i (bH fi nT cap pK fc fe)):=IU jY hN EA hy R0 S cp hi (λ_ _ _ _=>hg) Hz (λ_ _ _ _=>hc) (λ_ _ _ _=>he) hs
theorem u6 (hi:JI X tg dc fi)(hg:PG X tg t)(ht:IP X.K pK t)(hb:xz X body g)(hp:PassesOwn (model X.prog X.w) X.A X.env X.xe:=by exact PassesOwn.never)(hc:X.calm=true:=by rfl)
  (hs:∀x,foldedSetIterable dc X.env x=pure x:=by intro _;rfl):JS X (.For tg dc body [] pos) (pT fi pK g):=Nn hp hc hi hg ht hb hs
theorem G5 (hi:PI X tg dc (Sj X.K fi))(hg:PG X tg t)(ht:IP X.K pK t)(hb:xz X body g)(hp:PassesOwn (model X.prog X.w) X.A X.env X.xe:=by exact PassesOwn.never)(hc:X.calm=true:=by rfl)
  (hs:∀x,foldedSetIterable dc X.env x=pure x:=by intro _;rfl):JS X (.For tg dc body [] pos) (o7 fi pK g):=Ja hp hc hi hg ht hb hs
end
end DL
namespace DL
open PySem PySem.Spec PySem.W PyProof.Rows L2
section
variable {X:Cx}
@[simp] def ZX:D->D->OB
 |.tup [.int n,.tup xs],.tup [.int m,.tup ys]=>(cW xs).bind λas=>(cW ys).bind λbs=>(be (.i n::as) (.i m::bs)).map λr=>(.bl (!r),false)
 |_,_=>none
end
theorem qH:entryFor table "dict_itemiterator.__iter__" = some Builtin.«dict_keyiterator.__iter__»:=entryFor_alias (id':="dict_keyiterator.__iter__") (by kernel_rfl) rfl (by decide +kernel) (by kernel_rfl)
theorem wV (he:IsItemIter s.heap it d i n ep ok ov)(h:Q (.ref it) s):wpAny (model prog w) A (pyIter (.ref it)) Q E s:=by
 have hT:s.TypeIs (.ref it) "dict_itemiterator":=⟨_,he,rfl⟩;refine wpAny_pyIter_slot hT PySem.F.slot_dict_itemiterator_iter (wpAny_call_entry PySem.F.slot_dict_itemiterator_iter hT qH ?_ (PySem.F.args_dict_itemiterator_iter_1 _));show wpAny _ _ (ret (.ref it)) _ _ s;exact wY ⟨_,rfl,"dict_itemiterator",_,hT,PySem.F.slot_dict_itemiterator_next.lookup,h⟩
noncomputable def TC (a:Addr)(aH:List (cx×V))(ob:Obj):It:=⟨λi H=>H a=some (.dK aH ob)/\i<aH.length,λi H y H'=>∃T k v,y=.ref T/\H T=none/\H'=upd H T (.tup [kV k,v])/\aH[i]? = some (k,v),λi H=>H a=some (.dK aH ob)/\aH.length<=i⟩
theorem Ba {P:Program}{w:World}{K:Frag}{es:List Expr}{kt:Nat}{pt:Pos}(a it:Addr)(aH:List (cx×V))(ob:Obj){ds:Array DictEntry}{ep:Nat}(hd:ob.data=.dict ds ep):Turn P w K (.Tuple es kt pt) (TC a aH ob) [it] it (λi h=>∃ok ov,IsItemIter h it a i aH.length ep ok ov) where
 mem:=by simp
 obj:=λi h st b hb=>by
  have e:b=it:=by simpa using hb
  subst e;obtain⟨ok,ov,e⟩:=st;exact⟨_,e,λv z=>by cases z⟩
 keep:=λi h h' st k=>let ⟨ok,ov,e⟩:=st;⟨ok,ov,k it (by simp) _ e⟩
 item:=by
  intro X hP hw hK hc i ae s σ H E I hf st hg;subst hP hw hK;obtain⟨ok,ov,he⟩:=st;obtain⟨hH,fw⟩:=hg;obtain⟨vs,r,m⟩:=lz I.hok hH hd;have hl:vs.length=aH.length:=(Paired.length r).symm;obtain⟨u,hu,ru⟩:=r.get (k:=aH[i].1) (x:=aH[i].2) (vU fw);have fresh:H s.heap.objs.size=none:=I.hok.fresh (vT _);have SD:it≠s.heap.objs.size:=vS (vX he);refine wpAny_pyNext_items_item (by rw[hl];exact he) m hu λkey h' zR ho hT hsz hk=>?_;rw[hl]at ho;refine⟨_,rfl,wpAny_letOwnedTupleGo_items (s:={ s with heap:=h' }) ho λh2 Pn s2=>?_⟩;have Po:Heap.SameBut it h' h2:=s2;have kk:∀b o,b∉[it]->s.heap.get? b=some o->h2.get? b=some o:=λb o hb q=>Po.extBut _ _ (λz=>hb (by simp[z])) (hk b o (λz=>hb (by simp[z])) q);have new:cm X.prog X.w (upd H s.heap.objs.size (.tup [kV aH[i].1,aH[i].2])) h2 s.heap.objs.size (.tup [kV aH[i].1,aH[i].2]):=⟨by show 2<=sizeLine;decide,[key,u],.cons (LB zR) (.cons ru .nil),⟨_,Po.extBut _ _ SD.symm hT,rfl,_,rfl⟩⟩;refine⟨.ref s.heap.objs.size,upd H s.heap.objs.size (.tup [kV aH[i].1,aH[i].2]),L6 (s:=s) (t':=s.toks) I hf kk (vT _) new,rfl,⟨_,aH[i].1,aH[i].2,rfl,fresh,rfl,vU fw⟩,⟨_,_,Pn⟩,λb hb=>?_⟩;have nu:b≠s.heap.objs.size:=by
   have e:b=it:=by simpa using hb
   rw[e];exact SD
  rw[aI nu];exact(hf b hb).1
 done:=by
  intro X hP hw hK hc i ae s σ H E I hf st hg;subst hP hw hK;obtain⟨ok,ov,he⟩:=st;obtain⟨hH,HY⟩:=hg;obtain⟨vs,r,m⟩:=lz I.hok hH hd;have hl:vs.length=aH.length:=(Paired.length r).symm;exact wpAny_pyNext_items_end (I.ok.hd hc) (by rw[hl];exact he) m (List.getElem?_eq_none (by omega)) λh' hk=>⟨rfl,p8 (t':=s.toks) I hf λb o hb q=>hk b o (λz=>hb (by simp[z])) q⟩
 self:=λ_ _ _ _ _ st h=>let ⟨_,_,he⟩:=st;wV he h
section
variable {X:Cx}{es:List Expr}{kt:Nat}{pt:Pos}{e:Expr}
def TD (td:TE):TI:=λσ H R=>td σ H λx H1=>∃a aH ob,x=.ref a/\H1 a=some (.dK aH ob)/\R (TC a aH ob) H1
theorem G6 {o:Expr}{td:TE}{dI cH:Pos}(ho:PE X o td)(iG:attributeBase o "items" X.env (eval o X.env)=eval o X.env:=by rfl)(iH:(dI.endLine == cH.line)=true:=by rfl):PI X (.Tuple es kt pt) (.Call (.Attribute o "items" dI) [] [] cH) (TD td):=by
 intro ae s σ H R I h;refine wpAny_Call_method0_late iG iH (cE (ho ae s σ H _ I h) λv s1 ⟨x,H1,I1,r1,a,aH,ob,ex,hH,q⟩=>?_);subst ex;obtain⟨h1,h2⟩:=Ax I1 r1 (T:="dict") (.inr (.inr (.inl ⟨rfl,.inl ⟨aH,ob,hH⟩⟩)));cases r1
 obtain⟨es,ep,hd⟩:=pC I1.hok hH;obtain⟨vs,r,m⟩:=lz I1.hok hH hd;have hl:vs.length=aH.length:=(Paired.length r).symm;refine⟨"dict","dict.items",PySem.F.plainAttrs_dict,PySem.F.slot_dict_items,PySem.F.type_dict_items,h1,h2,Calls.callWith_builtin rfl (PySem.evalArgs_none ?_)⟩;refine call_meetsIn PySem.F.slot_dict_items h1 PySem.F.entry_dict_items (PySem.F.args_dict_items_1 _) (meets_dict_items (cq X.prog X.w) a (o5 I1.hok hH).2.1) ⟨⟨vs,m.dictOf⟩,?_⟩;have I2:Inv X ae σ H1 { s1 with heap:=s1.heap.push { cls:=.type "dict_items",data:=.fields #[.ref a] } }:=I1.kept (t':=s1.toks) λb o e=>vZ _ e;refine wpAny_pyIter_items (v:=s1.heap.objs.size) ⟨_,vY _ rfl,rfl,rfl⟩ (m.keep λb o e=>vZ _ e) ?_;rw[hl];refine⟨(s1.heap.push { cls:=.type "dict_items",data:=.fields #[.ref a] }).objs.size,[(s1.heap.push { cls:=.type "dict_items",data:=.fields #[.ref a] }).objs.size],_,_,H1,rfl,I2.kept (t':=s1.toks) λb o e=>vZ _ e,Ba a _ aH ob hd,⟨_,_,vY _ rfl⟩,λb hb=>?_,q⟩;have e:b=(s1.heap.push { cls:=.type "dict_items",data:=.fields #[.ref a] }).objs.size:=by simpa using hb
 subst e;exact I2.fpOk (vT _) (I2.hok.fresh (vT _))
noncomputable def jb (ks:List cx)(ds:List D):List D:=(ks.zip ds).map λx=>.tup [kD x.1,x.2]
theorem G7 {K:Frag}{B:Hp}{a:Addr}{ks:List cx}{vs:List V}{ds:List D}{ob:Obj}(h:B a=some (.dK (ks.zip vs) ob))(hl:ks.length=vs.length)(hs:IsL K B vs ds):nD K (TC a (ks.zip vs) ob) B (jb ks ds):=by
 intro i H s;have hz:(ks.zip vs).length=vs.length:=by rw[List.length_zip];omega
 have hn:=hs.length;refine⟨λd ed=>?_,λbB=>⟨s _ _ h,by unfold jb at bB;rw[vI,List.length_zip]at bB;omega⟩⟩;unfold jb at ed;rw[vA]at ed;obtain⟨⟨k0,d0⟩,ek,rfl⟩:=oY ed;obtain⟨e1,e2⟩:=List.getElem?_zip_eq_some.mp ek;obtain⟨v,ev,iv⟩:=hs.get e2;have fw:i<vs.length:=(vV ev).1;refine⟨⟨s _ _ h,by rw[hz];exact fw⟩,λy H3 hy=>?_⟩;obtain⟨T,k,v',rfl,hT,rfl,e⟩:=hy;obtain⟨g1,g2⟩:=List.getElem?_zip_eq_some.mp e;rw[e1]at g1;cases g1;rw[ev]at g2;cases g2;have xt:=Ext.laid (o:=.tup [kV k0,v']) s hT;exact⟨_,xt,.tup (jj.of aC) (.cons (LC _) (.cons (iv.mono xt.bn) .nil))⟩
@[simp] def pF (f:FE):FA:=λρ=>(f ρ).bind λx=>match x.1 with|.dk ks ds=>some (jb ks ds)|_=>none
theorem yQ (h:JE X e f)(iG:attributeBase e "items" X.env (eval e X.env)=eval e X.env:=by rfl)(iH:(dI.endLine == cH.line)=true:=by rfl):JI X (.Tuple es kt pt) (.Call (.Attribute e "items" dI) [] [] cH) (pF f):=by
 intro ae s σ H R I q;obtain⟨B,ρ,ds,sB,r,e',q⟩:=q;obtain⟨⟨xd,xb⟩,ex,es⟩:=oX e';cases xd<;>try (cases es;done)
 cases es
 refine G6 h iG iH ae s σ H R I ⟨B,ρ,_,_,sB,r,ex,λv H1 N1 x1 i1 _=>?_⟩;cases i1 with
 |@dk a ks vs ds ob hd hl hs=>exact⟨a,_,ob,rfl,x1.nh _ _ hd,q _ H1 N1 x1 (G7 hd hl hs)⟩
end
section
variable {K:Frag}{E:Ends}{σ:St}{H:Hp}
def qI (i:Nat)(fk fv:FE):FS:=λρ=>match ρ[i]? with
 |some (some (.dk ks vs,true))=>(fv (mq ρ)).bind λv=>(fk ρ).bind λk=>(jW k.1).bind λkk=>if ks.length<sizeLine then some (.nx (ρ.set i (some (.dk (dJ ks kk) (dL ks vs kk v.1),true))))else none
 |_=>none
theorem DZ (q:o6 K (qI i fk fv) E σ H):BF (EU i) (tD K fk) (tD K fv) E σ H:=by
 obtain⟨B0,H0,ρ,r,⟨N,s⟩,e,p⟩:=q;unfold qI at e;split at e
 ·rename_i ks ds ei;obtain⟨v,ev,e⟩:=oX e;obtain⟨k,ek,e⟩:=oX e;obtain⟨kk,hk,e⟩:=oX e;split at e
  ·rename_i hx;cases e
   refine⟨eD N (own σ ρ),mq ρ,v.1,v.2,bK.trans s.ext.nh,s.repH,ev,λv1 H1 N1 x1 i1 _=>?_⟩;obtain⟨s1,c⟩:=s.growH x1;obtain⟨a,o,h1,h2,h3,h4⟩:=s1.ow i _ ei;refine⟨.ref a,h1,_,ρ,k.1,k.2,s1.ext.nh,s1.rep,ek,λv2 H2 N2 x2 i2 _=>?_⟩;have s2:=s1.grow x2;have hv:=q8 i2 hk;subst hv;obtain⟨a',o',k1,k2,k3,k4⟩:=s2.ow i _ ei;rw[h1]at k1;cases k1
   cases k4 with
   |@dk ks vs ds hl h5 ob=>
    refine⟨a,rfl,.inl ⟨_,kk,_,s2.ext.nh _ _ k2,rfl,?_,λUk=>?_⟩⟩
    ·rw[List.length_zip];omega
    ·rw[pB hl];exact p σ _ ⟨_,s2.writeB ei h1 (.dk (mG hl _ _) (h5.put ((i1.mono c).mono (eK λa o e q=>⟨x2.bn a o e,q⟩))))⟩
  ·cases e
 ·cases e
end
section
variable {X:Cx}{pos:Pos}{e k:Expr}
theorem G8 (hu:X.A.units+1<cLine)(hv:JE X e fv)(hk:JE X k fk)(hN:X.N[i]? = some y:=by rfl)(B7:ET X.env.scope y:=by first|exact Or.inl rfl|exact Or.inr (Or.inl rfl)|exact Or.inr (Or.inr rfl))(hd:(y == ("__debug__" : Str))=false:=by decide)
  (j9:(y == ("__classdict__" : Str))=false:=by decide) (hs:swapsWith e (some (.Subscript (.Name y py) k pt)) pos.line X.env=pure false:=by rfl):JS X (.Assign [.Subscript (.Name y py) k pt] e pos) (qI i fk fv) :=
 PS.to (wu hu (lG hN B7 hd j9) hk hv hs) λ_ _ _ q=>DZ q
end
section
variable {prog:Program}{w:World}{A:Around}{E:Value->Shared->Prop}{s:Shared}
theorem Ct:∀(vs:List Value)(ns:List Int),vs.length=ns.length->(∀(i:Nat)(v:Value),vs[i]? = some v->∃(m:Int)(t:Tok),ns[i]? = some m/\v=Value.int m t)->IntsAre vs ns
 |[],[],_,_=>.nil
 |v::vs,n::ns,h,k=>by
  obtain⟨m,t,e,rfl⟩:=k 0 v rfl;cases (show some n=some m from e)
  exact .cons n t (Ct vs ns (by simpa using h) λi v hv=>k (i+1) v hv)
theorem yR (hh:A.handled=none)(lo:(a == sysModules)=false)(hm:s.heap.DictAt (cq prog w) a aH ep)(hk:aH.map (·.1)=ns.map .inl)(vv:ns.length<64)
  (hQ:∀(h1 h':Heap)(tk:Nat)(b:Addr)(out:Array Value)(n:Nat)(Px:List Int),(∀c u,s.heap.get? c=some u->h1.get? c=some u)->(∀c u,h1.get? c=some u->h'.get? c=some u)->h1.objs.size<=b->h'.get? b=some (seqObj "list" out n) ->
   IntsAre out.toList Px->Px.Perm ns->Px.Pairwise (·<=·)->Q (.ref b) { s with heap:=h',toks:=tk }):
  wpAny (model prog w) A (call (.builtin "sorted") [.ref a]) Q E s:=by
 refine Calls.call_function_entry kind_sorted plain_sorted entry_sorted (args_sorted1 _) ?_;unfold Builtin.«sorted»;refine wX (m:=checkCount "sorted" 1 1 _) (wY ?_);have UC:aH.length=ns.length:=by have:=congrArg List.length hk;simpa using this
 refine wX (kdu_collect (A:=A.in1) (kdl_dict lo) (by exact hh) hm (by rw[sizeLine_eq];omega) λh1 tk ls hkeep HH=>?_);have B5:ls.toList.length=ns.length:=by rw[vG,HH.1,UC]
 have km:IntsAre ls.toList ns:=Ct ls.toList ns B5 λi v hv=>by
  obtain⟨k,x,e1,e2⟩:=HH.2 i v (by simpa using hv);have e3:(aH.map (·.1))[i]? = some k:=by rw[vA,e1];rfl
  rw[hk,vA]at e3;obtain⟨m,e4,rfl⟩:=oY e3;obtain⟨t,rfl⟩:=Value.isInt_shape (k:=m) (v:=v) e2;exact⟨m,t,e4,rfl⟩
 refine wX (wpAny_newList ?_ (by rw[B5,sizeLine_eq];omega));have EN:(h1.push (seqObj "list" ls.toList.toArray 0)).get? h1.objs.size=some (seqObj "list" ls.toList.toArray 0):=vY _ rfl;show wpAny _ _ _ _ _ { s with heap:=h1.push (seqObj "list" ls.toList.toArray 0),toks:=tk };refine wX (wpAny_holding (wpAny_call_entry slot_list_sort ⟨_,EN,rfl⟩ entry_list_sort (list_sort_tree EN km (by rw[B5];exact vv) λout Px a1 a2 a3=>⟨_,rfl,?_⟩) (args_list_sort _)));obtain⟨n,he⟩:=sortedHeap_at (out:=out) EN;refine wY ⟨_,rfl,hQ h1 _ _ _ out n Px hkeep (λb u q=>?_) (vT _) he a1 a2 a3⟩;have hl:=vX q;rw[sortedHeap_old (vS hl) (by rw[size_push'];exact Nat.lt_succ_of_lt hl)];exact vZ _ q
end
noncomputable def uA:List cx->Option (List Int)
 |[]=>some []
 |.inl n::ks=>(uA ks).map (n :: ·)
 |.inr _::_=>none
theorem yS:∀ {ks:List cx}{ns:List Int},uA ks=some ns->ks=ns.map .inl
 |[],_,h=>by cases h;rfl
 |.inl n::ks,_,h=>by
  obtain⟨r,h1,rfl⟩:=oY h;rw[yS h1];rfl
 |.inr _::_,_,h=>by cases h
theorem JL {aH:List (cx×V)}{vs:List (cx×Value)}(r:KV aH vs):vs.map (·.1)=aH.map (·.1):=by
 unfold KV at r;induction r with
 |nil=>rfl
 |cons h t ih=>rw[uY,uY,ih,h.1]
@[simp] def jv:List D->OB
 |[.dk ks _]=>(uA ks).bind λns=>if ns.length<64 then some (.lst ((mC ns).map .int),true)else none
 |_=>none
section
variable {X:Cx}
theorem Ea (hc:X.calm=true):bV X (.builtin "sorted") (D4 X.K jv):=by
 intro ae s σ H xs us Q I r h;obtain⟨B,dl,d,bb,sB,i,ee,q⟩:=h;cases i with
 |nil=>simp[jv]at ee
 |cons i1 i2=>
  cases i2 with
  |cons _ _=>cases i1<;>simp[jv]at ee
  |nil=>
   cases i1 with
   |@dk a ks vs ds ob hd hl hs=>
    obtain⟨u,rfl,rx⟩:=hV r;cases rx
    simp only[jv]at ee;obtain⟨ns,en,ee⟩:=oX ee;split at ee
    ·rename_i vv;cases ee
     have hH:=sB _ _ hd;obtain⟨es,ep,Zh⟩:=pC I.hok hH;obtain⟨S5,r',m⟩:=lz I.hok hH Zh;have Zi:S5.map (·.1)=ns.map .inl:=by rw[JL r',List.map_fst_zip (by omega),yS en]
     refine yR (I.ok.hd hc) (o5 I.hok hH).2.1 m Zi vv λh1 h' tk b out n Px k1 k2 hb he km gH sM=>?_;have e:=yJ gH sM;subst e;have I1:Inv X ae σ H { s with heap:=h1,toks:=tk }:=ul I k1 rfl rfl;have hf:H b=none:=I1.hok.fresh hb;have xt:=Ext.laid (o:=.lst ((mC ns).map V.int)) sB hf;exact⟨.ref b,_,I1.laid (t':=tk) k2 hb (show cm X.prog X.w _ h' _ (.lst ((mC ns).map V.int))from ⟨by rw[vI];unfold mC;rw[(aQ _ ns).length_eq,sizeLine_eq];omega,out.toList,n,gW km,he⟩),rfl,q _ _ _ xt (.lst (hU.of aC) (mE _)) λ_=>⟨_,_,_,rfl,rfl,hf,aC,mE _⟩⟩
    ·cases ee
   |_=>simp[jv]at ee
theorem NW (hu:X.A.units+1<cLine)(hi:JE X i fi)(ho:JE X o fo)(hm:behindInMarks .In o=false:=by first|exact ji _ (by decide) (by decide)|rfl):JE X (.Compare i [.In] [o] pos) (f2 Ss fi fo):=by
 refine PE.to (Mx (MY hu hi ho) hm) λσ H Q q=>?_;obtain⟨B,ρ,d,bb,sB,r,ee,q⟩:=q;obtain⟨y,ey,ee⟩:=oX ee;obtain⟨x,ex,ee⟩:=oX ee;refine⟨B,ρ,y.1,y.2,sB,r,ey,λv2 H1 N1 x1 i2 _=>⟨N1,ρ,x.1,x.2,x1.nh,r.mono x1.bn,ex,λv H2 N2 x2 i1 ff=>?_⟩⟩;obtain⟨xd,xb⟩:=x;cases i1 with
 |@dk a ks vs ds ob h hl hs=>
  simp only[Ss]at ee;obtain⟨k,hk,ee⟩:=oY ee;cases ee
  have hv:=q8 i2 hk;subst hv;refine⟨a,jZ (ks.zip vs) k,rfl,.inl ⟨_,k,_,.inl (x2.nh _ _ h),rfl,rfl⟩,?_⟩;rw[uy hl hs];exact(q.into (x1.trans x2)).one x2.nh (.bl _)
 |_=>simp[Ss]at ee
end
end DL
namespace DL
open PySem PySem.Spec PyProof.Rows L2
@[simp] abbrev fV (i:Nat)(g:FA):FA:=af (ai i) g
@[simp] abbrev fI (n:Int):FE:=fC (.int n)
@[simp] abbrev fS (s:PySem.Str):FE:=fC (.str s)
section
variable {X:Cx}{es:List Expr}{g:FA}{pos:Pos}
theorem aG {x:Str}{p:Pos}(i:Nat)(hr:JA X es g)(hN:X.N[i]? = some x:=by rfl)(hv:ET X.env.scope x:=by first|exact Or.inl rfl|exact Or.inr (Or.inl rfl)|exact Or.inr (Or.inr rfl))(hd:(x == ("__debug__" : Str))=false:=by decide)(j9:(x == ("__classdict__" : Str))=false:=by decide)
  (hs:starEach (.Name x p::es) X.env=(false,eval (.Name x p) X.env)::starEach es X.env:=by rfl):JA X (.Name x p::es) (fV i g):=ah (ag i hN hv hd j9) hr hs
theorem bT {i:Int}{j:Nat}(hr:JA X es g):JA X (.Constant (.int i) j pos::es) (af (fC (.int i)) g):=ah av hr
theorem a7 (F:Fn X.prog X.w X.K X.mg X.base k x f)(hr:eP j X.A)(ha:JA X (e::es) g:=by repeat first|exact am|refine aG _ ?_|refine ah aB ?_)(hj:k<=j:=by decide)(hg:Gl X x:=by rfl)(t9:(x == ("__debug__" : Str))=false:=by decide)(he:starEach (e::es) X.env=(false,eval e X.env)::starEach es X.env:=by rfl)(lE:(backTo pos (starEach es X.env)).any (·.1)=false:=by rfl):JE X (.Call (.Name x p) (e::es) [] pos) (fA f g):=BH F (hr.mono hj) ha hg t9 he lE
theorem bo (he:JE X e f):xz X [.Return (some e) pos] (bc f):=bv (F6 he)
theorem c7 {c:Expr}{fc:FT}(hc:JT X c fc)(he:JE X e f):JS X (.If c [.Return (some e) p] [] pos) (eM fc (bc f) bp):=fE hc (bv (F6 he)) eU
theorem bS (i:Nat)(hN:X.N[i]? = some x:=by rfl)(hv:ET X.env.scope x:=by first|exact Or.inl rfl|exact Or.inr (Or.inl rfl)|exact Or.inr (Or.inr rfl))(hd:(x == ("__debug__" : Str))=false:=by decide)(j9:(x == ("__classdict__" : Str))=false:=by decide):JE X (.Subscript (.Name x p) (.Constant (.int n) j q) pos) (eY i n):=aU (ag i hN hv hd j9) av
end
end DL
namespace DL
open PySem L2
theorem io (I:Nat->Env->Prop)(ds:List D)(ρ0:Env)(h0:I 0 ρ0)
  (step:∀i d ρ,ds[i]? = some d->I i ρ->∃ρ1 ρ',tg d ρ=some ρ1/\(g ρ1=some (.nx ρ')∨g ρ1=some (.ct ρ'))/\I (i+1) ρ'):
  ∃ρ',iW tg g ds ρ0=some (.nx ρ')/\I ds.length ρ':=by
 have key:∀(es:List D)(i:Nat)(ρ:Env),ds.drop i=es->i+es.length=ds.length->I i ρ->∃ρ',iW tg g es ρ=some (.nx ρ')/\I ds.length ρ':=by
  intro es;induction es with
  |nil=>intro i ρ e hl h;refine⟨ρ,by rw[Fw],?_⟩;rw[←hl];exact h
  |cons d es ih=>
   intro i ρ e hl h;have hd:ds[i]? = some d:=by
    have:(ds.drop i)[0]? = some d:=by rw[e];rfl
    rwa [List.getElem?_drop,Nat.add_zero]at this
   obtain⟨ρ1,ρ',h1,h2,h3⟩:=step i d ρ hd h;have he:ds.drop (i+1)=es:=by rw[←List.drop_drop,e];rfl
   obtain⟨ρ2,k1,k2⟩:=ih (i+1) ρ' he (by simp at hl;omega) h3;refine⟨ρ2,?_,k2⟩;rw[D5,h1];rcases h2 with h2|h2<;>simp only[vJ,h2]<;>exact k1
 exact key ds 0 ρ0 (by simp) (by simp) h0
theorem qJ (n:Nat)(I:Nat->Env->Prop)(ρ0:Env)(h0:I 0 ρ0)
  (step:∀(i:Nat) ρ,i<n->I i ρ->∃ρ1 ρ',tg (.int (i:Int)) ρ=some ρ1/\(g ρ1=some (.nx ρ')∨g ρ1=some (.ct ρ'))/\I (i+1) ρ'):
  ∃ρ',iW tg g (fW 0 n) ρ0=some (.nx ρ')/\I n ρ':=by
 have hl:(fW 0 n).length=n:=by simp[fW]
 obtain⟨ρ',h1,h2⟩:=io (tg:=tg) (g:=g) I (fW 0 n) ρ0 h0 λi d ρ hd h=>by
  unfold fW at hd;rw[vA]at hd;obtain⟨k,hk,hd⟩:=oY hd;obtain⟨fw,hk⟩:=vV hk;rw[List.length_range]at fw;rw[List.getElem_range]at hk;subst hk;rw[Int.zero_add]at hd;subst hd;exact step i ρ fw h
 rw[hl]at h2;exact⟨ρ',h1,h2⟩
theorem k9 {α:Type}{xs:List α}{j:Nat}(h:j<xs.length):o4 xs (j:Int)=some xs[j]:=IB (by simp[h])
theorem wW {α:Type}{xs:List α}{i:Int}(h0:0<=i)(h:i.toNat<xs.length):o4 xs i=some xs[i.toNat]:=by
 have:=k9 h;rwa [Int.toNat_of_nonneg h0]at this
@[simp] theorem LD (xs:List Int):bw (xs.map D.int)=true:=by
 induction xs with
 |nil=>simp
 |cons x xs ih=>simp[ih]
@[simp] theorem HW (n:Nat)(xs:List Int):(xs.map D.int).all (aq n)=true:=by
 induction xs with
 |nil=>simp
 |cons x xs ih=>simpa using ih
@[simp] theorem JM (xs:List Int):(xs.map D.int).all gw=true:=by
 induction xs with
 |nil=>simp
 |cons x xs ih=>simpa using ih
theorem Eb (n:Nat):fW 0 n=((List.range n).map λ(k:Nat)=>(k:Int)).map D.int:=by
 unfold fW;rw[uP];apply List.map_congr_left;intro k _;simp
mutual
def mH:D->D->Bool
 |.non,.non=>true
 |.bl a,.bl b=>a == b
 |.int a,.int b=>decide (a=b)
 |.str a,.str b=>decide (a=b)
 |.ty a,.ty b=>decide (a=b)
 |.tup xs,.tup ys=>qK xs ys
 |.lst xs,.lst ys=>qK xs ys
 |_,_=>false
def qK:List D->List D->Bool
 |[],[]=>true
 |x::xs,y::ys=>mH x y && qK xs ys
 |_,_=>false
end
mutual
theorem Cu:∀ {x y:D},mH x y=true->x=y
 |.non,.non,_=>rfl
 |.bl a,.bl b,h=>by simp[mH]at h;rw[h]
 |.int a,.int b,h=>by simp[mH]at h;rw[h]
 |.str a,.str b,h=>by simp[mH]at h;rw[h]
 |.ty a,.ty b,h=>by simp[mH]at h;rw[h]
 |.tup xs,.tup ys,h=>by rw[mH]at h;rw[qL h]
 |.lst xs,.lst ys,h=>by rw[mH]at h;rw[qL h]
theorem qL:∀ {xs ys:List D},qK xs ys=true->xs=ys
 |[],[],_=>rfl
 |x::xs,y::ys,h=>by
  rw[qK,vC]at h;rw[Cu h.1,qL h.2]
end
def TF (r:OB)(d:D)(b:Bool):Bool:=match r with
 |some (e,c)=>mH e d && c == b
 |none=>false
theorem NX (h:TF r d b=true):r=some (d,b):=by
 unfold TF at h;split at h
 ·rw[vC]at h;rw[Cu h.1,eq_of_beq h.2]
 ·cases h
section
variable {f:FE}{c:FT}{g g' h:FS}{ρ ρ':Env}{i:Nat}{d:D}{b:Bool}{r:Option Res}{ds:List D}
theorem aw (hl:ds.length=n)(e:g (ds.map (λd=>some (d,false))++List.replicate k none)=some (.rt d b)):aO g n k ds=some (d,b):=by
 unfold aO;rw[if_pos hl,e]
theorem uB (n:bi d=true):setE ρ i d b=ρ.set i (some (d,false)):=by unfold setE;rw[if_pos n]
theorem yT (n:bw ds=true):setE ρ i (.lst ds) true=ρ.set i (some (.lst ds,true)):=by
 unfold setE;rw[if_neg (by simp),if_pos ⟨rfl,by simpa using n⟩]
theorem JN (n:bi d=false)(m:b=false∨xP d=false):setE ρ i d b=(unown ρ).set i (some (d,false)):=by
 unfold setE;have hz:¬(b=true/\xP d=true):=λz=>by
  rcases m with m|m
  ·rw[m]at z;exact absurd z.1 (by decide)
  ·rw[m]at z;exact absurd z.2 (by decide)
 rw[if_neg (by simp[n]),if_neg hz]
theorem G9 (e:f ρ=some (d,b))(k:h (setE ρ i d b)=r):a8 (aN i f) h ρ=r:=by simp[e];exact k
theorem NY (e:f ρ=some (d,b))(n:bi d=true)(k:h (ρ.set i (some (d,false)))=r):a8 (aN i f) h ρ=r:=G9 e (by rw[uB n];exact k)
theorem c8 (e:f ρ=some (.lst ds,true))(n:bw ds=true)(k:h (ρ.set i (some (.lst ds,true)))=r):a8 (aN i f) h ρ=r:=G9 e (by rw[yT n];exact k)
theorem QQ (e:f ρ=some (d,b))(n:bi d=false)(m:b=false∨xP d=false)(k:h ((unown ρ).set i (some (d,false)))=r):a8 (aN i f) h ρ=r:=G9 e (by rw[JN n m];exact k)
theorem dU (e:g ρ=some (.nx ρ'))(k:h ρ'=r):a8 g h ρ=r:=by unfold a8;rw[e];exact k
theorem TH (e:g ρ=some (.rt d b)):a8 g h ρ=some (.rt d b):=by unfold a8;rw[e]
theorem TJ (e:g ρ=some (.ct ρ')):a8 g h ρ=some (.ct ρ'):=by unfold a8;rw[e]
theorem lq (e:c ρ=some true)(k:g ρ=r):eM c g g' ρ=r:=by unfold eM;rw[e];exact k
theorem lP (e:c ρ=some false)(k:g' ρ=r):eM c g g' ρ=r:=by unfold eM;rw[e];exact k
theorem QR (e:c ρ=some x)(kt:x=true->g ρ=r)(kf:x=false->g' ρ=r):eM c g g' ρ=r:=by
 cases x with
 |true=>exact lq e (kt rfl)
 |false=>exact lP e (kf rfl)
theorem b8 (e:c ρ=some true)(k:g ρ=some (.rt d b)):a8 (eM c g g') h ρ=some (.rt d b):=TH (lq e k)
theorem aA (e:c ρ=some false)(k:h ρ=r):a8 (eM c g bp) h ρ=r:=dU (lP e rfl) k
theorem ay (e:f ρ=some (d,b)):bc f ρ=some (.rt d b):=by simp[e]
theorem pG (e:ρ[i]? = some (some (d,b)))(hb:Lb d=false:=by rfl):jT i ρ=some (.rt d b):=by simp only[jT,e,hb];simp
theorem qM (e:f ρ=some (d,b))(n:bi d=true):aN i f ρ=some (.nx (ρ.set i (some (d,false)))):=by
 show(f ρ).map _=_;rw[e,Option.map_some,uB n]
theorem wZ (e:f ρ=some (.lst ds,true))(n:bw ds=true):aN i f ρ=some (.nx (ρ.set i (some (.lst ds,true)))):=by
 show(f ρ).map _=_;rw[e,Option.map_some,yT n]
theorem jG (e:ρ[i]? = some (some (.lst ds,true)))(ef:f ρ=some (d,b))(n:bi d=true)(l:ds.length<sizeLine):kx i f ρ=some (.nx (ρ.set i (some (.lst (ds++[d]),true)))):=by
 simp[e,ef,n,l]
theorem LF (e:ρ[i]? = some (some (.lst ds,true)))(ef:f ρ=some (d,b))(n:bi d=true)(l:ds.length<sizeLine)(k:h (ρ.set i (some (.lst (ds++[d]),true)))=r):a8 (kx i f) h ρ=r:=dU (jG e ef n l) k
theorem qN (e:fi ρ=some ds)(k:iW tg g ds ρ=some (.nx ρ')):o7 fi tg g ρ=some (.nx ρ'):=by unfold o7;rw[e];exact k
theorem kW (e:fi (mq ρ)=some ds)(k:iW tg g ds ρ=some (.nx ρ')):pT fi tg g ρ=some (.nx ρ'):=by unfold pT;rw[e];exact k
theorem kX {f:FE}{j:Nat}(e:f ρ=some (.int j,b))(hj:j<=1000):ig f ρ=some (fW 0 j):=by
 unfold ig;rw[e];simp only[];rw[if_pos (by omega)];simp
theorem NZ (e:f ρ=some (.bl x,b)):br f ρ=some x:=by unfold br;rw[e]
theorem Cv (e:fa ρ=some ds)(k:F ds=x):fA F fa ρ=x:=by unfold fA;rw[e,vJ];exact k
theorem yU {f1 g1:D->D->OB}{fa fb fc:FE}{x y z:D}{b1 b2 b3 b4 p q:Bool}(ea:fa ρ=some (x,b1))(eb:fb ρ=some (y,b2))(ec:fc ρ=some (z,b3))(e1:f1 x y=some (.bl p,b4))(e2:p=true->g1 y z=some (.bl q,false)):nE f1 g1 fa fb fc ρ=some (.bl (p && q),false):=by
 unfold nE;rw[ea,eb,ec];simp only[vJ,e1];cases p
 ·rfl
 ·exact e2 rfl
theorem dW {f1 f2:FE}{p q b1:Bool}(e1:f1 ρ=some (.bl p,b1))(e2:p=true->f2 ρ=some (.bl q,false)):ln f1 f2 ρ=some (.bl (p && q),false):=by
 unfold ln;rw[e1];cases p
 ·rfl
 ·exact e2 rfl
theorem qO {f1 f2:FE}{p q b1:Bool}(e1:f1 ρ=some (.bl p,b1))(e2:p=false->f2 ρ=some (.bl q,false)):Nj f1 f2 ρ=some (.bl (p || q),false):=by
 unfold Nj;rw[e1];cases p
 ·exact e2 rfl
 ·rfl
theorem aF (e1:f ρ=some (d,b))(e2:fr ρ=some xs):af f fr ρ=some (d::xs):=by
 unfold af;rw[e1,vJ,e2,vJ]
theorem iq (e1:fa ρ=some (x,b1))(e2:fb ρ=some (y,b2))(e3:op x y=z):f2 op fa fb ρ=z:=by
 unfold f2;rw[e1,vJ,e2,vJ];exact e3
theorem eG (e1:c1 ρ=some p)(e2:p=true->c2 ρ=some q):dO c1 c2 ρ=some (p && q):=by
 unfold dO;rw[e1];cases p
 ·rfl
 ·exact e2 rfl
theorem dr (e1:c1 ρ=some p)(e2:p=false->c2 ρ=some q):kg c1 c2 ρ=some (p || q):=by
 unfold kg;rw[e1];cases p
 ·exact e2 rfl
 ·rfl
theorem cF (e1:c1 ρ=some p):fQ c1 ρ=some (!p):=by
 unfold fQ;rw[e1];rfl
end
theorem Sv (a c:Nat):decide ([a]<[c])=decide (a<c):=by
 congr 1;rw[List.cons_lt_cons_iff];simp
@[simp] theorem Sw (a c:Nat):BQ (.str ⟨#[a]⟩) (.str ⟨#[c]⟩)=some (.bl (decide (a<=c)),false):=by
 unfold BQ;show some (D.bl (!decide ([c]<[a])),false)=_;rw[Sv];congr 3;by_cases h:c<a
 ·rw[decide_eq_true h,decide_eq_false (by omega)];rfl
 ·rw[decide_eq_false h,decide_eq_true (by omega)];rfl
theorem bO (h:n<=100000):n<sizeLine:=Nat.lt_of_le_of_lt h (by decide)
theorem dD (h:n<=100000):n<=sizeLine:=Nat.le_of_lt (bO h)
theorem gA {α:Type}(l:List α)(g:α->D)(p:α->Bool)(h:α->D)(e:fi ρ=some (l.map g))(hl:l.length<=100000)
  (k:∀x∈l,∃ρ1,tg (g x) (dF nT cap ρ)=some ρ1/\c ρ1=some (p x)/\(p x=true->∃b,fe ρ1=some (h x,b))):bH fi nT cap tg c fe ρ=some (.lst ((l.filter p).map h),true):=by
 have key:∀l':List α,(∀x∈l',x∈l)->gN tg c fe (dF nT cap ρ) (l'.map g)=some ((l'.filter p).map h):=by
  intro l';induction l' with
  |nil=>intro _;simp
  |cons x l' ih=>
   intro hm;obtain⟨ρ1,h1,h2,h3⟩:=k x (hm x mX);have ih:=ih λy hy=>hm y (mZ _ hy);rw[uY,A1,h1,vJ,h2,vJ];cases hp:p x with
   |false=>simp[hp,ih]
   |true=>
    obtain⟨b,h4⟩:=h3 hp;simp[hp,ih,h4]
 unfold bH;rw[e,vJ,if_pos (dD (by simpa using hl)),key l λ_ h=>h,Option.map_some]
theorem qP {α:Type}(l:List α)(g:α->D)(h:α->D)(e:fi ρ=some (l.map g))(hl:l.length<=100000)
  (k:∀x∈l,∃ρ1,tg (g x) (dF nT cap ρ)=some ρ1/\∃b,fe ρ1=some (h x,b)):bH fi nT cap tg jm fe ρ=some (.lst (l.map h),true):=by
 have:=gA (c:=jm) (fe:=fe) l g (λ_=>true) h e hl λx hx=>by
  obtain⟨ρ1,h1,h2⟩:=k x hx;exact⟨ρ1,h1,rfl,λ_=>h2⟩
 rw[List.filter_eq_self.mpr λ_ _=>rfl]at this;exact this
@[simp] theorem yV {α:Type}(f:α->Bool)(l:List α):sV (l.map λx=>.bl (f x))=some (l.map f):=by
 induction l with
 |nil=>rfl
 |cons x l ih=>simp[ih]
theorem Au (h0:0<=i)(h:i.toNat<z.cps.size)(hz:z.length<=100000):bG (.str z) (.int i)=some (.str ⟨#[z.cps.toList.getD i.toNat 0]⟩,false):=by
 have hh:i.toNat<z.cps.toList.length:=by simpa using h
 simp only[bG];rw[if_pos (dD hz),wW h0 hh];simp[List.getD,h]
theorem Bb (h0:0<=i)(h:i.toNat<ds.length):bG (.lst ds) (.int i)=some (ds.getD i.toNat .non,false):=by
 simp only[bG];rw[wW h0 h];simp[List.getD,h]
theorem wg (h0:0<=i)(h:i.toNat<ds.length):bG (.tup ds) (.int i)=some (ds.getD i.toNat .non,false):=by
 simp only[bG];rw[wW h0 h];simp[List.getD,h]
theorem Cw {xs:List Int}{i:Int}(h0:0<=i)(h:i.toNat<xs.length):bG (.lst (xs.map .int)) (.int i)=some (.int (xs.getD i.toNat 0),false):=by
 rw[Bb h0 (by simpa using h)];simp[List.getD,h]
theorem mod_lt {x m:Int}(hm:0<m):0<=x % m/\x % m<m:=⟨Int.emod_nonneg _ (by omega),Int.emod_lt_of_pos _ hm⟩
theorem JP:gR [.lst ds]=some (.int ds.length,false):=rfl
theorem Cy:fu (.int i) (.int j)=some (.bl (decide (i=j)),false):=by simp
theorem b7 (x y:D)(e1:fa ρ=some (x,false))(e2:fb ρ=some (y,false))(e3:op x y=z):f2 op fa fb ρ=z:=iq e1 e2 e3
theorem cX (e:f ρ=some (.bl x,false)):br f ρ=some x:=NZ e
theorem ce (e1:f ρ=some (d,false))(e2:fr ρ=some xs):af f fr ρ=some (d::xs):=aF e1 e2
theorem aJ (ds:List D)(e:fa ρ=some ds)(k:F ds=x):fA F fa ρ=x:=Cv e k
theorem fB (d:D)(e:f ρ=some (d,false))(n:bi d=true)(k:h (ρ.set i (some (d,false)))=r):a8 (aN i f) h ρ=r:=NY e n k
@[simp] noncomputable abbrev ZY (ab:List D)(aa:Int)(t:Env):Env:=some (.tup ab,false)::some (.int aa,false)::t
@[simp] noncomputable abbrev eR (ns:List Int)(zs:List Str)(ms:Int)(dh:List Str)(R:List D)(a b:OB)(t:Env):Env:=some (.lst (ns.map .int),false)::some (.lst (zs.map .str),false)::some (.int ms,false)::a::some (.lst (dh.map .str),true)::some (.lst R,true)::b::t
end DL
namespace Lw
open PySem DL
noncomputable def yW:D:=(.tup [(.str "paper"),(.str "like"),(.str "copy")])
noncomputable def gT:List (PySem.Str×D):=[(("root" : Str),(.tup [(.str "office"),(.str "matters"),(.str "further"),(.str "rule")])),(("named" : Str),(.tup [(.str "day"),(.str "office"),(.str "person")])),(("chosen" : Str),(.tup [(.str "day"),(.str "by"),(.str "office"),(.str "person"),(.str "since")])),(("heir" : Str),(.tup [(.str "day"),(.str "by"),(.str "office"),(.str "person")])),(("death" : Str),(.tup [(.str "day"),(.str "person")])),(("lost" : Str),(.tup [(.str "day"),(.str "person")])),(("found" : Str),(.tup [(.str "day"),(.str "person")])),(("leave" : Str),(.tup [(.str "day"),(.str "by"),(.str "person"),(.str "matters"),(.str "stretch"),(.str "further")])),(("paper" : Str),(.tup [(.str "day"),(.str "by"),(.str "matters"),(.str "stretch"),(.str "whom"),(.str "pieces")])),(("like" : Str),(.tup [(.str "day"),(.str "by"),(.str "matters"),(.str "stretch"),(.str "whom"),(.str "of"),(.str "changes")])),(("copy" : Str),(.tup [(.str "day"),(.str "by"),(.str "of")])),(("call" : Str),(.tup [(.str "day"),(.str "by"),(.str "of")]))]
noncomputable def ir:D:=(.tup [(.str "chosen"),(.str "heir"),(.str "leave"),(.str "paper"),(.str "like"),(.str "copy"),(.str "call")])
def Cz:FS :=
  (bc (bH (FR (ai 0)) 2 [1] (L4 [0,1]) (br (f2 BQ (eY 1 0) (ai 2))) (ai 0)))
def cG:=aO Cz 2 0
def uC:FS :=
  (bc (f2 bG (eY 0 1) (fI 0)))
def aK:=aO uC 1 0
def uE:FS :=
  (bc (f2 bG (eY 0 1) (f2 bY (fI 1) (f2 (pz gT) (fA aK (fV 0 aj)) (ai 1)))))
def au:=aO uE 2 0
def yX:FS :=
  (a8 (eM (br (f2 fu (fA aK (fV 0 aj)) (fS "root"))) (bc (fC .non)) bp)
  (bc (fA au (fV 0 (af (fS "day") aj)))))
def aR:=aO yX 1 0
def C0:FS :=
  (bc (ln (f2 F8 (fA aK (fV 0 aj)) (ai 1)) (ln (f2 fu (fA au (fV 0 (af (fS "person") aj))) (ai 2)) (f2 BQ (fA aR (fV 0 aj)) (ai 3)))))
def pH:=aO C0 4 0
def uF:FS :=
  (bc (bH (cy (fA cG (fV 0 (fV 1 aj)))) 1 [2,3,4,0] (dM 0) (br (fA pH (af (f2 bG (ai 4) (ai 0)) (fV 1 (fV 2 (fV 3 aj)))))) (ai 0)))
def gY:=aO uF 5 0
def C1:FS :=
  (bc (f2 fu (fA gR (af (fA gY (fV 0 (fV 1 (af (fA aP (af (fS "death") aj)) (fV 2 (fV 3 aj)))))) aj)) (fI 0)))
def jH:=aO C1 4 0
def GA:FS :=
  (bc (fA aP (af (fA aR (af (f2 bG (ai 0) (ai 1)) aj)) (fV 1 aj))))
def eZ:=aO GA 2 0
def qQ:FS :=
  (a8 (aN 4 (fA gY (fV 0 (fV 1 (af (fA aP (af (fS "lost") (af (fS "found") aj))) (fV 2 (fV 3 aj)))))))
  (a8 (eM (br (f2 fu (fA gR (fV 4 aj)) (fI 0))) (bc (fC (.bl true))) bp)
  (bc (f2 fu (fA aK (af (f2 bG (ai 0) (uu (ai 4) (qt [0] (fA eZ (fV 1 (fV 0 aj)))))) aj)) (fS "found")))))
def iu:=aO qQ 4 1
def qR:FS :=
  (a8 (aN 2 (bH (cy (fA cG (fV 0 (fV 1 aj)))) 1 [0] (dM 0) (br (f2 lJ (fA aR (af (f2 bG (ai 1) (ai 0)) aj)) (fC .non))) (ai 0)))
  (bc (qw (ai 2) (qt [0] (fA eZ (fV 1 (fV 0 aj)))))))
def dX:=aO qR 2 1
def oF:FS :=
  (bc (fA aP (af (eY 0 0) (af (eY 0 2) (af (eY 0 4) aj)))))
def gB:=aO oF 1 0
def C2:FS :=
  (a8 (aN 2 (bH (cy (fA cG (fV 0 (fV 1 aj)))) 1 [0] (dM 0) jm (f2 bG (ai 1) (ai 0))))
  (bc (fA gS (af (bH (cy (ai 2)) 1 [] (dM 0) (br (f2 fu (fA aK (fV 0 aj)) (fS "root"))) (fA aP (af (fA au (fV 0 (af (fS "office") aj))) (fV 0 aj)))) aj))))
def gm:=aO C2 2 1
def qS:FS :=
  (bc (ln (nE BQ Jd (fI 0) (ai 2) (fA gR (fV 0 aj))) (f2 BQ (f2 bG (f2 bG (ai 0) (ai 2)) (fI 0)) (ai 1))))
def cA:=aO qS 3 0
def qT:FS :=
  (a8 (eM (kg (fQ (br (fA cA (fV 0 (fV 1 (fV 2 aj)))))) (br (f2 fF (fA aK (af (f2 bG (ai 0) (ai 2)) aj)) (fC ir)))) (bc (fC (.bl false))) bp)
  (a8 (aN 3 (fA au (af (f2 bG (ai 0) (ai 2)) (af (fS "by") aj))))
  (a8 (aN 4 (fA aR (af (f2 bG (ai 0) (ai 2)) aj)))
  (bc (ln (fA jH (fV 0 (fV 1 (fV 3 (fV 4 aj))))) (fA iu (fV 0 (fV 1 (fV 3 (fV 4 aj))))))))))
def fZ:=aO qT 3 2
def uG:FS :=
  (bc (ln (f2 BQ (eY 1 0) (ai 0)) (Nj (f2 EL (eY 1 1) (fC .non)) (f2 Jd (ai 0) (eY 1 1)))))
def jw:=aO uG 2 0
def qU:FS :=
  (bc (fA jw (fV 1 (af (fA aP (af (eY 0 2) (af (eY 0 3) aj))) aj))))
def cR:=aO qU 2 0
def qV:FS :=
  (bc (fA aP (af (eY 0 2) (af (eY 0 4) aj))))
def du:=aO qV 1 0
def qW:FS :=
  (a8 (eM (br (f2 fu (ai 1) (fS "last"))) (bc (f2 bG (uu (ai 0) (sZ du)) (fI 1))) bp)
  (bc (f2 bG (uw (ai 0) (sZ du)) (fI 1))))
def lQ:=aO qW 2 0
def oG:FS :=
  (a8 (aN 3 (bH (cy (ai 0)) 1 [2,1] (dM 0) (dO (br (f2 fu (eY 0 0) (fA au (fV 2 (af (fS "office") aj))))) (br (fA cR (fV 0 (fV 1 aj))))) (ai 0)))
  (a8 (aN 4 (f1 g9 (bH (cy (ai 3)) 1 [] (dM 0) jm (eY 0 1))))
  (a8 (eM (br (f2 fu (fA gR (fV 4 aj)) (fI 0))) (bc (fA aP (af (fS "none") aj))) bp)
  (a8 (eM (dO (br (f2 HS (fA gR (fV 4 aj)) (fI 1))) (br (f2 fu (fA au (fV 1 (af (fS "rule") aj))) (fS "open")))) (bc (fA aP (af (fS "parted") (fV 4 aj)))) bp)
  (a8 (aN 5 (fA lQ (fV 3 (af (fA au (fV 1 (af (fS "rule") aj))) aj))))
  (a8 (aN 6 (uw (bH (cy (ai 3)) 1 [5] (dM 0) (br (f2 fu (eY 0 1) (ai 1))) (ai 0)) (sZ du)))
  (bc (fA aP (af (fS "one") (fV 5 (af (eY 6 4) aj)))))))))))
def dY:=aO oG 3 4
def mI:FS :=
  (bc (f2 fu (Q8 (fA dY (fV 0 (fV 1 (fV 3 aj)))) BM (yi (fI 2))) (fA aP (af (fS "one") (fV 2 aj)))))
def cM:=aO mI 4 0
def jx:FS :=
  (a8 (aN 3 (f2 bG (ai 0) (ai 2)))
  (a8 (aN 4 (fA gY (fV 0 (fV 1 (af (fA aP (af (fS "death") aj)) (af (fA au (fV 3 (af (fS "person") aj))) (af (fA aR (fV 3 aj)) aj)))))))
  (bc (f2 fu (uw (ai 4) (qt [0] (fA eZ (fV 1 (fV 0 aj))))) (ai 2)))))
def ga:=aO jx 3 2
def yY:FS :=
  (a8 (aN 4 (f2 bG (ai 0) (ai 3)))
  (a8 (eM (br (f2 fu (fA aK (fV 4 aj)) (fS "death"))) (bc (fA ga (fV 0 (fV 1 (fV 3 aj))))) bp)
  (a8 (eM (br (f2 fF (fA aK (fV 4 aj)) (fA aP (af (fS "named") (af (fS "chosen") (af (fS "heir") aj)))))) (bc (fC (.bl false))) bp)
  (a8 (aN 5 (f2 Go (fA gm (fV 0 (fV 1 aj))) (fA au (fV 4 (af (fS "office") aj)))))
  (a8 (eM (br (f2 EL (ai 5) (fC .non))) (bc (fC (.bl false))) bp)
  (a8 (eM (br (f2 fu (fA aK (fV 4 aj)) (fS "named"))) (bc (fC (.bl true))) bp)
  (bc (ln (fA fZ (fV 0 (fV 1 (fV 3 aj)))) (fA cM (fV 2 (fV 5 (af (fA au (fV 4 (af (fS "by") aj))) (af (fA aR (fV 4 aj)) aj)))))))))))))
def mJ:=aO yY 4 2
def oH:FS :=
  (bc (fA aP (af (fA au (fV 0 (af (fS "office") aj))) (af (fA au (fV 0 (af (fS "person") aj))) (fV 1 (af (fC .non) (fV 2 aj)))))))
def gD:=aO oH 3 0
def qX:FS :=
  (eM (kg (br (f2 fF (eY 5 0) (ai 1))) (kg (br (f2 sT (eY 5 1) (ai 2))) (fQ (kg (br (fA cR (fV 5 (fV 3 aj)))) (br (f2 HS (eY 5 2) (ai 3))))))) (kx 4 (ai 5)) (eM (br (f2 Jd (eY 5 2) (ai 3))) (kx 4 (fA aP (af (eY 5 0) (fV 2 (af (eY 5 2) (fV 3 (af (eY 5 4) aj))))))) bp))
def C3:FS :=
  (a8 (aN 4 (fA bL aj))
  (a8 (pT (cy (ai 0)) (dM 5) qX)
  (jT 4)))
def pJ:=aO C3 4 2
def kB:FS :=
  (a8 (aN 3 (fA au (fV 1 (af (fS "since") aj))))
  (a8 (aN 4 (fA pJ (fV 0 (af (fA bL (af (fA au (fV 1 (af (fS "office") aj))) aj)) (af (fA au (fV 1 (af (fS "by") aj))) (fV 3 aj))))))
  (bc (f2 bY (ai 4) (fA bL (af (fA gD (fV 1 (fV 3 (fV 2 aj)))) aj))))))
def iw:=aO kB 3 2
def gU:FS :=
  (a8 (aN 9 (Gz (ai 3) (fV 8 (fV 5 aj))))
  (eM (dO (br (f2 lJ (ai 9) (fC .non))) (br (fA jH (fV 0 (fV 1 (fV 9 (fV 6 aj))))))) (kx 7 (fA aP (fV 8 (fV 9 (fV 6 (af (fC .non) (fV 4 aj))))))) bp))
def oJ:FS :=
  (a8 (aN 5 (fA au (af (f2 bG (ai 0) (ai 4)) (af (fS "person") aj))))
  (a8 (aN 6 (fA aR (af (f2 bG (ai 0) (ai 4)) aj)))
  (a8 (aN 7 (fA bL aj))
  (a8 (QD [5,6] (pT (cy (f1 g9 (bH (cy (ai 2)) 1 [5,6] (dM 0) (dO (br (f2 fu (eY 0 1) (ai 1))) (br (fA cR (fV 0 (fV 2 aj))))) (eY 0 0)))) (dM 8) gU))
  (jT 7)))))
def kE:=aO oJ 5 5
def l5:FS :=
  (a8 (aN 5 (bH (cy (ai 2)) 1 [] (dM 0) jm (eY 0 0)))
  (a8 (aN 6 (fA pJ (fV 2 (fV 5 (af (fA au (af (f2 bG (ai 0) (ai 4)) (af (fS "person") aj))) (af (fA aR (af (f2 bG (ai 0) (ai 4)) aj)) aj))))))
  (bc (f2 bY (ai 6) (fA kE (fV 0 (fV 1 (fV 2 (fV 3 (fV 4 aj))))))))))
def jc:=aO l5 5 2
def kY:FS :=
  (a8 (aN 5 (f2 bG (ai 0) (ai 4)))
  (a8 (eM (fQ (br (fA mJ (fV 0 (fV 1 (fV 2 (fV 4 aj))))))) L8 bp)
  (eM (br (f2 fu (fA aK (fV 5 aj)) (fS "named"))) (aN 2 (f2 bY (ai 2) (fA bL (af (fA gD (fV 5 (af (fA aR (fV 5 aj)) (fV 4 aj)))) aj)))) (eM (br (f2 fu (fA aK (fV 5 aj)) (fS "chosen"))) (aN 2 (fA iw (fV 2 (fV 5 (fV 4 aj))))) (eM (br (f2 fu (fA aK (fV 5 aj)) (fS "heir"))) (u0 3 (af (fA au (fV 5 (af (fS "office") aj))) (af (fA au (fV 5 (af (fS "by") aj))) aj)) (fA au (fV 5 (af (fS "person") aj)))) (aN 2 (fA jc (fV 0 (fV 1 (fV 2 (fV 3 (fV 4 aj))))))))))))
def yZ:FS :=
  (a8 (aN 2 (fA bL aj))
  (a8 (Gq 3)
  (a8 (pT (cy (fA dX (fV 0 (fV 1 aj)))) (dM 4) kY)
  (bc (qw (ai 2) (sZ gB))))))
def qY:=aO yZ 2 4
def qZ:FS :=
  (bc (ln (fA cA (fV 0 (fV 1 (fV 2 aj)))) (f2 F8 (fA aK (af (f2 bG (ai 0) (ai 2)) aj)) (fC yW))))
def fg:=aO qZ 3 0
def ra:FS :=
  (bc (ln (fA cA (fV 0 (fV 1 (fV 2 aj)))) (f2 fu (fA aK (af (f2 bG (ai 0) (ai 2)) aj)) (fS "leave"))))
def gb:=aO ra 3 0
def rb:FS :=
  (bc (Nj (fA gb (fV 0 (fV 1 (fV 2 aj)))) (fA fg (fV 0 (fV 1 (fV 2 aj))))))
def dZ:=aO rb 3 0
def re:FS :=
  (bc (f2 fu (f2 Qt (ai 0) (ai 1)) (ai 1)))
def iz:=aO re 2 0
def oK:FS :=
  (a8 (eM (fQ (br (fA iz (af (fA au (fV 1 (af (fS "matters") aj))) (af (fA au (fV 0 (af (fS "matters") aj))) aj))))) (bc (fS "matters")) bp)
  (a8 (eM (dO (br (f2 fu (fA aK (fV 0 aj)) (fS "leave"))) (br (f2 Tr (fA au (fV 0 (af (fS "further") aj))) (fA au (fV 1 (af (fS "further") aj)))))) (bc (fS "further")) bp)
  (bc (fC .non))))
def iQ:=aO oK 2 0
def mK:FS :=
  (a8 (eM (fQ (br (fA cM (fV 0 (fV 2 (af (fA au (fV 1 (af (fS "by") aj))) (af (fA aR (fV 1 aj)) aj))))))) (bc (fS "holder")) bp)
  (bc (fA iQ (fV 1 (fV 2 aj)))))
def gV:=aO mK 3 0
def kF:FS :=
  (a8 (aN 4 (f2 bG (ai 0) (ai 3)))
  (a8 (aN 5 (bH (qG (fA gm (fV 0 (fV 1 aj)))) 1 [2,4] (dM 0) (br (f2 EL (fA gV (fV 1 (fV 2 (fV 0 aj)))) (fC .non))) (ai 0)))
  (bc (bH (cy (ai 5)) 1 [2,4] (dM 0) jm (fA aP (af (fS "office") (af (fA au (fV 0 (af (fS "office") aj))) (af (f2 bG (fA dY (fV 1 (fV 0 (af (fA aR (fV 2 aj)) aj)))) (fI 2)) aj))))))))
def i6:=aO kF 4 2
def l7:FS :=
  (a8 (eM (br (f2 EL (ai 1) (fC .non))) (bc (fC (.bl true))) bp)
  (bc (ln (f2 lJ (ai 0) (fC .non)) (f2 BQ (ai 0) (ai 1)))))
def jd:=aO l7 2 0
def oM:FS :=
  (bc (ln (f2 BQ (eY 1 0) (eY 0 0)) (fA jd (af (eY 0 1) (af (eY 1 1) aj)))))
def iR:=aO oM 2 0
def rf:FS :=
  (bc (f2 Mw (fA eZ (fV 0 (fV 1 aj))) (fA eZ (fV 0 (fV 2 aj)))))
def gd:=aO rf 3 0
def oN:FS :=
  (a8 (aN 3 (f2 bG (ai 0) (ai 1)))
  (a8 (aN 4 (fA au (af (f2 bG (ai 0) (ai 2)) (af (fS "stretch") aj))))
  (a8 (eM (fQ (br (fA gd (fV 0 (fV 2 (fV 1 aj)))))) (bc (fS "order")) bp)
  (a8 (eM (kg (fQ (br (fA jw (af (fA aR (fV 3 aj)) (fV 4 aj))))) (fQ (br (fA iR (af (fA au (fV 3 (af (fS "stretch") aj))) (fV 4 aj)))))) (bc (fS "days")) bp)
  (bc (fA iQ (fV 3 (af (f2 bG (ai 0) (ai 2)) aj))))))))
def iS:=aO oN 3 2
def oP:FS :=
  (a8 (aN 3 (bH (cy (fA cG (fV 0 (fV 1 aj)))) 1 [0,1] (dM 0) (br (fA gb (fV 1 (fV 2 (fV 0 aj))))) (ai 0)))
  (bc (bH (cy (ai 3)) 1 [2,0] (dM 0) (br (f2 fu (fA au (af (f2 bG (ai 2) (ai 0)) (af (fS "person") aj))) (ai 1))) (ai 0))))
def kG:=aO oP 3 1
def lA:FS :=
  (a8 (aN 3 (fA kG (fV 0 (fV 1 (af (fA au (af (f2 bG (ai 0) (ai 2)) (af (fS "by") aj))) aj)))))
  (bc (bH (cy (ai 3)) 1 [0,2] (dM 0) (br (f2 EL (fA iS (fV 1 (fV 2 (fV 0 aj)))) (fC .non))) (fA aP (af (fS "leave") (fV 0 aj))))))
def je:=aO lA 3 1
def mL:FS :=
  (a8 (aN 3 (fA au (af (f2 bG (ai 0) (ai 2)) (af (fS "of") aj))))
  (a8 (eM (dO (br (fA fg (fV 0 (fV 1 (fV 3 aj))))) (br (fA gd (fV 0 (fV 3 (fV 2 aj)))))) (bc (fA bL (af (fA aP (af (fS "copy") (fV 3 aj))) aj))) bp)
  (bc (fA bL aj))))
def jI:=aO mL 3 1
def rg:FS :=
  (a8 (eM (fQ (br (fA dZ (fV 0 (fV 1 (fV 3 aj)))))) (bc (fA bL aj)) bp)
  (a8 (eM (br (f2 fu (fA aK (af (f2 bG (ai 0) (ai 3)) aj)) (fS "copy"))) (bc (fA jI (fV 0 (fV 1 (fV 3 aj))))) bp)
  (a8 (aN 4 (f2 bY (fA i6 (fV 0 (fV 1 (fV 2 (fV 3 aj))))) (fA je (fV 0 (fV 1 (fV 3 aj))))))
  (bc (AZ (ai 4) (qt [] (fA aP (af (f2 bG (ai 0) (f1 ym (fI 1))) (fV 0 aj)))))))))
def fj:=aO rg 4 1
def rh:FS :=
  (a8 (aN 5 (f2 bG (ai 0) (ai 4)))
  (a8 (aN 6 (fA au (af (f2 bG (ai 0) (ai 3)) (af (fS "by") aj))))
  (a8 (eM (br (f2 fu (ai 6) (fA au (fV 5 (af (fS "by") aj))))) (bc (fC (.bl true))) bp)
  (a8 (eM (br (f2 fu (fA aK (fV 5 aj)) (fS "copy"))) (bc (fC (.bl false))) bp)
  (a8 (aN 7 (bH (qG (fA gm (fV 0 (fV 1 aj)))) 1 [5] (dM 0) (br (fA iz (af (fA au (fV 0 (af (fS "matters") aj))) (af (fA au (fV 1 (af (fS "matters") aj))) aj)))) (ai 0)))
  (bc (fA FJ (af (bH (cy (ai 7)) 1 [2,6,0,3] (dM 0) jm (fA cM (fV 1 (fV 0 (fV 2 (af (fA aR (af (f2 bG (ai 3) (ai 4)) aj)) aj)))))) aj))))))))
def lR:=aO rh 5 3
def rj:FS :=
  (a8 (aN 6 (f2 bG (ai 0) (ai 3)))
  (a8 (eM (kg (br (f2 sT (fA aK (fV 6 aj)) (fS "call"))) (kg (br (f2 sT (fA au (fV 6 (af (fS "of") aj))) (ai 4))) (br (f2 HS (fA aR (fV 6 aj)) (ai 5))))) (bc (fC (.bl false))) bp)
  (bc (ln (fA fZ (fV 0 (fV 1 (fV 3 aj)))) (fA lR (fV 0 (fV 1 (fV 2 (fV 3 (fV 4 aj))))))))))
def jJ:=aO rj 6 1
def rm:FS :=
  (a8 (eM (fQ (br (fA dZ (fV 0 (fV 1 (fV 3 aj)))))) (bc (fA bL aj)) bp)
  (bc (bH (cy (fA cG (fV 0 (fV 1 aj)))) 1 [0,1,2,3,4] (dM 0) (br (fA jJ (fV 1 (fV 2 (fV 3 (fV 0 (fV 4 (fV 5 aj)))))))) (ai 0))))
def lS:=aO rm 5 0
def za:FS :=
  (a8 (eM (kg (fQ (br (fA fZ (fV 0 (fV 1 (fV 3 aj)))))) (br (f2 HS (fA aR (af (f2 bG (ai 0) (ai 3)) aj)) (ai 4)))) (bc (fC (.bl false))) bp)
  (bc (f2 fu (fA gR (af (fA lS (fV 0 (fV 1 (fV 2 (fV 3 (fV 4 aj)))))) aj)) (fI 0))))
def mM:=aO za 5 0
def zb:FS :=
  (eM (dO (br (fA dZ (fV 0 (fV 1 (fV 5 aj))))) (br (fA mM (fV 0 (fV 1 (fV 3 (fV 5 (fV 2 aj)))))))) (qI 4 (ai 5) (fA fj (fV 0 (fV 1 (fV 3 (fV 5 aj)))))) bp)
def C4:FS :=
  (a8 (xQ 3 (fA qY (fV 0 (fV 1 aj))))
  (a8 (Cp 4)
  (a8 (pT (cy (fA dX (fV 0 (fV 1 aj)))) (dM 5) zb)
  (jT 4))))
def mN:=aO C4 3 3
def C5:FS :=
  (bc (Nj (f2 fu (eY 0 0) (fS "office")) (f2 Ss (eY 0 1) (ai 1))))
def mO:=aO C5 2 0
def zc:FS :=
  (eM (br (fA FJ (af (bH (cy (ai 3)) 1 [1] (dM 0) jm (fA mO (fV 0 (fV 1 aj)))) aj))) (yO 1 (ai 2) (fC (.bl true))) bp)
def C6:FS :=
  (a8 (Cp 1)
  (a8 (pT (pF (ai 0)) (L4 [2,3]) zc)
  (jT 1)))
def jK:=aO C6 1 3
def rq:FS :=
  (bc (fA jv (af (fA jK (af (fA mN (fV 0 (fV 1 (fV 2 aj)))) aj)) aj)))
def cB:=aO rq 3 0
def uH:FS :=
  (a8 (aN 4 (fA mN (fV 0 (fV 1 (fV 2 aj)))))
  (a8 (aN 5 (fA jK (af (fA gS (af (bH (pF (ai 4)) 2 [3] (L4 [0,1]) (br (f2 sT (ai 0) (ai 2))) (fA aP (fV 0 (fV 1 aj)))) aj)) aj)))
  (bc (fA iO (af (bH (AY (fA jK (fV 4 aj))) 1 [5] (dM 0) (br (f2 qA (ai 0) (ai 1))) (ai 0)) aj)))))
def nR:=aO uH 4 2
def zd:FS :=
  (a8 (aN 2 (fI 5))
  (a8 (eM (br (f2 HS (fA gR (fV 0 aj)) (fI 0))) (aN 2 (f2 bG (ai 0) (f2 bE (ai 1) (fA gR (fV 0 aj))))) bp)
  (a8 (aN 2 (f2 bE (f2 gu (f2 bY (f2 bY (f2 bE (ai 2) (fI 2147483629)) (f2 gu (fI 6151) (ai 1))) (fI 1)) (fI 48271)) (fI 2147483647)))
  (bc (f2 bE (f2 gu (ai 2) (f2 bY (f2 bY (f2 bE (ai 2) (fI 65519)) (ai 1)) (fI 2))) (fI 2147483629))))))
def cY:=aO zd 2 1
def lU:FS :=
  (a8 (aN 6 (fA jF (fV 2 aj)))
  (a8 (DF 6 (ai 3) (f2 bG (ai 1) (f2 bE (f2 bY (f2 cU (ai 0) (fI 64)) (f2 gu (fI 3) (ai 5))) (fI 26))))
  (kx 4 (f2 o9 (fS "") (ai 6)))))
def uI:FS :=
  (a8 (aN 1 (fS "abcdefghijklmnopqrstuvwxyz"))
  (a8 (aN 2 (bH (ig (f2 bY (fI 1) (f2 bE (ai 0) (fI 8)))) 1 [1,0] (dM 0) jm (f2 bG (ai 1) (f2 bE (f2 cU (ai 2) (f2 bY (fI 3) (f2 gu (fI 4) (ai 0)))) (fI 26)))))
  (a8 (aN 3 (f2 bE (f2 cU (ai 0) (fI 8)) (fA gR (fV 2 aj))))
  (a8 (aN 4 (fA bL aj))
  (a8 (o7 (ig (fI 7)) (dM 5) lU)
  (a8 (eM (br (f2 fu (f2 bE (f2 cU (ai 0) (fI 1000)) (fI 8)) (fI 1))) (DF 4 (fI 5) (eY 4 0)) bp)
  (jT 4)))))))
def nS:=aO uI 1 6
def oQ:FS :=
  (a8 (aN 3 (fA bL (af (fA aP (af (fI 0) (af (fC .non) aj))) (af (fA aP (fV 1 (af (fC .non) aj))) (af (fA aP (fV 1 (af (f2 bY (ai 1) (f2 gu (fI 3) (ai 2))) aj))) (af (fA aP (af (fI 0) (af (f2 bY (ai 1) (f2 gu (fI 2) (ai 2))) aj))) (af (fA aP (af (fI 0) (af (f2 gu (fI 9) (ai 2)) aj))) aj)))))))
  (a8 (aN 3 (f2 bY (ai 3) (fA bL (af (fA aP (af (f2 bY (ai 1) (ai 2)) (af (f2 bY (ai 1) (f2 gu (fI 4) (ai 2))) aj))) (af (fA aP (af (f2 cU (ai 1) (fI 2)) (af (f2 bY (ai 1) (f2 gu (fI 6) (ai 2))) aj))) (af (fA aP (af (fI 0) (af (fC .non) aj))) aj))))))
  (bc (f2 bG (ai 3) (f2 bE (ai 0) (fI 8))))))
def gE:=aO oQ 3 1
def ze:FS :=
  (a8 (aN 7 (f2 bY (f2 bY (DT (fA bL (af (fS "leave") aj)) (fI 5)) (DT (fA bL (af (fS "paper") aj)) (fI 2))) (fA bL (af (fS "like") (af (fS "copy") (af (fS "copy") (af (fS "call") (af (fS "call") aj))))))))
  (a8 (aN 7 (f2 bY (ai 7) (fA bL (af (fS "named") (af (fS "death") (af (fS "lost") (af (fS "found") (af (fS "chosen") (af (fS "heir") aj)))))))))
  (a8 (aN 8 (f2 bG (ai 7) (f2 bE (ai 1) (fI 18))))
  (a8 (aN 9 (f2 bG (ai 5) (f2 A3 (f1 ym (fI 1)) (f2 bE (f2 cU (ai 1) (fI 18)) (fA Jg (af (fI 3) (af (fA gR (fV 5 aj)) aj)))))))
  (a8 (eM (br (f2 fu (f2 bE (f2 cU (ai 1) (fI 54)) (fI 6)) (fI 1))) (aN 9 (f2 bG (ai 3) (f2 bE (f2 cU (ai 1) (fI 324)) (fI 5)))) bp)
  (a8 (aN 10 (f2 bG (ai 3) (f2 bE (f2 cU (ai 1) (fI 1620)) (fI 5))))
  (a8 (aN 11 (fA Jf (af (fI 0) (af (f2 A3 (f2 A3 (ai 0) (fI 1)) (f2 bE (ai 2) (fI 4))) aj))))
  (a8 (eM (br (f2 fu (f2 bE (f2 cU (ai 2) (fI 4)) (fI 8)) (fI 1))) (aN 11 (f2 bE (f2 cU (ai 2) (fI 32)) (fI 60))) bp)
  (a8 (eM (br (f2 fu (ai 8) (fS "leave"))) (a8 (aN 12 (f2 bG (fA bL (af (fI 3) (af (fI 1) (af (fI 7) (af (fI 2) (af (fI 255) (af (fI 5) (af (fI 1) (af (fI 3) aj))))))))) (f2 bE (f2 cU (ai 1) (fI 8100)) (fI 8))))
  (a8 (aN 13 (f2 bE (f2 cU (ai 2) (fI 256)) (f2 bG (fA bL (af (fI 5) (af (fI 5) (af (fI 5) (af (fI 10) aj))))) (f2 bE (f2 cU (ai 2) (fI 2560)) (fI 4)))))
  (bc (fA aP (fV 8 (fV 4 (fV 9 (fV 10 (fV 12 (af (fA gE (af (f2 cU (ai 2) (fI 32)) (fV 4 (fV 6 aj)))) (fV 13 aj))))))))))) bp)
  (a8 (eM (kg (br (f2 fu (ai 8) (fS "paper"))) (br (f2 fu (ai 8) (fS "like")))) (a8 (aN 12 (f2 bG (fA bL (af (fI 1) (af (fI 1) (af (fI 3) (af (fI 2) (af (fI 4) (af (fI 5) (af (fI 128) (af (fI 7) aj))))))))) (f2 bE (f2 cU (ai 1) (fI 8100)) (fI 8))))
  (a8 (aN 14 (fA aP (fV 8 (fV 4 (fV 9 (fV 12 (af (fA gE (af (f2 cU (ai 2) (fI 32)) (fV 4 (fV 6 aj)))) (af (f2 bG (fA bL (af (fC .non) (fV 10 aj))) (f2 bE (f2 cU (ai 2) (fI 256)) (fI 2))) aj))))))))
  (a8 (eM (br (f2 fu (ai 8) (fS "like"))) (bc (f2 qz (ai 14) (fA aP (fV 11 (af (fA aP (af (fA aP (af (fI 0) (fV 10 aj))) aj)) aj))))) bp)
  (bc (f2 qz (ai 14) (fA aP (af (fA aP (fV 10 aj)) aj))))))) bp)
  (a8 (eM (br (f2 F8 (ai 8) (fA aP (af (fS "copy") (af (fS "call") aj))))) (bc (fA aP (fV 8 (fV 4 (fV 9 (fV 11 aj)))))) bp)
  (a8 (eM (br (f2 fu (ai 8) (fS "named"))) (bc (fA aP (fV 8 (fV 4 (af (f2 bG (ai 3) (f2 bY (fI 5) (f2 bE (ai 2) (fI 2)))) (fV 10 aj)))))) bp)
  (a8 (eM (br (f2 fu (ai 8) (fS "chosen"))) (bc (fA aP (fV 8 (fV 4 (fV 9 (af (f2 bG (ai 3) (f2 bY (fI 5) (f2 bE (ai 2) (fI 2)))) (fV 10 (af (f2 bY (ai 4) (f2 gu (f2 bE (f2 cU (ai 2) (fI 32)) (fI 3)) (ai 6))) aj)))))))) bp)
  (a8 (eM (br (f2 fu (ai 8) (fS "heir"))) (bc (fA aP (fV 8 (fV 4 (fV 9 (af (f2 bG (ai 3) (f2 bY (fI 5) (f2 bE (ai 2) (fI 2)))) (fV 10 aj))))))) bp)
  (bc (fA aP (fV 8 (fV 4 (fV 9 aj)))))))))))))))))))
def rz:=aO ze 7 8
def nU:FS :=
  (a8 (aN 8 (f2 bG (fA bL (af (fS "open") (af (fS "first") (af (fS "last") aj)))) (f2 bE (f2 cU (ai 4) (f2 bY (fI 64) (f2 gu (fI 9) (ai 7)))) (fI 3))))
  (a8 (aN 9 (f2 bG (fA bL (af (fI 7) (af (fI 255) (af (fI 3) (af (fI 15) aj))))) (f2 bE (f2 cU (ai 4) (f2 bY (fI 2) (f2 gu (fI 8) (ai 7)))) (fI 4))))
  (a8 (aN 10 (f2 gu (f2 gu (fA AG (af (f2 fu (f2 bE (f2 cU (ai 4) (f2 bY (fI 512) (ai 7))) (fI 8)) (fI 1)) aj)) (fI 4)) (ai 2)))
  (a8 (aN 11 (f2 bE (f2 cU (ai 4) (f2 bY (fI 1024) (f2 gu (fI 5) (ai 7)))) (f2 bG (fA bL (af (fI 5) (af (fI 5) (af (fI 10) aj)))) (f2 bE (f2 cU (ai 4) (f2 bY (fI 31) (ai 7))) (fI 3)))))
  (a8 (kx 5 (fA aP (fV 10 (af (fA aP (af (fS "root") (af (f2 bG (ai 1) (f2 bY (fI 5) (ai 7))) (fV 9 (fV 11 (fV 8 aj)))))) aj))))
  (a8 (kx 5 (fA aP (af (fI 0) (af (fA aP (af (fS "named") (af (fI 0) (af (f2 bG (ai 1) (f2 bY (fI 5) (ai 7))) (af (f2 bG (ai 1) (ai 7)) aj))))) aj))))
  (kx 6 (f2 bG (ai 1) (ai 7)))))))))
def nV:FS :=
  (a8 (aN 12 (fA cY (fV 0 (af (f2 bY (fI 5) (ai 7)) aj))))
  (a8 (aN 13 (f2 gu (f2 bY (f2 cU (ai 7) (fI 2)) (f2 bE (f2 cU (ai 12) (fI 7)) (fI 3))) (ai 2)))
  (a8 (aN 14 (fA rz (af (fA gR (fV 5 aj)) (af (fA cY (fV 0 (af (f2 bY (fI 30) (ai 7)) aj))) (af (fA cY (fV 0 (af (f2 bY (fI 60) (ai 7)) aj))) (fV 1 (fV 13 (fV 6 (fV 2 aj)))))))))
  (a8 (eM (br (f2 F8 (eY 14 0) (fA aP (af (fS "leave") (af (fS "named") aj))))) (kx 6 (eY 14 3)) bp)
  (a8 (eM (br (f2 fu (eY 14 0) (fS "chosen"))) (kx 6 (eY 14 4)) bp)
  (kx 5 (fA aP (af (f2 bY (ai 13) (f2 gu (f2 bG (fA bL (af (fI 0) (af (fI 0) (af (fI 0) (af (fI 0) (af (fI 1) (af (fI 4) aj))))))) (f2 bE (f2 cU (ai 12) (fI 21)) (fI 6))) (ai 2))) (fV 14 aj)))))))))
def zf:FS :=
  (a8 (aN 4 (fA cY (fV 0 (af (fI 1) aj))))
  (a8 (aN 5 (fA bL aj))
  (a8 (aN 6 (fA bL aj))
  (a8 (o7 (ig (f2 bY (fI 1) (f2 bE (ai 4) (fI 2)))) (dM 7) nU)
  (a8 (o7 (ig (f2 bY (fI 3) (f2 bE (fA cY (fV 0 (af (fI 2) aj))) (ai 3)))) (dM 7) nV)
  (bc (fA ij (fV 5 aj))))))))
def r0:=aO zf 4 11
def Bc:FS :=
  (a8 (aN 8 (f2 bG (f2 bG (f2 bG (ai 3) (ai 7)) (fI 1)) (fI 2)))
  (eM (dO (br (fA jH (fV 3 (fV 4 (fV 8 (fV 5 aj)))))) (br (fA iu (fV 3 (fV 4 (fV 8 (fV 5 aj))))))) (a8 (aN 9 (fA nR (fV 3 (fV 4 (fV 5 (fV 7 aj))))))
  (a8 (aN 10 (f2 qz (ai 3) (fA aP (af (fA aP (fV 5 (af (fA aP (af (fS "call") (fV 5 (fV 8 (fV 7 aj))))) aj))) aj))))
  (a8 (eM (br (f2 sT (fA cB (fV 10 (fV 4 (fV 5 aj)))) (bH (cy (ai 6)) 1 [9] (dM 0) (br (f2 fF (ai 0) (ai 1))) (ai 0)))) (bc (fC (.bl false))) bp)
  (a8 (aN 11 (f2 bE (fA cY (fV 0 (af (fI 91) aj))) (f2 bY (ai 5) (fI 1))))
  (a8 (aN 12 (fA cB (fV 3 (fV 4 (fV 11 aj)))))
  (a8 (eM (dO (br (f2 Jd (ai 11) (ai 5))) (br (f2 sT (fA cB (fV 10 (fV 4 (fV 11 aj)))) (ai 12)))) (bc (fC (.bl false))) bp)
  (a8 (aN 13 (fA aP (af (fS "paper") (fV 5 (fV 8 (af (fI 1) (af (fA aP (af (fI 0) (af (fC .non) aj))) (af (fC .non) (af (fA aP (fV 8 aj)) aj)))))))))
  (a8 (aN 14 (fA cB (af (f2 qz (ai 3) (fA aP (af (fA aP (fV 5 (fV 13 aj))) aj))) (fV 4 (fV 5 aj)))))
  (eM (br (f2 sT (bH (cy (ai 14)) 1 [3] (dM 0) (br (f2 Jd (ai 0) (fA gR (fV 1 aj)))) (ai 0)) (ai 6))) (bc (fC (.bl false))) bp))))))))) bp))
def LG:FS :=
  (a8 (aN 1 (fA nS (af (fA cY (fV 0 (af (fI 0) aj))) aj)))
  (a8 (aN 2 (f2 bG (fA bL (af (fI 1) (af (fI 1) (af (fI 500) aj)))) (f2 bE (fA cY (fV 0 (af (fI 3) aj))) (fI 3))))
  (a8 (aN 3 (fA r0 (fV 0 (fV 1 (fV 2 (af (fI 10) aj))))))
  (a8 (aN 4 (f2 bG (fA bL (af (fI 9999) (af (f2 gu (f2 bE (f2 cU (fA cY (fV 0 (af (fI 3) aj))) (fI 3)) (fI 13)) (ai 2)) aj))) (f2 cU (f2 bE (fA cY (fV 0 (af (fI 4) aj))) (fI 3)) (fI 2))))
  (a8 (aN 4 (fI 9999))
  (a8 (aN 5 (f2 gu (f2 bE (fA cY (fV 0 (af (fI 90) aj))) (fI 9)) (ai 2)))
  (a8 (aN 6 (fA cB (fV 3 (fV 4 (fV 5 aj)))))
  (a8 (QD [6] (pT (cy (Q8 (ai 6) BM (yi (fI 6)))) (dM 7) Bc))
  (bc (fC (.bl true)))))))))))
def F_law:=aO LG 1 14
end Lw
namespace DL
open PySem L2
theorem jL:∀(n m:Nat)(d:D),n<=m->aq n d=true->aq m d=true
 |n,m,.non,_,_=>by simp
 |n,m,.bl _,_,_=>by simp
 |n,m,.int _,_,_=>by simp
 |n,m,.str _,_,_=>by simp
 |n,m,.ty _,_,h=>by cases n<;>simp[aq]at h
 |n,m,.dk _ _,_,h=>by simp at h
 |n,m,.dt _ _,_,h=>by simp at h
 |0,m,.tup _,_,h=>by simp[aq]at h
 |0,m,.lst _,_,h=>by simp[aq]at h
 |n+1,0,_,h,_=>by omega
 |n+1,m+1,.tup ds,hl,h=>by
  simp only[aq,List.all_eq_true]at h ⊢;exact λd hd=>jL n m d (by omega) (h d hd)
 |n+1,m+1,.lst ds,hl,h=>by
  simp only[aq,List.all_eq_true]at h ⊢;exact λd hd=>jL n m d (by omega) (h d hd)
theorem nW:∀(ds:List D),(∀d∈ds,bz d d=true)->dn ds ds=true
 |[],_=>by simp only[dn]
 |d::ds,h=>by
  simp only[dn,h d mX,Bool.true_and];exact nW ds λe he=>h e (mZ _ he)
theorem r6:∀(n:Nat)(d:D),aq n d=true->bz d d=true
 |n,.non,_=>by simp
 |n,.bl _,_=>by simp
 |n,.int _,_=>by simp
 |n,.str _,_=>by simp
 |n,.ty _,h=>by cases n<;>simp[aq]at h
 |n,.dk _ _,h=>by simp at h
 |n,.dt _ _,h=>by simp at h
 |0,.tup _,h=>by simp[aq]at h
 |0,.lst _,h=>by simp[aq]at h
 |n+1,.tup ds,h=>by
  simp only[aq,List.all_eq_true]at h;simp only[bz];exact nW ds λd hd=>r6 n d (h d hd)
 |n+1,.lst ds,h=>by
  simp only[aq,List.all_eq_true]at h;simp only[bz];exact nW ds λd hd=>r6 n d (h d hd)
end DL
namespace DL
@[simp] noncomputable abbrev sF (d:D):OB:=some (d,false)
@[simp] noncomputable abbrev lT (ds:List D):OB:=some (.lst ds,true)
theorem df {r:OB}{d:D}{b:Bool}(h:TF r d b=true:=by decide +kernel):r=some (d,b):=NX h
theorem cP {p q:Prop}[Decidable p](h:p)(n:decide p=false:=by decide +kernel):q:=absurd h (of_decide_eq_false n)
end DL
namespace Lw
open PySem DL L2
theorem JQ (d:D)(r:List D):o4 (d::r) 0=some d:=by have:=k9 (xs:=d::r) (j:=0) (by simp);simpa using this
theorem HX (d e:D)(r:List D):o4 (d::e::r) 1=some e:=by have:=k9 (xs:=d::e::r) (j:=1) (by simp);simpa using this
theorem VF (d e f:D)(r:List D):o4 (d::e::f::r) 2=some f:=by have:=k9 (xs:=d::e::f::r) (j:=2) (by simp);simpa using this
noncomputable def cN (k:Str):Bool:=decide (k = "death") || decide (k = "lost") || decide (k = "found")
noncomputable def dw (k:Str):Bool:=decide (k = "chosen") || decide (k = "heir") || decide (k = "leave") || decide (k = "paper") || decide (k = "like") || decide (k = "copy") || decide (k = "call")
structure DeedP (kind:Str)(aD:List D):Prop where
 flat:bw aD=true
 plain:aD.all (aq 5)=true
 three:cN kind=true->∃(day:Int)(p:Str),aD=[.int day,.str p]
 slg:dw kind=true->∃(day:Int)(p:Str)(r:List D),aD=.int day::.str p::r
noncomputable def row (h:Int)(kind:Str)(aD:List D):D:=.tup [.int h,.tup (.str kind::aD)]
def nX (r:D):Prop:=∃h kind aD,r=row h kind aD/\DeedP kind aD
theorem nX.flat (h:nX r):bi r=true:=by obtain⟨a,k,aD,rfl,dp⟩:=h;simp[row,dp.flat]
theorem nX.plain (h:nX r):aq 39 r=true:=by
 obtain⟨a,k,aD,rfl,dp⟩:=h;refine jL 7 39 _ (by decide) ?_;have:=dp.plain;simp only[row,aq,List.all_cons,List.all_nil,Bool.and_true,Bool.true_and];exact this
theorem bF (h:∀d∈ds,bi d=true):bw ds=true:=by
 induction ds with
 |nil=>rfl
 |cons d r ih=>simp[h d (by simp),ih λe he=>h e (by simp[he])]
theorem eA (zs:List Str):bw (zs.map D.str)=true:=by
 induction zs with
 |nil=>rfl
 |cons a l ih=>simp[ih]
noncomputable def aT:D->Int
 |.tup (.int h::_)=>h
 |_=>0
noncomputable def kindOf:D->Str
 |.tup [_,.tup (.str k::_)]=>k
 |_=>("" : Str)
noncomputable def aE:D->Int
 |.tup [_,.tup (_::.int d::_)]=>d
 |_=>0
noncomputable def rA (p:Str)(day:Int):List D->Bool
 |[.int d,.str q]=>decide (q=p) && decide (d<=day)
 |_=>false
def told (ws:List Str)(p:Str)(day:Int):D->Bool
 |.tup [_,.tup (.str kind::aD)]=>decide (kind∈ws) && rA p day aD
 |_=>false
theorem iT (h:Int)(kind:Str)(aD:List D):aK [row h kind aD]=sF (.str kind):=aw rfl (ay (by simp[row,HX,JQ]))
theorem kH (h:cN k=true):k = "death" ∨ k = "lost" ∨ k = "found":=by
 unfold cN at h;simp only[Bool.or_eq_true,decide_eq_true_eq]at h;rcases h with (h|h)|h
 ·exact .inl h
 ·exact .inr (.inl h)
 ·exact .inr (.inr h)
theorem lV (h:dw k=true):k = "chosen" ∨ k = "heir" ∨ k = "leave" ∨ k = "paper" ∨ k = "like" ∨ k = "copy" ∨ k = "call":=by
 unfold dw at h;simp only[Bool.or_eq_true,decide_eq_true_eq]at h;rcases h with (((((h|h)|h)|h)|h)|h)|h
 ·exact .inl h
 ·exact .inr (.inl h)
 ·exact .inr (.inr (.inl h))
 ·exact .inr (.inr (.inr (.inl h)))
 ·exact .inr (.inr (.inr (.inr (.inl h))))
 ·exact .inr (.inr (.inr (.inr (.inr (.inl h)))))
 ·exact .inr (.inr (.inr (.inr (.inr (.inr h)))))
theorem JR (h:cN k=true∨dw k=true):pz gT (.str k) (.str "day")=sF (.int 0):=by
 rcases h with h|h
 ·rcases kH h with rfl|rfl|rfl<;>exact df
 ·rcases lV h with rfl|rfl|rfl|rfl|rfl|rfl|rfl<;>exact df
theorem Bd (h:cN k=true):pz gT (.str k) (.str "person")=sF (.int 1):=by
 rcases kH h with rfl|rfl|rfl<;>exact df
theorem GB (h:cN k=true∨dw k=true):fu (.str k) (.str "root")=sF (.bl false):=by
 rcases h with h|h
 ·rcases kH h with rfl|rfl|rfl<;>exact df
 ·rcases lV h with rfl|rfl|rfl|rfl|rfl|rfl|rfl<;>exact df
theorem bq {h:Int}{k:Str}{aD:List D}{part:Str}{i:Nat}{d:D}(hi:pz gT (.str k) (.str part)=sF (.int i))(hd:aD[i]? = some d):au [row h k aD,.str part]=some (d,false):=by
 refine aw rfl (ay ?_);refine b7 (.tup (.str k::aD)) (.int (1+i)) (by simp[row,HX]) (b7 (.int 1) (.int i) rfl (b7 (.str k) (.str part) (aJ [row h k aD] rfl (iT _ _ _)) rfl hi) (by simp)) ?_;have fw:i<aD.length:=(vV hd).1;have:o4 (.str k::aD) (1+(i:Int))=some d:=by
  have:=k9 (xs:=(.str k:D)::aD) (j:=i+1) (by simp;omega);rw[show(1+(i:Int))=((i+1:Nat):Int) by omega,this];simp only[List.getElem_cons_succ];rw[vU fw]at hd;exact hd
 simp[this]
theorem jy {h:Int}{k:Str}{aD:List D}{d:Int}{r:List D}(hk:cN k=true∨dw k=true)(hr:aD=.int d::r):aR [row h k aD]=sF (.int d):=by
 subst hr;refine aw rfl (aA (cX (b7 (.str k) (.str "root") (aJ [row h k (.int d::r)] rfl (iT _ _ _)) rfl (GB hk))) (ay (aJ [row h k (.int d::r),.str "day"] rfl (bq (i:=0) (JR hk) rfl))))
theorem rB (k:Str)(ws:List Str):HU (.str k) (ws.map .str)=decide (k∈ws):=by
 induction ws with
 |nil=>simp[HU]
 |cons w ws ih=>
  have:HU (.str k) ((w::ws).map .str)=(bz (.str w) (.str k) || HU (.str k) (ws.map .str)):=rfl;rw[this,ih,o8];by_cases e:w=k
  ·simp[e]
  ·have e':¬k=w:=λz=>e z.symm;simp[e,e']
theorem nY (ws:List Str):(ws.map D.str).all gw=true:=by
 induction ws with
 |nil=>rfl
 |cons w ws ih=>simp[gw]
theorem jz (k:Str)(ws:List Str):F8 (.str k) (.tup (ws.map .str))=sF (.bl (decide (k∈ws))):=by
 simp only[F8,ie,vJ,rB];rw[if_pos ⟨rfl,nY ws⟩]
theorem GC (hr:nX r)(ws:List Str)(hw:∀w∈ws,cN w=true)(p:Str)(day:Int):pH [r,.tup (ws.map .str),.str p,.int day]=sF (.bl (told ws p day r)):=by
 obtain⟨h,kind,aD,rfl,dp⟩:=hr;have ER:f2 F8 (fA aK (fV 0 aj)) (ai 1) [some (row h kind aD,false),sF (.tup (ws.map .str)),sF (.str p),sF (.int day)]=sF (.bl (decide (kind∈ws))) :=
  b7 (.str kind) (.tup (ws.map .str)) (aJ [row h kind aD] rfl (iT _ _ _)) rfl (jz kind ws)
 have ht:told ws p day (row h kind aD)=(decide (kind∈ws) && rA p day aD):=rfl;rw[ht];refine aw rfl (ay (dW (b1:=false) ER λhk=>?_));have h3:=hw kind (of_decide_eq_true hk);obtain⟨d,q,rfl⟩:=dp.three h3;show ln _ _ _=sF (.bl (decide (q=p) && decide (d<=day)));refine dW (b1:=false) ?_ λ_=>?_
 ·exact b7 (.str q) (.str p) (aJ [row h kind [.int d,.str q],.str "person"] rfl (bq (i:=1) (Bd h3) rfl)) rfl (by simp)
 ·exact b7 (.int d) (.int day) (aJ [row h kind [.int d,.str q]] rfl (jy (.inl h3) rfl)) rfl (by simp)
theorem GD (ds:List D):tZ ds=ds.zipIdx.map λx=>.tup [.int x.2,x.1]:=by
 unfold tZ;apply List.ext_getElem?;intro i;simp[List.getElem?_mapIdx,List.getElem?_zipIdx];cases ds[i]?<;>simp
noncomputable def ak (ab:List D)(aa:Int):List (D×Nat):=ab.zipIdx.filter λx=>decide (aT x.1<=aa)
theorem kI (ab:List D)(hr:∀r∈ab,nX r)(hl:ab.length<=1000)(aa:Int):cG [.tup ab,.int aa]=lT ((ak ab aa).map λx=>.int x.2):=by
 have hc:=gA (fi:=FR (ai 0)) (nT:=2) (cap:=[1]) (tg:=L4 [0,1]) (c:=br (f2 BQ (eY 1 0) (ai 2))) (fe:=ai 0) (ρ:=[sF (.tup ab),sF (.int aa)]) ab.zipIdx (λx=>.tup [.int x.2,x.1]) (λx=>decide (aT x.1<=aa)) (λx=>.int x.2)
  (by simp[GD]) (by simp;omega) λx hx=>by
   obtain⟨h,kind,aD,e,_⟩:=hr x.1 (List.fst_mem_of_mem_zipIdx hx);refine⟨_,rfl,cX ?_,λ_=>⟨false,by simp[dF]⟩⟩;simp[dF,e,row,JQ,aT]
 exact aw rfl (ay hc)
def p0 (ab:List D)(aa:Int)(ws:List Str)(p:Str)(day:Int):List (D×Nat):=(ak ab aa).filter λx=>told ws p day x.1
theorem C7 (h:x∈p0 ab aa ws p day):ab[x.2]? = some x.1/\told ws p day x.1=true:=by
 obtain⟨h1,h2⟩:=vN h;exact⟨(List.mk_mem_zipIdx_iff_getElem? (x:=x.1) (i:=x.2)).mp (vN h1).1,h2⟩
theorem cC {ab:List D}{i:Nat}{r:D}(h:ab[i]? = some r):o4 ab (i:Int)=some r:=by
 obtain⟨fw,e⟩:=vV h;rw[k9 fw,e]
theorem JU (ab:List D)(aa:Int)(ws:List Str)(p:Str)(day:Int):(p0 ab aa ws p day).length<=ab.length:=by
 have h1:=vM (λx:D×Nat=>told ws p day x.1) (ak ab aa);have h2:=vM (λx:D×Nat=>decide (aT x.1<=aa)) ab.zipIdx;rw[List.length_zipIdx]at h2;exact vR h1 h2
theorem xa (ab:List D)(hr:∀r∈ab,nX r)(hl:ab.length<=1000)(aa:Int)(ws:List Str)(hw:∀w∈ws,cN w=true)(p:Str)(day:Int):
  gY [.tup ab,.int aa,.tup (ws.map .str),.str p,.int day]=lT ((p0 ab aa ws p day).map λx=>.int x.2):=by
 have hc:=gA (fi:=cy (fA cG (fV 0 (fV 1 aj)))) (nT:=1) (cap:=[2,3,4,0]) (tg:=dM 0) (c:=br (fA pH (af (f2 bG (ai 4) (ai 0)) (fV 1 (fV 2 (fV 3 aj)))))) (fe:=ai 0)
  (ρ:=[sF (.tup ab),sF (.int aa),sF (.tup (ws.map .str)),sF (.str p),sF (.int day)]) (ak ab aa) (λx=>.int x.2) (λx=>told ws p day x.1) (λx=>.int x.2)
  (by
   show(fA cG (fV 0 (fV 1 aj)) _).bind _=_;rw[aJ [.tup ab,.int aa] rfl (kI ab hr hl aa)];rfl) (by have:=vM (λx:D×Nat=>decide (aT x.1<=aa)) ab.zipIdx;rw[List.length_zipIdx]at this;exact vR this (by omega)) λx hx=>by
   have hg:ab[x.2]? = some x.1:=(List.mk_mem_zipIdx_iff_getElem? (x:=x.1) (i:=x.2)).mp (vN hx).1;refine⟨_,rfl,cX (aJ [x.1,.tup (ws.map .str),.str p,.int day] ?_ (GC (hr _ (vL hg)) ws hw p day)),λ_=>⟨false,by simp[dF]⟩⟩;have ha:=cC hg;simp[dF,ha]
 exact aw rfl (ay hc)
def kA (x:D×Nat):List At:=[.i (aE x.1),.i x.2]
def eN (a b:D×Nat):Bool:=decide (aE a.1<aE b.1∨(aE a.1=aE b.1/\(a.2:Int)<b.2))
def gK:D×Nat->List (D×Nat)->D×Nat
 |b,[]=>b
 |b,x::r=>if eN b x=true then gK x r else gK b r
def LH:List (D×Nat)->Option (D×Nat)
 |[]=>none
 |x::r=>some (gK x r)
theorem Oa (a b c d:Int):be [.i a,.i b] [.i c,.i d]=some (decide (a<c∨(a=c/\b<d))):=by
 rw[be];by_cases h:a=c
 ·rw[if_pos h,be];by_cases h2:b=d
  ·rw[if_pos h2,be];simp[h,h2]
  ·rw[if_neg h2];simp[h]
 ·rw[if_neg h];simp[h]
theorem Be (a b:D×Nat):be (kA a) (kA b)=some (eN a b):=Oa _ _ _ _
theorem xc (l:List (D×Nat)):di (l.map kA)=true:=by
 unfold di;simp[List.all_eq_true,Be]
theorem nZ:∀(r:List (D×Nat))(b:D×Nat),mF (kA b,.int b.2) (r.map λx=>(kA x,D.int x.2))=.int (gK b r).2
 |[],b=>rfl
 |x::r,b=>by
  rw[uY,mF,gK];show(if be (kA b) (kA x)=some true then _ else _)=_;rw[Be];by_cases h:eN b x=true
  ·rw[if_pos h,if_pos (by rw[h])];exact nZ r x
  ·rw[if_neg h,if_neg (by simpa using h)];exact nZ r b
theorem rC:∀(r:List (D×Nat))(b:D×Nat),gK b r∈b::r
 |[],b=>by simp[gK]
 |x::r,b=>by
  rw[gK];split
  ·exact mZ _ (rC r x)
  ·rcases vP (rC r b)with h|h
   ·rw[h];exact mX
   ·exact mZ _ (mZ _ h)
theorem i7 {α:Type}{f:D->Option D}{g h:α->D}:∀(l:List α),(∀x∈l,f (g x)=some (h x))->js f (l.map g)=some (l.map h)
 |[],_=>rfl
 |x::l,hx=>by
  rw[uY,js,hx x mX,vJ,i7 l λy hy=>hx y (mZ _ hy)];rfl
theorem gZ {α:Type}{g:α->D}{h:α->List At}:∀(l:List α),(∀x∈l,mB (g x)=some (h x))->dj (l.map g)=some (l.map h)
 |[],_=>rfl
 |x::l,hx=>by
  rw[uY,dj,hx x mX,vJ,gZ l λy hy=>hx y (mZ _ hy)];rfl
noncomputable def mP:List Str:=[("lost" : Str),"found"]
theorem kJ:∀w∈mP,cN w=true:=by
 intro w hw;rcases vP hw with rfl|hw
 ·decide +kernel
 ·rcases vP hw with rfl|hw
  ·decide +kernel
  ·cases hw
def mQ (ab:List D)(aa:Int)(p:Str)(day:Int):Bool:=match LH (p0 ab aa mP p day) with
 |none=>true
 |some b=>decide (kindOf b.1 = "found")
theorem rE (hw:∀w∈ws,cN w=true)(hr:nX r)(ht:told ws p day r=true):∃h k d,r=row h k [.int d,.str p]/\cN k=true/\k∈ws/\d<=day:=by
 obtain⟨h,kind,aD,rfl,dp⟩:=hr;have R5:(decide (kind∈ws) && rA p day aD)=true:=ht;rw[vC]at R5;have hm:=of_decide_eq_true R5.1;obtain⟨d,q,rfl⟩:=dp.three (hw _ hm);have hq:(decide (q=p) && decide (d<=day))=true:=R5.2;rw[vC]at hq;have:=of_decide_eq_true hq.1;subst this;exact⟨h,kind,d,rfl,hw _ hm,hm,of_decide_eq_true hq.2⟩
theorem C8 {ab:List D}{i:Nat}{h d:Int}{k p:Str}(hg:ab[i]? = some (row h k [.int d,.str p]))(h3:cN k=true):eZ [.tup ab,.int i]=sF (.tup [.int d,.int i]):=by
 have ha:=cC hg;refine aw rfl (ay (aJ [.int d,.int i] (aF (d:=.int d) (b:=false) (aJ [row h k [.int d,.str p]] (by simp[ha]) (jy (.inl h3) rfl)) rfl) (by simp[sizeLine])))
theorem C9 (ab:List D)(hr:∀r∈ab,nX r)(hl:ab.length<=1000)(aa:Int)(p:Str)(day:Int):iu [.tup ab,.int aa,.str p,.int day]=sF (.bl (mQ ab aa p day)):=by
 have ht:=xa ab hr hl aa mP kJ p day;have UB:=JU ab aa mP p day;have key:∀x∈p0 ab aa mP p day,∃h k d,ab[x.2]? = some (row h k [.int d,.str p])/\x.1=row h k [.int d,.str p]/\cN k=true:=λx hx=>by
  obtain⟨hg,UU⟩:=C7 hx;obtain⟨h,k,d,e,h3,_⟩:=rE kJ (hr _ (vL hg)) UU;exact⟨h,k,d,by rw[hg,e],e,h3⟩
 unfold mQ;generalize hsel:p0 ab aa mP p day=sel at ht key UB ⊢;have KI:fA gY (fV 0 (fV 1 (af (fA aP (af (fS "lost") (af (fS "found") aj))) (fV 2 (fV 3 aj))))) [sF (.tup ab),sF (.int aa),sF (.str p),sF (.int day),none]=lT (sel.map λx=>.int x.2) :=
  aJ [.tup ab,.int aa,.tup (mP.map .str),.str p,.int day] (by simp[mP,sizeLine]) ht
 have SJ:bw (sel.map λx=>D.int x.2)=true:=bF λd hd=>by obtain⟨x,_,rfl⟩:=vO hd;rfl
 cases sel with
 |nil=>exact aw rfl (c8 KI SJ (b8 (cX (by simp)) (ay rfl)))
 |cons x r=>
  refine aw rfl (c8 KI SJ (aA (cX (by simp;omega)) (ay ?_)));obtain⟨h,k,d,hg,e,h3⟩:=key (gK x r) (rC r x);have hb:kindOf (gK x r).1=k:=by rw[e];rfl
  show _=some (D.bl (decide (kindOf (gK x r).1 = "found")),false);rw[hb];refine b7 (.str k) (.str "found") (aJ [row h k [.int d,.str p]] (aF (d:=row h k [.int d,.str p]) (b:=false) (b7 (.tup ab) (.int (gK x r).2) rfl ?_ (by simp[cC hg])) rfl) (iT _ _ _)) rfl (by simp);have hm:∀ρ:DL.Env,ρ[0]? = some (sF (.tup ab))->js (qt [0] (fA eZ (fV 1 (fV 0 aj))) ρ) ((x::r).map λx=>D.int x.2)=some ((x::r).map λx=>.tup [.int (aE x.1),.int x.2]):=λρ h0=>
   i7 (x::r) λy hy=>by
    obtain⟨h,k,d,hg,e,h3⟩:=key y hy;have hd:aE y.1=d:=by rw[e];rfl
    rw[hd];show(fA eZ _ _).map _=_;rw[aJ [.tup ab,.int y.2] (by simp[dF,h0]) (C8 hg h3)];rfl
  have hk:dj ((x::r).map λx=>D.tup [.int (aE x.1),.int x.2])=some ((x::r).map kA):=gZ (x::r) λy _=>rfl;have hz:((x::r).map kA).zip ((x::r).map λx=>D.int x.2)=(kA x,.int x.2)::r.map λx=>(kA x,D.int x.2):=by
   rw[List.zip_map'];rfl
  show(uu (ai 4) _ _)=_;unfold uu NN;show((some (D.lst ((x::r).map λx=>D.int x.2),false)).bind _)=_;simp only[vJ];rw[hm _ rfl];simp only[vJ];rw[hk];simp only[vJ];rw[if_pos (xc _),hz];simp only[nZ]
noncomputable def eB:List Str:=[("death" : Str)]
theorem fJ:∀w∈eB,cN w=true:=by
 intro w hw;rcases vP hw with rfl|hw
 ·decide +kernel
 ·cases hw
def jM (ab:List D)(aa:Int)(p:Str)(day:Int):Bool:=(p0 ab aa eB p day).isEmpty
theorem rF (ab:List D)(hr:∀r∈ab,nX r)(hl:ab.length<=1000)(aa:Int)(p:Str)(day:Int):jH [.tup ab,.int aa,.str p,.int day]=sF (.bl (jM ab aa p day)):=by
 have ht:=xa ab hr hl aa eB fJ p day;unfold jM;generalize p0 ab aa eB p day=sel at ht ⊢;refine aw rfl (ay (b7 (.int ((sel.map λx=>D.int x.2).length:Nat)) (.int 0) ?_ rfl ?_))
 ·exact aJ [.lst (sel.map λx=>.int x.2)] (aF (d:=.lst (sel.map λx=>.int x.2)) (b:=true) (aJ [.tup ab,.int aa,.tup (eB.map .str),.str p,.int day] (by simp[sizeLine,eB]) ht) rfl) JP
 ·rw[Cy];cases sel<;>simp
  omega
noncomputable def cJ:D->Str
 |.tup [_,.tup (_::_::.str p::_)]=>p
 |_=>("" : Str)
noncomputable def zg:List Str:=[("chosen" : Str),"heir","leave","paper","like","copy","call"]
theorem rG (k:Str):dw k=decide (k∈zg):=by
 unfold dw zg;simp[List.mem_cons,Bool.or_assoc]
theorem Bf:ir=.tup (zg.map .str):=rfl
theorem oR (k:Str)(ws:List Str):fF (.str k) (.tup (ws.map .str))=sF (.bl (!decide (k∈ws))):=by
 simp only[fF,ie,vJ,rB];rw[if_pos ⟨rfl,nY ws⟩]
theorem GF (h:dw k=true):pz gT (.str k) (.str "by")=sF (.int 1):=by
 rcases lV h with rfl|rfl|rfl|rfl|rfl|rfl|rfl<;>exact df
def fm (ab:List D)(aa:Int)(r:D):Bool:=(decide (aT r<=aa) && dw (kindOf r)) && (jM ab aa (cJ r) (aE r) && mQ ab aa (cJ r) (aE r))
theorem kK {ab:List D}{i:Nat}{h:Int}{kind:Str}{aD:List D}(hg:ab[i]? = some (row h kind aD))(aa:Int):cA [.tup ab,.int aa,.int i]=sF (.bl (decide (h<=aa))):=by
 have fw:i<ab.length:=(vV hg).1;have ha:=cC hg;refine aw rfl (ay ?_);have:=dW (f1:=nE BQ Jd (fI 0) (ai 2) (fA gR (fV 0 aj))) (f2:=f2 BQ (f2 bG (f2 bG (ai 0) (ai 2)) (fI 0)) (ai 1)) (ρ:=[sF (.tup ab),sF (.int aa),sF (.int i)]) (p:=true) (q:=decide (h<=aa)) (b1:=false)
  (by
   refine(yU (x:=.int 0) (y:=.int i) (z:=.int ab.length) (b1:=false) (b2:=false) (b3:=false) (b4:=false) (p:=true) (q:=true) rfl rfl (by simp) (by simp) λ_=>?_).trans rfl;simp;omega) λ_=>by simp[ha,row,JQ]
 exact this
theorem rH (ab:List D)(hr:∀r∈ab,nX r)(hl:ab.length<=1000)(aa:Int){i:Nat}{r:D}(hg:ab[i]? = some r):fZ [.tup ab,.int aa,.int i]=sF (.bl (fm ab aa r)):=by
 obtain⟨h,kind,aD,rfl,dp⟩:=hr r (vL hg);have hk:=kK hg aa;have ha:=cC hg;have RP:∀(ρ:DL.Env),f2 bG (ai 0) (ai 2) ρ=some (row h kind aD,false)->fA aK (af (f2 bG (ai 0) (ai 2)) aj) ρ=sF (.str kind):=λρ e=>aJ [row h kind aD] (aF e rfl) (iT _ _ _);have HJ:f2 bG (ai 0) (ai 2) [sF (.tup ab),sF (.int aa),sF (.int i),none,none]=some (row h kind aD,false):=by simp[ha]
 have hc:(kg (fQ (br (fA cA (fV 0 (fV 1 (fV 2 aj)))))) (br (f2 fF (fA aK (af (f2 bG (ai 0) (ai 2)) aj)) (fC ir)))) [sF (.tup ab),sF (.int aa),sF (.int i),none,none]=some (!decide (h<=aa) || !dw kind):=by
  refine dr (cF (cX (aJ [.tup ab,.int aa,.int i] rfl hk))) λ_=>cX (b7 (.str kind) ir (RP _ HJ) rfl ?_);rw[Bf,rG];exact oR kind zg
 have hs:fm ab aa (row h kind aD)=((decide (h<=aa) && dw kind) && (jM ab aa (cJ (row h kind aD)) (aE (row h kind aD)) && mQ ab aa (cJ (row h kind aD)) (aE (row h kind aD)))):=rfl;cases hb:(decide (h<=aa) && dw kind) with
 |false=>
  rw[hs,hb];refine aw rfl (b8 (hc.trans ?_) (ay rfl));rw[←Bool.not_and,hb];rfl
 |true=>
  rw[hs,hb];rw[vC]at hb;obtain⟨day,p,r',rfl⟩:=dp.slg hb.2;show _=some (D.bl (true && (jM ab aa p day && mQ ab aa p day)),false);rw[Bool.true_and];refine aw rfl (aA (hc.trans (by rw[hb.1,hb.2];rfl)) (fB (.str p) (aJ [row h kind (.int day::.str p::r'),.str "by"] (aF HJ rfl) (bq (i:=1) (GF hb.2) rfl)) rfl (fB (.int day) (aJ [row h kind (.int day::.str p::r')] (aF (d:=row h kind (.int day::.str p::r')) (b:=false) (by simp[ha]) rfl) (jy (.inr hb.2) rfl)) rfl (ay ?_))));exact dW (b1:=false) (aJ [.tup ab,.int aa,.str p,.int day] (by simp) (rF ab hr hl aa p day)) λ_=>aJ [.tup ab,.int aa,.str p,.int day] (by simp) (C9 ab hr hl aa p day)
inductive Cd:Str->List D->Prop
 |root (o r:Str) (m f:Int):Cd ("root" : Str) [.str o,.int m,.int f,.str r]
 |named (d:Int) (o p:Str):Cd ("named" : Str) [.int d,.str o,.str p]
 |chosen (d:Int) (b o p:Str) (s:Int):Cd ("chosen" : Str) [.int d,.str b,.str o,.str p,.int s]
 |heir (d:Int) (b o p:Str):Cd ("heir" : Str) [.int d,.str b,.str o,.str p]
 |three (k:Str) (hk:k = "death" ∨ k = "lost" ∨ k = "found") (d:Int) (p:Str):Cd k [.int d,.str p]
 |other (k:Str) (hk:k = "leave" ∨ k = "paper" ∨ k = "like" ∨ k = "copy" ∨ k = "call") (d:Int) (b:Str) (r:List D) (hf:bw r=true) (hp:r.all (aq 5)=true):Cd k (.int d::.str b::r)
theorem Cd.deed (h:Cd k r):DeedP k r:=by
 cases h with
 |root o rl m f=>exact⟨rfl,by simp,λh=>cP h,λh=>cP h⟩
 |named d o p=>exact⟨rfl,by simp,λh=>cP h,λh=>cP h⟩
 |chosen d b o p s=>exact⟨rfl,by simp,λh=>cP h,λ_=>⟨d,b,_,rfl⟩⟩
 |heir d b o p=>exact⟨rfl,by simp,λh=>cP h,λ_=>⟨d,b,_,rfl⟩⟩
 |three k hk d p=>exact⟨rfl,by simp,λ_=>⟨d,p,rfl⟩,λh=>by rcases hk with rfl|rfl|rfl<;>exact cP h⟩
 |other k hk d b r hf hp=>exact⟨by simp[hf],by simp only[List.all_cons,hp,aq,Bool.and_true],λh=>by rcases hk with rfl|rfl|rfl|rfl|rfl<;>exact cP h,λ_=>⟨d,b,r,rfl⟩⟩
def xf (r:D):Prop:=∃h k aD,r=row h k aD/\Cd k aD
theorem xf.rp (h:xf r):nX r:=by obtain⟨a,k,aD,rfl,d⟩:=h;exact⟨a,k,aD,rfl,d.deed⟩
def aW (r:D):Bool:=decide (kindOf r = "root")
theorem Cd.day (h:Cd k r)(hk:k ≠ "root"):∃d q,r=.int d::q:=by
 cases h with
 |root=>exact absurd rfl hk
 |named d=>exact⟨d,_,rfl⟩
 |chosen d=>exact⟨d,_,rfl⟩
 |heir d=>exact⟨d,_,rfl⟩
 |three _ _ d=>exact⟨d,_,rfl⟩
 |other _ _ d=>exact⟨d,_,rfl⟩
theorem Cd.day_idx (h:Cd k r)(hk:k ≠ "root"):pz gT (.str k) (.str "day")=sF (.int 0):=by
 cases h with
 |root=>exact absurd rfl hk
 |named=>exact df
 |chosen=>exact df
 |heir=>exact df
 |three _ hh=>rcases hh with rfl|rfl|rfl<;>exact df
 |other _ hh=>rcases hh with rfl|rfl|rfl|rfl|rfl<;>exact df
theorem bP (e:f ρ=some (.str a,bb))(h:decide (a=b)=x):br (f2 fu f (fS b)) ρ=some x:=cX (iq (x:=.str a) (y:=.str b) (b1:=bb) (b2:=false) e rfl (by rw[←h];simp))
def tm (r:D):D:=if aW r=true then .non else .int (aE r)
theorem jf (g:xf r):aK [r]=sF (.str (kindOf r)):=by
 obtain⟨h,k,aD,rfl,_⟩:=g;exact iT h k aD
theorem rJ (g:xf r):aR [r]=some (tm r,false):=by
 obtain⟨h,k,aD,rfl,d⟩:=g;unfold tm;by_cases hk:k = "root"
 ·have:aW (row h k aD)=true:=decide_eq_true hk;rw[if_pos this];exact aw rfl (b8 (bP (a:=k) (bb:=false) (aJ [row h k aD] rfl (iT _ _ _)) (decide_eq_true hk)) (ay rfl))
 ·have:aW (row h k aD)=false:=decide_eq_false hk;rw[if_neg (by rw[this];decide)];obtain⟨dd,q,rfl⟩:=d.day hk;exact aw rfl (aA (bP (a:=k) (bb:=false) (aJ [row h k (.int dd::q)] rfl (iT _ _ _)) (decide_eq_false hk)) (ay (aJ [row h k (.int dd::q),.str "day"] rfl (bq (i:=0) (d.day_idx hk) rfl))))
def gF (ab:List D):Prop:=ab.length<=60/\∀r∈ab,xf r
theorem gF.rp (g:gF ab):∀r∈ab,nX r:=λr hr=>(g.2 r hr).rp
theorem gF.le (g:gF ab):ab.length<=1000:=vR g.1 (by decide)
theorem bf (h:x∈ak ab aa):ab[x.2]? = some x.1:=by
 obtain⟨h1,_⟩:=vN h;exact List.mem_zipIdx_iff_getElem?.mp h1
theorem cw (ab:List D)(aa:Int):(ak ab aa).length<=ab.length:=by
 have:=vM (λx:D×Nat=>decide (aT x.1<=aa)) ab.zipIdx;rw[List.length_zipIdx]at this;exact this
theorem cO (ab:List D)(aa:Int):((ak ab aa).map (·.2)).Nodup:=by
 have h1:(ab.zipIdx.map (·.2)).Nodup:=by rw[List.zipIdx_map_snd];exact List.nodup_range'
 exact List.Nodup.sublist (List.Sublist.map _ (List.filter_sublist)) h1
def cZ (ab:List D)(aa:Int):List (D×Nat):=(ak ab aa).filter λx=>!aW x.1
def QS (ab:List D)(aa:Int):List (D×Nat):=dB (λx=>cz (kA x)) (cZ ab aa)
theorem Bg (h:cz (kA a)=cz (kA b)):a.2=b.2:=by
 have h:[aE a.1,(a.2:Int)]=[aE b.1,(b.2:Int)]:=h;injection h with _ h;injection h with h;omega
theorem JV (ha:a∈ak ab aa)(hb:b∈ak ab aa)(h:a.2=b.2):a=b:=by
 have h1:=bf ha;have h2:=bf hb;rw[h,h2]at h1;exact Prod.ext (vK h1).symm h
theorem oS (g:gF ab)(aa:Int):dX [.tup ab,.int aa]=lT ((QS ab aa).map λx=>.int x.2):=by
 have hl:=g.1;have RO:=cw ab aa;have HJ:∀x∈ak ab aa,o4 ab (x.2:Int)=some x.1/\xf x.1:=λx hx=>⟨cC (bf hx),g.2 _ (vL (bf hx))⟩;have hc:=gA (fi:=cy (fA cG (fV 0 (fV 1 aj)))) (nT:=1) (cap:=[0]) (tg:=dM 0) (c:=br (f2 lJ (fA aR (af (f2 bG (ai 1) (ai 0)) aj)) (fC .non))) (fe:=ai 0) (ρ:=[sF (.tup ab),sF (.int aa),none]) (ak ab aa) (λx=>.int x.2) (λx=>!aW x.1) (λx=>.int x.2)
  (by
   show(fA cG (fV 0 (fV 1 aj)) _).bind _=_;rw[aJ [.tup ab,.int aa] rfl (kI ab g.rp g.le aa)];rfl) (by omega) λx hx=>by
   obtain⟨ha,gx⟩:=HJ x hx;refine⟨_,rfl,cX (b7 (tm x.1) .non (aJ [x.1] (by simp[dF,ha]) (rJ gx)) rfl ?_),λ_=>⟨false,by simp[dF]⟩⟩;unfold tm;cases aW x.1<;>simp[D9]
 have Ky:bH (cy (fA cG (fV 0 (fV 1 aj)))) 1 [0] (dM 0) (br (f2 lJ (fA aR (af (f2 bG (ai 1) (ai 0)) aj)) (fC .non))) (ai 0) [sF (.tup ab),sF (.int aa),none]=lT ((cZ ab aa).map λx=>.int x.2):=hc;have vx:bw ((cZ ab aa).map λx=>D.int x.2)=true:=bF λd hd=>by obtain⟨x,_,rfl⟩:=vO hd;rfl
 have Ma:(cZ ab aa).length<=60:=vR (vM _ _) (by omega);have o0:∀x∈cZ ab aa,x∈ak ab aa/\aW x.1=false:=λx hx=>by
  obtain⟨h1,h2⟩:=vN hx;exact⟨h1,by simpa using h2⟩
 have hm:∀ρ:DL.Env,ρ[0]? = some (sF (.tup ab))->js (qt [0] (fA eZ (fV 1 (fV 0 aj))) ρ) ((cZ ab aa).map λx=>.int x.2)=some ((cZ ab aa).map λx=>.tup [.int (aE x.1),.int x.2]):=λρ h0=>
  i7 (cZ ab aa) λx hx=>by
   obtain⟨h1,h2⟩:=o0 x hx;obtain⟨ha,gx⟩:=HJ x h1;have hd:=rJ gx;unfold tm at hd;rw[h2,if_neg (by decide)]at hd;have hr:eZ [.tup ab,.int x.2]=sF (.tup [.int (aE x.1),.int x.2]):=aw rfl (ay (aJ [.int (aE x.1),.int x.2] (aF (d:=.int (aE x.1)) (b:=false) (aJ [x.1] (by simp[ha]) hd) rfl) (by simp[sizeLine])));show(fA eZ _ _).map _=_;rw[aJ [.tup ab,.int x.2] (by simp[dF,h0]) hr];rfl
 have hk:dj ((cZ ab aa).map λx=>D.tup [.int (aE x.1),.int x.2])=some ((cZ ab aa).map kA):=gZ _ λx _=>rfl;have hz:((cZ ab aa).map kA).zip ((cZ ab aa).map λx=>D.int x.2)=(cZ ab aa).map λx=>(kA x,D.int x.2):=by rw[List.zip_map']
 have EH:((cZ ab aa).map (·.2)).Nodup:=List.Nodup.sublist (List.Sublist.map _ (List.filter_sublist)) (cO ab aa);have j8:((cZ ab aa).map kA).length<64/\di ((cZ ab aa).map kA)=true/\dC ((cZ ab aa).map kA)=true/\(((cZ ab aa).map kA).map cz).Nodup:=by
  refine⟨by rw[vI];omega,xc _,?_,?_⟩
  ·unfold dC;rw[Bool.or_eq_true];left;simp[List.all_eq_true,kA]
  ·rw[uP];exact List.Pairwise.map _ (λa b h e=>h (Bg e)) (List.pairwise_map.mp EH)
 refine aw rfl (c8 Ky vx (ay ?_));show(qw (ai 2) _ _)=_;unfold qw;show((some (D.lst ((cZ ab aa).map λx=>D.int x.2),false)).bind _)=_;simp only[vJ];rw[hm _ rfl];simp only[vJ];rw[hk];simp only[vJ];rw[if_pos j8];unfold jt;rw[hz];have key:((QS ab aa).map λx=>(kA x,D.int x.2))=dB (λp:List At×D=>cz p.1) ((cZ ab aa).map λx=>(kA x,D.int x.2)):=by
  refine fH _ (λx hx y hy e=>?_) ((aQ _ _).map _) ?_
  ·obtain⟨a,ha,rfl⟩:=vO hx;obtain⟨b,hb,rfl⟩:=vO hy;rw[JV (o0 a ha).1 (o0 b hb).1 (Bg e)]
  ·exact List.pairwise_map.mpr (dS _ _)
 rw[←key,uP];rfl
structure Cl where
 o:Str
 p:Str
 s:Int
 u:Option Int
 n:Nat
noncomputable def uD:Option Int->D
 |none=>.non
 |some x=>.int x
def aV (c:Cl):D:=.tup [.str c.o,.str c.p,.int c.s,uD c.u,.int c.n]
theorem CA (u:Option Int):bi (uD u)=true:=by cases u<;>rfl
theorem mR (c:Cl):bi (aV c)=true:=by simp[aV,CA]
theorem j0 (cs:List Cl):bw (cs.map aV)=true:=bF λd hd=>by obtain⟨c,_,rfl⟩:=vO hd;exact mR c
noncomputable def iA (c:Cl)(day:Int):Bool:=decide (c.s<=day) && (match c.u with|none=>true|some x=>decide (day<x))
theorem X0 (d e f g:D)(r:List D):o4 (d::e::f::g::r) 3=some g:=by have:=k9 (xs:=d::e::f::g::r) (j:=3) (by simp);simpa using this
theorem X1 (d e f g h:D)(r:List D):o4 (d::e::f::g::h::r) 4=some h:=by have:=k9 (xs:=d::e::f::g::h::r) (j:=4) (by simp);simpa using this
theorem QT (c:Cl):bG (aV c) (.int 0)=sF (.str c.o):=by simp[aV,JQ]
theorem Pa (c:Cl):bG (aV c) (.int 1)=sF (.str c.p):=by simp[aV,HX]
theorem Sx (c:Cl):bG (aV c) (.int 2)=sF (.int c.s):=by simp[aV,VF]
theorem X2 (c:Cl):bG (aV c) (.int 3)=some (uD c.u,false):=by simp[aV,X0]
theorem Sy (c:Cl):bG (aV c) (.int 4)=sF (.int c.n):=by simp[aV,X1]
theorem bI (ds:List D)(h:ds.length<=100):aP ds=sF (.tup ds):=if_pos (dD (by omega))
theorem jN (ds:List D)(h:ds.length<=100):bL ds=lT ds:=if_pos (dD (by omega))
theorem CB (s day:Int)(u:Option Int):jw [.int day,.tup [.int s,uD u]]=sF (.bl (decide (s<=day) && (match u with|none=>true|some x=>decide (day<x)))):=by
 refine aw rfl (ay (dW (b1:=false) (by simp[JQ]) λ_=>?_));cases u with
 |none=>exact qO (p:=true) (q:=true) (b1:=false) (by simp[HX,uD]) (by simp)
 |some x=>exact qO (p:=false) (q:=decide (day<x)) (b1:=false) (by simp[HX,uD]) λ_=>by simp[HX,uD]
theorem rK (c:Cl)(day:Int):cR [aV c,.int day]=sF (.bl (iA c day)) :=
 aw rfl (ay (aJ [.int day,.tup [.int c.s,uD c.u]] (ce rfl (ce (aJ [.int c.s,uD c.u] (aF (b7 (aV c) (.int 2) rfl rfl (Sx c)) (aF (b7 (aV c) (.int 3) rfl rfl (X2 c)) rfl)) (bI _ (by simp))) rfl)) (CB c.s day c.u)))
theorem zh (c:Cl):du [aV c]=sF (.tup [.int c.s,.int c.n]) :=
 aw rfl (ay (aJ [.int c.s,.int c.n] (aF (b7 (aV c) (.int 2) rfl rfl (Sx c)) (aF (b7 (aV c) (.int 4) rfl rfl (Sy c)) rfl)) (bI _ (by simp))))
theorem xg (c:Cl):gB [aV c]=sF (.tup [.str c.o,.int c.s,.int c.n]) :=
 aw rfl (ay (aJ [.str c.o,.int c.s,.int c.n] (aF (b7 (aV c) (.int 0) rfl rfl (QT c)) (aF (b7 (aV c) (.int 2) rfl rfl (Sx c)) (aF (b7 (aV c) (.int 4) rfl rfl (Sy c)) rfl))) (bI _ (by simp))))
noncomputable def kS (c:Cl):List At:=[.i c.s,.i c.n]
def mS:Cl->List Cl->Cl
 |b,[]=>b
 |b,x::r=>if be (kS x) (kS b)=some true then mS x r else mS b r
def tp:Cl->List Cl->Cl
 |b,[]=>b
 |b,x::r=>if be (kS b) (kS x)=some true then tp x r else tp b r
theorem rL:∀(r:List Cl)(b:Cl),ly (kS b,aV b) (r.map λx=>(kS x,aV x))=aV (mS b r)
 |[],b=>rfl
 |x::r,b=>by
  rw[uY,ly,mS];split
  ·exact rL r x
  ·exact rL r b
theorem rM:∀(r:List Cl)(b:Cl),mF (kS b,aV b) (r.map λx=>(kS x,aV x))=aV (tp b r)
 |[],b=>rfl
 |x::r,b=>by
  rw[uY,mF,tp];split
  ·exact rM r x
  ·exact rM r b
theorem CC (cs:List Cl):di (cs.map kS)=true:=by
 unfold di;simp[List.all_eq_true,kS,Oa]
theorem rN (ρ:DL.Env)(cs:List Cl):js (sZ du ρ) (cs.map aV)=some (cs.map λc=>.tup [.int c.s,.int c.n]):=i7 cs λc _=>by
 show(du [aV c]).map _=_;rw[zh];rfl
theorem oU (cs:List Cl):dj (cs.map λc=>D.tup [.int c.s,.int c.n])=some (cs.map kS):=gZ cs λc _=>rfl
theorem GG (e:f ρ=some (.lst ((b::r).map aV),bb)):uw f (sZ du) ρ=some (aV (mS b r),false):=by
 unfold uw NN;rw[e,vJ];dsimp only;rw[rN,vJ,oU,vJ,if_pos (CC _)];have:((b::r).map kS).zip ((b::r).map aV)=(kS b,aV b)::r.map λx=>(kS x,aV x):=by rw[List.zip_map'];rfl
 rw[this];show some (ly _ _,false)=_;rw[rL]
theorem Ob (e:f ρ=some (.lst ((b::r).map aV),bb)):uu f (sZ du) ρ=some (aV (tp b r),false):=by
 unfold uu NN;rw[e,vJ];dsimp only;rw[rN,vJ,oU,vJ,if_pos (CC _)];have:((b::r).map kS).zip ((b::r).map aV)=(kS b,aV b)::r.map λx=>(kS x,aV x):=by rw[List.zip_map'];rfl
 rw[this];show some (mF _ _,false)=_;rw[rM]
def iB (rl:Str)(b:Cl)(r:List Cl):Cl:=if rl = "last" then tp b r else mS b r
theorem GH (rl:Str)(b:Cl)(r:List Cl):lQ [.lst ((b::r).map aV),.str rl]=sF (.str (iB rl b r).p):=by
 unfold iB;by_cases h:rl = "last"
 ·rw[if_pos h];exact aw rfl (b8 (bP (a:=rl) (bb:=false) rfl (decide_eq_true h)) (ay (b7 (aV (tp b r)) (.int 1) (Ob (bb:=false) rfl) rfl (Pa _))))
 ·rw[if_neg h];exact aw rfl (aA (bP (a:=rl) (bb:=false) rfl (decide_eq_false h)) (ay (b7 (aV (mS b r)) (.int 1) (GG (bb:=false) rfl) rfl (Pa _))))
theorem rO:∀(r:List Cl)(b:Cl),mS b r∈b::r
 |[],b=>by simp[mS]
 |x::r,b=>by
  rw[mS];split
  ·exact mZ _ (rO r x)
  ·rcases vP (rO r b)with h|h
   ·rw[h];exact mX
   ·exact mZ _ (mZ _ h)
theorem rP:∀(r:List Cl)(b:Cl),tp b r∈b::r
 |[],b=>by simp[tp]
 |x::r,b=>by
  rw[tp];split
  ·exact mZ _ (rP r x)
  ·rcases vP (rP r b)with h|h
   ·rw[h];exact mX
   ·exact mZ _ (mZ _ h)
theorem Ec (rl:Str)(b:Cl)(r:List Cl):iB rl b r∈b::r:=by
 unfold iB;split
 ·exact rP r b
 ·exact rO r b
noncomputable def Pb (cs:List Cl)(o:Str)(day:Int):List Cl:=cs.filter λc=>decide (c.o=o) && iA c day
def lW (cs:List Cl):List Str:=k6 (iL (cs.map (·.p)))
def QU:List Cl->Nat
 |[]=>0
 |b::r=>(mS b r).n
def oV (rl:Str):List Cl->D
 |[]=>.tup [.str "none"]
 |b::r=>if 1<(lW (b::r)).length/\rl = "open" then .tup [.str "parted",.lst ((lW (b::r)).map .str)]
  else .tup [.str "one",.str (iB rl b r).p,.int (QU ((b::r).filter λc=>decide (c.p=(iB rl b r).p)))]
def jX (cs:List Cl)(o rl:Str)(day:Int):D:=oV rl (Pb cs o day)
theorem JX {z:Str}:iL (z::zs)≠[]:=by
 have:∀(ss:List Str)(ts:List Str),z∈ts->z∈ss.foldl kh ts:=λss=>by
  induction ss with
  |nil=>intro ts h;exact h
  |cons a l ih=>intro ts h;exact ih _ (yz.mpr (.inl h))
 have h:=this zs (kh [] z) (yz.mpr (.inr rfl));intro e;unfold iL at e;rw[List.foldl_cons]at e;rw[e]at h;cases h
theorem kL:au [row h ("root" : Str) [.str o,.int m,.int f,.str rl],.str "office"]=sF (.str o):=bq (i:=0) df rfl
theorem Ed:au [row h ("root" : Str) [.str o,.int m,.int f,.str rl],.str "rule"]=sF (.str rl):=bq (i:=3) df rfl
theorem rQ (zs:List Str):g7 (zs.map .str)=some zs:=by
 induction zs with
 |nil=>rfl
 |cons z zs ih=>simp[ih]
theorem mT (cs:List Cl)(hl:cs.length<=60)(day:Int):dY [.lst (cs.map aV),row h ("root" : Str) [.str o,.int m,.int f,.str rl],.int day]=some (jX cs o rl day,false):=by
 let rt:D:=row h ("root" : Str) [.str o,.int m,.int f,.str rl];have h1:=gA (fi:=cy (ai 0)) (nT:=1) (cap:=[2,1]) (tg:=dM 0) (c:=dO (br (f2 fu (eY 0 0) (fA au (fV 2 (af (fS "office") aj))))) (br (fA cR (fV 0 (fV 1 aj))))) (fe:=ai 0)
  (ρ:=[sF (.lst (cs.map aV)),some (rt,false),sF (.int day),none,none,none,none]) cs aV (λc=>decide (c.o=o) && iA c day) aV (by simp) (by omega) λc hc=>by
   refine⟨_,rfl,eG (cX (b7 (.str c.o) (.str o) (b7 (aV c) (.int 0) (by simp[dF]) rfl (QT c)) (aJ [rt,.str "office"] (by simp[dF]) kL) (by simp))) λ_=>cX (aJ [aV c,.int day] (by simp[dF]) (rK c day)),λ_=>⟨false,by simp[dF]⟩⟩
 have S4:bH (cy (ai 0)) 1 [2,1] (dM 0) (dO (br (f2 fu (eY 0 0) (fA au (fV 2 (af (fS "office") aj))))) (br (fA cR (fV 0 (fV 1 aj))))) (ai 0) [sF (.lst (cs.map aV)),some (rt,false),sF (.int day),none,none,none,none]=lT ((Pb cs o day).map aV):=h1;have Py:(Pb cs o day).length<=60:=vR (vM _ _) hl;unfold jX;generalize Pb cs o day=al at S4 Py;have h2:∀ρ:DL.Env,ρ[3]? = some (lT (al.map aV))->f1 g9 (bH (cy (ai 3)) 1 [] (dM 0) jm (eY 0 1)) ρ=lT ((lW al).map .str):=λρ h3=>by
  have hc:=qP (fi:=cy (ai 3)) (nT:=1) (cap:=[]) (tg:=dM 0) (fe:=eY 0 1) (ρ:=ρ) al aV (λc=>.str c.p) (by simp[h3]) (by omega) λc hc=>⟨_,rfl,false,b7 (aV c) (.int 1) (by simp[dF]) rfl (Pa c)⟩;have e2:al.map (λc=>D.str c.p)=(al.map (·.p)).map .str:=by rw[uP];rfl
  rw[e2]at hc;unfold f1;rw[hc,vJ];show(g7 ((al.map (·.p)).map .str)).bind _=_;rw[rQ,vJ,if_pos (by rw[vI];omega)];rfl
 have lE:bw ((lW al).map D.str)=true:=eA _;refine aw rfl (c8 (ds:=al.map aV) S4 (j0 al) (c8 (ds:=(lW al).map .str) (h2 _ rfl) lE ?_));cases al with
 |nil=>exact b8 (cX (by simp[lW,iL,k6])) (ay (aJ [.str "none"] rfl (bI _ (by simp))))
 |cons b r=>
  have nu:(lW (b::r)).length≠0:=by
   unfold lW;rw[(eV _).length_eq];intro e;exact JX (List.length_eq_zero_iff.mp e)
  refine aA (cX (by simp[nu])) ?_;have HK:∀ρ:DL.Env,ρ[1]? = some (some (rt,false))->fA au (fV 1 (af (fS "rule") aj)) ρ=sF (.str rl):=λρ q1=>aJ [rt,.str "rule"] (by simp[q1]) Ed;by_cases hp:1<(lW (b::r)).length/\rl = "open"
  ·have:oV rl (b::r)=.tup [.str "parted",.lst ((lW (b::r)).map .str)]:=by rw[oV,if_pos hp]
   rw[this];exact b8 (eG (p:=true) (q:=true) (cX (by simp;omega)) λ_=>bP (bb:=false) (HK _ rfl) (decide_eq_true hp.2)) (ay (aJ [.str "parted",.lst ((lW (b::r)).map .str)] (by simp) (bI _ (by simp))))
  ·have:oV rl (b::r)=.tup [.str "one",.str (iB rl b r).p,.int (QU ((b::r).filter λc=>decide (c.p=(iB rl b r).p)))]:=by rw[oV,if_neg hp]
   rw[this];have j8:dO (br (f2 HS (fA gR (fV 4 aj)) (fI 1))) (br (f2 fu (fA au (fV 1 (af (fS "rule") aj))) (fS "open"))) [sF (.lst (cs.map aV)),some (rt,false),sF (.int day),lT ((b::r).map aV),lT ((lW (b::r)).map .str),none,none]=some false:=by
    by_cases h5:1<(lW (b::r)).length
    ·exact eG (p:=true) (q:=false) (cX (by simp;omega)) λ_=>bP (bb:=false) (HK _ rfl) (decide_eq_false λe=>hp ⟨h5,e⟩)
    ·exact eG (p:=false) (q:=false) (cX (by simp;omega)) (by simp)
   have o0:=Ec rl b r;let ch:=iB rl b r;have h6:=gA (fi:=cy (ai 3)) (nT:=1) (cap:=[5]) (tg:=dM 0) (c:=br (f2 fu (eY 0 1) (ai 1))) (fe:=ai 0) (ρ:=[sF (.lst (cs.map aV)),some (rt,false),sF (.int day),lT ((b::r).map aV),lT ((lW (b::r)).map .str),sF (.str ch.p),none]) (b::r) aV (λc=>decide (c.p=ch.p)) aV (by simp) (by omega) λc hc=>⟨_,rfl,cX (b7 (.str c.p) (.str ch.p) (b7 (aV c) (.int 1) (by simp[dF]) rfl (Pa c)) (by simp[dF]) (by simp)),λ_=>⟨false,by simp[dF]⟩⟩;obtain⟨b2,r2,hf⟩:∃b2 r2,(b::r).filter (λc=>decide (c.p=ch.p))=b2::r2:=by
    cases hq:(b::r).filter (λc=>decide (c.p=ch.p)) with
    |nil=>
     have:=List.filter_eq_nil_iff.mp hq _ o0;simp[ch]at this
    |cons b2 r2=>exact⟨b2,r2,rfl⟩
   rw[hf]at h6 ⊢;refine aA j8 (fB (.str ch.p) (aJ [.lst ((b::r).map aV),.str rl] (ce (by simp) (aF (HK _ rfl) rfl)) (GH rl b r)) rfl (fB (aV (mS b2 r2)) (GG (bb:=true) h6) (mR _) (ay (aJ [.str "one",.str ch.p,.int (mS b2 r2).n] (ce rfl (ce rfl (aF (b7 (aV (mS b2 r2)) (.int 4) rfl rfl (Sy _)) rfl))) (bI _ (by simp))))))
def LI:D->D
 |.tup ds=>.tup (nG ds none (some 2))
 |d=>d
def iU (cs:List Cl)(o rl p:Str)(day:Int):Bool:=bz (LI (jX cs o rl day)) (.tup [.str "one",.str p])
theorem Bh (n:Nat)(zs:List Str):(zs.map D.str).all (aq n)=true:=by
 induction zs with
 |nil=>rfl
 |cons a l ih=>simp
theorem Ee (rl:Str)(al:List Cl):∃ds,oV rl al=.tup ds/\ds.all (aq 5)=true:=by
 cases al with
 |nil=>exact⟨_,rfl,by simp⟩
 |cons b r=>
  rw[oV];split
  ·exact⟨_,rfl,by simp only[List.all_cons,List.all_nil,aq,Bool.and_true,Bool.true_and];exact Bh _ _⟩
  ·exact⟨_,rfl,by simp⟩
theorem GI (h:ds.all (aq 5)=true):(nG ds lo hi).all (aq 5)=true:=by
 rw[List.all_eq_true]at h ⊢;exact λd hd=>h d (List.mem_of_mem_drop (List.mem_of_mem_take hd))
theorem uJ (h:ds.all (aq 5)=true):aq 40 (.tup ds)=true:=jL 6 40 _ (by decide) (by simpa only[aq]using h)
theorem xh (cs:List Cl)(hl:cs.length<=60)(p:Str)(day:Int):cM [.lst (cs.map aV),row h ("root" : Str) [.str o,.int m,.int f,.str rl],.str p,.int day]=sF (.bl (iU cs o rl p day)):=by
 have hb:=mT cs hl (h:=h) (o:=o) (rl:=rl) (m:=m) (f:=f) day;obtain⟨ds,e,hd⟩:=Ee rl (Pb cs o day);have e':jX cs o rl day=.tup ds:=e;refine aw rfl (ay (b7 (LI (jX cs o rl day)) (.tup [.str "one",.str p]) ?_ (by simp[sizeLine]) ?_))
 ·have hc:=Cv (F:=dY) (fa:=fV 0 (fV 1 (fV 3 aj))) (ρ:=[sF (.lst (cs.map aV)),some (row h ("root" : Str) [.str o,.int m,.int f,.str rl],false),sF (.str p),sF (.int day)]) (ds:=[.lst (cs.map aV),row h ("root" : Str) [.str o,.int m,.int f,.str rl],.int day]) rfl hb;rw[e']at hc ⊢;show Q8 (fA dY (fV 0 (fV 1 (fV 3 aj)))) BM (yi (fI 2)) _=_;unfold Q8;rw[show(List.map (λd=>some (d,false)) [D.lst (cs.map aV),row h ("root" : Str) [.str o,.int m,.int f,.str rl],.str p,.int day]++List.replicate 0 none:DL.Env)=[sF (.lst (cs.map aV)),some (row h ("root" : Str) [.str o,.int m,.int f,.str rl],false),sF (.str p),sF (.int day)]from rfl,hc];rfl
 ·unfold iU fu;rw[if_pos];rw[e'];exact⟨uJ (GI hd),uJ (by simp)⟩
noncomputable def az (j:Nat):D->Str
 |.tup [_,.tup (_::aD)]=>match aD[j]? with
  |some (.str s)=>s
  |_=>("" : Str)
 |_=>("" : Str)
noncomputable def fR (j:Nat):D->Int
 |.tup [_,.tup (_::aD)]=>match aD[j]? with
  |some (.int s)=>s
  |_=>0
 |_=>0
theorem Cd.root_of (h:Cd ("root" : Str) r):∃o rl,∃m f:Int,r=[.str o,.int m,.int f,.str rl]:=by
 generalize hk:("root" : Str)=k at h;cases h with
 |root o rl m f=>exact⟨o,rl,m,f,rfl⟩
 |named=>exact cP hk
 |chosen=>exact cP hk
 |heir=>exact cP hk
 |three _ hh=>rcases hh with rfl|rfl|rfl<;>exact cP hk
 |other _ hh=>rcases hh with rfl|rfl|rfl|rfl|rfl<;>exact cP hk
theorem uK {κ α:Type}[DecidableEq κ]{ks:List κ}{k:κ}{x y:α}:∀ {xs:List α},y∈dL ks xs k x->y=x∨y∈xs:=by
 intro xs h;unfold dL at h;split at h
 ·rename_i hk0;clear hk0;induction ks generalizing xs with
  |nil=>simp at h
  |cons a ks ih=>
   cases xs with
   |nil=>simp at h
   |cons b xs=>
    rw[List.zipWith_cons_cons,List.mem_cons]at h;rcases h with h|h
    ·split at h
     ·exact .inl h
     ·exact .inr (by rw[h];exact mX)
    ·rcases ih h with h|h
     ·exact .inl h
     ·exact .inr (mZ _ h)
 ·rcases List.mem_append.mp h with h|h
  ·exact .inr h
  ·exact .inl (uT h)
theorem uL:∀(l:List (cx×D))(a:List cx×List D)(y:D),y∈(l.foldl qC a).2->y∈a.2∨∃p∈l,p.2=y
 |[],a,y,h=>.inl h
 |p::l,a,y,h=>by
  rw[List.foldl_cons]at h;rcases uL l _ y h with h|⟨q,hq,e⟩
  ·rcases uK (show y∈dL a.1 a.2 p.1 p.2 from h)with h|h
   ·exact .inr ⟨p,mX,h.symm⟩
   ·exact .inl h
  ·exact .inr ⟨q,mZ _ hq,e⟩
theorem uM {α:Type}(f:α->Str)(g:α->D):∀(l:List α),fY (l.map λx=>D.tup [.str (f x),g x])=some (l.map λx=>(.inr (f x),g x))
 |[]=>rfl
 |x::l=>by
  rw[uY,fY,uM f g l];rfl
theorem rR {κ:Type}[DecidableEq κ]:∀ {ks:List κ}{vs:List D}{k:κ}{v:D},c6 ks vs k=some v->v∈vs
 |k'::ks,d::ds,k,v,h=>by
  unfold c6 at h;split at h
  ·cases h;exact mX
  ·exact mZ _ (rR h)
 |[],_,_,_,h=>by simp[c6]at h
 |_::_,[],_,_,h=>by simp[c6]at h
noncomputable def lB (KL:List (D×Nat)):List (cx×D):=(KL.filter λx=>aW x.1).map λx=>(.inr (az 0 x.1),x.1)
def zi (KL:List (D×Nat))(o:Str):Option D:=c6 (bR (lB KL)).1 (bR (lB KL)).2 (.inr o)
theorem rS (g:xf r)(h:aW r=true):∃a o rl,∃m f:Int,r=row a ("root" : Str) [.str o,.int m,.int f,.str rl]:=by
 obtain⟨a,k,aD,rfl,d⟩:=g;have hk:k = "root":=of_decide_eq_true h;subst hk;obtain⟨o,rl,m,f,rfl⟩:=d.root_of;exact⟨a,o,rl,m,f,rfl⟩
theorem dE (g:gF ab)(hx:x∈ak ab aa):o4 ab (x.2:Int)=some x.1/\xf x.1:=⟨cC (bf hx),g.2 _ (vL (bf hx))⟩
theorem zj (g:gF ab)(h:zi (ak ab aa) o=some v):∃a o2 rl,∃m f:Int,v=row a ("root" : Str) [.str o2,.int m,.int f,.str rl]:=by
 have hv:=rR h;rcases uL _ ([],[]) v hv with h|⟨p,hp,e⟩
 ·cases h
 ·obtain⟨x,hx,rfl⟩:=vO hp;obtain⟨h1,h2⟩:=vN hx;rw[←e];exact rS (dE g h1).2 h2
theorem rT (g:gF ab)(aa:Int):gm [.tup ab,.int aa]=sF (.dk (bR (lB (ak ab aa))).1 (bR (lB (ak ab aa))).2):=by
 have hl:=cw ab aa;have ED:=g.1;have h1:=qP (fi:=cy (fA cG (fV 0 (fV 1 aj)))) (nT:=1) (cap:=[0]) (tg:=dM 0) (fe:=f2 bG (ai 1) (ai 0)) (ρ:=[sF (.tup ab),sF (.int aa),none]) (ak ab aa) (λx=>.int x.2) Prod.fst
  (by
   show(fA cG (fV 0 (fV 1 aj)) _).bind _=_;rw[aJ [.tup ab,.int aa] rfl (kI ab g.rp g.le aa)];rfl) (by omega) λx hx=>by
   have ha:=(dE g hx).1;exact⟨_,rfl,false,by simp[dF,ha]⟩
 have hn:bw ((ak ab aa).map Prod.fst)=true:=bF λd hd=>by
  obtain⟨x,hx,rfl⟩:=vO hd;exact(dE g hx).2.rp.flat
 have h2:=gA (fi:=cy (ai 2)) (nT:=1) (cap:=[]) (tg:=dM 0) (c:=br (f2 fu (fA aK (fV 0 aj)) (fS "root"))) (fe:=fA aP (af (fA au (fV 0 (af (fS "office") aj))) (fV 0 aj)))
  (ρ:=[sF (.tup ab),sF (.int aa),lT ((ak ab aa).map Prod.fst)]) (ak ab aa) Prod.fst (λx=>aW x.1) (λx=>.tup [.str (az 0 x.1),x.1]) (by simp) (by omega) λx hx=>by
   have gr:=(dE g hx).2;refine⟨_,rfl,bP (a:=kindOf x.1) (bb:=false) (aJ [x.1] rfl (jf gr)) rfl,λhp=>⟨false,?_⟩⟩;obtain⟨a,o,rl,m,f,e⟩:=rS gr hp;refine aJ [.str (az 0 x.1),x.1] (ce (aJ [x.1,.str "office"] rfl ?_) rfl) (bI _ (by simp));rw[e];exact kL
 refine aw rfl (c8 (ds:=(ak ab aa).map Prod.fst) h1 hn (ay (aJ [.lst (((ak ab aa).filter λx:D×Nat=>aW x.1).map λx:D×Nat=>D.tup [.str (az 0 x.1),x.1])] (aF h2 rfl) ?_)));rw[gS,uM (λx:D×Nat=>az 0 x.1) Prod.fst];rfl
def p4:D×Nat->List (D×Nat)->D×Nat
 |b,[]=>b
 |b,x::r=>if be (kA x) (kA b)=some true then p4 x r else p4 b r
theorem xi:∀(r:List (D×Nat))(b:D×Nat),ly (kA b,.int b.2) (r.map λx=>(kA x,D.int x.2))=.int (p4 b r).2
 |[],b=>rfl
 |x::r,b=>by
  rw[uY,ly,p4];split
  ·exact xi r x
  ·exact xi r b
def gL (KL:List (D×Nat))(p:Str)(day:Int)(i:Nat):Bool:=match KL.filter (λx=>told eB p day x.1) with
 |[]=>false
 |b::r=>decide ((p4 b r).2=i)
theorem GJ (g:gF ab)(aa:Int)(hx:x∈ak ab aa)(e:x.1=row a ("death" : Str) [.int d,.str p]):ga [.tup ab,.int aa,.int x.2]=sF (.bl (gL (ak ab aa) p d x.2)):=by
 have ha:=(dE g hx).1;have gx:=(dE g hx).2;have ht:=xa ab g.rp g.le aa eB fJ p d;have zV:au [x.1,.str "person"]=sF (.str p):=by rw[e];exact bq (i:=1) df rfl
 have sJ:aR [x.1]=sF (.int d):=by rw[e];exact jy (.inl (by decide +kernel)) rfl
 have o0:x∈p0 ab aa eB p d:=List.mem_filter.mpr ⟨hx,by rw[e];simp[told,row,eB,rA]⟩;have Zj:gL (ak ab aa) p d x.2=match p0 ab aa eB p d with|[]=>false|b::r=>decide ((p4 b r).2=x.2):=rfl
 have key:∀y∈p0 ab aa eB p d,∃h k dd,ab[y.2]? = some (row h k [.int dd,.str p])/\y.1=row h k [.int dd,.str p]/\cN k=true:=λy hy=>by
  obtain⟨hg,UU⟩:=C7 hy;obtain⟨h,k,dd,e2,h3,_⟩:=rE fJ (g.rp _ (vL hg)) UU;exact⟨h,k,dd,by rw[hg,e2],e2,h3⟩
 rw[Zj];cases hs:p0 ab aa eB p d with
 |nil=>rw[hs]at o0;cases o0
 |cons b r=>
  rw[hs]at ht key;have hm:∀ρ:DL.Env,ρ[0]? = some (sF (.tup ab))->js (qt [0] (fA eZ (fV 1 (fV 0 aj))) ρ) ((b::r).map λy=>.int y.2)=some ((b::r).map λy=>.tup [.int (aE y.1),.int y.2]):=λρ h0=>
   i7 (b::r) λy hy=>by
    obtain⟨h,k,dd,hg,e2,h3⟩:=key y hy;show(fA eZ _ _).map _=_;rw[aJ [.tup ab,.int y.2] (by simp[dF,h0]) (C8 hg h3),e2];rfl
  have hk:dj ((b::r).map λy=>D.tup [.int (aE y.1),.int y.2])=some ((b::r).map kA):=gZ _ λy _=>rfl;have hz:((b::r).map kA).zip ((b::r).map λy=>D.int y.2)=(kA b,D.int b.2)::r.map λy=>(kA y,D.int y.2):=by rw[List.zip_map'];rfl
  have vx:bw ((b::r).map λy=>D.int y.2)=true:=bF λd hd=>by obtain⟨y,_,rfl⟩:=vO hd;rfl
  refine aw rfl (fB x.1 (by simp[ha]) gx.rp.flat (c8 (ds:=(b::r).map λy=>.int y.2) (aJ [.tup ab,.int aa,.tup (eB.map .str),.str p,.int d] (ce rfl (ce rfl (ce (aJ [.str "death"] rfl (bI _ (by simp))) (aF (aJ [x.1,.str "person"] rfl zV) (aF (aJ [x.1] rfl sJ) rfl))))) ht) vx (ay (b7 (.int (p4 b r).2) (.int x.2) ?_ rfl ?_))))
  ·unfold uw NN;show((some (D.lst ((b::r).map λy=>D.int y.2),false)).bind _)=_;rw[vJ];dsimp only;rw[hm _ rfl,vJ,hk,vJ,if_pos (xc _),hz];show some (ly _ _,false)=_;rw[xi]
  ·rw[Cy];congr 3;apply decide_eq_decide.mpr;omega
abbrev KL:=List (D×Nat)
noncomputable def kM (K:KL)(p:Str)(day:Int):Bool:=(K.filter λx=>told eB p day x.1).isEmpty
def zk (K:KL)(p:Str)(day:Int):Bool:=match LH (K.filter λx=>told mP p day x.1) with
 |none=>true
 |some x=>decide (kindOf x.1 = "found")
def lX (K:KL)(r:D):Bool:=dw (kindOf r) && (kM K (cJ r) (aE r) && zk K (cJ r) (aE r))
def GK (r:D):Str:=if kindOf r = "named" then az 1 r else az 2 r
noncomputable def rV:List Str:=[("named" : Str),"chosen","heir"]
def cj (K:KL)(so:List Cl)(x:D×Nat):Bool :=
 if kindOf x.1 = "death" then gL K (az 1 x.1) (aE x.1) x.2
 else if kindOf x.1∈rV then match zi K (GK x.1) with
  |none=>false
  |some v=>if kindOf x.1 = "named" then true else lX K x.1 && iU so (az 0 v) (az 3 v) (az 1 x.1) (aE x.1)
 else false
theorem xj (ab:List D)(aa:Int)(p:Str)(day:Int):jM ab aa p day=kM (ak ab aa) p day:=rfl
theorem GL (ab:List D)(aa:Int)(p:Str)(day:Int):mQ ab aa p day=zk (ak ab aa) p day:=rfl
theorem JY (h:aT r<=aa):fm ab aa r=lX (ak ab aa) r:=by
 unfold fm lX;rw[decide_eq_true h,Bool.true_and];rfl
theorem Ef (g:gF ab)(aa:Int)(so:List Cl)(sM:so.length<=60)(hx:x∈ak ab aa)(Pz:aW x.1=false):mJ [.tup ab,.int aa,.lst (so.map aV),.int x.2]=sF (.bl (cj (ak ab aa) so x)):=by
 obtain⟨ha,gx⟩:=dE g hx;have hh:aT x.1<=aa:=of_decide_eq_true (vN hx).2;have hf:bi x.1=true:=gx.rp.flat;have hw:∀ρ:DL.Env,ρ[4]? = some (some (x.1,false))->fA aK (fV 4 aj) ρ=sF (.str (kindOf x.1)):=λρ h4=>aJ [x.1] (by simp[h4]) (jf gx);have SK:∀ρ:DL.Env,ρ[4]? = some (some (x.1,false))->br (f2 fF (fA aK (fV 4 aj)) (fA aP (af (fS "named") (af (fS "chosen") (af (fS "heir") aj))))) ρ=some (!decide (kindOf x.1∈rV)):=λρ h4=>
  cX (b7 (.str (kindOf x.1)) (.tup (rV.map .str)) (hw ρ h4) (by simp[sizeLine,rV]) (oR _ _))
 by_cases hd:kindOf x.1 = "death"
 ·obtain⟨a,k,aD,e,d⟩:=gx;have hk:k = "death":=by rw[e]at hd;exact hd
  subst hk;obtain⟨dd,p,rfl⟩:=d.deed.three (by decide +kernel);have hc:cj (ak ab aa) so x=gL (ak ab aa) p dd x.2:=by
   unfold cj;rw[if_pos hd,e];rfl
  rw[hc];exact aw rfl (fB x.1 (by simp[ha]) hf (b8 (bP (bb:=false) (hw _ rfl) (decide_eq_true hd)) (ay (aJ [.tup ab,.int aa,.int x.2] rfl (GJ g aa hx e)))))
 ·by_cases h3:kindOf x.1∈rV
  ·have OA:au [x.1,.str "office"]=sF (.str (GK x.1)):=by
    obtain⟨a,k,aD,e,d⟩:=gx;rw[e]at h3 hd Pz ⊢;replace h3:k∈rV:=h3;clear hd Pz;cases d with
    |root=>exact cP h3
    |named d o p=>exact bq (i:=1) df rfl
    |chosen d b o p s=>exact bq (i:=2) df rfl
    |heir d b o p=>exact bq (i:=2) df rfl
    |three _ hk=>rcases hk with rfl|rfl|rfl<;>exact cP h3
    |other _ hk=>rcases hk with rfl|rfl|rfl|rfl|rfl<;>exact cP h3
   have e5:∀ρ:DL.Env,ρ[0]? = some (sF (.tup ab))->ρ[1]? = some (sF (.int aa))->ρ[4]? = some (some (x.1,false))->f2 Go (fA gm (fV 0 (fV 1 aj))) (fA au (fV 4 (af (fS "office") aj))) ρ=some ((zi (ak ab aa) (GK x.1)).getD .non,false):=λρ q0 q1 q4=>
    b7 (.dk (bR (lB (ak ab aa))).1 (bR (lB (ak ab aa))).2) (.str (GK x.1)) (aJ [.tup ab,.int aa] (by simp[q0,q1]) (rT g aa)) (aJ [x.1,.str "office"] (by simp[q4]) OA) rfl
   cases hr:zi (ak ab aa) (GK x.1) with
   |none=>
    rw[hr]at e5;have hc:cj (ak ab aa) so x=false:=by unfold cj;rw[if_neg hd,if_pos h3,hr]
    rw[hc];exact aw rfl (fB x.1 (by simp[ha]) hf (aA (bP (bb:=false) (hw _ rfl) (decide_eq_false hd)) (aA (by rw[SK _ rfl,decide_eq_true h3];rfl) (fB .non (e5 _ rfl rfl rfl) rfl (b8 (cX (b7 .non .non rfl rfl (by simp))) (ay rfl))))))
   |some v=>
    rw[hr]at e5;obtain⟨va,vo,vrl,vm,vf,ev⟩:=zj g hr;have WL:bi v=true:=by rw[ev];rfl
    have WM:EL v .non=sF (.bl false):=by rw[ev];simp[row]
    by_cases hn:kindOf x.1 = "named"
    ·have hc:cj (ak ab aa) so x=true:=by unfold cj;rw[if_neg hd,if_pos h3,hr];dsimp only;rw[if_pos hn]
     rw[hc];exact aw rfl (fB x.1 (by simp[ha]) hf (aA (bP (bb:=false) (hw _ rfl) (decide_eq_false hd)) (aA (by rw[SK _ rfl,decide_eq_true h3];rfl) (fB v (e5 _ rfl rfl rfl) WL (aA (cX (b7 v .non rfl rfl WM)) (b8 (bP (bb:=false) (hw _ rfl) (decide_eq_true hn)) (ay rfl)))))))
    ·have hc:cj (ak ab aa) so x=(lX (ak ab aa) x.1 && iU so (az 0 v) (az 3 v) (az 1 x.1) (aE x.1)):=by unfold cj;rw[if_neg hd,if_pos h3,hr];dsimp only;rw[if_neg hn]
     have SM:au [x.1,.str "by"]=sF (.str (az 1 x.1))/\aR [x.1]=sF (.int (aE x.1)):=by
      refine⟨?_,by rw[rJ gx];unfold tm;rw[Pz];rfl⟩;obtain⟨a,k,aD,e,d⟩:=gx;rw[e]at h3 hn ⊢;replace h3:k∈rV:=h3;cases d with
      |root=>exact cP h3
      |named=>exact absurd rfl hn
      |chosen d b o p s=>exact bq (i:=1) df rfl
      |heir d b o p=>exact bq (i:=1) df rfl
      |three _ hk=>rcases hk with rfl|rfl|rfl<;>exact cP h3
      |other _ hk=>rcases hk with rfl|rfl|rfl|rfl|rfl<;>exact cP h3
     have hs:=rH ab g.rp g.le aa (bf hx);rw[JY hh]at hs;have HL:cM [.lst (so.map aV),v,.str (az 1 x.1),.int (aE x.1)]=sF (.bl (iU so (az 0 v) (az 3 v) (az 1 x.1) (aE x.1))):=by
      rw[ev];exact xh so sM _ _
     rw[hc];refine aw rfl (fB x.1 (by simp[ha]) hf (aA (bP (bb:=false) (hw _ rfl) (decide_eq_false hd)) (aA (by rw[SK _ rfl,decide_eq_true h3];rfl) (fB v (e5 _ rfl rfl rfl) WL (aA (cX (b7 v .non rfl rfl WM)) (aA (bP (bb:=false) (hw _ rfl) (decide_eq_false hn)) (ay ?_)))))));exact dW (b1:=false) (aJ [.tup ab,.int aa,.int x.2] rfl hs) λ_=>aJ [.lst (so.map aV),v,.str (az 1 x.1),.int (aE x.1)] (ce rfl (ce rfl (aF (aJ [x.1,.str "by"] rfl SM.1) (aF (aJ [x.1] rfl SM.2) rfl)))) HL
  ·have hc:cj (ak ab aa) so x=false:=by unfold cj;rw[if_neg hd,if_neg h3]
   rw[hc];exact aw rfl (fB x.1 (by simp[ha]) hf (aA (bP (bb:=false) (hw _ rfl) (decide_eq_false hd)) (b8 (by rw[SK _ rfl,decide_eq_false h3];rfl) (ay rfl))))
def ge (dh:List Str)(p:Str)(day:Int)(c:Cl):List Cl :=
 if(!decide (c.o∈dh) || (!decide (c.p=p) || !(iA c day || decide (day<c.s))))=true then [c]else if c.s<day then [⟨c.o,p,c.s,some day,c.n⟩]else []
noncomputable def bZ (so:List Cl)(dh:List Str)(p:Str)(day:Int):List Cl:=so.flatMap (ge dh p day)
theorem gf (dh:List Str)(p:Str)(day:Int):∀so:List Cl,(bZ so dh p day).length<=so.length
 |[]=>vT _
 |c::so=>by
  unfold bZ;rw[uO,uZ,vE];have h1:=gf dh p day so;have h2:(ge dh p day c).length<=1:=by
   unfold ge;split
   ·simp
   ·split<;>simp
  unfold bZ at h1;omega
theorem Bi (k:Str)(ws:List Str):fF (.str k) (.lst (ws.map .str))=sF (.bl (!decide (k∈ws))):=by
 simp only[fF,ie,vJ,rB];rw[if_pos ⟨rfl,nY ws⟩]
theorem zl (so:List Cl)(sM:so.length<=60)(dh:List Str)(p:Str)(day:Int):pJ [.lst (so.map aV),.lst (dh.map .str),.str p,.int day]=lT ((bZ so dh p day).map aV):=by
 obtain⟨ρ',e,v5,rfl⟩:=io (tg:=dM 5) (g:=qX) (λj ρ=>∃v5:OB,ρ=[sF (.lst (so.map aV)),sF (.lst (dh.map .str)),sF (.str p),sF (.int day),lT ((bZ (so.take j) dh p day).map aV),v5]) (so.map aV)
  [sF (.lst (so.map aV)),sF (.lst (dh.map .str)),sF (.str p),sF (.int day),lT [],none] ⟨none,rfl⟩ (by
   rintro j d ρ hd ⟨v5,rfl⟩;rw[vA]at hd;obtain⟨c,hc,rfl⟩:=oY hd;have hj:j<so.length:=(vV hc).1;have et:bZ (so.take (j+1)) dh p day=bZ (so.take j) dh p day++ge dh p day c:=by
    unfold bZ;rw[List.take_add_one,hc,Option.toList_some,List.flatMap_append,uO,List.flatMap_nil,uQ]
   have bB:(bZ (so.take j) dh p day).length<=60:=vR (gf dh p day _) (by rw[List.length_take];omega);let ρ1:DL.Env:=[sF (.lst (so.map aV)),sF (.lst (dh.map .str)),sF (.str p),sF (.int day),lT ((bZ (so.take j) dh p day).map aV),some (aV c,false)];have q0:eY 5 0 ρ1=sF (.str c.o):=b7 (aV c) (.int 0) rfl rfl (QT c);have q1:eY 5 1 ρ1=sF (.str c.p):=b7 (aV c) (.int 1) rfl rfl (Pa c);have q2:eY 5 2 ρ1=sF (.int c.s):=b7 (aV c) (.int 2) rfl rfl (Sx c);have q4:eY 5 4 ρ1=sF (.int c.n):=b7 (aV c) (.int 4) rfl rfl (Sy c);have j8:kg (br (f2 fF (eY 5 0) (ai 1))) (kg (br (f2 sT (eY 5 1) (ai 2))) (fQ (kg (br (fA cR (fV 5 (fV 3 aj)))) (br (f2 HS (eY 5 2) (ai 3)))))) ρ1=some (!decide (c.o∈dh) || (!decide (c.p=p) || !(iA c day || decide (day<c.s)))) :=
    dr (cX (b7 (.str c.o) (.lst (dh.map .str)) q0 rfl (Bi _ _))) λ_=>dr (cX (b7 (.str c.p) (.str p) q1 rfl (by simp))) λ_=>cF (dr (cX (aJ [aV c,.int day] rfl (rK c day))) λ_=>cX (b7 (.int c.s) (.int day) q2 rfl (by simp)))
   by_cases h1:(!decide (c.o∈dh) || (!decide (c.p=p) || !(iA c day || decide (day<c.s))))=true
   ·have eo:ge dh p day c=[c]:=by unfold ge;rw[if_pos h1]
    rw[h1]at j8;refine⟨_,_,rfl,.inl (lq j8 (jG (ds:=(bZ (so.take j) dh p day).map aV) (d:=aV c) (b:=false) rfl rfl (mR c) (bO (by simp;omega)))),some (aV c,false),?_⟩;rw[et,eo,uW];rfl
   ·rw[Bool.not_eq_true]at h1;rw[h1]at j8;by_cases h2:c.s<day
    ·have eo:ge dh p day c=[⟨c.o,p,c.s,some day,c.n⟩]:=by unfold ge;rw[if_neg (by rw[h1];decide),if_pos h2]
     refine⟨_,_,rfl,.inl (lP j8 (lq (cX (b7 (.int c.s) (.int day) q2 rfl (by simp[h2]))) (jG (ds:=(bZ (so.take j) dh p day).map aV) (d:=aV ⟨c.o,p,c.s,some day,c.n⟩) (b:=false) rfl (aJ [.str c.o,.str p,.int c.s,.int day,.int c.n] (aF q0 (ce rfl (aF q2 (ce rfl (aF q4 rfl))))) (bI _ (by simp))) (mR _) (bO (by simp;omega))))),some (aV c,false),?_⟩;rw[et,eo,uW];rfl
    ·have eo:ge dh p day c=[]:=by unfold ge;rw[if_neg (by rw[h1];decide),if_neg h2]
     refine⟨_,_,rfl,.inl (lP j8 (lP (cX (b7 (.int c.s) (.int day) q2 rfl (by simp;omega))) rfl)),some (aV c,false),?_⟩;rw[et,eo,uQ];rfl)
 have e':iW (dM 5) qX (so.map aV) [sF (.lst (so.map aV)),sF (.lst (dh.map .str)),sF (.str p),sF (.int day),lT [],none]=some (.nx [sF (.lst (so.map aV)),sF (.lst (dh.map .str)),sF (.str p),sF (.int day),lT ((bZ so dh p day).map aV),v5]):=by
  rw[e];have:so.take (so.map aV).length=so:=by rw[vI,List.take_length]
  rw[this]
 exact aw rfl (c8 (ds:=[]) (by simp[sizeLine]) rfl (dU (kW (ds:=so.map aV) (by simp[mq]) e') (pG rfl)))
theorem LJ (ho:au [r,.str "office"]=sF (.str o))(hp:au [r,.str "person"]=sF (.str p))(s:Int)(n:Nat):gD [r,.int s,.int n]=some (aV ⟨o,p,s,none,n⟩,false) :=
 aw rfl (ay (aJ [.str o,.str p,.int s,.non,.int n] (aF (aJ [r,.str "office"] rfl ho) (aF (aJ [r,.str "person"] rfl hp) rfl)) (bI _ (by simp))))
theorem Eg (so:List Cl)(sM:so.length<=60)(n:Nat):iw [.lst (so.map aV),row a ("chosen" : Str) [.int d,.str b,.str o,.str p,.int s],.int n]=lT ((bZ so [o] b s++[(⟨o,p,s,none,n⟩:Cl)]).map aV):=by
 let r:D:=row a ("chosen" : Str) [.int d,.str b,.str o,.str p,.int s];have ho:au [r,.str "office"]=sF (.str o):=bq (i:=2) df rfl;have hp:au [r,.str "person"]=sF (.str p):=bq (i:=3) df rfl;have hb:au [r,.str "by"]=sF (.str b):=bq (i:=1) df rfl;have hs:au [r,.str "since"]=sF (.int s):=bq (i:=4) df rfl;have hl:=gf [o] b s so;refine aw rfl (fB (.int s) (aJ [r,.str "since"] rfl hs) rfl (c8 (ds:=(bZ so [o] b s).map aV) (aJ [.lst (so.map aV),.lst ([o].map .str),.str b,.int s] (ce rfl (aF (b:=true) (aJ [.str o] (aF (aJ [r,.str "office"] rfl ho) rfl) (jN _ (by simp))) (aF (aJ [r,.str "by"] rfl hb) rfl))) (zl so sM [o] b s)) (j0 _) (ay ?_)));refine iq (x:=.lst ((bZ so [o] b s).map aV)) (y:=.lst [aV ⟨o,p,s,none,n⟩]) (b1:=false) (b2:=true) rfl (aJ [aV ⟨o,p,s,none,n⟩] (aF (aJ [r,.int s,.int n] rfl (LJ ho hp s n)) rfl) (jN _ (by simp))) ?_;rw[uW];exact if_pos (dD (by rw[vI,List.length_singleton];omega))
noncomputable def zm (hk:List (List cx))(hv:List D)(o p:Str):Option Str:=match c6 hk hv [.inr o,.inr p] with
 |some (.str h)=>some h
 |_=>none
def dH (K:KL)(hk:List (List cx))(hv:List D)(p:Str)(day:Int)(n:Nat)(o:Str):List Cl:=match zm hk hv o p with
 |some h=>if kM K h day=true then [⟨o,h,day,none,n⟩]else []
 |none=>[]
def dz (so:List Cl)(p:Str)(day:Int):List Str:=k6 (iL ((so.filter λc=>decide (c.p=p) && iA c day).map (·.o)))
def mU (K:KL)(so:List Cl)(hk:List (List cx))(hv:List D)(p:Str)(day:Int)(n:Nat):List Cl:=(dz so p day).flatMap (dH K hk hv p day n)
theorem lY (K:KL)(hk:List (List cx))(hv:List D)(p:Str)(day:Int)(n:Nat)(o:Str):(dH K hk hv p day n o).length<=1:=by
 unfold dH;split
 ·split<;>simp
 ·simp
theorem rW {α β:Type}(f:α->List β)(h:∀a,(f a).length<=1):∀l:List α,(l.flatMap f).length<=l.length
 |[]=>vT _
 |a::l=>by
  rw[uO,uZ,vE];have:=h a;have:=rW f h l;omega
theorem zn (so:List Cl)(p:Str)(day:Int):(dz so p day).length<=so.length:=by
 unfold dz;rw[(eV _).length_eq];refine vR (pZ _) ?_;rw[vI];exact vM _ _
theorem xl (g:gF ab)(aa:Int)(so:List Cl)(sM:so.length<=60)(hk:List (List cx))(hv:List D)(UV:∀v∈hv,∃s,v=.str s)(hx:x∈ak ab aa)(e:x.1=row a ("death" : Str) [.int d,.str p]):
  kE [.tup ab,.int aa,.lst (so.map aV),.dt hk hv,.int x.2]=lT ((mU (ak ab aa) so hk hv p d x.2).map aV):=by
 have ha:=(dE g hx).1;have zV:au [x.1,.str "person"]=sF (.str p):=by rw[e];exact bq (i:=1) df rfl
 have sJ:aR [x.1]=sF (.int d):=by rw[e];exact jy (.inl (by decide +kernel)) rfl
 have WN:=zn so p d;have RQ:∀(o:Str)(l:List Cl)(v9:OB),l.length<=60->gU [sF (.tup ab),sF (.int aa),sF (.lst (so.map aV)),sF (.dt hk hv),sF (.int x.2),sF (.str p),sF (.int d),lT (l.map aV),sF (.str o),v9]=some (.nx [sF (.tup ab),sF (.int aa),sF (.lst (so.map aV)),sF (.dt hk hv),sF (.int x.2),sF (.str p),sF (.int d),lT ((l++dH (ak ab aa) hk hv p d x.2 o).map aV),sF (.str o),some ((c6 hk hv [.inr o,.inr p]).getD .non,false)]):=λo l v9 hl=>by
  have eg:Gz (ai 3) (fV 8 (fV 5 aj)) [sF (.tup ab),sF (.int aa),sF (.lst (so.map aV)),sF (.dt hk hv),sF (.int x.2),sF (.str p),sF (.int d),lT (l.map aV),sF (.str o),v9]=some ((c6 hk hv [.inr o,.inr p]).getD .non,false):=by
   simp[iP,sizeLine]
  cases hlk:c6 hk hv [.inr o,.inr p] with
  |none=>
   rw[hlk]at eg;have ei:dH (ak ab aa) hk hv p d x.2 o=[]:=by unfold dH zm;rw[hlk]
   rw[ei,uQ];exact fB .non eg rfl (lP (eG (p:=false) (q:=false) (cX (by simp)) (by simp)) rfl)
  |some v=>
   obtain⟨h,rfl⟩:=UV v (rR hlk);rw[hlk]at eg;have KJ:=rF ab g.rp g.le aa h d;rw[xj]at KJ;have RS:∀ρ:DL.Env,ρ[0]? = some (sF (.tup ab))->ρ[1]? = some (sF (.int aa))->ρ[6]? = some (sF (.int d))->ρ[9]? = some (sF (.str h))->dO (br (f2 lJ (ai 9) (fC .non))) (br (fA jH (fV 0 (fV 1 (fV 9 (fV 6 aj)))))) ρ=some (true && kM (ak ab aa) h d):=λρ q0 q1 q6 q9=>
    eG (cX (by simp[q9])) λ_=>cX (aJ [.tup ab,.int aa,.str h,.int d] (by simp[q0,q1,q6,q9]) KJ)
   cases ED:kM (ak ab aa) h d with
   |false=>
    have ei:dH (ak ab aa) hk hv p d x.2 o=[]:=by unfold dH zm;rw[hlk];dsimp only;rw[ED];rfl
    rw[ei,uQ];exact fB (.str h) eg rfl (lP (by rw[RS _ rfl rfl rfl rfl,ED];rfl) rfl)
   |true=>
    have ei:dH (ak ab aa) hk hv p d x.2 o=[⟨o,h,d,none,x.2⟩]:=by unfold dH zm;rw[hlk];dsimp only;rw[ED];rfl
    rw[ei,uW];exact fB (.str h) eg rfl (lq (by rw[RS _ rfl rfl rfl rfl,ED];rfl) (jG (ds:=l.map aV) (d:=aV ⟨o,h,d,none,x.2⟩) (b:=false) rfl (aJ [.str o,.str h,.int d,.non,.int x.2] rfl (bI _ (by simp))) rfl (bO (by simp;omega))))
 obtain⟨ρ',el,v8,v9,rfl⟩:=io (tg:=dM 8) (g:=gU) (λj ρ=>∃v8 v9:OB,ρ=[sF (.tup ab),sF (.int aa),sF (.lst (so.map aV)),sF (.dt hk hv),sF (.int x.2),sF (.str p),sF (.int d),lT ((((dz so p d).take j).flatMap (dH (ak ab aa) hk hv p d x.2)).map aV),v8,v9]) ((dz so p d).map .str)
  [sF (.tup ab),sF (.int aa),sF (.lst (so.map aV)),sF (.dt hk hv),sF (.int x.2),sF (.str p),sF (.int d),lT [],none,none] ⟨none,none,rfl⟩ (by
   rintro j dd ρ hd ⟨v8,v9,rfl⟩;rw[vA]at hd;obtain⟨o,ho,rfl⟩:=oY hd;have hl:(((dz so p d).take j).flatMap (dH (ak ab aa) hk hv p d x.2)).length<=60:=vR (rW _ (lY _ _ _ _ _ _) _) (by rw[List.length_take];omega);refine⟨_,_,rfl,.inl (RQ o _ v9 hl),sF (.str o),some ((c6 hk hv [.inr o,.inr p]).getD .non,false),?_⟩;rw[List.take_add_one,ho,Option.toList_some,List.flatMap_append,uO,List.flatMap_nil,uQ])
 have e':iW (dM 8) gU ((dz so p d).map .str) [sF (.tup ab),sF (.int aa),sF (.lst (so.map aV)),sF (.dt hk hv),sF (.int x.2),sF (.str p),sF (.int d),lT [],none,none]=some (.nx [sF (.tup ab),sF (.int aa),sF (.lst (so.map aV)),sF (.dt hk hv),sF (.int x.2),sF (.str p),sF (.int d),lT ((mU (ak ab aa) so hk hv p d x.2).map aV),v8,v9]):=by
  rw[el];have:(dz so p d).take ((dz so p d).map D.str).length=dz so p d:=by rw[vI,List.take_length]
  rw[this];rfl
 have KI:∀ρ:DL.Env,ρ[2]? = some (sF (.lst (so.map aV)))->ρ[5]? = some (sF (.str p))->ρ[6]? = some (sF (.int d))->cy (f1 g9 (bH (cy (ai 2)) 1 [5,6] (dM 0) (dO (br (f2 fu (eY 0 1) (ai 1))) (br (fA cR (fV 0 (fV 2 aj))))) (eY 0 0))) ρ=some ((dz so p d).map .str):=λρ q2 q5 q6=>by
  have hc:=gA (fi:=cy (ai 2)) (nT:=1) (cap:=[5,6]) (tg:=dM 0) (c:=dO (br (f2 fu (eY 0 1) (ai 1))) (br (fA cR (fV 0 (fV 2 aj))))) (fe:=eY 0 0) (ρ:=ρ) so aV (λc=>decide (c.p=p) && iA c d) (λc=>.str c.o) (by simp[q2]) (by omega) λc hc=>
   ⟨_,rfl,eG (cX (b7 (.str c.p) (.str p) (b7 (aV c) (.int 1) (by simp[dF]) rfl (Pa c)) (by simp[dF,q5]) (by simp))) λ_=>cX (aJ [aV c,.int d] (by simp[dF,q6]) (rK c d)),λ_=>⟨false,b7 (aV c) (.int 0) (by simp[dF]) rfl (QT c)⟩⟩
  have e2:(so.filter λc=>decide (c.p=p) && iA c d).map (λc=>D.str c.o)=((so.filter λc=>decide (c.p=p) && iA c d).map (·.o)).map .str:=by rw[uP];rfl
  rw[e2]at hc;show(f1 g9 _ ρ).bind _=_;unfold f1;rw[hc,vJ];have UW:((so.filter λc=>decide (c.p=p) && iA c d).map (·.o)).length<64:=by rw[vI];exact Nat.lt_of_le_of_lt (vM _ _) (by omega)
  show((g7 _).bind _).bind _=_;rw[rQ,vJ,if_pos UW];rfl
 refine aw rfl (fB (.str p) (aJ [x.1,.str "person"] (by simp[ha]) zV) rfl (fB (.int d) (aJ [x.1] (by simp[ha]) sJ) rfl (c8 (ds:=[]) (by simp[sizeLine]) rfl (dU (ρ':=[sF (.tup ab),sF (.int aa),sF (.lst (so.map aV)),sF (.dt hk hv),sF (.int x.2),sF (.str p),sF (.int d),lT ((mU (ak ab aa) so hk hv p d x.2).map aV),v8,v9]) ?_ (pG rfl)))));exact kW (ρ:=[sF (.tup ab),sF (.int aa),sF (.lst (so.map aV)),sF (.dt hk hv),sF (.int x.2),sF (.str p),sF (.int d),lT [],none,none]) (KI _ rfl rfl rfl) e'
theorem GN (g:gF ab)(aa:Int)(so:List Cl)(sM:so.length<=60)(hk:List (List cx))(hv:List D)(UV:∀v∈hv,∃s,v=.str s)(hx:x∈ak ab aa)(e:x.1=row a ("death" : Str) [.int d,.str p]):
  jc [.tup ab,.int aa,.lst (so.map aV),.dt hk hv,.int x.2]=lT ((bZ so (so.map Cl.o) p d++mU (ak ab aa) so hk hv p d x.2).map aV):=by
 have ha:=(dE g hx).1;have zV:au [x.1,.str "person"]=sF (.str p):=by rw[e];exact bq (i:=1) df rfl
 have sJ:aR [x.1]=sF (.int d):=by rw[e];exact jy (.inl (by decide +kernel)) rfl
 have h1:=qP (fi:=cy (ai 2)) (nT:=1) (cap:=[]) (tg:=dM 0) (fe:=eY 0 0) (ρ:=[sF (.tup ab),sF (.int aa),sF (.lst (so.map aV)),sF (.dt hk hv),sF (.int x.2),none,none]) so aV (λc=>.str c.o) (by simp) (by omega) λc hc=>⟨_,rfl,false,b7 (aV c) (.int 0) (by simp[dF]) rfl (QT c)⟩;have e2:so.map (λc=>D.str c.o)=(so.map Cl.o).map .str:=by rw[uP];rfl
 rw[e2]at h1;have LZ:=gf (so.map Cl.o) p d so;have ED:(mU (ak ab aa) so hk hv p d x.2).length<=60:=vR (rW _ (lY _ _ _ _ _ _) _) (vR (zn so p d) sM);refine aw rfl (c8 (ds:=(so.map Cl.o).map .str) h1 (eA _) (c8 (ds:=(bZ so (so.map Cl.o) p d).map aV) (aJ [.lst (so.map aV),.lst ((so.map Cl.o).map .str),.str p,.int d] (ce rfl (ce rfl (ce (aJ [x.1,.str "person"] (by simp[ha]) zV) (ce (aJ [x.1] (by simp[ha]) sJ) rfl)))) (zl so sM _ p d)) (j0 _) (ay ?_)));refine iq (x:=.lst ((bZ so (so.map Cl.o) p d).map aV)) (y:=.lst ((mU (ak ab aa) so hk hv p d x.2).map aV)) (b1:=false) (b2:=true) rfl (aJ [.tup ab,.int aa,.lst (so.map aV),.dt hk hv,.int x.2] rfl (xl g aa so sM hk hv UV hx e)) ?_;rw[uW];exact if_pos (dD (by rw[vI,vI];omega))
abbrev Pc:=List Cl×List (List cx)×List D
def dm (K:KL)(st:Pc)(x:D×Nat):Pc :=
 if cj K st.1 x=true then
  if kindOf x.1 = "named" then (st.1++[⟨az 1 x.1,az 2 x.1,aE x.1,none,x.2⟩],st.2)
  else if kindOf x.1 = "chosen" then (bZ st.1 [az 2 x.1] (az 1 x.1) (fR 4 x.1)++[⟨az 2 x.1,az 3 x.1,fR 4 x.1,none,x.2⟩],st.2)
  else if kindOf x.1 = "heir" then (st.1,dJ st.2.1 [.inr (az 2 x.1),.inr (az 1 x.1)],dL st.2.1 st.2.2 [.inr (az 2 x.1),.inr (az 1 x.1)] (.str (az 3 x.1)))
  else (bZ st.1 (st.1.map Cl.o) (az 1 x.1) (aE x.1)++mU K st.1 st.2.1 st.2.2 (az 1 x.1) (aE x.1) x.2,st.2)
 else st
def bX (K:KL):KL:=dB (λx=>cz (kA x)) (K.filter λx=>!aW x.1)
noncomputable def lC (K:KL)(l:KL):Pc:=l.foldl (dm K) ([],[],[])
noncomputable def kC (c:Cl):List At:=[.s c.o,.i c.s,.i c.n]
def bd (K:KL):List Cl:=dB (λc=>cz (kC c)) (lC K (bX K)).1
noncomputable def Bj:List cx->Str
 |[_,.inr p]=>p
 |_=>("" : Str)
noncomputable def JZ (dd:List Str)(ks:List (List cx)):Nat:=(ks.filter λk=>decide (Bj k∉dd)).length
structure zW (K l:KL)(dd:List Str)(st:Pc):Prop where
 len:st.1.length+JZ dd st.2.1<=l.length
 ded:∀q∈dd,∃y∈l,gL K q (aE y.1) y.2=true
 nod:(st.1.map λc=>(c.o,c.n)).Nodup
 num:∀c∈st.1,c.n∈l.map (·.2)
 hs:∀v∈st.2.2,∃s,v=D.str s
 hk:st.2.1.length<=l.length
theorem CD (h:told ws p d r=true):aE r<=d/\∀d',aE r<=d'->told ws p d' r=true:=by
 unfold told at h;split at h
 ·rename_i k aD;rw[vC]at h;obtain⟨h1,h2⟩:=h;unfold rA at h2;split at h2
  ·rename_i dd q;rw[vC]at h2;refine⟨of_decide_eq_true h2.2,λd' hd=>?_⟩;unfold told;rw[vC];refine⟨h1,?_⟩;unfold rA;rw[vC];exact⟨h2.1,decide_eq_true hd⟩
  ·cases h2
 ·cases h
theorem rX:∀(r:KL)(b:D×Nat),p4 b r∈b::r/\∀y∈b::r,eN y (p4 b r)=false
 |[],b=>⟨by simp[p4],λy hy=>by rw[uT hy];simp[p4,eN]⟩
 |x::r,b=>by
  rw[p4,Be];by_cases h:eN x b=true
  ·rw[if_pos (by rw[h])];obtain⟨h1,h2⟩:=rX r x;refine⟨mZ _ h1,λy hy=>?_⟩;rcases vP hy with rfl|hy
   ·have:=h2 x mX;unfold eN at *;simp at *;omega
   ·exact h2 y hy
  ·rw[if_neg (by simpa using h)];obtain⟨h1,h2⟩:=rX r b;refine⟨?_,λy hy=>?_⟩
   ·rcases vP h1 with e|e
    ·rw[e];exact mX
    ·exact mZ _ (mZ _ e)
   ·rcases vP hy with rfl|hy
    ·exact h2 _ mX
    ·rcases vP hy with rfl|hy
     ·have:=h2 b mX;unfold eN at *;simp at *;omega
     ·exact h2 y (mZ _ hy)
theorem rY (h:gL K p d i=true):∃m∈K,told eB p d m.1=true/\m.2=i/\∀y∈K,told eB p d y.1=true->eN y m=false:=by
 unfold gL at h;split at h
 ·cases h
 ·rename_i b r e;obtain⟨h1,h2⟩:=rX r b;rw[←e]at h1 h2;obtain⟨h3,h4⟩:=vN h1;exact⟨_,h3,h4,of_decide_eq_true h,λy hy ht=>h2 y (List.mem_filter.mpr ⟨hy,ht⟩)⟩
theorem Bk (h1:gL K p d1 i1=true)(h2:gL K p d2 i2=true):i1=i2:=by
 obtain⟨m1,k1,t1,e1,q1⟩:=rY h1;obtain⟨m2,k2,t2,e2,q2⟩:=rY h2;have a1:=CD t1;have a2:=CD t2;by_cases hd:d1<=d2
 ·have z1:=q2 m1 k1 (a1.2 d2 (by omega));have hm:aE m2.1<=aE m1.1:=by unfold eN at z1;simp at z1;omega
  have z2:=q1 m2 k2 (a2.2 d1 (by omega));unfold eN at z1 z2;simp at z1 z2;omega
 ·have z1:=q1 m2 k2 (a2.2 d1 (by omega));have hm:aE m1.1<=aE m2.1:=by unfold eN at z1;simp at z1;omega
  have z2:=q2 m1 k1 (a1.2 d2 (by omega));unfold eN at z1 z2;simp at z1 z2;omega
theorem zo {κ:Type}[DecidableEq κ]:∀ {ks:List κ}{vs:List D}{k:κ}{v:D},c6 ks vs k=some v->k∈ks
 |k'::ks,d::ds,k,v,h=>by
  unfold c6 at h;split at h
  ·rename_i e;rw[←e];exact mX
  ·exact mZ _ (zo h)
 |[],_,_,_,h=>by simp[c6]at h
 |_::_,[],_,_,h=>by simp[c6]at h
theorem rZ (p:Str)(dd:List Str)(hp:p∉dd):∀ks:List (List cx),JZ dd ks=JZ (p::dd) ks+(ks.filter λk=>decide (Bj k=p)).length
 |[]=>rfl
 |k::ks=>by
  have ih:=rZ p dd hp ks;unfold JZ at ih ⊢;by_cases e:Bj k=p
  ·rw[List.filter_cons_of_pos (by simpa [e]using hp),List.filter_cons_of_neg (by simp[e]),List.filter_cons_of_pos (by simp[e]),vE,vE];omega
  ·by_cases h:Bj k∈dd
   ·rw[List.filter_cons_of_neg (by simp[h]),List.filter_cons_of_neg (by simp[h]),List.filter_cons_of_neg (by simp[e])];exact ih
   ·rw[List.filter_cons_of_pos (by simp[h]),List.filter_cons_of_pos (by simp[h,e]),List.filter_cons_of_neg (by simp[e]),vE,vE];omega
theorem kZ (dh:List Str)(p:Str)(day:Int):∀so:List Cl,((bZ so dh p day).map λc=>(c.o,c.n)).Sublist (so.map λc=>(c.o,c.n))
 |[]=>List.Sublist.slnil
 |c::so=>by
  have ih:=kZ dh p day so;unfold bZ at ih ⊢;rw[uO,uW,uY];have:((ge dh p day c).map λc=>(c.o,c.n))=[(c.o,c.n)]∨((ge dh p day c).map λc=>(c.o,c.n))=[]:=by
   unfold ge;split
   ·exact .inl rfl
   ·split
    ·exact .inl rfl
    ·exact .inr rfl
  rcases this with h|h
  ·rw[h];exact ih.cons₂ _
  ·rw[h];exact ih.cons _
theorem la (h:c∈bZ so dh p day):∃c'∈so,c'.o=c.o/\c'.n=c.n:=by
 have:=(kZ dh p day so).subset (uS ⟨c,h,rfl⟩);obtain⟨c',h1,h2⟩:=vO this;injection h2 with h3 h4;exact⟨c',h1,h3,h4⟩
theorem j3:∀(ss ts:List Str),ts.Nodup->(ss.foldl kh ts).Nodup
 |[],_,h=>h
 |s::ss,ts,h=>j3 ss _ (AI h s)
theorem sd (so:List Cl)(p:Str)(day:Int):(dz so p day).Nodup:=(eV _).nodup_iff.mpr (j3 _ [] List.nodup_nil)
theorem zp (K:KL)(hk:List (List cx))(hv:List D)(p:Str)(day:Int)(n:Nat):∀os:List Str,((os.flatMap (dH K hk hv p day n)).map λc=>(c.o,c.n)).Sublist (os.map λo=>(o,n))
 |[]=>List.Sublist.slnil
 |o::os=>by
  have ih:=zp K hk hv p day n os;rw[uO,uW,uY];have:((dH K hk hv p day n o).map λc=>(c.o,c.n))=[(o,n)]∨((dH K hk hv p day n o).map λc=>(c.o,c.n))=[]:=by
   unfold dH;split
   ·split
    ·exact .inl rfl
    ·exact .inr rfl
   ·exact .inr rfl
  rcases this with h|h
  ·rw[h];exact ih.cons₂ _
  ·rw[h];exact ih.cons _
theorem vc {α:Type}[DecidableEq α]:∀(l m:List α),l.Nodup->(∀x∈l,x∈m)->l.length<=m.length
 |[],_,_,_=>uN _
 |x::l,m,h,s=>by
  rw[List.nodup_cons]at h;have hx:=s x mX;have:=vc l (m.erase x) h.2 λy hy=>(List.mem_erase_of_ne (a:=y) (b:=x) (λe=>h.1 (by rw[←e];exact hy))).mpr (s y (mZ _ hy));rw[List.length_erase_of_mem hx]at this;have:0<m.length:=List.length_pos_of_mem hx;rw[vE];omega
theorem ve {α β:Type}(f:α->List β)(q:α->Bool)(h:∀a,(f a).length<=1/\(q a=false->f a=[])):∀l:List α,(l.flatMap f).length<=(l.filter q).length
 |[]=>vT _
 |a::l=>by
  have ih:=ve f q h l;rw[uO,uZ];cases hq:q a with
  |true=>rw[List.filter_cons_of_pos hq,vE];have:=(h a).1;omega
  |false=>rw[List.filter_cons_of_neg (by rw[hq];decide),(h a).2 hq];simpa using ih
theorem Ka (K:KL)(so:List Cl)(hk:List (List cx))(hv:List D)(p:Str)(day:Int)(n:Nat):(mU K so hk hv p day n).length<=(hk.filter λk=>decide (Bj k=p)).length:=by
 refine vR (ve _ (λo=>(c6 hk hv [.inr o,.inr p]).isSome) (λo=>⟨lY _ _ _ _ _ _ _,λh=>?_⟩) _) ?_
 ·have hl:c6 hk hv [.inr o,.inr p]=none:=by simpa using h
  unfold dH zm;rw[hl]
 ·have EH:(((dz so p day).filter λo=>(c6 hk hv [.inr o,.inr p]).isSome).map λo=>([.inr o,.inr p]:List cx)).Nodup:=List.Pairwise.map _ (λa b hab e=>hab (by injection e with e _;injection e)) ((sd so p day).filter _);have:=vc _ (hk.filter λk=>decide (Bj k=p)) EH λk hm=>by
   obtain⟨o,ho,rfl⟩:=vO hm;obtain⟨v,hv⟩:=uU (vN ho).2;exact List.mem_filter.mpr ⟨zo hv,decide_eq_true rfl⟩
  rwa [vI]at this
theorem zW.step {K l:KL}{dd:List Str}{st:Pc}(h:zW K l dd st){x:D×Nat}(hx:x.2∉l.map (·.2)):∃K6,zW K (l++[x]) K6 (dm K st x):=by
 have up:∀ {n:Nat},n∈l.map (·.2)->n∈(l++[x]).map (·.2):=λh=>by rw[uW];exact List.mem_append_left _ h
 have me:x.2∈(l++[x]).map (·.2):=by simp
 have ll:(l++[x]).length=l.length+1:=by simp
 have RT:∀q∈dd,∃y∈l++[x],gL K q (aE y.1) y.2=true:=λq hq=>by
  obtain⟨y,h1,h2⟩:=h.ded q hq;exact⟨y,List.mem_append_left _ h1,h2⟩
 have wk:zW K (l++[x]) dd st:=⟨by have:=h.len;omega,RT,h.nod,λc hc=>up (h.num c hc),h.hs,by have:=h.hk;omega⟩;have bB:=h.len;unfold dm;split
 ·rename_i hcount;split
  ·refine⟨dd,by simp;omega,RT,?_,λc hc=>?_,h.hs,by rw[ll];exact Nat.le_succ_of_le h.hk⟩
   ·rw[uW,List.nodup_append];refine⟨h.nod,by simp,λa ha b hb e=>?_⟩;obtain⟨c,hc,rfl⟩:=vO ha;simp at hb;subst hb;injection e with _ e2;exact hx (e2 ▸ h.num c hc)
   ·rcases List.mem_append.mp hc with hc|hc
    ·exact up (h.num c hc)
    ·rw[uT hc];exact me
  ·split
   ·have hl:=gf [az 2 x.1] (az 1 x.1) (fR 4 x.1) st.1;refine⟨dd,by simp;omega,RT,?_,λc hc=>?_,h.hs,by rw[ll];exact Nat.le_succ_of_le h.hk⟩
    ·rw[uW,List.nodup_append];refine⟨h.nod.sublist (kZ _ _ _ _),by simp,λa ha b hb e=>?_⟩;obtain⟨c,hc,rfl⟩:=vO ha;simp at hb;subst hb;injection e with _ e2;obtain⟨c',h1,_,h3⟩:=la hc;exact hx (e2 ▸ h3 ▸ h.num c' h1)
    ·rcases List.mem_append.mp hc with hc|hc
     ·obtain⟨c',h1,_,h3⟩:=la hc;rw[←h3];exact up (h.num c' h1)
     ·rw[uT hc];exact me
   ·split
    ·have hp:∀k:List cx,JZ dd (dJ st.2.1 k)<=JZ dd st.2.1+1/\(dJ st.2.1 k).length<=st.2.1.length+1:=λk=>by
      unfold dJ;split
      ·omega
      ·have:([k].filter λk=>decide (Bj k∉dd)).length<=1:=vM _ _;unfold JZ;rw[List.filter_append,uZ,uZ,List.length_singleton];omega
     refine⟨dd,?_,RT,wk.nod,wk.num,λv hv=>?_,?_⟩
     ·have:=(hp [.inr (az 2 x.1),.inr (az 1 x.1)]).1;rw[ll];show st.1.length+JZ dd (dJ st.2.1 [.inr (az 2 x.1),.inr (az 1 x.1)])<=_;omega
     ·rcases uK hv with hv|hv
      ·exact⟨_,hv⟩
      ·exact h.hs v hv
     ·have:=(hp [.inr (az 2 x.1),.inr (az 1 x.1)]).2;have:=h.hk;rw[ll];show(dJ _ _).length<=_;omega
    ·rename_i n1 n2 n3;have hd:kindOf x.1 = "death":=by
      unfold cj at hcount;by_cases hd:kindOf x.1 = "death"
      ·exact hd
      ·rw[if_neg hd,if_neg (by simp[rV,n1,n2,n3])]at hcount;cases hcount
     have hf:gL K (az 1 x.1) (aE x.1) x.2=true:=by unfold cj at hcount;rwa [if_pos hd]at hcount
     have Pq:az 1 x.1∉dd:=λhm=>by
      obtain⟨y,h1,h2⟩:=h.ded _ hm;exact hx (by rw[←Bk h2 hf];exact uS ⟨y,h1,rfl⟩)
     have hl:=gf (st.1.map Cl.o) (az 1 x.1) (aE x.1) st.1;have hio:=Ka K st.1 st.2.1 st.2.2 (az 1 x.1) (aE x.1) x.2;have W4:=rZ (az 1 x.1) dd Pq st.2.1;have WO:=zp K st.2.1 st.2.2 (az 1 x.1) (aE x.1) x.2 (dz st.1 (az 1 x.1) (aE x.1));have WP:∀c∈mU K st.1 st.2.1 st.2.2 (az 1 x.1) (aE x.1) x.2,c.o∈dz st.1 (az 1 x.1) (aE x.1)/\c.n=x.2:=λc hc=>by
      have:=WO.subset (uS ⟨c,hc,rfl⟩);obtain⟨o,h1,h2⟩:=vO this;injection h2 with h3 h4;exact⟨h3 ▸ h1,h4.symm⟩
     refine⟨az 1 x.1::dd,?_,λq hq=>?_,?_,λc hc=>?_,h.hs,by rw[ll];exact Nat.le_succ_of_le h.hk⟩
     ·rw[ll];show(bZ st.1 (st.1.map Cl.o) (az 1 x.1) (aE x.1)++mU K st.1 st.2.1 st.2.2 (az 1 x.1) (aE x.1) x.2).length+JZ _ st.2.1<=_;rw[uZ];omega
     ·rcases vP hq with rfl|hq
      ·exact⟨x,by simp,hf⟩
      ·exact RT q hq
     ·rw[uW,List.nodup_append];refine⟨h.nod.sublist (kZ _ _ _ _),List.Nodup.sublist WO (List.Pairwise.map _ (λa b hab e=>hab (by injection e)) (sd _ _ _)),λa ha b hb e=>?_⟩;obtain⟨c,hc,rfl⟩:=vO ha;obtain⟨c2,Ag,rfl⟩:=vO hb;injection e with _ e2;obtain⟨c',h1,_,h3⟩:=la hc;exact hx ((WP c2 Ag).2 ▸ e2 ▸ h3 ▸ h.num c' h1)
     ·rcases List.mem_append.mp hc with hc|hc
      ·obtain⟨c',h1,_,h3⟩:=la hc;rw[←h3];exact up (h.num c' h1)
      ·rw[(WP c hc).2];exact me
 ·exact⟨dd,wk⟩
theorem Kb (e:ρ[i]? = some (some (.dt ks vs,true)))(ev:fv ρ=some (d,b))(ek:fk ρ=some kd)(hk:iP kd=some kk)(hf:bi d=true)(h1:ks.length<=1000)(h2:kd.length<=1000):u0 i fk fv ρ=some (.nx (ρ.set i (some (.dt (dJ ks kk) (dL ks vs kk d),true)))):=by
 unfold u0;rw[e];dsimp only;rw[ev,vJ,ek,vJ,hk,vJ,if_pos ⟨hf,bO (by omega),dD (by omega)⟩]
theorem TK (a b:Cl):(be (kC a) (kC b)).isSome=true:=by
 unfold kC;rw[be];split
 ·rw[be];split
  ·rw[be];split
   ·rw[be];rfl
   ·rfl
  ·rfl
 ·rfl
theorem CF (cs:List Cl):di (cs.map kC)=true:=by
 unfold di;simp[List.all_eq_true,TK]
theorem oe {α β:Type}(f:α->β):∀ {l:List α},(l.map f).Nodup->∀ {a b:α},a∈l->b∈l->f a=f b->a=b
 |[],_,_,_,ha,_,_=>by cases ha
 |c::l,h,a,b,ha,hb,e=>by
  rw[uY,List.nodup_cons]at h;rcases vP ha with ea|ha1
  ·rcases vP hb with eb|hb1
   ·rw[ea,eb]
   ·exact absurd (uS ⟨b,hb1,by rw[←e,ea]⟩) h.1
  ·rcases vP hb with eb|hb1
   ·exact absurd (uS ⟨a,ha1,by rw[e,eb]⟩) h.1
   ·exact oe f h.2 ha1 hb1 e
theorem GO {cs:List Cl}{a b:Cl}(ha:a∈cs)(hb:b∈cs)(e:cz (kC a)=cz (kC b)):(a.o,a.n)=(b.o,b.n):=by
 have h:=kT (CF cs) (uS ⟨a,ha,rfl⟩) (uS ⟨b,hb,rfl⟩) e;unfold kC at h;injection h with h1 h2;injection h1 with h1;injection h2 with _ h3;injection h3 with h3 _;injection h3 with h3;rw[h1,show a.n=b.n by omega]
theorem Kc (g:gF ab)(aa:Int)(h:zW (ak ab aa) l dd st)(hj:l.length<=60)(hx:x∈ak ab aa)(Pz:aW x.1=false)(v5:OB):
  ∃w5,(kY [sF (.tup ab),sF (.int aa),lT (st.1.map aV),some (.dt st.2.1 st.2.2,true),sF (.int x.2),v5]=some (.nx [sF (.tup ab),sF (.int aa),lT ((dm (ak ab aa) st x).1.map aV),some (.dt (dm (ak ab aa) st x).2.1 (dm (ak ab aa) st x).2.2,true),sF (.int x.2),w5])
   ∨ kY [sF (.tup ab),sF (.int aa),lT (st.1.map aV),some (.dt st.2.1 st.2.2,true),sF (.int x.2),v5]=some (.ct [sF (.tup ab),sF (.int aa),lT ((dm (ak ab aa) st x).1.map aV),some (.dt (dm (ak ab aa) st x).2.1 (dm (ak ab aa) st x).2.2,true),sF (.int x.2),w5])):=by
 obtain⟨ha,gx⟩:=dE g hx;have sM:st.1.length<=60:=by have:=h.len;omega
 have hf:bi x.1=true:=gx.rp.flat;have ec:=Ef g aa st.1 sM hx Pz;have Dj:fQ (br (fA mJ (fV 0 (fV 1 (fV 2 (fV 4 aj)))))) [sF (.tup ab),sF (.int aa),lT (st.1.map aV),some (.dt st.2.1 st.2.2,true),sF (.int x.2),some (x.1,false)]=some (!cj (ak ab aa) st.1 x) :=
  cF (cX (aJ [.tup ab,.int aa,.lst (st.1.map aV),.int x.2] (by simp) ec))
 have hw:fA aK (fV 5 aj) [sF (.tup ab),sF (.int aa),lT (st.1.map aV),some (.dt st.2.1 st.2.2,true),sF (.int x.2),some (x.1,false)]=sF (.str (kindOf x.1)):=aJ [x.1] rfl (jf gx);refine⟨some (x.1,false),?_⟩;cases hc:cj (ak ab aa) st.1 x with
 |false=>
  rw[hc]at Dj;have es:dm (ak ab aa) st x=st:=by unfold dm;rw[hc];rfl
  rw[es];exact .inr (fB x.1 (by simp[ha]) hf (TJ (lq Dj rfl)))
 |true=>
  rw[hc]at Dj;left;refine fB x.1 (by simp[ha]) hf (dU (lP Dj rfl) ?_);by_cases hn:kindOf x.1 = "named"
  ·have es:dm (ak ab aa) st x=(st.1++[⟨az 1 x.1,az 2 x.1,aE x.1,none,x.2⟩],st.2):=by unfold dm;rw[hc,if_pos rfl,if_pos hn]
   rw[es];refine lq (bP (bb:=false) hw (decide_eq_true hn)) ?_;have P0:au [x.1,.str "office"]=sF (.str (az 1 x.1))/\au [x.1,.str "person"]=sF (.str (az 2 x.1)):=by
    obtain⟨a,k,aD,e,d⟩:=gx;rw[e]at hn ⊢;replace hn:k = "named":=hn;cases d with
    |named d o p=>exact⟨bq (i:=1) df rfl,bq (i:=2) df rfl⟩
    |root=>exact cP hn
    |chosen=>exact cP hn
    |heir=>exact cP hn
    |three _ hk=>rcases hk with rfl|rfl|rfl<;>exact cP hn
    |other _ hk=>rcases hk with rfl|rfl|rfl|rfl|rfl<;>exact cP hn
   have sJ:aR [x.1]=sF (.int (aE x.1)):=by rw[rJ gx];unfold tm;rw[Pz];rfl
   have e2:f2 bY (ai 2) (fA bL (af (fA gD (fV 5 (af (fA aR (fV 5 aj)) (fV 4 aj)))) aj)) [sF (.tup ab),sF (.int aa),lT (st.1.map aV),some (.dt st.2.1 st.2.2,true),sF (.int x.2),some (x.1,false)]=lT (st.1.map aV++[aV ⟨az 1 x.1,az 2 x.1,aE x.1,none,x.2⟩]):=by
    refine iq (x:=.lst (st.1.map aV)) (y:=.lst [aV ⟨az 1 x.1,az 2 x.1,aE x.1,none,x.2⟩]) (b1:=false) (b2:=true) rfl ?_ (if_pos (dD (by rw[vI,List.length_singleton];omega)));exact aJ [aV ⟨az 1 x.1,az 2 x.1,aE x.1,none,x.2⟩] (aF (aJ [x.1,.int (aE x.1),.int x.2] (ce rfl (ce (aJ [x.1] rfl sJ) rfl)) (LJ P0.1 P0.2 _ _)) rfl) (jN _ (by simp))
   have:=wZ (i:=2) e2 (by have hq:=j0 (st.1++[(⟨az 1 x.1,az 2 x.1,aE x.1,none,x.2⟩:Cl)]);rwa [uW]at hq);rw[uW];exact this
  ·refine lP (bP (bb:=false) hw (decide_eq_false hn)) ?_;by_cases p6:kindOf x.1 = "chosen"
   ·have es:dm (ak ab aa) st x=(bZ st.1 [az 2 x.1] (az 1 x.1) (fR 4 x.1)++[⟨az 2 x.1,az 3 x.1,fR 4 x.1,none,x.2⟩],st.2):=by unfold dm;rw[hc,if_pos rfl,if_neg hn,if_pos p6]
    rw[es];refine lq (bP (bb:=false) hw (decide_eq_true p6)) (wZ (i:=2) (aJ [.lst (st.1.map aV),x.1,.int x.2] rfl ?_) (j0 _));obtain⟨a,k,aD,e,d⟩:=gx;rw[e]at p6 ⊢;replace p6:k = "chosen":=p6;cases d with
    |chosen d b o p s=>exact Eg st.1 sM x.2
    |root=>exact cP p6
    |named=>exact cP p6
    |heir=>exact cP p6
    |three _ hk=>rcases hk with rfl|rfl|rfl<;>exact cP p6
    |other _ hk=>rcases hk with rfl|rfl|rfl|rfl|rfl<;>exact cP p6
   ·refine lP (bP (bb:=false) hw (decide_eq_false p6)) ?_;by_cases hh:kindOf x.1 = "heir"
    ·have es:dm (ak ab aa) st x=(st.1,dJ st.2.1 [.inr (az 2 x.1),.inr (az 1 x.1)],dL st.2.1 st.2.2 [.inr (az 2 x.1),.inr (az 1 x.1)] (.str (az 3 x.1))):=by unfold dm;rw[hc,if_pos rfl,if_neg hn,if_neg p6,if_pos hh]
     rw[es];have P0:au [x.1,.str "office"]=sF (.str (az 2 x.1))/\au [x.1,.str "by"]=sF (.str (az 1 x.1))/\au [x.1,.str "person"]=sF (.str (az 3 x.1)):=by
      obtain⟨a,k,aD,e,d⟩:=gx;rw[e]at hh ⊢;replace hh:k = "heir":=hh;cases d with
      |heir d b o p=>exact⟨bq (i:=2) df rfl,bq (i:=1) df rfl,bq (i:=3) df rfl⟩
      |root=>exact cP hh
      |named=>exact cP hh
      |chosen=>exact cP hh
      |three _ hk=>rcases hk with rfl|rfl|rfl<;>exact cP hh
      |other _ hk=>rcases hk with rfl|rfl|rfl|rfl|rfl<;>exact cP hh
     exact lq (bP (bb:=false) hw (decide_eq_true hh)) (Kb (ks:=st.2.1) (vs:=st.2.2) (kd:=[.str (az 2 x.1),.str (az 1 x.1)]) (b:=false) rfl (aJ [x.1,.str "person"] rfl P0.2.2) (aF (aJ [x.1,.str "office"] rfl P0.1) (aF (aJ [x.1,.str "by"] rfl P0.2.1) rfl)) rfl rfl (by have:=h.hk;omega) (by simp))
    ·refine lP (bP (bb:=false) hw (decide_eq_false hh)) ?_;have es:dm (ak ab aa) st x=(bZ st.1 (st.1.map Cl.o) (az 1 x.1) (aE x.1)++mU (ak ab aa) st.1 st.2.1 st.2.2 (az 1 x.1) (aE x.1) x.2,st.2):=by unfold dm;rw[hc,if_pos rfl,if_neg hn,if_neg p6,if_neg hh]
     rw[es];have hd:kindOf x.1 = "death":=by
      unfold cj at hc;by_cases hd:kindOf x.1 = "death"
      ·exact hd
      ·rw[if_neg hd,if_neg (by simp[rV,hn,p6,hh])]at hc;cases hc
     refine wZ (i:=2) (aJ [.tup ab,.int aa,.lst (st.1.map aV),.dt st.2.1 st.2.2,.int x.2] (by simp) ?_) (j0 _);obtain⟨a,k,aD,e,d⟩:=gx;have hk:k = "death":=by rw[e]at hd;exact hd
     subst hk;obtain⟨dd,p,rfl⟩:=d.deed.three (by decide +kernel);have:=GN g aa st.1 sM st.2.1 st.2.2 h.hs hx e;rw[this,e];rfl
theorem CG (K:KL):∀(l l0:KL)(st:Pc)(dd:List Str),zW K l0 dd st->((l0++l).map (·.2)).Nodup->∃K6,zW K (l0++l) K6 (l.foldl (dm K) st)
 |[],l0,st,dd,h,_=>⟨dd,by rw[uQ];exact h⟩
 |x::l,l0,st,dd,h,hn=>by
  have hx:x.2∉l0.map (·.2):=λhm=>by
   rw[uW,List.nodup_append]at hn;exact hn.2.2 _ hm x.2 (by simp) rfl
  obtain⟨K6,h'⟩:=h.step hx;have e:l0++x::l=(l0++[x])++l:=by simp
  rw[e]at hn ⊢;exact CG K l _ _ _ h' hn
theorem CH (K l:KL)(h:(l.map (·.2)).Nodup):∃dd,zW K l dd (lC K l):=by
 have:=CG K l [] ([],[],[]) [] ⟨uN _,by simp,by simp,by simp,by simp,uN _⟩ h;exact this
theorem lb (h:(K.map (·.2)).Nodup):((bX K).map (·.2)).Nodup:=((aQ _ _).map _).nodup_iff.mpr (List.Nodup.sublist (List.Sublist.map _ List.filter_sublist) h)
theorem Eh {ab:List D}(g:gF ab)(aa:Int)(bB:(bX (ak ab aa)).length<=60):qY [.tup ab,.int aa]=lT ((bd (ak ab aa)).map aV)/\(bd (ak ab aa)).length<=60:=by
 have eL:dX [.tup ab,.int aa]=lT ((bX (ak ab aa)).map λx=>.int x.2):=oS g aa;generalize hK:ak ab aa=K at bB eL ⊢;have o0:∀x∈bX K,x∈K/\aW x.1=false:=λx hx=>by
  obtain⟨h1,h2⟩:=vN ((aQ _ _).mem_iff.mp hx);exact⟨h1,by simpa using h2⟩
 have EH:((bX K).map (·.2)).Nodup:=lb (by rw[←hK];exact cO ab aa);obtain⟨ρ',e,v4,v5,rfl⟩:=io (tg:=dM 4) (g:=kY) (λj ρ=>∃v4 v5:OB,ρ=[sF (.tup ab),sF (.int aa),lT ((lC K ((bX K).take j)).1.map aV),some (.dt (lC K ((bX K).take j)).2.1 (lC K ((bX K).take j)).2.2,true),v4,v5]) ((bX K).map λx=>.int x.2)
  [sF (.tup ab),sF (.int aa),lT [],some (.dt [] [],true),none,none] ⟨none,none,rfl⟩ (by
   rintro j d ρ hd ⟨v4,v5,rfl⟩;rw[vA]at hd;obtain⟨x,hx,rfl⟩:=oY hd;have hjl:j<(bX K).length:=(vV hx).1;have et:(bX K).take (j+1)=(bX K).take j++[x]:=by rw[List.take_add_one,hx];rfl
   have ef:lC K ((bX K).take (j+1))=dm K (lC K ((bX K).take j)) x:=by rw[et];unfold lC;rw[List.foldl_append];rfl
   obtain⟨SN,Zk⟩:=o0 x (vL hx);obtain⟨dd,h⟩:=CH K ((bX K).take j) (List.Nodup.sublist (List.Sublist.map _ (List.take_sublist _ _)) EH);rw[←hK]at h;have km:=Kc g aa h (by rw[hK,List.length_take];omega) (x:=x) (by rw[hK];exact SN) Zk v5;rw[hK]at km;obtain⟨w5,km⟩:=km;exact⟨_,_,rfl,km,sF (.int x.2),w5,by rw[ef]⟩)
 have nn:(bX K).take ((bX K).map λx=>D.int x.2).length=bX K:=by rw[vI,List.take_length]
 rw[nn]at e;obtain⟨dd,sM⟩:=CH K (bX K) EH;generalize x0:(lC K (bX K))=st at e sM;have xy:st.1.length<=60:=by have:=sM.len;omega
 have WQ:bd K=dB (λc=>cz (kC c)) st.1:=by unfold bd;rw[x0]
 have hm:∀ρ:DL.Env,js (sZ gB ρ) (st.1.map aV)=some (st.1.map λc=>.tup [.str c.o,.int c.s,.int c.n]):=λρ=>i7 st.1 λc _=>by
  show(gB [aV c]).map _=_;rw[xg];rfl
 have hk:dj (st.1.map λc=>D.tup [.str c.o,.int c.s,.int c.n])=some (st.1.map kC):=gZ st.1 λc _=>rfl;have j8:(st.1.map kC).length<64/\di (st.1.map kC)=true/\dC (st.1.map kC)=true/\((st.1.map kC).map cz).Nodup:=by
  refine⟨by rw[vI];omega,CF _,?_,?_⟩
  ·unfold dC;rw[Bool.or_eq_true];right;simp[List.all_eq_true,kC]
  ·rw[uP];have h1:st.1.Pairwise λa b=>(a.o,a.n)≠(b.o,b.n):=List.pairwise_map.mp sM.nod;have h2:st.1.Pairwise λa b=>cz (kC a)≠cz (kC b):=by
    refine List.Pairwise.imp_of_mem ?_ h1;intro a b ha hb nu e;exact nu (GO ha hb e)
   exact List.pairwise_map.mpr h2
 have hz:(st.1.map kC).zip (st.1.map aV)=st.1.map λc=>(kC c,aV c):=by rw[List.zip_map']
 have key:((bd K).map λc=>(kC c,aV c))=dB (λp:List At×D=>cz p.1) (st.1.map λc=>(kC c,aV c)):=by
  rw[WQ];refine fH _ (λx hx y hy e=>?_) ((aQ _ _).map _) ?_
  ·obtain⟨a,ha,rfl⟩:=vO hx;obtain⟨b,hb,rfl⟩:=vO hy;rw[oe (λc:Cl=>(c.o,c.n)) sM.nod ha hb (GO ha hb e)]
  ·exact List.pairwise_map.mpr (dS _ _)
 refine⟨aw rfl (c8 (ds:=[]) (by simp[sizeLine]) rfl (dU (ρ':=[sF (.tup ab),sF (.int aa),lT [],some (.dt [] [],true),none,none]) rfl (dU (kW (ds:=(bX K).map λx=>.int x.2) ?_ e) (ay ?_)))),by rw[WQ,(aQ _ _).length_eq];exact xy⟩
 ·show(fA dX (fV 0 (fV 1 aj)) _).bind _=_;rw[aJ [.tup ab,.int aa] rfl eL];rfl
 ·unfold qw;show((some (D.lst (st.1.map aV),false)).bind _)=_;simp only[vJ];rw[hm];simp only[vJ];rw[hk];simp only[vJ];rw[if_pos j8];unfold jt;rw[hz,←key,uP];rfl
end Lw
namespace Lw
open PySem PySem.Spec DL L2
theorem zq (ns:List Int)(k:Nat)(x:Int):∃c:Int,(a8 (aN 2 (f2 bE (f2 gu (f2 bY (f2 bY (f2 bE (ai 2) (fI 2147483629)) (f2 gu (fI 6151) (ai 1))) (fI 1)) (fI 48271)) (fI 2147483647)))
  (bc (f2 bE (f2 gu (ai 2) (f2 bY (f2 bY (f2 bE (ai 2) (fI 65519)) (ai 1)) (fI 2))) (fI 2147483629)))) [sF (.lst (ns.map .int)),sF (.int k),sF (.int x)]=some (.rt (.int c) false)/\0<=c:=by
 obtain⟨y,hy⟩:∃y,((x % 2147483629+6151*k+1)*48271) % 2147483647=y:=⟨_,rfl⟩;have hb:0<=y/\y<2147483647:=by rw[←hy];exact mod_lt (by decide)
 have hc : -18446744073709551616<y/\y<18446744073709551616:=by omega
 exact⟨(y*(y % 65519+k+2)) % 2147483629,fB (.int y) (by simp[hy]) rfl (ay (by simp[hc])),(mod_lt (by decide)).1⟩
theorem gn (ns:List Int)(k:Nat):∃c:Int,cY [.lst (ns.map .int),.int k]=sF (.int c)/\0<=c:=by
 by_cases h:ns.length=0
 ·have e:ns=[]:=List.length_eq_zero_iff.mp h;subst e;obtain⟨c,h1,h2⟩:=zq [] k 5;exact⟨c,aw rfl (fB (.int 5) rfl rfl (aA (cX (by simp)) h1)),h2⟩
 ·have hm:=mod_lt (x:=(k:Int)) (m:=ns.length) (by omega);obtain⟨c,h1,h2⟩:=zq ns k (ns.getD ((k:Int) % ns.length).toNat 0);refine⟨c,aw rfl (fB (.int 5) rfl rfl (dU (lq (cX (by simp;omega)) (qM (d:=.int (ns.getD ((k:Int) % ns.length).toNat 0)) (b:=false) ?_ rfl)) h1)),h2⟩;refine b7 (.lst (ns.map .int)) (.int ((k:Int) % ns.length)) rfl ?_ (Cw hm.1 (by omega));refine b7 (.int k) (.int ns.length) rfl (by simp) ?_;have nu:¬ns=[]:=λe=>h (by rw[e];rfl);simp[bE,nu]
theorem GP {ρ:DL.Env}{i n:Nat}{ds:List D}{fk fv:FE}{d:D}{b b':Bool}(e:ρ[i]? = some (lT ds))(ev:fv ρ=some (d,b))(ek:fk ρ=some (.int n,b'))(hn:n<ds.length)(hf:bi d=true):DF i fk fv ρ=some (.nx (ρ.set i (lT (ds.set n d)))):=by
 have hx:Dx ds.length (n:Int)=some n:=by
  unfold Dx;rw[if_pos (by omega)];simp[hn]
 simp only[DF,e,ev,ek,vJ,hx,if_pos hf]
theorem CJ:∀(zs:List Str),(∀z∈zs,z.length=1)->(zs.map (·.length)).sum=zs.length
 |[],_=>rfl
 |z::zs,h=>by
  rw[uY,List.sum_cons,CJ zs λy hy=>h y (mZ _ hy),h z mX,vE];omega
theorem CK (x:Int):0<=x % 26/\x % 26<26:=mod_lt (by decide)
noncomputable def mV:PySem.Str:="abcdefghijklmnopqrstuvwxyz"
theorem Ei:mV.cps.size=26:=by decide +kernel
def QV (x:Int):Str:=⟨#[mV.cps.toList.getD (x % 26).toNat 0]⟩
theorem GQ (x:Int):bG (.str mV) (.int (x % 26))=sF (.str (QV x)):=DL.Au (CK x).1 (by rw[Ei];have:=CK x;omega) (by decide +kernel)
theorem zu:∀(zs:List Str)(y:Str),(Str.join ("" : Str) (y::zs)).cps.toList=(y::zs).flatMap λz=>z.cps.toList
 |[],y=>by rw[uO,List.flatMap_nil,uQ];rfl
 |z::r,y=>by
  have e3:∀a b:Str,(a++b).cps.toList=a.cps.toList++b.cps.toList:=λa b=>by show(a.cps++b.cps).toList=_;simp
  show(y++("" : Str)++Str.join ("" : Str) (z::r)).cps.toList=_;rw[e3,e3,zu r z,show("" : Str).cps.toList=[]from rfl,uQ];rfl
theorem GR (h:zs≠[]):(Txt.join ("" : Str) zs).cps.toList=zs.flatMap λz=>z.cps.toList:=by
 cases zs with
 |nil=>exact absurd rfl h
 |cons y zs=>
  unfold Txt.join;rw[StrLaws.glued_eq_join];exact zu zs y
theorem mW (x y:Nat):∀(bs:List Str)(a:Nat),a<bs.length->(∀z∈bs,∃c,z.cps.toList=[c])->((bs.set a ⟨#[x]⟩).flatMap λz=>z.cps.toList)=((bs.set a ⟨#[y]⟩).flatMap λz=>z.cps.toList)->x=y
 |b::bs,0,_,_,h=>by
  rw[List.set_cons_zero,List.set_cons_zero,uO,uO]at h;exact(List.cons.inj h).1
 |b::bs,a+1,hl,hb,h=>by
  rw[List.set_cons_succ,List.set_cons_succ,uO,uO]at h;exact mW x y bs a (by simpa using hl) (λz hz=>hb z (mZ _ hz)) (List.append_cancel_left h)
theorem GS:∀i j:Fin 26,mV.cps.toList.getD i.val 0=mV.cps.toList.getD j.val 0->i=j:=by decide +kernel
def zv (bs:List Str)(a:Nat)(c:Int)(i:Nat):Str:=Txt.join ("" : Str) (bs.set a (QV (c / 64+3*(i:Int))))
theorem LK {bs:List Str}{a:Nat}{c:Int}{i j:Nat}(ha:a<bs.length)(hb:∀z∈bs,∃c,z.cps.toList=[c])(zU:(3*(i:Int) - 3*(j:Int)) % 26≠0):zv bs a c i≠zv bs a c j:=by
 intro e;have e:=congrArg (λs:Str=>s.cps.toList) e;unfold zv at e;have nu:∀x,bs.set a x≠[]:=λx z=>by have:=congrArg List.length z;rw[List.length_set,List.length_nil]at this;omega
 simp only[GR (nu _)]at e;have:=mW _ _ bs a ha hb e;have h1:=CK (c / 64+3*(i:Int));have h2:=CK (c / 64+3*(j:Int));have:=GS ⟨((c / 64+3*(i:Int)) % 26).toNat,by omega⟩ ⟨((c / 64+3*(j:Int)) % 26).toNat,by omega⟩ this;have:=congrArg Fin.val this;simp only at this;omega
theorem GU (c:Int)(hc:0<=c):∃zs:List Str,nS [.int c]=lT (zs.map .str)/\zs.length=7/\∀x y,zs[5]? = some x->zs[6]? = some y->x≠y:=by
 have h8:=mod_lt (x:=c) (m:=8) (by decide);obtain⟨n,hn⟩:∃n:Nat,1+c % 8=n:=⟨(1+c % 8).toNat,by omega⟩;have SO:1<=n:=by omega
 have hn8:n<=8:=by omega
 let bs:List Str:=(List.range n).map λ(k:Nat)=>QV (c / (3+4*k));have P1:bs.length=n:=by simp[bs]
 have hb:=qP (fi:=ig (f2 bY (fI 1) (f2 bE (ai 0) (fI 8)))) (nT:=1) (cap:=[1,0]) (tg:=dM 0) (fe:=f2 bG (ai 1) (f2 bE (f2 cU (ai 2) (f2 bY (fI 3) (f2 gu (fI 4) (ai 0)))) (fI 26)))
  (ρ:=[sF (.int c),sF (.str mV),none,none,none,none,none]) (List.range n) (λ(k:Nat)=>.int k) (λ(k:Nat)=>.str (QV (c / (3+4*k))))
  (by rw[kX (j:=n) (b:=false) (by simp;omega) (by omega),Eb];simp) (by simp;omega) λk hk=>by
   have hk:=List.mem_range.mp hk;refine⟨_,rfl,false,b7 (.str mV) (.int (c / (3+4*k) % 26)) (by simp[dF]) ?_ (GQ _)⟩;have h1:(0:Int)<3+4*k:=by omega
   have h2:(3:Int)+4*k<1073741824:=by omega
   simp[dF,h1,h2]
 have Zl:bH (ig (f2 bY (fI 1) (f2 bE (ai 0) (fI 8)))) 1 [1,0] (dM 0) jm (f2 bG (ai 1) (f2 bE (f2 cU (ai 2) (f2 bY (fI 3) (f2 gu (fI 4) (ai 0)))) (fI 26))) [sF (.int c),sF (.str mV),none,none,none,none,none]=lT (bs.map .str):=by
  rw[hb];simp[bs]
 have hat:=mod_lt (x:=c / 8) (m:=n) (by omega);obtain⟨a,ha⟩:∃a:Nat,c / 8 % n=a:=⟨(c / 8 % n).toNat,by omega⟩;obtain⟨zs,v5,v6,e,hz,OC⟩:∃(zs:List Str)(v5 v6:OB),iW (dM 5) lU (fW 0 7) [sF (.int c),sF (.str mV),lT (bs.map .str),sF (.int (c / 8 % n)),lT [],none,none]=some (.nx [sF (.int c),sF (.str mV),lT (bs.map .str),sF (.int (c / 8 % n)),lT (zs.map .str),v5,v6])/\zs.length=7/\zs=(List.range 7).map (zv bs a c):=by
  obtain⟨ρ',e,zs,v5,v6,rfl,hz,OC⟩:=qJ (tg:=dM 5) (g:=lU) 7 (λi ρ=>∃(zs:List Str)(v5 v6:OB),ρ=[sF (.int c),sF (.str mV),lT (bs.map .str),sF (.int (c / 8 % n)),lT (zs.map .str),v5,v6]/\zs.length=i/\zs=(List.range i).map (zv bs a c))
   [sF (.int c),sF (.str mV),lT (bs.map .str),sF (.int (c / 8 % n)),lT [],none,none] ⟨[],none,none,rfl,rfl,rfl⟩ (by
    rintro i ρ hi ⟨zs,v5,v6,rfl,hz,OC⟩;let l:=QV (c / 64+3*i);let nm:=bs.set a l;have h1:∀z∈nm,z.length=1:=λz hz=>by
     rcases List.mem_or_eq_of_mem_set hz with h|h
     ·obtain⟨k,_,rfl⟩:=vO h;rfl
     ·rw[h];rfl
    have SJ:nm.length=n:=by simp[nm,P1]
    refine⟨_,_,rfl,.inl (c8 (ds:=bs.map .str) (by simp) (eA _) (dU (GP (n:=a) (ds:=bs.map .str) (d:=.str l) (b:=false) (b':=false) rfl ?_ ?_ (by simp[P1];omega) rfl) (jG (ds:=zs.map .str) (d:=.str (Txt.join ("" : Str) nm)) (b:=false) rfl ?_ rfl (bO (by simp;omega))))),zs++[Txt.join ("" : Str) nm],sF (.int i),lT (nm.map .str),?_,by simp[hz],by rw[OC,List.range_succ,uW];rfl⟩
    ·exact b7 (.str mV) (.int ((c / 64+3*i) % 26)) rfl (by simp) (GQ _)
    ·simp[ha]
    ·refine b7 (.str "") (.lst (nm.map .str)) rfl (by simp[nm]) ?_;show(g7 (nm.map .str)).bind _=_;rw[rQ];have:=CJ nm h1;have h0:("" : Str).length=0:=rfl;show(if _ then _ else _)=_;rw[if_pos (by rw[this,h0,SJ];omega)]
    ·simp[nm])
  exact⟨zs,v5,v6,e,hz,OC⟩
 have hsz:(bs.length:Int)=n:=by omega
 refine⟨if c / 1000 % 8=1 then zs.set 5 (zs.getD 0 ⟨#[]⟩)else zs,?_,by split<;>simp[hz],?_⟩
 refine aw rfl (fB (.str mV) rfl rfl (c8 (ds:=bs.map .str) Zl (eA _) (fB (.int (c / 8 % n)) ?_ rfl (c8 (ds:=[]) (by simp[sizeLine]) (by simp) (dU (qN (kX (j:=7) (b:=false) rfl (by decide)) e) ?_)))))
 ·have:(bs.length:Int)≠0:=by omega
  refine b7 (.int (c / 8)) (.int n) (by simp) (by simp[P1]) ?_;have h1:(0:Int)<n:=by omega
  show(if decide ((0:Int)<n)=true then _ else _)=_;rw[if_pos (decide_eq_true h1)]
 ·by_cases h:c / 1000 % 8=1
  ·rw[if_pos h];have h5:5<(zs.map D.str).length:=by simp[hz]
   obtain⟨z0,zr,rfl⟩:∃z0 zr,zs=z0::zr:=by cases zs with|nil=>simp at hz|cons a b=>exact⟨a,b,rfl⟩
   refine dU (lq (cX (by simp[h])) (GP (n:=5) (ds:=(z0::zr).map .str) (d:=.str z0) (b:=false) (b':=false) rfl ?_ rfl h5 rfl)) (pG ?_)
   ·exact b7 (.lst ((z0::zr).map .str)) (.int 0) rfl rfl (by simp[JQ])
   ·simp
  ·rw[if_neg h];exact aA (cX (by simp[h])) (pG rfl)
 ·have Py:a<bs.length:=by omega
  have WR:∀z∈bs,∃c,z.cps.toList=[c]:=λz hz=>by obtain⟨k,_,rfl⟩:=vO hz;exact⟨_,rfl⟩
  intro x y hx hy;have h0:zs[0]? = some (zv bs a c 0):=by rw[OC];rfl
  have h5:zs[5]? = some (zv bs a c 5):=by rw[OC];rfl
  have h6:zs[6]? = some (zv bs a c 6):=by rw[OC];rfl
  split at hx
  ·rename_i hc8;rw[if_pos hc8,vB (by decide),h6]at hy;rw[List.getElem?_set_self (by omega),vF,h0]at hx;cases hx;cases hy
   exact LK Py WR (by decide)
  ·rename_i hc8;rw[if_neg hc8,h6]at hy;rw[h5]at hx;cases hx;cases hy
   exact LK Py WR (by decide)
def iK (x:Int×Option Int):D:=.tup [.int x.1,uD x.2]
theorem j4 (x:Int×Option Int):bi (iK x)=true:=by simp[iK,CA]
theorem vg (x:Int×Option Int):aq 5 (iK x)=true:=by obtain⟨s,u⟩:=x;cases u<;>simp[iK,uD]
theorem Bl (a d m:Int):∃x,gE [.int a,.int d,.int m]=some (iK x,false):=by
 have h8:=mod_lt (x:=a) (m:=8) (by decide);let L1:List (Int×Option Int):=[(0,none),(d,none),(d,some (d+3*m)),(0,some (d+2*m)),(0,some (9*m))];let L2:List (Int×Option Int):=[(d+m,some (d+4*m)),(d / 2,some (d+6*m)),(0,none)];have vx:∀L:List (Int×Option Int),bw (L.map iK)=true:=λL=>bF λd hd=>by obtain⟨x,_,rfl⟩:=vO hd;exact j4 x
 have hi:(a % 8).toNat<((L1++L2).map iK).length:=by show _<8;omega
 refine⟨(L1++L2).getD (a % 8).toNat (0,none),aw rfl (c8 (ds:=L1.map iK) (by simp[L1,iK,uD,sizeLine]) (vx _) (c8 (ds:=(L1++L2).map iK) ?_ (vx _) (ay (b7 (.lst ((L1++L2).map iK)) (.int (a % 8)) rfl (by simp) ((Bb h8.1 hi).trans ?_)))))⟩
 ·refine iq (x:=.lst (L1.map iK)) (y:=.lst (L2.map iK)) (b1:=false) (b2:=true) rfl (by simp[L2,iK,uD,sizeLine]) ?_;simp[L1,L2,sizeLine]
 ·rw[vF,vA,vF];rw[vI]at hi;rw[vU hi];rfl
theorem kO {zs:List Str}{i:Int}(h1 : -(zs.length:Int)<=i)(h2:i<zs.length):∃z∈zs,bG (.lst (zs.map .str)) (.int i)=sF (.str z):=by
 obtain⟨j,hj,hl⟩:∃j,Dx (zs.map D.str).length i=some j/\j<zs.length:=by
  unfold Dx;rw[vI];by_cases h0:0<=i
  ·rw[if_pos h0,if_pos h2];exact⟨_,rfl,by omega⟩
  ·rw[if_neg h0,if_pos (by omega)];exact⟨_,rfl,by omega⟩
 refine⟨zs[j],List.getElem_mem hl,?_⟩;have:o4 (zs.map D.str) i=some (.str zs[j]):=by unfold o4;rw[hj,vJ,vA,vU hl];rfl
 simp[this]
noncomputable def MR:List Nat:=[7,255,3,15]
noncomputable def MS:List Nat:=[1,2,3,4,5,7,128,255]
inductive Dd:Str->List D->Prop
 |root (o r:Str) (m:Nat) (hm:m∈MR) (f:Int):Dd ("root" : Str) [.str o,.int m,.int f,.str r]
 |named (d:Int) (o p:Str):Dd ("named" : Str) [.int d,.str o,.str p]
 |chosen (d:Int) (b o p:Str) (s:Int):Dd ("chosen" : Str) [.int d,.str b,.str o,.str p,.int s]
 |heir (d:Int) (b o p:Str):Dd ("heir" : Str) [.int d,.str b,.str o,.str p]
 |three (k:Str) (hk:k = "death" ∨ k = "lost" ∨ k = "found") (d:Int) (p:Str):Dd k [.int d,.str p]
 |leave (d:Int) (b p:Str) (m:Nat) (hm:m∈MS) (x:Int×Option Int) (f:Int):Dd ("leave" : Str) [.int d,.str b,.str p,.int m,iK x,.int f]
 |paper (k:Str) (hk:k = "paper" ∨ k = "like") (d:Int) (b:Str) (m:Nat) (hm:m∈MS) (x:Int×Option Int) (r:List D) (hf:bw r=true) (hp:r.all (aq 5)=true):Dd k (.int d::.str b::.int m::iK x::r)
 |copy (k:Str) (hk:k = "copy" ∨ k = "call") (d:Int) (b:Str) (n:Nat):Dd k [.int d,.str b,.int n]
theorem Dd.cd (h:Dd k r):Cd k r:=by
 cases h with
 |root o r m hm f=>exact .root _ _ _ _
 |named d o p=>exact .named _ _ _
 |chosen d b o p s=>exact .chosen _ _ _ _ _
 |heir d b o p=>exact .heir _ _ _ _
 |three k hk d p=>exact .three _ hk _ _
 |leave d b p m hm x f=>exact .other _ (.inl rfl) _ _ _ (by simp[j4]) (by simp only[List.all_cons,List.all_nil,vg,aq,Bool.and_true])
 |paper k hk d b m hm x r hf hp=>exact .other _ (hk.elim (λh=>.inr (.inl h)) λh=>.inr (.inr (.inl h))) _ _ _ (by simp[hf,j4]) (by simp only[List.all_cons,hp,vg,aq,Bool.and_true])
 |copy k hk d b n=>exact .other _ (hk.elim (λh=>.inr (.inr (.inr (.inl h)))) λh=>.inr (.inr (.inr (.inr h)))) _ _ _ rfl (by simp)
theorem Dd.had3 (h:Dd k r)(hk:k = "leave" ∨ k = "named"):∃p,r[2]? = some (.str p):=by
 have hk:k∈[("leave" : Str),"named"]:=by simpa using hk
 cases h with
 |named d o p=>exact⟨p,rfl⟩
 |leave d b p=>exact⟨p,rfl⟩
 |root=>exact cP hk
 |chosen=>exact cP hk
 |heir=>exact cP hk
 |three k fP=>rcases fP with rfl|rfl|rfl<;>exact cP hk
 |paper k fP=>rcases fP with rfl|rfl<;>exact cP hk
 |copy k fP=>rcases fP with rfl|rfl<;>exact cP hk
theorem Dd.had4 (h:Dd k r)(hk:k = "chosen"):∃p,r[3]? = some (.str p):=by
 cases h with
 |chosen d b o p=>exact⟨p,rfl⟩
 |root=>exact cP hk
 |named=>exact cP hk
 |leave=>exact cP hk
 |heir=>exact cP hk
 |three k fP=>rcases fP with rfl|rfl|rfl<;>exact cP hk
 |paper k fP=>rcases fP with rfl|rfl<;>exact cP hk
 |copy k fP=>rcases fP with rfl|rfl<;>exact cP hk
theorem Dd.flat (h:Dd k r):bw r=true:=h.cd.deed.flat
noncomputable def fK:List Str:=[("leave" : Str),"leave","leave","leave","leave","paper","paper","like","copy","copy","call","call","named","death","lost","found","chosen","heir"]
theorem Ej (h:w∈fK):w = "leave" ∨ w = "paper" ∨ w = "like" ∨ w = "copy" ∨ w = "call" ∨ w = "named" ∨ w = "death" ∨ w = "lost" ∨ w = "found" ∨ w = "chosen" ∨ w = "heir":=by
 simp only[fK,List.mem_cons,List.not_mem_nil,or_false]at h;rcases h with rfl|rfl|rfl|rfl|rfl|rfl|rfl|rfl|rfl|rfl|rfl|rfl|rfl|rfl|rfl|rfl|rfl|rfl<;>simp
theorem GV (many c o day m:Int)(zs iI:List Str)(hz:zs.length=7)(hh:iI≠[]):
  ∃(w iJ p:Str)(Mh:Nat),w∈fK/\∀(h:FS)(r:Option Res),h [sF (.int many),sF (.int c),sF (.int o),sF (.lst (zs.map .str)),sF (.int day),sF (.lst (iI.map .str)),sF (.int m),lT (fK.map .str),sF (.str w),sF (.str iJ),sF (.str p),sF (.int Mh),none,none,none]=r ->
   (a8 (aN 7 (f2 bY (f2 bY (DT (fA bL (af (fS "leave") aj)) (fI 5)) (DT (fA bL (af (fS "paper") aj)) (fI 2))) (fA bL (af (fS "like") (af (fS "copy") (af (fS "copy") (af (fS "call") (af (fS "call") aj)))))))) (a8 (aN 7 (f2 bY (ai 7) (fA bL (af (fS "named") (af (fS "death") (af (fS "lost") (af (fS "found") (af (fS "chosen") (af (fS "heir") aj))))))))) (a8 (aN 8 (f2 bG (ai 7) (f2 bE (ai 1) (fI 18)))) (a8 (aN 9 (f2 bG (ai 5) (f2 A3 (f1 ym (fI 1)) (f2 bE (f2 cU (ai 1) (fI 18)) (fA Jg (af (fI 3) (af (fA gR (fV 5 aj)) aj))))))) (a8 (eM (br (f2 fu (f2 bE (f2 cU (ai 1) (fI 54)) (fI 6)) (fI 1))) (aN 9 (f2 bG (ai 3) (f2 bE (f2 cU (ai 1) (fI 324)) (fI 5)))) bp) (a8 (aN 10 (f2 bG (ai 3) (f2 bE (f2 cU (ai 1) (fI 1620)) (fI 5)))) (a8 (aN 11 (fA Jf (af (fI 0) (af (f2 A3 (f2 A3 (ai 0) (fI 1)) (f2 bE (ai 2) (fI 4))) aj)))) (a8 (eM (br (f2 fu (f2 bE (f2 cU (ai 2) (fI 4)) (fI 8)) (fI 1))) (aN 11 (f2 bE (f2 cU (ai 2) (fI 32)) (fI 60))) bp) h)))))))) [sF (.int many),sF (.int c),sF (.int o),sF (.lst (zs.map .str)),sF (.int day),sF (.lst (iI.map .str)),sF (.int m),none,none,none,none,none,none,none,none]=r:=by
 have h18:=mod_lt (x:=c) (m:=18) (by decide);obtain⟨w,hw,ew⟩:=kO (zs:=fK) (i:=c % 18) (by simp[fK];omega) (by simp[fK];omega);obtain⟨n,hn,SO,hn3⟩:∃n:Int,(if(iI.length:Int)<3 then (iI.length:Int)else 3)=n/\0<n/\n<=iI.length:=by
  have:0<iI.length:=List.length_pos_iff.mpr hh;split
  ·exact⟨_,rfl,by omega,by omega⟩
  ·exact⟨_,rfl,by omega,by omega⟩
 have hmn:=mod_lt (x:=c / 18) (m:=n) SO;obtain⟨b0,_,Zm⟩:=kO (zs:=iI) (i:=-1 - c / 18 % n) (by omega) (by omega);have h5:=mod_lt (x:=c / 324) (m:=5) (by decide);obtain⟨b1,_,Zn⟩:=kO (zs:=zs) (i:=c / 324 % 5) (by omega) (by omega);have h5':=mod_lt (x:=c / 1620) (m:=5) (by decide);obtain⟨p,_,ep⟩:=kO (zs:=zs) (i:=c / 1620 % 5) (by omega) (by omega);have h60:=mod_lt (x:=o / 32) (m:=60) (by decide);obtain⟨f0,Zo⟩:∃f0:Nat,(if many - 1 - o % 4 > 0 then many - 1 - o % 4 else 0)=(f0:Int):=by
  split
  ·exact⟨(many - 1 - o % 4).toNat,by omega⟩
  ·exact⟨0,rfl⟩
 obtain⟨f1,Zp⟩:∃f1:Nat,o / 32 % 60=(f1:Int):=⟨(o / 32 % 60).toNat,by omega⟩;refine⟨w,if c / 54 % 6=1 then b1 else b0,p,if o / 4 % 8=1 then f1 else f0,hw,λh r hr=>?_⟩;refine c8 (ds:=(fK.take 12).map .str) ?_ (eA _) (c8 (ds:=fK.map .str) ?_ (eA _) (fB (.str w) (b7 (.lst (fK.map .str)) (.int (c % 18)) rfl (by simp) ew) rfl (fB (.str b0) ?_ rfl (dU (ρ':=[sF (.int many),sF (.int c),sF (.int o),sF (.lst (zs.map .str)),sF (.int day),sF (.lst (iI.map .str)),sF (.int m),lT (fK.map .str),sF (.str w),sF (.str (if c / 54 % 6=1 then b1 else b0)),none,none,none,none,none]) ?_ (fB (.str p) ?_ rfl (fB (.int f0) ?_ rfl (dU ?_ hr)))))))
 ·have e1:∀(s:Str)(k:Nat),k<=100->DT (fA bL (af (fS s) aj)) (fC (.int k)) [sF (.int many),sF (.int c),sF (.int o),sF (.lst (zs.map .str)),sF (.int day),sF (.lst (iI.map .str)),sF (.int m),none,none,none,none,none,none,none,none]=lT (List.replicate k (.str s)):=λs k hk=>by
   have h1:(k:Int)<=1000:=by omega
   have h2:k<=1000:=by omega
   have h3:∀n:Nat,(List.replicate n [D.str s]).flatten=List.replicate n (.str s):=λn=>by
    induction n with
    |zero=>rfl
    |succ n ih=>rw[List.replicate_succ,List.flatten_cons,ih,List.replicate_succ];rfl
   simp[sizeLine,h1,h2,h3]
  have z:∀n:Nat,n<=100->n<=sizeLine:=λn h=>dD (by omega);refine iq (x:=.lst ((fK.take 7).map .str)) (y:=.lst (((fK.drop 7).take 5).map .str)) (b1:=true) (b2:=true) (iq (x:=.lst ((fK.take 5).map .str)) (y:=.lst (List.replicate 2 (.str "paper"))) (b1:=true) (b2:=true) (e1 _ 5 (by decide)) (e1 _ 2 (by decide)) ?_) (aJ (((fK.drop 7).take 5).map .str) rfl (jN _ (by simp[fK]))) ?_
  ·refine(if_pos (c:=7<=sizeLine) (e:=none) (z 7 (by decide))).trans ?_;rfl
  ·refine(if_pos (c:=12<=sizeLine) (e:=none) (z 12 (by decide))).trans ?_;rfl
 ·refine iq (x:=.lst ((fK.take 12).map .str)) (y:=.lst ((fK.drop 12).map .str)) (b1:=false) (b2:=true) rfl (aJ ((fK.drop 12).map .str) rfl (jN _ (by decide))) ?_;refine(if_pos (c:=18<=sizeLine) (e:=none) (dD (by decide))).trans ?_;rfl
 ·refine b7 (.lst (iI.map .str)) (.int (-1 - c / 18 % n)) rfl ?_ Zm;refine b7 (.int (-1)) (.int (c / 18 % n)) rfl ?_ rfl;refine b7 (.int (c / 18)) (.int n) (by simp) (by simp[hn]) ?_;show(if decide ((0:Int)<n)=true then _ else _)=_;rw[if_pos (decide_eq_true SO)]
 ·by_cases hx:c / 54 % 6=1
  ·rw[if_pos hx];exact lq (cX (by simp[hx])) (qM (d:=.str b1) (b:=false) (b7 (.lst (zs.map .str)) (.int (c / 324 % 5)) rfl (by simp) Zn) rfl)
  ·rw[if_neg hx];exact lP (cX (by simp[hx])) rfl
 ·exact b7 (.lst (zs.map .str)) (.int (c / 1620 % 5)) rfl (by simp) ep
 ·show some (D.int (if many - 1 - o % 4 > 0 then many - 1 - o % 4 else 0),false)=_;rw[Zo]
 ·by_cases hx:o / 4 % 8=1
  ·simp only[if_pos hx];exact lq (cX (by simp[hx])) (qM (d:=.int f1) (b:=false) (by simp[Zp]) rfl)
  ·simp only[if_neg hx];exact lP (cX (by simp[hx])) rfl
theorem oW {ns:List Int}{i:Int}(h1:0<=i)(h2:i<ns.length):∃m∈ns,bG (.lst (ns.map .int)) (.int i)=sF (.int m):=by
 have h:i.toNat<ns.length:=by omega
 refine⟨ns.getD i.toNat 0,?_,Cw h1 h⟩;rw[vF,vU h];exact List.getElem_mem h
theorem oh (h : -1000<=a/\a<=1000):Nl (.int a) (.int b)=sF (.int (a*b)):=by
 have : -18446744073709551616<a/\a<18446744073709551616:=by omega
 simp[this]
theorem da (e:ρ[i]? = some (sF (.str a)))(h:decide (a=b)=false:=by decide +kernel):br (f2 fu (ai i) (fS b)) ρ=some false:=bP (a:=a) (bb:=false) (by simp[e]) h
theorem Bm (e:ρ[i]? = some (sF (.str a)))(h:decide (a=b)=true:=by decide +kernel):br (f2 fu (ai i) (fS b)) ρ=some true:=bP (a:=a) (bb:=false) (by simp[e]) h
theorem zw (x:Bool)(e:ρ[i]? = some (sF (.str a)))(h:decide (a∈[b,c])=x:=by decide +kernel):br (f2 F8 (ai i) (fA aP (af (fS b) (af (fS c) aj)))) ρ=some x:=cX (b7 (.str a) (.tup ([b,c].map .str)) (by simp[e]) (by simp[sizeLine]) (by rw[jz,h]))
theorem LL {l:List Int}{x:Int}(h:x∈l)(hl:l.all (λy=>decide (0<=y/\y.toNat∈MS))=true):∃m:Nat,x=m/\m∈MS:=by
 have:=of_decide_eq_true (uR hl x h);exact⟨x.toNat,by omega,this.2⟩
theorem Kd (many c o day m:Int)(zs iI:List Str)(hz:zs.length=7)(hh:iI≠[]):
  ∃k r,rz [.int many,.int c,.int o,.lst (zs.map .str),.int day,.lst (iI.map .str),.int m]=sF (.tup (.str k::r))/\Dd k r/\k ≠ "root":=by
 obtain⟨w,iJ,p,Mh,hw,pre⟩:=GV many c o day m zs iI hz hh;obtain⟨s,es⟩:=Bl (o / 32) day m;have h8:=mod_lt (x:=c / 8100) (m:=8) (by decide);obtain⟨m1i,UX,Zq⟩:=oW (ns:=[3,1,7,2,255,5,1,3]) (i:=c / 8100 % 8) h8.1 h8.2;obtain⟨m2i,UY,WS⟩:=oW (ns:=[1,1,3,2,4,5,128,7]) (i:=c / 8100 % 8) h8.1 h8.2;obtain⟨m1,rfl,Ps⟩:=LL UX (by decide);obtain⟨m2,rfl,UZ⟩:=LL UY (by decide);have h4:=mod_lt (x:=o / 2560) (m:=4) (by decide);obtain⟨dv,Va,ed⟩:=oW (ns:=[5,5,5,10]) (i:=o / 2560 % 4) h4.1 h4.2;have OD:0<dv:=by simp only[List.mem_cons,List.not_mem_nil,or_false]at Va;omega
 have h2:=mod_lt (x:=o / 256) (m:=2) (by decide);obtain⟨wv,Zr,SQ,WT⟩:∃wv,bG (.lst [.non,.str p]) (.int (o / 256 % 2))=some (wv,false)/\bi wv=true/\aq 5 wv=true:=by
  rcases (show o / 256 % 2=0∨o / 256 % 2=1 by omega)with h|h
  ·rw[h];exact⟨.non,by simp[JQ],rfl,by simp⟩
  ·rw[h];exact⟨.str p,by simp[HX],rfl,by simp⟩
 have E8:=mod_lt (x:=o) (m:=2) (by decide);have Pl:=mod_lt (x:=o) (m:=2) (by decide);obtain⟨off,_,eo⟩:=kO (zs:=zs) (i:=5+o % 2) (by omega) (by omega);obtain⟨RU,_,Zs⟩:=kO (zs:=zs) (i:=5+o % 2) (by omega) (by omega);have h3o:=mod_lt (x:=o / 32) (m:=3) (by decide);have Vb:∀(ρ:DL.Env),ρ[2]? = some (sF (.int o))->ρ[4]? = some (sF (.int day))->ρ[6]? = some (sF (.int m))->fA gE (af (f2 cU (ai 2) (fI 32)) (fV 4 (fV 6 aj))) ρ=some (iK s,false):=λρ q1 q2 q3=>
  aJ [.int (o / 32),.int day,.int m] (by simp[q1,q2,q3]) es
 have RV:∀(ρ:DL.Env),ρ[2]? = some (sF (.int o))->ρ[3]? = some (sF (.lst (zs.map .str)))->f2 bG (ai 3) (f2 bY (fI 5) (f2 bE (ai 2) (fI 2))) ρ=sF (.str off):=λρ q1 q2=>b7 (.lst (zs.map .str)) (.int (5+o % 2)) (by simp[q2]) (by simp[q1]) eo;have Vc:∀(ns:List Int)(M:Nat)(ρ:DL.Env)(fl:FE),fl ρ=lT (ns.map .int)->ρ[1]? = some (sF (.int c))->bG (.lst (ns.map .int)) (.int (c / 8100 % 8))=sF (.int M)->f2 bG fl (f2 bE (f2 cU (ai 1) (fI 8100)) (fI 8)) ρ=sF (.int M):=λns M ρ fl e1 q e=>iq (x:=.lst (ns.map .int)) (y:=.int (c / 8100 % 8)) (b1:=true) (b2:=false) e1 (by simp[q]) e;have WU:∀(ρ:DL.Env),ρ[2]? = some (sF (.int o))->ρ[10]? = some (sF (.str p))->f2 bG (fA bL (af (fC .non) (fV 10 aj))) (f2 bE (f2 cU (ai 2) (fI 256)) (fI 2)) ρ=some (wv,false):=λρ q1 q2=>iq (x:=.lst [.non,.str p]) (y:=.int (o / 256 % 2)) (b1:=true) (b2:=false) (by simp[sizeLine,q2]) (by simp[q1]) Zr;rcases Ej hw with rfl|rfl|rfl|rfl|rfl|rfl|rfl|rfl|rfl|rfl|rfl
 ·refine⟨_,[.int day,.str iJ,.str p,.int m1,iK s,.int (o / 256 % dv)],aw rfl (pre _ _ ?_),.leave _ _ _ _ Ps _ _,by decide +kernel⟩;refine b8 (Bm rfl) (fB (.int m1) (Vc [3,1,7,2,255,5,1,3] _ _ _ (by simp[sizeLine]) rfl Zq) rfl (fB (.int (o / 256 % dv)) ?_ rfl (ay (aJ [.str "leave",.int day,.str iJ,.str p,.int m1,iK s,.int (o / 256 % dv)] (ce rfl (ce rfl (ce rfl (ce rfl (ce rfl (aF (Vb _ rfl rfl rfl) (ce rfl rfl))))))) (bI _ (by simp))))));refine b7 (.int (o / 256)) (.int dv) (by simp) (iq (x:=.lst (([5,5,5,10]:List Int).map .int)) (y:=.int (o / 2560 % 4)) (b1:=true) (b2:=false) (by simp[sizeLine]) (by simp) ed) ?_;show(if decide ((0:Int)<dv)=true then _ else _)=_;rw[if_pos (decide_eq_true OD)]
 ·refine⟨_,[.int day,.str iJ,.int m2,iK s,wv,.tup [.str p]],aw rfl (pre _ _ ?_),.paper _ (.inl rfl) _ _ _ UZ _ _ (by simp[SQ]) (by simp[WT]),by decide +kernel⟩;exact aA (da rfl) (b8 (dr (p:=true) (q:=false) (Bm rfl) λ_=>da rfl) (fB (.int m2) (Vc [1,1,3,2,4,5,128,7] _ _ _ (by simp[sizeLine]) rfl WS) rfl (fB (.tup [.str "paper",.int day,.str iJ,.int m2,iK s,wv]) (aJ [.str "paper",.int day,.str iJ,.int m2,iK s,wv] (ce rfl (ce rfl (ce rfl (ce rfl (aF (Vb _ rfl rfl rfl) (aF (WU _ rfl rfl) rfl)))))) (bI _ (by simp))) (by simp[j4,SQ]) (aA (da rfl) (ay (b7 (.tup [.str "paper",.int day,.str iJ,.int m2,iK s,wv]) (.tup [.tup [.str p]]) rfl (by simp[sizeLine]) (by simp[sizeLine])))))))
 ·refine⟨_,[.int day,.str iJ,.int m2,iK s,wv,.int Mh,.tup [.tup [.int 0,.str p]]],aw rfl (pre _ _ ?_),.paper _ (.inr rfl) _ _ _ UZ _ _ (by simp[SQ]) (by simp[WT]),by decide +kernel⟩;exact aA (da rfl) (b8 (dr (p:=false) (q:=true) (da rfl) λ_=>Bm rfl) (fB (.int m2) (Vc [1,1,3,2,4,5,128,7] _ _ _ (by simp[sizeLine]) rfl WS) rfl (fB (.tup [.str "like",.int day,.str iJ,.int m2,iK s,wv]) (aJ [.str "like",.int day,.str iJ,.int m2,iK s,wv] (ce rfl (ce rfl (ce rfl (ce rfl (aF (Vb _ rfl rfl rfl) (aF (WU _ rfl rfl) rfl)))))) (bI _ (by simp))) (by simp[j4,SQ]) (b8 (Bm rfl) (ay (b7 (.tup [.str "like",.int day,.str iJ,.int m2,iK s,wv]) (.tup [.int Mh,.tup [.tup [.int 0,.str p]]]) rfl (by simp[sizeLine]) (by simp[sizeLine])))))))
 ·exact⟨_,[.int day,.str iJ,.int Mh],aw rfl (pre _ _ (aA (da rfl) (aA (dr (p:=false) (q:=false) (da rfl) λ_=>da rfl) (b8 (zw true rfl) (ay (aJ [.str "copy",.int day,.str iJ,.int Mh] rfl (bI _ (by simp)))))))),.copy _ (.inl rfl) _ _ _,by decide +kernel⟩
 ·exact⟨_,[.int day,.str iJ,.int Mh],aw rfl (pre _ _ (aA (da rfl) (aA (dr (p:=false) (q:=false) (da rfl) λ_=>da rfl) (b8 (zw true rfl) (ay (aJ [.str "call",.int day,.str iJ,.int Mh] rfl (bI _ (by simp)))))))),.copy _ (.inr rfl) _ _ _,by decide +kernel⟩
 ·exact⟨_,[.int day,.str off,.str p],aw rfl (pre _ _ (aA (da rfl) (aA (dr (p:=false) (q:=false) (da rfl) λ_=>da rfl) (aA (zw false rfl) (b8 (Bm rfl) (ay (aJ [.str "named",.int day,.str off,.str p] (ce rfl (ce rfl (aF (RV _ rfl rfl) (ce rfl rfl)))) (bI _ (by simp))))))))),.named _ _ _,by decide +kernel⟩
 ·exact⟨_,[.int day,.str iJ],aw rfl (pre _ _ (aA (da rfl) (aA (dr (p:=false) (q:=false) (da rfl) λ_=>da rfl) (aA (zw false rfl) (aA (da rfl) (aA (da rfl) (aA (da rfl) (ay (aJ [.str "death",.int day,.str iJ] rfl (bI _ (by simp))))))))))),.three _ (.inl rfl) _ _,by decide +kernel⟩
 ·exact⟨_,[.int day,.str iJ],aw rfl (pre _ _ (aA (da rfl) (aA (dr (p:=false) (q:=false) (da rfl) λ_=>da rfl) (aA (zw false rfl) (aA (da rfl) (aA (da rfl) (aA (da rfl) (ay (aJ [.str "lost",.int day,.str iJ] rfl (bI _ (by simp))))))))))),.three _ (.inr (.inl rfl)) _ _,by decide +kernel⟩
 ·exact⟨_,[.int day,.str iJ],aw rfl (pre _ _ (aA (da rfl) (aA (dr (p:=false) (q:=false) (da rfl) λ_=>da rfl) (aA (zw false rfl) (aA (da rfl) (aA (da rfl) (aA (da rfl) (ay (aJ [.str "found",.int day,.str iJ] rfl (bI _ (by simp))))))))))),.three _ (.inr (.inr rfl)) _ _,by decide +kernel⟩
 ·refine⟨_,[.int day,.str iJ,.str RU,.str p,.int (day+o / 32 % 3*m)],aw rfl (pre _ _ (aA (da rfl) (aA (dr (p:=false) (q:=false) (da rfl) λ_=>da rfl) (aA (zw false rfl) (aA (da rfl) (b8 (Bm rfl) (ay (aJ [.str "chosen",.int day,.str iJ,.str RU,.str p,.int (day+o / 32 % 3*m)] ?_ (bI _ (by simp)))))))))),.chosen _ _ _ _ _,by decide +kernel⟩;exact ce rfl (ce rfl (ce rfl (aF (b7 (.lst (zs.map .str)) (.int (5+o % 2)) rfl (by simp) Zs) (ce rfl (ce (b7 (.int day) (.int (o / 32 % 3*m)) rfl (b7 (.int (o / 32 % 3)) (.int m) (by simp) rfl (oh (by omega))) rfl) rfl)))))
 ·exact⟨_,[.int day,.str iJ,.str off,.str p],aw rfl (pre _ _ (aA (da rfl) (aA (dr (p:=false) (q:=false) (da rfl) λ_=>da rfl) (aA (zw false rfl) (aA (da rfl) (aA (da rfl) (b8 (Bm rfl) (ay (aJ [.str "heir",.int day,.str iJ,.str off,.str p] (ce rfl (ce rfl (ce rfl (aF (RV _ rfl rfl) (ce rfl rfl))))) (bI _ (by simp))))))))))),.heir _ _ _ _,by decide +kernel⟩
def bQ (r:D):Prop:=∃h k aD,r=row h k aD/\Dd k aD
theorem bQ.c (g:bQ r):xf r:=by obtain⟨h,k,aD,e,d⟩:=g;exact⟨h,k,aD,e,d.cd⟩
theorem bQ.flat (g:bQ r):bi r=true:=g.c.rp.flat
theorem QW (c1 m most:Int)(xs zs iI:List Str)(ns:List Int)(ab:List D)(hz:zs.length=7)(i:Nat)(hi:i<2)(hr:ab.length<=100)(hh:iI.length<=100)(v8 v9 vy sO:OB):
  ∃r1 r2 p w8 w9 OE OF,(bQ r1/\aW r1=true/\zs[5+i]? = some (az 0 r1))/\(bQ r2/\aW r2=false)/\nU [sF (.lst (ns.map .int)),sF (.lst (zs.map .str)),sF (.int m),sF (.int most),sF (.int c1),lT ab,lT (iI.map .str),sF (.int i),v8,v9,vy,sO,none,none,none]
   = some (.nx [sF (.lst (ns.map .int)),sF (.lst (zs.map .str)),sF (.int m),sF (.int most),sF (.int c1),lT (ab++[r1]++[r2]),lT ((iI++[p]).map .str),sF (.int i),w8,w9,OE,OF,none,none,none]):=by
 have h3:=mod_lt (x:=c1 / (64+9*i)) (m:=3) (by decide);obtain⟨rl,_,Zt⟩:=kO (zs:=[("open" : Str),"first","last"]) (i:=c1 / (64+9*i) % 3) (by simp;omega) (by simp;omega);have h4:=mod_lt (x:=c1 / (2+8*i)) (m:=4) (by decide);obtain⟨Zu,RW,Vd⟩:=oW (ns:=[7,255,3,15]) (i:=c1 / (2+8*i) % 4) h4.1 h4.2;obtain⟨mt,Ve,Zv⟩:∃mt:Nat,Zu=mt/\mt∈MR:=by
  simp only[List.mem_cons,List.not_mem_nil,or_false]at RW;rcases RW with rfl|rfl|rfl|rfl<;>first|exact⟨7,rfl,by decide⟩|exact⟨255,rfl,by decide⟩|exact⟨3,rfl,by decide⟩|exact⟨15,rfl,by decide⟩
 have WV:=Vd;rw[Ve]at WV;have SG:=mod_lt (x:=c1 / (31+i)) (m:=3) (by decide);obtain⟨dv,Va,ed⟩:=oW (ns:=[5,5,10]) (i:=c1 / (31+i) % 3) SG.1 SG.2;have OD:0<dv:=by simp only[List.mem_cons,List.not_mem_nil,or_false]at Va;omega
 obtain⟨of,Zw,WW⟩:∃of,zs[5+i]? = some of/\bG (.lst (zs.map .str)) (.int (5+i))=sF (.str of):=by
  have hl:5+i<zs.length:=by omega
  refine⟨zs[5+i],vU hl,?_⟩;have ED:((5:Int)+i).toNat<(zs.map D.str).length:=by rw[vI];omega
  rw[DL.Bb (by omega) ED,show((5:Int)+i).toNat=5+i by omega,vF,vA,vU hl];rfl
 obtain⟨pn,_,WX⟩:=kO (zs:=zs) (i:=i) (by omega) (by omega);have Zx:(0:Int)<64+9*i/\(64:Int)+9*i<1073741824:=by omega
 have b2:(0:Int)<2+8*i/\(2:Int)+8*i<1073741824:=by omega
 have Vf:(0:Int)<512+i/\(512:Int)+i<1073741824:=by omega
 have RX:(0:Int)<1024+5*i/\(1024:Int)+5*i<1073741824:=by omega
 have Zy:(0:Int)<31+i/\(31:Int)+i<1073741824:=by omega
 let t:Int:=if c1 / (512+i) % 8=1 then 1 else 0;have ht:0<=t/\t<=1:=by show 0<=(if _ then (1:Int)else 0)/\(if _ then (1:Int)else 0)<=1;split<;>omega
 refine⟨row (t*4*m) ("root" : Str) [.str of,.int mt,.int (c1 / (1024+5*i) % dv),.str rl],row 0 ("named" : Str) [.int 0,.str of,.str pn],pn,sF (.str rl),sF (.int mt),sF (.int (t*4*m)),sF (.int (c1 / (1024+5*i) % dv)),⟨⟨_,_,_,rfl,.root _ _ _ Zv _⟩,decide_eq_true rfl,Zw⟩,⟨⟨_,_,_,rfl,.named _ _ _⟩,show decide (("named" : Str) = "root")=false by decide +kernel⟩,?_⟩;refine fB (.str rl) ?_ rfl (fB (.int mt) ?_ rfl (fB (.int (t*4*m)) ?_ rfl (fB (.int (c1 / (1024+5*i) % dv)) ?_ rfl (LF (ds:=ab) (d:=row (t*4*m) ("root" : Str) [.str of,.int mt,.int (c1 / (1024+5*i) % dv),.str rl]) (b:=false) rfl ?_ rfl (bO (by omega)) (LF (ds:=ab++[row (t*4*m) ("root" : Str) [.str of,.int mt,.int (c1 / (1024+5*i) % dv),.str rl]]) (d:=row 0 ("named" : Str) [.int 0,.str of,.str pn]) (b:=false) rfl ?_ rfl (bO (by simp;omega)) ((jG (ds:=iI.map .str) (d:=.str pn) (b:=false) rfl ?_ rfl (bO (by simp;omega))).trans ?_))))))
 ·exact iq (x:=.lst (([("open" : Str),"first","last"]:List Str).map .str)) (y:=.int (c1 / (64+9*i) % 3)) (b1:=true) (b2:=false) (by simp[sizeLine]) (by simp[Zx]) Zt
 ·exact iq (x:=.lst (([7,255,3,15]:List Int).map .int)) (y:=.int (c1 / (2+8*i) % 4)) (b1:=true) (b2:=false) (by simp[sizeLine]) (by simp[b2]) WV
 ·refine b7 (.int (t*4)) (.int m) (b7 (.int t) (.int 4) ?_ rfl (by simp)) rfl (oh (by omega));refine aJ [.bl (decide (c1 / (512+i) % 8=1))] (ce (b7 (.int (c1 / (512+i) % 8)) (.int 1) (by simp[Vf]) rfl (by simp)) rfl) ?_;simp[t]
 ·refine b7 (.int (c1 / (1024+5*i))) (.int dv) (by simp[RX]) (iq (x:=.lst (([5,5,10]:List Int).map .int)) (y:=.int (c1 / (31+i) % 3)) (b1:=true) (b2:=false) (by simp[sizeLine]) (by simp[Zy]) ed) ?_;show(if decide ((0:Int)<dv)=true then _ else _)=_;rw[if_pos (decide_eq_true OD)]
 ·refine aJ [.int (t*4*m),.tup [.str "root",.str of,.int mt,.int (c1 / (1024+5*i) % dv),.str rl]] (ce rfl (ce (aJ [.str "root",.str of,.int mt,.int (c1 / (1024+5*i) % dv),.str rl] (ce rfl (aF (b7 (.lst (zs.map .str)) (.int (5+i)) rfl (by simp) WW) (ce rfl (ce rfl (ce rfl rfl))))) (bI _ (by simp))) rfl)) (bI _ (by simp))
 ·refine aJ [.int 0,.tup [.str "named",.int 0,.str of,.str pn]] (ce rfl (ce (aJ [.str "named",.int 0,.str of,.str pn] (ce rfl (ce rfl (aF (b7 (.lst (zs.map .str)) (.int (5+i)) rfl (by simp) WW) (aF (b7 (.lst (zs.map .str)) (.int i) rfl rfl WX) rfl)))) (bI _ (by simp))) rfl)) (bI _ (by simp))
 ·exact b7 (.lst (zs.map .str)) (.int i) rfl rfl WX
 ·simp
noncomputable def lD (ab:List D):List Str:=(ab.filter aW).map (az 0)
theorem oi (ab:List D)(r:D):lD (ab++[r])=lD ab++if aW r=true then [az 0 r]else []:=by
 unfold lD;rw[List.filter_append,uW,List.filter_cons];split
 ·rename_i h;rfl
 ·rename_i h;rfl
theorem QX (c1 m most:Int)(zs iI:List Str)(ns:List Int)(ab:List D)(hz:zs.length=7)(i:Nat)(hi:i<100)(hr:ab.length<=200)(hh:iI≠[])(hh2:iI.length<=200)(v8 v9 vy sO Ai zX zY:OB):
  ∃r1 sK Mi Mj Mk,(bQ r1/\aW r1=false)/\sK≠[]/\sK.length<=iI.length+1/\nV [sF (.lst (ns.map .int)),sF (.lst (zs.map .str)),sF (.int m),sF (.int most),sF (.int c1),lT ab,lT (iI.map .str),sF (.int i),v8,v9,vy,sO,Ai,zX,zY]
   = some (.nx [sF (.lst (ns.map .int)),sF (.lst (zs.map .str)),sF (.int m),sF (.int most),sF (.int c1),lT (ab++[r1]),lT (sK.map .str),sF (.int i),v8,v9,vy,sO,Mi,Mj,Mk]):=by
 obtain⟨ca,Zz,ca0⟩:=gn ns (5+i);obtain⟨cb,Z0,cb0⟩:=gn ns (30+i);obtain⟨cc,Z1,cc0⟩:=gn ns (60+i);have h3:=mod_lt (x:=ca / 7) (m:=3) (by decide);obtain⟨day,sJ⟩:∃day:Int,((i:Int) / 2+ca / 7 % 3)*m=day:=⟨_,rfl⟩;obtain⟨k,r,ed,hD,UT⟩:=Kd ab.length cb cc day m zs iI hz hh;have Z2:=λh=>hD.had3 h;have Z3:=λh=>hD.had4 h;have h6:=mod_lt (x:=ca / 21) (m:=6) (by decide);obtain⟨tv,Z4,Z5⟩:=oW (ns:=[0,0,0,0,1,4]) (i:=ca / 21 % 6) h6.1 h6.2;have UD : -1000<=tv/\tv<=1000:=by simp only[List.mem_cons,List.not_mem_nil,or_false]at Z4;omega
 have Rn:bi (.tup (.str k::r))=true:=by simp[hD.flat]
 have e4:∀(ρ:DL.Env),ρ[14]? = some (sF (.tup (.str k::r)))->eY 14 0 ρ=sF (.str k):=λρ h=>b7 (.tup (.str k::r)) (.int 0) (by simp[h]) rfl (by simp[JQ]);have e1:∀(b:Bool),decide (k = "leave" ∨ k = "named")=b->br (f2 F8 (eY 14 0) (fA aP (af (fS "leave") (af (fS "named") aj)))) [sF (.lst (ns.map .int)),sF (.lst (zs.map .str)),sF (.int m),sF (.int most),sF (.int c1),lT ab,lT (iI.map .str),sF (.int i),v8,v9,vy,sO,sF (.int ca),sF (.int day),sF (.tup (.str k::r))]=some b:=λb hb=>cX (b7 (.str k) (.tup (([("leave" : Str),"named"]:List Str).map .str)) (e4 _ rfl) (by simp[sizeLine]) (by rw[jz,←hb];simp));have at_:∀(j:Nat)(p:Str),r[j]? = some (.str p)->∀ρ:DL.Env,ρ[14]? = some (sF (.tup (.str k::r)))->f2 bG (ai 14) (fC (.int ((j+1:Nat):Int))) ρ=sF (.str p):=λj p hp ρ hρ=>by
  have hl:j<r.length:=(vV hp).1;refine b7 (.tup (.str k::r)) (.int ((j+1:Nat):Int)) (by simp[hρ]) rfl ?_;rw[DL.wg (by omega) (by simp;omega),show((j+1:Nat):Int).toNat=j+1 by omega,vF];show some ((r[j]?).getD .non,false)=_;rw[hp];rfl
 obtain⟨sK,Vg,RY,Z6⟩:∃sK:List Str,sK≠[]/\sK.length<=iI.length+1/\∀(h:FS)(rr:Option Res),h [sF (.lst (ns.map .int)),sF (.lst (zs.map .str)),sF (.int m),sF (.int most),sF (.int c1),lT ab,lT (sK.map .str),sF (.int i),v8,v9,vy,sO,sF (.int ca),sF (.int day),sF (.tup (.str k::r))]=rr->a8 (eM (br (f2 F8 (eY 14 0) (fA aP (af (fS "leave") (af (fS "named") aj))))) (kx 6 (eY 14 3)) bp) (a8 (eM (br (f2 fu (eY 14 0) (fS "chosen"))) (kx 6 (eY 14 4)) bp) h) [sF (.lst (ns.map .int)),sF (.lst (zs.map .str)),sF (.int m),sF (.int most),sF (.int c1),lT ab,lT (iI.map .str),sF (.int i),v8,v9,vy,sO,sF (.int ca),sF (.int day),sF (.tup (.str k::r))]=rr:=by
  by_cases hx:k = "leave" ∨ k = "named"
  ·obtain⟨p,hp⟩:=Z2 hx;have RE:k ≠ "chosen":=by rcases hx with rfl|rfl<;>decide +kernel
   refine⟨iI++[p],by simp,by simp,λh rr hr=>dU (lq (e1 true (decide_eq_true hx)) (jG (ds:=iI.map .str) (d:=.str p) (b:=false) rfl (at_ 2 p hp _ rfl) rfl (bO (by simp;omega)))) (aA (bP (a:=k) (bb:=false) (e4 _ rfl) (decide_eq_false RE)) ?_)⟩;rw[uW]at hr;exact hr
  ·by_cases hy:k = "chosen"
   ·obtain⟨p,hp⟩:=Z3 hy;refine⟨iI++[p],by simp,by simp,λh rr hr=>aA (e1 false (decide_eq_false hx)) (dU (lq (bP (a:=k) (bb:=false) (e4 _ rfl) (decide_eq_true hy)) (jG (ds:=iI.map .str) (d:=.str p) (b:=false) rfl (at_ 3 p hp _ rfl) rfl (bO (by simp;omega)))) ?_)⟩;rw[uW]at hr;exact hr
   ·exact⟨iI,hh,by omega,λh rr hr=>aA (e1 false (decide_eq_false hx)) (aA (bP (a:=k) (bb:=false) (e4 _ rfl) (decide_eq_false hy)) hr)⟩
 refine⟨row (day+tv*m) k r,sK,sF (.int ca),sF (.int day),sF (.tup (.str k::r)),⟨⟨_,_,_,rfl,hD⟩,decide_eq_false UT⟩,Vg,RY,?_⟩;refine fB (.int ca) (aJ [.lst (ns.map .int),.int ((5+i:Nat):Int)] (by simp) Zz) rfl (fB (.int day) ?_ rfl (fB (.tup (.str k::r)) ?_ Rn (Z6 _ _ ((jG (ds:=ab) (d:=row (day+tv*m) k r) (b:=false) rfl ?_ (by simp[row,hD.flat]) (bO (by omega))).trans ?_))))
 ·refine b7 (.int ((i:Int) / 2+ca / 7 % 3)) (.int m) (by simp) rfl ?_;rw[←sJ];exact oh (by omega)
 ·refine aJ [.int ab.length,.int cb,.int cc,.lst (zs.map .str),.int day,.lst (iI.map .str),.int m] (ce (by simp) (aF (aJ [.lst (ns.map .int),.int ((30+i:Nat):Int)] (by simp) Z0) (aF (aJ [.lst (ns.map .int),.int ((60+i:Nat):Int)] (by simp) Z1) (ce rfl (ce rfl (ce rfl (ce rfl rfl))))))) ed
 ·refine aJ [.int (day+tv*m),.tup (.str k::r)] (ce (b7 (.int day) (.int (tv*m)) rfl (b7 (.int tv) (.int m) (iq (x:=.lst (([0,0,0,0,1,4]:List Int).map .int)) (y:=.int (ca / 21 % 6)) (b1:=true) (b2:=false) (by simp[sizeLine]) (by simp) Z5) rfl (oh UD)) rfl) (ce rfl rfl)) (bI _ (by simp))
 ·simp
theorem Ke (ns:List Int)(zs:List Str)(hz:zs.length=7)(m:Int):∃ab:List D,r0 [.lst (ns.map .int),.lst (zs.map .str),.int m,.int 10]=sF (.tup ab)/\(∀r∈ab,bQ r)/\ab.length<=24/\lD ab=(zs.drop 5).take (lD ab).length:=by
 obtain⟨c1,e1,h1⟩:=gn ns 1;obtain⟨c2,e2,h2⟩:=gn ns 2;have Ps:=mod_lt (x:=c1) (m:=2) (by decide);have UZ:=mod_lt (x:=c2) (m:=10) (by decide);obtain⟨n1,SO⟩:∃n1:Nat,1+c1 % 2=n1:=⟨(1+c1 % 2).toNat,by omega⟩;obtain⟨n2,Vh⟩:∃n2:Nat,3+c2 % 10=n2:=⟨(3+c2 % 10).toNat,by omega⟩;obtain⟨ρ1,f1,Ml,RZ,u7,u8,u9,Vi,Vj,rfl,g1,l1,k1,o1⟩:=qJ (tg:=dM 7) (g:=nU) n1 (λi ρ=>∃(ab:List D)(iI:List Str)(v7 v8 v9 vy sO:OB),ρ=[sF (.lst (ns.map .int)),sF (.lst (zs.map .str)),sF (.int m),sF (.int 10),sF (.int c1),lT ab,lT (iI.map .str),v7,v8,v9,vy,sO,none,none,none]/\(∀r∈ab,bQ r)/\ab.length=2*i/\iI.length=i/\lD ab=(zs.drop 5).take i)
  [sF (.lst (ns.map .int)),sF (.lst (zs.map .str)),sF (.int m),sF (.int 10),sF (.int c1),lT [],lT [],none,none,none,none,none,none,none,none] ⟨[],[],none,none,none,none,none,rfl,by simp,rfl,rfl,rfl⟩ (by
   rintro i ρ hi ⟨ab,iI,v7,v8,v9,vy,sO,rfl,g,l,k,o⟩;obtain⟨r1,r2,p,w8,w9,OE,OF,q1,q2,e⟩:=QW c1 m 10 [] zs iI ns ab hz i (by omega) (by omega) (by omega) v8 v9 vy sO;refine⟨_,_,rfl,.inl e,ab++[r1]++[r2],iI++[p],_,w8,w9,OE,OF,rfl,?_,by simp;omega,by simp[k],by rw[oi,oi,if_pos q1.2.1,if_neg (by rw[q2.2];decide),uQ,o,List.take_add_one,List.getElem?_drop,q1.2.2];rfl⟩;intro r hr;simp only[List.mem_append,List.mem_singleton]at hr;rcases hr with (hr|rfl)|rfl
   ·exact g r hr
   ·exact q1.1
   ·exact q2.1)
 obtain⟨ρ2,Z7,Mm,Z8,w7,Mi,Mj,Mk,rfl,g2,l2,k2,k3,o2⟩:=qJ (tg:=dM 7) (g:=nV) n2 (λi ρ=>∃(ab:List D)(iI:List Str)(v7 Ai zX zY:OB),ρ=[sF (.lst (ns.map .int)),sF (.lst (zs.map .str)),sF (.int m),sF (.int 10),sF (.int c1),lT ab,lT (iI.map .str),v7,u8,u9,Vi,Vj,Ai,zX,zY]/\(∀r∈ab,bQ r)/\ab.length=2*n1+i/\iI≠[]/\iI.length<=n1+i/\lD ab=(zs.drop 5).take n1)
  [sF (.lst (ns.map .int)),sF (.lst (zs.map .str)),sF (.int m),sF (.int 10),sF (.int c1),lT Ml,lT (RZ.map .str),u7,u8,u9,Vi,Vj,none,none,none] ⟨Ml,RZ,u7,none,none,none,rfl,g1,by omega,λe=>by rw[e]at k1;simp at k1;omega,by omega,o1⟩ (by
   rintro i ρ hi ⟨ab,iI,v7,Ai,zX,zY,rfl,g,l,k,k',o⟩;obtain⟨r1,sK,Mi,Mj,Mk,q1,q2,q3,e⟩:=QX c1 m 10 zs iI ns ab hz i (by omega) (by omega) k (by omega) u8 u9 Vi Vj Ai zX zY;refine⟨_,_,rfl,.inl e,ab++[r1],sK,_,Mi,Mj,Mk,rfl,?_,by simp;omega,q2,by omega,by rw[oi,if_neg (by rw[q1.2];decide),uQ,o]⟩;intro r hr;simp only[List.mem_append,List.mem_singleton]at hr;rcases hr with hr|rfl
   ·exact g r hr
   ·exact q1.1)
 refine⟨Mm,aw rfl (fB (.int c1) (aJ [.lst (ns.map .int),.int ((1:Nat):Int)] (by simp) e1) rfl (c8 (ds:=[]) (by simp[sizeLine]) rfl (c8 (ds:=[]) (by simp[sizeLine]) rfl (dU (qN (kX (j:=n1) (b:=false) (by simp;omega) (by omega)) f1) (dU (qN (kX (j:=n2) (b:=false) ?_ (by omega)) Z7) (ay (by simp))))))),g2,by omega,?_⟩
 ·refine b7 (.int 3) (.int (c2 % 10)) rfl (b7 (.int c2) (.int 10) (aJ [.lst (ns.map .int),.int ((2:Nat):Int)] (by simp) e2) rfl (by simp)) ?_;rw[←Vh];rfl
 ·have hl:(lD Mm).length<=n1:=by rw[o2,List.length_take];omega
  rw[o2,List.length_take];congr 1;rw[List.length_drop];omega
theorem vh (a b:Nat):iz [.int a,.int b]=sF (.bl (decide (a &&& b=b))):=by
 have:Builtin.bitAnd (a:Int) (b:Int)=((a &&& b:Nat):Int):=by simp[Builtin.bitAnd]
 simp[iz,re,this];omega
def jg (r:D):Nat:=(if kindOf r = "root" then fR 1 r else if kindOf r = "leave" then fR 3 r else fR 2 r).toNat
theorem fL (a:Int)(k:Str)(aD:List D):kindOf (row a k aD)=k:=rfl
noncomputable def eO:List Str:=[("leave" : Str),"paper","like"]
theorem se (g:bQ r)(h:aW r=true):∃a o rl,∃m:Nat,∃f:Int,r=row a ("root" : Str) [.str o,.int m,.int f,.str rl]/\m∈MR/\jg r=m:=by
 obtain⟨a,k,aD,rfl,d⟩:=g;have hk:k = "root":=of_decide_eq_true h;clear h;cases d with
 |root o rl m hm f=>exact⟨a,o,rl,m,f,rfl,hm,by unfold jg;rw[fL,if_pos rfl];rfl⟩
 |named=>exact cP hk
 |chosen=>exact cP hk
 |heir=>exact cP hk
 |three k fP=>rcases fP with rfl|rfl|rfl<;>exact cP hk
 |leave=>exact cP hk
 |paper k fP=>rcases fP with rfl|rfl<;>exact cP hk
 |copy k fP=>rcases fP with rfl|rfl<;>exact cP hk
theorem CL (g:bQ r)(h:aW r=true):au [r,.str "matters"]=sF (.int (jg r)):=by
 obtain⟨a,o,rl,m,f,rfl,_,e⟩:=se g h;rw[e];exact bq (i:=1) df rfl
theorem Oc {a:Int}{k:Str}{aD:List D}(d:Dd k aD)(h:k∈eO):jg (row a k aD)∈MS/\(∃i:Nat,pz gT (.str k) (.str "matters")=sF (.int i)/\aD[i]? = some (.int (jg (row a k aD))))/\(D.str k::aD).getD (3+if k = "leave" then 1 else 0) .non=.int (jg (row a k aD))/\(3+if k = "leave" then 1 else 0)<(D.str k::aD).length:=by
 cases d with
 |leave d b p m hm x f=>
  have e:jg (row a ("leave" : Str) [.int d,.str b,.str p,.int m,iK x,.int f])=m:=by unfold jg;rw[fL,if_neg (by decide +kernel),if_pos rfl];rfl
  rw[e];refine⟨hm,⟨3,df,rfl⟩,?_,?_⟩
  ·rw[if_pos rfl];rfl
  ·rw[if_pos rfl];simp
 |paper k hk d b m hm x r hf hp=>
  have hl:k ≠ "leave":=by rcases hk with rfl|rfl<;>decide +kernel
  have hr:k ≠ "root":=by rcases hk with rfl|rfl<;>decide +kernel
  have e:jg (row a k (.int d::.str b::.int m::iK x::r))=m:=by unfold jg;rw[fL,if_neg hr,if_neg hl];rfl
  rw[e];refine⟨hm,⟨2,by rcases hk with rfl|rfl<;>exact df,rfl⟩,?_,?_⟩
  ·rw[if_neg hl];rfl
  ·rw[if_neg hl];simp
 |root=>exact cP h
 |named=>exact cP h
 |chosen=>exact cP h
 |heir=>exact cP h
 |three k fP=>rcases fP with rfl|rfl|rfl<;>exact cP h
 |copy k fP=>rcases fP with rfl|rfl<;>exact cP h
theorem xm (g:bQ r)(h:kindOf r∈eO):au [r,.str "matters"]=sF (.int (jg r)):=by
 obtain⟨a,k,aD,rfl,d⟩:=g;obtain⟨_,⟨i,h1,h2⟩,_⟩:=Oc (a:=a) d h;exact bq h1 h2
noncomputable def bU:List Str:=[("leave" : Str),"paper","like","copy"]
theorem iC (h:k∈bU∨k = "call"):dw k=true:=by
 rw[rG];refine decide_eq_true ?_;rcases h with h|rfl
 ·have:∀k∈bU,k∈zg:=by decide +kernel
  exact this k h
 ·decide +kernel
theorem CM {k:Str}{aD:List D}(d:Dd k aD)(h:dw k=true):∃(dd:Int)(b:Str)(r:List D),aD=.int dd::.str b::r:=d.cd.deed.slg h
theorem CN (g:bQ r)(h:dw (kindOf r)=true):au [r,.str "by"]=sF (.str (cJ r)):=by
 obtain⟨a,k,aD,rfl,d⟩:=g;obtain⟨dd,b,q,rfl⟩:=CM d h;exact bq (i:=1) (GF h) rfl
noncomputable def bA (K:KL):List D:=(K.filter λx=>aW x.1).map (·.1)
theorem sf:∀(l:List (cx×D))(a:List cx×List D),(a.1++l.map (·.1)).Nodup->l.foldl qC a=(a.1++l.map (·.1),a.2++l.map (·.2))
 |[],a,_=>by simp
 |p::l,a,h=>by
  have hn:p.1∉a.1:=by
   rw[uY,List.nodup_append]at h;exact λz=>h.2.2 _ z _ mX rfl
  have e:qC a p=(a.1++[p.1],a.2++[p.2]):=by unfold qC dJ dL;rw[if_neg hn,if_neg hn]
  rw[List.foldl_cons,e,sf l _ (by rw[List.append_assoc];exact h)];simp
section
variable {K:KL}(hn:((bA K).map (az 0)).Nodup)
include hn
theorem sg:bR (lB K)=((bA K).map λv=>(.inr (az 0 v):cx),bA K):=by
 have e:lB K=(bA K).map λv=>((.inr (az 0 v):cx),v):=by unfold lB bA;rw[uP];rfl
 have Vh:((bA K).map λv=>(.inr (az 0 v):cx)).Nodup:=by
  refine List.pairwise_map.mpr ((List.pairwise_map.mp hn).imp λh z=>h (Sum.inr.inj z))
 rw[e];unfold bR;rw[sf _ _ (by rw[uP];exact Vh),uP,uP];simp only[List.nil_append];congr 1;exact List.map_id _
end
noncomputable def Kf (j:Nat):D->Int×Option Int
 |.tup [_,.tup (_::aD)]=>match aD[j]? with
  |some (.tup [.int s,.int u])=>(s,some u)
  |some (.tup [.int s,.non])=>(s,none)
  |_=>(0,none)
 |_=>(0,none)
theorem xn {h:Int}{k:Str}{aD:List D}{j:Nat}{x:Int×Option Int}(e:aD[j]? = some (iK x)):Kf j (row h k aD)=x:=by
 unfold Kf row;simp only[e];obtain⟨s,u⟩:=x;cases u<;>rfl
def iD (r:D):Int×Option Int:=if kindOf r = "leave" then Kf 4 r else Kf 3 r
def j5 (r:D):Int:=if kindOf r = "root" then fR 2 r else fR 5 r
def ng (r:D):Bool:=decide (kindOf r = "leave")
theorem oZ {r:D}(g:bQ r)(h:kindOf r = "leave"):∃a d b p,∃m:Nat,∃x f,r=row a ("leave" : Str) [.int d,.str b,.str p,.int m,iK x,.int f]/\m∈MS/\jg r=m/\iD r=x/\j5 r=f:=by
 obtain⟨a,k,aD,rfl,d⟩:=g;have hk:k = "leave":=h;clear h;cases d with
 |leave d b p m hm x f=>exact⟨a,d,b,p,m,x,f,rfl,hm,by unfold jg;rw[fL,if_neg (by decide +kernel),if_pos rfl];rfl,by unfold iD;rw[fL,if_pos rfl];exact xn rfl,by unfold j5;rw[fL,if_neg (by decide +kernel)];rfl⟩
 |root=>exact cP hk
 |named=>exact cP hk
 |chosen=>exact cP hk
 |heir=>exact cP hk
 |three k fP=>rcases fP with rfl|rfl|rfl<;>exact cP hk
 |paper k fP=>rcases fP with rfl|rfl<;>exact cP hk
 |copy k fP=>rcases fP with rfl|rfl<;>exact cP hk
theorem Kg {a:Int}{k:Str}{aD:List D}(d:Dd k aD)(h:k∈eO):(∃i:Nat,pz gT (.str k) (.str "stretch")=sF (.int i)/\aD[i]? = some (iK (iD (row a k aD))))/\(D.str k::aD).getD (4+if k = "leave" then 1 else 0) .non=iK (iD (row a k aD))/\(4+if k = "leave" then 1 else 0)<(D.str k::aD).length:=by
 cases d with
 |leave d b p m hm x f=>
  have e:iD (row a ("leave" : Str) [.int d,.str b,.str p,.int m,iK x,.int f])=x:=by unfold iD;rw[fL,if_pos rfl];exact xn rfl
  rw[e,if_pos rfl];exact⟨⟨4,df,rfl⟩,rfl,by simp⟩
 |paper k hk d b m hm x r hf hp=>
  have hl:k ≠ "leave":=by rcases hk with rfl|rfl<;>decide +kernel
  have e:iD (row a k (.int d::.str b::.int m::iK x::r))=x:=by unfold iD;rw[fL,if_neg hl];exact xn rfl
  rw[e,if_neg hl];exact⟨⟨3,by rcases hk with rfl|rfl<;>exact df,rfl⟩,rfl,by simp⟩
 |root=>exact cP h
 |named=>exact cP h
 |chosen=>exact cP h
 |heir=>exact cP h
 |three k fP=>rcases fP with rfl|rfl|rfl<;>exact cP h
 |copy k fP=>rcases fP with rfl|rfl<;>exact cP h
theorem CO (g:bQ r)(h:kindOf r∈eO):au [r,.str "stretch"]=some (iK (iD r),false):=by
 obtain⟨a,k,aD,rfl,d⟩:=g;obtain⟨⟨i,h1,h2⟩,_⟩:=Kg (a:=a) d h;exact bq h1 h2
theorem xo (h:kindOf r = "leave"):kindOf r∈eO:=by rw[h];decide +kernel
theorem LM (g:bQ r)(h:aW r=true∨kindOf r = "leave"):au [r,.str "further"]=sF (.int (j5 r)):=by
 rcases h with h|h
 ·obtain⟨a,o,rl,m,f,rfl,_,_⟩:=se g h;rw[show j5 (row a ("root" : Str) [.str o,.int m,.int f,.str rl])=f by unfold j5;rw[fL,if_pos rfl];rfl];exact bq (i:=2) df rfl
 ·obtain⟨a,d,b,p,m,x,f,e,_,_,_,ef⟩:=oZ g h;rw[ef,e];exact bq (i:=5) df rfl
def si (r v:D):Bool:=decide (jg v &&& jg r=jg r) && !(ng r && decide (j5 v<=j5 r))
theorem zx (gr:bQ r)(gv:bQ v)(kr:kindOf r∈eO)(kv:aW v=true∨kindOf v = "leave"):∃d,iQ [r,v]=some (d,false)/\EL d .non=sF (.bl (si r v)):=by
 have Z9:au [v,.str "matters"]=sF (.int (jg v)):=kv.elim (CL gv) λh=>xm gv (xo h);have t1:br (fA iz (af (fA au (fV 1 (af (fS "matters") aj))) (af (fA au (fV 0 (af (fS "matters") aj))) aj))) [some (r,false),some (v,false)]=some (decide (jg v &&& jg r=jg r)):=cX (aJ [.int (jg v),.int (jg r)] (aF (aJ [v,.str "matters"] rfl Z9) (aF (aJ [r,.str "matters"] rfl (xm gr kr)) rfl)) (vh _ _));have t2:br (f2 fu (fA aK (fV 0 aj)) (fS "leave")) [some (r,false),some (v,false)]=some (ng r):=bP (a:=kindOf r) (bb:=false) (aJ [r] rfl (jf gr.c)) rfl;have t3:ng r=true->br (f2 Tr (fA au (fV 0 (af (fS "further") aj))) (fA au (fV 1 (af (fS "further") aj)))) [some (r,false),some (v,false)]=some (decide (j5 v<=j5 r)):=λh=>cX (b7 (.int (j5 r)) (.int (j5 v)) (aJ [r,.str "further"] rfl (LM gr (.inr (of_decide_eq_true h)))) (aJ [v,.str "further"] rfl (LM gv kv)) rfl);have t4:=eG t2 t3;unfold si;cases hA:decide (jg v &&& jg r=jg r) with
 |false=>exact⟨.str "matters",aw rfl (b8 (cF (p:=false) (t1.trans (by rw[hA]))) (ay rfl)),rfl⟩
 |true=>
  cases hB:(ng r && decide (j5 v<=j5 r)) with
  |true=>exact⟨.str "further",aw rfl (aA (cF (p:=true) (t1.trans (by rw[hA]))) (b8 (t4.trans (by rw[hB])) (ay rfl))),rfl⟩
  |false=>exact⟨.non,aw rfl (aA (cF (p:=true) (t1.trans (by rw[hA]))) (aA (t4.trans (by rw[hB])) (ay rfl))),rfl⟩
theorem sj (h:k∈eO):k∈bU:=by
 have:∀k∈eO,k∈bU:=by decide +kernel
 exact this k h
theorem iV (h:kindOf r∈eO):aW r=false:=by
 have:∀k∈eO,decide (k = "root")=false:=by decide +kernel
 exact this _ h
theorem sk (g:bQ r)(h:aW r=false):aR [r]=sF (.int (aE r)):=by
 have:=rJ g.c;unfold tm at this;rwa [h,if_neg (by decide)]at this
def tq (cs:List Cl)(r v:D):Bool:=iU cs (az 0 v) (az 3 v) (cJ r) (aE r) && si r v
theorem Kh (cs:List Cl)(x0:cs.length<=60)(gr:bQ r)(gv:bQ v)(kr:kindOf r∈eO)(hv:aW v=true):∃d,gV [.lst (cs.map aV),r,v]=some (d,false)/\EL d .non=sF (.bl (tq cs r v)):=by
 obtain⟨d,e1,e2⟩:=zx gr gv kr (.inl hv);have t1:br (fA cM (fV 0 (fV 2 (af (fA au (fV 1 (af (fS "by") aj))) (af (fA aR (fV 1 aj)) aj))))) [sF (.lst (cs.map aV)),some (r,false),some (v,false)]=some (iU cs (az 0 v) (az 3 v) (cJ r) (aE r)):=by
  refine cX (aJ [.lst (cs.map aV),v,.str (cJ r),.int (aE r)] (ce rfl (ce rfl (aF (aJ [r,.str "by"] rfl (CN gr (iC (.inl (sj kr))))) (aF (aJ [r] rfl (sk gr (iV kr))) rfl)))) ?_);obtain⟨a,o,rl,m,f,rfl,_,_⟩:=se gv hv;exact xh cs x0 _ _
 unfold tq;cases hA:iU cs (az 0 v) (az 3 v) (cJ r) (aE r) with
 |false=>exact⟨.str "holder",aw rfl (b8 (cF (p:=false) (t1.trans (by rw[hA]))) (ay rfl)),rfl⟩
 |true=>exact⟨d,aw rfl (aA (cF (p:=true) (t1.trans (by rw[hA]))) (ay (aJ [r,v] rfl e1))),e2⟩
def GW (cs:List Cl)(r v:D):Int:=match jX cs (az 0 v) (az 3 v) (aE r) with
 |.tup [_,_,.int n]=>n
 |_=>0
theorem GX (h:iU cs o rl p day=true):∃n:Int,jX cs o rl day=.tup [.str "one",.str p,.int n]:=by
 unfold iU jX at h;unfold jX;generalize Pb cs o day=al at h ⊢;cases al with
 |nil=>
  have h:bz (.tup [.str "none"]) (.tup [.str "one",.str p])=true:=h;simp[dn]at h
 |cons b r=>
  rw[oV]at h ⊢;split at h
  ·have h:bz (.tup [.str "parted",.lst ((lW (b::r)).map .str)]) (.tup [.str "one",.str p])=true:=h;simp[dn]at h
  ·rename_i hn;rw[if_neg hn];have h:bz (.tup [.str "one",.str (iB rl b r).p]) (.tup [.str "one",.str p])=true:=h;have h:(iB rl b r).p=p:=by simpa [dn]using h
   exact⟨_,by rw[h]⟩
theorem Ki (h:iU cs (az 0 v) (az 3 v) (cJ r) (aE r)=true):jX cs (az 0 v) (az 3 v) (aE r)=.tup [.str "one",.str (cJ r),.int (GW cs r v)]:=by
 obtain⟨n,e⟩:=GX h;unfold GW;rw[e]
def Od (cs:List Cl)(r v:D):D:=.tup [.str "office",.str (az 0 v),.int (GW cs r v)]
theorem sn (g:∀r∈ab,bQ r)(hv:v∈bA (ak ab aa)):bQ v/\aW v=true:=by
 obtain⟨x,hx,rfl⟩:=vO hv;obtain⟨h1,h2⟩:=vN hx;exact⟨g _ (vL (bf h1)),h2⟩
theorem GY (hl:ab.length<=60)(aa:Int):(bA (ak ab aa)).length<=60:=by
 unfold bA;rw[vI];exact vR (vM _ _) (vR (cw ab aa) hl)
theorem Ek {ab:List D}(g:∀r∈ab,bQ r)(hl:ab.length<=60)(aa:Int)(hn:((bA (ak ab aa)).map (az 0)).Nodup)(cs:List Cl)(x0:cs.length<=60){ri:Nat}{r:D}(hr:ab[ri]? = some r)(kr:kindOf r∈eO):
  i6 [.tup ab,.int aa,.lst (cs.map aV),.int ri]=lT (((bA (ak ab aa)).filter (tq cs r)).map (Od cs r)):=by
 have gC:gF ab:=⟨hl,λr hr=>(g r hr).c⟩;have gr:=g r (vL hr);have Sa:=GY hl aa;have h1:=gA (fi:=qG (fA gm (fV 0 (fV 1 aj)))) (nT:=1) (cap:=[2,4]) (tg:=dM 0) (c:=br (f2 EL (fA gV (fV 1 (fV 2 (fV 0 aj)))) (fC .non))) (fe:=ai 0)
  (ρ:=[sF (.tup ab),sF (.int aa),sF (.lst (cs.map aV)),sF (.int ri),some (r,false),none]) (bA (ak ab aa)) id (tq cs r) id
  (by show(fA gm _ _).bind _=_;rw[aJ [.tup ab,.int aa] rfl (rT gC aa),sg hn];simp) (by omega) λv hv=>by
   obtain⟨gv,OG⟩:=sn g hv;obtain⟨d,e1,e2⟩:=Kh cs x0 gr gv kr OG;exact⟨[some (v,false),sF (.lst (cs.map aV)),some (r,false)],rfl,cX (b7 d .non (aJ [.lst (cs.map aV),r,v] rfl e1) rfl e2),λ_=>⟨false,rfl⟩⟩
 rw[List.map_id]at h1;have vx:bw ((bA (ak ab aa)).filter (tq cs r))=true:=bF λv hv=>(sn g (vN hv).1).1.flat;refine aw rfl (fB r (b7 (.tup ab) (.int ri) rfl rfl (by simp[cC hr])) gr.flat (c8 h1 vx (ay ?_)));refine qP (fi:=cy (ai 5)) (nT:=1) (cap:=[2,4]) (tg:=dM 0) (fe:=fA aP (af (fS "office") (af (fA au (fV 0 (af (fS "office") aj))) (af (f2 bG (fA dY (fV 1 (fV 0 (af (fA aR (fV 2 aj)) aj)))) (fI 2)) aj))))
  (ρ:=[sF (.tup ab),sF (.int aa),sF (.lst (cs.map aV)),sF (.int ri),some (r,false),lT ((bA (ak ab aa)).filter (tq cs r))]) ((bA (ak ab aa)).filter (tq cs r)) id (Od cs r) (by simp) (vR (vM _ _) (by omega)) λv hv=>?_
 obtain⟨UR,ZA⟩:=vN hv;obtain⟨gv,OG⟩:=sn g UR;have WY:(iU cs (az 0 v) (az 3 v) (cJ r) (aE r) && si r v)=true:=ZA;rw[vC]at WY;have hh:=Ki WY.1;refine⟨[some (v,false),sF (.lst (cs.map aV)),some (r,false)],rfl,false,?_⟩;obtain⟨a,o,rl,m,f,rfl,_,_⟩:=se gv OG;refine aJ [.str "office",.str o,.int (GW cs r _)] (ce rfl (aF (aJ [row a ("root" : Str) [.str o,.int m,.int f,.str rl],.str "office"] rfl kL) (ce (b7 (jX cs o rl (aE r)) (.int 2) (aJ [.lst (cs.map aV),row a ("root" : Str) [.str o,.int m,.int f,.str rl],.int (aE r)] (ce rfl (ce rfl (aF (aJ [r] rfl (sk gr (iV kr))) rfl))) (mT cs x0 _)) rfl ?_) rfl))) (bI _ (by simp));have hh:jX cs o rl (aE r)=_:=hh;rw[hh];simp[VF]
noncomputable def GZ (day:Int)(x:Int×Option Int):Bool:=decide (x.1<=day) && (match x.2 with|none=>true|some u=>decide (day<u))
noncomputable def QY:Option Int->Option Int->Bool
 |_,none=>true
 |none,some _=>false
 |some x,some y=>decide (x<=y)
theorem Kj (a b:Option Int):jd [uD a,uD b]=sF (.bl (QY a b)):=by
 cases b with
 |none=>exact aw rfl (b8 (cX (by simp[uD])) (ay (by cases a<;>rfl)))
 |some y=>
  refine aw rfl (aA (cX (by simp[uD])) (ay ?_));cases a with
  |none=>exact dW (p:=false) (q:=false) (b1:=false) (by simp[uD]) (by simp)
  |some x=>exact dW (p:=true) (q:=decide (x<=y)) (b1:=false) (by simp[uD]) λ_=>by simp[uD]
def Kk (a b:Int×Option Int):Bool:=decide (b.1<=a.1) && QY a.2 b.2
theorem Oe (a b:Int×Option Int):iR [iK a,iK b]=sF (.bl (Kk a b)) :=
 aw rfl (ay (dW (b1:=false) (by simp[iK,JQ]) λ_=>aJ [uD a.2,uD b.2] (ce (by simp[iK,HX]) (ce (by simp[iK,HX]) rfl)) (Kj _ _)))
theorem LN {ab:List D}{i:Nat}{r:D}(hr:ab[i]? = some r)(g:bQ r)(h:aW r=false):eZ [.tup ab,.int i]=sF (.tup [.int (aE r),.int i]) :=
 aw rfl (ay (aJ [.int (aE r),.int i] (ce (aJ [r] (by simp[cC hr]) (sk g h)) rfl) (by simp[sizeLine])))
theorem TL (a b c d:Int):Mw (.tup [.int a,.int b]) (.tup [.int c,.int d])=sF (.bl (decide (a<c∨(a=c/\b<d)))):=by
 show(be [.i a,.i b] [.i c,.i d]).map _=_;rw[Oa];rfl
theorem zy {ab:List D}{i j:Nat}{x y:D}(hx:ab[i]? = some x)(hy:ab[j]? = some y)(gx:bQ x)(gy:bQ y)(nx:aW x=false)(ny:aW y=false):gd [.tup ab,.int i,.int j]=sF (.bl (eN (x,i) (y,j))) :=
 aw rfl (ay (b7 (.tup [.int (aE x),.int i]) (.tup [.int (aE y),.int j]) (aJ [.tup ab,.int i] rfl (LN hx gx nx)) (aJ [.tup ab,.int j] rfl (LN hy gy ny)) (TL _ _ _ _)))
def Bn (r:D)(ri:Nat)(x:D×Nat):Bool:=eN x (r,ri) && ((GZ (aE r) (iD x.1) && Kk (iD r) (iD x.1)) && si r x.1)
theorem Kl {ab:List D}{ri li:Nat}{r l:D}(hr:ab[ri]? = some r)(hl:ab[li]? = some l)(gr:bQ r)(gl:bQ l)(kr:kindOf r∈eO)(kl:kindOf l = "leave"):∃d,iS [.tup ab,.int ri,.int li]=some (d,false)/\EL d .non=sF (.bl (Bn r ri (l,li))):=by
 have nr:=iV kr;have nl:=iV (xo kl);obtain⟨d,e1,e2⟩:=zx gr gl kr (.inr kl);let E:DL.Env:=[sF (.tup ab),sF (.int ri),sF (.int li),some (r,false),some (iK (iD l),false)];have al:∀ρ:DL.Env,ρ[0]? = some (sF (.tup ab))->ρ[2]? = some (sF (.int li))->f2 bG (ai 0) (ai 2) ρ=some (l,false):=λρ h0 h2=>b7 (.tup ab) (.int li) (by simp[h0]) (by simp[h2]) (by simp[cC hl]);have t1:br (fA gd (fV 0 (fV 2 (fV 1 aj)))) E=some (eN (l,li) (r,ri)):=cX (aJ [.tup ab,.int li,.int ri] rfl (zy hl hr gl gr nl nr));have t2:br (fA jw (af (fA aR (fV 3 aj)) (fV 4 aj))) E=some (GZ (aE r) (iD l)):=cX (aJ [.int (aE r),iK (iD l)] (aF (aJ [r] rfl (sk gr nr)) (ce rfl rfl)) (CB _ _ _));have t3:br (fA iR (af (fA au (fV 3 (af (fS "stretch") aj))) (fV 4 aj))) E=some (Kk (iD r) (iD l)):=cX (aJ [iK (iD r),iK (iD l)] (aF (aJ [r,.str "stretch"] rfl (CO gr kr)) (ce rfl rfl)) (Oe _ _));have t4:=dr (cF t2) λ_=>cF t3;have go:∀(h:FS)(res:Option Res),h E=res->a8 (aN 3 (f2 bG (ai 0) (ai 1))) (a8 (aN 4 (fA au (af (f2 bG (ai 0) (ai 2)) (af (fS "stretch") aj)))) h) [sF (.tup ab),sF (.int ri),sF (.int li),none,none]=res:=λh res k=>
  fB r (b7 (.tup ab) (.int ri) rfl rfl (by simp[cC hr])) gr.flat (fB (iK (iD l)) (aJ [l,.str "stretch"] (aF (al _ rfl rfl) rfl) (CO gl (xo kl))) (j4 _) k)
 unfold Bn;cases hA:eN (l,li) (r,ri) with
 |false=>exact⟨.str "order",aw rfl (go _ _ (b8 (cF (p:=false) (t1.trans (by rw[hA]))) (ay rfl))),rfl⟩
 |true=>
  cases hB:(GZ (aE r) (iD l) && Kk (iD r) (iD l)) with
  |false=>exact⟨.str "days",aw rfl (go _ _ (aA (cF (p:=true) (t1.trans (by rw[hA]))) (b8 (t4.trans (by rw[←Bool.not_and,hB];rfl)) (ay rfl)))),rfl⟩
  |true=>exact⟨d,aw rfl (go _ _ (aA (cF (p:=true) (t1.trans (by rw[hA]))) (aA (t4.trans (by rw[←Bool.not_and,hB];rfl)) (ay (aJ [r,l] (ce rfl (aF (al _ rfl rfl) rfl)) e1))))),e2⟩
theorem lZ {ab:List D}{aa:Int}{i:Nat}{r:D}(hr:ab[i]? = some r)(g:bQ r):gb [.tup ab,.int aa,.int i]=sF (.bl (decide (aT r<=aa) && ng r)):=by
 have Ib:cA [.tup ab,.int aa,.int i]=sF (.bl (decide (aT r<=aa))):=by
  obtain⟨a,k,aD,rfl,d⟩:=g;exact kK hr aa
 exact aw rfl (ay (dW (aJ [.tup ab,.int aa,.int i] rfl Ib) λ_=>b7 (.str (kindOf r)) (.str "leave") (aJ [r] (ce (b7 (.tup ab) (.int i) rfl rfl (by simp[cC hr])) rfl) (jf g.c)) rfl (by simp[ng])))
noncomputable def p5 (K:KL)(p:Str):KL:=(K.filter λx=>ng x.1).filter λx=>decide (az 2 x.1=p)
theorem z4 (g:∀r∈ab,bQ r)(h:x∈p5 (ak ab aa) p):ab[x.2]? = some x.1/\bQ x.1/\kindOf x.1 = "leave":=by
 obtain⟨h1,_⟩:=vN h;obtain⟨h2,h3⟩:=vN h1;exact⟨bf h2,g _ (vL (bf h2)),of_decide_eq_true h3⟩
theorem El {ab:List D}(g:∀r∈ab,bQ r)(hl:ab.length<=60)(aa:Int)(p:Str):kG [.tup ab,.int aa,.str p]=lT ((p5 (ak ab aa) p).map λx=>.int x.2):=by
 have RO:=cw ab aa;have h1:=gA (fi:=cy (fA cG (fV 0 (fV 1 aj)))) (nT:=1) (cap:=[0,1]) (tg:=dM 0) (c:=br (fA gb (fV 1 (fV 2 (fV 0 aj))))) (fe:=ai 0)
  (ρ:=[sF (.tup ab),sF (.int aa),sF (.str p),none]) (ak ab aa) (λx=>.int x.2) (λx=>ng x.1) (λx=>.int x.2)
  (by show(fA cG _ _).bind _=_;rw[aJ [.tup ab,.int aa] rfl (kI ab (λr hr=>(g r hr).c.rp) (by omega) aa)];rfl) (by omega) λx hx=>by
   have hk:decide (aT x.1<=aa)=true:=(vN hx).2;have:=lZ (aa:=aa) (bf hx) (g _ (vL (bf hx)));rw[hk,Bool.true_and]at this;exact⟨_,rfl,cX (aJ [.tup ab,.int aa,.int x.2] rfl this),λ_=>⟨false,rfl⟩⟩
 have vx:bw (((ak ab aa).filter λx=>ng x.1).map λx=>D.int x.2)=true:=bF λd hd=>by obtain⟨x,_,rfl⟩:=vO hd;rfl
 refine aw rfl (c8 h1 vx (ay ?_));refine gA (fi:=cy (ai 3)) (nT:=1) (cap:=[2,0]) (tg:=dM 0) (c:=br (f2 fu (fA au (af (f2 bG (ai 2) (ai 0)) (af (fS "person") aj))) (ai 1))) (fe:=ai 0)
  (ρ:=[sF (.tup ab),sF (.int aa),sF (.str p),lT (((ak ab aa).filter λx=>ng x.1).map λx=>.int x.2)]) ((ak ab aa).filter λx=>ng x.1) (λx=>.int x.2) (λx=>decide (az 2 x.1=p)) (λx=>.int x.2) (by simp) (vR (vM _ _) (by omega)) λx hx=>?_
 obtain⟨h2,h3⟩:=vN hx;obtain⟨a,d,b,q,m,st,f,e,_⟩:=oZ (g _ (vL (bf h2))) (of_decide_eq_true h3);refine⟨[sF (.int x.2),sF (.str p),sF (.tup ab)],rfl,cX (b7 (.str (az 2 x.1)) (.str p) (aJ [x.1,.str "person"] (ce (b7 (.tup ab) (.int x.2) rfl rfl (by simp[cC (bf h2)])) rfl) ?_) rfl (by simp)),λ_=>⟨false,rfl⟩⟩;rw[e];exact bq (i:=2) df rfl
theorem Em {ab:List D}(g:∀r∈ab,bQ r)(hl:ab.length<=60)(aa:Int){ri:Nat}{r:D}(hr:ab[ri]? = some r)(kr:kindOf r∈eO):
  je [.tup ab,.int aa,.int ri]=lT (((p5 (ak ab aa) (cJ r)).filter (Bn r ri)).map λx=>.tup [.str "leave",.int x.2]):=by
 have gr:=g r (vL hr);have RO:=cw ab aa;have KJ:(p5 (ak ab aa) (cJ r)).length<=60:=vR (vM _ _) (vR (vM _ _) (by omega));have vx:bw ((p5 (ak ab aa) (cJ r)).map λx=>D.int x.2)=true:=bF λd hd=>by obtain⟨x,_,rfl⟩:=vO hd;rfl
 refine aw rfl (c8 (ds:=(p5 (ak ab aa) (cJ r)).map λx=>.int x.2) (aJ [.tup ab,.int aa,.str (cJ r)] (ce rfl (ce rfl (aF (aJ [r,.str "by"] (ce (b7 (.tup ab) (.int ri) rfl rfl (by simp[cC hr])) rfl) (CN gr (iC (.inl (sj kr))))) rfl))) (El g hl aa _)) vx (ay ?_));refine gA (fi:=cy (ai 3)) (nT:=1) (cap:=[0,2]) (tg:=dM 0) (c:=br (f2 EL (fA iS (fV 1 (fV 2 (fV 0 aj)))) (fC .non))) (fe:=fA aP (af (fS "leave") (fV 0 aj)))
  (ρ:=[sF (.tup ab),sF (.int aa),sF (.int ri),lT ((p5 (ak ab aa) (cJ r)).map λx=>.int x.2)]) (p5 (ak ab aa) (cJ r)) (λx=>.int x.2) (Bn r ri) (λx=>.tup [.str "leave",.int x.2]) (by simp) (by omega) λx hx=>?_
 obtain⟨h1,h2,h3⟩:=z4 g hx;obtain⟨d,e1,e2⟩:=Kl hr h1 gr h2 kr h3;exact⟨[sF (.int x.2),sF (.tup ab),sF (.int ri)],rfl,cX (b7 d .non (aJ [.tup ab,.int ri,.int x.2] rfl e1) rfl e2),λ_=>⟨false,aJ [.str "leave",.int x.2] rfl (bI _ (by simp))⟩⟩
abbrev Bs:=Option Str×Int
noncomputable def Ae:Bs->D
 | (some o,n)=>.tup [.str "office",.str o,.int n]
 | (none,n)=>.tup [.str "leave",.int n]
noncomputable def z5:Bs->List At
 | (some o,n)=>[.i n,.s ("office" : Str),.s o,.i n]
 | (none,n)=>[.i n,.s ("leave" : Str),.i n]
theorem Ha (b:Bs):bi (Ae b)=true:=by rcases b with⟨_|o,n⟩<;>rfl
theorem Km (b:Bs):bG (Ae b) (.int (-1))=sF (.int b.2):=by rcases b with⟨_|o,n⟩<;>rfl
theorem Hb (a b:Bs):(be (z5 a) (z5 b)).isSome=true:=by
 have O2:("office" : Str) ≠ "leave":=by decide +kernel
 rcases a with⟨_|o,n⟩<;>rcases b with⟨_|o',n'⟩
 ·show(be [.i n,.s ("leave" : Str),.i n] [.i n',.s ("leave" : Str),.i n']).isSome=true;rw[be];split
  ·rw[be,if_pos rfl,be];split
   ·rw[be];rfl
   ·rfl
  ·rfl
 ·show(be [.i n,.s ("leave" : Str),.i n] [.i n',.s ("office" : Str),.s o',.i n']).isSome=true;rw[be];split
  ·rw[be,if_neg (Ne.symm O2)];rfl
  ·rfl
 ·show(be [.i n,.s ("office" : Str),.s o,.i n] [.i n',.s ("leave" : Str),.i n']).isSome=true;rw[be];split
  ·rw[be,if_neg O2];rfl
  ·rfl
 ·show(be [.i n,.s ("office" : Str),.s o,.i n] [.i n',.s ("office" : Str),.s o',.i n']).isSome=true;rw[be];split
  ·rw[be,if_pos rfl,be];split
   ·rw[be];split
    ·rw[be];rfl
    ·rfl
   ·rfl
  ·rfl
theorem Kn (h:z5 a=z5 b):a=b:=by
 rcases a with⟨_|o,n⟩<;>rcases b with⟨_|o',n'⟩<;>simp[z5]at h
 ·rw[h]
 ·rw[h.1,h.2.1]
theorem CP (l:List Bs):di (l.map z5)=true:=by
 unfold di;simp[List.all_eq_true,Hb]
theorem Hd (e:cz (z5 a)=cz (z5 b)):a=b:=Kn (kT (CP [a,b]) (by simp) (by simp) e)
def X3 (cs:List Cl)(r v:D):Bs:=(some (az 0 v),GW cs r v)
def tu (K:KL)(cs:List Cl)(r:D)(ri:Nat):List Bs:=((bA K).filter (tq cs r)).map (X3 cs r)++((p5 K (cJ r)).filter (Bn r ri)).map λx=>(none,(x.2:Int))
def Bo (K:KL)(cs:List Cl)(r:D)(ri:Nat):List Bs:=dB (λb=>cz (z5 b)) (tu K cs r ri)
theorem En (hn:((bA (ak ab aa)).map (az 0)).Nodup)(cs:List Cl)(r:D)(ri:Nat):(tu (ak ab aa) cs r ri).Nodup:=by
 unfold tu;rw[List.nodup_append];refine⟨?_,?_,?_⟩
 ·exact List.pairwise_map.mpr ((List.Pairwise.sublist List.filter_sublist (List.pairwise_map.mp hn)).imp λh e=>h (vK (Prod.mk.inj e).1))
 ·refine List.pairwise_map.mpr ((List.Pairwise.sublist (List.filter_sublist.trans (List.filter_sublist.trans List.filter_sublist)) (List.pairwise_map.mp (cO ab aa))).imp λh e=>h ?_);have:=(Prod.mk.inj e).2;omega
 ·intro a ha b hb e;obtain⟨v,_,rfl⟩:=vO ha;obtain⟨x,_,rfl⟩:=vO hb;cases (Prod.mk.inj e).1
theorem vi {α:Type}{g:α->D}{h:α->List At}:∀(l:List α),(∀x∈l,NU (g x)=some (h x))->ju (l.map g)=some (l.map h)
 |[],_=>rfl
 |x::l,k=>by
  rw[uY,ju,k x mX,vJ,vi l λy hy=>k y (mZ _ hy)];rfl
theorem CQ (hl:ab.length<=30)(aa:Int)(cs:List Cl)(r:D)(ri:Nat):(tu (ak ab aa) cs r ri).length<=60:=by
 have h1:((bA (ak ab aa)).filter (tq cs r)).length<=30:=by
  refine vR (vM _ _) ?_;unfold bA;rw[vI];exact vR (vM _ _) (vR (cw ab aa) hl)
 have h2:((p5 (ak ab aa) (cJ r)).filter (Bn r ri)).length<=30:=vR (vM _ _) (vR (vM _ _) (vR (vM _ _) (vR (cw ab aa) hl)));unfold tu;rw[uZ,vI,vI];omega
theorem He {f:FE}{ρ:DL.Env}{b:Bool}(l:List Bs)(hl:l.length<=60)(hn:l.Nodup)(e:f ρ=some (.lst (l.map Ae),b)):AZ f (qt [] (fA aP (af (f2 bG (ai 0) (f1 ym (fI 1))) (fV 0 aj)))) ρ=lT ((dB (λb=>cz (z5 b)) l).map Ae):=by
 have hm:js (qt [] (fA aP (af (f2 bG (ai 0) (f1 ym (fI 1))) (fV 0 aj))) ρ) (l.map Ae)=some (l.map λb=>.tup [.int b.2,Ae b]):=i7 l λb _=>by
  show(fA aP _ _).map _=_;rw[aJ [.int b.2,Ae b] (ce (b7 (Ae b) (.int (-1)) rfl rfl (Km b)) (ce rfl rfl)) (bI _ (by simp))];rfl
 have hk:ju (l.map λb=>D.tup [.int b.2,Ae b])=some (l.map z5):=vi l λb _=>by rcases b with⟨_|o,n⟩<;>rfl
 have j8:(l.map z5).length<64/\di (l.map z5)=true/\True/\((l.map z5).map cz).Nodup:=by
  refine⟨by rw[vI];omega,CP l,trivial,?_⟩;rw[uP];exact List.pairwise_map.mpr (List.Pairwise.imp (λh e=>h (Hd e)) hn)
 unfold AZ wR;rw[e];simp only[vJ];rw[hm];simp only[vJ];rw[hk];simp only[vJ];rw[if_pos j8];unfold jt;have key:((dB (λb=>cz (z5 b)) l).map λb=>(z5 b,Ae b))=dB (λp:List At×D=>cz p.1) (l.map λb=>(z5 b,Ae b)):=by
  refine fH _ (λx hx y hy e=>?_) ((aQ _ _).map _) ?_
  ·obtain⟨a,_,rfl⟩:=vO hx;obtain⟨b,_,rfl⟩:=vO hy;rw[Hd e]
  ·exact List.pairwise_map.mpr (dS _ _)
 rw[List.zip_map',←key,uP];rfl
section
variable {ab:List D}(g:∀r∈ab,bQ r) (hl:ab.length<=30) (aa:Int) (hn:((bA (ak ab aa)).map (az 0)).Nodup)
include g hl hn
theorem z6 (cs:List Cl)(x0:cs.length<=60){ri:Nat}{r:D}(hr:ab[ri]? = some r)(kr:kindOf r∈eO)(hk:aT r<=aa):fj [.tup ab,.int aa,.lst (cs.map aV),.int ri]=lT ((Bo (ak ab aa) cs r ri).map Ae):=by
 have gr:=g r (vL hr);have wd:∀(ρ:DL.Env)(j:Nat),ρ[0]? = some (sF (.tup ab))->ρ[j]? = some (sF (.int ri))->fA aK (af (f2 bG (ai 0) (ai j)) aj) ρ=sF (.str (kindOf r)):=λρ j h0 h2=>aJ [r] (ce (b7 (.tup ab) (.int ri) (by simp[h0]) (by simp[h2]) (by simp[cC hr])) rfl) (jf gr.c);have Ib:cA [.tup ab,.int aa,.int ri]=sF (.bl true):=by
  obtain⟨a,k,aD,rfl,d⟩:=id gr;rw[kK hr aa,decide_eq_true (show a<=aa from hk)]
 have Vk:fg [.tup ab,.int aa,.int ri]=sF (.bl (decide (kindOf r∈[("paper" : Str),"like","copy"]))):=aw rfl (ay (dW (p:=true) (aJ [.tup ab,.int aa,.int ri] rfl Ib) λ_=>b7 (.str (kindOf r)) (.tup ([("paper" : Str),"like","copy"].map .str)) (wd _ 2 rfl rfl) rfl (jz _ _)));have hb:dZ [.tup ab,.int aa,.int ri]=sF (.bl true):=by
  refine(aw rfl (ay (qO (aJ [.tup ab,.int aa,.int ri] rfl (lZ hr gr)) λ_=>aJ [.tup ab,.int aa,.int ri] rfl Vk))).trans ?_;rw[decide_eq_true hk,Bool.true_and];have:∀k∈eO,(decide (k = "leave") || decide (k∈[("paper" : Str),"like","copy"]))=true:=by decide +kernel
  unfold ng;rw[this _ kr]
 have RE:decide (kindOf r = "copy")=false:=by
  have:∀k∈eO,decide (k = "copy")=false:=by decide +kernel
  exact this _ kr
 have P1:=CQ hl aa cs r ri;have vx:bw ((tu (ak ab aa) cs r ri).map Ae)=true:=bF λd hd=>by obtain⟨b,_,rfl⟩:=vO hd;exact Ha b
 refine aw rfl (aA (cF (p:=true) (cX (aJ [.tup ab,.int aa,.int ri] rfl hb))) (aA (bP (a:=kindOf r) (bb:=false) (wd _ 3 rfl rfl) RE) (c8 (ds:=(tu (ak ab aa) cs r ri).map Ae) ?_ vx (ay (He (b:=false) _ P1 (En hn cs r ri) rfl)))));have ho:=Ek g (by omega) aa hn cs x0 hr kr;have hv:=Em g (by omega) aa hr kr;refine iq (x:=.lst (((bA (ak ab aa)).filter (tq cs r)).map (Od cs r))) (y:=.lst (((p5 (ak ab aa) (cJ r)).filter (Bn r ri)).map λx=>.tup [.str "leave",.int x.2])) (b1:=true) (b2:=true) (aJ [.tup ab,.int aa,.lst (cs.map aV),.int ri] rfl ho) (aJ [.tup ab,.int aa,.int ri] rfl hv) ?_;have Sb:=P1;unfold tu at Sb ⊢;rw[uZ,vI,vI]at Sb;refine(if_pos (dD (by rw[vI,vI];omega))).trans ?_;rw[uW,uP,uP];rfl
end
def z7 (K:KL)(c r:D):Bool:=decide (cJ c=cJ r) || (!decide (kindOf r = "copy") && (bA K).any λv=>decide (jg v &&& jg r=jg r) && iU (bd K) (az 0 v) (az 3 v) (cJ c) (aE c))
theorem any_filter {α:Type}(l:List α)(p f:α->Bool):((l.filter p).map f).any id=l.any λx=>p x && f x:=by
 induction l with
 |nil=>rfl
 |cons x l ih=>
  rw[List.filter_cons,List.any_cons,←ih];cases h:p x with
  |true=>rw[if_pos rfl,uY,List.any_cons];rfl
  |false=>rw[if_neg (by decide)];rfl
theorem Of {ab:List D}(g:∀r∈ab,bQ r)(hl:ab.length<=60)(aa:Int)(bB:(bd (ak ab aa)).length<=60)(hn:((bA (ak ab aa)).map (az 0)).Nodup){ci ri:Nat}{c r:D}(hc:ab[ci]? = some c)(hr:ab[ri]? = some r)(kc:kindOf c = "call")(kr:kindOf r∈bU):
  lR [.tup ab,.int aa,.lst ((bd (ak ab aa)).map aV),.int ci,.int ri]=sF (.bl (z7 (ak ab aa) c r)):=by
 have gC:gF ab:=⟨hl,λr hr=>(g r hr).c⟩;have gc:=g c (vL hc);have gr:=g r (vL hr);have ac:=cC hc;have ar:=cC hr;have pc:=CN gc (iC (.inr kc));have pr:=CN gr (iC (.inl kr));have Sa:∀v∈bA (ak ab aa),bQ v/\aW v=true:=λv hv=>by
  obtain⟨x,hx,rfl⟩:=vO hv;obtain⟨h1,h2⟩:=vN hx;exact⟨g _ (vL (bf h1)),h2⟩
 have hrn:(bA (ak ab aa)).length<=60:=by
  unfold bA;rw[vI];exact vR (vM _ _) (vR (cw ab aa) hl)
 have j9:aR [c]=sF (.int (aE c)):=by
  have:=rJ gc.c;unfold tm at this;rwa [if_neg (by unfold aW;rw[kc];decide +kernel)]at this
 have WZ:∀(v7:OB),br (f2 fu (ai 6) (fA au (fV 5 (af (fS "by") aj)))) [sF (.tup ab),sF (.int aa),sF (.lst ((bd (ak ab aa)).map aV)),sF (.int ci),sF (.int ri),some (r,false),sF (.str (cJ c)),v7]=some (decide (cJ c=cJ r)):=λv7=>cX (b7 (.str (cJ c)) (.str (cJ r)) rfl (aJ [r,.str "by"] rfl pr) (by simp));have Xa:∀(v7:OB),br (f2 fu (fA aK (fV 5 aj)) (fS "copy")) [sF (.tup ab),sF (.int aa),sF (.lst ((bd (ak ab aa)).map aV)),sF (.int ci),sF (.int ri),some (r,false),sF (.str (cJ c)),v7]=some (decide (kindOf r = "copy")):=λv7=>bP (a:=kindOf r) (bb:=false) (aJ [r] rfl (jf gr.c)) rfl;refine aw rfl (fB r (b7 (.tup ab) (.int ri) rfl rfl (by simp[ar])) gr.flat (fB (.str (cJ c)) (aJ [c,.str "by"] (ce (b7 (.tup ab) (.int ci) rfl rfl (by simp[ac])) rfl) pc) rfl ?_));unfold z7;cases h1:decide (cJ c=cJ r) with
 |true=>exact b8 ((WZ none).trans (by rw[h1])) (ay rfl)
 |false=>
  refine aA ((WZ none).trans (by rw[h1])) ?_;cases h2:decide (kindOf r = "copy") with
  |true=>exact b8 ((Xa none).trans (by rw[h2])) (ay rfl)
  |false=>
   have kb:kindOf r∈eO:=by
    have nu:=of_decide_eq_false h2;have:∀k∈bU,k ≠ "copy"->k∈eO:=by decide +kernel
    exact this _ kr nu
   have pm:=xm gr kb;refine aA ((Xa none).trans (by rw[h2])) ?_;have Mn:=gA (fi:=qG (fA gm (fV 0 (fV 1 aj)))) (nT:=1) (cap:=[5]) (tg:=dM 0) (c:=br (fA iz (af (fA au (fV 0 (af (fS "matters") aj))) (af (fA au (fV 1 (af (fS "matters") aj))) aj)))) (fe:=ai 0)
    (ρ:=[sF (.tup ab),sF (.int aa),sF (.lst ((bd (ak ab aa)).map aV)),sF (.int ci),sF (.int ri),some (r,false),sF (.str (cJ c)),none]) (bA (ak ab aa)) id (λv=>decide (jg v &&& jg r=jg r)) id
    (by show(fA gm _ _).bind _=_;rw[aJ [.tup ab,.int aa] rfl (rT gC aa),sg hn];simp) (by omega) λv hv=>by
     obtain⟨gv,OG⟩:=Sa v hv;exact⟨[some (v,false),some (r,false)],rfl,cX (aJ [.int (jg v),.int (jg r)] (aF (aJ [v,.str "matters"] rfl (CL gv OG)) (aF (aJ [r,.str "matters"] rfl pm) rfl)) (vh _ _)),λ_=>⟨false,rfl⟩⟩
   rw[List.map_id]at Mn;refine c8 (ds:=(bA (ak ab aa)).filter λv=>decide (jg v &&& jg r=jg r)) Mn (bF λv hv=>(Sa v (vN hv).1).1.flat) (ay ?_);have HL:=qP (fi:=cy (ai 7)) (nT:=1) (cap:=[2,6,0,3]) (tg:=dM 0) (fe:=fA cM (fV 1 (fV 0 (fV 2 (af (fA aR (af (f2 bG (ai 3) (ai 4)) aj)) aj)))))
    (ρ:=[sF (.tup ab),sF (.int aa),sF (.lst ((bd (ak ab aa)).map aV)),sF (.int ci),sF (.int ri),some (r,false),sF (.str (cJ c)),lT ((bA (ak ab aa)).filter λv=>decide (jg v &&& jg r=jg r))]) ((bA (ak ab aa)).filter λv=>decide (jg v &&& jg r=jg r)) id (λv=>.bl (iU (bd (ak ab aa)) (az 0 v) (az 3 v) (cJ c) (aE c)))
    (by simp) (vR (vM _ _) (by omega)) λv hv=>by
     obtain⟨gv,OG⟩:=Sa v (vN hv).1;obtain⟨a,o,rl,m,f,rfl,_,_⟩:=se gv OG;exact⟨[some (row a ("root" : Str) [.str o,.int m,.int f,.str rl],false),sF (.lst ((bd (ak ab aa)).map aV)),sF (.str (cJ c)),sF (.tup ab),sF (.int ci)],rfl,false,aJ [.lst ((bd (ak ab aa)).map aV),row a ("root" : Str) [.str o,.int m,.int f,.str rl],.str (cJ c),.int (aE c)] (ce rfl (ce rfl (ce rfl (aF (aJ [c] (ce (b7 (.tup ab) (.int ci) rfl rfl (by simp[ac])) rfl) j9) rfl)))) (xh _ bB _ _)⟩
   refine(aJ [_] (aF HL rfl) ?_);show(sV _).map _=_;rw[yV,Option.map_some,any_filter];rfl
theorem Bp (g:bQ r)(h:kindOf r = "call"):∃a d b,∃n:Nat,r=row a ("call" : Str) [.int d,.str b,.int n]:=by
 obtain⟨a,k,aD,rfl,d⟩:=g;have hk:k = "call":=h;clear h;cases d with
 |copy k fP d b n=>subst hk;exact⟨a,d,b,n,rfl⟩
 |root=>exact cP hk
 |named=>exact cP hk
 |chosen=>exact cP hk
 |heir=>exact cP hk
 |three k fP=>rcases fP with rfl|rfl|rfl<;>exact cP hk
 |leave=>exact cP hk
 |paper k fP=>rcases fP with rfl|rfl<;>exact cP hk
def iM (ab:List D)(aa:Int)(ri:Nat)(r:D)(day:Int)(c:D):Bool:=decide (kindOf c = "call") && (decide (fR 2 c=ri) && (decide (aE c<=day) && (fm ab aa c && z7 (ak ab aa) c r)))
theorem Og (e:f ρ=some (.str a,bb)):br (f2 sT f (fS b)) ρ=some (!decide (a=b)):=cX (iq (x:=.str a) (y:=.str b) (b1:=bb) (b2:=false) e rfl (by simp))
section
variable {ab:List D}(g:∀r∈ab,bQ r) (hl:ab.length<=60) (aa:Int) (bB:(bd (ak ab aa)).length<=60) (hn:((bA (ak ab aa)).map (az 0)).Nodup)
include g hl bB hn
theorem z8 {ci ri:Nat}{c r:D}(hc:ab[ci]? = some c)(hr:ab[ri]? = some r)(kr:kindOf r∈bU)(day:Int):jJ [.tup ab,.int aa,.lst ((bd (ak ab aa)).map aV),.int ci,.int ri,.int day]=sF (.bl (iM ab aa ri r day c)):=by
 have gc:=g c (vL hc);have ac:=cC hc;have tw:br (f2 sT (fA aK (fV 6 aj)) (fS "call")) [sF (.tup ab),sF (.int aa),sF (.lst ((bd (ak ab aa)).map aV)),sF (.int ci),sF (.int ri),sF (.int day),some (c,false)]=some (!decide (kindOf c = "call")):=Og (a:=kindOf c) (bb:=false) (aJ [c] rfl (jf gc.c));refine aw rfl (fB c (b7 (.tup ab) (.int ci) rfl rfl (by simp[ac])) gc.flat ?_);unfold iM;by_cases hk:kindOf c = "call"
 ·obtain⟨a,d,b,n,ec⟩:=Bp gc hk;have e1:fR 2 c=(n:Int):=by rw[ec];rfl
  have e2:aE c=d:=by rw[ec];rfl
  have po:au [c,.str "of"]=sF (.int n):=by rw[ec];exact bq (i:=2) df rfl
  have pd:aR [c]=sF (.int d):=by
   have:=rJ gc.c;unfold tm at this;rwa [if_neg (by unfold aW;rw[hk];decide +kernel),e2]at this
  have t2:br (f2 sT (fA au (fV 6 (af (fS "of") aj))) (ai 4)) [sF (.tup ab),sF (.int aa),sF (.lst ((bd (ak ab aa)).map aV)),sF (.int ci),sF (.int ri),sF (.int day),some (c,false)]=some (!decide ((n:Int)=ri)):=cX (b7 (.int n) (.int ri) (aJ [c,.str "of"] rfl po) rfl (by simp));have t3:br (f2 HS (fA aR (fV 6 aj)) (ai 5)) [sF (.tup ab),sF (.int aa),sF (.lst ((bd (ak ab aa)).map aV)),sF (.int ci),sF (.int ri),sF (.int day),some (c,false)]=some (decide (day<d)):=cX (b7 (.int d) (.int day) (aJ [c] rfl pd) rfl rfl);have tt:=dr tw λ_=>dr t2 λ_=>t3;rw[e1,e2,decide_eq_true hk,Bool.true_and];rw[decide_eq_true hk]at tt;by_cases h1:(n:Int)=ri
  ·by_cases h2:d<=day
   ·rw[decide_eq_true h1,decide_eq_true h2,Bool.true_and,Bool.true_and];rw[decide_eq_true h1,decide_eq_false (by omega)]at tt;exact aA tt (ay (dW (aJ [.tup ab,.int aa,.int ci] rfl (rH ab (λr hr=>(g r hr).c.rp) (by omega) aa hc)) λ_=>aJ [.tup ab,.int aa,.lst ((bd (ak ab aa)).map aV),.int ci,.int ri] rfl (Of g hl aa bB hn hc hr hk kr)))
   ·rw[decide_eq_false h2,Bool.false_and,Bool.and_false];rw[decide_eq_true h1,decide_eq_true (show day<d by omega)]at tt;exact b8 tt (ay rfl)
  ·rw[decide_eq_false h1,Bool.false_and];rw[decide_eq_false h1]at tt;exact b8 tt (ay rfl)
 ·rw[decide_eq_false hk,Bool.false_and];refine b8 (dr (p:=true) (q:=false) (tw.trans (by rw[decide_eq_false hk];rfl)) λh=>by cases h) (ay rfl)
def jO (ab:List D)(aa:Int)(ri:Nat)(r:D)(day:Int):List Nat:=if aT r<=aa/\kindOf r∈bU then ((ak ab aa).filter λx=>iM ab aa ri r day x.1).map (·.2)else []
theorem z9 {ri:Nat}{r:D}(hr:ab[ri]? = some r)(day:Int):lS [.tup ab,.int aa,.lst ((bd (ak ab aa)).map aV),.int ri,.int day]=lT ((jO ab aa ri r day).map λn:Nat=>.int n):=by
 have gr:=g r (vL hr);have ar:=cC hr;have Ib:cA [.tup ab,.int aa,.int ri]=sF (.bl (decide (aT r<=aa))):=by
  obtain⟨a,k,aD,e,d⟩:=gr;rw[e]at hr;rw[show aT r=a by rw[e];rfl];exact kK hr aa
 have wd:∀ρ:DL.Env,ρ[0]? = some (sF (.tup ab))->ρ[2]? = some (sF (.int ri))->fA aK (af (f2 bG (ai 0) (ai 2)) aj) ρ=sF (.str (kindOf r)):=λρ h0 h2=>aJ [r] (ce (b7 (.tup ab) (.int ri) (by simp[h0]) (by simp[h2]) (by simp[ar])) rfl) (jf gr.c);have KJ:gb [.tup ab,.int aa,.int ri]=sF (.bl (decide (aT r<=aa) && decide (kindOf r = "leave"))):=aw rfl (ay (dW (aJ [.tup ab,.int aa,.int ri] rfl Ib) λ_=>b7 (.str (kindOf r)) (.str "leave") (wd _ rfl rfl) rfl (by simp)));have Vk:fg [.tup ab,.int aa,.int ri]=sF (.bl (decide (aT r<=aa) && decide (kindOf r∈[("paper" : Str),"like","copy"]))):=aw rfl (ay (dW (aJ [.tup ab,.int aa,.int ri] rfl Ib) λ_=>b7 (.str (kindOf r)) (.tup ([("paper" : Str),"like","copy"].map .str)) (wd _ rfl rfl) rfl (jz _ _)));have hb:dZ [.tup ab,.int aa,.int ri]=sF (.bl (decide (aT r<=aa/\kindOf r∈bU))):=by
  refine(aw rfl (ay (qO (aJ [.tup ab,.int aa,.int ri] rfl KJ) λ_=>aJ [.tup ab,.int aa,.int ri] rfl Vk))).trans ?_;congr 3;simp only[bU,List.mem_cons,List.not_mem_nil,or_false];by_cases h1:aT r<=aa
  ·simp[h1]
  ·simp[h1]
 unfold jO;by_cases hx:aT r<=aa/\kindOf r∈bU
 ·rw[if_pos hx];refine aw rfl (aA (cF (p:=true) (cX (aJ [.tup ab,.int aa,.int ri] rfl (by rw[hb,decide_eq_true hx])))) (ay ?_));have Sc:=gA (fi:=cy (fA cG (fV 0 (fV 1 aj)))) (nT:=1) (cap:=[0,1,2,3,4]) (tg:=dM 0) (c:=br (fA jJ (fV 1 (fV 2 (fV 3 (fV 0 (fV 4 (fV 5 aj)))))))) (fe:=ai 0)
   (ρ:=[sF (.tup ab),sF (.int aa),sF (.lst ((bd (ak ab aa)).map aV)),sF (.int ri),sF (.int day)]) (ak ab aa) (λx=>.int x.2) (λx=>iM ab aa ri r day x.1) (λx=>.int x.2)
   (by show(fA cG _ _).bind _=_;rw[aJ [.tup ab,.int aa] rfl (kI ab (λr hr=>(g r hr).c.rp) (by omega) aa)];rfl) (vR (cw ab aa) (by omega)) λx hx2=>by
    exact⟨_,rfl,cX (aJ [.tup ab,.int aa,.lst ((bd (ak ab aa)).map aV),.int x.2,.int ri,.int day] rfl (z8 g hl aa bB hn (bf hx2) hr hx.2 day)),λ_=>⟨false,rfl⟩⟩
  rw[uP];exact Sc
 ·rw[if_neg hx];exact aw rfl (b8 (cF (p:=false) (cX (aJ [.tup ab,.int aa,.int ri] rfl (by rw[hb,decide_eq_false hx])))) (ay (aJ [] rfl (jN _ (by simp)))))
omit bB in
end
noncomputable def gs:List Str:=[("paper" : Str),"like","copy"]
noncomputable def Hf (w:Str):Bs->D
 | (some o,n)=>.tup [.str "office",.str o,.int n]
 | (none,n)=>.tup [.str w,.int n]
def LO (r:D):Str:=if kindOf r = "copy" then ("copy" : Str)else ("leave" : Str)
theorem Eo (b:Bs):Hf ("leave" : Str) b=Ae b:=by rcases b with⟨_|o,n⟩<;>rfl
theorem Ep {ab:List D}{n:Nat}(h:ab.length<=n)(aa:Int):cA [.tup ab,.int aa,.int n]=sF (.bl false):=by
 refine aw rfl (ay (dW (p:=false) (q:=false) (b1:=false) ?_ λz=>by cases z));have h1:¬(n:Int)<ab.length:=by omega
 exact(yU (p:=true) (q:=false) (x:=.int 0) (y:=.int n) (z:=.int ab.length) (b1:=false) (b2:=false) (b3:=false) (b4:=false) rfl rfl (by simp) (by simp) λ_=>by simp[h1])
theorem Hg {ab:List D}{i:Nat}{r:D}(hr:ab[i]? = some r)(g:bQ r)(aa:Int):cA [.tup ab,.int aa,.int i]=sF (.bl (decide (aT r<=aa))):=by
 obtain⟨a,k,aD,rfl,d⟩:=g;exact kK hr aa
theorem CS {ab:List D}{i:Nat}{r:D}(hr:ab[i]? = some r)(g:bQ r){ρ:DL.Env}{j:Nat}(h0:ρ[0]? = some (sF (.tup ab)))(hj:ρ[j]? = some (sF (.int i))):fA aK (af (f2 bG (ai 0) (ai j)) aj) ρ=sF (.str (kindOf r)) :=
 aJ [r] (ce (b7 (.tup ab) (.int i) (by simp[h0]) (by simp[hj]) (by simp[cC hr])) rfl) (jf g.c)
theorem zA {ab:List D}{i:Nat}{r:D}(hr:ab[i]? = some r)(g:bQ r)(aa:Int):fg [.tup ab,.int aa,.int i]=sF (.bl (decide (aT r<=aa) && decide (kindOf r∈gs))) :=
 aw rfl (ay (dW (aJ [.tup ab,.int aa,.int i] rfl (Hg hr g aa)) λ_=>b7 (.str (kindOf r)) (.tup (gs.map .str)) (CS hr g rfl rfl) rfl (jz _ _)))
theorem zB {ab:List D}{i:Nat}{r:D}(hr:ab[i]? = some r)(g:bQ r)(aa:Int):dZ [.tup ab,.int aa,.int i]=sF (.bl (decide (aT r<=aa) && decide (kindOf r∈bU))):=by
 refine(aw rfl (ay (qO (aJ [.tup ab,.int aa,.int i] rfl (lZ hr g)) λ_=>aJ [.tup ab,.int aa,.int i] rfl (zA hr g aa)))).trans ?_;congr 3;unfold ng;simp only[bU,gs,List.mem_cons,List.not_mem_nil,or_false];by_cases h1:aT r<=aa
 ·simp[h1]
 ·simp[h1]
def nj (ab:List D)(aa:Int)(r:D)(ri n:Nat):Bool:=match ab[n]? with
 |none=>false
 |some q=>(decide (aT q<=aa) && decide (kindOf q∈gs)) && eN (q,n) (r,ri)
theorem sq (g:bQ r)(h:kindOf r = "copy"):∃a d b,∃n:Nat,r=row a ("copy" : Str) [.int d,.str b,.int n]:=by
 obtain⟨a,k,aD,rfl,d⟩:=g;have hk:k = "copy":=h;clear h;cases d with
 |copy k fP d b n=>subst hk;exact⟨a,d,b,n,rfl⟩
 |root=>exact cP hk
 |named=>exact cP hk
 |chosen=>exact cP hk
 |heir=>exact cP hk
 |three k fP=>rcases fP with rfl|rfl|rfl<;>exact cP hk
 |leave=>exact cP hk
 |paper k fP=>rcases fP with rfl|rfl<;>exact cP hk
theorem sr (h:kindOf r∈gs):aW r=false:=by
 have:∀k∈gs,decide (k = "root")=false:=by decide +kernel
 exact this _ h
theorem Er {ab:List D}(g:∀r∈ab,bQ r)(aa:Int){ri:Nat}{r:D}(hr:ab[ri]? = some r)(kc:kindOf r = "copy"):∃n:Nat,fR 2 r=n/\jI [.tup ab,.int aa,.int ri]=lT ((if nj ab aa r ri n=true then [((none,(n:Int)):Bs)]else []).map (Hf ("copy" : Str))):=by
 have gr:=g r (vL hr);obtain⟨a,d,b,n,er⟩:=sq gr kc;have nr:aW r=false:=sr (by rw[kc];decide +kernel);have po:au [r,.str "of"]=sF (.int n):=by rw[er];exact bq (i:=2) df rfl
 refine⟨n,by rw[er];rfl,?_⟩;let E:DL.Env:=[sF (.tup ab),sF (.int aa),sF (.int ri),sF (.int n)];refine aw rfl (fB (.int n) (aJ [r,.str "of"] (ce (b7 (.tup ab) (.int ri) rfl rfl (by simp[cC hr])) rfl) po) rfl ?_);have tt:dO (br (fA fg (fV 0 (fV 1 (fV 3 aj))))) (br (fA gd (fV 0 (fV 3 (fV 2 aj))))) E=some (nj ab aa r ri n):=by
  unfold nj;cases hq:ab[n]? with
  |none=>
   have hn:ab.length<=n:=List.getElem?_eq_none_iff.mp hq;exact eG (p:=false) (q:=false) (cX (aJ [.tup ab,.int aa,.int n] rfl (aw rfl (ay (dW (p:=false) (q:=false) (aJ [.tup ab,.int aa,.int n] rfl (Ep hn aa)) λz=>by cases z))))) λz=>by cases z
  |some q=>
   have gq:=g q (vL hq);exact eG (cX (aJ [.tup ab,.int aa,.int n] rfl (zA hq gq aa))) λh=>by
    rw[vC]at h;exact cX (aJ [.tup ab,.int n,.int ri] rfl (zy hq hr gq gr (sr (of_decide_eq_true h.2)) nr))
 cases hv:nj ab aa r ri n with
 |true=>
  rw[hv]at tt;rw[if_pos rfl];exact b8 tt (ay (aJ [.tup [.str "copy",.int n]] (ce (aJ [.str "copy",.int n] rfl (bI _ (by simp))) rfl) (jN _ (by simp))))
 |false=>
  rw[hv]at tt;rw[if_neg (by decide)];exact aA tt (ay (aJ [] rfl (jN _ (by simp))))
def pb (ab:List D)(aa:Int)(cs:List Cl)(x:D×Nat):List Bs:=if kindOf x.1 = "copy" then (if nj ab aa x.1 x.2 (fR 2 x.1).toNat=true then [(none,fR 2 x.1)]else [])else Bo (ak ab aa) cs x.1 x.2
section
variable {ab:List D}(g:∀r∈ab,bQ r) (hl:ab.length<=30) (aa:Int) (hn:((bA (ak ab aa)).map (az 0)).Nodup)
include g hl hn
theorem Ko (cs:List Cl)(x0:cs.length<=60){ri:Nat}{r:D}(hr:ab[ri]? = some r)(kr:kindOf r∈bU)(hk:aT r<=aa):fj [.tup ab,.int aa,.lst (cs.map aV),.int ri]=lT ((pb ab aa cs (r,ri)).map (Hf (LO r))):=by
 have gr:=g r (vL hr);unfold pb LO;by_cases kc:kindOf r = "copy"
 ·rw[if_pos kc,if_pos kc];obtain⟨n,e1,e2⟩:=Er g aa hr kc;rw[e1,Int.toNat_natCast];refine aw rfl (aA (cF (p:=true) (cX (aJ [.tup ab,.int aa,.int ri] rfl ((zB hr gr aa).trans (by rw[decide_eq_true hk,decide_eq_true kr];rfl))))) (b8 (bP (a:=kindOf r) (bb:=false) (CS hr gr rfl rfl) (decide_eq_true kc)) (ay (aJ [.tup ab,.int aa,.int ri] rfl e2))))
 ·rw[if_neg kc,if_neg kc];have kb:kindOf r∈eO:=by
   have:∀k∈bU,k ≠ "copy"->k∈eO:=by decide +kernel
   exact this _ kr kc
  rw[show Hf ("leave" : Str)=Ae from funext Eo];exact z6 g hl aa hn cs x0 hr kb hk
end
theorem Oh (e:f (mq ρ)=some (d,b))(k:h (ρ.set i (some (d,false)))=r):a8 (xQ i f) h ρ=r:=dU (ρ':=ρ.set i (some (d,false))) (by simp only[xQ,e,Option.map_some]) k
theorem CT (e:ρ[i]? = some (some (.dk ks vs,b))):jT i ρ=some (.rt (.dk ks vs) false):=by simp[jT,e]
noncomputable def kN (x:D×Nat):cx:=.inl (x.2:Int)
def tz (ab:List D)(aa day:Int)(x:D×Nat):Bool:=(fm ab aa x.1 && decide (aE x.1<=day)) && (jO ab aa x.2 x.1 day).isEmpty
theorem Kp {α:Type}(l:List α)(f:α->D):decide ((((l.map f).length:Nat):Int)=0)=l.isEmpty:=by
 cases l with
 |nil=>rfl
 |cons a l=>rw[uY,vE];exact decide_eq_false (by omega)
noncomputable def gM (ab:List D)(aa day:Int)(l:KL):KL:=l.filter λx=>decide (kindOf x.1∈bU) && tz ab aa day x
section
variable {ab:List D}(g:∀r∈ab,bQ r) (hl:ab.length<=30) (aa:Int) (hn:((bA (ak ab aa)).map (az 0)).Nodup)
include g hl hn
theorem Oi (bB:(bd (ak ab aa)).length<=60){ri:Nat}{r:D}(hr:ab[ri]? = some r)(kr:kindOf r∈bU)(day:Int):mM [.tup ab,.int aa,.lst ((bd (ak ab aa)).map aV),.int ri,.int day]=sF (.bl (tz ab aa day (r,ri))):=by
 have gr:=g r (vL hr);have nr:aW r=false:=by
  have:∀k∈bU,decide (k = "root")=false:=by decide +kernel
  exact this _ kr
 let E:DL.Env:=[sF (.tup ab),sF (.int aa),sF (.lst ((bd (ak ab aa)).map aV)),sF (.int ri),sF (.int day)];have t1:br (fA fZ (fV 0 (fV 1 (fV 3 aj)))) E=some (fm ab aa r):=cX (aJ [.tup ab,.int aa,.int ri] rfl (rH ab (λr hr=>(g r hr).c.rp) (by omega) aa hr));have t2:br (f2 HS (fA aR (af (f2 bG (ai 0) (ai 3)) aj)) (ai 4)) E=some (decide (day<aE r)):=cX (b7 (.int (aE r)) (.int day) (aJ [r] (ce (b7 (.tup ab) (.int ri) rfl rfl (by simp[cC hr])) rfl) (sk gr nr)) rfl rfl);have tt:=dr (cF t1) λ_=>t2;have e:(!fm ab aa r || decide (day<aE r)) = !(fm ab aa r && decide (aE r<=day)):=by
  rw[Bool.not_and];congr 1;rw[←decide_not];congr 1;rw[Int.not_le]
 rw[e]at tt;unfold tz;cases hA:(fm ab aa r && decide (aE r<=day)) with
 |false=>
  rw[hA]at tt;exact aw rfl (b8 tt (ay rfl))
 |true=>
  rw[hA]at tt;refine aw rfl (aA tt (ay ?_));rw[Bool.true_and,←Kp (jO ab aa ri r day) λn:Nat=>.int n];exact b7 (.int (((jO ab aa ri r day).map λn:Nat=>D.int n).length:Nat)) (.int 0) (aJ [.lst ((jO ab aa ri r day).map λn:Nat=>.int n)] (aF (aJ [.tup ab,.int aa,.lst ((bd (ak ab aa)).map aV),.int ri,.int day] rfl (z9 g (by omega) aa bB hn hr day)) rfl) rfl) rfl (by simp)
theorem zC (ho:(bX (ak ab aa)).length<=60)(day:Int):mN [.tup ab,.int aa,.int day]=sF (.dk ((gM ab aa day (bX (ak ab aa))).map kN) ((gM ab aa day (bX (ak ab aa))).map λx=>.lst ((pb ab aa (bd (ak ab aa)) x).map (Hf (LO x.1))))):=by
 have gC:gF ab:=⟨by omega,λr hr=>(g r hr).c⟩;obtain⟨ec,xy⟩:=Eh (ab:=ab) gC aa ho;have eL:dX [.tup ab,.int aa]=lT ((bX (ak ab aa)).map λx=>.int x.2):=oS gC aa;generalize x0:bd (ak ab aa)=cs at ec xy ⊢;have o0:∀x∈bX (ak ab aa),x∈ak ab aa:=λx hx=>(vN ((aQ _ _).mem_iff.mp hx)).1;have EH:((bX (ak ab aa)).map (·.2)).Nodup:=lb (cO ab aa);generalize bX (ak ab aa)=O at ho eL o0 EH ⊢;let vD:D×Nat->D:=λx=>.lst ((pb ab aa cs x).map (Hf (LO x.1)));let E:KL->OB->DL.Env:=λL v5=>[sF (.tup ab),sF (.int aa),sF (.int day),sF (.lst (cs.map aV)),some (.dk (L.map kN) (L.map vD),true),v5];obtain⟨ρ',e,v5,rfl⟩:=io (tg:=dM 5) (g:=zb) (λj ρ=>∃v5,ρ=E (gM ab aa day (O.take j)) v5) (O.map λx=>.int x.2) (E [] none) ⟨none,rfl⟩ (by
  rintro j d ρ hd ⟨v5,rfl⟩;rw[vA]at hd;obtain⟨x,hx,rfl⟩:=oY hd;have SN:=o0 x (vL hx);have hr:=bf SN;have Ib:aT x.1<=aa:=of_decide_eq_true (vN SN).2;have gx:=g x.1 (vL hr);have et:O.take (j+1)=O.take j++[x]:=by rw[List.take_add_one,hx];rfl
  have ef:gM ab aa day (O.take (j+1))=gM ab aa day (O.take j)++if(decide (kindOf x.1∈bU) && tz ab aa day x)=true then [x]else []:=by
   unfold gM;rw[et,List.filter_append,List.filter_cons];split<;>rfl
  have Xb:x.2∉(gM ab aa day (O.take j)).map (·.2):=by
   have h2:((O.take (j+1)).map (·.2)).Nodup:=List.Nodup.sublist (List.Sublist.map _ (List.take_sublist _ _)) EH;rw[et,uW,List.nodup_append]at h2;intro hm;obtain⟨y,hy,ey⟩:=vO hm;exact h2.2.2 _ (uS ⟨y,(vN hy).1,rfl⟩) _ (by simp) ey
  have ZB:(gM ab aa day (O.take j)).length<=60:=vR (vM _ _) (vR (List.length_take_le' _ _) ho);generalize gM ab aa day (O.take j)=L at ef Xb ZB;let F:DL.Env:=E L (sF (.int x.2));have t1:br (fA dZ (fV 0 (fV 1 (fV 5 aj)))) F=some (decide (kindOf x.1∈bU)):=cX (aJ [.tup ab,.int aa,.int x.2] rfl ((zB hr gx aa).trans (by rw[decide_eq_true Ib,Bool.true_and])));have tt:=eG t1 λh=>cX (f:=fA mM (fV 0 (fV 1 (fV 3 (fV 5 (fV 2 aj)))))) (aJ [.tup ab,.int aa,.lst (cs.map aV),.int x.2,.int day] rfl (by rw[←x0];exact Oi g hl aa hn (by rw[x0];exact xy) hr (of_decide_eq_true h) day));refine⟨F,E (L++if(decide (kindOf x.1∈bU) && tz ab aa day x)=true then [x]else []) (sF (.int x.2)),rfl,.inl (QR tt (λh=>?_) λh=>?_),sF (.int x.2),by rw[ef]⟩
  ·rw[if_pos h];have kb:kindOf x.1∈bU:=by rw[vC]at h;exact of_decide_eq_true h.1
   have OH:qI 4 (ai 5) (fA fj (fV 0 (fV 1 (fV 3 (fV 5 aj))))) F=some (.nx (F.set 4 (some (.dk (dJ (L.map kN) (kN x)) (dL (L.map kN) (L.map vD) (kN x) (vD x)),true)))):=by
    have ev:fA fj (fV 0 (fV 1 (fV 3 (fV 5 aj)))) (mq F)=some (vD x,true):=aJ [.tup ab,.int aa,.lst (cs.map aV),.int x.2] rfl (Ko g hl aa hn cs xy hr kb Ib);show((fA fj _ (mq F)).bind _)=_;rw[ev];simp only[vJ];exact if_pos (c:=(L.map kN).length<sizeLine) (bO (by rw[vI];omega))
   rw[OH];have hk:kN x∉L.map kN:=λhm=>by
    obtain⟨y,hy,ey⟩:=vO hm;exact Xb (uS ⟨y,hy,by have:=Sum.inl.inj (show(Sum.inl (y.2:Int):cx)=Sum.inl (x.2:Int)from ey);omega⟩)
   unfold dJ dL;rw[if_neg hk,if_neg hk];simp[F,E]
  ·rw[h,if_neg (by decide),uQ];rfl)
 rw[vI,List.take_length]at e;exact aw rfl (Oh (aJ [.tup ab,.int aa] rfl ec) (dU (ρ':=E [] none) rfl (dU (kW (ds:=O.map λx=>.int x.2) (by show(fA dX _ _).bind _=_;rw[aJ [.tup ab,.int aa] rfl eL];rfl) e) (CT (b:=true) rfl))))
end
noncomputable def nK (n:Nat):cx:=.inl (n:Int)
noncomputable def Af:Nat->D:=λ_=>.bl true
noncomputable def gG (S:List Nat)(b:Bs):Bool:=b.1.isSome || S.any λn=>decide ((n:Int)=b.2)
noncomputable def cI (S:List Nat)(p:Nat×List Bs):List Nat:=if p.2.any (gG S)=true then S++[p.1]else S
noncomputable def cD (l:List (Nat×List Bs)):List Nat:=l.foldl cI []
theorem su (n:Int):∀S:List Nat,(c6 (S.map nK) (S.map Af) (.inl n)).isSome=S.any λm=>decide ((m:Int)=n)
 |[]=>rfl
 |m::S=>by
  rw[uY,uY,c6,List.any_cons];by_cases h:(m:Int)=n
  ·rw[if_pos (show nK m=.inl n by unfold nK;rw[h]),decide_eq_true h];rfl
  ·rw[if_neg (show ¬nK m=.inl n from λz=>h (Sum.inl.inj z)),decide_eq_false h,su n S];rfl
theorem Hh (hw:decide (w=("office" : Str))=false)(S:List Nat)(b:Bs):mO [Hf w b,.dk (S.map nK) (S.map Af)]=sF (.bl (gG S b)):=by
 unfold gG;rcases b with⟨_|o,n⟩
 ·refine aw rfl (ay (qO (p:=false) (b1:=false) (b7 (.str w) (.str "office") rfl rfl (by simp[of_decide_eq_false hw])) λ_=>b7 (.int n) (.dk (S.map nK) (S.map Af)) rfl rfl ?_));show some (D.bl (c6 (S.map nK) (S.map Af) (.inl n)).isSome,false)=_;rw[su]
 ·exact aw rfl (ay (qO (p:=true) (q:=S.any λm=>decide ((m:Int)=n)) (b1:=false) (b7 (.str "office") (.str "office") rfl rfl (by simp)) λh=>by cases h))
theorem any_map {α:Type}(l:List α)(f:α->Bool):FJ [.lst (l.map λx=>.bl (f x))]=sF (.bl (l.any f)):=by
 show(sV _).map _=_;rw[yV,Option.map_some,List.any_map];rfl
theorem zD (h:m∈cI S p):m∈S∨m=p.1:=by
 unfold cI at h;split at h
 ·simpa using h
 ·exact .inl h
theorem oj:∀(l:List (Nat×List Bs))(S:List Nat)(m:Nat),m∈l.foldl cI S->m∈S∨m∈l.map (·.1)
 |[],_,_,h=>.inl h
 |p::l,S,m,h=>by
  rcases oj l _ m h with h|h
  ·rcases zD h with h|rfl
   ·exact .inl h
   ·exact .inr (by simp)
  ·exact .inr (mZ _ h)
abbrev Rs:=Nat×Str×List Bs
noncomputable def xp (p:Rs):D:=.lst (p.2.2.map (Hf p.2.1))
noncomputable def sv (p:Rs):Nat×List Bs:=(p.1,p.2.2)
theorem sw (l:List Rs)(hl:l.length<=60)(hw:∀p∈l,decide (p.2.1 = "office")=false)(hb:∀p∈l,p.2.2.length<=100)(hn:(l.map (·.1)).Nodup):jK [.dk (l.map λp=>nK p.1) (l.map xp)]=sF (.dk ((cD (l.map sv)).map nK) ((cD (l.map sv)).map Af)):=by
 let E:List Nat->OB->OB->DL.Env:=λS v2 v3=>[sF (.dk (l.map λp=>nK p.1) (l.map xp)),some (.dk (S.map nK) (S.map Af),true),v2,v3];have B8:jb (l.map λp=>nK p.1) (l.map xp)=l.map λp=>.tup [.int (p.1:Int),xp p]:=by
  unfold jb;rw[List.zip_map',uP];rfl
 obtain⟨ρ',e,v2,v3,rfl⟩:=io (tg:=L4 [2,3]) (g:=zc) (λj ρ=>∃v2 v3,ρ=E (cD ((l.take j).map sv)) v2 v3) (l.map λp=>.tup [.int (p.1:Int),xp p]) (E [] none none) ⟨none,none,rfl⟩ (by
  rintro j d ρ hd ⟨v2,v3,rfl⟩;rw[vA]at hd;obtain⟨p,hp,rfl⟩:=oY hd;have SF:=vL hp;have et:l.take (j+1)=l.take j++[p]:=by rw[List.take_add_one,hp];rfl
  have es:cD ((l.take (j+1)).map sv)=cI (cD ((l.take j).map sv)) (sv p):=by
   rw[et,uW];unfold cD;rw[List.foldl_append];rfl
  have Pq:p.1∉cD ((l.take j).map sv):=λhm=>by
   have h2:((l.take (j+1)).map (·.1)).Nodup:=List.Nodup.sublist (List.Sublist.map _ (List.take_sublist _ _)) hn;rw[et,uW,List.nodup_append]at h2;rcases oj _ _ _ hm with h|h
   ·cases h
   ·rw[uP]at h;exact h2.2.2 _ h _ (by simp) rfl
  have Mg:(cD ((l.take j).map sv)).length<=60:=by
   have:∀(q:List (Nat×List Bs))(S:List Nat),(q.foldl cI S).length<=S.length+q.length:=λq=>by
    induction q with
    |nil=>intro S;exact vT _
    |cons a q ih=>
     intro S;refine vR (ih _) ?_;unfold cI;split
     ·rw[uZ,vE,List.length_nil,vE];omega
     ·rw[vE];omega
   have h3:=this ((l.take j).map sv) [];rw[vI,List.length_take,List.length_nil]at h3;exact vR h3 (by omega)
  generalize cD ((l.take j).map sv)=S at es Pq Mg;let F:DL.Env:=E S (sF (.int (p.1:Int))) (some (xp p,false));have hc:=qP (fi:=cy (ai 3)) (nT:=1) (cap:=[1]) (tg:=dM 0) (fe:=fA mO (fV 0 (fV 1 aj))) (ρ:=F) p.2.2 (Hf p.2.1) (λb=>.bl (gG S b)) rfl (by have:=hb p SF;omega) λb _=>⟨[some (Hf p.2.1 b,false),sF (.dk (S.map nK) (S.map Af))],rfl,false,aJ [Hf p.2.1 b,.dk (S.map nK) (S.map Af)] rfl (Hh (hw p SF) S b)⟩;have t1:br (fA FJ (af (bH (cy (ai 3)) 1 [1] (dM 0) jm (fA mO (fV 0 (fV 1 aj)))) aj)) F=some (p.2.2.any (gG S)):=cX (aJ [.lst (p.2.2.map λb=>.bl (gG S b))] (aF hc rfl) (any_map _ _));refine⟨F,E (cI S (sv p)) (sF (.int (p.1:Int))) (some (xp p,false)),rfl,.inl (QR t1 (λh=>?_) λh=>?_),_,_,by rw[es]⟩
  ·have hk:nK p.1∉S.map nK:=λhm=>by
    obtain⟨y,hy,ey⟩:=vO hm;have:=Sum.inl.inj (show(Sum.inl (y:Int):cx)=Sum.inl (p.1:Int)from ey);exact Pq (by rw[show p.1=y by omega];exact hy)
   have OH:yO 1 (ai 2) (fC (.bl true)) F=some (.nx (F.set 1 (some (.dk (dJ (S.map nK) (nK p.1)) (dL (S.map nK) (S.map Af) (nK p.1) (.bl true)),true)))):=if_pos (c:=bi (.bl true)=true/\(S.map nK).length<sizeLine) ⟨rfl,bO (by rw[vI];omega)⟩;rw[OH];unfold dJ dL cI;rw[if_neg hk,if_neg hk,if_pos (show(sv p).2.any (gG S)=true from h)];simp[F,E,sv,Af]
  ·unfold cI;rw[if_neg (show ¬(sv p).2.any (gG S)=true by show ¬p.2.2.any (gG S)=true;rw[h];decide)];rfl)
 rw[vI,List.take_length]at e;exact aw rfl (dU (ρ':=E [] none none) rfl (dU (kW (ds:=l.map λp=>.tup [.int (p.1:Int),xp p]) (by show some (jb _ _)=_;rw[B8]) e) (CT (b:=true) rfl)))
theorem vj:∀S:List Nat,uA (S.map nK)=some (S.map λ(n:Nat)=>(n:Int))
 |[]=>rfl
 |n::S=>by
  show(uA (S.map nK)).map _=_;rw[vj S];rfl
theorem zE {α β:Type}(g:α->β)(f:β->List Int)(x:α):∀l:List α,nL f (g x) (l.map g)=(nL (λa=>f (g a)) x l).map g
 |[]=>rfl
 |y::r=>by
  rw[uY,nL,nL];split
  ·rw[uY,zE g f x r]
  ·rfl
theorem vk {α β:Type}(g:α->β)(f:β->List Int):∀l:List α,dB f (l.map g)=(dB (λa=>f (g a)) l).map g
 |[]=>rfl
 |x::l=>by
  show nL f (g x) (dB f (l.map g))=(nL (λa=>f (g a)) x (dB (λa=>f (g a)) l)).map g;rw[vk g f l,zE]
theorem Hi (n:Int)(S:List Nat):HU (.int n) (S.map λ(m:Nat)=>D.int (m:Int))=S.any λm=>decide ((m:Int)=n):=by
 unfold HU;induction S with
 |nil=>rfl
 |cons m S ih=>
  rw[uY,List.any_cons,ih,List.any_cons];by_cases h:(m:Int)=n
  ·simp[h]
  ·simp[h,Ne.symm h]
def iE (ab:List D)(aa:Int)(x:D×Nat):List Bs:=pb ab aa (bd (ak ab aa)) x
def bC (ab:List D)(aa day:Int):List Nat:=cD ((gM ab aa day (bX (ak ab aa))).map λx=>(x.2,iE ab aa x))
def bJ (S:List Nat):List D:=(mC (S.map λ(n:Nat)=>(n:Int))).map .int
theorem Hj (r:D):decide (LO r = "office")=false:=by
 unfold LO;split
 ·decide +kernel
 ·decide +kernel
theorem Es (S:List Nat)(h:S.length<=60):iO [.lst (S.map λ(n:Nat)=>.int (n:Int))]=lT (bJ S):=by
 cases S with
 |nil=>rfl
 |cons n S=>
  have h1:g7 ((n::S).map λ(n:Nat)=>D.int (n:Int))=none:=rfl;have h2:∀l:List Nat,oC (l.map λ(n:Nat)=>D.int (n:Int))=some (l.map λ(n:Nat)=>(n:Int)):=λl=>by
   induction l with
   |nil=>rfl
   |cons a l ih=>rw[uY,oC,ih];rfl
  unfold iO;simp only[h1,h2 (n::S)];rw[if_pos (by rw[vI];omega)];rfl
theorem Bq (K:KL)(hK:(K.map (·.2)).Nodup)(q:D×Nat->Bool)(hq:∀x,q x=true->aW x.1=false):dB (λx=>cz (kA x)) (K.filter q)=(bX K).filter q:=by
 refine(fH (λx=>cz (kA x)) (λx hx y hy e=>oe (·.2) hK (vN hx).1 (vN hy).1 (Bg e)) ?_ (List.Pairwise.filter _ (dS _ _))).symm;refine((aQ _ _).filter q).trans ?_;rw[List.filter_filter];have:(K.filter λx=>q x && !aW x.1)=K.filter q:=by
  congr 1;funext x;cases h:q x with
  |false=>rfl
  |true=>rw[hq x h];rfl
 rw[this]
section
variable {ab:List D}(g:∀r∈ab,bQ r) (hl:ab.length<=30) (aa:Int) (hn:((bA (ak ab aa)).map (az 0)).Nodup) (ho:(bX (ak ab aa)).length<=60)
include hl
theorem zF (x:D×Nat):(iE ab aa x).length<=60:=by
 unfold iE pb;split
 ·split
  ·exact(by decide:1<=60)
  ·exact uN _
 ·unfold Bo;rw[(aQ _ _).length_eq];exact CQ hl aa _ _ _
theorem om (day:Int):(bC ab aa day).length<=60:=by
 have:∀(q:List (Nat×List Bs))(S:List Nat),(q.foldl cI S).length<=S.length+q.length:=λq=>by
  induction q with
  |nil=>intro S;exact vT _
  |cons a q ih=>
   intro S;refine vR (ih _) ?_;unfold cI;split
   ·rw[uZ,vE,List.length_nil,vE];omega
   ·rw[vE];omega
 have h3:=this ((gM ab aa day (bX (ak ab aa))).map λx=>(x.2,iE ab aa x)) [];have h4:(bX (ak ab aa)).length<=30:=by
  unfold bX;rw[(aQ _ _).length_eq];exact vR (vM _ _) (vR (cw ab aa) hl)
 have h5:(gM ab aa day (bX (ak ab aa))).length<=30:=vR (vM _ _) h4;rw[vI,List.length_nil]at h3;exact vR h3 (by omega)
include g hn ho
theorem zG (day:Int):cB [.tup ab,.int aa,.int day]=lT (bJ (bC ab aa day)):=by
 have el:=zC g hl aa hn ho day;have h4:(gM ab aa day (bX (ak ab aa))).length<=60:=vR (vM _ _) ho;have es:=sw ((gM ab aa day (bX (ak ab aa))).map λx=>(x.2,LO x.1,iE ab aa x)) (by rw[vI];exact h4)
  (λp hp=>by obtain⟨x,_,rfl⟩:=vO hp;exact Hj _) (λp hp=>by obtain⟨x,_,rfl⟩:=vO hp;exact vR (zF hl aa x) (by decide))
  (by rw[uP];exact List.Nodup.sublist (List.Sublist.map _ List.filter_sublist) (lb (cO ab aa)))
 rw[uP,uP,uP]at es;refine aw rfl (ay (aJ [_] (aF (aJ [_] (aF (aJ [.tup ab,.int aa,.int day] rfl el) rfl) es) rfl) ?_));show(uA ((bC ab aa day).map nK)).bind _=_;rw[vj,vJ,if_pos (by rw[vI];have:=om hl aa day;omega)];rfl
end
def jP (ab:List D)(aa day:Int):List Rs:=(gM ab aa day (bX (ak ab aa))).map λx=>(x.2,LO x.1,iE ab aa x)
def Oj (p:Rs):D:=.tup [.int (p.1:Int),xp p]
noncomputable def LP (n:Nat)(p:Rs):Bool:=!decide (p.1=n)
def fM (n:Nat)(l:List Rs):List Nat:=cD ((l.filter (LP n)).map sv)
def vn (n:Nat)(l:List Rs):List Nat:=(cD (l.map sv)).filter λm=>!decide (m∈fM n l)
theorem CU (n:Nat)(S:List Nat):(S.any λm=>decide ((m:Int)=(n:Int)))=decide (n∈S):=by
 rw[Bool.eq_iff_iff,List.any_eq_true,decide_eq_true_iff];constructor
 ·rintro⟨m,h,e⟩;have:=of_decide_eq_true e;rw[show n=m by omega];exact h
 ·exact λh=>⟨n,h,decide_eq_true rfl⟩
theorem Hk {α:Type}{l:List α}{f:α->Nat}(h:(l.map f).Nodup):(l.map λx=>nK (f x)).Nodup:=by
 refine List.pairwise_map.mpr ((List.pairwise_map.mp h).imp λh e=>h ?_);have:=Sum.inl.inj (show(Sum.inl _:cx)=Sum.inl _ from e);omega
theorem zH:∀l:List Rs,fY (l.map Oj)=some (l.map λp=>(nK p.1,xp p))
 |[]=>rfl
 |p::l=>by
  show((jW (.int (p.1:Int))).bind λkk=>(fY (l.map Oj)).map λr=>(kk,xp p)::r)=_;rw[zH l];rfl
theorem Et (l:List Rs)(hn:(l.map (·.1)).Nodup):gS [.lst (l.map Oj)]=sF (.dk (l.map λp=>nK p.1) (l.map xp)):=by
 show(fY _).map _=_;rw[zH,Option.map_some];have e:=sf (l.map λp=>(nK p.1,xp p)) ([],[]) (by rw[List.nil_append,uP];exact Hk hn);unfold bR;rw[e];simp[uP,Function.comp_def]
theorem zI:∀(q:List (Nat×List Bs))(S:List Nat),(q.foldl cI S).length<=S.length+q.length
 |[],_=>vT _
 |a::q,S=>by
  refine vR (zI q _) ?_;unfold cI;split
  ·rw[uZ,vE,List.length_nil,vE];omega
  ·rw[vE];omega
theorem Br (q:List (Nat×List Bs)):(cD q).length<=q.length:=by have:=zI q [];rw[List.length_nil]at this;unfold cD;omega
theorem Hl (n:Nat)(S:List Nat):(c6 (S.map nK) (S.map Af) (.inl (n:Int))).isSome=decide (n∈S):=by rw[su,CU]
theorem Kq (a b:Nat):sT (.int (a:Int)) (.int (b:Int))=sF (.bl (!decide (a=b))):=by
 unfold sT;rw[if_pos ⟨by simp[aq],by simp[aq]⟩];by_cases h:a=b
 ·subst h;simp
 ·have:¬(a:Int)=b:=by omega
  simp[h,this]
section
variable {ab:List D}(g:∀r∈ab,bQ r) (hl:ab.length<=30) (aa:Int) (hn:((bA (ak ab aa)).map (az 0)).Nodup) (ho:(bX (ak ab aa)).length<=60)
theorem vp (day:Int):((jP ab aa day).map (·.1)).Nodup:=by
 unfold jP;rw[uP];exact List.Nodup.sublist (List.Sublist.map _ List.filter_sublist) (lb (cO ab aa))
theorem QZ (day:Int):∀p∈jP ab aa day,decide (p.2.1 = "office")=false:=λp hp=>by obtain⟨x,_,rfl⟩:=vO hp;exact Hj _
include ho in
theorem Kr (day:Int):(jP ab aa day).length<=60:=by unfold jP;rw[vI];exact vR (vM _ _) ho
include hl in
theorem Ra (day:Int):∀p∈jP ab aa day,p.2.2.length<=100:=λp hp=>by obtain⟨x,_,rfl⟩:=vO hp;exact vR (zF hl aa x) (by decide)
include g hl hn ho
theorem Bt (day:Int)(n:Nat):nR [.tup ab,.int aa,.int day,.int (n:Int)]=lT (bJ (vn n (jP ab aa day))):=by
 have e1:mN [.tup ab,.int aa,.int day]=sF (.dk ((jP ab aa day).map λp=>nK p.1) ((jP ab aa day).map xp)):=by
  rw[zC g hl aa hn ho day];unfold jP;rw[uP,uP];rfl
 have hL:=Kr aa ho day;have hw:=QZ (ab:=ab) aa day;have hb:=Ra hl aa day;have EH:=vp (ab:=ab) aa day;generalize jP ab aa day=l at e1 hL hw hb EH;let A:D:=.dk (l.map λp=>nK p.1) (l.map xp);let E1:DL.Env:=[sF (.tup ab),sF (.int aa),sF (.int day),sF (.int n),sF A,none];have B8:jb (l.map λp=>nK p.1) (l.map xp)=l.map Oj:=by
  unfold jb;rw[List.zip_map',uP];rfl
 have hc:=gA (fi:=pF (ai 4)) (nT:=2) (cap:=[3]) (tg:=L4 [0,1]) (c:=br (f2 sT (ai 0) (ai 2))) (fe:=fA aP (fV 0 (fV 1 aj))) (ρ:=E1) l Oj (LP n) Oj (by show some (jb _ _)=_;rw[B8]) (by omega) λp _=>⟨[sF (.int p.1),some (xp p,false),sF (.int n)],rfl,cX (b7 (.int p.1) (.int n) rfl rfl (Kq _ _)),λ_=>⟨false,aJ [.int p.1,xp p] rfl (bI _ (by simp))⟩⟩;have vx:(l.filter (LP n)).length<=60:=vR (vM _ _) hL;have Pg:((l.filter (LP n)).map (·.1)).Nodup:=List.Nodup.sublist (List.Sublist.map _ List.filter_sublist) EH;have e2:=sw (l.filter (LP n)) vx (λp hp=>hw p (vN hp).1) (λp hp=>hb p (vN hp).1) Pg;have e3:=sw l hL hw hb EH;let E2:DL.Env:=[sF (.tup ab),sF (.int aa),sF (.int day),sF (.int n),sF A,sF (.dk ((fM n l).map nK) ((fM n l).map Af))];have Mg:(cD (l.map sv)).length<=60:=vR (Br _) (by rw[vI];exact hL);have Ag:=gA (fi:=AY (fA jK (fV 4 aj))) (nT:=1) (cap:=[5]) (tg:=dM 0) (c:=br (f2 qA (ai 0) (ai 1))) (fe:=ai 0) (ρ:=E2) (cD (l.map sv)) (λ(m:Nat)=>.int (m:Int)) (λm=>!decide (m∈fM n l)) (λ(m:Nat)=>.int (m:Int)) (by
   show(fA jK _ _).bind _=_;rw[aJ [A] rfl e3,vJ];show some (((cD (l.map sv)).map nK).map kD)=_;rw[uP];rfl) (by omega) λm _=>⟨[sF (.int m),sF (.dk ((fM n l).map nK) ((fM n l).map Af))],rfl,cX (b7 (.int m) (.dk ((fM n l).map nK) ((fM n l).map Af)) rfl rfl (by show some (D.bl (!(c6 ((fM n l).map nK) ((fM n l).map Af) (.inl (m:Int))).isSome),false)=_;rw[Hl])),λ_=>⟨false,rfl⟩⟩
 have UW:(vn n l).length<=60:=vR (vM _ _) Mg;refine aw rfl (QQ (d:=A) (b:=false) (aJ [.tup ab,.int aa,.int day] rfl e1) (by simp[A,bi]) (.inl rfl) (QQ (d:=.dk ((fM n l).map nK) ((fM n l).map Af)) (b:=false) (aJ [.dk ((l.filter (LP n)).map λp=>nK p.1) ((l.filter (LP n)).map xp)] (aF (b:=false) (aJ [.lst ((l.filter (LP n)).map Oj)] (aF hc rfl) (Et _ Pg)) rfl) e2) (by simp[bi]) (.inl rfl) (ay (aJ [.lst ((vn n l).map λ(m:Nat)=>.int (m:Int))] (aF Ag rfl) (Es _ UW)))))
end
def vq (c:D):Prop:=aW c=false/\ng c=false/\kindOf c ≠ "death"/\kindOf c∉rV/\∀ws p d,(∀w∈ws,cN w=true)->told ws p d c=false
theorem j6 {a:Int}{k:Str}{q:List D}(h:k = "call" ∨ k = "paper"):vq (row a k q):=by
 refine⟨?_,?_,?_,?_,λws p d hw=>?_⟩
 ·show decide (k = "root")=false;rcases h with rfl|rfl<;>decide +kernel
 ·show decide (k = "leave")=false;rcases h with rfl|rfl<;>decide +kernel
 ·show ¬k = "death";rcases h with rfl|rfl<;>decide +kernel
 ·show ¬k∈rV;rcases h with rfl|rfl<;>decide +kernel
 ·show(decide (k∈ws) && rA p d q)=false;rw[decide_eq_false λz=>?_]
  ·rfl
  ·have:=hw k z;rcases h with rfl|rfl<;>exact cP this
theorem gg (ab:List D)(c:D){aa:Int}(h:aT c<=aa):ak (ab++[c]) aa=ak ab aa++[(c,ab.length)]:=by
 unfold ak;rw[List.zipIdx_append,List.filter_append];simp[h]
section
variable {K:KL}{c:D}{N:Nat}
theorem ft {f:D×Nat->Bool}(h:f (c,N)=false):(K++[(c,N)]).filter f=K.filter f:=by rw[List.filter_append];simp[h]
variable (q:vq c)
include q
theorem oq (p:Str)(d:Int):kM (K++[(c,N)]) p d=kM K p d:=by unfold kM;rw[ft (q.2.2.2.2 _ _ _ fJ)]
theorem zJ (p:Str)(d:Int):zk (K++[(c,N)]) p d=zk K p d:=by unfold zk;rw[ft (q.2.2.2.2 _ _ _ kJ)]
theorem Eu (r:D):lX (K++[(c,N)]) r=lX K r:=by unfold lX;rw[oq q,zJ q]
theorem ot:bA (K++[(c,N)])=bA K:=by unfold bA;rw[ft q.1]
theorem Hm:dm (K++[(c,N)])=dm K:=by
 have h1:∀so x,cj (K++[(c,N)]) so x=cj K so x:=λso x=>by
  unfold cj gL zi lB;rw[ft (q.2.2.2.2 _ _ _ fJ),ft q.1,Eu q]
 have h2:∀so hk hv p d n,mU (K++[(c,N)]) so hk hv p d n=mU K so hk hv p d n:=λso hk hv p d n=>by
  unfold mU;congr 1;funext o;unfold dH;simp only[oq q]
 funext st x;unfold dm;rw[h1,h2]
theorem CV (hK:(K.map (·.2)).Nodup)(hN:∀x∈K,x.2≠N):(bX (K++[(c,N)])).filter (λx=>!decide (x.2=N))=bX K:=by
 have nd:((K++[(c,N)]).map (·.2)).Nodup:=by
  rw[uW,List.nodup_append];refine⟨hK,by simp,λa ha b hb=>?_⟩;obtain⟨x,hx,rfl⟩:=vO ha;rw[List.map_singleton,List.mem_singleton]at hb;subst hb;exact hN x hx
 have e:=Bq (K++[(c,N)]) nd (λx=>!decide (x.2=N) && !aW x.1) λx h=>by
  rw[vC]at h;simpa using h.2
 rw[ft (by simp)]at e;have e1:K.filter (λx=>!decide (x.2=N) && !aW x.1)=K.filter λx=>!aW x.1:=List.filter_congr λx hx=>by simp[hN x hx]
 have e2:(bX (K++[(c,N)])).filter (λx=>!decide (x.2=N) && !aW x.1)=(bX (K++[(c,N)])).filter λx=>!decide (x.2=N):=List.filter_congr λx hx=>by
  have:=(vN ((aQ _ _).mem_iff.mp hx)).2;rw[this,Bool.and_true]
 rw[e1,e2]at e;exact e.symm
omit q in
theorem ma {α β:Type}(f:β->α->β)(p:α->Bool):∀(l:List α)(s:β),(∀x∈l,p x=false->∀s,f s x=s)->l.foldl f s=(l.filter p).foldl f s
 |[],_,_=>rfl
 |x::l,s,h=>by
  rw[List.filter_cons];cases e:p x with
  |true=>exact ma f p l _ λy hy=>h y (mZ _ hy)
  |false=>
   rw[List.foldl_cons,h x mX e];exact ma f p l s λy hy=>h y (mZ _ hy)
theorem Bu (hK:(K.map (·.2)).Nodup)(hN:∀x∈K,x.2≠N):bd (K++[(c,N)])=bd K:=by
 unfold bd lC;rw[Hm q,ma (dm K) (λx=>!decide (x.2=N)) _ _ λx hx e st=>?_,CV q hK hN];have hm:=(vN ((aQ _ _).mem_iff.mp hx)).1;have e':x.2=N:=by simpa using e
 rcases List.mem_append.mp hm with h|h
 ·exact absurd e' (hN x h)
 ·rw[List.mem_singleton]at h;subst h;unfold dm cj;rw[if_neg q.2.2.1,if_neg q.2.2.2.1];rfl
end
section
variable {ab:List D}{aa:Int}{c:D}(q:vq c) (hc:aT c<=aa)
theorem Hn (h:x∈ak ab aa):x.2<ab.length:=(vV (bf h)).1
theorem zK:∀x∈ak ab aa,x.2≠ab.length:=λ_ h=>vS (Hn h)
include q hc
theorem zL (r:D):fm (ab++[c]) aa r=fm ab aa r:=by
 unfold fm;rw[xj,GL,xj,GL,gg ab c hc,oq q,zJ q]
theorem CW:bd (ak (ab++[c]) aa)=bd (ak ab aa):=by rw[gg ab c hc];exact Bu q (cO ab aa) zK
theorem Ks (x r:D):z7 (ak (ab++[c]) aa) x r=z7 (ak ab aa) x r:=by
 unfold z7;rw[CW q hc,gg ab c hc,ot q]
theorem CY (ri:Nat)(r:D)(d:Int)(x:D):iM (ab++[c]) aa ri r d x=iM ab aa ri r d x:=by unfold iM;rw[zL q hc,Ks q hc]
theorem Ev (ri:Nat){r:D}(d:Int)(hr:aT r<=aa)(kr:kindOf r∈bU):(jO (ab++[c]) aa ri r d).isEmpty=((jO ab aa ri r d).isEmpty && !iM ab aa ri r d c):=by
 unfold jO;rw[if_pos ⟨hr,kr⟩,if_pos ⟨hr,kr⟩,gg ab c hc,List.filter_append,uW];have e:(ak ab aa).filter (λx=>iM (ab++[c]) aa ri r d x.1)=(ak ab aa).filter λx=>iM ab aa ri r d x.1:=List.filter_congr λx _=>CY q hc _ _ _ _;rw[e,List.filter_cons,CY q hc];cases iM ab aa ri r d c<;>cases (ak ab aa).filter (λx=>iM ab aa ri r d x.1)<;>rfl
theorem Kt (d:Int){x:D×Nat}(hr:aT x.1<=aa)(kr:kindOf x.1∈bU):tz (ab++[c]) aa d x=(tz ab aa d x && !iM ab aa x.2 x.1 d c):=by
 unfold tz;rw[zL q hc,Ev q hc _ _ hr kr];simp only[Bool.and_assoc]
theorem Ku (cs:List Cl)(r:D)(ri:Nat):Bo (ak (ab++[c]) aa) cs r ri=Bo (ak ab aa) cs r ri:=by
 unfold Bo tu p5;rw[gg ab c hc,ot q,ft q.2.1]
theorem zM {x:D×Nat}(h:kindOf c∈gs->eN (c,ab.length) x=false):iE (ab++[c]) aa x=iE ab aa x:=by
 unfold iE pb;rw[CW q hc,Ku q hc];have e:∀m,nj (ab++[c]) aa x.1 x.2 m=nj ab aa x.1 x.2 m:=λm=>by
  unfold nj;by_cases hm:m<ab.length
  ·rw[List.getElem?_append_left hm]
  ·rw[show ab[m]? = none from List.getElem?_eq_none (by omega)];by_cases hm':m=ab.length
   ·subst hm';rw[List.getElem?_append_right (vT _),Nat.sub_self];show((decide (aT c<=aa) && decide (kindOf c∈gs)) && eN (c,ab.length) (x.1,x.2))=false;by_cases hp:kindOf c∈gs
    ·rw[show eN (c,ab.length) (x.1,x.2)=false from h hp,Bool.and_false]
    ·rw[decide_eq_false hp,Bool.and_false,Bool.false_and]
   ·rw[show(ab++[c])[m]? = none from List.getElem?_eq_none (by rw[uZ,List.length_singleton];omega)]
 rw[e]
theorem CZ (d:Int):(gM (ab++[c]) aa d (bX (ak (ab++[c]) aa))).filter (λx=>!decide (x.2=ab.length))=(gM ab aa d (bX (ak ab aa))).filter λx=>!iM ab aa x.2 x.1 d c:=by
 unfold gM;rw[←CV q (cO ab aa) zK,←gg ab c hc];rw[List.filter_filter,List.filter_filter,List.filter_filter];refine List.filter_congr λx hx=>?_;cases hn:decide (x.2=ab.length) with
 |true=>simp
 |false=>
  have hm:=(vN ((aQ _ _).mem_iff.mp hx)).1;have hk:aT x.1<=aa:=of_decide_eq_true (vN hm).2;by_cases kb:kindOf x.1∈bU
  ·rw[Kt q hc d hk kb,decide_eq_true kb];cases tz ab aa d x<;>cases iM ab aa x.2 x.1 d c<;>rfl
  ·rw[decide_eq_false kb];simp
end
theorem Bv {α:Type}{p q:α->Bool}:∀ {l:List α},(∀x∈l,p x=q x)->l.any p=l.any q
 |[],_=>rfl
 |x::l,h=>by rw[List.any_cons,List.any_cons,h x mX,Bv λy hy=>h y (mZ _ hy)]
theorem Ew {N:Nat}{S:List Nat}{b:Bs}(h:b.1=none->b.2≠(N:Int)):gG (S.filter λn=>!decide (n=N)) b=gG S b:=by
 unfold gG;cases hb:b.1 with
 |some o=>rfl
 |none=>
  rw[List.any_filter];congr 1;refine Bv λn _=>?_;by_cases e:n=N
  ·subst e;rw[decide_eq_false λz:(n:Int)=b.2=>h hb z.symm,Bool.and_false]
  ·rw[decide_eq_false e];rfl
theorem sx (N:Nat):∀(l:List (Nat×List Bs))(S:List Nat),(∀p∈l,p.1≠N->∀b∈p.2,b.1=none->b.2≠(N:Int))->(l.foldl cI S).filter (λn=>!decide (n=N))=(l.filter λp=>!decide (p.1=N)).foldl cI (S.filter λn=>!decide (n=N))
 |[],_,_=>rfl
 |p::l,S,h=>by
  have ih:=sx N l (cI S p) λp' hp=>h p' (mZ _ hp);rw[List.foldl_cons,ih,List.filter_cons];by_cases e:p.1=N
  ·rw[decide_eq_true e,if_neg (by decide)];congr 1;unfold cI;split
   ·rw[List.filter_append];simp[e]
   ·rfl
  ·rw[decide_eq_false e,if_pos (show(!false)=true from rfl),List.foldl_cons];congr 1;have hb:p.2.any (gG (S.filter λn=>!decide (n=N)))=p.2.any (gG S):=Bv λb hb=>Ew (h p mX e b hb);unfold cI;rw[hb];split
   ·rw[List.filter_append];simp[e]
   ·rfl
section
variable {ab:List D}{aa:Int}
theorem Kv {x:D×Nat}(g:∀r∈ab,bQ r)(hx:ab[x.2]? = some x.1):∀b∈iE ab aa x,b.1=none->b.2≠(ab.length:Int):=by
 intro b hb e;unfold iE pb at hb;split at hb
 ·rename_i kc;obtain⟨a,d,iJ,n,er⟩:=sq (g _ (vL hx)) kc;have en:fR 2 x.1=n:=by rw[er];rfl
  rw[en,Int.toNat_natCast]at hb;split at hb
  ·rename_i hv;rw[List.mem_singleton]at hb;subst hb;unfold nj at hv;split at hv
   ·cases hv
   ·rename_i q hq;have:=(vV hq).1;show(n:Int)≠_;omega
  ·cases hb
 ·unfold Bo at hb;have hb:=(aQ _ _).mem_iff.mp hb;unfold tu at hb;rcases List.mem_append.mp hb with z|z
  ·obtain⟨v,_,rfl⟩:=vO z;cases e
  ·obtain⟨y,hy,rfl⟩:=vO z;have:=(vV (z4 g (vN hy).1).1).1;show(y.2:Int)≠_;omega
theorem xq {d:Int}{x:D×Nat}(h:x∈gM ab aa d (bX (ak ab aa))):x∈ak ab aa/\kindOf x.1∈bU/\aE x.1<=d:=by
 obtain⟨h1,h2⟩:=vN h;rw[vC]at h2;unfold tz at h2;rw[vC,vC]at h2;exact⟨(vN ((aQ _ _).mem_iff.mp h1)).1,of_decide_eq_true h2.1,of_decide_eq_true h2.2.1.2⟩
theorem Kw {c:D}{x:D×Nat}(h:x∈ak (ab++[c]) aa)(e:x.2=ab.length):x.1=c:=by
 have:=bf h;rw[e,List.getElem?_append_right (vT _),Nat.sub_self]at this;exact(vK this).symm
variable {day:Int}{iJ:Str}{n:Nat}
abbrev iF (day:Int)(iJ:Str)(n:Nat):D:=row day ("call" : Str) [.int day,.str iJ,.int n]
theorem Ho (hd:day<=aa)(d:Int):gM (ab++[iF day iJ n]) aa d (bX (ak (ab++[iF day iJ n]) aa))=(gM ab aa d (bX (ak ab aa))).filter λx=>!iM ab aa x.2 x.1 d (iF day iJ n):=by
 rw[←CZ (j6 (.inl rfl)) hd d];refine(List.filter_eq_self.mpr λx hx=>?_).symm;obtain⟨h1,h2,_⟩:=xq hx;cases e:decide (x.2=ab.length) with
 |false=>rfl
 |true=>
  rw[Kw h1 (of_decide_eq_true e)]at h2;exact absurd h2 (show ¬("call" : Str)∈bU by decide +kernel)
theorem sy (hd:day<=aa)(d:Int):bC (ab++[iF day iJ n]) aa d=cD (((gM ab aa d (bX (ak ab aa))).filter λx=>!iM ab aa x.2 x.1 d (iF day iJ n)).map λx=>(x.2,iE ab aa x)):=by
 unfold bC;rw[Ho hd];congr 1;refine List.map_congr_left λx _=>?_;rw[zM (j6 (.inl rfl)) hd λh=>absurd h (show ¬("call" : Str)∈gs by decide +kernel)]
theorem zN (hd:day<=aa){d:Int}(h:d<day):bC (ab++[iF day iJ n]) aa d=bC ab aa d:=by
 rw[sy hd,List.filter_eq_self.mpr λx _=>?_]
 ·rfl
 ·have:decide (aE (iF day iJ n)<=d)=false:=decide_eq_false (by show ¬day<=d;omega);unfold iM;rw[this];simp
theorem Bw (hd:day<=aa){r:D}(hr:ab[n]? = some r)(hb:cJ r=iJ)(hs:fm ab aa (iF day iJ n)=true):bC (ab++[iF day iJ n]) aa day=fM n (jP ab aa day):=by
 rw[sy hd];unfold fM jP;rw[List.filter_map,uP];congr 2;refine List.filter_congr λx hx=>?_;show(!iM ab aa x.2 x.1 day (iF day iJ n)) = !decide (x.2=n);congr 1;unfold iM;rw[hs,decide_eq_true (show kindOf (iF day iJ n) = "call" from rfl),decide_eq_true (show aE (iF day iJ n)<=day from Int.le_refl _),Bool.true_and,Bool.true_and,Bool.true_and];by_cases e:x.2=n
 ·have hx':=bf (xq hx).1;rw[e,hr]at hx';have em:z7 (ak ab aa) (iF day iJ n) x.1=true:=by
   unfold z7;rw[decide_eq_true (show cJ (iF day iJ n)=cJ x.1 by rw[←vK hx',hb];rfl)];rfl
  rw[em,decide_eq_true e,decide_eq_true (show fR 2 (iF day iJ n)=(x.2:Int) by rw[e];rfl)];rfl
 ·rw[decide_eq_false e,decide_eq_false (show ¬fR 2 (iF day iJ n)=(x.2:Int)from λz=>e (by have z':(n:Int)=x.2:=z;omega))];rfl
theorem By (g:∀r∈ab,bQ r){q:List D}(hd:day<=aa):(bC (ab++[row day ("paper" : Str) (.int day::q)]) aa day).filter (λm=>!decide (m=ab.length))=bC ab aa day:=by
 have hq:vq (row day ("paper" : Str) (.int day::q)):=j6 (.inr rfl);have fw:∀x∈gM (ab++[row day ("paper" : Str) (.int day::q)]) aa day (bX (ak (ab++[row day ("paper" : Str) (.int day::q)]) aa)),x.2≠ab.length->ab[x.2]? = some x.1/\iE (ab++[row day ("paper" : Str) (.int day::q)]) aa x=iE ab aa x:=λx hx nu=>by
  obtain⟨h1,_,h3⟩:=xq hx;have h2:=bf h1;have hl:x.2<ab.length:=by
   have:=(vV h2).1;rw[uZ,List.length_singleton]at this;omega
  rw[List.getElem?_append_left hl]at h2;refine⟨h2,zM hq hd λ_=>decide_eq_false ?_⟩;show ¬(day<aE x.1∨(day=aE x.1/\((ab.length:Nat):Int)<x.2));omega
 unfold bC cD;rw[sx ab.length _ _ λp hp nu b hb=>?_]
 ·rw[List.filter_map];have e:=CZ hq hd day (ab:=ab);have e0:(gM ab aa day (bX (ak ab aa))).filter (λx=>!iM ab aa x.2 x.1 day (row day ("paper" : Str) (.int day::q)))=gM ab aa day (bX (ak ab aa)):=List.filter_eq_self.mpr λx _=>by
   unfold iM;rw[decide_eq_false (show ¬kindOf (row day ("paper" : Str) (.int day::q)) = "call" from(show ¬("paper" : Str) = "call" by decide +kernel))];rfl
  rw[e0]at e;congr 1;refine Eq.trans ?_ (congrArg (List.map λx=>(x.2,iE ab aa x)) e);refine List.map_congr_left λx hx=>?_;obtain⟨h1,h2⟩:=vN hx;rw[(fw x h1 (by simpa using h2)).2]
 ·obtain⟨x,hx,rfl⟩:=vO hp;obtain⟨h1,h2⟩:=fw x hx nu;rw[h2]at hb;exact Kv g h1 b hb
end
theorem lf (S:List Nat):bw (bJ S)=true:=bF λd hd=>by obtain⟨n,_,rfl⟩:=vO hd;rfl
theorem md (S:List Nat):aq 40 (.lst (bJ S))=true:=by
 simp only[aq,List.all_eq_true];intro d hd;obtain⟨n,_,rfl⟩:=vO hd;simp
theorem Hq (ab:List D)(aa:Int):bA (ak ab aa)=ab.filter λv=>aW v && decide (aT v<=aa):=by
 unfold bA ak;rw[List.filter_filter];have:∀(l:List (D×Nat))(q:D->Bool),(l.filter λx=>q x.1).map (·.1)=(l.map (·.1)).filter q:=λl q=>by rw[List.filter_map];rfl
 refine(this ab.zipIdx λv=>aW v && decide (aT v<=aa)).trans ?_;rw[List.zipIdx_map_fst]
theorem Hr (ab:List D)(aa:Int):((bA (ak ab aa)).map (az 0)).Sublist (lD ab):=by
 rw[Hq];unfold lD;refine List.Sublist.map _ ?_;have:(ab.filter λv=>aW v && decide (aT v<=aa))=(ab.filter aW).filter λv=>decide (aT v<=aa):=by rw[List.filter_filter];congr 1;funext v;rw[Bool.and_comm]
 rw[this];exact List.filter_sublist
def pe (S:List Nat):List Nat:=dB (λn:Nat=>[(n:Int)]) S
theorem lg (S:List Nat):bJ S=(pe S).map λ(n:Nat)=>.int (n:Int):=by
 unfold bJ mC pe;rw[vk,uP];rfl
theorem ou {m:Nat}{S:List Nat}:m∈pe S↔m∈S:=(aQ _ _).mem_iff
theorem xr (S:List Nat)(q:Nat->Bool):pe (S.filter q)=(pe S).filter q :=
 (fH (λn:Nat=>[(n:Int)]) (λx _ y _ e=>by have:=(List.cons.inj e).1;omega) ((aQ _ _).filter q) (List.Pairwise.filter _ (dS _ _))).symm
theorem zO (h:m∈S):m∈cI S p:=by
 unfold cI;split
 ·exact List.mem_append_left _ h
 ·exact h
theorem Ex {S T:List Nat}(h:∀m∈S,m∈T)(b:Bs)(k:gG S b=true):gG T b=true:=by
 unfold gG at k ⊢;rw[Bool.or_eq_true,List.any_eq_true]at k ⊢;exact k.imp id λ⟨n,hn,e⟩=>⟨n,h n hn,e⟩
theorem Ey {S T:List Nat}(h:∀m∈S,m∈T)(p:Nat×List Bs):∀m∈cI S p,m∈cI T p:=by
 intro m hm;unfold cI at hm;split at hm
 ·rename_i hb;obtain⟨b,h1,h2⟩:=List.any_eq_true.mp hb;unfold cI;rw[if_pos (List.any_eq_true.mpr ⟨b,h1,Ex h b h2⟩)];exact(List.mem_append.mp hm).elim (λz=>List.mem_append_left _ (h m z)) λz=>mY _ z
 ·exact zO (h m hm)
theorem Ez {l' l:List (Nat×List Bs)}(s:l'.Sublist l):∀ {S T:List Nat},(∀m∈S,m∈T)->∀m∈l'.foldl cI S,m∈l.foldl cI T:=by
 induction s with
 |slnil=>exact λh=>h
 |cons a _ ih=>exact λh=>ih λm hm=>zO (h m hm)
 |cons_cons a _ ih=>exact λh=>ih (Ey h a)
theorem vt (h:n∈bC ab aa d):∃r,ab[n]? = some r/\kindOf r∈bU:=by
 rcases oj _ _ _ h with z|z
 ·cases z
 ·obtain⟨p,hp,rfl⟩:=vO z;obtain⟨x,hx,rfl⟩:=vO hp;obtain⟨h1,h2⟩:=vN hx;rw[vC]at h2;exact⟨_,bf (vN ((aQ _ _).mem_iff.mp h1)).1,of_decide_eq_true h2.1⟩
theorem Bz (h:S.Nodup)(n:p.1∉S):(cI S p).Nodup:=by
 unfold cI;split
 ·rw[List.nodup_append];refine⟨h,by simp,λa ha b hb=>?_⟩;rw[List.mem_singleton]at hb;subst hb;exact λz=>n (z ▸ ha)
 ·exact h
theorem sA:∀(l:List (Nat×List Bs))(S:List Nat),S.Nodup->(l.map (·.1)).Nodup->(∀m∈S,m∉l.map (·.1))->(l.foldl cI S).Nodup
 |[],_,h,_,_=>h
 |p::l,S,h,hl,hd=>by
  rw[uY,List.nodup_cons]at hl;refine sA l _ (Bz h λz=>hd _ z (by simp)) hl.2 λm hm z=>?_;rcases zD hm with q|q
  ·exact hd m q (mZ _ z)
  ·exact hl.1 (q ▸ z)
theorem E3 {S T:List Nat}(p:S.Perm T):bJ S=bJ T:=by
 rw[lg,lg];congr 1;exact(fH (λn:Nat=>[(n:Int)]) (λx _ y _ e=>by have:=(List.cons.inj e).1;omega) ((aQ _ _).trans p) (dS _ _))
theorem Hs (l:List Rs)(h:(l.map (·.1)).Nodup)(n:Nat):bJ ((cD (l.map sv)).filter λm=>!decide (m∈vn n l))=bJ (fM n l):=by
 have nd:∀l:List Rs,(l.map (·.1)).Nodup->(cD (l.map sv)).Nodup:=λl h=>sA _ _ List.nodup_nil (by rw[uP];exact h) λm hm=>by cases hm
 have n1:=nd l h;have n2:(fM n l).Nodup:=nd _ (List.Nodup.sublist (List.Sublist.map _ List.filter_sublist) h);have sub:∀m∈fM n l,m∈cD (l.map sv):=Ez (List.Sublist.map _ List.filter_sublist) λ_ h=>h;refine E3 ((List.perm_ext_iff_of_nodup (n1.sublist List.filter_sublist) n2).mpr λm=>?_);unfold vn;simp only[List.mem_filter,Bool.not_eq_true',decide_eq_false_iff_not,not_and,Bool.not_eq_false',decide_eq_true_eq];exact⟨λ⟨h1,h2⟩=>Decidable.byContradiction λz=>h2 h1 z,λz=>⟨sub m z,λ_ k=>k z⟩⟩
theorem sC (h:aq 40 d=true):sT d d=sF (.bl false):=by
 unfold sT;rw[if_pos ⟨h,h⟩,r6 40 _ h];rfl
theorem B1 {ab:List D}(g:∀r∈ab,bQ r)(hl:ab.length<=30)(aa:Int)(hn:((bA (ak ab aa)).map (az 0)).Nodup)(day:Int):cB [.tup ab,.int aa,.int day]=lT (bJ (bC ab aa day)):=by
 refine zG g hl aa hn ?_ day;unfold bX;rw[(aQ _ _).length_eq];exact vR (vM _ _) (vR (cw ab aa) (by omega))
theorem Db {ab:List D}{c:D}(g:∀r∈ab,bQ r)(gc:bQ c)(hl:ab.length<=24){aa:Int}(hn:((bA (ak ab aa)).map (az 0)).Nodup)(q:vq c)(hc:aT c<=aa)(day:Int):cB [.tup (ab++[c]),.int aa,.int day]=lT (bJ (bC (ab++[c]) aa day)):=by
 refine B1 (λr hr=>?_) (by rw[uZ,List.length_singleton];omega) aa (by rw[gg ab c hc,ot q];exact hn) day;rcases List.mem_append.mp hr with h|h
 ·exact g r h
 ·rw[uT h];exact gc
theorem zP {f:FT}{ρ:DL.Env}{i:Nat}{cap:List Nat}(S:List Nat)(hS:S.length<=60)(p:Nat->Bool){b:Bool}(e:ρ[i]? = some (some (.lst (bJ S),b)))(h:∀n∈S,f (dF 1 cap ρ |>.set 0 (sF (.int (n:Int))))=some (p n)):bH (cy (ai i)) 1 cap (dM 0) f (ai 0) ρ=lT (bJ (S.filter p)):=by
 have:=gA (fi:=cy (ai i)) (nT:=1) (cap:=cap) (tg:=dM 0) (c:=f) (fe:=ai 0) (ρ:=ρ) (pe S) (λ(n:Nat)=>.int (n:Int)) p (λ(n:Nat)=>.int (n:Int)) (by
   show(ai i ρ).bind _=_;simp only[ai,e,vJ];show some (bJ S)=_;rw[lg]) (by unfold pe;rw[(aQ _ _).length_eq];omega) λn hn=>⟨_,rfl,h n (ou.mp hn),λ_=>⟨false,by simp[dF]⟩⟩
 rw[this,lg,xr]
theorem E4 {ab:List D}(g:∀r∈ab,bQ r)(hl:ab.length<=24){ns:List Int}{day:Int}(hn:((bA (ak ab 9999)).map (az 0)).Nodup)(h0:0<=day)(hd:day<=9999){n:Nat}(hm:n∈bC ab 9999 day)(b6:Bool)
  (v1 v2 v8 v9 vy sO Ai zX zY:OB):∃w8 w9 OE OF Mi Mj Mk,Bc [sF (.lst (ns.map .int)),v1,v2,sF (.tup ab),sF (.int 9999),sF (.int day),some (.lst (bJ (bC ab 9999 day)),b6),sF (.int (n:Int)),v8,v9,vy,sO,Ai,zX,zY] =
   some (.nx [sF (.lst (ns.map .int)),v1,v2,sF (.tup ab),sF (.int 9999),sF (.int day),some (.lst (bJ (bC ab 9999 day)),b6),sF (.int (n:Int)),w8,w9,OE,OF,Mi,Mj,Mk]):=by
 obtain⟨r,hr,kr⟩:=vt hm;have gr:=g r (vL hr);obtain⟨a,k,q,er,dk⟩:=id gr;have ZC:dw k=true:=iC (.inl (by rw[er]at kr;exact kr));obtain⟨d0,b0,q0,eq⟩:=CM dk ZC;subst eq;have Mo:bi (.tup ab)=true:=by simp[bF λd hd=>(g d hd).flat]
 have SM:cJ r=b0:=by rw[er];rfl
 obtain⟨B9,ZD,p91⟩:=gn ns 91;have ho:(bX (ak ab 9999)).length<=60:=by
  unfold bX;rw[(aQ _ _).length_eq];exact vR (vM _ _) (vR (cw ab 9999) (by omega))
 have Mg:=om (ab:=ab) (by omega) 9999 day;have Xc:f2 bG (f2 bG (f2 bG (ai 3) (ai 7)) (fI 1)) (fI 2) [sF (.lst (ns.map .int)),v1,v2,sF (.tup ab),sF (.int 9999),sF (.int day),some (.lst (bJ (bC ab 9999 day)),b6),sF (.int (n:Int)),v8,v9,vy,sO,Ai,zX,zY]=sF (.str b0):=by
  refine b7 (.tup (.str k::.int d0::.str b0::q0)) (.int 2) (b7 (row a k (.int d0::.str b0::q0)) (.int 1) (b7 (.tup ab) (.int n) rfl rfl ?_) rfl ?_) rfl ?_
  ·rw[←er];simp[cC hr]
  ·simp[row,HX]
  ·exact(DL.wg (by decide) (by show 2<_;simp)).trans rfl
 have tl:∀x9 SR,dO (br (fA jH (fV 3 (fV 4 (fV 8 (fV 5 aj)))))) (br (fA iu (fV 3 (fV 4 (fV 8 (fV 5 aj)))))) [sF (.lst (ns.map .int)),v1,v2,sF (.tup ab),sF (.int 9999),sF (.int day),some (.lst (bJ (bC ab 9999 day)),b6),sF (.int (n:Int)),sF (.str b0),x9,SR,sO,Ai,zX,zY]=some (jM ab 9999 b0 day && mQ ab 9999 b0 day):=λx9 SR=>
  eG (cX (aJ [.tup ab,.int 9999,.str b0,.int day] rfl (rF ab (λr hr=>(g r hr).c.rp) (by omega) 9999 b0 day))) λ_=>cX (aJ [.tup ab,.int 9999,.str b0,.int day] rfl (C9 ab (λr hr=>(g r hr).c.rp) (by omega) 9999 b0 day))
 cases KJ:(jM ab 9999 b0 day && mQ ab 9999 b0 day) with
 |false=>exact⟨_,_,_,_,_,_,_,fB (.str b0) Xc rfl (lP ((tl _ _).trans (by rw[KJ])) rfl)⟩
 |true=>
  have gc:bQ (iF day b0 n):=⟨day,("call" : Str),_,rfl,.copy _ (.inr rfl) _ _ _⟩;have qc:vq (iF day b0 n):=j6 (.inl rfl);let pD:D:=.tup [.str "paper",.int day,.str b0,.int 1,.tup [.int 0,.non],.non,.tup [.str b0]];let pq:List D:=[.str b0,.int 1,.tup [.int 0,.non],.non,.tup [.str b0]];have gp:bQ (row day ("paper" : Str) (.int day::pq)):=⟨day,("paper" : Str),_,rfl,.paper _ (.inl rfl) day b0 1 (by decide) (0,none) [.non,.tup [.str b0]] rfl (by simp)⟩;have hs:fm ab 9999 (iF day b0 n)=true:=by
   show((decide (day<=9999) && dw ("call" : Str)) && (jM ab 9999 b0 day && mQ ab 9999 b0 day))=true;rw[KJ,decide_eq_true hd];decide +kernel
  have Vl:=Bw hd hr SM hs;have Xd:=Db g gc hl hn qc (show aT (iF day b0 n)<=9999 from hd);have ZE:=mod_lt (x:=B9) (m:=day+1) (by omega);have kept:=B1 g (by omega) 9999 hn (B9 % (day+1));have Sd:=Bt g (by omega) 9999 hn ho day n;have OI:=Hs (jP ab 9999 day) (vp 9999 day) n;have Vm:cD ((jP ab 9999 day).map sv)=bC ab 9999 day:=by
   unfold jP bC;rw[uP];rfl
  rw[Vm]at OI;have ZF:=Db g gp hl hn (j6 (.inr rfl)) (show aT (row day ("paper" : Str) (.int day::pq))<=9999 from hd) day;have Vn:=By g (q:=pq) (ab:=ab) hd;have Py:=om (ab:=ab++[row day ("paper" : Str) (.int day::pq)]) (by rw[uZ,List.length_singleton];omega) 9999 day;have HM:∀c:D,qz (.tup ab) (.tup [c])=sF (.tup (ab++[c])):=λc=>if_pos (dD (by rw[List.length_singleton];omega));have vx:∀ {c:D},bQ c->bi (.tup (ab++[c]))=true:=λ{c} gc=>by
   refine(show bi (.tup (ab++[c]))=bw (ab++[c]) by simp).trans (bF λd hd=>?_);rcases List.mem_append.mp hd with h|h
   ·exact(g d h).flat
   ·rw[uT h];exact gc.flat
  generalize hS:bC ab 9999 day=S at *;generalize vn n (jP ab 9999 day)=Z at Sd OI;let A:OB->OB->OB->OB->OB->OB->DL.Env:=λx9 SR ZG ZH ZI ZJ=>[sF (.lst (ns.map .int)),v1,v2,sF (.tup ab),sF (.int 9999),sF (.int day),some (.lst (bJ S),b6),sF (.int (n:Int)),sF (.str b0),x9,SR,ZG,ZH,ZI,ZJ];let L:D:=.tup (ab++[iF day b0 n]);have t5:br (f2 sT (fA cB (fV 10 (fV 4 (fV 5 aj)))) (bH (cy (ai 6)) 1 [9] (dM 0) (br (f2 fF (ai 0) (ai 1))) (ai 0))) (A (lT (bJ Z)) (sF L) sO Ai zX zY)=some false:=by
   refine cX (iq (x:=.lst (bJ (fM n (jP ab 9999 day)))) (y:=.lst (bJ (fM n (jP ab 9999 day)))) (b1:=true) (b2:=true) (aJ [L,.int 9999,.int day] rfl ((Xd day).trans (by rw[Vl]))) ?_ (sC (md _)));rw[zP S Mg (λm=>!decide (m∈Z)) (b:=b6) rfl λm _=>cX (b7 (.int m) (.lst (bJ Z)) rfl rfl ?_),OI];have vx:((pe Z).map λ(n:Nat)=>D.int (n:Int)).all gw=true:=by
    rw[List.all_eq_true];intro d hd;obtain⟨m,_,rfl⟩:=vO hd;rfl
   rw[lg];simp only[fF,ie,vJ];rw[if_pos ⟨rfl,vx⟩,Hi,CU];exact congrArg (λb=>sF (.bl (!b))) (decide_eq_decide.mpr ou)
  have t8:dO (br (f2 Jd (ai 11) (ai 5))) (br (f2 sT (fA cB (fV 10 (fV 4 (fV 11 aj)))) (ai 12))) (A (lT (bJ Z)) (sF L) (sF (.int (B9 % (day+1)))) (lT (bJ (bC ab 9999 (B9 % (day+1))))) zX zY)=some (decide (B9 % (day+1)<day) && false):=by
   refine eG (cX (b7 (.int (B9 % (day+1))) (.int day) rfl rfl rfl)) λh=>cX (iq (x:=.lst (bJ (bC ab 9999 (B9 % (day+1))))) (y:=.lst (bJ (bC ab 9999 (B9 % (day+1))))) (b1:=true) (b2:=false) (aJ [L,.int 9999,.int (B9 % (day+1))] rfl ((Xd _).trans (by rw[zN hd (of_decide_eq_true h)]))) rfl (sC (md _)))
  rw[Bool.and_false]at t8;have ZK:br (f2 sT (bH (cy (ai 14)) 1 [3] (dM 0) (br (f2 Jd (ai 0) (fA gR (fV 1 aj)))) (ai 0)) (ai 6)) (A (lT (bJ Z)) (sF L) (sF (.int (B9 % (day+1)))) (lT (bJ (bC ab 9999 (B9 % (day+1))))) (sF pD) (lT (bJ (bC (ab++[row day ("paper" : Str) (.int day::pq)]) 9999 day))))=some false:=by
   refine cX (iq (x:=.lst (bJ S)) (y:=.lst (bJ S)) (b1:=true) (b2:=false) ?_ rfl (sC (md _)));rw[zP _ Py (λm=>!decide (m=ab.length)) (b:=true) rfl λm hm=>cX (b7 (.int m) (.int ab.length) rfl (aJ [.tup ab] rfl rfl) ?_),Vn];obtain⟨x,hx,_⟩:=vt hm;have:=(vV hx).1;rw[uZ,List.length_singleton]at this;show some (D.bl (decide ((m:Int)<(ab.length:Int))),false)=some (D.bl (!decide (m=ab.length)),false);by_cases e:m=ab.length
   ·rw[decide_eq_true e,decide_eq_false (by omega)];rfl
   ·rw[decide_eq_false e,decide_eq_true (show(m:Int)<ab.length by omega)];rfl
  refine⟨_,_,_,_,_,_,_,fB (.str b0) Xc rfl (lq ((tl _ _).trans (by rw[KJ])) (c8 (ds:=bJ Z) (aJ [.tup ab,.int 9999,.int day,.int n] rfl Sd) (lf _) (fB L ?_ (vx gc) (aA t5 (fB (.int (B9 % (day+1))) ?_ rfl (c8 (ds:=bJ (bC ab 9999 (B9 % (day+1)))) (aJ [.tup ab,.int 9999,.int (B9 % (day+1))] rfl kept) (lf _) (aA t8 (fB pD ?_ rfl (c8 (ds:=bJ (bC (ab++[row day ("paper" : Str) (.int day::pq)]) 9999 day)) ?_ (lf _) (lP ZK rfl))))))))))⟩
  ·exact b7 (.tup ab) (.tup [iF day b0 n]) rfl (aJ [iF day b0 n] (ce (aJ [.int day,.tup [.str "call",.int day,.str b0,.int n]] (ce rfl (ce (aJ [.str "call",.int day,.str b0,.int n] rfl (bI _ (by simp))) rfl)) (bI _ (by simp))) rfl) (bI _ (by simp))) (HM _)
  ·exact b7 (.int B9) (.int (day+1)) (aJ [.lst (ns.map .int),.int ((91:Nat):Int)] rfl ZD) (b7 (.int day) (.int 1) rfl rfl rfl) (by simp;omega)
  ·exact aJ [.str "paper",.int day,.str b0,.int 1,.tup [.int 0,.non],.non,.tup [.str b0]] (ce rfl (ce rfl (ce rfl (ce rfl (ce (aJ [.int 0,.non] rfl (bI _ (by simp))) (ce rfl (ce (aJ [.str b0] rfl (bI _ (by simp))) rfl))))))) (bI _ (by simp))
  ·exact aJ [.tup (ab++[row day ("paper" : Str) (.int day::pq)]),.int 9999,.int day] (ce (b7 (.tup ab) (.tup [row day ("paper" : Str) (.int day::pq)]) rfl (aJ [row day ("paper" : Str) (.int day::pq)] (ce (aJ [.int day,pD] rfl (bI _ (by simp))) rfl) (bI _ (by simp))) (HM _)) (ce rfl (ce rfl rfl))) ZF
theorem Kx {ds:List D}{l h:Option Int}(k:d∈nG ds l h):d∈ds:=by
 unfold nG at k;first|exact List.mem_of_mem_drop (List.mem_of_mem_take k)|exact List.mem_of_mem_take (List.mem_of_mem_drop k)
theorem law_true (ns:List Int)(_:ns.length<=63):∃b,F_law [.lst (ns.map .int)]=some (.bl true,b):=by
 obtain⟨c0,e0,h0⟩:=gn ns 0;obtain⟨c3,e3,h3⟩:=gn ns 3;obtain⟨c4,e4,h4⟩:=gn ns 4;obtain⟨P2,ZL,h90⟩:=gn ns 90;obtain⟨zs,ez,hz,ZM⟩:=GU c0 h0;have Xe:=mod_lt (x:=c3) (m:=3) (by decide);obtain⟨ms,ZN,ZO⟩:=oW (ns:=[1,1,500]) (i:=c3 % 3) Xe.1 Xe.2;obtain⟨ab,erw,Vo,Sa,OA⟩:=Ke ns zs hz ms;have ZP:=mod_lt (x:=c3 / 3) (m:=13) (by decide);have hm4:=mod_lt (x:=c4) (m:=3) (by decide);have ZQ:=mod_lt (x:=P2) (m:=9) (by decide);have Vp:ms=1∨ms=500:=by simp at ZN;omega
 obtain⟨aa,Ib,ZR⟩:=oW (ns:=[9999,c3 / 3 % 13*ms]) (i:=c4 % 3 / 2) (by omega) (by simp;omega);have Mo:bi (.tup ab)=true:=by simp[bF λd hd=>(Vo d hd).flat]
 have hn:((bA (ak ab 9999)).map (az 0)).Nodup:=by
  refine List.Nodup.sublist (Hr ab 9999) ?_;rw[OA];refine List.Nodup.sublist (List.take_sublist _ _) ?_;obtain⟨x,hx⟩:∃x,zs[5]? = some x:=⟨_,vU (by omega)⟩;obtain⟨y,hy⟩:∃y,zs[6]? = some y:=⟨_,vU (by omega)⟩;have e:zs.drop 5=[x,y]:=by
   refine List.ext_getElem? λj=>?_;rw[List.getElem?_drop];match j with
   |0=>exact hx
   |1=>exact hy
   |j+2=>rw[List.getElem?_eq_none (by omega)];rfl
  rw[e];simp[ZM x y hx hy]
 have OD:0<=P2 % 9*ms/\P2 % 9*ms<=9999:=by rcases Vp with rfl|rfl<;>omega
 generalize sJ:P2 % 9*ms=day at OD;have es:=B1 Vo (by omega) 9999 hn day;let E:Bool->OB->OB->OB->OB->OB->OB->OB->OB->DL.Env:=λb v7 v8 v9 vy sO Ai zX zY=>[sF (.lst (ns.map .int)),lT (zs.map .str),sF (.int ms),sF (.tup ab),sF (.int 9999),sF (.int day),some (.lst (bJ (bC ab 9999 day)),b),v7,v8,v9,vy,sO,Ai,zX,zY];obtain⟨ρ',el,_⟩:=io (tg:=dM 7) (g:=Bc) (λ_ ρ=>∃v7 v8 v9 vy sO Ai zX zY,ρ=E false v7 v8 v9 vy sO Ai zX zY) (nG (bJ (bC ab 9999 day)) none (some 6)) (E false none none none none none none none none) ⟨_,_,_,_,_,_,_,_,rfl⟩ (by
  rintro i d ρ hd ⟨v7,v8,v9,vy,sO,Ai,zX,zY,rfl⟩;have hm:=Kx (vL hd);rw[lg]at hm;obtain⟨n,Rf,rfl⟩:=vO hm;obtain⟨w8,w9,OE,OF,Mi,Mj,Mk,e⟩:=E4 Vo (by omega) (ns:=ns) hn OD.1 OD.2 (ou.mp Rf) false (lT (zs.map .str)) (sF (.int ms)) v8 v9 vy sO Ai zX zY;exact⟨_,_,rfl,.inl e,sF (.int (n:Int)),w8,w9,OE,OF,Mi,Mj,Mk,rfl⟩)
 refine⟨false,aw rfl (c8 (ds:=zs.map .str) (aJ [.int c0] (aF (aJ [.lst (ns.map .int),.int ((0:Nat):Int)] rfl e0) rfl) ez) (eA zs) (fB (.int ms) ?_ rfl (fB (.tup ab) (aJ [.lst (ns.map .int),.lst (zs.map .str),.int ms,.int 10] rfl erw) Mo (fB (.int aa) ?_ rfl (fB (.int 9999) rfl rfl (fB (.int day) ?_ rfl (c8 (ds:=bJ (bC ab 9999 day)) (aJ [.tup ab,.int 9999,.int day] rfl es) (lf _) (dU (show QD [6] _ _=_ from kW (ρ:=E false none none none none none none none none) rfl el) (ay rfl)))))))))⟩
 ·exact iq (x:=.lst (([1,1,500]:List Int).map .int)) (y:=.int (c3 % 3)) (b1:=true) (b2:=false) (by simp[sizeLine]) (b7 (.int c3) (.int 3) (aJ [.lst (ns.map .int),.int ((3:Nat):Int)] rfl e3) rfl (by simp)) ZO
 ·exact iq (x:=.lst (([9999,c3 / 3 % 13*ms]:List Int).map .int)) (y:=.int (c4 % 3 / 2)) (b1:=true) (b2:=false) (aJ [.int 9999,.int (c3 / 3 % 13*ms)] (ce rfl (ce (b7 (.int (c3 / 3 % 13)) (.int ms) (b7 (.int (c3 / 3)) (.int 13) (b7 (.int c3) (.int 3) (aJ [.lst (ns.map .int),.int ((3:Nat):Int)] rfl e3) rfl (by simp)) rfl (by simp)) rfl (oh (by omega))) rfl)) (jN _ (by simp))) (b7 (.int (c4 % 3)) (.int 2) (b7 (.int c4) (.int 3) (aJ [.lst (ns.map .int),.int ((4:Nat):Int)] rfl e4) rfl (by simp)) rfl (by simp)) ZR
 ·rw[←sJ];exact b7 (.int (P2 % 9)) (.int ms) (b7 (.int P2) (.int 9) (aJ [.lst (ns.map .int),.int ((90:Nat):Int)] rfl ZL) rfl (by simp)) rfl (oh (by omega))
end Lw
namespace Lw
open PySem PySem.Spec PyProof.Rows L2 DL
noncomputable def fN (i:Nat):Stmt:=PySem.Challenge.pw_sealchain_k38_whole_what_is_called_in_fa.main.body.getD i (.Pass ⟨0,0,0,0⟩)
structure Tx (w:World)(K:Frag)(mg:Str->Option Value):Prop where
 hX:∃h,K.In h/\h.Ns mainGlobals mg
 d0:eE K "heard" (fN 11)
 d1:eE K "word_of" (fN 7)
 d2:eE K "part_of" (fN 8)
 d3:eE K "day_of" (fN 9)
 d4:eE K "tells" (fN 19)
 d5:eE K "told_of" (fN 20)
 d6:eE K "lives" (fN 21)
 d7:eE K "rank" (fN 13)
 d8:eE K "has_seal" (fN 22)
 d9:eE K "in_order" (fN 15)
 d10:eE K "by_office" (fN 27)
 d11:eE K "roots" (fN 16)
 d12:eE K "is_known" (fN 12)
 d13:eE K "is_sound" (fN 23)
 d14:eE K "lies_in" (fN 1)
 d15:eE K "is_alive" (fN 25)
 d16:eE K "by_since" (fN 26)
 d17:eE K "chief_of" (fN 28)
 d18:eE K "holder_by" (fN 29)
 d19:eE K "is_held_by" (fN 30)
 d20:eE K "is_first_death" (fN 31)
 d21:eE K "counts" (fN 32)
 d22:eE K "new_claim" (fN 33)
 d23:eE K "ended" (fN 34)
 d24:eE K "after_choice" (fN 35)
 d25:eE K "inherited" (fN 36)
 d26:eE K "after_death" (fN 37)
 d27:eE K "claims" (fN 38)
 d28:eE K "is_paper" (fN 41)
 d29:eE K "is_leave" (fN 42)
 d30:eE K "is_borne" (fN 43)
 d31:eE K "covers" (fN 4)
 d32:eE K "reach_bar" (fN 47)
 d33:eE K "office_bar" (fN 48)
 d34:eE K "office_bases" (fN 51)
 d35:eE K "ends_within" (fN 3)
 d36:eE K "is_within" (fN 2)
 d37:eE K "is_ahead" (fN 14)
 d38:eE K "leave_bar" (fN 49)
 d39:eE K "leaves_to" (fN 50)
 d40:eE K "leave_bases" (fN 52)
 d41:eE K "copy_bases" (fN 53)
 d42:eE K "bases_by" (fN 54)
 d43:eE K "may_call" (fN 44)
 d44:eE K "calls_in" (fN 45)
 d45:eE K "calls_by" (fN 46)
 d46:eE K "is_fit" (fN 55)
 d47:eE K "links" (fN 56)
 d48:eE K "bears" (fN 57)
 d49:eE K "stood" (fN 58)
 d50:eE K "standing" (fN 59)
 d51:eE K "leaning" (fN 61)
 d52:eE K "_law_cell" (fN 63)
 d53:eE K "_law_names" (fN 64)
 d54:eE K "_law_stretch" (fN 65)
 d55:eE K "_law_deed" (fN 66)
 d56:eE K "_law_rows" (fN 67)
 d57:eE K "law" (fN 68)
 n0:mg "any" = none
 n1:mg "dict" = none
 n2:mg "enumerate" = none
 n3:mg "int" = none
 n4:mg "len" = none
 n5:mg "list" = none
 n6:mg "max" = none
 n7:mg "min" = none
 n8:mg "range" = none
 n9:mg "set" = none
 n10:mg "sorted" = none
 n11:mg "tuple" = none
 k0:KC K mg "PAPERS" yW
 k1:KD w K mg "PARTS" gT
 k2:KC K mg "SEALINGS" ir
 l8:AR K "has_seal"
 l9:AR K "in_order"
 l20:AR K "is_first_death"
 l42:AR K "bases_by"
section
variable {P:Program}{w:World}{K:Frag}{mg:Str->Option Value}{base:Heap}(T:Tx w K mg)
include T
theorem f0:Fn P w K mg base 1 "heard" cG:=T.d0.fq T.hX Cz ["book","known"] 2 λnd hr hu=>
  (bo (gO ["number","row","known"] (Jo T.n2 (ag 0)) (dQ (aL pV (bS 1) (ag 2))) (ag 0)))
theorem f1:Fn P w K mg base 1 "word_of" aK:=T.d1.fq T.hX uC ["row"] 1 λnd hr hu=>
  (bo (aU (bS 0) av))
theorem f2:Fn P w K mg base 2 "part_of" au:=T.d2.fq T.hX uE ["row","part"] 2 λnd hr hu=>
  (bo (aU (bS 0) (ax bu av (Jt T.k1 (a7 (f1 T) hr) (ag 1)))))
theorem f3:Fn P w K mg base 3 "day_of" aR:=T.d3.fq T.hX yX ["row"] 1 λnd hr hu=>
  (ao (c7 (aL (de hu) (a7 (f1 T) hr) aB) dG)
   (bo (a7 (f2 T) hr)))
theorem f4:Fn P w K mg base 4 "tells" pH:=T.d4.fq T.hX C0 ["row","words","person","day"] 4 λnd hr hu=>
  (bo (ia (cQ BS (a7 (f1 T) hr) (ag 1)) (ia (cQ (de hu) (a7 (f2 T) hr) (ag 2)) (fU (cQ pV (a7 (f3 T) hr) (ag 3))))))
theorem f5:Fn P w K mg base 5 "told_of" gY:=T.d5.fq T.hX uF ["book","known","words","person","day"] 5 λnd hr hu=>
  (bo (gO ["number","words","person","day","book"] (c9 (a7 (f0 T) hr)) (dQ (cr (bg (f4 T) hr (ah (aU (ag 4) (ag 0)) (aG 1 (aG 2 (aG 3 am))))))) (ag 0)))
theorem f6:Fn P w K mg base 6 "lives" jH:=T.d6.fq T.hX C1 ["book","known","person","day"] 4 λnd hr hu=>
  (bo (cQ (de hu) (bW jU T.n4 jV (ah (bg (f5 T) hr (aG 0 (aG 1 (ah (aM (ah aB am)) (aG 2 (aG 3 am)))))) am)) av))
theorem f7:Fn P w K mg base 4 "rank" eZ:=T.d7.fq T.hX GA ["book","number"] 2 λnd hr hu=>
  (bo (aM (ah (bg (f3 T) hr (ah (aU (ag 0) (ag 1)) am)) (aG 1 am))))
theorem f8:Fn P w K mg base 8 "has_seal" iu:=T.d8.fqL T.hX qQ ["book","known","person","day","told"] 4 λnd hr hu j9=>
  (ao (a9 nd (bg (f5 T) hr (aG 0 (aG 1 (ah (aM (ah aB (ah aB am))) (aG 2 (aG 3 am)))))))
   (ao (c7 (aL (de hu) (bW jU T.n4 jV (aG 4 am)) av) hW)
   (bo (cQ (de hu) (bg (f1 T) hr (ah (aU (ag 0) (yN V9 T.n6 (ag 4) (wQ (cap:=[0]) (N':=["number","book"]) (by decide +kernel) T.l8 j9 rfl rfl (Cj (by decide +kernel) rfl rfl rfl rfl rfl) rfl (.cons rfl rfl (Or.inl rfl) rfl (p7 (by decide +kernel) rfl) (.nil rfl)) rfl hr.in1 (λ_ _ _ _=>rfl) λ_ _ _ _ hr=>have hu:=D8 hr;(a7 (f7 T) hr)) hr)) am)) aB))))
theorem f9:Fn P w K mg base 8 "in_order" dX:=T.d9.fqL T.hX qR ["book","known","dated"] 2 λnd hr hu j9=>
  (ao (oE ["number","book"] nd (c9 (a7 (f0 T) hr)) (dQ (aL wB (bg (f3 T) hr (ah (aU (ag 1) (ag 0)) am)) dG)) (ag 0))
   (bo (Gj Gh T.n10 (ag 2) (wQ (cap:=[0]) (N':=["number","book"]) (by decide +kernel) T.l9 j9 rfl rfl (Cj (by decide +kernel) rfl rfl rfl rfl rfl) rfl (.cons rfl rfl (Or.inl rfl) rfl (p7 (by decide +kernel) rfl) (.nil rfl)) rfl hr.in1.in1 (λ_ _ _ _=>rfl) λ_ _ _ _ hr=>have hu:=D8 hr;(a7 (f7 T) hr)))))
theorem f10:Fn P w K mg base 1 "by_office" gB:=T.d10.fq T.hX oF ["claim"] 1 λnd hr hu=>
  (bo (aM (ah (bS 0) (ah (bS 0) (ah (bS 0) am)))))
theorem f11:Fn P w K mg base 3 "roots" gm:=T.d11.fq T.hX C2 ["book","known","known_rows"] 2 λnd hr hu=>
  (ao (oE ["number","book"] nd (c9 (a7 (f0 T) hr)) lH (aU (ag 1) (ag 0)))
   (bo (jn (Gx rfl) T.n1 Gw (ah (gO ["row"] (c9 (ag 2)) (dQ (aL (de hu) (a7 (f1 T) hr) aB)) (aM (ah (a7 (f2 T) hr) (aG 0 am)))) am))))
theorem TM:Fn P w K mg base 1 "is_known" cA:=T.d12.fq T.hX qS ["book","known","number"] 3 λnd hr hu=>
  (bo (ia (F0 pV yk av (ag 2) (bW jU T.n4 jV (aG 0 am))) (fU (cQ pV (aU (aU (ag 0) (ag 2)) av) (ag 1)))))
theorem TN:Fn P w K mg base 9 "is_sound" fZ:=T.d13.fq T.hX qT ["book","known","number","sealer","day"] 3 λnd hr hu=>
  (ao (c7 (lm (mw (hZ (cr (a7 (TM T) hr))) (lI (aL m4 (bg (f1 T) hr (ah (aU (ag 0) (ag 2)) am)) (yj T.k2))))) hW)
   (ao (a9 nd (bg (f2 T) hr (ah (aU (ag 0) (ag 2)) (ah aB am))))
   (ao (a9 nd (bg (f3 T) hr (ah (aU (ag 0) (ag 2)) am)))
   (bo (ia (a7 (f6 T) hr) (fU (a7 (f8 T) hr)))))))
theorem VG:Fn P w K mg base 1 "lies_in" jw:=T.d14.fq T.hX uG ["day","stretch"] 2 λnd hr hu=>
  (bo (ia (cQ pV (bS 1) (ag 0)) (fU (F3 (cQ F7 (bS 1) dG) (fU (cQ yk (ag 0) (bS 1)))))))
theorem TQ:Fn P w K mg base 2 "is_alive" cR:=T.d15.fq T.hX qU ["claim","day"] 2 λnd hr hu=>
  (bo (bg (VG T) hr (aG 1 (ah (aM (ah (bS 0) (ah (bS 0) am))) am))))
theorem TR:Fn P w K mg base 1 "by_since" du:=T.d16.fq T.hX qV ["claim"] 1 λnd hr hu=>
  (bo (aM (ah (bS 0) (ah (bS 0) am))))
theorem X4:Fn P w K mg base 5 "chief_of" lQ:=T.d17.fq T.hX qW ["alive","rule"] 2 λnd hr hu=>
  (ao (c7 (aL (de hu) (ag 1) aB) (aU (yN V9 T.n6 (ag 0) (Cm (TR T) (hr.in1.mono (by decide)) rfl) hr) av))
   (bo (aU (yN T8 T.n7 (ag 0) (Cm (TR T) (hr.in1.mono (by decide)) rfl) hr) av)))
theorem VH:Fn P w K mg base 6 "holder_by" dY:=T.d18.fq T.hX oG ["claimed","root","day","alive","people","person","oldest"] 3 λnd hr hu=>
  (ao (oE ["claim","day","root"] nd (c9 (ag 0)) (dQ (lm (jB (aL (de hu) (bS 0) (a7 (f2 T) hr)) (gQ (cr (a7 (TQ T) hr)))))) (ag 0))
   (ao (a9 nd (qk rfl T.n10 T.n9 (gO ["claim"] (c9 (ag 3)) lH (bS 0))))
   (ao (c7 (aL (de hu) (bW jU T.n4 jV (aG 4 am)) av) (aM (ah aB am)))
   (ao (c7 (lm (jB (aL F5 (bW jU T.n4 jV (aG 4 am)) av) (gQ (aL (de hu) (a7 (f2 T) hr) aB)))) (aM (ah aB (aG 4 am))))
   (ao (a9 nd (bg (X4 T) hr (aG 3 (ah (a7 (f2 T) hr) am))))
   (ao (a9 nd (yN T8 T.n7 (gO ["claim","person"] (c9 (ag 3)) (dQ (aL (de hu) (bS 0) (ag 1))) (ag 0)) (Cm (TR T) (hr.in1.mono (by decide)) rfl) hr))
   (bo (aM (ah aB (aG 5 (ah (bS 6) am)))))))))))
theorem TU:Fn P w K mg base 7 "is_held_by" cM:=T.d19.fq T.hX mI ["claimed","root","person","day"] 4 λnd hr hu=>
  (bo (cQ (de hu) (yr (a7 (VH T) hr) BN (BO av)) (aM (ah aB (aG 2 am)))))
theorem X5:Fn P w K mg base 8 "is_first_death" ga:=T.d20.fqL T.hX jx ["book","known","number","row","deaths"] 3 λnd hr hu j9=>
  (ao (a9 nd (aU (ag 0) (ag 2)))
   (ao (a9 nd (bg (f5 T) hr (aG 0 (aG 1 (ah (aM (ah aB am)) (ah (a7 (f2 T) hr) (ah (a7 (f3 T) hr) am)))))))
   (bo (cQ (de hu) (yN T8 T.n7 (ag 4) (wQ (cap:=[0]) (N':=["each","book"]) (by decide +kernel) T.l20 j9 rfl rfl (Cj (by decide +kernel) rfl rfl rfl rfl rfl) rfl (.cons rfl rfl (Or.inl rfl) rfl (p7 (by decide +kernel) rfl) (.nil rfl)) rfl hr.in1 (λ_ _ _ _=>rfl) λ_ _ _ _ hr=>have hu:=D8 hr;(a7 (f7 T) hr)) hr) (ag 2)))))
theorem X6:Fn P w K mg base 10 "counts" mJ:=T.d21.fq T.hX yY ["book","known","so_far","number","row","root"] 4 λnd hr hu=>
  (ao (a9 nd (aU (ag 0) (ag 3)))
   (ao (c7 (aL (de hu) (a7 (f1 T) hr) aB) (a7 (X5 T) hr))
   (ao (c7 (aL m4 (a7 (f1 T) hr) (aM (ah aB (ah aB (ah aB am))))) hW)
   (ao (a9 nd (Gp (NP hu) (a7 (f11 T) hr) (a7 (f2 T) hr) ⟨rfl,rfl,rfl,rfl⟩))
   (ao (c7 (aL F7 (ag 5) dG) hW)
   (ao (c7 (aL (de hu) (a7 (f1 T) hr) aB) hW)
   (bo (ia (a7 (TN T) hr) (fU (bg (TU T) hr (aG 2 (aG 5 (ah (a7 (f2 T) hr) (ah (a7 (f3 T) hr) am))))))))))))))
theorem VI:Fn P w K mg base 3 "new_claim" gD:=T.d22.fq T.hX oH ["row","since","number"] 3 λnd hr hu=>
  (bo (aM (ah (a7 (f2 T) hr) (ah (a7 (f2 T) hr) (aG 1 (ah dG (aG 2 am)))))))
theorem VJ:Fn P w K mg base 3 "ended" pJ:=T.d23.fq T.hX C3 ["so_far","offices","person","day","left","claim"] 4 λnd hr hu=>
  (ao (a9 nd (bM am))
   (ao (u6 (c9 (ag 0)) (HV 5 nd) gt (bv (fE (lm (mw (aL m4 (bS 5) (ag 1)) (mw (aL (AA hu) (bS 5) (ag 2)) (lI (hZ (lm (mw (cr (a7 (TQ T) hr)) (lI (aL F5 (bS 5) (ag 3)))))))))) (bv (iZ (i:=4) (ag 5))) (bv (fE (aL yk (bS 5) (ag 3)) (bv (iZ (i:=4) (aM (ah (bS 5) (aG 2 (ah (bS 5) (aG 3 (ah (bS 5) am)))))))) eU)))))
   (bv (mz 4))))
theorem X7:Fn P w K mg base 4 "after_choice" iw:=T.d24.fq T.hX kB ["so_far","row","number","since","left"] 3 λnd hr hu=>
  (ao (a9 nd (a7 (f2 T) hr))
   (ao (a9 nd (bg (VJ T) hr (aG 0 (ah (bM (ah (a7 (f2 T) hr) am)) (ah (a7 (f2 T) hr) (aG 3 am))))))
   (bo (ax bu (ag 4) (bM (ah (a7 (VI T) hr) am))))))
theorem X8:Fn P w K mg base 7 "inherited" kE:=T.d25.fq T.hX oJ ["book","known","so_far","heirs","number","person","day","told","office","heir"] 5 λnd hr hu=>
  (ao (a9 nd (bg (f2 T) hr (ah (aU (ag 0) (ag 4)) (ah aB am))))
   (ao (a9 nd (bg (f3 T) hr (ah (aU (ag 0) (ag 4)) am)))
   (ao (a9 nd (bM am))
   (ao (L7 [5,6] (u6 (c9 (qk rfl T.n10 T.n9 (gO ["claim","person","day"] (c9 (ag 2)) (dQ (lm (jB (aL (de hu) (bS 0) (ag 1)) (gQ (cr (a7 (TQ T) hr)))))) (bS 0)))) (HV 8 nd) gt (ao (a9 nd (G0 (NP hu) (ag 3) (aG 8 (aG 5 am)) ⟨rfl,rfl,rfl,rfl⟩))
   (bv (fE (lm (jB (aL wB (ag 9) dG) (gQ (cr (a7 (f6 T) hr))))) (bv (iZ (i:=7) (aM (aG 8 (aG 9 (aG 6 (ah dG (aG 4 am)))))))) eU)))))
   (bv (mz 7))))))
theorem X9:Fn P w K mg base 8 "after_death" jc:=T.d26.fq T.hX l5 ["book","known","so_far","heirs","number","offices","left"] 5 λnd hr hu=>
  (ao (oE ["claim"] nd (c9 (ag 2)) lH (bS 0))
   (ao (a9 nd (bg (VJ T) hr (aG 2 (aG 5 (ah (bg (f2 T) hr (ah (aU (ag 0) (ag 4)) (ah aB am))) (ah (bg (f3 T) hr (ah (aU (ag 0) (ag 4)) am)) am))))))
   (bo (ax bu (ag 6) (a7 (X8 T) hr)))))
theorem XA:Fn P w K mg base 11 "claims" qY:=T.d27.fq T.hX yZ ["book","known","so_far","heirs","number","row"] 2 λnd hr hu=>
  (ao (a9 nd (bM am))
   (ao (J6 (i:=3) nd)
   (ao (u6 (c9 (a7 (f9 T) hr)) (HV 4 nd) gt (ao (a9 nd (aU (ag 0) (ag 4)))
   (ao (fE (hZ (cr (a7 (X6 T) hr))) (bv Jl) eU)
   (bv (fE (aL (de hu) (a7 (f1 T) hr) aB) (bv (a9 nd (ax bu (ag 2) (bM (ah (bg (VI T) hr (aG 5 (ah (a7 (f3 T) hr) (aG 4 am)))) am))))) (bv (fE (aL (de hu) (a7 (f1 T) hr) aB) (bv (a9 nd (a7 (X7 T) hr))) (bv (fE (aL (de hu) (a7 (f1 T) hr) aB) (bv (J8 (i:=3) (NP hu) (a7 (f2 T) hr) (ah (a7 (f2 T) hr) (ah (a7 (f2 T) hr) am)))) (bv (a9 nd (a7 (X9 T) hr))))))))))))
   (bo (Gj Gh T.n10 (ag 2) (Cm (f10 T) (hr.in1.in1.mono (by decide)) rfl))))))
theorem VL:Fn P w K mg base 2 "is_paper" fg:=T.d28.fq T.hX qZ ["book","known","number"] 3 λnd hr hu=>
  (bo (ia (a7 (TM T) hr) (fU (cQ BS (bg (f1 T) hr (ah (aU (ag 0) (ag 2)) am)) (yj T.k0)))))
theorem VM:Fn P w K mg base 2 "is_leave" gb:=T.d29.fq T.hX ra ["book","known","number"] 3 λnd hr hu=>
  (bo (ia (a7 (TM T) hr) (fU (cQ (de hu) (bg (f1 T) hr (ah (aU (ag 0) (ag 2)) am)) aB))))
theorem TV:Fn P w K mg base 3 "is_borne" dZ:=T.d30.fq T.hX rb ["book","known","number"] 3 λnd hr hu=>
  (bo (F3 (a7 (VM T) hr) (fU (a7 (VL T) hr))))
theorem VN:Fn P w K mg base 1 "covers" iz:=T.d31.fq T.hX re ["matters","some"] 2 λnd hr hu=>
  (bo (cQ (de hu) (ax Qw (ag 0) (ag 1)) (ag 1)))
theorem VO:Fn P w K mg base 3 "reach_bar" iQ:=T.d32.fq T.hX oK ["row","above"] 2 λnd hr hu=>
  (ao (c7 (hZ (cr (bg (VN T) hr (ah (a7 (f2 T) hr) (ah (a7 (f2 T) hr) am))))) aB)
   (ao (c7 (lm (jB (aL (de hu) (a7 (f1 T) hr) aB) (gQ (aL Tu (a7 (f2 T) hr) (a7 (f2 T) hr))))) aB)
   (bo dG)))
theorem XB:Fn P w K mg base 8 "office_bar" gV:=T.d33.fq T.hX mK ["claimed","row","root"] 3 λnd hr hu=>
  (ao (c7 (hZ (cr (bg (TU T) hr (aG 0 (aG 2 (ah (a7 (f2 T) hr) (ah (a7 (f3 T) hr) am))))))) aB)
   (bo (a7 (VO T) hr)))
theorem XC:Fn P w K mg base 9 "office_bases" i6:=T.d34.fq T.hX kF ["book","known","claimed","number","row","bearing"] 4 λnd hr hu=>
  (ao (a9 nd (aU (ag 0) (ag 3)))
   (ao (oE ["root","claimed","row"] nd (Cr (a7 (f11 T) hr)) (dQ (aL F7 (a7 (XB T) hr) dG)) (ag 0))
   (bo (gO ["root","claimed","row"] (c9 (ag 5)) lH (aM (ah aB (ah (a7 (f2 T) hr) (ah (aU (bg (VH T) hr (aG 1 (aG 0 (ah (a7 (f3 T) hr) am)))) av) am))))))))
theorem XD:Fn P w K mg base 1 "ends_within" jd:=T.d35.fq T.hX l7 ["stop","bound"] 2 λnd hr hu=>
  (ao (c7 (aL F7 (ag 1) dG) hW)
   (bo (ia (cQ wB (ag 0) dG) (fU (cQ pV (ag 0) (ag 1))))))
theorem XE:Fn P w K mg base 2 "is_within" iR:=T.d36.fq T.hX oM ["one","other"] 2 λnd hr hu=>
  (bo (ia (cQ pV (bS 1) (bS 0)) (fU (bg (XD T) hr (ah (bS 0) (ah (bS 1) am))))))
theorem VP:Fn P w K mg base 5 "is_ahead" gd:=T.d37.fq T.hX rf ["book","one","other"] 3 λnd hr hu=>
  (bo (cQ (QK hu) (a7 (f7 T) hr) (a7 (f7 T) hr)))
theorem XF:Fn P w K mg base 6 "leave_bar" iS:=T.d38.fq T.hX oN ["book","number","leave","row","stretch"] 3 λnd hr hu=>
  (ao (a9 nd (aU (ag 0) (ag 1)))
   (ao (a9 nd (bg (f2 T) hr (ah (aU (ag 0) (ag 2)) (ah aB am))))
   (ao (c7 (hZ (cr (a7 (VP T) hr))) aB)
   (ao (c7 (lm (mw (hZ (cr (bg (VG T) hr (ah (a7 (f3 T) hr) (aG 4 am))))) (lI (hZ (cr (bg (XE T) hr (ah (a7 (f2 T) hr) (aG 4 am)))))))) aB)
   (bo (bg (VO T) hr (aG 3 (ah (aU (ag 0) (ag 2)) am))))))))
theorem XG:Fn P w K mg base 3 "leaves_to" kG:=T.d39.fq T.hX oP ["book","known","person","leaves"] 3 λnd hr hu=>
  (ao (oE ["number","book","known"] nd (c9 (a7 (f0 T) hr)) (dQ (cr (a7 (VM T) hr))) (ag 0))
   (bo (gO ["number","person","book"] (c9 (ag 3)) (dQ (aL (de hu) (bg (f2 T) hr (ah (aU (ag 2) (ag 0)) (ah aB am))) (ag 1))) (ag 0))))
theorem XH:Fn P w K mg base 7 "leave_bases" je:=T.d40.fq T.hX lA ["book","known","number","leaves"] 3 λnd hr hu=>
  (ao (a9 nd (bg (XG T) hr (aG 0 (aG 1 (ah (bg (f2 T) hr (ah (aU (ag 0) (ag 2)) (ah aB am))) am)))))
   (bo (gO ["leave","book","number"] (c9 (ag 3)) (dQ (aL F7 (a7 (XF T) hr) dG)) (aM (ah aB (aG 0 am))))))
theorem XI:Fn P w K mg base 6 "copy_bases" jI:=T.d41.fq T.hX mL ["book","known","number","of"] 3 λnd hr hu=>
  (ao (a9 nd (bg (f2 T) hr (ah (aU (ag 0) (ag 2)) (ah aB am))))
   (ao (c7 (lm (jB (cr (a7 (VL T) hr)) (gQ (cr (a7 (VP T) hr))))) (bM (ah (aM (ah aB (aG 3 am))) am)))
   (bo (bM am))))
theorem XJ:Fn P w K mg base 10 "bases_by" fj:=T.d42.fqL T.hX rg ["book","known","claimed","number","found"] 4 λnd hr hu j9=>
  (ao (c7 (hZ (cr (a7 (TV T) hr))) (bM am))
   (ao (c7 (aL (de hu) (bg (f1 T) hr (ah (aU (ag 0) (ag 3)) am)) aB) (a7 (XI T) hr))
   (ao (a9 nd (ax bu (a7 (XC T) hr) (a7 (XH T) hr)))
   (bo (Gj (G4 hu) T.n10 (ag 4) (wQ (cap:=[]) (N':=["base"]) (by decide +kernel) T.l42 j9 rfl rfl (Cj (by decide +kernel) rfl rfl rfl rfl rfl) rfl (.nil rfl) rfl hr.in1.in1 (λ_ _ _ _=>rfl) λ_ _ _ _ hr=>have hu:=D8 hr;(aM (ah (aU (ag 0) (Ld Ly av)) (aG 0 am)))))))))
theorem XM:Fn P w K mg base 8 "may_call" lR:=T.d43.fq T.hX rh ["book","known","claimed","call","number","row","caller","over"] 5 λnd hr hu=>
  (ao (a9 nd (aU (ag 0) (ag 4)))
   (ao (a9 nd (bg (f2 T) hr (ah (aU (ag 0) (ag 3)) (ah aB am))))
   (ao (c7 (aL (de hu) (ag 6) (a7 (f2 T) hr)) hW)
   (ao (c7 (aL (de hu) (a7 (f1 T) hr) aB) hW)
   (ao (oE ["root","row"] nd (Cr (a7 (f11 T) hr)) (dQ (cr (bg (VN T) hr (ah (a7 (f2 T) hr) (ah (a7 (f2 T) hr) am))))) (ag 0))
   (bo (bW L0 T.n0 L3 (ah (gO ["root","claimed","caller","book","call"] (c9 (ag 7)) lH (bg (TU T) hr (aG 1 (aG 0 (aG 2 (ah (bg (f3 T) hr (ah (aU (ag 3) (ag 4)) am)) am)))))) am))))))))
theorem XN:Fn P w K mg base 10 "calls_in" jJ:=T.d44.fq T.hX rj ["book","known","claimed","call","number","day","row"] 6 λnd hr hu=>
  (ao (a9 nd (aU (ag 0) (ag 3)))
   (ao (c7 (lm (mw (aL (AA hu) (a7 (f1 T) hr) aB) (mw (aL (AA hu) (a7 (f2 T) hr) (ag 4)) (lI (aL F5 (a7 (f3 T) hr) (ag 5)))))) hW)
   (bo (ia (a7 (TN T) hr) (fU (a7 (XM T) hr))))))
theorem XO:Fn P w K mg base 11 "calls_by" lS:=T.d45.fq T.hX rm ["book","known","claimed","number","day"] 5 λnd hr hu=>
  (ao (c7 (hZ (cr (a7 (TV T) hr))) (bM am))
   (bo (gO ["call","book","known","claimed","number","day"] (c9 (a7 (f0 T) hr)) (dQ (cr (a7 (XN T) hr))) (ag 0))))
theorem XQ:Fn P w K mg base 12 "is_fit" mM:=T.d46.fq T.hX za ["book","known","claimed","number","day"] 5 λnd hr hu=>
  (ao (c7 (lm (mw (hZ (cr (a7 (TN T) hr))) (lI (aL F5 (bg (f3 T) hr (ah (aU (ag 0) (ag 3)) am)) (ag 4))))) hW)
   (bo (cQ (de hu) (bW jU T.n4 jV (ah (a7 (XO T) hr) am)) av)))
theorem VQ:Fn P w K mg base 13 "links" mN:=T.d47.fq T.hX C4 ["book","known","day","claimed","found","number"] 3 λnd hr hu=>
  (ao (IZ (i:=3) nd (a7 (XA T) hr))
   (ao (Cq (i:=4) nd)
   (ao (u6 (c9 (a7 (f9 T) hr)) (HV 5 nd) gt (bv (fE (lm (jB (cr (a7 (TV T) hr)) (gQ (cr (a7 (XQ T) hr))))) (bv (G8 (i:=4) (NP hu) (a7 (XJ T) hr) (ag 5))) eU)))
   (bv (mz 4)))))
theorem XR:Fn P w K mg base 1 "bears" mO:=T.d48.fq T.hX C5 ["base","among"] 2 λnd hr hu=>
  (bo (F3 (cQ (de hu) (bS 0) aB) (fU (NW (NP hu) (bS 0) (ag 1)))))
theorem TW:Fn P w K mg base 2 "stood" jK:=T.d49.fq T.hX C6 ["found","stands","number","resting"] 1 λnd hr hu=>
  (ao (Cq (i:=1) nd)
   (ao (u6 (yQ (ag 0)) (Aj rfl (jk (HV 2 nd) (jk (HV 3 nd) wa))) QB (bv (fE (cr (bW L0 T.n0 L3 (ah (gO ["base","stands"] (c9 (ag 3)) lH (a7 (XR T) hr)) am))) (bv (J7 (i:=1) (NP hu) hW (ag 2))) eU)))
   (bv (mz 1))))
theorem Rb:Fn P w K mg base 14 "standing" cB:=T.d50.fq T.hX rq ["book","known","day"] 3 λnd hr hu=>
  (bo (bW (Ea rfl) T.n10 qj (ah (bg (TW T) hr (ah (a7 (VQ T) hr) am)) am)))
theorem XS:Fn P w K mg base 14 "leaning" nR:=T.d51.fq T.hX uH ["book","known","day","number","found","left"] 4 λnd hr hu=>
  (ao (a9 nd (a7 (VQ T) hr))
   (ao (a9 nd (bg (TW T) hr (ah (jn (Gx rfl) T.n1 Gw (ah (gO ["each","resting","number"] (yQ (ag 4)) (dQ (aL (AA hu) (ag 0) (ag 2))) (aM (aG 0 (aG 1 am)))) am)) am)))
   (bo (bW Gd T.n10 qj (ah (gO ["each","left"] (JG (a7 (TW T) hr)) (dQ (DQ (NP hu) (ag 0) (ag 1))) (ag 0)) am)))))
theorem Ht:Fn P w K mg base 1 "_law_cell" cY:=T.d52.fq T.hX zd ["_law_script","_law_k","_law_cell_here"] 2 λnd hr hu=>
  (ao (a9 nd av)
   (ao (fE (aL F5 (bW jU T.n4 jV (aG 0 am)) av) (bv (a9 nd (aU (ag 0) (ax bD (ag 1) (bW jU T.n4 jV (aG 0 am)))))) eU)
   (ao (a9 nd (ax bD (ax cV (ax bu (ax bu (ax bD (ag 2) av) (ax cV av (ag 1))) av) av) av))
   (bo (ax bD (ax cV (ag 2) (ax bu (ax bu (ax bD (ag 2) av) (ag 1)) av)) av)))))
theorem XT:Fn P w K mg base 1 "_law_names" nS:=T.d53.fq T.hX uI ["_law_cell_here","_law_letters","_law_base","_law_at","_law_names_here","_law_k","_law_name"] 1 λnd hr hu=>
  (ao (a9 nd aB)
   (ao (oE ["_law_k","_law_letters","_law_cell_here"] nd (FF T.n8 (ax bu av (ax bD (ag 0) av))) lH (aU (ag 1) (ax bD (ax bN (ag 2) (ax bu av (ax cV av (ag 0)))) av)))
   (ao (a9 nd (ax bD (ax bN (ag 0) av) (bW jU T.n4 jV (aG 2 am))))
   (ao (a9 nd (bM am))
   (ao (G5 (m5 T.n8 av) (HV 5 nd) gt (ao (a9 nd (jn NG T.n5 Ny (aG 2 am)))
   (ao (FP (i:=6) (aU (ag 1) (ax bD (ax bu (ax bN (ag 0) av) (ax cV av (ag 5))) av)) (ag 3))
   (bv (iZ (i:=4) (NB PySem.F.slot_str_join PySem.F.type_str_join ND FM aB (ag 6)))))))
   (ao (fE (aL (de hu) (ax bD (ax bN (ag 0) av) av) av) (bv (FP (i:=4) (bS 4) av)) eU)
   (bv (mz 4))))))))
theorem VR:Fn P w K mg base 1 "_law_stretch" gE:=T.d54.fq T.hX oQ ["_law_cell_here","_law_day","_law_measure","_law_some"] 3 λnd hr hu=>
  (ao (a9 nd (bM (ah (aM (bT (ah dG am))) (ah (aM (aG 1 (ah dG am))) (ah (aM (aG 1 (ah (ax bu (ag 1) (ax cV av (ag 2))) am))) (ah (aM (bT (ah (ax bu (ag 1) (ax cV av (ag 2))) am))) (ah (aM (bT (ah (ax cV av (ag 2)) am))) am)))))))
   (ao (a9 nd (ax bu (ag 3) (bM (ah (aM (ah (ax bu (ag 1) (ag 2)) (ah (ax bu (ag 1) (ax cV av (ag 2))) am))) (ah (aM (ah (ax bN (ag 1) av) (ah (ax bu (ag 1) (ax cV av (ag 2))) am))) (ah (aM (bT (ah dG am))) am))))))
   (bo (aU (ag 3) (ax bD (ag 0) av)))))
theorem XU:Fn P w K mg base 2 "_law_deed" rz:=T.d55.fq T.hX ze ["_law_many","_law_cell_here","_law_other","_law_names_here","_law_day","_law_had","_law_measure","_law_kinds","_law_word","_law_by","_law_person","_law_of","_law_matters","_law_further","_law_start"] 7 λnd hr hu=>
  (ao (a9 nd (ax bu (ax bu (Gy (bM (ah aB am)) av) (Gy (bM (ah aB am)) av)) (bM (ah aB (ah aB (ah aB (ah aB (ah aB am))))))))
   (ao (a9 nd (ax bu (ag 7) (bM (ah aB (ah aB (ah aB (ah aB (ah aB (ah aB am)))))))))
   (ao (a9 nd (aU (ag 7) (ax bD (ag 1) av)))
   (ao (a9 nd (aU (ag 5) (ax F4 (Ld Ly av) (ax bD (ax bN (ag 1) av) (bW Q4 T.n7 Q1 (bT (ah (bW jU T.n4 jV (aG 5 am)) am)))))))
   (ao (fE (aL (de hu) (ax bD (ax bN (ag 1) av) av) av) (bv (a9 nd (aU (ag 3) (ax bD (ax bN (ag 1) av) av)))) eU)
   (ao (a9 nd (aU (ag 3) (ax bD (ax bN (ag 1) av) av)))
   (ao (a9 nd (bW Q3 T.n6 Q0 (bT (ah (ax F4 (ax F4 (ag 0) av) (ax bD (ag 2) av)) am))))
   (ao (fE (aL (de hu) (ax bD (ax bN (ag 2) av) av) av) (bv (a9 nd (ax bD (ax bN (ag 2) av) av))) eU)
   (ao (fE (aL (de hu) (ag 8) aB) (ao (a9 nd (by refine aU (hs:=?_) ?_ ?_;refine bM ?_;refine bT ?_;refine bT ?_;refine bT ?_;refine bT ?_;refine bT ?_;refine bT ?_;refine bT ?_;refine bT ?_;exact am;exact(ax bD (ax bN (ag 1) av) av);intro _ _;rfl))
   (ao (a9 nd (ax bD (ax bN (ag 2) av) (aU (bM (bT (bT (bT (bT am))))) (ax bD (ax bN (ag 2) av) av))))
   (bo (aM (aG 8 (aG 4 (aG 9 (aG 10 (aG 12 (ah (bg (VR T) hr (ah (ax bN (ag 2) av) (aG 4 (aG 6 am)))) (aG 13 am))))))))))) eU)
   (ao (fE (lm (mw (aL (de hu) (ag 8) aB) (lI (aL (de hu) (ag 8) aB)))) (ao (a9 nd (by refine aU (hs:=?_) ?_ ?_;refine bM ?_;refine bT ?_;refine bT ?_;refine bT ?_;refine bT ?_;refine bT ?_;refine bT ?_;refine bT ?_;refine bT ?_;exact am;exact(ax bD (ax bN (ag 1) av) av);intro _ _;rfl))
   (ao (a9 nd (aM (aG 8 (aG 4 (aG 9 (aG 12 (ah (bg (VR T) hr (ah (ax bN (ag 2) av) (aG 4 (aG 6 am)))) (ah (aU (bM (ah dG (aG 10 am))) (ax bD (ax bN (ag 2) av) av)) am))))))))
   (ao (c7 (aL (de hu) (ag 8) aB) (ax wS (ag 14) (aM (aG 11 (ah (aM (ah (aM (bT (aG 10 am))) am)) am)))))
   (bo (ax wS (ag 14) (aM (ah (aM (aG 10 am)) am))))))) eU)
   (ao (c7 (aL BS (ag 8) (aM (ah aB (ah aB am)))) (aM (aG 8 (aG 4 (aG 9 (aG 11 am))))))
   (ao (c7 (aL (de hu) (ag 8) aB) (aM (aG 8 (aG 4 (ah (aU (ag 3) (ax bu av (ax bD (ag 2) av))) (aG 10 am))))))
   (ao (c7 (aL (de hu) (ag 8) aB) (aM (aG 8 (aG 4 (aG 9 (ah (aU (ag 3) (ax bu av (ax bD (ag 2) av))) (aG 10 (ah (ax bu (ag 4) (ax cV (ax bD (ax bN (ag 2) av) av) (ag 6))) am))))))))
   (ao (c7 (aL (de hu) (ag 8) aB) (aM (aG 8 (aG 4 (aG 9 (ah (aU (ag 3) (ax bu av (ax bD (ag 2) av))) (aG 10 am)))))))
   (bo (aM (aG 8 (aG 4 (aG 9 am)))))))))))))))))))
theorem XV:Fn P w K mg base 3 "_law_rows" r0:=T.d56.fq T.hX zf ["_law_script","_law_names_here","_law_measure","_law_most","_law_head","_law_rows_here","_law_had","_law_k","_law_rule","_law_matters","_law_late","_law_further","_law_cell_here","_law_day","_law_deed_here"] 4 λnd hr hu=>
  (ao (a9 nd (bg (Ht T) hr (aG 0 (bT am))))
   (ao (a9 nd (bM am))
   (ao (a9 nd (bM am))
   (ao (G5 (m5 T.n8 (ax bu av (ax bD (ag 4) av))) (HV 7 nd) gt (ao (a9 nd (aU (bM (ah aB (ah aB (ah aB am)))) (ax bD (ax bN (ag 4) (ax bu av (ax cV av (ag 7)))) av)))
   (ao (a9 nd (aU (bM (bT (bT (bT (bT am))))) (ax bD (ax bN (ag 4) (ax bu av (ax cV av (ag 7)))) av)))
   (ao (a9 nd (ax cV (ax cV (jn QE T.n3 Q2 (ah (cQ (de hu) (ax bD (ax bN (ag 4) (ax bu av (ag 7))) av) av) am)) av) (ag 2)))
   (ao (a9 nd (ax bD (ax bN (ag 4) (ax bu av (ax cV av (ag 7)))) (aU (bM (bT (bT (bT am)))) (ax bD (ax bN (ag 4) (ax bu av (ag 7))) av))))
   (ao (iZ (i:=5) (aM (aG 10 (ah (aM (ah aB (ah (aU (ag 1) (ax bu av (ag 7))) (aG 9 (aG 11 (aG 8 am)))))) am))))
   (ao (iZ (i:=5) (aM (bT (ah (aM (ah aB (bT (ah (aU (ag 1) (ax bu av (ag 7))) (ah (aU (ag 1) (ag 7)) am))))) am))))
   (bv (iZ (i:=6) (aU (ag 1) (ag 7)))))))))))
   (ao (G5 (m5 T.n8 (ax bu av (ax bD (bg (Ht T) hr (aG 0 (bT am))) (ag 3)))) (HV 7 nd) gt (ao (a9 nd (bg (Ht T) hr (aG 0 (ah (ax bu av (ag 7)) am))))
   (ao (a9 nd (ax cV (ax bu (ax bN (ag 7) av) (ax bD (ax bN (ag 12) av) av)) (ag 2)))
   (ao (a9 nd (bg (XU T) hr (ah (bW jU T.n4 jV (aG 5 am)) (ah (bg (Ht T) hr (aG 0 (ah (ax bu av (ag 7)) am))) (ah (bg (Ht T) hr (aG 0 (ah (ax bu av (ag 7)) am))) (aG 1 (aG 13 (aG 6 (aG 2 am)))))))))
   (ao (fE (aL BS (bS 14) (aM (ah aB (ah aB am)))) (bv (iZ (i:=6) (bS 14))) eU)
   (ao (fE (aL (de hu) (bS 14) aB) (bv (iZ (i:=6) (bS 14))) eU)
   (bv (iZ (i:=5) (aM (ah (ax bu (ag 13) (ax cV (by refine aU (hs:=?_) ?_ ?_;refine bM ?_;refine bT ?_;refine bT ?_;refine bT ?_;refine bT ?_;refine bT ?_;refine bT ?_;exact am;exact(ax bD (ax bN (ag 12) av) av);intro _ _;rfl) (ag 2))) (aG 14 am)))))))))))
   (bo (jn Jm T.n11 Je (aG 5 am))))))))
theorem head {fa:Addr}(Uw:mg "law" = some (.ref fa)):∃fd:FuncData,(∀(s:Shared)(u:Value),BindsTo s fd ⟨[u],[]⟩ [("_law_script",u)])/\∀base:Heap,K.In base->base.Ns mainGlobals mg->t7 P w K mg base zZ 15 fa fd ["_law_script"] (Jb K F_law):=by
 have S:FnScope ["_law_script","_law_names_here","_law_measure","_law_rows_here","_law_known","_law_day","_law_stand","_law_number","_law_by","_law_lean","_law_longer","_law_before","_law_kept","_law_paper","_law_after"] ["_law_script"] (aS (fN 68)):=by refine⟨rfl,rfl,rfl,?_,rfl,?_,?_⟩<;>decide +kernel
 have ⟨h,X,G⟩:=T.hX;exact eE.law T.d57 X G Uw S (λ_ _ _ _ _ _ u=>rfl) λbase kb nb f eJ A outer s H E hr=>have hu:=D8 hr;have nd:=S.nd;(show xz _ _ LG from
  (ao (a9 nd (bg (XT T) hr (ah (bg (Ht T) hr (aG 0 (bT am))) am)))
   (ao (a9 nd (aU (bM (bT (bT (bT am)))) (ax bD (bg (Ht T) hr (aG 0 (bT am))) av)))
   (ao (a9 nd (bg (XV T) hr (aG 0 (aG 1 (aG 2 (bT am))))))
   (ao (a9 nd (aU (bM (bT (ah (ax cV (ax bD (ax bN (bg (Ht T) hr (aG 0 (bT am))) av) av) (ag 2)) am))) (ax bN (ax bD (bg (Ht T) hr (aG 0 (bT am))) av) av)))
   (ao (a9 nd av)
   (ao (a9 nd (ax cV (ax bD (bg (Ht T) hr (aG 0 (bT am))) av) (ag 2)))
   (ao (a9 nd (a7 (Rb T) hr))
   (ao (L7 [6] (u6 (c9 (yr (ag 6) BN (BO av))) (HV 7 nd) gt (ao (a9 nd (aU (aU (aU (ag 3) (ag 7)) av) av))
   (bv (fE (lm (jB (cr (a7 (f6 T) hr)) (gQ (cr (a7 (f8 T) hr))))) (ao (a9 nd (a7 (XS T) hr))
   (ao (a9 nd (ax wS (ag 3) (aM (ah (aM (aG 5 (ah (aM (ah aB (aG 5 (aG 8 (aG 7 am))))) am))) am))))
   (ao (c7 (aL (AA hu) (a7 (Rb T) hr) (gO ["_law_k","_law_lean"] (c9 (ag 6)) (dQ (aL m4 (ag 0) (ag 1))) (ag 0))) hW)
   (ao (a9 nd (ax bD (bg (Ht T) hr (aG 0 (bT am))) (ax bu (ag 5) av)))
   (ao (a9 nd (a7 (Rb T) hr))
   (ao (c7 (lm (jB (aL yk (ag 11) (ag 5)) (gQ (aL (AA hu) (a7 (Rb T) hr) (ag 12))))) hW)
   (ao (a9 nd (aM (ah aB (aG 5 (aG 8 (bT (ah (aM (bT (ah dG am))) (ah dG (ah (aM (aG 8 am)) am)))))))))
   (ao (a9 nd (bg (Rb T) hr (ah (ax wS (ag 3) (aM (ah (aM (aG 5 (aG 13 am))) am))) (aG 4 (aG 5 am)))))
   (bv (c7 (aL (AA hu) (gO ["_law_k","_law_rows_here"] (c9 (ag 14)) (dQ (aL yk (ag 0) (bW jU T.n4 jV (aG 1 am)))) (ag 0)) (ag 6)) hW)))))))))) eU)))))
   (bo hW))))))))))
end
end Lw
end
namespace PySem.W.Fast
def tw6244471592489079134:=()
def tw6881363359327742306:=()
def tw3332232452235449507:=()
def tw1440419212951956987:=()
def tw2371669458739778975:=()
def tw4090112818777907914:=()
def tw13737991449382976632:=()
def tw6033997303247534004:=()
def tw10810189069360563609:=()
def tw8927321002229454862:=()
def tw9492644638099955541:=()
def tw2472458762335671611:=()
def tw8510358067583881337:=()
def tw17473290407047759337:=()
def tw11499685662000968407:=()
def tw18329483635280259345:=()
def tw17511135022818319731:=()
def tw3531367590332956143:=()
def tw7210375260318662396:=()
def tw14565611797024706815:=()
def tw14460607643519843509:=()
def tw7315649101717946618:=()
def tw5180804693971660472:=()
def tw3138706900115252639:=()
def tw10516658162913289069:=()
def tw8365128186862092900:=()
def tw7903228372968142047:=()
def tw16623508527525221109:=()
def tw9869562794137703730:=()
def tw2533300080367144435:=()
def tw14101053130243224810:=()
def tw15150090001403996898:=()
def tw516344274918509572:=()
def tw7592463418814224129:=()
def tw13354387018938236556:=()
def tw12705028679813909772:=()
def tw3333654301388480763:=()
def tw13474806052058489627:=()
def tw5024896802780358001:=()
def tw6922381115899645032:=()
def tw17541679705687440992:=()
def tw1806231694008539282:=()
def tw11361351622514081979:=()
def tw11720375152437705011:=()
def tw17838797082559503302:=()
def tw15366409272829978429:=()
def tw7856089045517650706:=()
def tw13850531189515717202:=()
def tw12735406893840521157:=()
def tw5676133652895550536:=()
def tw15020653894943759010:=()
def tw6428619256816620217:=()
def tw1995850759874376979:=()
def tw7356279595822553204:=()
def tw15788214239587576161:=()
def tw10276058886225740151:=()
def tw13511357886068715414:=()
def tw16887803511238995338:=()
def tw3175953227552236287:=()
def tw6479480269651216217:=()
def tw7020438999818220389:=()
def tw12035906336664270755:=()
def tw13651171934309351266:=()
def tw369675395456831763:=()
def tw8266606477593756058:=()
def tw14174730267289954200:=()
def tw8192881273323563318:=()
def tw4517531186666563447:=()
def tw17581080889441589988:=()
def tw14367925649772528998:=()
def tw1315149010708359391:=()
def tw8423522125818336114:=()
def tw5197668015337201011:=()
def tw2140463980452890874:=()
def tw1693780231694190222:=()
def tw12238595071448890736:=()
def tw12060709913192559204:=()
def tw3966034567705875220:=()
def tw9208026657186708555:=()
def tw5875537128224459717:=()
def tw6083071630728077948:=()
def tw3455544653563389301:=()
def tw5085808856488801375:=()
def tw7906046282289154010:=()
def tw14539550421631104890:=()
def tw8102677990775737766:=()
def tw14028695596648647390:=()
def tw11154321910040792390:=()
def tw17441537299440878566:=()
def tw11802210366498271402:=()
def tw7896293063951553928:=()
def tw14882049562817032787:=()
def tw4604822484390889844:=()
def tw16134160881697017541:=()
def tw2767752079966926590:=()
def tw364214544098599952:=()
def tw9953088994016213680:=()
def tw3866307121832313217:=()
def tw11872192831816124620:=()
def tw12038211648478830974:=()
def tw4087085535783319436:=()
def tw11255857951787222523:=()
def tw6026869915308022308:=()
def tw3681184217201932181:=()
def tw14579321236149354687:=()
def tw9609241422375032936:=()
def tw2404328883161141002:=()
def tw9422359885014731359:=()
def tw15662740126480679105:=()
def tw17383426997386190665:=()
def tw575689622735619973:=()
def tw14753851241652719308:=()
def tw4551357312388234236:=()
def tw14602832517534702443:=()
def tw17899499005385137414:=()
def tw17402442735667796833:=()
def tw17525352467808130638:=()
def tw7259594795204141794:=()
def tw2032304176359542021:=()
def tw5376183399063781765:=()
end PySem.W.Fast
open PySem PySem.W PyProof.Rows
set_option maxRecDepth 100000 in
set_option maxHeartbeats 0 in
theorem PySem.Challenge.cw_sealchain_k38_whole_what_is_called_in_fa_holds : PySem.Challenge.rw_sealchain_k38_whole_what_is_called_in_fa.Holds := by
 w_on; o_law; k_head; (case hw => w_witness2)
 k_fill
 refine' DL.walkD (l := PySem.Challenge.rw_sealchain_k38_whole_what_is_called_in_fa) (k := 15) (x := ("_law_script" : PySem.Str)) (f := Lw.F_law) (L := [(("in_order" : PySem.Str), ?t0), (("has_seal" : PySem.Str), ?t1), (("is_first_death" : PySem.Str), ?t2), (("bases_by" : PySem.Str), ?t3)]) rfl rfl ⟨rfl, by decide, by decide⟩ (fun w h Y => PySem.W.km_in_of Y) ?T ?D ?F Lw.law_true
 case T =>
  intro w
  refine' DL.tabs_fit ?h0 ?h1 ?h2 ?h3 ?ap ?nt
  iterate 4 (refine' DL.tab_yes ?a ?l ?c ?m ?v; (case a => k_is); (case l => k_is); (case c => exact rfl); (case m => k_is); (case v => exact rfl))
  (case ap => decide)
  (case nt => kernel_rfl)
 case D => kernel_rfl
 case F =>
  intro w mg fa h KX G hmg
  refine' Lw.head ⟨⟨h, KX, G⟩, ?d0, ?d1, ?d2, ?d3, ?d4, ?d5, ?d6, ?d7, ?d8, ?d9, ?d10, ?d11, ?d12, ?d13, ?d14, ?d15, ?d16, ?d17, ?d18, ?d19, ?d20, ?d21, ?d22, ?d23, ?d24, ?d25, ?d26, ?d27, ?d28, ?d29, ?d30, ?d31, ?d32, ?d33, ?d34, ?d35, ?d36, ?d37, ?d38, ?d39, ?d40, ?d41, ?d42, ?d43, ?d44, ?d45, ?d46, ?d47, ?d48, ?d49, ?d50, ?d51, ?d52, ?d53, ?d54, ?d55, ?d56, ?d57, PySem.W.mg_none_of KX G ?z0, PySem.W.mg_none_of KX G ?z1, PySem.W.mg_none_of KX G ?z2, PySem.W.mg_none_of KX G ?z3, PySem.W.mg_none_of KX G ?z4, PySem.W.mg_none_of KX G ?z5, PySem.W.mg_none_of KX G ?z6, PySem.W.mg_none_of KX G ?z7, PySem.W.mg_none_of KX G ?z8, PySem.W.mg_none_of KX G ?z9, PySem.W.mg_none_of KX G ?z10, PySem.W.mg_none_of KX G ?z11, DL.kc_of KX G ?k0, DL.kd_of KX G ?k1, DL.kc_of KX G ?k2, ?q0, ?q1, ?q2, ?q3⟩ hmg
  iterate 58 (refine' DL.def_mk ?a ?l ?c ?k; (case a => k_is); (case l => k_is); (case c => k_is); (case k => k_is))
  (case z0 => k_is)
  (case z1 => k_is)
  (case z2 => k_is)
  (case z3 => k_is)
  (case z4 => k_is)
  (case z5 => k_is)
  (case z6 => k_is)
  (case z7 => k_is)
  (case z8 => k_is)
  (case z9 => k_is)
  (case z10 => k_is)
  (case z11 => k_is)
  (case k0 => refine' DL.const_tup ?e ?l ?v; (case e => k_is); (case l => k_is); (case v => decide +kernel))
  (case k1 => refine' DL.const_dict ?e ?l ?r ?s; (case e => k_is); (case l => k_is); (case r => refine' (DL.CRows.tup rfl ?l0 ?f0 (DL.CRows.tup rfl ?l1 ?f1 (DL.CRows.tup rfl ?l2 ?f2 (DL.CRows.tup rfl ?l3 ?f3 (DL.CRows.tup rfl ?l4 ?f4 (DL.CRows.tup rfl ?l5 ?f5 (DL.CRows.tup rfl ?l6 ?f6 (DL.CRows.tup rfl ?l7 ?f7 (DL.CRows.tup rfl ?l8 ?f8 (DL.CRows.tup rfl ?l9 ?f9 (DL.CRows.tup rfl ?l10 ?f10 (DL.CRows.tup rfl ?l11 ?f11 DL.CRows.nil)))))))))))); (case l0 => k_is); (case f0 => decide +kernel); (case l1 => k_is); (case f1 => decide +kernel); (case l2 => k_is); (case f2 => decide +kernel); (case l3 => k_is); (case f3 => decide +kernel); (case l4 => k_is); (case f4 => decide +kernel); (case l5 => k_is); (case f5 => decide +kernel); (case l6 => k_is); (case f6 => decide +kernel); (case l7 => k_is); (case f7 => decide +kernel); (case l8 => k_is); (case f8 => decide +kernel); (case l9 => k_is); (case f9 => decide +kernel); (case l10 => k_is); (case f10 => decide +kernel); (case l11 => k_is); (case f11 => decide +kernel)); (case s => decide +kernel))
  (case k2 => refine' DL.const_tup ?e ?l ?v; (case e => k_is); (case l => k_is); (case v => decide +kernel))
  iterate 4 (refine' DL.lam_mk ?a ?l ?c ?m ?v1 ?v2 ?v3 ?v4 ?v5 ?v6 ?v7; (case a => k_is); (case l => k_is); (case c => exact rfl); (case m => k_is); (case v1 => exact rfl); (case v2 => exact rfl); (case v3 => exact rfl); (case v4 => exact rfl); (case v5 => exact rfl); (case v6 => exact rfl); (case v7 => decide))

