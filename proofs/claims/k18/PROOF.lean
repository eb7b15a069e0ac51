import PyProof.Rows.All
import Wide.All
import OpenK.AllK
import Wide.FinOn
import Lean
import PyProof.EqAt
import PyProof.EqKinds
import PyProof.TupleCall
import PyProof.AttrMissHeap
import PySem.Challenge.RW_sealchain_k18_who_holds
set_option Elab.async false
set_option linter.all false
set_option maxRecDepth 100000
set_option bootstrap.genMatcherCode false
set_option compiler.extract_closed false
set_option maxHeartbeats 40000000
theorem mY {α:Type _}{a:α}(l:List α){k:List α}(h:a∈k):a∈l++k:=List.mem_append_right l h
theorem mZ {α:Type _}(b:α){a:α}{l:List α}(h:a∈l):a∈b::l:=List.mem_cons_of_mem b h
theorem mX {α:Type _}{a:α}{l:List α}:a∈a::l:=List.mem_cons_self
theorem oX {α β:Type _}{o:Option α}{f:α->Option β}{b:β}(h:o.bind f=some b):∃a,o=some a/\f a=some b:=Option.bind_eq_some_iff.mp h
theorem oY {α β:Type _}{f:α->β}{o:Option α}{b:β}(h:o.map f=some b):∃a,o=some a/\f a=b:=Option.map_eq_some_iff.mp h
def wX:=@PySem.wpAny_bind
def wY:=@PySem.wpAny_pure
def vZ:=@PySem.Heap.get?_push_of_some
def vY:=@PySem.Heap.get?_push_size
def vX:=@PySem.Heap.lt_size
def vW:=@PySem.Heap.SameBut.update
theorem vV {α:Type _}{l:List α}{i:Nat}{a:α}(h:l[i]? = some a):∃h:i<l.length,l[i]=a:=List.getElem?_eq_some_iff.mp h
theorem vU {α:Type _}{l:List α}{i:Nat}(h:i<l.length):l[i]? = some l[i]:=List.getElem?_eq_getElem h
theorem vT (n:Nat):n<=n:=Nat.le_refl n
theorem vS {a b:Nat}(h:a<b):a≠b:=Nat.ne_of_lt h
theorem vR {n m k:Nat}:n<=m->m<=k->n<=k:=Nat.le_trans
theorem vQ {n m k:Nat}:n<m->m<=k->n<k:=Nat.lt_of_lt_of_le
theorem vP {α:Type _}{a b:α}{l:List α}(h:b∈a::l):b=a∨b∈l:=List.mem_cons.mp h
theorem vO {α β:Type _}{b:β}{f:α->β}{l:List α}(h:b∈l.map f):∃a,a∈l/\f a=b:=List.mem_map.mp h
theorem vN {α:Type _}{a:α}{p:α->Bool}{l:List α}(h:a∈l.filter p):a∈l/\p a=true:=List.mem_filter.mp h
theorem vM {α:Type _}(p:α->Bool)(l:List α):(l.filter p).length<=l.length:=List.length_filter_le p l
theorem vL {α:Type _}{l:List α}{i:Nat}{a:α}(h:l[i]? = some a):a∈l:=List.mem_of_getElem? h
theorem vK {α:Type _}{a b:α}(h:some a=some b):a=b:=Option.some.inj h
theorem vJ {α β:Type _}(a:α)(f:α->Option β):(some a).bind f=f a:=rfl
theorem vI {α β:Type _}{as:List α}(f:α->β):(as.map f).length=as.length:=List.length_map f
theorem vH {α:Type _}{l:List α}:l.toArray.size=l.length:=rfl
theorem vG {α:Type _}{xs:Array α}:xs.toList.length=xs.size:=rfl
theorem vF {α:Type _}{l:List α}{i:Nat}{a:α}:l.getD i a=l[i]?.getD a:=List.getD_eq_getElem?_getD
theorem vE {α:Type _}{a:α}{as:List α}:(a::as).length=as.length+1:=rfl
theorem vD (a b:Bool):((a && b)=true)=(a=true/\b=true):=Bool.and_eq_true a b
theorem vC {α:Type _}{i j:Nat}{a:α}{l:List α}(h:i≠j):(l.set i a)[j]? = l[j]?:=List.getElem?_set_ne h
theorem vB {α β:Type _}{f:α->β}{l:List α}{i:Nat}:(l.map f)[i]? = Option.map f l[i]?:=List.getElem?_map
theorem vA {α:Type _}{as bs:List α}:(as++bs).length=as.length+bs.length:=List.length_append
theorem uZ {α β:Type _}{f:α->β}{a:α}{l:List α}:(a::l).map f=f a::l.map f:=rfl
theorem uY:false≠true:=Bool.false_ne_true
theorem uX {α β:Type _}{f:α->β}{l l':List α}:(l++l').map f=l.map f++l'.map f:=List.map_append
theorem uW:(false=true)=False:=Bool.false_eq_true
theorem uV {α:Type _}{x:Option α}(h:x.isSome=true):∃a,x=some a:=Option.isSome_iff_exists.mp h
theorem uU {α:Type _}{a b:α}(h:a∈[b]):a=b:=List.mem_singleton.mp h
theorem uT {α β:Type _}{b:β}{f:α->β}{l:List α}(h:∃a,a∈l/\f a=b):b∈l.map f:=List.mem_map.mpr h
theorem uS {α:Type _}{l:List α}{p:α->Bool}(h:l.all p=true):∀x∈l,p x=true:=List.all_eq_true.mp h
theorem uR {α:Type _}(as:List α):as++[]=as:=List.append_nil as
theorem uO (n:Nat):0<=n:=Nat.zero_le n
noncomputable section
open PySem.W (Frag kia_one fnOf nsIn mg_of)
namespace L2
open PySem PySem.Spec PyProof.Rows
abbrev bu:=Sum Int Str
noncomputable def oG:bu->Value->Bool
 |.inl k,v=>Value.isInt k v
 |.inr x,v=>Value.isStrOf x v
noncomputable def IS (w:World):bu->Int
 |.inl k=>hashInt k
 |.inr x=>hashStr w x
theorem bG:∀ {k:bu}{v:Value},oG k v=true->(∃i t,k=Sum.inl i/\v=Value.int i t)∨(∃x t,k=Sum.inr x/\v=Value.str x t)
 |.inl i,v,h=>by
  obtain⟨t,e⟩:=Value.isInt_shape (k:=i) (v:=v) h;exact .inl ⟨i,t,rfl,e⟩
 |.inr x,v,h=>by
  obtain⟨t,e⟩:=Value.isStrOf_shape (x:=x) (v:=v) h;exact .inr ⟨x,t,rfl,e⟩
theorem xF (i:Int)(t:Tok):oG (.inl i) (.int i t)=true:=by simp[oG,Value.isInt]
theorem xG (x:Str)(t:Tok):oG (.inr x) (.str x t)=true:=by simp[oG,Value.isStrOf]
theorem DA (a b:Int):decide ((Sum.inl a:bu)=Sum.inl b)=(a == b):=by
 by_cases e:a=b
 ·subst e;simp
 ·have h:¬(Sum.inl a:bu)=Sum.inl b:=λq=>e (Sum.inl.inj q);rw[decide_eq_false h];exact(beq_eq_false_iff_ne.mpr e).symm
theorem DB (a b:Str):decide ((Sum.inr a:bu)=Sum.inr b)=decide (a=b):=by
 by_cases e:a=b
 ·subst e;simp
 ·have h:¬(Sum.inr a:bu)=Sum.inr b:=λq=>e (Sum.inr.inj q);rw[decide_eq_false h,decide_eq_false e]
theorem DC (a:Int)(b:Str):decide ((Sum.inl a:bu)=Sum.inr b)=false:=decide_eq_false (λq=>nomatch q)
theorem DD (a:Str)(b:Int):decide ((Sum.inr a:bu)=Sum.inl b)=false:=decide_eq_false (λq=>nomatch q)
def bH (prog:Program)(w:World):PySem.KeyKind prog w bu where
 is:=oG
 hash:=IS w
 inj:=λv a b ha hb=>by
  rcases bG ha with⟨i,t,rfl,rfl⟩|⟨x,t,rfl,rfl⟩
  ·rcases bG hb with⟨j,u,rfl,e⟩|⟨y,u,rfl,e⟩
   ·injection e with g _;rw[g]
   ·exact nomatch e
  ·rcases bG hb with⟨j,u,rfl,e⟩|⟨y,u,rfl,e⟩
   ·exact nomatch e
   ·injection e with g _;rw[g]
 byValue:=λk v h=>by
  rcases bG h with⟨i,t,rfl,rfl⟩|⟨x,t,rfl,rfl⟩<;>rfl
 pyHash:=λhv h=>by
  rcases bG hv with⟨i,t,rfl,rfl⟩|⟨x,t,rfl,rfl⟩
  ·exact wpAny_pyHash_int h
  ·exact wpAny_pyHash_str h
 eqBool:=λhu hv h=>by
  rcases bG hu with⟨i,t,rfl,rfl⟩|⟨x,t,rfl,rfl⟩
  ·rcases bG hv with⟨j,u,rfl,rfl⟩|⟨y,u,rfl,rfl⟩
   ·rw[DA]at h;exact wpAny_eqBool_int h
   ·rw[DC]at h;exact SeqAt.EqAt.int_str i t y u _ _ _ _ h
  ·rcases bG hv with⟨j,u,rfl,rfl⟩|⟨y,u,rfl,rfl⟩
   ·rw[DD]at h;exact SeqAt.EqAt.str_int x t j u _ _ _ _ h
   ·rw[DB]at h;exact wpAny_eqBool_str h
 «strs»:=λk x t v h=>by
  rcases bG h with⟨i,u,rfl,e⟩|⟨y,u,rfl,e⟩
  ·exact nomatch e
  ·injection e with g _;subst g;cases v<;>rfl
theorem rs (prog:Program)(w:World)(i:Int)(t:Tok):(bH prog w).is (.inl i) (.int i t)=true:=xF i t
theorem rz (prog:Program)(w:World)(x:Str)(t:Tok):(bH prog w).is (.inr x) (.str x t)=true:=xG x t
inductive V where
 |non|bl (b:Bool)|int (i:Int)|str (x:Str)|byt (b:Array UInt8)|flt (b:UInt64)|ref (a:Addr)|ty (n:String)
 deriving DecidableEq
def aC:V->Value->Prop
 |.non,u=>u=Value.none
 |.bl b,u=>u=Value.bool b
 |.int i,u=>∃t,u=Value.int i t
 |.str x,u=>∃t,u=Value.str x t
 |.byt b,u=>∃t,u=Value.bytes b t
 |.flt b,u=>∃t,u=Value.float b t
 |.ref a,u=>u=Value.ref a
 |.ty n,u=>u=Value.type n
abbrev aH:List V->List Value->Prop:=Paired aC
theorem aH.length (r:aH xs us):xs.length=us.length:=Paired.length r
theorem aH.get:∀ {xs:List V}{us:List Value}{i:Nat}{x:V},aH xs us->xs[i]? = some x->∃u,us[i]? = some u/\aC x u
 |_,_,_,_,.nil,e=>by simp at e
 |_,_,0,_,.cons r _,e=>by simp at e;subst e;exact⟨_,rfl,r⟩
 |_,_,i+1,x,.cons _ t,e=>by
  obtain⟨u,h1,h2⟩:=aH.get (i:=i) (x:=x) t (by simpa using e);exact⟨u,by simpa using h1,h2⟩
theorem aH.set (r:aC x u):∀ {xs:List V}{us:List Value}(i:Nat),aH xs us->aH (xs.set i x) (us.set i u)
 |_,_,_,.nil=>.nil
 |_,_,0,.cons _ t=>.cons r t
 |_,_,i+1,.cons q t=>.cons q (aH.set r i t)
theorem aH.append:∀ {xs ys:List V}{us g:List Value},aH xs us->aH ys g->aH (xs++ys) (us++g)
 |_,_,_,_,.nil,s=>s
 |_,_,_,_,.cons r t,s=>.cons r (aH.append t s)
theorem aH.take:∀ {xs:List V}{us:List Value}(n:Nat),aH xs us->aH (xs.take n) (us.take n)
 |_,_,0,_=>.nil
 |_,_,_+1,.nil=>.nil
 |_,_,n+1,.cons r t=>.cons r (aH.take n t)
theorem aH.drop:∀ {xs:List V}{us:List Value}(n:Nat),aH xs us->aH (xs.drop n) (us.drop n)
 |_,_,0,r=>r
 |_,_,_+1,.nil=>.nil
 |_,_,n+1,.cons _ t=>aH.drop n t
theorem aH.none_of:∀ {xs:List V}{us:List Value}{i:Nat},aH xs us->xs[i]? = none->us[i]? = none:=λ{xs us i} r e=>by
 have h1:=r.length;have h2:xs.length<=i:=List.getElem?_eq_none_iff.mp e;exact List.getElem?_eq_none_iff.mpr (by omega)
def iV:Option V->Option Value->Prop
 |some v,some u=>aC v u
 |none,none=>True
 |_,_=>False
def KV {κ:Type}:List (κ×V)->List (κ×Value)->Prop:=Paired λ(p:κ×V) (q:κ×Value)=>p.1=q.1/\aC p.2 q.2
noncomputable def kV:bu->V
 |.inl i=>.int i
 |.inr x=>.str x
inductive HO where
  |lst (xs:List V)
  |tup (xs:List V)
  |dK (av:List (bu×V)) (ob:Obj)|dT (av:List (List bu×V))
  |set (S:Int->Bool) (n:Nat)
  |ins (C dx:Addr) (fs:List (Str×V))
  |own (x:Addr)
  |xd (fs:List (Str×V))
  |met (f x:Addr)
  |rng (lo hi:Int)
  |frz (o:Obj) (u:HO)
  |tbl (q:Str)
  |ext (φ:Heap->Prop)
abbrev Hp:=Addr->Option HO
noncomputable def upd (H:Hp)(a:Addr)(o:HO):Hp:=λb=>if b=a then some o else H b
theorem aq:upd H a o a=some o:=by unfold upd;rw[if_pos rfl]
theorem ar (h:b≠a):upd H a o b=H b:=by unfold upd;rw[if_neg h]
theorem Bc:upd (upd H a o) a u=upd H a u:=by
 funext b;unfold upd;split<;>rfl
theorem FQ {H:Hp}{a b:Addr}{o u:HO}(h:H a=some o)(h':H b=some u)(d:o≠u):a≠b:=by
 intro e;subst e;rw[h]at h';exact d (vK h')
theorem aD {H:Hp}{a b:Addr}{o:HO}(h:H a=some o)(h':H b=none):a≠b:=by
 intro e;subst e;rw[h]at h';cases h'
section
variable (P:Program) (w:World)
def bi (H:Hp)(h:Heap)(a:Addr):HO->Prop
 |.lst xs=>xs.length<=sizeLine/\∃(its:List Value)(n:Nat),aH xs its/\h.get? a=some { cls:=.type "list",data:=.seq its.toArray n }
 |.tup xs=>xs.length<=sizeLine/\∃its:List Value,aH xs its/\IsTup h a its.toArray
 |.dK av ob=>h.get? a=some ob/\av.length<=sizeLine/\(a == sysModules)=false/\∃vs,KV av vs/\h.DictOf (bH P w) a vs
 |.dT av=>av.length<=sizeLine/\(a == sysModules)=false/\∃xs:List (List bu×Addr×Value),
   Paired (λ(p:List bu×V) (q:List bu×Addr×Value)=>p.1=q.1/\H q.2.1=some (.tup (p.1.map kV))/\aC p.2 q.2.2) av xs /\
   ∃o es M,h.get? a=some o/\o.ExactDict/\o.data=.dict es M/\es.toList=xs.map (entryOfKey (tupleKind (bH P w)))/\(xs.map (·.1)).Nodup
 |.set S n=>h.SetOf (intKind P w) a S n
 |.ins C dx fs=>H dx=some (.own a)/\fs.length<=1000/\dx≠a/\h.get? a=some (PySem.W.instObj C dx) /\
   ∃mA,h.Ns1 dx mA/\(∀f,iV (fs.lookup f) (mA f))/\PySem.Within mA (fs.map (·.1))
 |.own _=>∃o,h.get? a=some o
 |.xd fs=>∃mA,h.Ns1 a mA/\∀f,iV (fs.lookup f) (mA f)
 |.rng lo hi=>∃t u v,h.get? a=some { cls:=.type "range",data:=.fields #[.int lo t,.int hi u,.int 1 v] }
 |.frz o u=>h.get? a=some o/\bi H h a u
 |.tbl q=>∃ps:Array Value,h.get? a=some { cls:=.none,data:=.fields ps }/\TriplesOk ps.toList/\∀g G,codeAmong g ps.toList=some G->∃(c:Addr)(oc:Obj)(u:HO)(vs:Array Value)(t:Tok),G=.ref c/\H c=some (.frz oc u)/\oc.data=.fields vs/\vs[1]? = some (.str q t)
 |.met f x=>h.get? a=some (PySem.W.methodObj (.ref f) (.ref x))
 |.ext φ=>φ h/\(∃o,h.get? a=some o)/\∀h1 h2:Heap,φ h1->(∀o,h1.get? a=some o->h2.get? a=some o)->φ h2
def iW (H:Hp)(h:Heap):Prop:=∀a o,H a=some o->bi P w H h a o
end
section
variable {P:Program}{w:World}{H H':Hp}{h h':Heap}{a:Addr}{o:HO}
theorem bi.lt (x:bi P w H h a o):a<h.objs.size:=by
 cases o with
 |lst xs=>obtain⟨_,_,_,_,e⟩:=x;exact vX e
 |tup xs=>obtain⟨_,_,_,p⟩:=x;exact p.lt
 |dK av ob=>exact vX (And.left x)
 |dT av=>obtain⟨_,_,_,_,o,_,_,e,_⟩:=x;exact vX e
 |set S n=>obtain⟨o,_,_,_,e,_⟩:=x;exact vX e
 |ins C dx fs=>obtain⟨_,_,_,e,_⟩:=x;exact vX e
 |own y=>obtain⟨_,e⟩:=x;exact vX e
 |xd fs=>obtain⟨_,⟨_,_,_,e,_⟩,_⟩:=x;exact vX e
 |rng lo hi=>obtain⟨_,_,_,e⟩:=x;exact vX e
 |frz ob u=>obtain⟨e,_⟩:=x;exact vX e
 |tbl q=>obtain⟨_,e,_⟩:=x;exact vX e
 |met f y=>exact vX (show h.get? a=some _ from x)
 |ext φ=>obtain⟨_,⟨_,e⟩,_⟩:=x;exact vX e
theorem Paired.mapP {α O:Type}{F G:α->O->Prop}:∀ {g:List α}{M:List O},Paired F g M->(∀a b,F a b->G a b)->Paired G g M
 |_,_,.nil,_=>.nil
 |_,_,.cons r t,f=>.cons (f _ _ r) (Paired.mapP t f)
theorem bi.stay (x:bi P w H h a o)(k:∀b u,(b=a∨H b=some (.own a))->h.get? b=some u->h'.get? b=some u)
  (O:∀b,H b=some (.own a)->H' b=some (.own a)) (T:∀b xs,H b=some (.tup xs)->H' b=some (.tup xs)) (hf:∀b o u,H b=some (.frz o u)->H' b=some (.frz o u)):bi P w H' h' a o:=by
 induction o with
 |lst xs=>obtain⟨z,its,n,r,e⟩:=x;exact⟨z,its,n,r,k _ _ (.inl rfl) e⟩
 |tup xs=>obtain⟨z,its,r,ob,e,c⟩:=x;exact⟨z,its,r,ob,k _ _ (.inl rfl) e,c⟩
 |dK av U=>obtain⟨g,z,y,vs,r,ob,es,G,e,c⟩:=x;exact⟨k _ _ (.inl rfl) g,z,y,vs,r,ob,es,G,k _ _ (.inl rfl) e,c⟩
 |dT av=>
  obtain⟨z,y,xs,r,ob,es,G,e,c⟩:=x;exact⟨z,y,xs,Paired.mapP r λp q z=>⟨z.1,T _ _ z.2.1,z.2.2⟩,ob,es,G,k _ _ (.inl rfl) e,c⟩
 |set S n=>obtain⟨ob,es,G,t,e,c⟩:=x;exact⟨ob,es,G,t,k _ _ (.inl rfl) e,c⟩
 |ins C dx fs=>
  obtain⟨d,z,ne,e,mA,⟨od,es,G,e2,c⟩,r⟩:=x;exact⟨O _ d,z,ne,k _ _ (.inl rfl) e,mA,⟨od,es,G,k _ _ (.inr d) e2,c⟩,r⟩
 |own y=>obtain⟨ob,e⟩:=x;exact⟨ob,k _ _ (.inl rfl) e⟩
 |xd fs=>obtain⟨mA,⟨od,es,G,e,c⟩,r⟩:=x;exact⟨mA,⟨od,es,G,k _ _ (.inl rfl) e,c⟩,r⟩
 |rng lo hi=>obtain⟨t,u,v,e⟩:=x;exact⟨t,u,v,k _ _ (.inl rfl) e⟩
 |frz ob u ih=>obtain⟨e,q⟩:=x;exact⟨k _ _ (.inl rfl) e,ih q⟩
 |tbl q=>obtain⟨ps,e,t,c⟩:=x;exact⟨ps,k a _ (.inl rfl) e,t,λM cv z=>let ⟨d,oc,u,vs,tk,z1,z2,z3⟩:=c M cv z;⟨d,oc,u,vs,tk,z1,hf _ _ _ z2,z3⟩⟩
 |met f y=>
  have e:h.get? a=some (PySem.W.methodObj (.ref f) (.ref y)):=x;show h'.get? a=some (PySem.W.methodObj (.ref f) (.ref y));exact k a _ (.inl rfl) e
 |ext φ=>obtain⟨p,⟨o,e⟩,st⟩:=x;exact⟨st _ _ p λo q=>k _ _ (.inl rfl) q,⟨o,k _ _ (.inl rfl) e⟩,st⟩
theorem iW.lt (x:iW P w H h)(e:H a=some o):a<h.objs.size:=(x a o e).lt
theorem iW.fresh (x:iW P w H h)(e:h.objs.size<=a):H a=none:=by
 cases q:H a with
 |none=>rfl
 |some u=>exact absurd (vQ (x.lt q) e) (Nat.lt_irrefl _)
theorem iW.kept (x:iW P w H h)(k:∀b u,h.get? b=some u->h'.get? b=some u):iW P w H h':=λa o e=>
 (x a o e).stay (λb u _ q=>k b u q) (λ_ q=>q) (λ_ _ q=>q) λ_ _ _ q=>q
theorem iW.laid (x:iW P w H h)(k:∀b u,h.get? b=some u->h'.get? b=some u)(hp:h.objs.size<=a)(new:bi P w (upd H a o) h' a o):iW P w (upd H a o) h':=λb u e=>by
 have hn:=x.fresh hp;by_cases hb:b=a
 ·subst hb;rw[aq]at e;cases e;exact new
 ·rw[ar hb]at e;exact(x b u e).stay (λc v _ q=>k c v q) (λc q=>by rw[ar (aD q hn)];exact q) (λc xs q=>by rw[ar (aD q hn)];exact q) λc o xs q=>by rw[ar (aD q hn)];exact q
end
def Rd (H:Hp)(a:Addr)(u:HO):Prop:=H a=some u∨∃o,H a=some (.frz o u)
theorem Rd.of (h:H a=some u):Rd H a u:=.inl h
theorem Rd.ok (r:Rd H a u)(x:iW P w H h):bi P w H h a u:=by
 rcases r with r|⟨o,r⟩
 ·exact x a u r
 ·obtain⟨_,q⟩:=x a _ r;exact q
def FR:Option HO->Prop
 |some (.lst _)=>True
 |some (.dK _ _)=>True
 |some (.dT _)=>True
 |some (.set _ _)=>True
 |some (.ins _ _ _)=>True
 |some (.ext _)=>True
 |_=>False
section
variable {P:Program}{w:World}{H:Hp}{h h':Heap}{x e:Addr}{o':HO}
theorem iW.write (ok:iW P w H h)(M:FR (H x))(he:e=x∨H e=some (.own x))(k:∀b u,b≠e->h.get? b=some u->h'.get? b=some u)(T:∃u,h'.get? e=some u)
  (new:bi P w (upd H x o') h' x o'):iW P w (upd H x o') h':=λb u q=>by
 have G:∀c y,H c=some (.own y)->c≠x:=λc y r z=>by subst z;rw[r]at M;exact M
 have O:∀c xs,H c=some (.tup xs)->c≠x:=λc xs r z=>by subst z;rw[r]at M;exact M
 by_cases hb:b=x
 ·subst hb;rw[aq]at q;cases q;exact new
 ·rw[ar hb]at q;by_cases g:b=e
  ·have U:H b=some (.own x):=by
    rcases he with z|z
    ·exact absurd (g.trans z) hb
    ·rw[g];exact z
   rw[q]at U;cases U;obtain⟨v,hv⟩:=T;exact⟨v,by rw[g];exact hv⟩
  ·refine(ok b u q).stay (λc v hc r=>k c v ?_ r) (λc r=>by rw[ar (G c b r)];exact r) (λc xs r=>by rw[ar (O c xs r)];exact r) λc o xs r=>by rw[ar (λz=>by subst z;rw[r]at M;exact M)];exact r
   rcases hc with rfl|hc
   ·exact g
   ·rintro rfl;rcases he with z|z
    ·exact G c b hc z
    ·rw[hc]at z;cases z;exact hb rfl
end
structure Un (fs ex:List Addr)(H H':Hp)(h h':Heap):Prop where
 keep:∀b o,h.get? b=some o->H b=none->b∉fs->b∉ex->h'.get? b=some o
 slot:∀b o,h.get? b=some o->H b=none->b∈fs->b∉ex->∃sl,h'.get? b=some { o with slots:=sl }
 free:∀b o,h.get? b=some o->H b=none->b∉ex->H' b=none
 there:∀b o,h.get? b=some o->b∉ex->∃o',h'.get? b=some o'
 tups:∀b xs,H b=some (.tup xs)->H' b=some (.tup xs)
 frzs:∀b o u,H b=some (.frz o u)->H' b=some (.frz o u)
 tbls:∀b q,H b=some (.tbl q)->H' b=some (.tbl q)
section
variable {fs Nt ex Ph:List Addr}{H H1 H2:Hp}{h h1 h2 h':Heap}{a x e:Addr}{o:HO}
theorem Un.any (u:Un fs ex H H1 h h1)(q:h.get? b=some ob)(n:H b=none)(hx:b∉ex):∃sl,h1.get? b=some { ob with slots:=sl }:=by
 by_cases hb:b∈fs
 ·exact u.slot b ob q n hb hx
 ·exact⟨ob.slots,u.keep b ob q n hb hx⟩
theorem Un.trans (a:Un fs ex H H1 h h1)(b:Un fs ex H1 H2 h1 h2):Un fs ex H H2 h h2 where
 keep:=λc ob q n hc hx=>b.keep c ob (a.keep c ob q n hc hx) (a.free c ob q n hx) hc hx
 slot:=λc ob q n hc hx=>by
  obtain⟨sl,g⟩:=a.slot c ob q n hc hx;obtain⟨G,e2⟩:=b.slot c _ g (a.free c ob q n hx) hc hx;exact⟨G,e2⟩
 free:=λc ob q n hx=>by
  obtain⟨o',g⟩:=a.there c ob q hx;exact b.free c o' g (a.free c ob q n hx) hx
 there:=λc ob q hx=>by
  obtain⟨o',g⟩:=a.there c ob q hx;exact b.there c o' g hx
 tups:=λc xs q=>b.tups c xs (a.tups c xs q)
 frzs:=λc ob xs q=>b.frzs c ob xs (a.frzs c ob xs q)
 tbls:=λc ps q=>b.tbls c ps (a.tbls c ps q)
theorem Un.kept (k:∀b u,h.get? b=some u->h'.get? b=some u):Un fs ex H H h h' :=
 ⟨λb ob q _ _ _=>k b ob q,λb ob q _ _ _=>⟨ob.slots,k b ob q⟩,λ_ _ _ n _=>n,λb ob q _=>⟨ob,k b ob q⟩,λ_ _ q=>q,λ_ _ _ q=>q,λ_ _ q=>q⟩
theorem Un.refl:Un fs ex H H h h:=Un.kept λ_ _ q=>q
theorem Un.laid (k:∀b u,h.get? b=some u->h'.get? b=some u)(hp:h.objs.size<=a)(hn:H a=none):Un fs ex H (upd H a o) h h' where
 keep:=λb u q _ _ _=>k b u q
 slot:=λb u q _ _ _=>⟨u.slots,k b u q⟩
 free:=λb u q n _=>by rw[ar (vS (vQ (vX q) hp))];exact n
 there:=λb u q _=>⟨u,k b u q⟩
 tups:=λb xs q=>by rw[ar (aD q hn)];exact q
 frzs:=λb u xs q=>by rw[ar (aD q hn)];exact q
 tbls:=λb ps q=>by rw[ar (aD q hn)];exact q
theorem Un.write (G:FR (H x))(he:e=x∨H e=some (.own x))(k:∀b u,b≠e->h.get? b=some u->h'.get? b=some u)(M:∃u,h'.get? e=some u):Un fs ex H (upd H x o) h h':=by
 have hx:∀b,H b=none->b≠x:=λb n z=>by subst z;rw[n]at G;exact G
 have hb:∀b,H b=none->b≠e:=λb n z=>by
  subst z;rcases he with r|r
  ·exact hx b n r
  ·rw[n]at r;cases r
 have hm:∀b u,H b=some u->¬FR (some u)->b≠x:=λb u q nm z=>by subst z;rw[q]at G;exact nm G
 refine⟨λb u q n _ _=>k b u (hb b n) q,λb u q n _ _=>⟨u.slots,k b u (hb b n) q⟩,λb u q n _=>by rw[ar (hx b n)];exact n,λb u q _=>?_,
  λb xs q=>by rw[ar (hm b _ q λz=>z)];exact q,λb u xs q=>by rw[ar (hm b _ q λz=>z)];exact q,λb ps q=>by rw[ar (hm b _ q λz=>z)];exact q⟩
 by_cases g:b=e
 ·subst g;exact M
 ·exact⟨u,k b u g q⟩
end
noncomputable def Ih (h:Heap)(H:Hp):List Addr:=(List.range h.objs.size).filter λa=>(H a).isSome
def r0 (h:Heap)(H:Hp):Heap:=PySem.W.hideAll h (Ih h H)
theorem xH (h:Heap)(H:Hp):(r0 h H).objs.size=h.objs.size:=PySem.W.hideAll_size _ _
theorem ml (e:h.get? b=some o)(n:H b=none):(r0 h H).get? b=some o :=
 PySem.W.hideAll_get _ e λhm=>by
  have q:(H b).isSome=true:=(vN hm).2;rw[n]at q;simp at q
theorem Bd (e:(r0 h H).get? b=some o):h.get? b=some o/\H b=none:=by
 have g:h.get? b=some o:=PySem.W.of_hideAll (Ih h H) e;refine⟨g,?_⟩;cases q:H b with
 |none=>rfl
 |some x=>
  have hm:b∈Ih h H:=List.mem_filter.mpr ⟨List.mem_range.mpr (vX g),by simp[q]⟩;have z:(r0 h H).get? b=none:=PySem.W.hideAll_none (Ih h H) hm;rw[z]at e;cases e
noncomputable def Be (g h:Heap)(L:Addr):List (Addr×Obj):=(List.range h.objs.size).filterMap λa=>if a=L∨(g.get? a).isSome=true then none else (h.get? a).map λo=>(a,o)
def az (g h:Heap)(L d:Addr):List (Addr×Obj):=(Be g h L).filter λp=>decide (p.1≠d)
structure Mod (K:Frag)(mg:Str->Option Value)(base:Heap):Prop where
 kin:K.In base
 glob:base.Ns mainGlobals mg
 blt:∃mb,base.Ns builtinsNs mb/\∀x:Str,x ≠ "__name__"->mb x=bootBuiltins x
 nolimit:base.NoLimit
 bmain:∃bm ob,mg "__builtins__" = some (.ref bm)/\bm≠builtinsNs/\base.get? bm=some ob/\ob.cls=.type "module"/\ob.dict=some builtinsNs/\ob.data=.plain
structure Cx where
 prog:Program
 w:World
 K:Frag
 mg:Str->Option Value
 base:Heap
 A:Around
 N:List Str
 s₀:Shared
 H₀:Hp
 env:Env
 outer:List Env
 stack:List Env
 ex:List Addr
 fn:Str->Bool
 calm:Bool
 pn:List (Addr×Obj)
 xe:Value->Shared->Prop
noncomputable def yN (l:List Env):List Addr:=l.filterMap (·.frame)
abbrev Cx.fs (X:Cx):List Addr:=yN X.outer
def yS (sc:Scope)(x:Str):Prop:=sc.names.lookup x=some .local∨sc.names.lookup x=some .cell∨sc.names.lookup x=some .free
def AQ (sc:Scope)(x:Str):Prop:=sc.names.lookup x=some .local∨sc.names.lookup x=some .cell
def IT (env:Env)(h:Heap)(m:Str->Option Value)(x:Str)(u:Value):Prop :=
 (env.kindOf x=some .local/\m x=some u)∨((env.kindOf x=some .cell∨env.kindOf x=some .free)/\∃c,env.cells.lookup x=some c/\h.IsCell c (some u))
abbrev wq {α:Type}(X:Cx):Sem α->(α->Shared->Prop)->(Value->Shared->Prop)->Shared->Prop:=wpAny (model X.prog X.w) X.A
structure Cx.Ok (X:Cx):Prop where
 mod:Mod X.K X.mg X.base
 kind:X.env.scope.kind=.function
 glob:X.env.globals=mainGlobals
 blt:X.env.builtins=builtinsNs
 above:X.s₀.heap.objs.size<=X.env.locals
 inj:∀x y c,X.env.cells.lookup x=some c->X.env.cells.lookup y=some c->x=y
 has:∀x,(X.env.kindOf x=some .cell∨X.env.kindOf x=some .free)->∃c,X.env.cells.lookup x=some c
 cab:∀x c,X.fn x=true->X.env.cells.lookup x=some c->X.s₀.heap.objs.size<=c
 hd:X.calm=true->X.A.handled=none
 frames:X.A.frames=some X.stack
 stk:X.stack=X.outer∨(X.stack=X.env::X.outer/\X.env.frame=some X.env.locals)
 exf:∀b∈X.ex,b≠X.env.locals/\∀x c,X.env.cells.lookup x=some c->c≠b
 bs:∀b o,X.base.get? b=some o->X.s₀.heap.get? b=some o/\X.H₀ b=none
 bsz:X.base.objs.size<=X.s₀.heap.objs.size
 noex:∀b o,X.base.get? b=some o->b∉X.ex
 exfs:∀b∈X.ex,b∉X.fs
 funs:X.s₀.heap.FunFrames X.base X.outer
 frf:∀b∈X.fs,X.H₀ b=none
structure Inv (X:Cx)(aa:List (Addr×Obj))(σ:List (Option V))(H:Hp)(s:Shared):Prop where
 ok:X.Ok
 os:s.os=X.s₀.os
 bare:AllBare s.gens
 base:Un X.fs X.ex X.H₀ H X.s₀.heap s.heap
 loc:∃m,s.heap.Ns X.env.locals m/\∀(i:Nat)(x:Str)(v:V),X.N[i]? = some x->σ[i]? = some (some v)->yS X.env.scope x->∃u,aC v u/\IT X.env s.heap m x u
 cell:∀x c,X.env.cells.lookup x=some c->∃v,s.heap.IsCell c v
 free:H X.env.locals=none
 freeC:∀x c,X.env.cells.lookup x=some c->H c=none
 pin:∀p∈X.pn++aa,s.heap.get? p.1=some p.2/\H p.1=none/\p.1≠X.env.locals/\p.1∉X.fs/\∀v,p.2.data≠.cell v
 hok:iW X.prog X.w H s.heap
 len:σ.length=X.N.length
section
variable {X:Cx}{aa:List (Addr×Obj)}{σ:List (Option V)}{H H':Hp}{s:Shared}{h':Heap}
theorem Cx.Ok.nofr (ok:X.Ok)(e:X.base.get? b=some o):b∉X.fs:=λhb=>by
 have:=(ok.funs.mem hb).1;rw[e]at this;cases this
theorem Inv.bs (I:Inv X aa σ H s):∀b o,X.base.get? b=some o->s.heap.get? b=some o/\H b=none:=λb o e=>
 ⟨I.base.keep b o (I.ok.bs b o e).1 (I.ok.bs b o e).2 (I.ok.nofr e) (I.ok.noex b o e),I.base.free b o (I.ok.bs b o e).1 (I.ok.bs b o e).2 (I.ok.noex b o e)⟩
theorem Inv.bk (I:Inv X aa σ H s):∀b o,X.base.get? b=some o->s.heap.get? b=some o:=λb o e=>(I.bs b o e).1
theorem Inv.mod (I:Inv X aa σ H s):Mod X.K X.mg X.base:=I.ok.mod
theorem Inv.kIn (I:Inv X aa σ H s):X.K.In s.heap:=I.ok.mod.kin.keeps I.bk
theorem Inv.nolimit (I:Inv X aa σ H s):s.heap.NoLimit:=I.ok.mod.nolimit.keeps I.bk
theorem Inv.lt (I:Inv X aa σ H s):X.env.locals<s.heap.objs.size:=let ⟨_,hn,_⟩:=I.loc;hn.lt
theorem Inv.sz (I:Inv X aa σ H s):X.s₀.heap.objs.size<=s.heap.objs.size:=vR I.ok.above (Nat.le_of_lt I.lt)
theorem Inv.nofs (I:Inv X aa σ H s)(h:s.heap.objs.size<=a):a∉X.fs:=λhb=>by
 obtain⟨_,o,g,_⟩:=I.ok.funs.mem hb;exact absurd (vQ (vX g) (vR I.sz h)) (Nat.lt_irrefl _)
theorem Inv.cne (I:Inv X aa σ H s):∀x c,X.env.cells.lookup x=some c->c≠X.env.locals:=λx c e z=>by
 obtain⟨v,o,M,hd⟩:=I.cell x c e;obtain⟨m,⟨o',es,O,g,G,_⟩,_⟩:=I.loc;rw[z,g]at M;cases M;rw[G]at hd;cases hd
theorem Inv.funs (I:Inv X aa σ H s):s.heap.FunFrames X.base X.outer:=by
 have all:∀(l:List Env),(∀b∈yN l,b∈X.fs)->X.s₀.heap.FunFrames X.base l->s.heap.FunFrames X.base l:=by
  intro l;induction l with
  |nil=>intro _ _;trivial
  |cons env r G=>
   intro hs hl;obtain⟨hk,⟨L,o,hf,hn,M,hd⟩,O⟩:=hl;have g:L∈X.fs:=hs L (by unfold yN;rw[List.filterMap_cons,hf];exact mX);obtain⟨sl,e⟩:=I.base.slot L o M (I.ok.frf L g) g λz=>I.ok.exfs L z g;exact⟨hk,⟨L,_,hf,hn,e,hd⟩,G (λb hb=>hs b (by unfold yN;rw[List.filterMap_cons,hf];exact mZ _ hb)) O⟩
 exact all X.outer (λ_ hb=>hb) I.ok.funs
theorem Inv.stack (I:Inv X aa σ H s):s.heap.FunFrames X.base X.stack:=by
 rcases I.ok.stk with e|⟨e,hf⟩
 ·rw[e];exact I.funs
 ·rw[e];obtain⟨m,hn,_⟩:=I.loc;refine .cons (by rw[I.ok.kind];decide) hf hn ?_ I.funs;exact Heap.get?_none_of_le (vR I.ok.bsz I.ok.above)
theorem Inv.stkSub (I:Inv X aa σ H s):∀b∈yN X.stack,b∈X.env.locals::X.fs:=λb hb=>by
 rcases I.ok.stk with e|⟨e,hf⟩
 ·rw[e]at hb;exact mZ _ hb
 ·rw[e]at hb;unfold yN at hb;rw[List.filterMap_cons,hf]at hb;exact hb
theorem Inv.stkFree (I:Inv X aa σ H s):∀b∈yN X.stack,H b=none:=λb hb=>by
 rcases vP (I.stkSub b hb)with e|hb
 ·rw[e];exact I.free
 ·obtain⟨_,o,g,_⟩:=I.ok.funs.mem hb;exact I.base.free b o g (I.ok.frf b hb) λz=>I.ok.exfs b z hb
theorem Inv.step {g':Array GenState}{t':Nat}{d':Drawn}{ch:List Addr}(I:Inv X aa σ H s)
  (g:∀b∈ch,(b∈X.ex∨X.s₀.heap.objs.size<=b)/\b≠X.env.locals/\(∀x c,X.env.cells.lookup x=some c->c≠b)/\∀p∈X.pn++aa,p.1≠b)
  (keep:∀b o,b≠X.env.locals->b∉X.fs->b∉ch->s.heap.get? b=some o->H b=none->h'.get? b=some o)
  (slot:∀b o,b≠X.env.locals->b∈X.fs->b∉ch->s.heap.get? b=some o->H b=none->∃sl,h'.get? b=some { o with slots:=sl }) (free:∀b o,b∉ch->s.heap.get? b=some o->H b=none->H' b=none)
  (there:∀b o,b∉ch->s.heap.get? b=some o->∃o',h'.get? b=some o')
  (tups:∀b xs,H b=some (.tup xs)->H' b=some (.tup xs)) (frzs:∀b o u,H b=some (.frz o u)->H' b=some (.frz o u)) (tbls:∀b q,H b=some (.tbl q)->H' b=some (.tbl q))
  (ns:∀m,s.heap.Ns X.env.locals m->h'.Ns X.env.locals m) (hok:iW X.prog X.w H' h') (hg:AllBare g'):
  Inv X aa σ H' { s with heap:=h',gens:=g',drawn:=d',toks:=t' }:=by
 have L4:∀b o,X.s₀.heap.get? b=some o->b≠X.env.locals:=λb o e=>vS (vQ (vX e) I.ok.above);have O:∀b o,X.s₀.heap.get? b=some o->b∉X.ex->b∉ch:=λb o e hx hb=>by
  rcases (g b hb).1 with z|z
  ·exact hx z
  ·exact absurd (vQ (vX e) z) (Nat.lt_irrefl _)
 have G:∀x c,X.env.cells.lookup x=some c->∀v,s.heap.IsCell c v->h'.IsCell c v:=λx c e v ⟨o,U,hd⟩=>by
  have M:c∉ch:=λz=>(g c z).2.2.1 x c e rfl;by_cases hc:c∈X.fs
  ·obtain⟨sl,q⟩:=slot c o (I.cne x c e) hc M U (I.freeC x c e);exact⟨_,q,hd⟩
  ·exact⟨o,keep c o (I.cne x c e) hc M U (I.freeC x c e),hd⟩
 refine⟨I.ok,I.os,hg,⟨λb o e n hb hx=>?_,λb o e n hb hx=>?_,λb o e n hx=>?_,λb o e hx=>?_,λb xs e=>tups b xs (I.base.tups b xs e),λb o xs e=>frzs b o xs (I.base.frzs b o xs e),λb ps e=>?_⟩,?_,λx c e=>?_,?_,λx c e=>?_,λp hp=>?_,hok,I.len⟩
 ·exact keep b o (L4 b o e) hb (O b o e hx) (I.base.keep b o e n hb hx) (I.base.free b o e n hx)
 ·obtain⟨sl,T⟩:=I.base.slot b o e n hb hx;obtain⟨Nu,e2⟩:=slot b _ (L4 b o e) hb (O b o e hx) T (I.base.free b o e n hx);exact⟨Nu,e2⟩
 ·obtain⟨o',T⟩:=I.base.there b o e hx;exact free b o' (O b o e hx) T (I.base.free b o e n hx)
 ·obtain⟨o',T⟩:=I.base.there b o e hx;exact there b o' (O b o e hx) T
 ·exact tbls b _ (I.base.tbls b ps e)
 ·obtain⟨m,hn,hl⟩:=I.loc;refine⟨m,ns m hn,λi x v T e2 e3=>?_⟩;obtain⟨u,r,l⟩:=hl i x v T e2 e3;refine⟨u,r,?_⟩;rcases l with l|⟨k,c,e,z⟩
  ·exact .inl l
  ·exact .inr ⟨k,c,e,G x c e _ z⟩
 ·obtain⟨v,z⟩:=I.cell x c e;exact⟨v,G x c e v z⟩
 ·obtain⟨m,⟨o,_,_,U,_⟩,_⟩:=I.loc;exact free _ o (λz=>(g _ z).2.1 rfl) U I.free
 ·obtain⟨v,o,U,hd⟩:=I.cell x c e;exact free c o (λz=>(g c z).2.2.1 x c e rfl) U (I.freeC x c e)
 ·obtain⟨e,n,ne,nf,d⟩:=I.pin p hp;have M:p.1∉ch:=λz=>(g p.1 z).2.2.2 p hp rfl;exact⟨keep p.1 p.2 ne nf M e n,free p.1 p.2 M e n,ne,nf,d⟩
theorem Inv.un {t':Nat}(I:Inv X aa σ H s)(u:Un X.fs [] H H' s.heap h')(hok:iW X.prog X.w H' h'):Inv X aa σ H' { s with heap:=h',toks:=t' }:=by
 obtain⟨m,⟨o,es,ep,O,r⟩,_⟩:=id I.loc;obtain⟨sl,T⟩:=u.any O I.free (by simp);exact I.step (g':=s.gens) (d':=s.drawn) (ch:=[]) (λ_ z=>nomatch z) (λb o _ hb _ e n=>u.keep b o e n hb (by simp)) (λb o _ hb _ e n=>u.slot b o e n hb (by simp)) (λb o _ e n=>u.free b o e n (by simp)) (λb o _ e=>u.there b o e (by simp)) u.tups u.frzs u.tbls (λm' hm=>by
  obtain⟨o',G,M,g,U⟩:=hm;rw[O]at g;cases g;exact⟨_,G,M,T,U⟩) hok I.bare
theorem Inv.call {g':Array GenState}{t':Nat}{d':Drawn}{ch:List Addr}(I:Inv X aa σ H s)(u:Un (yN X.stack) ch H H' s.heap h')(hok:iW X.prog X.w H' h')(hg:AllBare g')
  (g:∀b∈ch,(b∈X.ex∨X.s₀.heap.objs.size<=b)/\b≠X.env.locals/\(∀x c,X.env.cells.lookup x=some c->c≠b)/\∀p∈X.pn++aa,p.1≠b):
  Inv X aa σ H' { s with heap:=h',gens:=g',drawn:=d',toks:=t' }:=by
 obtain⟨m,⟨o,es,ep,U,r⟩,_⟩:=id I.loc;obtain⟨sl,M⟩:=u.any U I.free λz=>(g _ z).2.1 rfl;exact I.step (ch:=ch) g (λb o M hb hc e n=>u.keep b o e n (λz=>(vP (I.stkSub b z)).elim M hb) hc) (λb o _ _ hc e n=>u.any e n hc) (λb o hc e n=>u.free b o e n hc) (λb o hc e=>u.there b o e hc) u.tups u.frzs u.tbls (λm' hm=>by
  obtain⟨o',O,T,G,r'⟩:=hm;rw[U]at G;cases G;exact⟨_,O,T,M,r'⟩) hok hg
theorem Inv.turned {t':Nat}{it:Addr}(I:Inv X aa σ H s)(k:∀b o,b≠it->s.heap.get? b=some o->h'.get? b=some o)(hn:H it=none)(G:it≠X.env.locals)
  (h1:it∈X.ex∨X.s₀.heap.objs.size<=it) (h2:∀x c,X.env.cells.lookup x=some c->c≠it) (h3:∀p∈X.pn++aa,p.1≠it):Inv X aa σ H { s with heap:=h',toks:=t' }:=by
 have g:∀b u,H b=some u->b≠it:=λb u e z=>by rw[z,hn]at e;cases e
 refine I.step (g':=s.gens) (d':=s.drawn) (ch:=[it]) (λb hb=>?_) (λb o _ _ hc e _=>k b o (λz=>hc (by simp[z])) e) (λb o _ _ hc e _=>⟨o.slots,k b o (λz=>hc (by simp[z])) e⟩) (λ_ _ _ _ n=>n)
  (λb o hc e=>⟨o,k b o (λz=>hc (by simp[z])) e⟩) (λ_ _ e=>e) (λ_ _ _ e=>e) (λ_ _ e=>e) (λm hm=>?_) (λb u e=>?_) I.bare
 ·have e:b=it:=by simpa using hb
  subst e;exact⟨h1,G,h2,h3⟩
 ·obtain⟨o,es,M,O,r⟩:=hm;exact⟨o,es,M,k _ o (Ne.symm G) O,r⟩
 ·refine(I.hok b u e).stay (λc v hc q=>k c v ?_ q) (λ_ q=>q) (λ_ _ q=>q) λ_ _ _ q=>q;rcases hc with z|z
  ·rw[z];exact g b u e
  ·exact g c _ z
theorem Inv.tok (I:Inv X aa σ H s)(t:Nat):Inv X aa σ H { s with toks:=t }:=I.un (h':=s.heap) (t':=t) Un.refl I.hok
theorem Inv.kept (I:Inv X aa σ H s)(k:∀b u,s.heap.get? b=some u->h'.get? b=some u):Inv X aa σ H { s with heap:=h',toks:=t' }:=I.un (Un.kept k) (I.hok.kept k)
theorem Inv.laid (I:Inv X aa σ H s)(k:∀b u,s.heap.get? b=some u->h'.get? b=some u)(hp:s.heap.objs.size<=a)(new:bi X.prog X.w (upd H a o) h' a o):
  Inv X aa σ (upd H a o) { s with heap:=h',toks:=t' }:=I.un (Un.laid k hp (I.hok.fresh hp)) (I.hok.laid k hp new)
theorem Inv.write (I:Inv X aa σ H s)(G:FR (H x))(he:e=x∨H e=some (.own x))(k:∀b u,b≠e->s.heap.get? b=some u->h'.get? b=some u)(g:∃u,h'.get? e=some u)
  (new:bi X.prog X.w (upd H x o) h' x o):Inv X aa σ (upd H x o) { s with heap:=h',toks:=t' }:=I.un (Un.write G he k g) (I.hok.write G he k g new)
theorem Inv.pins_of (I:Inv X aa σ H s)(h:∀p∈pins',s.heap.get? p.1=some p.2/\H p.1=none/\p.1≠X.env.locals/\p.1∉X.fs/\∀v,p.2.data≠.cell v):Inv X pins' σ H s :=
 ⟨I.ok,I.os,I.bare,I.base,I.loc,I.cell,I.free,I.freeC,λp hp=>(List.mem_append.mp hp).elim (λz=>I.pin p (List.mem_append_left _ z)) (h p),I.hok,I.len⟩
theorem r6 {N:List Str}(g:N.Nodup){i j:Nat}{x:Str}(a:N[i]? = some x)(b:N[j]? = some x):i=j:=by
 obtain⟨h1,G⟩:=vV a;obtain⟨h2,e2⟩:=vV b;exact(List.getElem_inj g).mp (G.trans e2.symm)
theorem oH {M:Model}{A:Around}{E:Value->Shared->Prop}{i:Nat}{x:Str}{v:V}{u:Value}{Q:Unit->Shared->Prop}(I:Inv X aa σ H s)(hN:X.N.Nodup)(hi:X.N[i]? = some x)(hx:AQ X.env.scope x)(r:aC v u)
  (h:∀s',Inv X aa (σ.set i (some v)) H s'->(∃a,Heap.SameBut a s.heap s'.heap/\(a=X.env.locals∨X.env.cells.lookup x=some a))->Q () s') (hf:X.fn x=true∨X.env.scope.names.lookup x=some .local:=by first|exact .inl rfl|exact .inr rfl|assumption):wpAny M A (storeName X.env x u) Q E s:=by
 obtain⟨m,hn,hl⟩:=id I.loc;have JG:(X.env.scope.kind == .class || (X.env.scope.kind == .module && X.env.locals != X.env.globals))=false:=by rw[I.ok.kind];rfl
 have T:i<σ.length:=by rw[I.len];exact(vV hi).1
 have cne:=I.cne;have g:∀ {a:Addr}{h':Heap},(∃o,s.heap.get? a=some o/\H a=none)->Heap.SameBut a s.heap h'->iW X.prog X.w H h':=λ{a h'} ha hs b ob e=>by
  obtain⟨_,_,O⟩:=ha;refine(I.hok b ob e).stay (λc w' hc q=>(hs.2 c ?_).trans q) (λ_ q=>q) (λ_ _ q=>q) λ_ _ _ q=>q;rintro rfl;rcases hc with rfl|hc
  ·rw[O]at e;cases e
  ·rw[O]at hc;cases hc
 rcases hx with hk|hk
 ·refine wpAny_storeName_local hk hn (λh' JH hs=>?_) JG;obtain⟨oL,_,_,Nv,_⟩:=id hn;refine h _ ⟨I.ok,I.os,I.bare,⟨λb o e n hb hx=>?_,λb o e n hb hx=>?_,I.base.free,λb o e hx=>?_,I.base.tups,I.base.frzs,I.base.tbls⟩,⟨_,JH,λj y v' G e2 e3=>?_⟩,λy c e=>?_,I.free,I.freeC,λp hp=>?_,g ⟨oL,Nv,I.free⟩ hs,by simpa using I.len⟩ ⟨_,hs,.inl rfl⟩
  ·exact(hs.2 b (vS (vQ (vX e) I.ok.above))).trans (I.base.keep b o e n hb hx)
  ·obtain⟨sl,G⟩:=I.base.slot b o e n hb hx;exact⟨sl,(hs.2 b (vS (vQ (vX e) I.ok.above))).trans G⟩
  ·obtain⟨o',G⟩:=I.base.there b o e hx;exact⟨o',(hs.2 b (vS (vQ (vX e) I.ok.above))).trans G⟩
  ·by_cases hj:j=i
   ·subst hj;rw[hi]at G;cases G;rw[List.getElem?_set_self T]at e2;cases e2
    exact⟨u,r,.inl ⟨hk,by simp⟩⟩
   ·rw[vC (Ne.symm hj)]at e2;obtain⟨u',r',q⟩:=hl j y v' G e2 e3;refine⟨u',r',?_⟩;rcases q with⟨k,e⟩|⟨k,c,e,z⟩
    ·refine .inl ⟨k,?_⟩;have:y≠x:=λe=>hj (r6 hN G (e ▸ hi));simp[this,e]
    ·exact .inr ⟨k,c,e,z.sameBut hs (cne y c e)⟩
  ·obtain⟨w',z⟩:=I.cell y c e;exact⟨w',z.sameBut hs (cne y c e)⟩
  ·obtain⟨e,n,ne,nf,d⟩:=I.pin p hp;exact⟨(hs.2 p.1 ne).trans e,n,ne,nf,d⟩
 ·have U:X.fn x=true:=by
   rcases hf with z|z
   ·exact z
   ·rw[z]at hk;cases hk
  obtain⟨c,hc⟩:=I.ok.has x (.inl hk);obtain⟨w',z⟩:=I.cell x c hc;refine wpAny_storeName_cell I.ok.kind hk hc z (λh' Fh hs=>?_);obtain⟨oc,CH,JJ⟩:=id z;refine h { s with heap:=h' } ⟨I.ok,I.os,I.bare,⟨λb o e n hb hx=>?_,λb o e n hb hx=>?_,I.base.free,λb o e hx=>?_,I.base.tups,I.base.frzs,I.base.tbls⟩,⟨m,hn.sameBut hs (Ne.symm (cne x c hc)),λj y v' G e2 e3=>?_⟩,λy c' e=>?_,I.free,I.freeC,λp hp=>?_,g ⟨oc,CH,I.freeC x c hc⟩ hs,by simpa using I.len⟩ ⟨c,hs,.inr hc⟩
  ·exact(hs.2 b (vS (vQ (vX e) (I.ok.cab x c U hc)))).trans (I.base.keep b o e n hb hx)
  ·obtain⟨sl,G⟩:=I.base.slot b o e n hb hx;exact⟨sl,(hs.2 b (vS (vQ (vX e) (I.ok.cab x c U hc)))).trans G⟩
  ·obtain⟨o',G⟩:=I.base.there b o e hx;exact⟨o',(hs.2 b (vS (vQ (vX e) (I.ok.cab x c U hc)))).trans G⟩
  ·by_cases hj:j=i
   ·subst hj;rw[hi]at G;cases G;rw[List.getElem?_set_self T]at e2;cases e2
    exact⟨u,r,.inr ⟨.inl hk,c,hc,Fh⟩⟩
   ·rw[vC (Ne.symm hj)]at e2;obtain⟨u',r',q⟩:=hl j y v' G e2 e3;refine⟨u',r',?_⟩;rcases q with q|⟨k,c',e,z'⟩
    ·exact .inl q
    ·refine .inr ⟨k,c',e,z'.sameBut hs ?_⟩;rintro rfl;exact hj (r6 hN G (I.ok.inj _ _ _ e hc ▸ hi))
  ·by_cases Iz:c'=c
   ·subst Iz;exact⟨_,Fh⟩
   ·obtain⟨w2,z2⟩:=I.cell y c' e;exact⟨w2,z2.sameBut hs Iz⟩
  ·obtain⟨e,n,ne,nf,d⟩:=I.pin p hp;refine⟨(hs.2 p.1 ?_).trans e,n,ne,nf,d⟩;intro q;rw[q,CH]at e;have q':oc=p.2:=vK e;exact d w' (by rw[←q'];exact JJ)
theorem rA {M:Model}{A:Around}{E:Value->Shared->Prop}{i:Nat}{x:Str}{v:V}{u:Value}{Q:Unit->Shared->Prop}(I:Inv X aa σ H s)(g:X.N.Nodup)(hi:X.N[i]? = some x)(hx:AQ X.env.scope x)(r:aC v u)
  (h:∀s',Inv X aa (σ.set i (some v)) H s'->Q () s') (hf:X.fn x=true∨X.env.scope.names.lookup x=some .local:=by first|exact .inl rfl|exact .inr rfl|assumption):wpAny M A (storeName X.env x u) Q E s :=
 oH I g hi hx r (λs' G _=>h s' G) hf
theorem Inv.call' (I:Inv X aa σ H s)(G:s'.os=s.os)(u:Un (yN X.stack) ch H H' s.heap s'.heap)(hok:iW X.prog X.w H' s'.heap)(M:AllBare s'.gens)
  (g:∀b∈ch,(b∈X.ex∨X.s₀.heap.objs.size<=b)/\b≠X.env.locals/\(∀x c,X.env.cells.lookup x=some c->c≠b)/\∀p∈X.pn++aa,p.1≠b):Inv X aa σ H' s':=by
 obtain⟨h',g',d',t',o'⟩:=s';have e:o'=s.os:=G;subst e;exact I.call (g':=g') (t':=t') (d':=d') u hok M g
end
abbrev XK:=Value->Option Addr->Hp->Prop
abbrev St:=List (Option V)
abbrev VK:=V->Hp->Prop
abbrev TE:=St->Hp->VK->Prop
abbrev TT:=St->Hp->(Bool->Hp->Prop)->Prop
abbrev TA:=St->Hp->(List V->Hp->Prop)->Prop
structure Ends where
 nx:St->Hp->Prop
 rt:VK
 bk:St->Hp->Prop:=λ_ _=>False
 ct:St->Hp->Prop:=λ_ _=>False
abbrev TS:=Ends->St->Hp->Prop
def EP (X:Cx)(aa:List (Addr×Obj))(σ:St)(Q:VK)(u:Value)(s':Shared):Prop:=∃v H',Inv X aa σ H' s'/\aC v u/\Q v H'
def TP (X:Cx)(aa:List (Addr×Obj))(σ:St)(Q:Bool->Hp->Prop)(b:Bool)(s':Shared):Prop:=∃H',Inv X aa σ H' s'/\Q b H'
def AP (X:Cx)(aa:List (Addr×Obj))(σ:St)(Q:List V->Hp->Prop)(us:List Value)(s':Shared):Prop:=∃vs H',Inv X aa σ H' s'/\aH vs us/\Q vs H'
def SP (X:Cx)(aa:List (Addr×Obj))(D:Ends)(f:Flow)(s':Shared):Prop :=
 match f with
 |.next=>∃g H',Inv X aa g H' s'/\D.nx g H'
 |.brk=>∃g H',Inv X aa g H' s'/\D.bk g H'
 |.cont=>∃g H',Inv X aa g H' s'/\D.ct g H'
 |.ret u=>∃v g H',Inv X aa g H' s'/\aC v u/\D.rt v H'
def PE (X:Cx)(e:Expr)(t:TE):Prop :=
 ∀(aa:List (Addr×Obj))(s:Shared)(σ:St)(H:Hp)(Q:VK),Inv X aa σ H s->t σ H Q->wq X (eval e X.env) (EP X aa σ Q) X.xe s
def PT (X:Cx)(e:Expr)(t:TT):Prop :=
 ∀(aa:List (Addr×Obj))(s:Shared)(σ:St)(H:Hp)(Q:Bool->Hp->Prop),Inv X aa σ H s->t σ H Q->wq X (isTrue e X.env (eval e X.env)) (TP X aa σ Q) X.xe s
def PW (X:Cx)(e:Expr)(t:TT):Prop :=
 ∀(g:Sem Value)(aa:List (Addr×Obj))(s:Shared)(σ:St)(H:Hp)(Q:Bool->Hp->Prop),Inv X aa σ H s->t σ H Q->wq X (isTrue e X.env g) (TP X aa σ Q) X.xe s
theorem PW.pt (h:PW X e t):PT X e t:=h _
def PA (X:Cx)(es:List Expr)(t:TA):Prop :=
 ∀(g:Pos)(aa:List (Addr×Obj))(s:Shared)(σ:St)(H:Hp)(Q:List V->Hp->Prop),Inv X aa σ H s->t σ H Q->wq X (spliced (backTo g (starEach es X.env))) (AP X aa σ Q) X.xe s
def PS (X:Cx)(st:Stmt)(t:TS):Prop :=
 ∀(aa:List (Addr×Obj))(s:Shared)(σ:St)(H:Hp)(D:Ends),Inv X aa σ H s->t D σ H->wq X (exec st X.env) (SP X aa D) X.xe s
def o3 (X:Cx)(st:List Stmt)(t:TS):Prop :=
 ∀(aa:List (Addr×Obj))(s:Shared)(σ:St)(H:Hp)(D:Ends),Inv X aa σ H s->t D σ H->wq X (execs st X.env) (SP X aa D) X.xe s
theorem bF {α:Type}{t:Sem α}{Q g:α->Shared->Prop}{M:Model}{A:Around}{E:Value->Shared->Prop}{s:Shared}(h:wpAny M A t Q E s)(G:∀a s,Q a s->g a s):wpAny M A t g E s:=wpAny_mono h G λ_ _ x=>x
section
variable {X:Cx}
theorem Pa {a b:Expr}{O tb:TE}(ha:PE X a O)(hb:PE X b tb){aa:List (Addr×Obj)}{s:Shared}{σ:St}{H:Hp}{R:V->V->Hp->Prop}(I:Inv X aa σ H s)(h:O σ H λx M=>tb σ M λy H2=>R x y H2)
  {α:Type}{Q:α->Shared->Prop}{f:Value->Value->Sem α}
  (hf:∀v u s2 x y H2,Inv X aa σ H2 s2->aC x v->aC y u->R x y H2->wq X (f v u) Q X.xe s2):
  wq X (eval a X.env) (λv g=>wq X (eval b X.env) (λu G=>wq X (f v u) Q X.xe G) X.xe g) X.xe s:=by
 refine bF (ha aa s σ H _ I h) λv s1 ⟨x,M,T,U,q1⟩=>?_;refine bF (hb aa s1 σ M _ T q1) λu s2 ⟨y,H2,I2,r2,q2⟩=>?_;exact hf v u s2 x y H2 I2 U r2 q2
def xI (i:Nat):TE:=λσ H Q=>∃v,σ[i]? = some (some v)/\Q v H
def tC (v:V):TE:=λ_ H Q=>Q v H
theorem jh (M:X.N[i]? = some x)(hv:yS X.env.scope x)(hd:(x == ("__debug__" : Str))=false:=by decide)(G:(x == ("__classdict__" : Str))=false:=by decide):PE X (.Name x pos) (xI i):=by
 intro aa s σ H Q I h;obtain⟨v,e,h⟩:=h;obtain⟨m,hn,hl⟩:=I.loc;obtain⟨u,r,l⟩:=hl i x v M e hv;have gt:EP X aa σ Q u s:=⟨v,H,I,r,h⟩;rcases l with⟨hk,hm⟩|⟨hk,c,hc,g⟩
 ·exact wpAny_Name (wpAny_loadName_local I.ok.kind hk hn hm gt) hd
 ·rcases hk with hk|hk
  ·exact wpAny_Name (wpAny_loadName_cell I.ok.kind hk hc g gt) hd
  ·exact wpAny_Name (wpAny_loadName_free I.ok.kind hk hc g gt G) hd
theorem yT {i j pos}:PE X (.Constant (.int i) j pos) (tC (.int i)):=λ_ _ _ H _ I h=>wpAny_Constant_int ⟨.int i,H,I.tok _,⟨_,rfl⟩,h⟩
theorem FU {b j pos}:PE X (.Constant (.bool b) j pos) (tC (.bl b)):=λ_ _ _ H _ I h=>Constant_bool ⟨.bl b,H,I,rfl,h⟩
theorem DE {j pos}:PE X (.Constant .none j pos) (tC .non):=λ_ _ _ H _ I h=>Constant_none ⟨.non,H,I,rfl,h⟩
theorem DF {x j pos}:PE X (.Constant (.str x) j pos) (tC (.str x)):=λ_ _ _ H _ I h=>Calls.Constant_str ⟨.str x,H,I.tok _,⟨_,rfl⟩,h⟩
def Gl (X:Cx)(x:Str):Prop:=X.env.kindOf x=some .globalImplicit
theorem qk {E:Value->Shared->Prop}{aa:List (Addr×Obj)}{s:Shared}{σ:St}{H:Hp}{x:Str}{u:Value}{g:Pos}{Q:Value->Shared->Prop}(I:Inv X aa σ H s)(G:Gl X x)(hm:X.mg x=some u)(h:Q u s)
  (hd:(x == ("__debug__" : Str))=false:=by decide):wq X (eval (.Name x g) X.env) Q E s :=
 Calls.Name_function_global I.ok.kind G (Calls.loadGlobal_global (by rw[I.ok.glob];exact I.mod.glob.keeps I.bk) hm h) hd
theorem ji {E:Value->Shared->Prop}{aa:List (Addr×Obj)}{s:Shared}{σ:St}{H:Hp}{x:Str}{u:Value}{g:Pos}{Q:Value->Shared->Prop}(I:Inv X aa σ H s)(G:Gl X x)(hm:X.mg x=none)(hv:bootBuiltins x=some u)(h:Q u s)
  (hn:x ≠ "__name__":=by decide) (hd:(x == ("__debug__" : Str))=false:=by decide):wq X (eval (.Name x g) X.env) Q E s:=by
 obtain⟨mb,h1,h2⟩:=I.mod.blt;exact Calls.Name_function_global I.ok.kind G (Calls.loadGlobal_builtin (by rw[I.ok.glob];exact I.mod.glob.keeps I.bk) hm (by rw[I.ok.blt];exact h1.keeps I.bk) ((h2 x hn).trans hv) h) hd
theorem wa (g:Gl X x)(hm:X.mg x=some u)(r:aC v u)(hd:(x == ("__debug__" : Str))=false:=by decide):PE X (.Name x pos) (tC v) :=
 λ_ _ _ H _ I h=>qk I g hm ⟨v,H,I,r,h⟩ hd
theorem Bf (g:Gl X x)(hm:X.mg x=none)(hv:bootBuiltins x=some u)(r:aC v u)(hn:x ≠ "__name__":=by decide)(hd:(x == ("__debug__" : Str))=false:=by decide):PE X (.Name x pos) (tC v) :=
 λ_ _ _ H _ I h=>ji I g hm hv ⟨v,H,I,r,h⟩ hn hd
def M6 (g tb:TE)(k:Int->Int->Hp->Prop):St->Hp->Prop:=λσ H=>g σ H λx G=>tb σ G λy H2=>∃i j,x=.int i/\y=.int j/\k i j H2
variable {a b:Expr}{ta tb:TE}{pos:Pos}
def PC (X:Cx)(op:CmpOp)(a b:Expr)(t:TE):Prop :=
 ∀(aa:List (Addr×Obj))(s:Shared)(σ:St)(H:Hp)(Q:VK),Inv X aa σ H s->t σ H Q ->
  wq X (eval a X.env) (λv g=>wq X (eval b X.env) (λu G=>wq X (compareOp op v u) (EP X aa σ Q) X.xe G) X.xe g) X.xe s
theorem j7 (b:Expr){op:CmpOp}(h:op≠.In)(h2:op≠.NotIn):behindInMarks op b=false:=by
 have g:(op == CmpOp.In)=false:=by cases op<;>first|rfl|exact absurd rfl h
 have e2:(op == CmpOp.NotIn)=false:=by cases op<;>first|rfl|exact absurd rfl h2
 cases b<;>simp[behindInMarks,g,e2]
def DG (p:Int->Int->Bool)(ta tb:TE):TE:=λσ H Q=>M6 ta tb (λi j H2=>Q (.bl (p i j)) H2) σ H
abbrev M7:TE->TE->TE:=DG λi j=>decide (i<j)
abbrev M8:TE->TE->TE:=DG λi j=>decide (j<i)
abbrev M9:TE->TE->TE:=DG λi j=>decide (j<=i)
def tB (t:TE):TT:=λσ H Q=>t σ H λx g=>∃c,x=.bl c/\Q c g
theorem DH {op:CmpOp}{t:TE}(h:PC X op a b t)(h1:behindInMarks op b=false:=by first|exact j7 _ (by decide) (by decide)|rfl):PT X (.Compare a [op] [b] pos) (tB t):=by
 intro aa s σ H Q I hw;refine wpAny_isTrue_Compare1 (bF (h aa s σ H _ I hw) λv s1 h1=>bF h1 λu s2 h2=>bF h2 λc T ⟨x,g,G,M,O⟩=>?_) h1;obtain⟨d,rfl,q⟩:=O;cases M
 exact wpAny_truthy_bool ⟨g,G,q⟩
theorem DI {e:Expr}{t:TE}(h:PE X e t)(he:∀g,isTrue e X.env g=(do let v ←g;standAt e.pos;holding [v] (truthy v)):=by intro _;rfl):PT X e (tB t):=by
 intro aa s σ H Q I hw;refine isTrue_plain (bF (h aa s σ H _ I hw) λv s1 ⟨x,G,M,O,T⟩=>?_) (he _);obtain⟨d,rfl,q⟩:=T;cases O
 exact wpAny_truthy_bool ⟨G,M,q⟩
variable {tA IA:TT}{az:List Expr}
def FV (t u:TT):TT:=λσ H Q=>t σ H λc g=>if c=true then u σ g Q else Q false g
def KO (t u:TT):TT:=λσ H Q=>t σ H λc g=>if c=true then Q true g else u σ g Q
def FW (t:TT):TT:=λσ H Q=>t σ H λc g=>Q (!c) g
theorem Bg (ha:PT X a tA):PW X (.BoolOp .And [a] pos) tA:=by
 intro g aa s σ H Q I h;refine isTrue_and (bF (ha aa s σ H Q I h) λc s1 e=>?_);cases c with
 |true=>exact isTrue_and_nil e
 |false=>exact e
theorem DJ (ha:PT X a tA):PW X (.BoolOp .Or [a] pos) tA:=by
 intro g aa s σ H Q I h;refine isTrue_or (bF (ha aa s σ H Q I h) λc s1 e=>?_);cases c with
 |false=>exact isTrue_or_nil e
 |true=>exact e
theorem DK (ha:PT X a tA)(hb:PW X (.BoolOp .And (b::az) pos) IA):PW X (.BoolOp .And (a::b::az) pos) (FV tA IA):=by
 intro O aa s σ H Q I h;refine isTrue_and (bF (ha aa s σ H _ I h) λc s1 ⟨g,G,M⟩=>?_);cases c with
 |true=>exact hb O aa s1 σ g Q G M
 |false=>exact⟨g,G,M⟩
theorem FX (ha:PT X a tA)(hb:PW X (.BoolOp .Or (b::az) pos) IA):PW X (.BoolOp .Or (a::b::az) pos) (KO tA IA):=by
 intro O aa s σ H Q I h;refine isTrue_or (bF (ha aa s σ H _ I h) λc s1 ⟨g,G,M⟩=>?_);cases c with
 |true=>exact⟨g,G,M⟩
 |false=>exact hb O aa s1 σ g Q G M
theorem DM (ha:PT X a tA):PT X (.UnaryOp .Not a pos) (FW tA):=by
 intro aa s σ H Q I h;exact isTrue_not (ha aa s σ H (λc g=>Q (!c) g) I h)
def FY (ta tb:TE):TE:=λσ H Q=>ta σ H λx g=>∃c,x=.bl c/\if c=true then tb σ g Q else Q (.bl false) g
def IU (ta tb:TE):TE:=λσ H Q=>ta σ H λx g=>∃c,x=.bl c/\if c=true then Q (.bl true) g else tb σ g Q
def FZ (ta:TE):TE:=λσ H Q=>ta σ H λx g=>∃c,x=.bl c/\Q (.bl (!c)) g
theorem DN {op}(h:PE X a t):PE X (.BoolOp op [a] pos) t:=λaa s σ H Q I hw=>BoolOp_one (h aa s σ H Q I hw)
theorem DO (ha:PE X a ta)(hb:PE X (.BoolOp .And (b::az) pos) tb):PE X (.BoolOp .And (a::b::az) pos) (FY ta tb):=by
 intro aa s σ H Q I h;refine BoolOp_and (bF (ha aa s σ H _ I h) λv s1 ⟨x,G,M,O,g⟩=>?_);obtain⟨c,rfl,g⟩:=g;cases O
 refine wpAny_truthy_bool ?_;cases c with
 |true=>exact hb aa s1 σ G Q M g
 |false=>exact⟨.bl false,G,M,rfl,g⟩
theorem Ga (ha:PE X a ta)(hb:PE X (.BoolOp .Or (b::az) pos) tb):PE X (.BoolOp .Or (a::b::az) pos) (IU ta tb):=by
 intro aa s σ H Q I h;refine BoolOp_or (bF (ha aa s σ H _ I h) λv s1 ⟨x,G,M,O,g⟩=>?_);obtain⟨c,rfl,g⟩:=g;cases O
 refine wpAny_truthy_bool ?_;cases c with
 |false=>exact hb aa s1 σ G Q M g
 |true=>exact⟨.bl true,G,M,rfl,g⟩
theorem DP (ha:PE X a ta):PE X (.UnaryOp .Not a pos) (FZ ta):=by
 intro aa s σ H Q I h;refine UnaryOp_ (bF (ha aa s σ H _ I h) λv s1 ⟨x,G,M,O,g⟩=>?_);obtain⟨c,rfl,g⟩:=g;cases O
 exact not_of (wpAny_truthy_bool ⟨.bl (!c),G,M,rfl,g⟩)
end
def eK (K:Frag)(H:Hp)(a:Addr)(xs:List V):Prop :=
 Rd H a (.lst xs) ∨
  ∃(o:Obj)(its:Array Value)(n:Nat),K.lookup a=some o/\o.cls=.type "list"/\o.dict=none/\o.data=.seq its n/\its.size<=sizeLine/\aH xs its.toList
def ga (K:Frag)(H:Hp)(a:Addr)(xs:List V):Prop :=
 Rd H a (.tup xs) ∨
  ∃(o:Obj)(its:Array Value)(n:Nat),K.lookup a=some o/\o.cls=.type "tuple"/\o.data=.seq its n/\its.size<=sizeLine/\aH xs its.toList
noncomputable def IV:Value->Option V
 |.none=>some .non
 |.bool b=>some (.bl b)
 |.int i _=>some (.int i)
 |.str x _=>some (.str x)
 |.bytes b _=>some (.byt b)
 |.float b _=>some (.flt b)
 |.ref a=>some (.ref a)
 |.type n=>some (.ty n)
 |_=>none
theorem aC.abs (r:aC x u):IV u=some x:=by
 cases x with
 |non=>cases r;rfl
 |bl _=>cases r;rfl
 |int _=>obtain⟨t,rfl⟩:=r;rfl
 |str _=>obtain⟨t,rfl⟩:=r;rfl
 |byt _=>obtain⟨t,rfl⟩:=r;rfl
 |flt _=>obtain⟨t,rfl⟩:=r;rfl
 |ref _=>cases r;rfl
 |ty _=>cases r;rfl
theorem aC.inj (r:aC x u)(q:aC y u):x=y:=vK (r.abs.symm.trans q.abs)
theorem aH.inj:∀ {xs ys:List V}{us:List Value},aH xs us->aH ys us->xs=ys
 |_,_,_,.nil,.nil=>rfl
 |_,_,_,.cons r t,.cons g t'=>by rw[r.inj g,aH.inj t t']
section
variable {X:Cx}{aa:List (Addr×Obj)}{σ:St}{H:Hp}{s:Shared}{a:Addr}{xs ys:List V}
theorem eK.of {K:Frag}(h:H a=some (.lst xs)):eK K H a xs:=.inl (.inl h)
theorem ga.of {K:Frag}(h:H a=some (.tup xs)):ga K H a xs:=.inl (.inl h)
theorem Inv.list (I:Inv X aa σ H s)(h:eK X.K H a xs):∃its:List Value,aH xs its/\PlainL s.heap a its.toArray/\xs.length<=sizeLine:=by
 rcases h with h|⟨o,its,n,hk,hc,hd,hs,hz,r⟩
 ·obtain⟨z,its,n,r,e⟩:=h.ok I.hok;exact⟨its,r,⟨_,n,e,rfl,rfl,rfl⟩,z⟩
 ·refine⟨its.toList,r,⟨o,n,I.kIn a o hk,hc,hd,by simpa using hs⟩,?_⟩;have e:=r.length;simp only[vG]at e;omega
theorem Inv.tuple (I:Inv X aa σ H s)(h:ga X.K H a xs):∃its:List Value,aH xs its/\IsTup s.heap a its.toArray/\xs.length<=sizeLine:=by
 rcases h with h|⟨o,its,n,hk,hc,hs,hz,r⟩
 ·obtain⟨z,its,r,p⟩:=h.ok I.hok;exact⟨its,r,p,z⟩
 ·refine⟨its.toList,r,⟨o,I.kIn a o hk,hc,n,by simpa using hs⟩,?_⟩;have e:=r.length;simp only[vG]at e;omega
theorem Inv.list_inj (I:Inv X aa σ H s)(h:eK X.K H a xs)(h':eK X.K H a ys):xs=ys:=by
 obtain⟨its,r,⟨o,n,e,_,_,d⟩,_⟩:=I.list h;obtain⟨its',G,⟨o',M,g,_,_,d'⟩,_⟩:=I.list h';rw[e]at g;cases g;rw[d]at d';injection d' with d1 _;have:its=its':=by simpa using congrArg Array.toList d1
 subst this;exact r.inj G
theorem Inv.tuple_inj (I:Inv X aa σ H s)(h:ga X.K H a xs)(h':ga X.K H a ys):xs=ys:=by
 obtain⟨its,r,⟨o,e,_,n,d⟩,_⟩:=I.tuple h;obtain⟨its',G,⟨o',g,_,M,d'⟩,_⟩:=I.tuple h';rw[e]at g;cases g;rw[d]at d';injection d' with d1 _;have:its=its':=by simpa using congrArg Array.toList d1
 subst this;exact r.inj G
end
noncomputable abbrev Cx.wish (X:Cx)(E:Value->Shared->Prop):Cx:={ X with xe:=E }
noncomputable abbrev Cx.nox (X:Cx):Cx:=X.wish λ_ _=>False
theorem Cx.Ok.wish {X:Cx}(ok:X.Ok)(E:Value->Shared->Prop):(X.wish E).Ok :=
 ⟨ok.mod,ok.kind,ok.glob,ok.blt,ok.above,ok.inj,ok.has,ok.cab,ok.hd,ok.frames,ok.stk,ok.exf,ok.bs,ok.bsz,ok.noex,ok.exfs,ok.funs,ok.frf⟩
theorem Cx.Ok.unwish {X:Cx}{E:Value->Shared->Prop}(ok:(X.wish E).Ok):X.Ok :=
 ⟨ok.mod,ok.kind,ok.glob,ok.blt,ok.above,ok.inj,ok.has,ok.cab,ok.hd,ok.frames,ok.stk,ok.exf,ok.bs,ok.bsz,ok.noex,ok.exfs,ok.funs,ok.frf⟩
section
variable {X:Cx}{aa:List (Addr×Obj)}{σ:St}{H:Hp}{s:Shared}{E:Value->Shared->Prop}
theorem Inv.wish (I:Inv X aa σ H s)(E:Value->Shared->Prop):Inv (X.wish E) aa σ H s:=⟨I.ok.wish E,I.os,I.bare,I.base,I.loc,I.cell,I.free,I.freeC,I.pin,I.hok,I.len⟩
theorem Inv.unwish (I:Inv (X.wish E) aa σ H s):Inv X aa σ H s:=⟨I.ok.unwish,I.os,I.bare,I.base,I.loc,I.cell,I.free,I.freeC,I.pin,I.hok,I.len⟩
theorem SP.unwish (h:SP (X.wish E) aa D f s'):SP X aa D f s':=by
 cases f with
 |next=>obtain⟨g,H',I,q⟩:=h;exact⟨g,H',I.unwish,q⟩
 |brk=>obtain⟨g,H',I,q⟩:=h;exact⟨g,H',I.unwish,q⟩
 |cont=>obtain⟨g,H',I,q⟩:=h;exact⟨g,H',I.unwish,q⟩
 |ret u=>obtain⟨v,g,H',I,r,q⟩:=h;exact⟨v,g,H',I.unwish,r,q⟩
theorem PE.nox (h:PE X.nox e t):PE X e t:=λaa s σ H Q I hw=>
 wpAny_mono (h aa s σ H Q (I.wish _) hw) (λ_ _ ⟨v,H',g,r,q⟩=>⟨v,H',g.unwish,r,q⟩) λ_ _ z=>False.elim z
theorem PT.nox (h:PT X.nox e t):PT X e t:=λaa s σ H Q I hw=>
 wpAny_mono (h aa s σ H Q (I.wish _) hw) (λ_ _ ⟨H',g,q⟩=>⟨H',g.unwish,q⟩) λ_ _ z=>False.elim z
theorem o3.nox {st:List Stmt}{t:TS}(h:o3 X.nox st t):o3 X st t:=λaa s σ H D I hw=>
 wpAny_mono (h aa s σ H D (I.wish _) hw) (λ_ _ q=>q.unwish) λ_ _ z=>False.elim z
end
section
variable {X:Cx}{st:Stmt}{az:List Stmt}{t u:TS}{e:Expr}{te:TE}{pos:Pos}
def mm:TS:=λD σ H=>D.nx σ H
def yU (t u:TS):TS:=λD σ H=>t { D with nx:=u D } σ H
theorem ql:o3 X [] mm:=λ_ _ σ H _ I h=>wpAny_execs_nil ⟨σ,H,I,h⟩
theorem j8 (h1:PS X st t)(h2:o3 X az u):o3 X (st::az) (yU t u):=by
 intro aa s σ H D I h;refine wpAny_execs_cons (bF (h1 aa s σ H { D with nx:=u D } I h) λf s1 q=>?_);cases f with
 |next=>
  obtain⟨g,H',G,q⟩:=q;exact h2 aa s1 g H' D G q
 |ret v=>exact q
 |brk=>exact q
 |cont=>exact q
theorem wb (h1:PS X st t):o3 X [st] t:=by
 intro aa s σ H D I h;refine wpAny_execs_cons (bF (h1 aa s σ H D I h) λf s1 q=>?_);cases f with
 |next=>exact wpAny_execs_nil q
 |ret v=>exact q
 |brk=>exact q
 |cont=>exact q
def Gb:TS:=λD σ H=>D.ct σ H
theorem rB:PS X (.Continue pos) Gb:=λ_ _ σ H _ I h=>wpAny_Continue ⟨σ,H,I,h⟩
theorem Inv.quiet (I:Inv X aa σ H s):interactive X.env=false:=by simp[interactive,I.ok.kind]
def CS (te:TE):TS:=λD σ H=>te σ H λ_ g=>D.nx σ g
theorem wc (he:PE X e te)(hs:swapsWith e none pos.line X.env=pure false:=by rfl):PS X (.Expr e pos) (CS te):=by
 intro aa s σ H D I h;exact wpAny_Expr_any (bF (he aa s σ H _ I h) λv s1 ⟨x,g,G,O,M⟩=>⟨σ,g,G,M⟩) I.quiet hs
def Bh (te:TE):TS:=λD σ H=>te σ H D.rt
theorem tZ (he:PE X e te):PS X (.Return (some e) pos) (Bh te):=by
 intro aa s σ H D I h;exact wpAny_Return_some (bF (he aa s σ H _ I h) λv s1 ⟨x,g,G,M,O⟩=>⟨x,σ,g,G,M,O⟩)
def ua (c:TT)(t u:TS):TS:=λD σ H=>c σ H λb g=>if b=true then t D σ g else u D σ g
theorem yV {c:Expr}{a b:List Stmt}{g:TT}(hc:PT X c g)(ha:o3 X a t)(hb:o3 X b u):PS X (.If c a b pos) (ua g t u):=by
 intro aa s σ H D I h;refine wpAny_If (bF (hc aa s σ H _ I h) λd s1 ⟨G,M,O⟩=>?_);cases d with
 |true=>exact ha aa s1 σ G D M O
 |false=>exact hb aa s1 σ G D M O
end
abbrev TG:=V->St->Hp->(St->Hp->Prop)->Prop
abbrev DQ:=List V->St->Hp->(St->Hp->Prop)->Prop
def PG (X:Cx)(g:Expr)(t:TG):Prop :=
 ∀(aa:List (Addr×Obj))(s:Shared)(σ:St)(H:Hp)(v:V)(u:Value)(Q:St->Hp->Prop),Inv X aa σ H s->aC v u->t v σ H Q ->
  wq X (assign g X.env u) (λ_ s'=>∃G H',Inv X aa G H' s'/\Q G H') X.xe s
def Ii (X:Cx)(G:List Expr)(t:DQ):Prop :=
 ∀(aa:List (Addr×Obj))(s:Shared)(σ:St)(H:Hp)(vs:List V)(us:List Value)(Q:St->Hp->Prop),Inv X aa σ H s->aH vs us->t vs σ H Q ->
  wq X (assignInOrder ((assignEach G X.env).map (·.2)) us) (λ_ s'=>∃g H',Inv X aa g H' s'/\Q g H') X.xe s
section
variable {X:Cx}{pos:Pos}
def gO (i:Nat):TG:=λv σ H Q=>Q (σ.set i (some v)) H
theorem wd (g:X.N.Nodup)(hi:X.N[i]? = some x)(hx:AQ X.env.scope x)(hf:X.fn x=true∨X.env.scope.names.lookup x=some .local:=by first|exact .inl rfl|exact .inr rfl|assumption):PG X (.Name x pos) (gO i):=by
 intro aa s σ H v u Q I r h;exact wpAny_assign_Name (rA I g hi hx r (λs' G=>⟨_,H,G,h⟩) hf)
def Gc:DQ:=λvs σ H Q=>vs=[]/\Q σ H
def CT (t:TG)(u:DQ):DQ:=λvs σ H Q=>∃v r,vs=v::r/\t v σ H λg H'=>u r g H' Q
theorem lQ:Ii X [] Gc:=by
 intro aa s σ H vs us Q I r h;obtain⟨e,h⟩:=h;subst e;cases r
 exact assignInOrder_nil ⟨σ,H,I,h⟩
theorem dU {e:Expr}{es:List Expr}{t:TG}{u:DQ}(h1:PG X e t)(h2:Ii X es u)
  (hs:(assignEach (e::es) X.env).map (·.2)=assign e X.env::(assignEach es X.env).map (·.2):=by rfl):Ii X (e::es) (CT t u):=by
 intro aa s σ H vs us Q I r h;obtain⟨v,vr,G,h⟩:=h;subst G;cases r with
 |cons r M=>
  rw[hs];refine assignInOrder_cons (bF (h1 aa s σ H _ _ _ I r h) λ_ s1 ⟨g,O,T,U⟩=>?_);exact h2 aa s1 g O _ _ Q T M U
def DR (K:Frag)(n:Nat)(t:DQ):TG:=λv σ H Q=>∃a xs,v=.ref a/\ga K H a xs/\xs.length=n/\t xs σ H Q
theorem qm (hc:X.calm=true)(h:Ii X es t)
  (hn:(assignEach es X.env).length=n:=by rfl) (g:(assignEach es X.env).findIdx? (·.1)=none:=by rfl):PG X (.Tuple es k pos) (DR X.K n t):=by
 intro aa s σ H v u Q I r hw;obtain⟨a,xs,M,hq,hl,hw⟩:=hw;subst M;cases r
 obtain⟨its,G,O,hz⟩:=I.tuple hq;refine assign_Tuple_tuple (I.ok.hd hc) O (by simp[hn,←hl,G.length]) g λh' hx=>?_;have T:Inv X aa σ H { s with heap:=h' }:=I.kept (t':=s.toks) λb o e=>hx b o (vS (vX e)) e;exact h aa _ σ H xs _ Q T (by simpa using G) hw
def xJ (G:TE)(g:TG):TS:=λD σ H=>G σ H λx M=>g x σ M D.nx
theorem qo {i:Nat}{x:Str}{e:Expr}{G:TE}{g:Pos}(M:X.N.Nodup)(hi:X.N[i]? = some x)(hx:AQ X.env.scope x)(he:PE X e G)(hs:swapsWith e (some (.Name x g)) pos.line X.env=pure false:=by rfl)(hf:X.fn x=true∨X.env.scope.names.lookup x=some .local:=by first|exact .inl rfl|exact .inr rfl|assumption):
  PS X (.Assign [.Name x g] e pos) (xJ G (gO i)):=by
 intro aa s σ H D I h;refine wpAny_Assign_Name (bF (he aa s σ H _ I h) λv s1 ⟨y,O,T,U,q1⟩=>?_) hs;exact rA T M hi hx U (λs2 I2=>⟨_,O,I2,q1⟩) hf
end
section
variable {X:Cx}{pos:Pos}
def yW (c:TT)(tb:TS):TS:=λD σ H=>∃W:Nat->St->Hp->Prop,(∃m,W m σ H)/\∀m σ H,W m σ H ->
 c σ H λb G=>if b=true then ∃N:St->Hp->Prop,(∀g H',N g H'->∃M,M<m/\W M g H')/\tb { D with nx:=N,ct:=N,bk:=D.nx } σ G else D.nx σ G
theorem yX {c:Expr}{M:List Stmt}{tc:TT}{tb:TS}(hp:PassesOwn (model X.prog X.w) X.A X.env X.xe)(hc:PT X c tc)(hb:o3 X M tb):PS X (.While c M [] pos) (yW tc tb):=by
 intro aa s σ H D I h;obtain⟨W,⟨m0,w0⟩,O⟩:=h;refine wpAny_While (codeAny_whileLoop (λn s'=>∃T H',Inv X aa T H' s'/\W n T H') ?_ m0 ⟨σ,H,I,w0⟩);rintro n s1 ⟨G,H1,I1,w1⟩;refine wpAny_passesOwn hp (bF (hc aa s1 G H1 _ I1 (O n G H1 w1)) λb s2 ⟨H2,I2,q2⟩=>?_);cases b with
 |true=>
  obtain⟨N,hN,q2⟩:=q2;rw[if_pos rfl];refine wpAny_passesOwn hp (bF (hb aa s2 G H2 _ I2 q2) λf s3 q3=>?_);cases f with
  |next=>
   obtain⟨g,U,I3,n3⟩:=q3;obtain⟨m',hm,w3⟩:=hN g U n3;exact⟨m',hm,g,U,I3,w3⟩
  |cont=>
   obtain⟨g,U,I3,n3⟩:=q3;obtain⟨m',hm,w3⟩:=hN g U n3;exact⟨m',hm,g,U,I3,w3⟩
  |brk=>exact q3
  |ret v=>exact q3
 |false=>
  rw[if_neg uY];exact wpAny_execs_nil ⟨G,H2,I2,q2⟩
end
structure It where
 go:Nat->Hp->Prop
 yld:Nat->Hp->V->Hp->Prop
 stop:Nat->Hp->Prop
def k6 (X:Cx)(aa:List (Addr×Obj))(H:Hp)(b:Addr):Prop :=
 H b=none/\b≠X.env.locals/\b∉X.fs/\(b∈X.ex∨X.s₀.heap.objs.size<=b)/\(∀x c,X.env.cells.lookup x=some c->c≠b)/\∀p∈X.pn++aa,p.1≠b
theorem Inv.fpOk (I:Inv X aa σ H s)(hb:s.heap.objs.size<=b)(hn:H' b=none):k6 X aa H' b:=by
 refine⟨hn,Nat.ne_of_gt (vQ I.lt hb),I.nofs hb,.inr (vR I.sz hb),λx c e z=>?_,λp hp z=>?_⟩
 ·obtain⟨v,q⟩:=I.cell x c e;exact absurd (vQ q.lt (by rw[z];exact hb)) (Nat.lt_irrefl _)
 ·exact absurd (vQ (vX (I.pin p hp).1) (by rw[z];exact hb)) (Nat.lt_irrefl _)
structure Turn (P:Program)(w:World)(K:Frag)(tg:Expr)(J:It)(fp:List Addr)(it:Addr)(tn:Nat->Heap->Prop):Prop where
 mem:it∈fp
 obj:∀i h,tn i h->∀b∈fp,∃o,h.get? b=some o/\∀v,o.data≠.cell v
 keep:∀i h h',tn i h->(∀b∈fp,∀o,h.get? b=some o->h'.get? b=some o)->tn i h'
 item:∀(X:Cx),X.prog=P->X.w=w->X.K=K->X.calm=true->∀(i:Nat)(aa:List (Addr×Obj))(s:Shared)(σ:St)(H:Hp)(E:Value->Shared->Prop),Inv X aa σ H s->(∀b∈fp,k6 X aa H b)->tn i s.heap->J.go i H ->
  wpAny (model P w) X.A (pyNext (.ref it)) (λr s1=>∃u,r=some u /\
   wpAny (model P w) X.A (letOwnedTupleGo tg (.ref it) u) (λ_ s2=>∃x H',Inv X aa σ H' s2/\aC x u/\J.yld i H x H'/\tn (i+1) s2.heap/\∀b∈fp,H' b=none) E s1) E s
 done:∀(X:Cx),X.prog=P->X.w=w->X.K=K->X.calm=true->∀(i:Nat)(aa:List (Addr×Obj))(s:Shared)(σ:St)(H:Hp)(E:Value->Shared->Prop),Inv X aa σ H s->(∀b∈fp,k6 X aa H b)->tn i s.heap->J.stop i H ->
  wpAny (model P w) X.A (pyNext (.ref it)) (λr s1=>r=none/\Inv X aa σ H s1) E s
 self:∀(A:Around)(i:Nat)(s:Shared)(Q:Value->Shared->Prop)(E:Value->Shared->Prop),tn i s.heap->Q (.ref it) s->wpAny (model P w) A (pyIter (.ref it)) Q E s
abbrev TI:=St->Hp->(It->Hp->Prop)->Prop
def KP (X:Cx)(aa:List (Addr×Obj))(σ:St)(tg:Expr)(R:It->Hp->Prop)(g:Value)(s2:Shared):Prop :=
 ∃(it:Addr)(fp:List Addr)(tn:Nat->Heap->Prop)(J:It)(H':Hp),g=.ref it/\Inv X aa σ H' s2/\Turn X.prog X.w X.K tg J fp it tn/\tn 0 s2.heap/\(∀b∈fp,k6 X aa H' b)/\R J H'
def PI (X:Cx)(tg g:Expr)(G:TI):Prop :=
 ∀(aa:List (Addr×Obj))(s:Shared)(σ:St)(H:Hp)(R:It->Hp->Prop),Inv X aa σ H s->G σ H R ->
  wq X (eval g X.env) (λv s1=>wq X (pyIter v) (KP X aa σ tg R) X.xe s1) X.xe s
theorem mn (G:s.heap.get? it=some o)(hc:o.cls=.type n)(hd:o.data=.fields vs)
    (hn:["enumerate","zip","dict_itemiterator","dict_reverseitemiterator","odict_iterator","itertools.zip_longest","itertools.pairwise"].contains n=false) (g:Q () s):wpAny M A (letOwnedTupleGo tg (.ref it) u) Q E s:=by
  unfold letOwnedTupleGo;cases tg<;>first
    |exact wY g
    | (cases u<;>first
        |exact wY g
        | (refine wX (wpAny_load G ?_)
           rw[hc,hd]
           show wpAny M A (if(["enumerate","zip","dict_itemiterator","dict_reverseitemiterator","odict_iterator","itertools.zip_longest","itertools.pairwise"].contains n && vs[0]? == some (rawInt _))=true then _ else _) Q E s
           rw[if_neg (by intro h;rw[hn,Bool.false_and]at h;cases h)]
           exact wY g))
noncomputable def IW (K:Frag)(a:Addr):It :=
 ⟨λi H=>∃xs x,eK K H a xs/\xs[i]? = some x,λi H x H'=>H'=H/\∀xs,eK K H a xs->xs[i]? = some x,λi H=>∃xs,eK K H a xs/\xs.length<=i⟩
noncomputable def KQ (K:Frag)(a:Addr):It :=
 ⟨λi H=>∃xs x,ga K H a xs/\xs[i]? = some x,λi H x H'=>H'=H/\∀xs,ga K H a xs->xs[i]? = some x,λi H=>∃xs,ga K H a xs/\xs.length<=i⟩
noncomputable def Ij (lo:Int)(n:Nat):It:=⟨λi _=>i<n,λi H x H'=>H'=H/\x=.int (lo+i),λi _=>n<=i⟩
theorem xK {P:Program}{w:World}{K:Frag}{tg:Expr}(a it:Addr):Turn P w K tg (IW K a) [it] it (λi h=>h.IsListIter it a i) where
 mem:=by simp
 obj:=λi h st b hb=>by
  have e:b=it:=by simpa using hb
  subst e;obtain⟨o,e,c,d⟩:=st;exact⟨o,e,λv z=>by rw[d]at z;cases z⟩
 keep:=λi h h' st k=>st.at λo e=>k it (by simp) o e
 item:=by
  intro X G hw M hc i aa s σ H E I hf st O;subst G hw M;obtain⟨xs,x,hq,hx⟩:=O;obtain⟨its,T,p,hz⟩:=I.list hq;obtain⟨u,hu,ru⟩:=T.get hx;obtain⟨f0,f1,f2,f3,f4,f5⟩:=hf it (by simp);refine wpAny_pyNext_list_item st p.isList (x:=u) (by simpa using hu) λh' g U=>?_;have I1:Inv X aa σ H { s with heap:=h' }:=I.turned (t':=s.toks) (λb o hb e=>(U.2 b hb).trans e) f0 f1 f3 f4 f5;obtain⟨o,e,c,d⟩:=id g;exact⟨u,rfl,mn (s:={ s with heap:=h' }) e c d (by decide) ⟨x,H,I1,ru,⟨rfl,λys hy=>by rw[I.list_inj hy hq];exact hx⟩,g,λb hb=>(hf b hb).1⟩⟩
 done:=by
  intro X G hw M hc i aa s σ H E I hf st O;subst G hw M;obtain⟨xs,hq,hx⟩:=O;obtain⟨its,T,p,hz⟩:=I.list hq;obtain⟨f0,f1,f2,f3,f4,f5⟩:=hf it (by simp);have hl:=T.length;exact wpAny_pyNext_list_end (I.ok.hd hc) st p.isList (by simp;omega) λh' eb=>⟨rfl,I.turned (t':=s.toks) (λb o hb e=>eb b o hb e) f0 f1 f3 f4 f5⟩
 self:=λ_ _ _ _ _ st h=>wpAny_pyIter_listiter st h
theorem ub {P:Program}{w:World}{K:Frag}{tg:Expr}(a it:Addr):Turn P w K tg (KQ K a) [it] it (λi h=>h.IsTupleIter it a i) where
 mem:=by simp
 obj:=λi h st b hb=>by
  have e:b=it:=by simpa using hb
  subst e;obtain⟨o,e,c,d⟩:=st;exact⟨o,e,λv z=>by rw[d]at z;cases z⟩
 keep:=λi h h' st k=>st.at λo e=>k it (by simp) o e
 item:=by
  intro X G hw M hc i aa s σ H E I hf st O;subst G hw M;obtain⟨xs,x,hq,hx⟩:=O;obtain⟨its,T,p,hz⟩:=I.tuple hq;obtain⟨u,hu,ru⟩:=T.get hx;obtain⟨f0,f1,f2,f3,f4,f5⟩:=hf it (by simp);refine wpAny_pyNext_tuple_item st (show s.heap.IsTuple a its.toArray from p) (x:=u) (by simpa using hu) λh' g U=>?_;have I1:Inv X aa σ H { s with heap:=h' }:=I.turned (t':=s.toks) (λb o hb e=>(U.2 b hb).trans e) f0 f1 f3 f4 f5;obtain⟨o,e,c,d⟩:=id g;exact⟨u,rfl,mn (s:={ s with heap:=h' }) e c d (by decide) ⟨x,H,I1,ru,⟨rfl,λys hy=>by rw[I.tuple_inj hy hq];exact hx⟩,g,λb hb=>(hf b hb).1⟩⟩
 done:=by
  intro X G hw M hc i aa s σ H E I hf st O;subst G hw M;obtain⟨xs,hq,hx⟩:=O;obtain⟨its,T,p,hz⟩:=I.tuple hq;obtain⟨f0,f1,f2,f3,f4,f5⟩:=hf it (by simp);have hl:=T.length;exact wpAny_pyNext_tuple_end (I.ok.hd hc) st (show s.heap.IsTuple a its.toArray from p) (by simp;omega) λh' eb=>⟨rfl,I.turned (t':=s.toks) (λb o hb e=>eb b o hb e) f0 f1 f3 f4 f5⟩
 self:=λ_ _ _ _ _ st h=>wpAny_pyIter_tupleiter st h
theorem uc {P:Program}{w:World}{K:Frag}{tg:Expr}(it:Addr)(lo:Int)(n:Nat):Turn P w K tg (Ij lo n) [it] it (λi h=>IsRangeIter h it (lo+(i:Nat)*1) ((n:Int) - (i:Nat)) 1) where
 mem:=by simp
 obj:=λi h st b hb=>by
  have e:b=it:=by simpa using hb
  subst e;exact⟨_,st,λv z=>by
   have T:Data.fields _=Data.cell v:=z;cases T⟩
 keep:=λi h h' st k=>k it (by simp) _ st
 item:=by
  intro X G hw M hc i aa s σ H E I hf st O;subst G hw M;obtain⟨f0,f1,f2,f3,f4,f5⟩:=hf it (by simp);have W:=Walks.range (prog:=X.prog) (w:=X.w) (I.ok.hd hc) it lo 1 n;refine W.item i s _ _ O st λv h' tk hv g U=>?_;obtain⟨t,rfl⟩:=hv;have I1:Inv X aa σ H { s with heap:=h',toks:=tk }:=I.turned (λb o hb e=>U b o (by simpa using hb) e) f0 f1 f3 f4 f5;refine⟨_,rfl,mn (s:={ s with heap:=h',toks:=tk }) (n:="range_iterator") g rfl rfl (by decide) ⟨.int (lo+i),H,I1,⟨t,?_⟩,⟨rfl,rfl⟩,g,λb hb=>(hf b hb).1⟩⟩;rw[Int.mul_one]
 done:=by
  intro X G hw M hc i aa s σ H E I hf st O;subst G hw M;obtain⟨f0,f1,f2,f3,f4,f5⟩:=hf it (by simp);exact wpAny_pyNext_range_end (I.ok.hd hc) st (by have:n<=i:=O;omega) λh' eb=>⟨rfl,I.turned (t':=s.toks) (λb o hb e=>eb b o hb e) f0 f1 f3 f4 f5⟩
 self:=λ_ _ _ _ _ st h=>wpAny_pyIter_rangeiter st h
section
variable {X:Cx}{tg:Expr}
def Gd (K:Frag)(tl:TE):TI:=λσ H R=>tl σ H λx g=>∃a,x=.ref a/\(∃xs,eK K g a xs)/\R (IW K a) g
def IX (K:Frag)(tl:TE):TI:=λσ H R=>tl σ H λx g=>∃a,x=.ref a/\(∃xs,ga K g a xs)/\R (KQ K a) g
theorem Bi {l:Expr}{tl:TE}(hl:PE X l tl):PI X tg l (Gd X.K tl):=by
 intro aa s σ H R I h;refine bF (hl aa s σ H _ I h) λv s1 ⟨x,G,g,M,O⟩=>?_;obtain⟨a,e,⟨xs,hq⟩,q⟩:=O;subst e;cases M
 obtain⟨its,T,p,hz⟩:=g.list hq;refine wpAny_pyIter_list p.isList ?_;refine⟨s1.heap.objs.size,[s1.heap.objs.size],_,_,G,rfl,g.kept (t':=s1.toks) λb o e=>vZ _ e,xK a _,⟨_,vY _ rfl,rfl,rfl⟩,λb hb=>?_,q⟩;have e:b=s1.heap.objs.size:=by simpa using hb
 subst e;exact g.fpOk (vT _) (g.hok.fresh (vT _))
theorem DS {l:Expr}{tl:TE}(hl:PE X l tl):PI X tg l (IX X.K tl):=by
 intro aa s σ H R I h;refine bF (hl aa s σ H _ I h) λv s1 ⟨x,G,g,M,O⟩=>?_;obtain⟨a,e,⟨xs,hq⟩,q⟩:=O;subst e;cases M
 obtain⟨its,T,p,hz⟩:=g.tuple hq;refine wpAny_pyIter_tuple (show s1.heap.IsTuple a its.toArray from p) ?_;refine⟨s1.heap.objs.size,[s1.heap.objs.size],_,_,G,rfl,g.kept (t':=s1.toks) λb o e=>vZ _ e,ub a _,⟨_,vY _ rfl,rfl,rfl⟩,λb hb=>?_,q⟩;have e:b=s1.heap.objs.size:=by simpa using hb
 subst e;exact g.fpOk (vT _) (g.hok.fresh (vT _))
theorem yY {aa:List (Addr×Obj)}{σ:St}{H:Hp}{s:Shared}{R:It->Hp->Prop}{E:Value->Shared->Prop}{lo hi:Int}{t u v:Tok}{tk:Nat}(I:Inv X aa σ H s)(h1 : -(2 ^ 62)<=lo)(h2:lo<2 ^ 62)(h3 : -(2 ^ 62)<=hi)(h4:hi<2 ^ 62)
  (q:R (Ij lo (hi - lo).toNat) H):wq X (pyIter (.ref s.heap.objs.size)) (KP X aa σ tg R) E { s with heap:=s.heap.push { cls:=.type "range",data:=.fields #[.int lo t,.int hi u,.int 1 v] },toks:=tk }:=by
 refine wpAny_pyIter_range (IsRange.new ..) (small_one h1 h2 h3 h4) ?_;have g:Inv X aa σ H { s with heap:=s.heap.push { cls:=.type "range",data:=.fields #[.int lo t,.int hi u,.int 1 v] },toks:=tk }:=I.kept λb o e=>vZ _ e;refine⟨(s.heap.push { cls:=.type "range",data:=.fields #[.int lo t,.int hi u,.int 1 v] }).objs.size,[(s.heap.push { cls:=.type "range",data:=.fields #[.int lo t,.int hi u,.int 1 v] }).objs.size],_,_,H,rfl,
  g.kept (t':=tk) λb o e=>vZ _ e,uc _ lo (hi - lo).toNat,?_,λb hb=>?_,q⟩
 ·have G:lo+((0:Nat):Int)*1=lo:=by simp
  have e2:(((hi - lo).toNat:Nat):Int) - ((0:Nat):Int)=Builtin.Range.rangeSize lo hi 1:=by rw[rangeSize_one];split<;>omega
  show IsRangeIter _ _ (lo+((0:Nat):Int)*1) ((((hi - lo).toNat:Nat):Int) - ((0:Nat):Int)) 1;rw[G,e2];exact vY _ rfl
 ·have e:b=(s.heap.push { cls:=.type "range",data:=.fields #[.int lo t,.int hi u,.int 1 v] }).objs.size:=by simpa using hb
  subst e;exact g.fpOk (vT _) (g.hok.fresh (vT _))
def Ge (g:TA):TI:=λσ H R=>g σ H λvs G=>∃j:Int,vs=[.int j]/\-(2 ^ 62)<=j/\j<2 ^ 62/\R (Ij 0 j.toNat) G
theorem xL {a:Expr}{M:TA}{p g:Pos}(O:Gl X "range")(hm:X.mg "range" = none)(ha:PA X [a] M)(hs:starEach [a] X.env=[(false,eval a X.env)]:=by rfl):PI X tg (.Call (.Name "range" p) [a] [] g) (Ge M):=by
 intro aa s σ H R I h;refine Call_ (ji I O hm boot_range (PyProof.Rows.callWith_type1 (bF (ha g aa s σ H _ I h) λus s1 ⟨vs,H1,T,U,G⟩=>?_) hs rfl));obtain⟨j,e,G,q2,q⟩:=G;subst e;cases U with
 |cons r rr=>
  cases rr
  obtain⟨t,rfl⟩:=r;exact call_range_1 (yY T (by omega) (by omega) G q2 (by simpa using q))
def DT (T:TI)(g:TG)(tb:TS):TS:=λD σ H=>T σ H λJ U=>∃W:Nat->Nat->St->Hp->Prop,(∃m,W 0 m σ U)/\∀i m σ H,W i m σ H ->
 (J.stop i H/\D.nx σ H)∨(J.go i H/\∃N:St->Hp->Prop,(∀G H',N G H'->∃O,O<m/\W (i+1) O G H')/\∀x H',J.yld i H x H'->g x σ H' λM H2=>tb { D with nx:=N,ct:=N,bk:=D.nx } M H2)
def k7 (fp:List Addr)(h:Heap):List (Addr×Obj):=fp.filterMap λb=>(h.get? b).map λo=>(b,o)
theorem gv {fp:List Addr}{h:Heap}{b:Addr}{o:Obj}(hb:b∈fp)(e:h.get? b=some o):(b,o)∈k7 fp h:=List.mem_filterMap.mpr ⟨b,hb,by rw[e];rfl⟩
theorem xM (hp:p∈k7 fp h):p.1∈fp/\h.get? p.1=some p.2:=by
 obtain⟨b,hb,e⟩:=List.mem_filterMap.mp hp;cases q:h.get? b with
 |none=>rw[q]at e;cases e
 |some o=>
  rw[q]at e;have g:(b,o)=p:=vK e;subst g;exact⟨hb,q⟩
theorem Inv.pinned (I:Inv X aa σ H s)(hf:∀b∈fp,k6 X aa H b)(G:∀b∈fp,∃o,s.heap.get? b=some o/\∀v,o.data≠.cell v):Inv X (aa++k7 fp s.heap) σ H s :=
 I.pins_of λp hp=>(List.mem_append.mp hp).elim (λz=>I.pin p (mY _ z)) λz=>by
  obtain⟨hb,e⟩:=xM z;obtain⟨f0,f1,f2,_⟩:=hf p.1 hb;obtain⟨o,g,d⟩:=G p.1 hb;rw[e]at g;cases g;exact⟨e,f0,f1,f2,d⟩
theorem Inv.unpinned (I:Inv X (aa++pl) σ H s):Inv X aa σ H s:=I.pins_of λp hp=>I.pin p (mY _ (List.mem_append_left _ hp))
theorem yZ {M:Expr}{body:List Stmt}{wi:TI}{g:TG}{tb:TS}{pos:Pos}(hp:PassesOwn (model X.prog X.w) X.A X.env X.xe)(hc:X.calm=true)(hi:PI X tg M wi)(hg:PG X tg g)(hb:o3 X body tb)
  (hs:∀x,foldedSetIterable M X.env x=pure x:=by intro _;rfl):PS X (.For tg M body [] pos) (DT wi g tb):=by
 intro aa s σ H D I h;refine wpAny_For (bF (hi aa s σ H _ I h) λv s1 h1=>bF h1 λL5 s2 h2=>?_) hs;obtain⟨it,fp,tn,J,H2,e,I2,T,CJ,f2,W,⟨m0,w0⟩,AG⟩:=h2;subst e
 -- what stays true of the iterator's objects through the loop
 have O:∀ {H':Hp},(∀b∈fp,H' b=none)->∀b∈fp,k6 X aa H' b:=λhn b hb=>⟨hn b hb,(f2 b hb).2⟩;refine codeAny_forLoop_any (λn s'=>∃i U H',Inv X aa U H' s'/\tn i s'.heap/\(∀b∈fp,H' b=none)/\W i n U H') ?_ m0 ⟨0,σ,H2,I2,CJ,λb hb=>(f2 b hb).1,w0⟩;rintro n s3 ⟨i,σ3,H3,I3,L6,L7,w3⟩;rcases AG i n σ3 H3 w3 with⟨stop,qn⟩|⟨go,N,hN,step⟩
 ·refine wpAny_passesOwn hp (bF (T.done X rfl rfl rfl hc i aa s3 σ3 H3 X.xe I3 (O L7) L6 stop) λr s4 ⟨hr,I4⟩=>?_);subst hr;exact wpAny_execs_nil ⟨σ3,H3,I4,qn⟩
 ·refine wpAny_passesOwn hp (bF (T.item X rfl rfl rfl hc i aa s3 σ3 H3 X.xe I3 (O L7) L6 go) λr s4 ⟨u,hr,h4⟩=>?_);subst hr;refine wpAny_passesOwn hp (bF h4 λ_ s5 ⟨x,H5,I5,r5,y5,JL,JM⟩=>?_);have Nw:=I5.pinned (O JM) (T.obj _ _ JL);refine wpAny_passesOwn hp (bF (hg _ s5 σ3 H5 x u _ Nw r5 (step x H5 y5)) λ_ s6 ⟨σ6,H6,I6,q6⟩=>?_);refine wpAny_passesOwn hp (bF (hb _ s6 σ6 H6 _ I6 q6) λf s7 q7=>?_);have again:∀ {G:St}{H7:Hp},Inv X (aa++k7 fp s5.heap) G H7 s7->N G H7->∃m,m<n/\∃i U H',Inv X aa U H' s7/\tn i s7.heap/\(∀b∈fp,H' b=none)/\W i m U H':=λ{G H7} I7 n7=>by
   obtain⟨m',hm,w7⟩:=hN G H7 n7;refine⟨m',hm,i+1,G,H7,I7.unpinned,T.keep _ _ _ JL λb hb o e=>(I7.pin (b,o) (mY _ (mY _ (gv hb e)))).1,λb hb=>?_,w7⟩;obtain⟨o,e,d⟩:=T.obj _ _ JL b hb;exact(I7.pin (b,o) (mY _ (mY _ (gv hb e)))).2.1
  cases f with
  |next=>obtain⟨G,H7,I7,n7⟩:=q7;exact again I7 n7
  |cont=>obtain⟨G,H7,I7,n7⟩:=q7;exact again I7 n7
  |brk=>obtain⟨G,H7,I7,q7⟩:=q7;exact⟨G,H7,I7.unpinned,q7⟩
  |ret v=>obtain⟨x7,G,H7,I7,r7,q7⟩:=q7;exact⟨x7,G,H7,I7.unpinned,r7,q7⟩
end
abbrev R2:=V->V->Hp->VK->Prop
def cY (X:Cx)(f:Value->Value->Sem Value)(r:R2):Prop :=
 ∀(aa:List (Addr×Obj))(s:Shared)(σ:St)(H:Hp)(x y:V)(v u:Value)(Q:VK),Inv X aa σ H s->aC x v->aC y u->r x y H Q ->
  wq X (f v u) (EP X aa σ Q) X.xe s
def Gf (X:Cx)(f:Value->Sem Value)(r:V->Hp->VK->Prop):Prop :=
 ∀(aa:List (Addr×Obj))(s:Shared)(σ:St)(H:Hp)(x:V)(v:Value)(Q:VK),Inv X aa σ H s->aC x v->r x H Q ->
  wq X (f v) (EP X aa σ Q) X.xe s
def bB (X:Cx)(f:Value)(r:List V->Hp->VK->Prop):Prop :=
 ∀(aa:List (Addr×Obj))(s:Shared)(σ:St)(H:Hp)(xs:List V)(us:List Value)(Q:VK),Inv X aa σ H s->aH xs us->r xs H Q ->
  wq X (call f us) (EP X aa σ Q) X.xe s
def Gg (r:R2)(g tb:TE):TE:=λσ H Q=>g σ H λx G=>tb σ G λy H2=>r x y H2 Q
def MA (r:V->Hp->VK->Prop)(g:TE):TE:=λσ H Q=>g σ H λx G=>r x G Q
def rI (C:Int->Int->Prop)(g:Int->Int->V):R2:=λx y H Q=>∃i j,x=.int i/\y=.int j/\C i j/\Q (g i j) H
def CU (g:Int->Int->V):R2:=λx y H Q=>∃i j,x=.int i/\y=.int j/\Q (g i j) H
def rU (g:Int->V):V->Hp->VK->Prop:=λx H Q=>∃i,x=.int i/\Q (g i) H
section
variable {X:Cx}{a b c:Expr}{ta tb tc:TE}{pos:Pos}
theorem DU (ha:PE X a ta)(hb:PE X b tb){aa:List (Addr×Obj)}{s:Shared}{σ:St}{H:Hp}{R:V->V->Hp->Prop}(I:Inv X aa σ H s)
  (h:ta σ H λx M=>tb σ M λy H2=>R x y H2) {Q:Value->Shared->Prop}{f:Value->Value->Sem Value}
  (hf:∀v u s2 x y H2,Inv X aa σ H2 s2->aC x v->aC y u->R x y H2->wq X (f v u) Q X.xe s2):
  wq X (eval a X.env) (λv g=>wq X (eval b X.env) (λu G=>wq X (f v u) Q X.xe G) X.xe g) X.xe s:=by
 refine bF (ha aa s σ H _ I h) λv s1 ⟨x,M,O,T,U⟩=>?_;refine bF (hb aa s1 σ M _ O U) λu s2 ⟨y,H2,I2,r2,q2⟩=>?_;exact hf v u s2 x y H2 I2 T r2 q2
theorem Gh {op:Operator}{r:R2}(g:cY X (binaryOp op) r)(ha:PE X a ta)(hb:PE X b tb):PE X (.BinOp a op b pos) (Gg r ta tb):=by
 intro aa s σ H Q I h;exact wpAny_BinOp (DU ha hb I h λv u s2 x y H2 G M O q=>g aa s2 σ H2 x y v u Q G M O q)
theorem Gi {op:UnaryOp}{r:V->Hp->VK->Prop}(g:Gf X (unaryOp op) r)(ha:PE X a ta):PE X (.UnaryOp op a pos) (MA r ta):=by
 intro aa s σ H Q I h;exact UnaryOp_ (bF (ha aa s σ H _ I h) λv s1 ⟨x,G,M,O,T⟩=>g aa s1 σ G x v Q M O T)
theorem IY {f:Value->Value->Sem Value}{C:Int->Int->Prop}{g:Int->Int->Int}
  (rule:∀(i j:Int)(t u:Tok)(s:Shared)(Q:Value->Shared->Prop)(E:Value->Shared->Prop),C i j->Q (.int (g i j) s.toks) { s with toks:=s.toks+1 }->wq X (f (.int i t) (.int j u)) Q E s):
  cY X f (rI C λi j=>.int (g i j)):=by
 intro aa s σ H x y v u Q I G M h;obtain⟨i,j,rfl,rfl,hc,q⟩:=h;obtain⟨t,rfl⟩:=G;obtain⟨t',rfl⟩:=M;exact rule i j t t' s _ _ hc ⟨.int (g i j),H,I.tok _,⟨_,rfl⟩,q⟩
theorem Gj {f:Value->Value->Sem Value}{g:Int->Int->Int}
  (rule:∀(i j:Int)(t u:Tok)(s:Shared)(Q:Value->Shared->Prop)(E:Value->Shared->Prop),Q (.int (g i j) s.toks) { s with toks:=s.toks+1 }->wq X (f (.int i t) (.int j u)) Q E s):
  cY X f (CU λi j=>.int (g i j)):=by
 intro aa s σ H x y v u Q I G M h;obtain⟨i,j,rfl,rfl,q⟩:=h;obtain⟨t,rfl⟩:=G;obtain⟨t',rfl⟩:=M;exact rule i j t t' s _ _ ⟨.int (g i j),H,I.tok _,⟨_,rfl⟩,q⟩
theorem DV {f:Value->Value->Sem Value}{g:Int->Int->Bool}
  (rule:∀(i j:Int)(t u:Tok)(s:Shared)(Q:Value->Shared->Prop)(E:Value->Shared->Prop),Q (.bool (g i j)) s->wq X (f (.int i t) (.int j u)) Q E s):
  cY X f (CU λi j=>.bl (g i j)):=by
 intro aa s σ H x y v u Q I G M h;obtain⟨i,j,rfl,rfl,q⟩:=h;obtain⟨t,rfl⟩:=G;obtain⟨t',rfl⟩:=M;exact rule i j t t' s _ _ ⟨.bl (g i j),H,I,rfl,q⟩
def Gk (i j:Int):Prop:=0<j/\j<1073741824
def Bj (i j:Int):Prop:=(-(2 ^ 64)<i/\i<2 ^ 64)∨(-(2 ^ 64)<j/\j<2 ^ 64)
theorem Bj.ok (h:Bj i j):IntMulOk i j:=by
 rcases h with⟨h1,h2⟩|⟨h1,h2⟩
 ·exact .of_left (intBits_le_64 h1 h2)
 ·exact .of_right (intBits_le_64 h1 h2)
theorem DW:cY X (binaryOp .Add) (CU λi j=>.int (i+j)):=Gj λ_ _ _ _ _ _ _ q=>add_int q
theorem DX:cY X (binaryOp .Sub) (CU λi j=>.int (i - j)):=Gj λ_ _ _ _ _ _ _ q=>sub_int q
theorem DY:cY X (binaryOp .Mult) (rI Bj λi j=>.int (i*j)):=IY λ_ _ _ _ _ _ _ hc q=>mul_int q hc.ok
theorem Bk:cY X (binaryOp .FloorDiv) (rI Gk λi j=>.int (i / j)):=IY λi j _ _ _ _ _ hc q=>by
 have h1:(0:Int)<j:=hc.1;have h2:j<1073741824:=hc.2;exact floordiv_int (by omega) (by rw[Int.fdiv_eq_ediv_of_nonneg i (by omega)];exact q) (.inl (PyProof.noPylong_small (by omega)))
theorem DZ:cY X (binaryOp .Mod) (rI (λ_ j=>0<j) λi j=>.int (i % j)):=IY λi j _ _ _ _ _ hc q=>by
 have h1:(0:Int)<j:=hc;exact mod_int' (by omega) (by rw[Int.fmod_eq_emod_of_nonneg i (by omega)];exact q)
theorem MB {f:Value->Sem Value}{g:Int->Int}
  (rule:∀(i:Int)(t:Tok)(s:Shared)(Q:Value->Shared->Prop)(E:Value->Shared->Prop),Q (.int (g i) s.toks) { s with toks:=s.toks+1 }->wq X (f (.int i t)) Q E s):
  Gf X f (rU λi=>.int (g i)):=by
 intro aa s σ H x v Q I G h;obtain⟨i,rfl,q⟩:=h;obtain⟨t,rfl⟩:=G;exact rule i t s _ _ ⟨.int (g i),H,I.tok _,⟨_,rfl⟩,q⟩
theorem Ea:Gf X (unaryOp .USub) (rU λi=>.int (-i)):=MB λ_ _ _ _ _ q=>neg_int q
theorem xN:cY X (binaryOp .Add) (λx y H Q=>∃i k,x=.int i/\y=.bl k/\Q (.int (i+b2i k)) H):=by
 intro aa s σ H x y v u Q I g G h;obtain⟨i,k,rfl,rfl,q⟩:=h;obtain⟨t,rfl⟩:=g;cases G
 exact add_int_bool ⟨.int (i+b2i k),H,I.tok _,⟨_,rfl⟩,q⟩
end
section
variable {X:Cx}{a b c:Expr}{ta tb tc:TE}{pos:Pos}
theorem Gm:cY X (compareOp .Lt) (CU λi j=>.bl (decide (i<j))):=DV λ_ _ _ _ _ _ _ q=>lt_int q
theorem Gn:cY X (compareOp .LtE) (CU λi j=>.bl (decide (i<=j))):=DV λ_ _ _ _ _ _ _ q=>le_int q
theorem Go:cY X (compareOp .Gt) (CU λi j=>.bl (decide (j<i))):=DV λ_ _ _ _ _ _ _ q=>gt_int q
theorem cY.or (h:cY X f r)(h':cY X f r'):cY X f (λx y H Q=>r x y H Q∨r' x y H Q):=by
 intro aa s σ H x y v u Q I g G q;rcases q with q|q
 ·exact h aa s σ H x y v u Q I g G q
 ·exact h' aa s σ H x y v u Q I g G q
theorem IZ (b:Expr)(h:op≠.In:=by decide)(h2:op≠.NotIn:=by decide):behindInMarks op b=false:=by
 have g:(op == CmpOp.In)=false:=by cases op<;>first|rfl|exact absurd rfl h
 have e2:(op == CmpOp.NotIn)=false:=by cases op<;>first|rfl|exact absurd rfl h2
 cases b<;>simp[behindInMarks,g,e2]
theorem Bl (g:cY X (compareOp op) r)(ha:PE X a ta)(hb:PE X b tb)(hm:behindInMarks op b=false):PE X (.Compare a [op] [b] pos) (Gg r ta tb):=by
 intro aa s σ H Q I h;exact wpAny_Compare1 (DU ha hb I h λv u s2 x y H2 G M O q=>g aa s2 σ H2 x y v u Q G M O q) hm
def Gp (t:TE):TT:=λσ H Q=>t σ H λx H'=>∃k,x=.bl k/\Q k H'
theorem Bm {op:CmpOp}{r:R2}(g:cY X (compareOp op) r)(ha:PE X a ta)(hb:PE X b tb)(hm:behindInMarks op b=false):PT X (.Compare a [op] [b] pos) (Gp (Gg r ta tb)):=by
 intro aa s σ H Q I h;refine wpAny_isTrue_Compare1 (bF (ha aa s σ H _ I h) λv s1 ⟨x,G,M,O,T⟩=>bF (hb aa s1 σ G _ M T) λu s2 ⟨y,H2,U,r2,q2⟩=>
  bF (g aa s2 σ H2 x y v u _ U O r2 q2) λc s3 ⟨z,H3,I3,r3,k,e,q3⟩=>?_) hm
 subst e;cases r3
 exact wpAny_truthy_bool ⟨H3,I3,q3⟩
def za (r G:R2)(ta tb tc:TE):TE:=λσ H Q=>ta σ H λx M=>tb σ M λy H2=>r x y H2 λz g=>∃k,z=.bl k /\
 (if k=true then tc σ g λO T=>G y O T Q else Q (.bl false) g)
theorem zb {op g:CmpOp}{r M:R2}(ho:cY X (compareOp op) r)(G:cY X (compareOp g) M)(ha:PE X a ta)(hb:PE X b tb)(hc:PE X c tc)
  (hm:lastMarks [op,g] [b,c]=false:=by with_unfolding_all rfl):PE X (.Compare a [op,g] [b,c] pos) (za r M ta tb tc):=by
 intro aa s σ H Q I h;refine Compare_chain (bF (ha aa s σ H _ I h) λv s1 ⟨x,H1,I1,r1,q1⟩=>chain_link (bF (hb aa s1 σ H1 _ I1 q1) λu s2 ⟨y,H2,I2,O,q2⟩=>
  bF (ho aa s2 σ H2 x y v u _ I2 r1 O q2) λd s3 ⟨z,T,U,r3,k,e,q3⟩=>?_)) hm
 subst e;cases r3
 refine wpAny_truthy_bool ?_;cases k with
 |false=>exact ite_ff ⟨.bl false,T,U,rfl,q3⟩
 |true=>exact ite_tt (chain_last (bF (hc aa s3 σ T _ U q3) λw' s4 ⟨z',H4,I4,r4,q4⟩=>G aa s4 σ H4 y z' u w' Q I4 O r4 q4))
theorem mo:(sizeLine:Nat)<2 ^ 63:=by rw[sizeLine_eq];decide
theorem ud:cY X (binaryOp .Add) (λx y H Q=>∃i j,x=.str i/\y=.str j/\i.length+j.length<=sizeLine/\Q (.str (i++j)) H):=by
 intro aa s σ H x y v u Q I g G h;obtain⟨i,j,rfl,rfl,hz,q⟩:=h;obtain⟨t,rfl⟩:=g;obtain⟨t',rfl⟩:=G;exact add_str (λt' tk=>⟨.str (i++j),H,I.tok _,⟨_,rfl⟩,q⟩) hz
theorem gP (r:aH [x] us):∃u,us=[u]/\aC x u:=by
 cases r with
 |cons g G=>cases G;exact⟨_,rfl,g⟩
theorem CV (r:aH [x,y] us):∃u g,us=[u,g]/\aC x u/\aC y g:=by
 cases r with
 |cons G M=>
  cases M with
  |cons O T=>cases T;exact⟨_,_,rfl,G,O⟩
theorem xO (hc:X.calm=true):bB X (.builtin "min") (λxs H Q=>∃i j,xs=[.int i,.int j]/\Q (.int (if j<i then j else i)) H):=by
 intro aa s σ H xs us Q I r h;obtain⟨i,j,rfl,q⟩:=h;obtain⟨u,g,rfl,⟨t,rfl⟩,⟨t',rfl⟩⟩:=CV r;refine min_two_ints (I.ok.hd hc) λh' tk k=>⟨_,H,I.kept k,?_,q⟩;by_cases hj:j<i
 ·rw[if_pos hj,if_pos hj];exact⟨_,rfl⟩
 ·rw[if_neg hj,if_neg hj];exact⟨_,rfl⟩
theorem xP:bB X (.type "int") (λxs H Q=>(∃i,xs=[.int i]/\Q (.int i) H)∨∃k,xs=[.bl k]/\Q (.int (if k then 1 else 0)) H):=by
 intro aa s σ H xs us Q I r h;rcases h with⟨i,rfl,q⟩|⟨k,rfl,q⟩
 ·obtain⟨u,rfl,t,rfl⟩:=gP r;exact call_int_int ⟨.int i,H,I,⟨_,rfl⟩,q⟩
 ·obtain⟨u,rfl,g⟩:=gP r;cases g
  exact call_int_bool ⟨.int (if k then 1 else 0),H,I.tok _,⟨_,rfl⟩,q⟩
end
structure CK (h:Heap)(x dx C:Addr)(mA:Str->Option Value):Prop where
 obj:h.get? x=some (PySem.W.instObj C dx)
 ns:h.Ns1 dx mA
 ne:dx≠x
theorem xQ {h:Heap}{dx:Addr}{mA:Str->Option Value}(n:h.Ns1 dx mA):∃od,h.get? dx=some od/\∀name,PySem.W.lookIn name od=some (mA name):=by
 obtain⟨o,es,O,G,hd,hk,_,hm⟩:=n;refine⟨o,G,λname=>?_⟩;have e:=hm name;unfold nsFind findBy at e;rw[←Array.find?_toList]at e;unfold PySem.W.lookIn;rw[hd];dsimp only;split
 ·rename_i y q;rw[q]at e;exact congrArg some e
 ·rename_i q;rw[q]at e;have a:es.toList.any (·.refKey)=false:=by
   rw[List.any_eq_false];intro y hy;obtain⟨z,t,g⟩:=hk y (Array.mem_toList_iff.mp hy);simp[DictEntry.refKey,g]
  have M:¬es.toList.any (·.refKey)=true:=by rw[a];exact uY
  rw[if_neg M];exact congrArg some e
theorem CK.look (I:CK h x dx C mA):∃od,PySem.W.InstAt h x (PySem.W.instObj C dx) C (some od)/\∀name,PySem.W.lookIn name od=some (mA name) :=
 let ⟨od,g,hl⟩:=xQ I.ns
 ⟨od,⟨I.obj,rfl,rfl,g⟩,hl⟩
section
variable {prog:Program}{w:World}{A:Around}{E:Value->Shared->Prop}{s:Shared}{K:Frag}{x dx C f:Addr}{mA:Str->Option Value}{name:Str}{v:Value}
theorem zc (X:K.In s.heap)(I:CK s.heap x dx C mA)(g:PySem.W.plainGet K C name=true)
  (hf:PySem.W.findIn K (.ref C) name=some (some (.ref f))) (G:PySem.W.isFn K (.ref f)=true) (hv:mA name=none) (h:Q (.ref f,[.ref x]) s):
  wpAny (model prog w) A (getMethod (.ref x) name pl) Q E s:=by
 obtain⟨od,J,hl⟩:=I.look;exact PySem.W.method_fn X J (PySem.W.plainGet_of g).1 (PySem.W.plainGet_of g).2 hf (beq_iff_eq.mp G) (by show(PySem.W.lookIn name od).map (·.isSome)=some false;rw[hl,hv];rfl) h
theorem Gq (X:K.In s.heap)(hm:PySem.W.makesIn K C=true)
  (hi:PySem.W.findIn K (.ref C) "__init__" = some (some (.ref f))) (hf:PySem.W.typeIn K (.ref f)=some (.type "function"))
  (h:codeAny (model prog w) (A.under (.builtin "type.__call__" ⟨.ref C::vs,kw⟩)) (.call (.ref f) ⟨.ref (s.heap.objs.size+1)::vs,kw⟩) (PySem.W.InitBack (s.heap.objs.size+1) R)
   { s with heap:=(s.heap.push PySem.W.emptyDict).push (PySem.W.instObj C s.heap.objs.size) }):
  codeAny (model prog w) A (.call (.ref C) ⟨vs,kw⟩) R s:=by
 obtain⟨hh,g,d,t,os⟩:=s;exact PySem.W.make_core (PySem.W.makes_of X hm) (PySem.W.looks_findIn X hi) (λself=>PySem.W.bind_fn X self hf) (.inl rfl) h
end
theorem iV.some_of (r:iV (some v) o):∃u,o=some u/\aC v u:=by
 cases o with
 |none=>exact(show False from r).elim
 |some u=>exact⟨u,rfl,r⟩
theorem iV.none_of (r:iV none o):o=none:=by
 cases o with
 |none=>rfl
 |some u=>exact(show False from r).elim
section
variable {P:Program}{w:World}{H H':Hp}{h h':Heap}{a C dx:Addr}{fs Nt:List (Str×V)}
theorem we (hok:iW P w H h)(e:H a=some (.ins C dx fs)):∃mA,CK h a dx C mA/\(∀f,iV (fs.lookup f) (mA f))/\PySem.Within mA (fs.map (·.1))/\fs.length<=1000/\H dx=some (.own a):=by
 obtain⟨d,z,ne,ob,mA,n,r,q⟩:=(show bi P w H h a (.ins C dx fs)from hok a _ e);exact⟨mA,⟨ob,n,ne⟩,r,q,z,d⟩
end
structure Cls (K:Frag)(C:Addr):Prop where
 pg:PySem.W.plainGet K C Str.empty=true
 hd:PySem.W.hasDictIn K C=true
 po:PySem.W.plainOver K C=true
 sa:PySem.W.findIn K (.ref C) "__setattr__" = some (some (.builtin "object.__setattr__"))
theorem Cls.get {K:Frag}{C:Addr}(c:Cls K C)(f:Str):PySem.W.plainGet K C f=true:=c.pg
def Eb (K:Frag)(C:Addr)(f:Str):Prop:=PySem.W.findIn K (.ref C) f=some none
structure Meth (K:Frag)(C:Addr)(m:Str)(f:Addr):Prop where
 at_:PySem.W.findIn K (.ref C) m=some (some (.ref f))
 fn:PySem.W.isFn K (.ref f)=true
 kp:PySem.W.keepIn K (.ref f)=true
section
variable {X:Cx}{aa:List (Addr×Obj)}{σ:St}{H:Hp}{s:Shared}{a C dx:Addr}{fs:List (Str×V)}{f:Str}{v:V}{A:Around}{E:Value->Shared->Prop}
theorem ue {m:Str}{g:Addr}{pl:Sem Bool}{Q:Value×List Value->Shared->Prop}(I:Inv X aa σ H s)(e:H a=some (.ins C dx fs))(c:Cls X.K C)(k:Meth X.K C m g)(l:fs.lookup m=none)
  (h:Q (.ref g,[.ref a]) s):wpAny (model X.prog X.w) A (getMethod (.ref a) m pl) Q E s:=by
 obtain⟨mA,O,r,_,_,_⟩:=we I.hok e;have hn:mA m=none:=iV.none_of (by rw[←l];exact r m);exact zc I.kIn O (c.get m) k.at_ k.fn hn h
theorem Inv.made (I:Inv X aa σ H s):Inv X aa σ (upd (upd H s.heap.objs.size (.own (s.heap.objs.size+1))) (s.heap.objs.size+1) (.ins C s.heap.objs.size []))
  { s with heap:=(s.heap.push PySem.W.emptyDict).push (PySem.W.instObj C s.heap.objs.size) }:=by
 have g:(s.heap.push PySem.W.emptyDict).get? s.heap.objs.size=some PySem.W.emptyDict:=vY s.heap rfl;have e2:((s.heap.push PySem.W.emptyDict).push (PySem.W.instObj C s.heap.objs.size)).get? (s.heap.objs.size+1)=some (PySem.W.instObj C s.heap.objs.size):=by
  have:=vY (s.heap.push PySem.W.emptyDict) (o:=PySem.W.instObj C s.heap.objs.size) rfl;rwa [Heap.size_push]at this
 have G:(s.heap.push PySem.W.emptyDict).Ns s.heap.objs.size (λ_=>none):=⟨PySem.W.emptyDict,#[],_,g,rfl,(λe he=>absurd he (by simp)),λ_=>rfl⟩;have M:=I.laid (a:=s.heap.objs.size) (o:=.own (s.heap.objs.size+1)) (h':=s.heap.push PySem.W.emptyDict) (t':=s.toks) (λb u q=>vZ _ q) (vT _) ⟨_,g⟩;refine M.laid (a:=s.heap.objs.size+1) (o:=.ins C s.heap.objs.size []) (t':=s.toks) (λb u q=>vZ _ q) (Nat.le_of_eq (Heap.size_push _ _)) ?_;have ne:s.heap.objs.size≠s.heap.objs.size+1:=vS (Nat.lt_succ_self _);refine⟨by rw[ar ne,aq],uO _,ne,e2,λ_=>none,(Heap.Ns1.of_empty G).at λo q=>vZ _ q,λ_=>True.intro,λy hy=>absurd rfl hy⟩
end
def MC (K:Frag)(G:TE)(f:Str):TE:=λσ H Q=>G σ H λx g=>∃a C dx fs v,x=.ref a/\g a=some (.ins C dx fs)/\Cls K C/\Eb K C f/\fs.lookup f=some v/\Q v g
section
variable {X:Cx}{o e value:Expr}{f:Str}{pos AH Fi:Pos}{ta tv:TE}
theorem CW {pl:Sem Bool}{m:Str}{dO:Pos}{args:List Expr}{aa:List (Addr×Obj)}{s:Shared}{σ:St}{H:Hp}{Q:Value->Shared->Prop}{M:TE}(he:PE X e M)(I:Inv X aa σ H s)
  (h:M σ H λx G=>∃a C dx fs g,x=.ref a/\G a=some (.ins C dx fs)/\Cls X.K C/\Meth X.K C m g/\fs.lookup m=none /\
   ∀s1,Inv X aa σ G s1->wq X (callWith pos (.ref g) [.ref a] (backTo pos (starEach args X.env)) (backToKw pos (keywordEach [] X.env))) Q X.xe s1)
  (T:eval (.Call (.Attribute e m dO) args [] pos) X.env=(do
   let ov ←eval e X.env
   standAt dO.atName
   let (f,first) ←holding [ov] (getMethod ov m pl)
   callWith pos f first (backTo pos (starEach args X.env)) (backToKw pos (keywordEach [] X.env)))):
  wq X (eval (.Call (.Attribute e m dO) args [] pos) X.env) Q X.xe s:=by
 refine PySem.W.methodCall_KW (pl:=pl) (bF (he aa s σ H _ I h) λu s1 ⟨x,G,O,U,a,C,dx,fs,g,ex,ea,c,k,l,q⟩=>?_) T;subst ex;obtain rfl:u=Value.ref a:=U;exact ue O ea c k l (q s1 O)
end
section
variable {X:Cx}{aa:List (Addr×Obj)}{σ:St}{H:Hp}{s:Shared}{A:Around}{E:Value->Shared->Prop}{Q:Value->Shared->Prop}{c:Value}{b:Bool}
inductive TyOf (K:Frag)(H:Hp):V->Value->Prop where
 |non:TyOf K H .non (.type "NoneType")
 |bl (x:Bool):TyOf K H (.bl x) (.type "bool")
 |int (i:Int):TyOf K H (.int i) (.type "int")
 |str (x:Str):TyOf K H (.str x) (.type "str")
 |flt (x:UInt64):TyOf K H (.flt x) (.type "float")
 |lst {a:Addr}{xs:List V}(e:H a=some (.lst xs)):TyOf K H (.ref a) (.type "list")
 |frz {a:Addr}{o:Obj}{xs:List V}(e:H a=some (.frz o (.lst xs))):TyOf K H (.ref a) (.type "list")
 |tup {a:Addr}{xs:List V}(e:H a=some (.tup xs)):TyOf K H (.ref a) (.type "tuple")
 |dK {a:Addr}{av:List (bu×V)}{ob:Obj}(e:H a=some (.dK av ob)):TyOf K H (.ref a) (.type "dict")
 |dT {a:Addr}{av:List (List bu×V)}(e:H a=some (.dT av)):TyOf K H (.ref a) (.type "dict")
 |ins {a C dx:Addr}{fs:List (Str×V)}(e:H a=some (.ins C dx fs)) (cl:Cls K C) (ha:PySem.W.findIn K (.ref C) "__class__" = some (some (.builtin "object.__class__")))
   (hn:PySem.W.specialIn K (.builtin "object.__class__") "__get__" = some (some (.builtin "getset_descriptor.__get__"))) (L8:PySem.W.takesIn K (.builtin "object.__class__")=some true)
   (hm:PySem.W.mroIn K C (.type "object")=some true):TyOf K H (.ref a) (.ref C)
theorem eX (I:Inv X aa σ H s)(g:aC x u)(ty:TyOf X.K H x t)(e:PySem.W.kitOne X.K t c=some b)(h:∀tk,Q (.bool b) { s with toks:=tk }):
  wpAny (model X.prog X.w) A (call (.builtin "isinstance") [u,c]) Q E s:=by
 cases ty with
 |non=>cases (show u=Value.none from g);exact kia_one PySem.W.kitx_none I.kIn True.intro e (λz=>nomatch z) h
 |bl y=>cases (show u=Value.bool y from g);exact kia_one PySem.W.kitx_bool I.kIn True.intro e (λz=>nomatch z) h
 |int i=>obtain⟨t,q⟩:=(show ∃t,u=Value.int i t from g);cases q;exact kia_one PySem.W.kitx_int I.kIn True.intro e (λz=>nomatch z) h
 |str y=>obtain⟨t,q⟩:=(show ∃t,u=Value.str y t from g);cases q;exact kia_one PySem.W.kitx_str I.kIn True.intro e (λz=>nomatch z) h
 |flt y=>obtain⟨t,q⟩:=(show ∃t,u=Value.float y t from g);cases q;exact kia_one PySem.W.kitx_float I.kIn True.intro e (λz=>nomatch z) h
 |@lst a xs G=>
  cases (show u=Value.ref a from g)
  obtain⟨_,_,n,_,h1⟩:=(show bi X.prog X.w H s.heap a (.lst xs)from I.hok a _ G);exact kia_one PySem.W.kitx_list I.kIn ⟨_,h1,rfl⟩ e (λz=>nomatch z) h
 |@frz a ob xs G=>
  cases (show u=Value.ref a from g)
  obtain⟨_,_,_,n,_,h1⟩:=(show bi X.prog X.w H s.heap a (.frz ob (.lst xs))from I.hok a _ G);exact kia_one PySem.W.kitx_list I.kIn ⟨_,h1,rfl⟩ e (λz=>nomatch z) h
 |@tup a xs G=>
  cases (show u=Value.ref a from g)
  obtain⟨_,_,_,p⟩:=(show bi X.prog X.w H s.heap a (.tup xs)from I.hok a _ G);obtain⟨o,h1,h2,_⟩:=p;exact kia_one PySem.W.kitx_tuple I.kIn ⟨o,h1,h2⟩ e (λz=>nomatch z) h
 |@dK a av ob G=>
  cases (show u=Value.ref a from g)
  obtain⟨_,_,_,vs,_,p⟩:=(show bi X.prog X.w H s.heap a (.dK av ob)from I.hok a _ G);obtain⟨o,es,M,h1,h2,_⟩:=p;exact kia_one PySem.W.kitx_dict I.kIn ⟨o,h1,h2.1⟩ e (λz=>nomatch z) h
 |@dT a av G=>
  cases (show u=Value.ref a from g)
  obtain⟨_,_,xs,_,o,es,M,h1,h2,_⟩:=(show bi X.prog X.w H s.heap a (.dT av)from I.hok a _ G);exact kia_one PySem.W.kitx_dict I.kIn ⟨o,h1,h2.1⟩ e (λz=>nomatch z) h
 |@ins a C dx fs G cl ha hn L8 hm=>
  cases (show u=Value.ref a from g)
  obtain⟨mA,O,_⟩:=we I.hok G;obtain⟨od,J,_⟩:=O.look;exact kia_one (PySem.W.kitx_own (cl.get _) cl.hd ha hn L8 hm) I.kIn J e (λz=>nomatch z) h
end
structure cV (k:Nat)(A:Around):Prop where
 hd:A.handled=none
 dp:A.depth+3*k+5<recursionLimit
 un:A.units+16*k+200<cLine
theorem cV.mono (r:cV k A)(h:j<=k):cV j A:=⟨r.hd,by have:=r.dp;omega,by have:=r.un;omega⟩
theorem cV.deeper (r:cV (k+1) A)(env:Env):cV k (A.deeper env) :=
 ⟨r.hd,by have:=r.dp;show A.depth+1+3*k+5<_;omega,by have:=r.un;show A.units+3+16*k+200<_;omega⟩
theorem cV.in1 (r:cV (k+1) A):cV k A.in1 :=
 ⟨r.hd,by have:=r.dp;show A.depth+3*k+5<_;omega,by have:=r.un;show A.units+1+16*k+200<_;omega⟩
theorem cV.depth (r:cV k A):A.depth<recursionLimit:=by have:=r.dp;omega
def Bn:TA:=λ_ H Q=>Q [] H
def rC (g:TE)(G:TA):TA:=λσ H Q=>g σ H λx M=>G σ M λxs H2=>Q (x::xs) H2
section
variable {X:Cx}{e:Expr}{es:List Expr}{te:TE}{t:TA}{pos:Pos}
theorem gw:PA X [] Bn:=λ_ _ _ _ H Q I h=>Calls.spliced_nil ⟨[],H,I,.nil,h⟩
theorem dQ (ha:PE X e te)(g:PA X es t)(hs:starEach (e::es) X.env=(false,eval e X.env)::starEach es X.env:=by rfl):PA X (e::es) (rC te t):=by
 intro pos aa s σ H Q I h;rw[hs];show wpAny _ _ (spliced ((false,eval e X.env)::backTo pos (starEach es X.env))) _ _ s;refine Calls.spliced_cons (bF (ha aa s σ H _ I h) λu s1 ⟨x,G,M,O,T⟩=>?_);exact bF (g pos aa s1 σ G _ M T) λus s2 ⟨xs,H2,U,r2,q2⟩=>⟨x::xs,H2,U,.cons O r2,q2⟩
def Ec (t:TA):TE:=λσ H Q=>t σ H λxs g=>xs.length<=sizeLine/\∀p,g p=none->Q (.ref p) (upd g p (.tup xs))
def Ja (t:TA):TE:=λσ H Q=>t σ H λxs g=>xs.length<=sizeLine/\∀p,g p=none->Q (.ref p) (upd g p (.lst xs))
theorem qp {x1}(h:PA X es t):PE X (.Tuple es x1 pos) (Ec t):=by
 intro aa s σ H Q I hq;refine wpAny_Tuple_spliced (bF (h pos aa s σ H _ I hq) λus s1 ⟨xs,g,G,r,z,q⟩=>⟨by rw[←r.length];exact z,?_⟩);have hf:g s1.heap.objs.size=none:=G.hok.fresh (vT _);refine⟨.ref s1.heap.objs.size,upd g s1.heap.objs.size (.tup xs),G.laid (t':=s1.toks) (λb u e=>vZ _ e) (vT _) ?_,rfl,q _ hf⟩;exact⟨z,us,r,⟨_,vY _ rfl,rfl,_,rfl⟩⟩
theorem Ed (h:PA X es t):PE X (.List es pos) (Ja t):=by
 intro aa s σ H Q I hq;refine wpAny_List_spliced (bF (h pos aa s σ H _ I hq) λus s1 ⟨xs,g,G,r,z,q⟩=>⟨by rw[←r.length];exact z,?_⟩);have hf:g s1.heap.objs.size=none:=G.hok.fresh (vT _);refine⟨.ref s1.heap.objs.size,upd g s1.heap.objs.size (.lst xs),G.laid (t':=s1.toks) (λb u e=>vZ _ e) (vT _) ?_,rfl,q _ hf⟩;exact⟨z,us,0,r,vY _ rfl⟩
end
abbrev Sp:=List V->Hp->VK->XK->Prop
abbrev CY:=List Env->Hp->Shared->XK->Value->Shared->Prop
structure Env0 (P:Program)(w:World)(K:Frag)(mg:Str->Option Value)(base:Heap)(A:Around)(outer:List Env)(s:Shared)(H:Hp):Prop where
 frames:A.frames=some outer
 mod:Mod K mg base
 bs:∀b o,base.get? b=some o->s.heap.get? b=some o/\H b=none
 bsz:base.objs.size<=s.heap.objs.size
 funs:s.heap.FunFrames base outer
 frf:∀b∈yN outer,H b=none
 hok:iW P w H s.heap
 bare:AllBare s.gens
def CE (outer:List Env)(P:Program)(w:World)(H:Hp)(s:Shared)(Q:VK)(u:Value)(s':Shared):Prop :=
 ∃v H',s'.os=s.os/\AllBare s'.gens/\Un (yN outer) [] H H' s.heap s'.heap/\iW P w H' s'.heap/\aC v u/\Q v H'
def CR (CX:CY)(outer:List Env)(P:Program)(w:World)(H:Hp)(s:Shared)(Q:VK)(E:XK)(r:Result)(s':Shared):Prop :=
 match r with
 |.ok (.ret u)=>CE outer P w H s Q u s'
 |.ok _=>False
 |.error e=>CX outer H s E e s'
structure oF (P:Program)(w:World)(K:Frag)(mg:Str->Option Value)(base:Heap)(CX:CY)(k:Nat)(f:Addr)(fd:FuncData)(ps:List Str)(sp:Sp):Prop where
 len:∀vs H Q E,sp vs H Q E->vs.length=ps.length
 run:∀(A:Around)(outer:List Env)(s:Shared)(H:Hp)(args:Args)(us:List Value)(vs:List V)(Q:VK)(E:XK),cV k A->Env0 P w K mg base A outer s H->BindsTo s fd args (ps.zip us)->aH vs us->sp vs H Q E ->
  codeAny (model P w) A (.call (.ref f) args) (CR CX outer P w H s Q E) s
section
variable {X:Cx}{aa:List (Addr×Obj)}{σ:St}{H:Hp}{s s':Shared}
theorem Inv.env0 (I:Inv X aa σ H s):Env0 X.prog X.w X.K X.mg X.base X.A X.stack s H :=
 ⟨I.ok.frames,I.ok.mod,I.bs,vR I.ok.bsz I.sz,I.stack,I.stkFree,I.hok,I.bare⟩
theorem Inv.after (I:Inv X aa σ H s)(h:CE X.stack X.prog X.w H s Q u s'):EP X aa σ Q u s':=by
 obtain⟨v,H',os,bare,un,hok,r,q⟩:=h;obtain⟨hh,g,d,t,G⟩:=s';obtain rfl:G=s.os:=os;exact⟨v,H',I.call (h':=hh) (g':=g) (d':=d) (t':=t) (ch:=[]) un hok bare (λb z=>absurd z (by simp)),r,q⟩
end
def Gr (sp:Sp)(g:List V)(E:XK)(t:TA):TE:=λσ H Q=>t σ H λvs G=>sp (vs++g) G Q E
def KR (C:Addr)(m:Str)(sp:Sp)(g:List V)(E:XK)(M:TE)(t:TA):TE:=λσ H Q=>M σ H λx G=>∃a dx fs,x=.ref a/\G a=some (.ins C dx fs)/\fs.lookup m=none /\
 t σ G λvs H2=>sp (x::(vs++g)) H2 Q E
def KS (C:Addr)(sp:Sp)(g:List V)(E:XK)(t:TA):TE:=λσ H Q=>t σ H λvs G=>∀x dx,G x=none->G dx=none->dx≠x ->
 sp (.ref x::(vs++g)) (upd (upd G dx (.own x)) x (.ins C dx [])) (λv H2=>v=.non/\Q (.ref x) H2) E
def oJ (K:Frag)(fd:FuncData)(ps:List Str)(ds:List Value):Prop :=
 ∀(s:Shared)(us:List Value),K.In s.heap->(us++ds).length=ps.length->BindsTo s fd ⟨us,[]⟩ (ps.zip (us++ds))
theorem oJ.all {K:Frag}{fd:FuncData}{ps:List Str}(h:∀us:List Value,us.length=ps.length->bindArgs fd ⟨us,[]⟩=pure (ps.zip us)):oJ K fd ps []:=λs us _ hl=>by
 rw[uR]at hl ⊢;exact .of_eq (h us hl)
def ug (CX:CY)(X:Cx)(E:XK):Prop:=∀(aa:List (Addr×Obj))(σ:St)(H:Hp)(s:Shared)(e:Value)(s':Shared),Inv X aa σ H s->CX X.stack H s E e s'->X.xe e s'
section
variable {X:Cx}{CX:CY}{k:Nat}{f C:Addr}{fd:FuncData}{ps:List Str}{sp:Sp}{Fj:List V}{ds:List Value}{E:XK}{x m:Str}{p pos dO:Pos}{e o:Expr}{es:List Expr}{ta:TE}{t:TA}
theorem Ee {aa:List (Addr×Obj)}{σ:St}{H:Hp}{s:Shared}{Q:VK}{us:List Value}{vs:List V}(F:oF X.prog X.w X.K X.mg X.base CX k f fd ps sp)(G:cV k X.A)(hb:oJ X.K fd ps ds)(hd:aH Fj ds)(hx:ug CX X E)
  (I:Inv X aa σ H s) (r:aH vs us) (h:sp (vs++Fj) H Q E):wq X (call (.ref f) us) (EP X aa σ Q) X.xe s:=by
 have g:aH (vs++Fj) (us++ds):=r.append hd;have hl:(us++ds).length=ps.length:=by rw[←g.length];exact F.len _ _ _ _ h
 refine wpAny_call (codeAny_mono (F.run X.A X.stack s H ⟨us,[]⟩ (us++ds) (vs++Fj) Q E G I.env0 (hb s us I.kIn hl) g h) λr s' hq=>?_);cases r with
 |error e=>exact hx aa σ H s e s' I hq
 |ok fl=>
  cases fl with
  |ret u=>exact I.after hq
  |next=>exact False.elim hq
  |brk=>exact False.elim hq
  |cont=>exact False.elim hq
theorem Bo (F:oF X.prog X.w X.K X.mg X.base CX k f fd ps sp)(O:cV k X.A)(T:Gl X x)(hm:X.mg x=some (.ref f))(hk:PySem.W.keepIn X.K (.ref f)=true)(hb:oJ X.K fd ps ds)(hd:aH Fj ds)(hx:ug CX X E)
  (ha:PA X (e::es) t) (g:(x == ("__debug__" : Str))=false:=by decide) (he:starEach (e::es) X.env=(false,eval e X.env)::starEach es X.env:=by rfl) (G:(backTo pos (starEach es X.env)).any (·.1)=false:=by rfl):
  PE X (.Call (.Name x p) (e::es) [] pos) (Gr sp Fj E t):=by
 intro aa s σ H Q I h;refine wpAny_Call_Name_kw (qk I T hm ?_ g);refine PySem.W.callWith_K (h₀:=X.base) I.ok.mod.kin hk (bF (ha pos aa s σ H _ I h) λus s1 ⟨vs,U,M,r,q⟩=>⟨M.kIn,?_⟩) he G;exact Ee F O hb hd hx M r q
end
structure FnScope (N P:List Str)(sc:Scope):Prop where
 kind:sc.kind=.function
 co:sc.isCoroutine=false
 gen:sc.isGenerator=false
 nd:N.Nodup
 pre:N.take P.length=P
 par:∀x∈P,sc.names.lookup x=some .local∨sc.names.lookup x=some .cell
 nofree:∀y∈sc.names,y.2≠.free
theorem oK {kindOf:Str->Option NameKind}{x:Str}:∀ {binds:List (Str×Value)}{m:Str->Option Value},(∀v,(x,v)∉binds)->bindL kindOf binds m x=m x
 |[],_,_=>rfl
 | (n,v)::r,m,h=>by
  unfold bindL;rw[oK λw hw=>h w (mZ _ hw)];split
  ·have:x≠n:=by rintro rfl;exact h v mX
   simp[this]
  ·rfl
theorem oM {kindOf:Str->Option NameKind}{x:Str}:∀ {binds:List (Str×Value)}{m:Str->Option Value},(∀v,(x,v)∉binds)->bindC kindOf binds m x=m x
 |[],_,_=>rfl
 | (n,v)::r,m,h=>by
  unfold bindC;rw[oM λw hw=>h w (mZ _ hw)];split
  ·rfl
  ·have:x≠n:=by rintro rfl;exact h v mX
   simp[this]
theorem oN {kindOf:Str->Option NameKind}{x:Str}{v:Value}:∀ {P:List Str}{vs:List Value}{i:Nat}{m:Str->Option Value},P.Nodup->P[i]? = some x->vs[i]? = some v->kindOf x=some .local ->
  bindL kindOf (P.zip vs) m x=some v
 |[],_,_,_,_,h,_,_=>by simp at h
 |_::_,[],_,_,_,_,h,_=>by simp at h
 |p::P,w::vs,0,m,nd,h1,h2,hk=>by
  simp at h1 h2;subst h1;subst h2;show bindL kindOf ((p,w)::P.zip vs) m p=_;unfold bindL;rw[oK λv hv=>(List.nodup_cons.mp nd).1 (List.of_mem_zip hv).1,if_pos hk];simp
 |p::P,w::vs,i+1,m,nd,h1,h2,hk=>by
  show bindL kindOf ((p,w)::P.zip vs) m x=_;unfold bindL;exact oN (i:=i) (List.nodup_cons.mp nd).2 (by simpa using h1) (by simpa using h2) hk
theorem oP {kindOf:Str->Option NameKind}{x:Str}{v:Value}:∀ {P:List Str}{vs:List Value}{i:Nat}{m:Str->Option Value},P.Nodup->P[i]? = some x->vs[i]? = some v->kindOf x≠some .local ->
  bindC kindOf (P.zip vs) m x=some v
 |[],_,_,_,_,h,_,_=>by simp at h
 |_::_,[],_,_,_,_,h,_=>by simp at h
 |p::P,w::vs,0,m,nd,h1,h2,hk=>by
  simp at h1 h2;subst h1;subst h2;show bindC kindOf ((p,w)::P.zip vs) m p=_;unfold bindC;rw[oM λv hv=>(List.nodup_cons.mp nd).1 (List.of_mem_zip hv).1,if_neg hk];simp
 |p::P,w::vs,i+1,m,nd,h1,h2,hk=>by
  show bindC kindOf ((p,w)::P.zip vs) m x=_;unfold bindC;exact oP (i:=i) (List.nodup_cons.mp nd).2 (by simpa using h1) (by simpa using h2) hk
noncomputable def gQ (N:List Str)(vs:List V):St:=vs.map some++List.replicate (N.length - vs.length) none
noncomputable def lI (CX:CY)(P:Program)(w:World)(K:Frag)(mg:Str->Option Value)(base:Heap)(N:List Str)(qual:Str)(scope:Scope)(f:Addr)(G:Value)(A:Around)(outer:List Env)(s:Shared)(H:Hp)(E:XK):Cx where
 prog:=P
 w:=w
 K:=K
 mg:=mg
 base:=base
 A:=A.deeper (envOfC qual scope s.heap.objs.size f G)
 N:=N
 s₀:=s
 H₀:=H
 env:=envOfC qual scope s.heap.objs.size f G
 outer:=outer
 stack:=envOfC qual scope s.heap.objs.size f G::outer
 ex:=[]
 calm:=true
 fn:=λ_=>true
 pn:=[]
 xe:=λe s'=>wpAny (model P w) (A.deeper (envOfC qual scope s.heap.objs.size f G)) (leaving (envOfC qual scope s.heap.objs.size f G) e) (λ_ g=>CX outer H s E e g) (λM g=>CX outer H s E M g) s'
theorem rE {sc:Scope}{n:Nat}{x:Str}(h:sc.names.lookup x=some .cell):∃c,(cellsFrom n sc.names []).lookup x=some c:=by
 have q:=PySem.W.cellsFrom_some sc.names n [] (.inl h);exact uV q
theorem xR {CX:CY}{P:Program}{w:World}{K:Frag}{mg:Str->Option Value}{base:Heap}{N ps:List Str}{qual:Str}{scope:Scope}{f:Addr}{O:Value}{A:Around}{outer:List Env}{s s1:Shared}{H:Hp}{E:XK}{us:List Value}{vs:List V}
  (S:FnScope N ps scope) (hd:A.handled=none) (g:Env0 P w K mg base A outer s H) (hl:vs.length=ps.length) (r:aH vs us)
  (x:InCallC s s.heap.objs.size (bindL (envOfC qual scope s.heap.objs.size f O).kindOf (ps.zip us) λ_=>none) (cellsFrom (s.heap.objs.size+1) scope.names []) (bindC (envOfC qual scope s.heap.objs.size f O).kindOf (ps.zip us) λ_=>none) s1):
  Inv (lI CX P w K mg base N qual scope f O A outer s H E) [] (gQ N vs) H s1:=by
 have T:ps.length<=N.length:=by have:=congrArg List.length S.pre;rw[List.length_take]at this;omega
 obtain⟨h1,tk,rfl,hk⟩:=x.done;have G:∀b:Addr,b∉(lI CX P w K mg base N qual scope f O A outer s H E).ex:=λb z=>absurd (show b∈([]:List Addr)from z) (by simp);refine⟨⟨g.mod,S.kind,rfl,rfl,vT _,λy z c h1 h2=>?_,λy hy=>?_,λy c _ h=>?_,λ_=>hd,Around.frames_deeper g.frames,.inr ⟨rfl,rfl⟩,λb z=>absurd z (G b),g.bs,g.bsz,λb _ _=>G b,λb z=>absurd z (G b),g.funs,g.frf⟩,
  rfl,g.bare,Un.kept hk,⟨_,x.toInCall.ns,λi y v h1 h2 h3=>?_⟩,λy c h=>⟨_,x.cell y c h⟩,g.hok.fresh (vT _),λy c h=>?_,λp hp=>absurd (show p∈([]:List (Addr×Obj))from hp) (by simp),g.hok.kept hk,?_⟩
 ·exact name_of_addr x.apart (PySem.mem_of_lookup h1) (PySem.mem_of_lookup h2)
 ·have hy:scope.names.lookup y=some .cell∨scope.names.lookup y=some .free:=hy;rcases hy with hy|hy
  ·exact rE hy
  ·exact absurd rfl (S.nofree _ (PySem.mem_of_lookup hy))
 ·exact Nat.le_of_lt (x.above y c (PySem.mem_of_lookup h))
 ·have hi:i<vs.length:=by
   unfold gQ at h2;by_cases hi:i<vs.length
   ·exact hi
   ·rw[List.getElem?_append_right (by simpa using hi)]at h2;rw[List.getElem?_replicate]at h2;split at h2<;>cases h2
  have ha:vs[i]? = some v:=by
   unfold gQ at h2;rw[List.getElem?_append_left (by simpa using hi),vB]at h2;cases e:vs[i]? with
   |none=>rw[e]at h2;cases h2
   |some a=>rw[e]at h2;cases h2;rfl
  obtain⟨u,hu,U⟩:=r.get ha;have hp:ps[i]? = some y:=by
   rw[←S.pre,List.getElem?_take_of_lt (by omega)];exact h1
  have M:ps.Nodup:=by rw[←S.pre];exact S.nd.sublist (List.take_sublist _ _)
  refine⟨u,U,?_⟩;rcases S.par y (vL hp)with k|k
  ·exact .inl ⟨k,oN M hp hu k⟩
  ·obtain⟨c,e⟩:=rE (n:=s.heap.objs.size+1) k;refine .inr ⟨.inl k,c,e,?_⟩;have q:=x.cell y c e;rw[oP M hp hu (by show scope.names.lookup y≠_;rw[k];decide)]at q;exact q
 ·exact g.hok.fresh (Nat.le_of_lt (x.above y c (PySem.mem_of_lookup h)))
 ·unfold gQ;show _=N.length;rw[vA,vI,List.length_replicate];omega
theorem CZ {CX:CY}{P:Program}{w:World}{K:Frag}{mg:Str->Option Value}{base:Heap}{k:Nat}{f:Addr}{name qual:Str}{params:Arguments}{g:List Stmt}{scope:Scope}{dV kV doc pm cQ ct oc:Value}{an od:Option Addr}
  {lH:Array (Option Value)}{N ps:List Str}{sp:Sp}(lk:K.lookup f=some ⟨oc,od,.func (fnOf name qual params g scope dV kV doc pm an cQ ct),lH⟩) (Fk:PySem.W.codeIn K cQ qual=true) (S:FnScope N ps scope)
  (len:∀vs H Q E,sp vs H Q E->vs.length=ps.length)
  (M:∀(A:Around)(outer:List Env)(s:Shared)(H:Hp)(vs:List V)(Q:VK)(E:XK),cV k (A.deeper (envOfC qual scope s.heap.objs.size f cQ))->sp vs H Q E ->
   ∃t,o3 (lI CX P w K mg base N qual scope f cQ A outer s H E) g t/\t { nx:=λ_ H'=>Q .non H',rt:=Q } (gQ N vs) H):
  oF P w K mg base CX (k+1) f (fnOf name qual params g scope dV kV doc pm an cQ ct) ps sp:=by
 refine⟨len,λA outer s H args us vs Q E hr T hb r U=>?_⟩;have hl:=len _ _ _ _ U;have KX:K.In s.heap:=T.mod.kin.keeps λb o e=>(T.bs b o e).1;have Ny:s.heap.NoLimit:=T.mod.nolimit.keeps λb o e=>(T.bs b o e).1;have O:∀y∈ps.zip us,scope.names.lookup y.1=some .local∨(scope.names.lookup y.1=some .cell/\((cellsFrom (s.heap.objs.size+1) scope.names []).lookup y.1).isSome=true):=λ⟨n,v⟩ hy=>by
  rcases S.par n (List.of_mem_zip hy).1 with q|q
  ·exact .inl q
  ·exact .inr ⟨q,PySem.W.cellsFrom_some _ _ _ (.inl q)⟩
 refine codeAny_call_function hr.depth (KX _ _ lk) rfl S.co S.gen rfl (PySem.W.codeRec_of KX Fk) (hb _ _ _ _ ?_);refine wpAny_newFunctionEnv_cells S.kind O λenv he s1 x=>?_;subst he;refine⟨Ny.keeps x.toInCall.keep,codeAny_func ?_⟩;obtain⟨t,ht,hq⟩:=M A outer s H vs Q E (hr.deeper _) U;have I:Inv (lI CX P w K mg base N qual scope f cQ A outer s H E) [] (gQ N vs) H s1:=xR S hr.hd T hl r x;refine wpAny_mono (ht [] s1 (gQ N vs) H _ I hq) (λfl s' hs=>?_) λe s' hs=>hs;have gt:∀ {G:St}{H':Hp}{v:V}{u:Value},Inv (lI CX P w K mg base N qual scope f cQ A outer s H E) [] G H' s'->aC v u->Q v H'->CE outer P w H s Q u s' :=
  λ{G H' v u} J rv q=>⟨v,H',J.os,J.bare,J.base,J.hok,rv,q⟩
 cases fl with
 |ret u=>
  obtain⟨v,G,H',J,rv,q⟩:=hs;exact gt J rv q
 |next=>
  obtain⟨G,H',J,q⟩:=hs;exact gt (v:=V.non) (u:=Value.none) J rfl q
 |brk=>
  obtain⟨_,_,_,q⟩:=hs;exact False.elim q
 |cont=>
  obtain⟨_,_,_,q⟩:=hs;exact False.elim q
section
variable {X:Cx}{x:Str}{p pos:Pos}{e:Expr}{es:List Expr}{t:TA}{id T:String}{r:List V->Hp->VK->Prop}
def KU (r:List V->Hp->VK->Prop)(t:TA):TE:=λσ H Q=>t σ H λvs g=>r vs g Q
theorem rF (hc:bB X (.builtin id) r)(M:Gl X x)(hm:X.mg x=none)(hv:bootBuiltins x=some (.builtin id))(ha:PA X (e::es) t)(hn:x ≠ "__name__":=by decide)(g:(x == ("__debug__" : Str))=false:=by decide)
  (he:starEach (e::es) X.env=(false,eval e X.env)::starEach es X.env:=by rfl) (G:(backTo pos (starEach es X.env)).any (·.1)=false:=by rfl):PE X (.Call (.Name x p) (e::es) [] pos) (KU r t):=by
 intro aa s σ H Q I h;refine wpAny_Call_Name_kw (ji I M hm hv ?_ hn g);exact PyProof.Rows.callWith_builtin1 (bF (ha pos aa s σ H _ I h) λus s1 ⟨vs,O,U,r1,q1⟩=>hc aa s1 σ O vs us Q U r1 q1) he G
theorem oQ (hc:bB X (.type T) r)(M:Gl X x)(hm:X.mg x=none)(hv:bootBuiltins x=some (.type T))(ha:PA X (e::es) t)(hn:x ≠ "__name__":=by decide)(g:(x == ("__debug__" : Str))=false:=by decide)
  (he:starEach (e::es) X.env=(false,eval e X.env)::starEach es X.env:=by rfl) (G:(backTo pos (starEach es X.env)).any (·.1)=false:=by rfl):PE X (.Call (.Name x p) (e::es) [] pos) (KU r t):=by
 intro aa s σ H Q I h;refine wpAny_Call_Name_kw (ji I M hm hv ?_ hn g);exact PyProof.Rows.callWith_type1 (bF (ha pos aa s σ H _ I h) λus s1 ⟨vs,O,U,r1,q1⟩=>hc aa s1 σ O vs us Q U r1 q1) he G
end
end L2
namespace HT
open PySem PyProof.Rows
section
open PySem.SeqAt
open PySem.AutoSeq1 (wpAny_loadPart')
open PySem.MeetsSeq PySem.MeetsSeq2 PySem.MeetsSeq3
end
section
variable {prog:Program}{w:World}{A:Around}{E:Value->Shared->Prop}{s:Shared}
theorem Bp (ht:IsTup s.heap t vs.toArray)(hb:IsTup s.heap b ws.toArray)(hv:vs≠[])
  (h1:ws=[]->Q (.ref t) s) (h2:ws≠[]->Q (.ref s.heap.objs.size) { s with heap:=s.heap.push { cls:=.type "tuple",data:=.seq (vs++ws).toArray } })
  (hsz:vs.length+ws.length<=sizeLine):wpAny (model prog w) A (binaryOp .Add (.ref t) (.ref b)) Q E s:=by
 obtain⟨⟨cls,dd,data,sl⟩,U,hc,n,hd⟩:=id ht;obtain⟨⟨Nz,G,data2,M⟩,g,O,n2,T⟩:=id hb;simp only at hc hd O T;subst hc hd O T;have e:vs.toArray++ws.toArray=(vs++ws).toArray:=by simp
 by_cases hw:ws=[]
 ·exact concat_meets ⟨_,U,rfl⟩ ⟨_,g,rfl⟩ noFill_tuple_add seq_tuple_add PySem.F.slot_tuple_add PySem.F.entry_tuple_add (PySem.F.args_tuple_add_2 _ _)
   (tuple_addW1 t b vs.toArray ws.toArray n n2 dd G sl M (by simpa using hv) (by simp[hw])) ⟨U,g,h1 hw⟩
 ·refine concat_meets ⟨_,U,rfl⟩ ⟨_,g,rfl⟩ noFill_tuple_add seq_tuple_add PySem.F.slot_tuple_add PySem.F.entry_tuple_add (PySem.F.args_tuple_add_2 _ _)
   (tuple_addW2 t b vs.toArray ws.toArray n n2 dd G sl M (by simpa using hv) (by simpa using hw) (by rw[vH,vH];exact hsz)) ⟨U,g,?_⟩
  rw[e];exact h2 hw
noncomputable def c7 (n d:Nat):Option Int->Nat
 |none=>d
 |some v=>if v<0 then (v+(n:Int)).toNat else min v.toNat n
theorem Ef (n d:Nat)(hd:d<=n)(o:Option Int):c7 n d o<=n:=by
 cases o with
 |none=>exact hd
 |some v=>
  show(if v<0 then (v+(n:Int)).toNat else min v.toNat n)<=n;by_cases hv:v<0
  ·rw[if_pos hv];omega
  ·rw[if_neg hv];exact Nat.min_le_right _ _
theorem wg (v:Int)(n d:Nat):(if v<0 then max (v+(n:Int)) 0 else min v (n:Int))=((c7 n d (some v):Nat):Int):=by
 show(if v<0 then max (v+(n:Int)) 0 else min v (n:Int))=(((if v<0 then (v+(n:Int)).toNat else min v.toNat n):Nat):Int);by_cases hv:v<0
 ·simp only[if_pos hv];omega
 ·simp only[if_neg hv];omega
theorem uh (lo hi:Option Int)(n:Nat):Builtin.Slice.sliceAdjust lo hi 1 (n:Int)=(((c7 n 0 lo:Nat):Int),((c7 n n hi:Nat):Int)):=by
 have h1:¬((1:Int)<0):=by omega
 unfold Builtin.Slice.sliceAdjust;simp only[h1,if_false];refine Prod.ext ?_ ?_
 ·cases lo with
  |none=>rfl
  |some v=>exact wg v n 0
 ·cases hi with
  |none=>rfl
  |some v=>exact wg v n n
theorem ui (i j:Nat):Builtin.Slice.slicePlaces (i:Int) (j:Int) 1=j - i:=by
 unfold Builtin.Slice.slicePlaces;have h1:(1:Int) > 0:=by omega
 simp only[h1,if_true,Int.ediv_one];split<;>omega
theorem mq (p:IsPart v o)(h:Q o s):wpAny (model prog w) A (Builtin.Slice.slicePartIndex v) Q E s:=by
 cases p with
 |none=>exact slicePart_none h
 |int i t=>exact slicePart_int h
theorem gc {sl:Addr}{vl M:Value}{lo hi:Option Int}{n:Nat}{Q:Int×Int×Nat->Shared->Prop}(hs:s.heap.IsSliceOf sl vl M .none)(pl:IsPart vl lo)(O:IsPart M hi)
  (h:Q (((c7 n 0 lo:Nat):Int),1,c7 n n hi - c7 n 0 lo) s):wpAny (model prog w) A (Builtin.Slice.sliceApplied (.ref sl) (pure (n:Int))) Q E s:=by
 obtain⟨os,g,T,G⟩:=id hs;unfold Builtin.Slice.sliceApplied Builtin.Slice.sliceFields;refine wX (wX (wpAny_field g G (x:=vl) rfl (wX (wpAny_field g G (x:=M) rfl (wX (wpAny_field g G (x:=.none) rfl (wY ?_)))))));refine wX (slicePart_none ?_);show wpAny _ _ (if((1:Int) == 0)=true then _ else _) _ _ s;rw[if_neg (by decide)];refine wX (mq pl (wX (mq O (wX (wY ?_)))));show wpAny _ _ (match Builtin.Slice.sliceAdjust lo hi 1 (n:Int) with|(lo,hi)=>pure (lo,(1:Int),Builtin.Slice.slicePlaces lo hi 1)) _ _ s;rw[uh lo hi n];show wpAny _ _ (pure (((c7 n 0 lo:Nat):Int),(1:Int),Builtin.Slice.slicePlaces ((c7 n 0 lo:Nat):Int) ((c7 n n hi:Nat):Int) 1)) _ _ s;rw[ui];exact wY h
theorem zd (xs:Array Value)(i k:Nat):((List.range k).filterMap λ(m:Nat)=>xs[((i:Int)+(m:Int)*1).toNat]?).toArray=((xs.toList.drop i).take k).toArray:=by
 have e:(λ(m:Nat)=>xs[((i:Int)+(m:Int)*1).toNat]?)=λm=>xs[i+m]?:=by
  funext m;have:((i:Int)+(m:Int)*1).toNat=i+m:=by omega
  rw[this]
 rw[e];have:=pick_run xs i k;rw[List.filterMap_map]at this;have e2:((λx=>xs[x]?) ∘ λx=>i+x)=λm=>xs[i+m]?:=rfl;rw[e2]at this;rw[this]
theorem j9 {t sl:Addr}{items:Array Value}{vl vu:Value}{lo hi:Option Int}{Q:Value->Shared->Prop}(G:IsTup s.heap t items)(hs:s.heap.IsSliceOf sl vl vu .none)(pl:IsPart vl lo)(pu:IsPart vu hi)
  (hw:¬(c7 items.size 0 lo=0/\c7 items.size items.size hi=items.size))
  (h:Q (.ref s.heap.objs.size) { s with heap:=s.heap.push { cls:=.type "tuple",data:=.seq ((items.toList.drop (c7 items.size 0 lo)).take (c7 items.size items.size hi - c7 items.size 0 lo)).toArray } })
  (hsz:items.size<=sizeLine):wpAny (model prog w) A (getItem (.ref t) (.ref sl)) Q E s:=by
 have g:sizeOk (.seq ((items.toList.drop (c7 items.size 0 lo)).take (c7 items.size items.size hi - c7 items.size 0 lo)).toArray):=by
  show((items.toList.drop (c7 items.size 0 lo)).take (c7 items.size items.size hi - c7 items.size 0 lo)).toArray.size<=sizeLine
  rw[vH,List.length_take,List.length_drop,vG]
  omega
 have hj:c7 items.size items.size hi<=items.size:=Ef _ _ (vT _) hi
 obtain⟨os,M,O,JN⟩:=id hs
 have T:s.TypeIs (.ref sl) "slice":=⟨os,M,O⟩
 unfold getItem
 try with_reducible refine wpAny_holding ?_
 first|refine wX (wY ?_)|skip
 refine wX (wpAny_sequenceKey G.typeIs (by decide) ?_)
 refine wX (wpAny_callSpecial?_slot (name:=Str.ofString "__getitem__") G.typeIs PyProof.Rows.slot_tuple_getitem
  (wpAny_call_entry PyProof.Rows.slot_tuple_getitem G.typeIs entry_tuple_getitem ?_ (args_tuple_getitem _ _)))
 show wpAny _ _ (Builtin.Tuple.tupleItemsOf (.ref t)>>=_) _ _ s
 refine wX (tupleItemsOf_ G ?_)
 refine wX (wpAny_typeOf T ?_)
 rw[if_pos (by decide)]
 refine wX (gc hs pl pu ?_)
 have U:¬((((c7 items.size 0 lo:Nat):Int) == 0 && (1:Int) == 1 && (c7 items.size items.size hi - c7 items.size 0 lo) == items.size)=true):=by
  intro q
  rw[vD,vD]at q
  have q1:((c7 items.size 0 lo:Nat):Int)=0:=eq_of_beq q.1.1
  have q2:c7 items.size items.size hi - c7 items.size 0 lo=items.size:=eq_of_beq q.2
  exact hw ⟨by omega,by omega⟩
 show wpAny _ _ (if(((c7 items.size 0 lo:Nat):Int) == 0 && (1:Int) == 1 && (c7 items.size items.size hi - c7 items.size 0 lo) == items.size)=true then _ else _) _ _ s
 rw[if_neg U,zd]
 first
  |exact wX (m:=Builtin.Tuple.tupleExact _) (wpAny_newObj_type (wY ⟨_,rfl,wY h⟩) g)
  |exact wX (m:=Builtin.Tuple.tupleExact _) (wpAny_newObj_type (wX (wY (wY ⟨_,rfl,wY h⟩))) g)
  |exact wX (wX (m:=Builtin.Tuple.tupleExact _) (wpAny_newObj_type (wY (wY ⟨_,rfl,wY h⟩)) g))
  |exact wX (wX (m:=Builtin.Tuple.tupleExact _) (wpAny_newObj_type (wY ⟨_,rfl,wY h⟩) g))
end
end HT
namespace L2
open PySem PySem.Spec PyProof.Rows
abbrev TO:=St->Hp->(Option Int->Hp->Prop)->Prop
def PO (X:Cx)(e:Option Expr)(t:TO):Prop :=
 ∀(aa:List (Addr×Obj))(s:Shared)(σ:St)(H:Hp)(Q:Option Int->Hp->Prop),Inv X aa σ H s->t σ H Q ->
  wq X (evalPart e X.env) (λu s'=>∃o H',Inv X aa σ H' s'/\IsPart u o/\Q o H') X.xe s
def Bq:TO:=λ_ H Q=>Q none H
def Gs (t:TE):TO:=λσ H Q=>t σ H λx g=>∃i,x=.int i/\Q (some i) g
section
variable {X:Cx}{e:Expr}{te:TE}{lo hi:Option Expr}{tl th:TO}{pos p2:Pos}
theorem Br:PO X none Bq:=by
 intro aa s σ H Q I h;rw[evalPart_none];exact wY ⟨none,H,I,.none,h⟩
theorem Bs (h:PE X e te):PO X (some e) (Gs te):=by
 intro aa s σ H Q I hw;rw[evalPart_some];refine bF (h aa s σ H _ I hw) λu s1 ⟨x,g,G,M,O⟩=>?_;obtain⟨i,rfl,q⟩:=O;obtain⟨t,rfl⟩:=M;exact⟨some i,g,G,.int i t,q⟩
def yO (X:Cx)(r:V->Option Int->Option Int->Hp->VK->Prop):Prop :=
 ∀(aa:List (Addr×Obj))(s:Shared)(σ:St)(H:Hp)(x:V)(v vl g:Value)(lo hi:Option Int)(sl:Addr)(Q:VK),Inv X aa σ H s->aC x v->s.heap.IsSliceOf sl vl g .none->IsPart vl lo->IsPart g hi->r x lo hi H Q ->
  ∃T id,typeLookup (.type T) "__getitem__" = pure (some (.builtin id))/\s.TypeIs v T/\wq X (getItem v (.ref sl)) (EP X aa σ Q) X.xe s
theorem yO.or (h:yO X r)(h':yO X r'):yO X (λx lo hi H Q=>r x lo hi H Q∨r' x lo hi H Q):=by
 intro aa s σ H x v vl g lo hi sl Q I G hs pl M q;rcases q with q|q
 ·exact h aa s σ H x v vl g lo hi sl Q I G hs pl M q
 ·exact h' aa s σ H x v vl g lo hi sl Q I G hs pl M q
def MD (r:V->Option Int->Option Int->Hp->VK->Prop)(te:TE)(tl th:TO):TE:=λσ H Q=>te σ H λx g=>tl σ g λl H2=>th σ H2 λu G=>r x l u G Q
theorem ze (O:yO X r)(he:PE X e te)(hl:PO X lo tl)(hu:PO X hi th):PE X (.Subscript e (.Slice lo hi none p2) pos) (MD r te tl th):=by
 intro aa s σ H Q I h;refine Subscript_ (bF (he aa s σ H _ I h) λv s1 ⟨x,U,I1,r1,q1⟩=>?_);refine wpAny_Slice (bF (hl aa s1 σ U _ I1 q1) λvl s2 ⟨l,H2,I2,pl,q2⟩=>bF (hu aa s2 σ H2 _ I2 q2) λG g ⟨u,M,I3,pu,q3⟩=>?_);rw[evalPart_none];refine wY ?_;have I4:Inv X aa σ M { g with heap:=g.heap.push { cls:=.type "slice",data:=.fields #[vl,G,.none] } }:=I3.kept (t':=g.toks) λb ob q=>vZ _ q;obtain⟨T,id,hT,ht,hg⟩:=O aa { g with heap:=g.heap.push { cls:=.type "slice",data:=.fields #[vl,G,.none] } } σ M x v vl G l u g.heap.objs.size Q I4 r1 (Heap.IsSliceOf.new ..) pl pu q3;show wq X (subscriptTail e (.Slice lo hi none p2) v (.ref g.heap.objs.size)) (EP X aa σ Q) X.xe { g with heap:=g.heap.push { cls:=.type "slice",data:=.fields #[vl,G,.none] } };exact tail_any (ops:=[.ref g.heap.objs.size,v]) ht hT hg (by with_unfolding_all rfl)
def o4 (xs:List V)(lo hi:Option Int):List V:=(xs.drop (HT.c7 xs.length 0 lo)).take (HT.c7 xs.length xs.length hi - HT.c7 xs.length 0 lo)
theorem ls (xs:List V)(lo hi:Option Int):(o4 xs lo hi).length<=xs.length:=by
 unfold o4;rw[List.length_take,List.length_drop];omega
def Jb (K:Frag):V->Option Int->Option Int->Hp->VK->Prop:=λx lo hi H Q=>∃a xs,x=.ref a/\ga K H a xs /\
 ¬(HT.c7 xs.length 0 lo=0/\HT.c7 xs.length xs.length hi=xs.length)/\∀p,H p=none->Q (.ref p) (upd H p (.tup (o4 xs lo hi)))
theorem Eg:yO X (Jb X.K):=by
 intro aa s σ H x v vl T lo hi sl Q I M hs pl O h;obtain⟨a,xs,rfl,hx,hw,q⟩:=h;cases M
 obtain⟨its,r,G,hz⟩:=I.tuple hx;have g:its.toArray.size=xs.length:=by rw[vH];exact r.length.symm
 refine⟨"tuple",_,PyProof.Rows.slot_tuple_getitem.lookup,G.typeIs,?_⟩;refine HT.j9 G hs pl O (by rw[g];exact hw) ?_ (by rw[g];exact hz);rw[g];refine⟨.ref s.heap.objs.size,_,I.laid (t':=s.toks) (o:=.tup (o4 xs lo hi)) (λb ob q=>vZ _ q) (vT _) ?_,rfl,q _ (I.hok.fresh (vT _))⟩;exact⟨vR (ls xs lo hi) hz,_,(r.drop (HT.c7 xs.length 0 lo)).take (HT.c7 xs.length xs.length hi - HT.c7 xs.length 0 lo),IsTup.new _ _⟩
def Gu (K:Frag):R2:=λx y H Q=>∃a b xs ys,x=.ref a/\y=.ref b/\ga K H a xs/\ga K H b ys/\xs≠[]/\xs.length+ys.length<=sizeLine /\
 (ys=[]->Q (.ref a) H)/\(ys≠[]->∀p,H p=none->Q (.ref p) (upd H p (.tup (xs++ys))))
theorem aH.nil_iff (r:aH xs us):us=[]↔xs=[]:=by
 cases r with
 |nil=>simp
 |cons _ _=>simp
theorem Bt:cY X (binaryOp .Add) (Gu X.K):=by
 intro aa s σ H x y v u Q I O T h;obtain⟨a,b,xs,ys,rfl,rfl,ha,hb,hx,hz,U,q2⟩:=h;cases O
 cases T
 obtain⟨its,G,p1,_⟩:=I.tuple ha;obtain⟨M,g,p2,_⟩:=I.tuple hb;refine HT.Bp p1 p2 (λz=>hx (G.nil_iff.mp z)) (λz=>⟨.ref a,H,I,rfl,U (g.nil_iff.mp z)⟩) (λz=>?_) (by rw[←G.length,←g.length];exact hz);refine⟨.ref s.heap.objs.size,_,I.laid (t':=s.toks) (o:=.tup (xs++ys)) (λb ob q=>vZ _ q) (vT _) ?_,rfl,q2 (λw=>z (g.nil_iff.mpr w)) _ (I.hok.fresh (vT _))⟩;exact⟨by rw[vA];exact hz,_,G.append g,IsTup.new _ _⟩
end
def wh (n:Nat)(i:Int):Option Nat:=if 0<=i then (if i<n then some i.toNat else none)else if -(n:Int)<=i then some (i+n).toNat else none
def iX {α:Type}(xs:List α)(i:Int):Option α:=(wh xs.length i).bind λj=>xs[j]?
theorem Bu (h:wh n i=some j):seqIndex? i n=some j/\j<n/\-(n:Int)<=i/\i<n:=by
 unfold wh at h;by_cases h0:0<=i
 ·rw[if_pos h0]at h;by_cases h1:i<n
  ·rw[if_pos h1]at h;have e:i.toNat=j:=vK h;exact⟨by rw[seqIndex_of h0 h1,e],by omega,by omega,h1⟩
  ·rw[if_neg h1]at h;cases h
 ·rw[if_neg h0]at h;by_cases h1 : -(n:Int)<=i
  ·rw[if_pos h1]at h;have e:(i+n).toNat=j:=vK h;exact⟨by rw[seqIndex_neg (by omega) h1,e],by omega,h1,by omega⟩
  ·rw[if_neg h1]at h;cases h
theorem qq {α:Type}{xs:List α}{i:Int}{v:α}(h:iX xs i=some v):∃j,seqIndex? i xs.length=some j/\xs[j]? = some v/\j<xs.length/\-(xs.length:Int)<=i/\i<xs.length:=by
 unfold iX at h;cases e:wh xs.length i with
 |none=>rw[e]at h;cases h
 |some j=>
  rw[e]at h;obtain⟨h1,h2,h3,h4⟩:=Bu e;exact⟨j,h1,h,h2,h3,h4⟩
theorem Bv {α:Type}{xs:List α}{j:Nat}{v:α}(h:xs[j]? = some v):iX xs (j:Int)=some v:=by
 have hj:j<xs.length:=(vV h).1;have e:wh xs.length (j:Int)=some j:=by
  unfold wh;rw[if_pos (by omega),if_pos (by omega)];simp
 unfold iX;rw[e];exact h
theorem rG {α:Type}(xs:List α)(v:α):iX (xs++[v]) (-1)=some v:=by
 have hl:(xs++[v]).length=xs.length+1:=by simp
 have e:wh (xs++[v]).length (-1)=some xs.length:=by
  unfold wh;rw[hl,if_neg (by decide),if_pos (by omega)];congr 1;omega
 unfold iX;rw[e];show(xs++[v])[xs.length]? = some v;simp
def qr (b:Expr):Prop:=∀o i,subscripted b false o i=operate [o,i] (getItem o i)
def AR (X:Cx)(r:R2):Prop :=
 ∀(G g:Expr)(aa:List (Addr×Obj))(s:Shared)(σ:St)(H:Hp)(x y:V)(v u:Value)(Q:VK),Inv X aa σ H s->aC x v->aC y u->r x y H Q ->
  subscripted g false v u=operate [v,u] (getItem v u)->wq X (subscriptTail G g v u) (EP X aa σ Q) X.xe s
def Eh (X:Cx)(id:String)(r:V->List V->Hp->VK->Prop):Prop :=
 ∀(aa:List (Addr×Obj))(s:Shared)(σ:St)(H:Hp)(x:V)(xs:List V)(v:Value)(us:List Value)(Q:VK),Inv X aa σ H s->aC x v->aH xs us->r x xs H Q ->
  wq X (call (.builtin id) (v::us)) (EP X aa σ Q) X.xe s
section
variable {X:Cx}{a b:Expr}{ta tb:TE}{pos:Pos}
theorem AR.or (h:AR X r)(h':AR X r'):AR X (λx y H Q=>r x y H Q∨r' x y H Q):=by
 intro g G aa s σ H x y v u Q I M O q hs;rcases q with q|q
 ·exact h g G aa s σ H x y v u Q I M O q hs
 ·exact h' g G aa s σ H x y v u Q I M O q hs
theorem Eh.or {id:String}{r g:V->List V->Hp->VK->Prop}(h:Eh X id r)(h':Eh X id g):Eh X id (λx xs H Q=>r x xs H Q∨g x xs H Q):=by
 intro aa s σ H x xs v us Q I G M q;rcases q with q|q
 ·exact h aa s σ H x xs v us Q I G M q
 ·exact h' aa s σ H x xs v us Q I G M q
theorem zf (g:AR X r)(ha:PE X a ta)(hb:PE X b tb)(hs:qr b):PE X (.Subscript a b pos) (Gg r ta tb):=by
 intro aa s σ H Q I h;exact Subscript_ (DU ha hb I h λv u s2 x y H2 G M O q=>g a b aa s2 σ H2 x y v u Q G M O q (hs _ _))
def Jc (K:Frag):R2:=λx y H Q=>∃p xs i v,x=.ref p/\y=.int i/\eK K H p xs/\iX xs i=some v/\Q v H
def Gv (K:Frag):R2:=λx y H Q=>∃p xs i v,x=.ref p/\y=.int i/\ga K H p xs/\iX xs i=some v/\Q v H
def Jd:R2:=λx y H Q=>∃z i c,x=.str z/\y=.int i/\z.length<=sizeLine/\iX z.cps.toList i=some c/\Q (.str ⟨#[c]⟩) H
theorem Bw:AR X (Jc X.K):=by
 intro g G aa s σ H x y v u Q I T U h hs;obtain⟨p,xs,i,z,rfl,rfl,hq,he,q⟩:=h;cases T
 obtain⟨t,rfl⟩:=U;obtain⟨its,r,pl,hz⟩:=I.list hq;obtain⟨j,h1,h2,h3,h4,h5⟩:=qq he;obtain⟨w,O,M⟩:=r.get h2;have hl:=r.length;have hn:=mo;have gt:EP X aa σ Q w s:=⟨z,H,I,M,q⟩;by_cases h0:0<=i
 ·have hj:i.toNat=j:=by
   rw[seqIndex_of h0 h5]at h1;exact vK h1
  exact item_listR pl.isList h0 (by omega) (by rw[hj];simpa using O) gt hs
 ·have hj:(i+(its.toArray.size:Int)).toNat=j:=by
   rw[seqIndex_neg (by omega) h4]at h1;rw[vH,←hl];exact vK h1
  exact subscriptTail_builtinR (x:=w) pl.isList.typeIs slot_list_getitem.lookup
   (wpAny_getItem_list_neg (Q:=λr s'=>r=w/\EP X aa σ Q r s') pl.isList (by omega) (by rw[vH]<;>omega) (by omega) (by rw[hj];simpa using O) ⟨rfl,gt⟩) hs
theorem uj:AR X (Gv X.K):=by
 intro g G aa s σ H x y v u Q I O T h hs;obtain⟨p,xs,i,z,rfl,rfl,hq,he,q⟩:=h;cases O
 obtain⟨t,rfl⟩:=T;obtain⟨its,r,pl,hz⟩:=I.tuple hq;obtain⟨j,h1,h2,h3,h4,h5⟩:=qq he;obtain⟨w,U,M⟩:=r.get h2;have hl:=r.length;have hn:=mo;have gt:EP X aa σ Q w s:=⟨z,H,I,M,q⟩;exact subscriptTail_builtinR (x:=w) pl.typeIs slot_tuple_getitem.lookup
  (getItem_tuple (j:=j) (Q:=λr s'=>r=w/\EP X aa σ Q r s') pl (by omega) (by omega) (by rw[vH,←hl];exact h1) (by simpa using U) ⟨rfl,gt⟩) hs
theorem ul:AR X Jd:=by
 intro g G aa s σ H x y v u Q I M O h hs;obtain⟨z,i,c,rfl,rfl,hz,he,q⟩:=h;obtain⟨t,rfl⟩:=M;obtain⟨t',rfl⟩:=O;obtain⟨j,h1,h2,h3,h4,h5⟩:=qq he;have hl:z.cps.toList.length=z.length:=by simp[Str.length]
 rw[hl]at h1 h4 h5;have hn:=mo;exact tail_any (typeIs_str s z t) slot_str_getitem.lookup (getItem_str (c:=c) (by
  have T:decide (i < -(2 ^ 63:Int))=false:=decide_eq_false (by omega);have e2:decide (i ≥ 2 ^ 63)=false:=decide_eq_false (by omega);rw[T,e2,Bool.or_false]) (by rw[h1];simpa using h2) ⟨.str ⟨#[c]⟩,H,I.tok _,⟨_,rfl⟩,q⟩) hs
theorem Inv.lst (I:Inv X aa σ H s)(h:H p=some (.lst xs)):
  ∃(its:List Value)(n:Nat),aH xs its/\s.heap.get? p=some { cls:=.type "list",data:=.seq its.toArray n }/\xs.length<=sizeLine:=by
 obtain⟨z,its,n,r,e⟩:=I.hok p _ h;exact⟨its,n,r,e,z⟩
theorem qt (lo hi:Option Int)(n:Nat):(sliceBounds lo hi none n).1=((HT.c7 n 0 lo:Nat):Int)/\(sliceBounds lo hi none n).2.1=((HT.c7 n n hi:Nat):Int)/\(sliceBounds lo hi none n).2.2=1:=by
 refine⟨?_,?_,rfl⟩
 ·cases lo with
  |none=>simp[sliceBounds,HT.c7]
  |some i=>
   simp only[sliceBounds,HT.c7,Option.getD_none,show(1:Int) > 0 by decide,if_true];by_cases h:i<0
   ·simp only[h,if_true]<;>omega
   ·simp only[h,if_false]<;>omega
 ·cases hi with
  |none=>simp[sliceBounds,HT.c7]
  |some i=>
   simp only[sliceBounds,HT.c7,Option.getD_none,show(1:Int) > 0 by decide,if_true];by_cases h:i<0
   ·simp only[h,if_true]<;>omega
   ·simp only[h,if_false]<;>omega
theorem o5 (its:List Value)(lo hi:Option Int):slicePick its.toArray lo hi none=((its.drop (HT.c7 its.length 0 lo)).take (HT.c7 its.length its.length hi - HT.c7 its.length 0 lo)).toArray:=by
 obtain⟨h1,h2,h3⟩:=qt lo hi its.toArray.size;unfold slicePick;rw[h1,h2,h3];simp only[sliceRange_one,pick_run,vH]<;>rfl
def Je (K:Frag):V->Option Int->Option Int->Hp->VK->Prop:=λx lo hi H Q=>∃a xs,x=.ref a/\eK K H a xs/\∀p,H p=none->Q (.ref p) (upd H p (.lst (o4 xs lo hi)))
theorem By:yO X (Je X.K):=by
 intro aa s σ H x v vl T lo hi sl Q I M hs pl O h;obtain⟨a,xs,rfl,hx,q⟩:=h;cases M
 obtain⟨its,r,G,hz⟩:=I.list hx;have g:=r.length;refine⟨"list",_,slot_list_getitem.lookup,G.isList.typeIs,?_⟩;refine wpAny_getItem_list_slice G.isList hs pl O .none (by simp) ?_ (by rw[vH]<;>omega)
 rw[o5,←g];refine⟨.ref s.heap.objs.size,_,I.laid (t':=s.toks) (o:=.lst (o4 xs lo hi)) (λb ob q=>vZ _ q) (vT _) ?_,rfl,q _ (I.hok.fresh (vT _))⟩;exact⟨vR (ls xs lo hi) hz,_,0,(r.drop (HT.c7 xs.length 0 lo)).take (HT.c7 xs.length xs.length hi - HT.c7 xs.length 0 lo),vY _ rfl⟩
noncomputable def iZ:V->Bool
 |.non=>true
 |.bl _=>true
 |.int _=>true
 |.str _=>true
 |_=>false
def AS:V->V->Bool
 |.non,.non=>true
 |.bl a,.bl b=>a == b
 |.bl a,.int b=>(if a then 1 else 0) == b
 |.int a,.bl b=>a == (if b then 1 else 0)
 |.int a,.int b=>a == b
 |.str a,.str b=>a == b
 |_,_=>false
theorem Ei (G:aC y u)(g:aC x v)(O:iZ y=true)(M:iZ x=true):SeqAt.EqAt A s u v (AS y x):=by
 cases y with
 |non=>
  cases G
  cases x with
  |non=>cases g;exact SeqAt.EqAt.same _
  |bl b=>cases g;exact SeqAt.EqAt.none_bool b
  |int b=>obtain⟨t,rfl⟩:=g;exact SeqAt.EqAt.none_int b t
  |str b=>obtain⟨t,rfl⟩:=g;exact SeqAt.EqAt.none_str b t
  |_=>exact absurd (show false=true from M) uY
 |bl a=>
  cases G
  cases x with
  |non=>cases g;exact SeqAt.EqAt.bool_none a
  |bl b=>cases g;exact SeqAt.EqAt.bool_bool a b
  |int b=>obtain⟨t,rfl⟩:=g;exact SeqAt.EqAt.bool_int a b t
  |str b=>obtain⟨t,rfl⟩:=g;exact SeqAt.EqAt.bool_str a b t
  |_=>exact absurd (show false=true from M) uY
 |int a=>
  obtain⟨t',rfl⟩:=G;cases x with
  |non=>cases g;exact SeqAt.EqAt.int_none a t'
  |bl b=>cases g;exact SeqAt.EqAt.int_bool a t' b
  |int b=>obtain⟨t,rfl⟩:=g;exact SeqAt.EqAt.int_int a t' b t
  |str b=>obtain⟨t,rfl⟩:=g;exact SeqAt.EqAt.int_str a t' b t
  |_=>exact absurd (show false=true from M) uY
 |str a=>
  obtain⟨t',rfl⟩:=G;cases x with
  |non=>cases g;exact SeqAt.EqAt.str_none a t'
  |bl b=>cases g;exact SeqAt.EqAt.str_bool a t' b
  |int b=>obtain⟨t,rfl⟩:=g;exact SeqAt.EqAt.str_int a t' b t
  |str b=>obtain⟨t,rfl⟩:=g;exact SeqAt.EqAt.str_str a t' b t
  |_=>exact absurd (show false=true from M) uY
 |_=>exact absurd (show false=true from O) uY
def um (x:V)(u:Value):Bool:=match u with
 |.none=>AS .non x
 |.bool b=>AS (.bl b) x
 |.int i _=>AS (.int i) x
 |.str z _=>AS (.str z) x
 |_=>false
theorem zg (r:aC y u)(f:iZ y=true):um x u=AS y x:=by
 cases y with
 |non=>cases r;rfl
 |bl b=>cases r;rfl
 |int i=>obtain⟨t,rfl⟩:=r;rfl
 |str z=>obtain⟨t,rfl⟩:=r;rfl
 |_=>exact absurd (show false=true from f) uY
theorem jA:∀ {xs:List V}{us:List Value},aH xs us->xs.all iZ=true->us.any (um x)=xs.any λy=>AS y x
 |_,_,.nil,_=>rfl
 |y::xs,u::us,.cons r t,f=>by
  rw[List.all_cons,vD]at f;rw[List.any_cons,List.any_cons,zg r f.1,jA t f.2]
theorem gY (g:aC x v)(G:iZ x=true):∀ {xs:List V}{us:List Value},aH xs us->xs.all iZ=true->∀u∈us,SeqAt.EqAt A s u v (um x u)
 |_,_,.nil,_=>λu hu=>by cases hu
 |y::xs,u::us,.cons r t,f=>λM hu=>by
  rw[List.all_cons,vD]at f;rcases vP hu with rfl|hu
  ·rw[zg r f.1];exact Ei r g f.1 G
  ·exact gY g G t f.2 M hu
noncomputable def Ik (x:V)(xs:List V):Bool:=xs.any λy=>AS y x
def KW (K:Frag)(g:Bool):R2:=λx y H Q=>∃p xs,y=.ref p/\(eK K H p xs∨ga K H p xs)/\iZ x=true/\xs.all iZ=true/\Q (.bl (if g then !Ik x xs else Ik x xs)) H
theorem xS:cY X (compareOp .In) (KW X.K false):=by
 intro aa s σ H x y v u Q I g M h;obtain⟨p,xs,rfl,hq,G,fs,q⟩:=h;cases M
 rcases hq with hq|hq
 ·obtain⟨its,r,pl,hz⟩:=I.list hq;refine SeqAt.in_listAt (um x) pl.isList (λw hw=>gY g G r fs w (by simpa using hw)) ⟨.bl _,H,I,rfl,?_⟩;rw[show its.toArray.any (um x)=its.any (um x) by simp,jA r fs];exact q
 ·obtain⟨its,r,pl,hz⟩:=I.tuple hq;refine SeqAt.in_tupleAt (um x) pl (λw hw=>gY g G r fs w (by simpa using hw)) ⟨.bl _,H,I,rfl,?_⟩;rw[show its.toArray.any (um x)=its.any (um x) by simp,jA r fs];exact q
theorem qu:cY X (compareOp .NotIn) (KW X.K true):=by
 intro aa s σ H x y v u Q I g M h;obtain⟨p,xs,rfl,hq,G,fs,q⟩:=h;cases M
 rcases hq with hq|hq
 ·obtain⟨its,r,pl,hz⟩:=I.list hq;refine SeqAt.notIn_listAt (um x) pl.isList (λw hw=>gY g G r fs w (by simpa using hw)) ⟨.bl _,H,I,rfl,?_⟩;rw[show its.toArray.any (um x)=its.any (um x) by simp,jA r fs];exact q
 ·obtain⟨its,r,pl,hz⟩:=I.tuple hq;refine SeqAt.notIn_tupleAt (um x) pl (λw hw=>gY g G r fs w (by simpa using hw)) ⟨.bl _,H,I,rfl,?_⟩;rw[show its.toArray.any (um x)=its.any (um x) by simp,jA r fs];exact q
theorem qw:bB X (.builtin "len") (λxs H Q=>∃p ys,xs=[.ref p]/\(eK X.K H p ys∨ga X.K H p ys)/\Q (.int ys.length) H):=by
 intro aa s σ H xs us Q I r h;obtain⟨p,ys,rfl,hq,q⟩:=h;obtain⟨u,rfl,M⟩:=gP r;cases M
 have hn:=mo;rcases hq with hq|hq
 ·obtain⟨its,G,pl,hz⟩:=I.list hq;have g:=G.length;exact Calls.call_len_list pl.isList (by simp only[vH]<;>omega) ⟨.int ys.length,H,I.tok _,⟨s.toks+1,by rw[vH,g]⟩,q⟩
 ·obtain⟨its,G,pl,hz⟩:=I.tuple hq;have g:=G.length;exact len_tuple pl (by simp only[vH]<;>omega) ⟨.int ys.length,H,I.tok _,⟨s.toks+1,by rw[vH,g]⟩,q⟩
theorem qx:bB X (.builtin "len") (λxs H Q=>∃z,xs=[.str z]/\z.length<=sizeLine/\Q (.int z.length) H):=by
 intro aa s σ H xs us Q I r h;obtain⟨z,rfl,hz,q⟩:=h;obtain⟨u,rfl,t,rfl⟩:=gP r;have hn:=mo;exact len_str (by omega) ⟨.int z.length,H,I.tok _,⟨_,rfl⟩,q⟩
theorem bB.or (h:bB X f r)(h':bB X f r'):bB X f (λxs H Q=>r xs H Q∨r' xs H Q):=by
 intro aa s σ H xs us Q I g q;rcases q with q|q
 ·exact h aa s σ H xs us Q I g q
 ·exact h' aa s σ H xs us Q I g q
theorem o6:bB X (.type "tuple") (λxs H Q=>∃p ys,xs=[.ref p]/\((eK X.K H p ys/\∀l,H l=none->Q (.ref l) (upd H l (.tup ys)))∨(ga X.K H p ys/\Q (.ref p) H))):=by
 intro aa s σ H xs us Q I r h;obtain⟨p,ys,rfl,h⟩:=h;obtain⟨u,rfl,O⟩:=gP r;cases O
 rcases h with⟨hq,q⟩|⟨hq,q⟩
 ·obtain⟨its,g,pl,hz⟩:=I.list hq;have G:=g.length;refine call_tuple_list pl.isList (λh' kp=>?_) (by simp only[vH]<;>omega)
  have M:Inv X aa σ H { s with heap:=h' }:=I.kept (t':=s.toks) kp;have T:Inv X aa σ (upd H h'.objs.size (.tup ys)) { s with heap:=h'.push { cls:=.type "tuple",data:=.seq its.toArray } } :=
   M.laid (t':=s.toks) (λb o e=>vZ _ e) (vT _) (show bi X.prog X.w _ _ _ (.tup ys)from ⟨hz,its,g,IsTup.new _ _⟩)
  exact⟨.ref h'.objs.size,_,T,rfl,q _ (M.hok.fresh (vT _))⟩
 ·obtain⟨its,g,pl,hz⟩:=I.tuple hq;exact call_tuple_same pl ⟨.ref p,H,I,rfl,q⟩
def KY (K:Frag)(T:String)(x:V)(H:Hp):Prop:=match x with
 |.str _=>T = "str"
 |.int _=>T = "int"
 |.ref p=>(T = "list"/\∃xs,eK K H p xs)∨(T = "tuple"/\∃o,K.lookup p=some o/\o.cls=.type "tuple"/\o.dict=none) ∨
   (T = "dict"/\((∃av ob,H p=some (.dK av ob))∨∃av,H p=some (.dT av)))∨(T = "set"/\∃S n,H p=some (.set S n))
 |_=>False
theorem Ej (I:Inv X aa σ H s)(r:aC x v)(ty:KY X.K T x H):
  s.TypeIs v T/\∀a,v=.ref a->∃ob,s.heap.get? a=some ob/\ob.dict=none:=by
 cases x with
 |str z=>
  obtain⟨t,rfl⟩:=r;cases (show T = "str" from ty)
  exact⟨typeIs_str s z t,λ_ e=>nomatch e⟩
 |int i=>
  obtain⟨t,rfl⟩:=r;cases (show T = "int" from ty)
  exact⟨typeIs_int s i t,λ_ e=>nomatch e⟩
 |ref p=>
  cases r
  rcases ty with⟨rfl,xs,hq⟩|⟨rfl,o,hk,hc,hd⟩|⟨rfl,hk⟩|⟨rfl,S,n,hk⟩
  ·obtain⟨its,_,pl,_⟩:=I.list hq;refine⟨pl.isList.typeIs,λa e=>?_⟩;cases e
   obtain⟨o,n,e,c,hd,_⟩:=pl;exact⟨o,e,hd⟩
  ·refine⟨⟨o,I.kIn p o hk,hc⟩,λa e=>?_⟩;cases e
   exact⟨o,I.kIn _ o hk,hd⟩
  ·have z:∃o,s.heap.get? p=some o/\o.ExactDict:=by
    rcases hk with⟨av,g,hk⟩|⟨av,hk⟩
    ·obtain⟨_,_,_,_,_,o,_,_,e,ex,_⟩:=I.hok p _ hk;exact⟨o,e,ex⟩
    ·obtain⟨_,_,_,_,o,_,_,e,ex,_⟩:=I.hok p _ hk;exact⟨o,e,ex⟩
   obtain⟨o,e,ex⟩:=z;refine⟨⟨o,e,ex.1⟩,λa e2=>?_⟩;cases e2
   exact⟨o,e,ex.2.1⟩
  ·obtain⟨o,_,_,_,e,ex,_⟩:=I.hok p _ hk;refine⟨⟨o,e,ex.1⟩,λa e2=>?_⟩;cases e2
   exact⟨o,e,ex.2.1⟩
 |_=>exact False.elim ty
def KZ (K:Frag)(T:String)(r:V->List V->Hp->VK->Prop)(to:TE)(t:TA):TE:=λσ H Q=>to σ H λx g=>KY K T x g/\t σ g λxs H2=>r x xs H2 Q
variable {o e:Expr}{es:List Expr}{to:TE}{t:TA}{name:Str}{dO cC:Pos}{T id:String}{r:V->List V->Hp->VK->Prop}
theorem zh (pa:PlainAttrs T)(slot:Slot T name id)(U:typeOf (.builtin id)=pure (.type "method_descriptor"))(hm:Eh X id r)(ho:PE X o to)(ha:PA X (e::es) t)
  (G:attributeBase o name X.env (eval o X.env)=eval o X.env:=by rfl)
  (O:((backTo cC (starEach (e::es) X.env)).all (λx=>!x.1) && (backToKw cC (keywordEach [] X.env)).all (λx=>x.1.isSome)
   && decide ((e::es).length+([]:List Keyword).length+(if([]:List Keyword).isEmpty then 0 else 1)<30))=true:=by rfl)
  (M:(dO.endLine == cC.line)=true:=by rfl) (hs:starEach (e::es) X.env=(false,eval e X.env)::starEach es X.env:=by rfl) (g:(backTo cC (starEach es X.env)).any (·.1)=false:=by rfl):
  PE X (.Call (.Attribute o name dO) (e::es) [] cC) (KZ X.K T r to t):=by
 intro aa s σ H Q I h;refine wpAny_Call_method_late G O M rfl (bF (ho aa s σ H _ I h) λv s1 ⟨x,H1,I1,r1,ty,q1⟩=>?_);obtain⟨h1,h2⟩:=Ej I1 r1 ty;refine⟨T,id,pa,slot,U,h1,h2,?_⟩;have hA:=ha cC aa s1 σ H1 _ I1 q1;rw[hs]at hA ⊢;refine Calls.callWith_builtin (by show(false || (backTo cC (starEach es X.env)).any (·.1))=false;rw[g]<;>rfl) (Calls.evalArgs_plain ?_)
 exact bF hA λus s2 ⟨vs,H2,I2,r2,q2⟩=>hm aa s2 σ H2 x vs v us Q I2 r1 r2 q2
/- xs.append(e),list.index on a module's tuple .. are Eh facts of 06m -/
end
def ME (X:Cx)(id:String)(r:V->List V->Hp->VK->Prop):Prop :=
 ∀(aa:List (Addr×Obj))(s:Shared)(σ:St)(H:Hp)(x:V)(xs:List V)(v:Value)(us:List Value)(Q:VK),Inv X aa σ H s->aC x v->aH xs us->r x xs H Q ->
  wq X (call (.builtin id) (v::us)) (EP X aa σ Q) X.xe s
theorem aH.one:∀ {x:V}{us:List Value},aH [x] us->∃u,us=[u]/\aC x u
 |_,_,.cons r .nil=>⟨_,rfl,r⟩
theorem aH.two:∀ {x y:V}{us:List Value},aH [x,y] us->∃u v,us=[u,v]/\aC x u/\aC y v
 |_,_,_,.cons r (.cons q .nil)=>⟨_,_,rfl,r,q⟩
theorem aH.eraseIdx:∀ {xs:List V}{us:List Value}(i:Nat),aH xs us->aH (xs.eraseIdx i) (us.eraseIdx i)
 |_,_,_,.nil=>.nil
 |_,_,0,.cons _ t=>t
 |_,_,i+1,.cons r t=>.cons r (aH.eraseIdx i t)
theorem aH.reverse (h:aH xs us):aH xs.reverse us.reverse:=by
 induction h with
 |nil=>exact .nil
 |cons r t g=>rw[List.reverse_cons,List.reverse_cons];exact aH.append g (.cons r .nil)
section
variable {X:Cx}{aa:List (Addr×Obj)}{σ:St}{H:Hp}{s:Shared}{l b:Addr}{xs ys zs:List V}
theorem Inv.lset {its its':List Value}{n:Nat}{f:Array Value->Array Value}{t':Nat}(I:Inv X aa σ H s)(g:H l=some (.lst xs))
  (e:s.heap.get? l=some { cls:=.type "list",data:=.seq its.toArray n }) (hf:f its.toArray=its'.toArray) (hv:aH ys its') (hz:ys.length<=sizeLine):
  Inv X aa σ (upd H l (.lst ys)) { s with heap:=s.heap.update l (Obj.mapSeq f),toks:=t' }:=by
 have q:=PySem.IsL.update e f;rw[hf]at q;refine I.write (x:=l) (e:=l) (by rw[g];exact trivial) (.inl rfl) (λG u hb hu=>(Heap.get?_update_other s.heap (Obj.mapSeq f) (Ne.symm hb)).trans hu) ⟨_,q⟩ ?_;exact⟨hz,its',_,hv,q⟩
theorem Inv.lnew (I:Inv X aa σ H s)(hv:aH ys its)(hz:ys.length<=sizeLine):
  Inv X aa σ (upd H s.heap.objs.size (.lst ys)) { s with heap:=s.heap.push { cls:=.type "list",data:=.seq its.toArray },toks:=t' } :=
 I.laid (λ_ _ q=>vZ _ q) (vT _) ⟨hz,its,0,hv,vY _ rfl⟩
theorem Inv.fresh (I:Inv X aa σ H s):H s.heap.objs.size=none:=I.hok.fresh (vT _)
theorem Inv.lstM (I:Inv X aa σ H s)(g:H l=some (.lst xs)):xs.length<=sizeLine/\∃(its:List Value)(n:Nat),aH xs its/\xs.length=its.length/\s.heap.get? l=some { cls:=.type "list",data:=.seq its.toArray n }:=by
 obtain⟨z,its,n,r,e⟩:=I.hok l _ g;exact⟨z,its,n,r,r.length,e⟩
end
section
variable {X:Cx}
def qy:V->List V->Hp->VK->Prop:=λx vs H Q=>∃l xs y,x=.ref l/\vs=[y]/\H l=some (.lst xs)/\xs.length<sizeLine/\Q .non (upd H l (.lst (xs++[y])))
theorem k8:ME X "list.append" qy:=by
 intro aa s σ H x vs v us Q I G M h;obtain⟨l,xs,y,rfl,rfl,g,hz,q⟩:=h;cases G
 obtain⟨u,rfl,ru⟩:=M.one;obtain⟨z,its,n,r,hl,e⟩:=I.lstM g;refine call_meets F.slot_list_append ⟨_,e,rfl⟩ F.entry_list_append (F.args_list_append_2 _ _) (PySem.list_append l its.toArray n u (by rw[vH];omega)) ⟨e,?_⟩;refine⟨.non,_,I.lset (its':=its++[u]) g e (by simp) (r.append (.cons ru .nil)) ?_,rfl,q⟩;rw[vA,List.length_singleton];omega
end
end L2
namespace Att
open PySem PySem.W PySem.Calls PyProof.Rows
theorem lJ:∀(ns:List Int)(vs:List Value),WellAll P h vs (ns.map WData.int)->IntsAre vs ns:=by
 intro ns;induction ns with
 |nil=>
  intro vs w;rw[List.map_nil]at w;cases w
  exact .nil
 |cons n ns g=>
  intro vs w;rw[uZ]at w;cases w with
  |cons a b=>
   cases a
   exact .cons _ _ (g _ b)
theorem xT {l:OpenLaw}{n:Nat}(hn:l.most=some n){P:Params}{h:Heap}{args:List WData}{vals:List Value}
  (g:l.row.toRowW.claim.pre args=true) (O:WellAll P h vals args):
  ∃a vs ns,vals=[Value.ref a]/\args=[WData.list (ns.map WData.int)]/\h.get? a=some { cls:=.type "list",data:=.seq vs.toArray }/\IntsAre vs ns/\ns.length<=n:=by
 have T:WShape.hasAll [] args [.list .int]=true:=(pre_splitW g).1;have hc:l.pre.holds [] { args:=args }=true:=(pre_splitW g).2;obtain⟨d,r,rfl,h1,h2⟩:=hasAllW_cons T;obtain rfl:=hasAllW_nil h2;obtain⟨xs,rfl,h3⟩:=hasW_list h1;obtain⟨ns,rfl⟩:=items_int h3;have G:ns.length<=n:=by
  unfold OpenLaw.pre at hc;have h4:(WTm.not (.lt (.lit (.int (n:Int))) (.len (.arg 0)))).holds [] { args:=[.list (ns.map .int)] }=true:=by
   have h4:=(holds_andW hc).1;rw[hn]at h4;exact h4
  have h5:=condW_of h4 (w_not (w_lt w_lit (w_len_list (w_arg rfl))));rw[vI]at h5;refine Nat.le_of_not_lt λq=>?_;have U:(n:Int)<((ns.length:Nat):Int):=by omega
  first
   | (rw[decide_eq_true U]at h5;exact absurd h5 (by decide))
   | (simp at h5;omega)
 cases O with
 |cons w1 w2=>
  cases w2
  cases w1 with
  |list ho M=>exact⟨_,_,ns,rfl,rfl,ho,lJ ns _ M,G⟩
theorem xU (l:OpenLaw)(args:List WData):l.row.toRowW.claim.post args (.bool true) args=true :=
 postW_of (r:=l.row.toRowW) (X:=(true == true))
  (show WShape.has [] (.bool true) .bool=true by first|rfl|decide|simp[WShape.has,WShape.arms,WShape.armsAll])
  (show(WTm.eq .res (.lit (.bool true))).value [] { args:=args,res:=some (.bool true),after:=args }=some (.bool (true == true))from w_eq_bool (w_res rfl) w_lit) rfl
theorem rH {l:OpenLaw}{n:Nat}{q:Program}{M:List Str}{XP:(Str->Option Value)->Heap->Prop}{YP:World->Heap->Prop}{d:DefRec}
  (hn:l.most=some n) (JP:d.params.defaults=[])
  (call:∀(w:World)(s₀ g:Shared)(mg mb:Str->Option Value)(fa:Addr)(o:Obj)(pm cd doc:Value)(a:Addr)(vs:List Value)(ns:List Int),
   Ground q M [] XP w s₀ mg mb g.heap->YP w g.heap ->
   g.heap.get? fa=some o->o.data=.func (docDef d.name d.params d.body d.scope pm cd doc)->g.heap.CodeRec cd d.name->mg d.name=some (.ref fa) ->
   g.heap.get? a=some { cls:=.type "list",data:=.seq vs.toArray }->IntsAre vs ns->ns.length<=n->g.gens=#[] ->
   codeAny (model l.prog w) callerA (.call (.ref fa) ⟨[.ref a],[]⟩) (λr s'=>r=.ok (.ret (.bool true))/\OldK g.heap s'.heap/\s'.os=g.os/\AllBare s'.gens) g):
  WalkO q M XP YP l.row.toRowW d [] (λf vs=>PySem.call f vs):=by
 intro w s₀ g mg mb G Y fa o pm cd doc dV kV ho hd Fk hD hmg hg args vals as T hlay hrd hwl hlo;obtain rfl:dV=.none:=Dflts.none hD JP;obtain rfl:kV=.none:=Dflts.noKw hD;obtain⟨a,vs,ns,rfl,rfl,U,O,iD⟩:=xT hn T hwl;refine enter_call (codeAny_mono (call w s₀ g mg mb fa o pm cd doc a vs ns G Y ho (fd_plain hd) Fk hmg U O iD hg) λr s' hq=>?_);obtain⟨rfl,h2,h3,h4⟩:=hq;exact⟨.inl ⟨.bool true,.bool true,[],rfl,λ_=>rfl,.bool true,xU l _,λ_=>⟨List.Pairwise.nil,λ_ hm=>(nomatch hm)⟩⟩,h2,h3,h4⟩
section
variable {prog:Program}{w:World}{A:Around}{E:Value->Shared->Prop}{s:Shared}{K:Frag}
theorem Gw 
  (X:K.In s.heap) (hm:makesIn K C=true) (hi:findIn K (.ref C) "__init__" = some (some (.ref fI))) (hf:isFn K (.ref fI)=true)
  (h:codeAny (model prog w) (A.under (.builtin "type.__call__" ⟨.ref C::az,kw⟩)) (.call (.ref fI) ⟨.ref (s.heap.objs.size+1)::az,kw⟩) (InitBack (s.heap.objs.size+1) R)
   { s with heap:=(s.heap.push emptyDict).push (instObj C s.heap.objs.size) }):codeAny (model prog w) A (.call (.ref C) ⟨az,kw⟩) R s:=by
 obtain⟨hh,g,d,t,os⟩:=s;exact make_core (makes_of X hm) (looks_findIn X hi) (λself=>bind_fn X self (beq_iff_eq.mp hf)) (.inl rfl) h
theorem Fu 
  (X:K.In s.heap) (I:PySem.W.InstAt s.heap x ox C (some (dictOf es n))) (g:plainGet K C name=true) (hh:hasDictIn K C=true) (ha:findIn K (.ref C) name=some none)
  (hl:getL name es=some (some v)) (hv:handedIn v=true) (h:Q v { s with toks:=s.toks+1 }):wpAny (model prog w) A (getAttr (.ref x) name expr) Q E s :=
 get_value X I (plainGet_of g).1 (findObj_own hh ha rfl hl) hv h
def Jf (h:Heap)(L d:Addr):List (Addr×Obj):=(List.range h.objs.size).filterMap λa=>if a=L∨a=d then none else (h.get? a).map λo=>(a,o)
end
end Att
namespace L2
open PySem PySem.Spec PyProof.Rows
theorem gd:∀ {vs:List Value}{ns:List Int},IntsAre vs ns->aH (ns.map V.int) vs
 |_,_,.nil=>.nil
 |_,_,.cons n t h=>.cons ⟨t,rfl⟩ (gd h)
noncomputable def dR (s:Stmt):Arguments:=match s with
 |.FunctionDef _ a _ _ _ _ _ _ _ _=>a
 |_=>{ posonlyargs:=[],args:=[],vararg:=none,kwonlyargs:=[],kw_defaults:=[],kwarg:=none,defaults:=[] }
noncomputable def bI (s:Stmt):List Stmt:=match s with
 |.FunctionDef _ _ b _ _ _ _ _ _ _=>b
 |_=>[]
noncomputable def a7 (s:Stmt):Scope:=match s with
 |.FunctionDef _ _ _ _ _ _ sc _ _ _=>sc
 |_=>{ kind:=.function,names:=[],isGenerator:=false,isCoroutine:=false }
abbrev tU:CY:=λ_ _ _ _ _ _=>False
abbrev E0:XK:=λ_ _ _=>False
theorem Gx:ug tU X E0:=λ_ _ _ _ _ _ _ h=>h.elim
structure Fl (K:Frag)(x qual:Str)(st:Stmt)(f:Addr)(fd:FuncData):Prop where
 ex:∃(oc:Value)(od:Option Addr)(kV doc pm:Value)(an:Option Addr)(cQ ct:Value)(lH:Array (Option Value)),
  fd=fnOf x qual (dR st) (bI st) (a7 st) .none kV doc pm an cQ ct/\K.lookup f=some ⟨oc,od,.func fd,lH⟩/\PySem.W.codeIn K cQ qual=true
 kp:PySem.W.keepIn K (.ref f)=true
section
variable {P:Program}{w:World}{K:Frag}{mg:Str->Option Value}{base:Heap}
theorem Fl.ok {x qual:Str}{st:Stmt}{f:Addr}{fd:FuncData}{N ps:List Str}{k:Nat}{sp:Sp}(F:Fl K x qual st f fd)(S:FnScope N ps (a7 st))(len:∀vs H Q E,sp vs H Q E->vs.length=ps.length)
  (g:∀(cQ:Value)(A:Around)(outer:List Env)(s:Shared)(H:Hp)(vs:List V)(Q:VK)(E:XK),cV k (A.deeper (envOfC qual (a7 st) s.heap.objs.size f cQ))->sp vs H Q E ->
   ∃t,o3 (lI tU P w K mg base N qual (a7 st) f cQ A outer s H E).nox (bI st) t/\t { nx:=λ_ H'=>Q .non H',rt:=Q } (gQ N vs) H):oF P w K mg base tU (k+1) f fd ps sp:=by
 obtain⟨oc,od,kV,doc,pm,an,cQ,ct,lH,rfl,O,G⟩:=F.ex;refine CZ O G S len λA outer s H vs Q E T M=>?_;obtain⟨t,h,q⟩:=g cQ A outer s H vs Q E T M;exact⟨t,h.nox,q⟩
theorem Fl.binds {x qual:Str}{st:Stmt}{f:Addr}{fd:FuncData}{ps:List Str}(F:Fl K x qual st f fd)
  (h:∀(kV doc pm:Value)(an:Option Addr)(cQ ct:Value)(us:List Value),us.length=ps.length->bindArgs (fnOf x qual (dR st) (bI st) (a7 st) .none kV doc pm an cQ ct) ⟨us,[]⟩=pure (ps.zip us)):oJ K fd ps []:=by
 obtain⟨oc,od,kV,doc,pm,an,cQ,ct,lH,rfl,G,g⟩:=F.ex;exact .all (h kV doc pm an cQ ct)
theorem Ek {x qual:Str}{st:Stmt}{f:Addr}{oc:Value}{od an:Option Addr}{lH:Array (Option Value)}{kV doc pm cQ ct:Value}(l:K.lookup f=some ⟨oc,od,.func (fnOf x qual (dR st) (bI st) (a7 st) .none kV doc pm an cQ ct),lH⟩)
  (c:PySem.W.codeIn K cQ qual=true) (k:PySem.W.keepIn K (.ref f)=true):Fl K x qual st f (fnOf x qual (dR st) (bI st) (a7 st) .none kV doc pm an cQ ct):=⟨⟨oc,od,kV,doc,pm,an,cQ,ct,lH,rfl,l,c⟩,k⟩
end
def aA (H H':Hp):Prop:=∀b o,H b=some o->H' b=some o
theorem aA.refl (H:Hp):aA H H:=λ_ _ h=>h
theorem aA.trans (a:aA H H1)(b:aA H1 H2):aA H H2:=λc o h=>b c o (a c o h)
theorem aA.free (e:aA H H')(h:H' l=Option.none):H l=Option.none:=by
 cases q:H l with
 |none=>rfl
 |some o=>
  rw[e l o q]at h;cases h
theorem aA.seq {K:Frag}{H H':Hp}{a:Addr}{xs:List V}(e:aA H H')(h:eK K H a xs):eK K H' a xs:=by
 rcases h with (h|⟨o,h⟩)|h
 ·exact .inl (.inl (e _ _ h))
 ·exact .inl (.inr ⟨o,e _ _ h⟩)
 ·exact .inr h
section
variable {κ:Type}[DecidableEq κ]
noncomputable def gZ (av:List (κ×V))(k:κ):Option V:=(av.find? λkv=>decide (kv.1=k)).map (·.2)
def jB (av:List (κ×V))(k:κ)(v:V):List (κ×V) :=
 if(av.any λkv=>decide (kv.1=k))=true then av.map (λkv=>if kv.1=k then (kv.1,v)else kv)else av++[(k,v)]
theorem jC {p:κ×V}{r:List (κ×V)}{k:κ}(e:p.1=k):gZ (p::r) k=some p.2:=by simp[gZ,List.find?_cons,e]
theorem jD {p:κ×V}{r:List (κ×V)}{k:κ}(e:¬p.1=k):gZ (p::r) k=gZ r k:=by simp[gZ,List.find?_cons,e]
theorem rJ (k:κ):∀av:List (κ×V),(av.any λkv=>decide (kv.1=k))=(gZ av k).isSome
 |[]=>rfl
 |p::r=>by
  rw[List.any_cons];by_cases e:p.1=k
  ·simp only[jC e,decide_eq_true e,Bool.true_or,Option.isSome_some]
  ·rw[jD e,decide_eq_false e,Bool.false_or];exact rJ k r
theorem hG (av:List (κ×V))(k:κ)(v:V):(jB av k v).length<=av.length+1:=by
 unfold jB;split
 ·rw[vI];omega
 ·rw[vA,vE,List.length_nil];omega
theorem iV.isSome_eq (r:iV o u):o.isSome=u.isSome:=by
 cases o with
 |none=>cases u with
  |none=>rfl
  |some _=>exact(show False from r).elim
 |some _=>cases u with
  |none=>exact(show False from r).elim
  |some _=>rfl
theorem iV.getD (r:iV o u)(g:aC d d'):aC (o.getD d) (u.getD d'):=by
 cases o with
 |none=>cases u with
  |none=>exact g
  |some _=>exact(show False from r).elim
 |some _=>cases u with
  |none=>exact(show False from r).elim
  |some _=>exact r
theorem KV.val {av:List (κ×V)}{vs:List (κ×Value)}(r:KV av vs)(k:κ):iV (gZ av k) (valueAt vs k):=by
 unfold KV at r;induction r with
 |nil=>exact True.intro
 |@cons p q ps g h t M=>
  obtain⟨h1,h2⟩:=h;by_cases e:p.1=k
  ·have G:q.1=k:=h1.symm.trans e;have b:valueAt (q::g) k=some q.2:=by simp[valueAt,List.find?_cons,G]
   rw[jC e,b];exact h2
  ·have G:¬q.1=k:=λz=>e (h1.trans z);have b:valueAt (q::g) k=valueAt g k:=by simp[valueAt,List.find?_cons,G]
   rw[jD e,b];exact M
theorem KV.any (r:KV av vs)(k:κ):(av.any λkv=>decide (kv.1=k))=vs.any λkv=>decide (kv.1=k):=by
 unfold KV at r;induction r with
 |nil=>rfl
 |cons h t g=>rw[List.any_cons,List.any_cons,g,h.1]
theorem KV.repl (r:KV av vs)(k:κ)(g:aC y u):
  KV (av.map λkv=>if kv.1=k then (kv.1,y)else kv) (vs.map λkv=>if kv.1=k then (kv.1,u)else kv):=by
 unfold KV at r ⊢;induction r with
 |nil=>exact .nil
 |@cons p q ps M h t G=>
  rw[uZ,uZ];refine .cons ?_ G;obtain⟨h1,h2⟩:=h;by_cases e:p.1=k
  ·rw[if_pos e,if_pos (h1.symm.trans e)];exact⟨h1,g⟩
  ·rw[if_neg e,if_neg (λz=>e (h1.trans z))];exact⟨h1,h2⟩
theorem KV.put (r:KV av vs)(k:κ)(g:aC y u):KV (jB av k y) (stored vs k u):=by
 unfold jB stored;rw[r.any k];by_cases e:(vs.any λkv=>decide (kv.1=k))=true
 ·rw[if_pos e,if_pos e];exact r.repl k g
 ·rw[if_neg e,if_neg e];exact Paired.snoc r ⟨rfl,g⟩
theorem KV.length (r:KV av vs):av.length=vs.length:=Paired.length r
end
theorem oR (r:aC (kV k) u):(bH P w).is k u=true:=by
 cases k with
 |inl i=>obtain⟨t,e⟩:=(show ∃t,u=Value.int i t from r);subst e;exact rs P w i t
 |inr x=>obtain⟨t,e⟩:=(show ∃t,u=Value.str x t from r);subst e;exact rz P w x t
theorem oS:∀ {ks:List bu}{us:List Value},aH (ks.map kV) us->ItemsAre (bH P w) ks us
 |[],_,r=>by rw[List.map_nil]at r;cases r;exact .nil
 |k::ks,_,r=>by
  rw[uZ]at r;cases r with
  |cons h t=>exact .cons (oR h) (oS t)
abbrev KT (H:Hp):List (List bu×V)->List (List bu×Addr×Value)->Prop:=Paired λp q=>p.1=q.1/\H q.2.1=some (.tup (p.1.map kV))/\aC p.2 q.2.2
theorem KT.val {H:Hp}{av:List (List bu×V)}{xs:List (List bu×Addr×Value)}(r:KT H av xs)(k:List bu):iV (gZ av k) ((atKey xs k).map (·.2)):=by
 induction r with
 |nil=>exact True.intro
 |@cons p q ps g h t M=>
  obtain⟨h1,_,h2⟩:=h;by_cases e:p.1=k
  ·have G:q.1=k:=h1.symm.trans e;have b:atKey (q::g) k=some q.2:=by simp[atKey,List.find?_cons,G]
   rw[jC e,b];exact h2
  ·have G:¬q.1=k:=λz=>e (h1.trans z);have b:atKey (q::g) k=atKey g k:=by simp[atKey,List.find?_cons,G]
   rw[jD e,b];exact M
theorem KT.repl (r:KT H av xs)(k:List bu)(g:aC y u):
  KT H (av.map λkv=>if kv.1=k then (kv.1,y)else kv) (xs.map (putAt k u)):=by
 induction r with
 |nil=>exact .nil
 |@cons p q ps M h t G=>
  rw[uZ,uZ];refine .cons ?_ G;obtain⟨h1,h2,h3⟩:=h;unfold putAt;by_cases e:p.1=k
  ·rw[if_pos e,if_pos (h1.symm.trans e)];exact⟨h1,h2,g⟩
  ·rw[if_neg e,if_neg (λz=>e (h1.trans z))];exact⟨h1,h2,h3⟩
theorem KT.put (r:KT H av xs)(k:List bu)(hb:H b=some (.tup (k.map kV)))(g:aC y u):
  KT H (jB av k y) (storedH xs k b u):=by
 have e:(av.any λkv=>decide (kv.1=k))=(atKey xs k).isSome:=by
  rw[rJ,(r.val k).isSome_eq,Option.isSome_map]
 unfold jB storedH;rw[e];by_cases q:(atKey xs k).isSome=true
 ·rw[if_pos q,if_pos q];exact r.repl k g
 ·rw[if_neg q,if_neg q];exact Paired.snoc r ⟨rfl,hb,g⟩
theorem KT.keeps (r:KT H av xs)(g:∀b ys,H b=some (.tup ys)->H' b=some (.tup ys)):KT H' av xs :=
 Paired.mapP r λ_ _ z=>⟨z.1,g _ _ z.2.1,z.2.2⟩
section
variable {P:Program}{w:World}{H:Hp}{h:Heap}{a:Addr}
theorem Db (ok:iW P w H h)(e:Rd H a u):bi P w H h a u:=e.ok ok
theorem uo (ok:iW P w H h)(e:H a=some (.dK av ob)):h.get? a=some ob:=And.left (show bi P w H h a (.dK av ob)from ok a _ e)
theorem mr (ok:iW P w H h)(e:Rd H a (.dK av ob)):av.length<=sizeLine/\(a == sysModules)=false/\∃vs,KV av vs/\h.DictOf (bH P w) a vs :=
 And.right (show bi P w H h a (.dK av ob)from Db ok e)
theorem rK (ok:iW P w H h)(e:H a=some (.dK av ob)):av.length<=sizeLine/\(a == sysModules)=false/\∃vs,KV av vs/\h.DictOf (bH P w) a vs:=mr ok (.inl e)
theorem mu (ok:iW P w H h)(e:H a=some (.tup (ks.map kV))):(tupleKind (bH P w)).is h ks a:=by
 obtain⟨_,its,r,o,h1,h2,n,h3⟩:=(show bi P w H h a (.tup (ks.map kV))from ok a _ e);exact⟨o,its.toArray,n,h1,h2,h3,by simpa using oS r⟩
theorem oU (ok:iW P w H h)(e:Rd H a (.dT av)):av.length<=sizeLine/\(a == sysModules)=false /\
  ∃xs,KT H av xs/\h.DictOfH (tupleKind (bH P w)) a xs:=by
 obtain⟨z,y,xs,r,o,es,g,h1,h2,h3,h4,h5⟩:=(show bi P w H h a (.dT av)from Db ok e);refine⟨z,y,xs,r,o,es,g,h1,h2,h3,h4,λx hx=>?_,h5⟩;have all:∀ {l:List (List bu×V)}{m:List (List bu×Addr×Value)},KT H l m->∀x∈m,(tupleKind (bH P w)).is h x.1 x.2.1:=by
  intro l m q;induction q with
  |nil=>intro x hx;exact nomatch hx
  |@cons p q ps M hq t G=>
   intro x hx;rcases vP hx with e|hx
   ·subst e;exact mu ok (by rw[←hq.1];exact hq.2.1)
   ·exact G x hx
 exact all r x hx
theorem Gy (ok:iW P w H h)(e:H a=some (.dT av)):av.length<=sizeLine/\(a == sysModules)=false /\
  ∃xs,KT H av xs/\h.DictOfH (tupleKind (bH P w)) a xs:=oU ok (.inl e)
end
def qz (H:Hp)(a:Addr)(y:V)(r:Option V):Prop :=
 (∃av k ob,Rd H a (.dK av ob)/\y=kV k/\r=gZ av k)∨∃av k b,Rd H a (.dT av)/\y=.ref b/\H b=some (.tup (k.map kV))/\r=gZ av k
def Gz (H:Hp)(a:Addr)(y v:V)(Q:Hp->Prop):Prop :=
 (∃av k ob,H a=some (.dK av ob)/\y=kV k/\av.length<sizeLine/\∀g,Q (upd H a (.dK (jB av k v) g))) ∨
 ∃av k b,H a=some (.dT av)/\y=.ref b/\H b=some (.tup (k.map kV))/\av.length<sizeLine/\Q (upd H a (.dT (jB av k v)))
theorem qz.t (e:H a=some (.dT av))(g:H b=some (.tup (k.map kV))):qz H a (.ref b) (gZ av k):=.inr ⟨av,k,b,.inl e,rfl,g,rfl⟩
section
variable {X:Cx}{aa:List (Addr×Obj)}{σ:St}{H:Hp}{s:Shared}{a:Addr}{y v:V}{u r:Value}{o:Option V}{A:Around}{E:Value->Shared->Prop}
theorem Inv.big (I:Inv X aa σ H s):sysModules<s.heap.objs.size:=by
 have h:mainGlobals<s.heap.objs.size:=(I.mod.glob.keeps I.bk).lt;exact Nat.lt_trans (by decide) h
theorem xV (hu:A.units+1<cLine)(I:Inv X aa σ H s)(g:qz H a y (some v))(ry:aC y u)(h:∀O s',Inv X aa σ H s'->aC v O->Q O s'):
  wpAny (model X.prog X.w) A (getItem (.ref a) u) Q E s:=by
 rcases g with⟨av,k,ob,e,T,l⟩|⟨av,k,b,e,T,eb,l⟩
 ·subst T;obtain⟨z,hd,vs,G,dd⟩:=mr I.hok e;obtain⟨O,hw,M⟩:=iV.some_of (v:=v) (o:=valueAt vs k) (by rw[l];exact G.val k);exact wpAny_getItem_of (oR ry) dd.mapOf hw (h O _ (I.tok _) M)
 ·subst T;cases (show u=Value.ref b from ry)
  obtain⟨z,hd,xs,G,dd⟩:=oU I.hok e;obtain⟨O,hw,M⟩:=iV.some_of (v:=v) (o:=(atKey xs k).map (·.2)) (by rw[l];exact G.val k);obtain⟨p,hp,U⟩:=oY hw;refine wpAny_getItem_heap (tupleKind_room_in1 hu) (mu I.hok eb) dd hp ?_;rw[U];exact h O _ (I.tok _) M
theorem Bz (hu:A.units+1<cLine)(I:Inv X aa σ H s)(g:qz H a y o)(O:aC y u)(h:∀s',Inv X aa σ H s'->Q (.bool (!o.isSome)) s'):
  wpAny (model X.prog X.w) A (compareOp .NotIn u (.ref a)) Q E s:=by
 rcases g with⟨av,k,ob,e,M,l⟩|⟨av,k,b,e,M,T,l⟩
 ·subst M;obtain⟨z,hd,vs,G,dd⟩:=mr I.hok e;refine wpAny_notIn_of (oR O) hd dd.mapOf ?_;rw[←(G.val k).isSome_eq,←l];exact h _ (I.tok _)
 ·subst M;cases (show u=Value.ref b from O)
  obtain⟨z,hd,xs,G,dd⟩:=oU I.hok e;refine wpAny_notIn_heap (tupleKind_room_in1 hu) (mu I.hok T) hd dd ?_;have q:=(G.val k).isSome_eq;rw[Option.isSome_map]at q;rw[←q,←l];exact h _ (I.tok _)
theorem q8 (I:Inv X aa σ H s)(g:FR (H a))(hs:Heap.SameBut a s.heap h')(he:∃q,h'.get? a=some q)(new:bi X.prog X.w (upd H a ob) h' a ob):
  Inv X aa σ (upd H a ob) { s with heap:=h',toks:=t' } :=
 I.write (x:=a) (e:=a) g (.inl rfl) (λb q hb z=>(hs.2 b hb).trans z) he new
theorem zi (z:av.length<=sizeLine)(hd:(a == sysModules)=false)(g:KV av vs)(dd:h'.DictOf (bH P w) a vs)(G:h'.get? a=some ob):
  bi P w H' h' a (.dK av ob):=⟨G,z,hd,vs,g,dd⟩
theorem xW (hu:A.units+1<cLine)(I:Inv X aa σ H s)(g:Gz H a y v R)(U:aC y u)(rv:aC v r)(h:∀H' s',R H'->Inv X aa σ H' s'->Q () s'):
  wpAny (model X.prog X.w) A (setItem (.ref a) u r) Q E s:=by
 rcases g with⟨av,k,ob,e,O,l,T⟩|⟨av,k,b,e,O,eb,l,T⟩
 ·subst O;obtain⟨z,hd,vs,G,dd⟩:=rK I.hok e;have hz:vs.length<=sizeLine:=by rw[←G.length];exact z
  have hl:(jB av k v).length<=sizeLine:=by have:=hG av k v;omega
  refine wpAny_setItem_pairs (hsz:=hz) (oR U) dd λh' M hs=>?_;obtain⟨q,hq⟩:∃q,h'.get? a=some q:=let ⟨q,_,_,hq,_⟩:=M;⟨q,hq⟩;exact h _ _ (T q) (q8 I (by rw[e];exact True.intro) hs ⟨q,hq⟩ (zi hl hd (G.put k rv) M hq))
 ·subst O;cases (show u=Value.ref b from U)
  obtain⟨z,hd,xs,G,dd⟩:=Gy I.hok e;have hz:xs.length<=sizeLine:=by rw[←Paired.length G];exact z
  have hl:(jB av k v).length<=sizeLine:=by have:=hG av k v;omega
  refine wpAny_setItem_heap (hsz:=hz) (tupleKind_room_in1 hu) (mu I.hok eb) dd λh' M hs=>h _ _ T ?_;obtain⟨q,es,ep,hq,h2,h3,h4,_,h5⟩:=M;refine q8 I (by rw[e];exact True.intro) hs ⟨q,hq⟩ ⟨hl,hd,_,(G.put k eb rv).keeps λc ys ec=>?_,q,es,ep,hq,h2,h3,h4,h5⟩;rw[ar (FQ ec e (λz=>nomatch z))];exact ec
end
section
variable {X:Cx}{aa:List (Addr×Obj)}{σ:St}{H:Hp}{s:Shared}{a:Addr}{av:List (bu×V)}{k:bu}{u:Value}{A:Around}{E:Value->Shared->Prop}
theorem G0 (I:Inv X aa σ H s)(e:Rd H a (.dK av ob))(h:∀t s',Inv X aa σ H s'->Q (.int av.length t) s'):wpAny (model X.prog X.w) A (call (.builtin "len") [.ref a]) Q E s:=by
 obtain⟨z,hd,vs,g,dd⟩:=mr I.hok e;refine call_len_dict hd dd (by rw[←g.length];rw[sizeLine_eq]at z;omega) ?_;rw[←g.length];exact h _ _ (I.tok _)
end
def El (i:Expr):Prop:=∀g iv,subscripted i false g iv=operate [g,iv] (getItem g iv)
theorem B1 {prog:Program}{w:World}{A:Around}{E:Value->Shared->Prop}{s:Shared}{env:Env}{G g:Expr}{pos:Pos}{T id:String}{Q:Value->Shared->Prop}
  (hl:typeLookup (.type T) "__getitem__" = pure (some (.builtin id))) (hs:El g)
  (h:wpAny (model prog w) A (eval G env) (λo U=>wpAny (model prog w) A (eval g env) (λi M=>M.TypeIs o T/\wpAny (model prog w) A (getItem o i) Q E M) E U) E s):
  wpAny (model prog w) A (eval (.Subscript G g pos) env) Q E s:=by
 refine Subscript_ (wpAny_mono h (λo U h₁=>wpAny_mono h₁ (λi M O=>?_) λ_ _ x=>x) λ_ _ x=>x);obtain⟨hT,O⟩:=O;unfold subscriptTail;refine wX ?_;rw[getitemInPython_of_ne hT.not_modules];refine wX (wpAny_specialOf hT hl ?_);have gt:wpAny (model prog w) A (subscripted g false o i) (λr s₃=>wpAny (model prog w) A (letTemporaryGo G o r>>=λ_=>pure r) Q E s₃) E M:=by
  rw[hs o i];exact wpAny_operating (wpAny_mono O (λr s₃ h₃=>wX (wpAny_letTemporaryGo (wY h₃))) λ_ _ x=>x)
 first
  |exact wY (wX gt)
  |exact wX (wY (wX gt))
  |exact wX gt
theorem rL (I:Inv X aa σ H s)(g:qz H a y o):s.TypeIs (.ref a) "dict":=by
 rcases g with⟨av,k,G,e,_,_⟩|⟨av,k,b,e,_,_,_⟩
 ·obtain⟨_,_,vs,_,dd⟩:=mr I.hok e;exact dd.typeIs
 ·obtain⟨_,_,xs,_,dd⟩:=oU I.hok e;exact dd.typeIs
def G1 (g ty:TE):TE:=λσ H Q=>g σ H λx G=>ty σ G λy H2=>∃a v,x=.ref a/\qz H2 a y (some v)/\Q v H2
def B2 (ty g:TE):TE:=λσ H Q=>ty σ H λy G=>g σ G λx H2=>∃a o,x=.ref a/\qz H2 a y o/\Q (.bl (!o.isSome)) H2
def zj (g ty G:TE):TS:=λD σ H=>G σ H λv M=>g σ M λx H2=>ty σ H2 λy O=>∃a,x=.ref a/\Gz O a y v (D.nx σ)
section
variable {X:Cx}{o i e value:Expr}{pos AH Fi:Pos}{td ty tv:TE}
theorem B3 (hu:X.A.units+1<cLine)(O:PE X o td)(hi:PE X i ty)(hs:El i):PE X (.Subscript o i pos) (G1 td ty):=by
 intro aa s σ H Q I h;refine B1 PySem.F.slot_dict_getitem.lookup hs (bF (O aa s σ H _ I h) λu s1 ⟨x,T,U,rx,q1⟩=>bF (hi aa s1 σ T _ U q1) λiv s2 ⟨y,H2,M,ry,a,v,ex,g,q2⟩=>?_);subst ex;obtain rfl:u=Value.ref a:=rx;exact⟨rL M g,xV hu M g ry λw' s3 I3 G=>⟨v,H2,I3,G,q2⟩⟩
theorem xX (hu:X.A.units+1<cLine)(hi:PE X i ty)(G:PE X o td):PC X .NotIn i o (B2 ty td):=by
 intro aa s σ H Q I h;refine bF (hi aa s σ H _ I h) λiv s1 ⟨y,M,O,T,U⟩=>bF (G aa s1 σ M _ O U) λu s2 ⟨x,H2,I2,rx,a,ov,ex,g,q2⟩=>?_;subst ex;obtain rfl:u=Value.ref a:=rx;exact Bz hu I2 g T λs3 I3=>⟨.bl (!ov.isSome),H2,I3,rfl,q2⟩
theorem wj (hu:X.A.units+1<cLine)(G:PE X o td)(hi:PE X i ty)(hv:PE X value tv)(hs:swapsWith value (some (.Subscript o i AH)) pos.line X.env=pure false):
  PS X (.Assign [.Subscript o i AH] value pos) (zj td ty tv):=by
 intro aa s σ H D I h;refine wpAny_Assign_Subscript (bF (hv aa s σ H _ I h) λr s1 ⟨v,M,O,T,U⟩=>bF (G aa s1 σ M _ O U) λu s2 ⟨x,H2,I2,rx,q2⟩=>bF (hi aa s2 σ H2 _ I2 q2) λiv s3 ⟨y,H3,I3,ry,a,ex,g⟩=>?_) hs;subst ex;obtain rfl:u=Value.ref a:=rx;exact xW hu I3 g ry T λH4 s4 q3 I4=>⟨σ,H4,I4,q3⟩
end
theorem rM (h:Heap)(hb:sysModules<h.objs.size):bi P w H (h.push { cls:=.type "dict",data:=.dict #[] }) h.objs.size (.dK [] { cls:=.type "dict",data:=.dict #[] }) :=
 ⟨vY _ rfl,uO _,beq_eq_false_iff_ne.mpr (Ne.symm (vS hb)),[],.nil,Heap.DictOf.new h⟩
theorem zk (h:Heap)(hb:sysModules<h.objs.size):bi P w H (h.push { cls:=.type "dict",data:=.dict #[] }) h.objs.size (.dT []) :=
 ⟨uO _,beq_eq_false_iff_ne.mpr (Ne.symm (vS hb)),[],.nil,_,#[],0,vY _ rfl,⟨rfl,rfl,rfl⟩,rfl,rfl,List.nodup_nil⟩
def zl:TE:=λ_ H Q=>∀p ob,H p=none->Q (.ref p) (upd H p (.dK [] ob))
def zm:TE:=λ_ H Q=>∀p,H p=none->Q (.ref p) (upd H p (.dT []))
section
variable {X:Cx}{pos:Pos}
theorem zn:PE X (.Dict [] [] pos) zl:=λaa s σ H Q I h=>
 wpAny_Dict_empty ⟨.ref s.heap.objs.size,_,I.laid (a:=s.heap.objs.size) (o:=.dK [] { cls:=.type "dict",data:=.dict #[] }) (t':=s.toks) (λ_ _ q=>vZ _ q) (vT _) (rM s.heap I.big),rfl,h _ _ (I.hok.fresh (vT _))⟩
theorem zo:PE X (.Dict [] [] pos) zm:=λaa s σ H Q I h=>
 wpAny_Dict_empty ⟨.ref s.heap.objs.size,_,I.laid (a:=s.heap.objs.size) (o:=.dT []) (t':=s.toks) (λ_ _ q=>vZ _ q) (vT _) (zk s.heap I.big),rfl,h _ (I.hok.fresh (vT _))⟩
end
structure M1 (X:Cx)(o:Expr)(m:Str)(dO:Pos)(e:Expr)(cC:Pos):Prop where
 base:attributeBase o m X.env (eval o X.env)=eval o X.env
 few:((backTo cC (starEach [e] X.env)).all (λx=>!x.1) && (backToKw cC (keywordEach [] X.env)).all (λx=>x.1.isSome)
  && decide (([e]:List Expr).length+([]:List Keyword).length+(if([]:List Keyword).isEmpty then 0 else 1)<30))=true
 line:(dO.endLine == cC.line)=true
 trees:backTo cC (starEach [e] X.env)=[(false,eval e X.env)]
def La (H:Hp)(a:Addr):Prop:=(∃av ob,Rd H a (.dK av ob))∨∃av,Rd H a (.dT av)
theorem Em (I:Inv X aa σ H s)(d:La H a):
  s.TypeIs (.ref a) "dict"/\(∀b,Value.ref a=.ref b->∃ob,s.heap.get? b=some ob/\ob.dict=none)/\(a == sysModules)=false:=by
 rcases d with⟨av,g,e⟩|⟨av,e⟩
 ·obtain⟨_,hd,vs,_,dd⟩:=mr I.hok e;refine⟨dd.typeIs,λb q=>?_,hd⟩;cases q
  obtain⟨ob,_,_,h1,h2,_⟩:=dd;exact⟨ob,h1,h2.2.1⟩
 ·obtain⟨_,hd,xs,_,dd⟩:=oU I.hok e;refine⟨dd.typeIs,λb q=>?_,hd⟩;cases q
  obtain⟨ob,_,_,h1,h2,_⟩:=dd;exact⟨ob,h1,h2.2.1⟩
section
variable {X:Cx}{aa:List (Addr×Obj)}{σ:St}{H:Hp}{s:Shared}{a:Addr}{y d:V}{u r:Value}{o:Option V}{A:Around}{E:Value->Shared->Prop}
theorem En (hu:A.units+1<cLine)(I:Inv X aa σ H s)(g:qz H a y o)(O:aC y u)(h:∀T s',Inv X aa σ H s'->aC (o.getD .non) T->Q T s'):
  wpAny (model X.prog X.w) A (call (.builtin "dict.get") [.ref a,u]) Q E s:=by
 rcases g with⟨av,k,ob,e,M,l⟩|⟨av,k,b,e,M,U,l⟩
 ·subst M;obtain⟨z,hd,vs,G,dd⟩:=mr I.hok e;refine call_meetsIn PySem.F.slot_dict_get dd.typeIs PySem.F.entry_dict_get (PySem.F.args_dict_get_2 _ _) (meets_dict_get (bH X.prog X.w) a (oR O) hd) ⟨_,dd.mapOf,h _ _ (I.tok _) ?_⟩;rw[l];exact(G.val k).getD rfl
 ·subst M;cases (show u=Value.ref b from O)
  obtain⟨z,hd,xs,G,dd⟩:=oU I.hok e;refine call_meetsIn PySem.F.slot_dict_get dd.typeIs PySem.F.entry_dict_get (PySem.F.args_dict_get_2 _ _) (meetsH_dict_get (tupleKind (bH X.prog X.w)) a b hd) ⟨tupleKind_room_in1 hu,k,xs,mu I.hok U,dd,h _ _ (I.tok _) ?_⟩;rw[l];exact(G.val k).getD rfl
end
def Eo (G ty:TE):TE:=λσ H Q=>G σ H λx g=>∃a,x=.ref a/\La g a/\ty σ g λy H2=>∃o,qz H2 a y o/\Q (o.getD .non) H2
section
variable {X:Cx}{o e f:Expr}{dO cC:Pos}{td ty tx:TE}
theorem rN (hu:X.A.units+1<cLine)(O:PE X o td)(he:PE X e ty)(m:M1 X o "get" dO e cC):PE X (.Call (.Attribute o "get" dO) [e] [] cC) (Eo td ty):=by
 intro aa s σ H Q I h;refine wpAny_Call_method m.base m.few m.line PySem.F.plainAttrs_dict PySem.F.slot_dict_get PySem.F.type_dict_get (bF (O aa s σ H _ I h) λu s1 ⟨x,T,M,U,a,ex,d,q1⟩=>?_);subst ex;obtain rfl:u=Value.ref a:=U;obtain⟨t1,t2,_⟩:=Em M d;refine⟨t1,t2,?_⟩;rw[m.trees];refine Calls.callWith_builtin rfl (Calls.evalArgs_plain (Calls.spliced_cons (bF (he aa s1 σ T _ M q1) λiv s2 ⟨y,H2,I2,ry,ov,g,q2⟩=>Calls.spliced_nil ?_)));exact En hu I2 g ry λw' s3 I3 G=>⟨_,H2,I3,G,q2⟩
end
end L2
namespace DL
open PySem L2
set_option linter.all false
abbrev St:=L2.St
inductive D where
 |non|bl (b:Bool)|int (i:Int)|str (x:Str)|ty (n:String)|tup (ds:List D)|lst (ds:List D)
  |dk (ks:List bu) (vs:List D)|dt (ks:List (List bu)) (vs:List D)
abbrev OB:=Option (D×Bool)
mutual
inductive Is (K:Frag)(H:Hp):V->D->Prop where
 |non:Is K H .non .non
 |bl (b:Bool):Is K H (.bl b) (.bl b)
 |int (i:Int):Is K H (.int i) (.int i)
 |str (x:Str):Is K H (.str x) (.str x)
 |ty (n:String):Is K H (.ty n) (.ty n)
 |tup {a:Addr}{vs:List V}{ds:List D}(h:ga K H a vs) (hs:IsL K H vs ds):Is K H (.ref a) (.tup ds)
 |lst {a:Addr}{vs:List V}{ds:List D}(h:eK K H a vs) (hs:IsL K H vs ds):Is K H (.ref a) (.lst ds)
 |dk {a:Addr}{ks:List bu}{vs:List V}{ds:List D}{ob:Obj}(h:H a=some (.dK (ks.zip vs) ob)) (hl:ks.length=vs.length) (hs:IsL K H vs ds):Is K H (.ref a) (.dk ks ds)
 |dt {a:Addr}{ks:List (List bu)}{vs:List V}{ds:List D}(h:H a=some (.dT (ks.zip vs))) (hl:ks.length=vs.length) (hs:IsL K H vs ds):Is K H (.ref a) (.dt ks ds)
inductive IsL (K:Frag)(H:Hp):List V->List D->Prop where
 |nil:IsL K H [] []
 |cons {v:V}{d:D}{vs:List V}{ds:List D}(h:Is K H v d) (hs:IsL K H vs ds):IsL K H (v::vs) (d::ds)
end
mutual
def aT:D->Bool
 |.lst _=>false
 |.dk _ _=>false
 |.dt _ _=>false
 |.tup ds=>bj ds
 |_=>true
def bj:List D->Bool
 |[]=>true
 |d::ds=>aT d && bj ds
end
@[simp] theorem Fv:aT .non=true:=by simp only[aT]
@[simp] theorem G2 (b:Bool):aT (.bl b)=true:=by simp only[aT]
@[simp] theorem Fw (i:Int):aT (.int i)=true:=by simp only[aT]
@[simp] theorem Fx (x:Str):aT (.str x)=true:=by simp only[aT]
@[simp] theorem G3 (x:String):aT (.ty x)=true:=by simp only[aT]
@[simp] theorem Fy (ds:List D):aT (.tup ds)=bj ds:=by rw[aT]
@[simp] theorem Fz (ds:List D):aT (.lst ds)=false:=by rw[aT]
@[simp] theorem G4 (ks:List bu)(ds:List D):aT (.dk ks ds)=false:=by rw[aT]
@[simp] theorem G5 (ks:List (List bu))(ds:List D):aT (.dt ks ds)=false:=by rw[aT]
@[simp] theorem Ep:bj []=true:=by rw[bj]
@[simp] theorem Dc (d:D)(ds:List D):bj (d::ds)=(aT d && bj ds):=by rw[bj]
section
variable {K:Frag}{H H':Hp}
mutual
theorem Is.keep (g:∀a vs,ga K H a vs->ga K H' a vs)(G:∀a vs,eK K H a vs->eK K H' a vs)(M:∀a av ob,H a=some (.dK av ob)->H' a=some (.dK av ob))(O:∀a av,H a=some (.dT av)->H' a=some (.dT av)):∀ {v:V}{d:D},Is K H v d->Is K H' v d
 |_,_,.non=>.non
 |_,_,.bl b=>.bl b
 |_,_,.int i=>.int i
 |_,_,.str x=>.str x
 |_,_,.ty x=>.ty x
 |_,_,.tup h hs=>.tup (g _ _ h) (IsL.keep g G M O hs)
 |_,_,.lst h hs=>.lst (G _ _ h) (IsL.keep g G M O hs)
 |_,_,.dk h hl hs=>.dk (M _ _ _ h) hl (IsL.keep g G M O hs)
 |_,_,.dt h hl hs=>.dt (O _ _ h) hl (IsL.keep g G M O hs)
theorem IsL.keep (g:∀a vs,ga K H a vs->ga K H' a vs)(G:∀a vs,eK K H a vs->eK K H' a vs)(M:∀a av ob,H a=some (.dK av ob)->H' a=some (.dK av ob))(O:∀a av,H a=some (.dT av)->H' a=some (.dT av)):∀ {vs:List V}{ds:List D},IsL K H vs ds->IsL K H' vs ds
 |_,_,.nil=>.nil
 |_,_,.cons h hs=>.cons (Is.keep g G M O h) (IsL.keep g G M O hs)
end
mutual
theorem Is.keepT (g:∀a vs,ga K H a vs->ga K H' a vs):∀ {v:V}{d:D},Is K H v d->aT d=true->Is K H' v d
 |_,_,.non,_=>.non
 |_,_,.bl b,_=>.bl b
 |_,_,.int i,_=>.int i
 |_,_,.str x,_=>.str x
 |_,_,.ty x,_=>.ty x
 |_,_,.tup h hs,n=>.tup (g _ _ h) (IsL.keepT g hs (by simpa using n))
 |_,_,.lst h hs,n=>by simp at n
 |_,_,.dk h hl hs,n=>by simp at n
 |_,_,.dt h hl hs,n=>by simp at n
theorem IsL.keepT (g:∀a vs,ga K H a vs->ga K H' a vs):∀ {vs:List V}{ds:List D},IsL K H vs ds->bj ds=true->IsL K H' vs ds
 |_,_,.nil,_=>.nil
 |_,_,.cons h hs,n=>by
  simp at n;exact .cons (Is.keepT g h n.1) (IsL.keepT g hs n.2)
end
theorem aP (e:aA H H')(h:ga K H a xs):ga K H' a xs:=by
 rcases h with (h|⟨o,h⟩)|h
 ·exact .inl (.inl (e _ _ h))
 ·exact .inl (.inr ⟨o,e _ _ h⟩)
 ·exact .inr h
theorem Is.mono (h:Is K H v d)(e:aA H H'):Is K H' v d:=h.keep (λ_ _=>aP e) (λ_ _=>e.seq) (λ_ _ _ q=>e _ _ q) λ_ _ q=>e _ _ q
theorem IsL.mono (h:IsL K H v d)(e:aA H H'):IsL K H' v d:=h.keep (λ_ _=>aP e) (λ_ _=>e.seq) (λ_ _ _ q=>e _ _ q) λ_ _ q=>e _ _ q
theorem IsL.length:∀ {vs:List V}{ds:List D},IsL K H vs ds->vs.length=ds.length
 |_,_,.nil=>rfl
 |_,_,.cons _ t=>congrArg (· + 1) t.length
theorem IsL.get:∀ {vs:List V}{ds:List D}{i:Nat}{d:D},IsL K H vs ds->ds[i]? = some d->∃v,vs[i]? = some v/\Is K H v d
 |_,_,_,_,.nil,e=>by simp at e
 |_,_,0,_,.cons h _,e=>by simp at e;subst e;exact⟨_,rfl,h⟩
 |_,_,i+1,d,.cons _ t,e=>by
  obtain⟨u,h1,h2⟩:=t.get (i:=i) (d:=d) (by simpa using e);exact⟨u,by simpa using h1,h2⟩
theorem IsL.append:∀ {vs g:List V}{ds es:List D},IsL K H vs ds->IsL K H g es->IsL K H (vs++g) (ds++es)
 |_,_,_,_,.nil,s=>s
 |_,_,_,_,.cons r t,s=>.cons r (t.append s)
theorem IsL.take:∀ {vs:List V}{ds:List D}(n:Nat),IsL K H vs ds->IsL K H (vs.take n) (ds.take n)
 |_,_,0,_=>by simpa using IsL.nil
 |_,_,_+1,.nil=>.nil
 |_,_,n+1,.cons r t=>.cons r (t.take n)
theorem IsL.drop:∀ {vs:List V}{ds:List D}(n:Nat),IsL K H vs ds->IsL K H (vs.drop n) (ds.drop n)
 |_,_,0,r=>r
 |_,_,_+1,.nil=>.nil
 |_,_,n+1,.cons _ t=>t.drop n
theorem IsL.reverse (h:IsL K H vs ds):IsL K H vs.reverse ds.reverse:=by
 cases h with
 |nil=>exact .nil
 |cons r t=>rw[List.reverse_cons,List.reverse_cons];exact t.reverse.append (.cons r .nil)
termination_by vs.length
decreasing_by all_goals simp
theorem IsL.set (h:Is K H v d):∀ {vs:List V}{ds:List D}(i:Nat),IsL K H vs ds->IsL K H (vs.set i v) (ds.set i d)
 |_,_,_,.nil=>.nil
 |_,_,0,.cons _ t=>.cons h t
 |_,_,i+1,.cons r t=>.cons r (IsL.set h i t)
theorem IsL.eraseIdx:∀ {vs:List V}{ds:List D}(i:Nat),IsL K H vs ds->IsL K H (vs.eraseIdx i) (ds.eraseIdx i)
 |_,_,_,.nil=>.nil
 |_,_,0,.cons _ t=>t
 |_,_,i+1,.cons r t=>.cons r (t.eraseIdx i)
theorem IsL.flat {vs:List V}{ns:List Int}(h:vs=ns.map V.int):IsL K H vs (ns.map D.int):=by
 subst h;induction ns with
 |nil=>exact .nil
 |cons n ns g=>exact .cons (.int n) g
end
structure Ext (B N H H':Hp):Prop where
 hh:aA H H'
 bn:aA B N
 nh:aA N H'
 new:∀a o,N a=some o->B a=some o∨H a=none
theorem Ext.refl (h:aA B H):Ext B B H H:=⟨.refl _,.refl _,h,λ_ _ e=>.inl e⟩
theorem Ext.trans (x:Ext B N H H1)(y:Ext N N2 H1 H2):Ext B N2 H H2 :=
 ⟨x.hh.trans y.hh,x.bn.trans y.bn,y.nh,λa o e=>(y.new a o e).elim (λq=>x.new a o q) λq=>.inr (x.hh.free q)⟩
theorem Ext.laid (h:aA B H)(hp:H p=none):Ext B (upd B p o) H (upd H p o):=by
 have g:B p=none:=h.free hp;refine⟨λa u e=>?_,λa u e=>?_,λa u e=>?_,λa u e=>?_⟩
 ·rw[ar (λq=>by subst q;rw[hp]at e;cases e)];exact e
 ·rw[ar (λq=>by subst q;rw[g]at e;cases e)];exact e
 ·by_cases q:a=p
  ·subst q;rw[aq]at e ⊢;exact e
  ·rw[ar q]at e ⊢;exact h _ _ e
 ·by_cases q:a=p
  ·subst q;exact .inr hp
  ·rw[ar q]at e;exact .inl e
theorem Ext.grow (h:aA B H)(hh:aA H H'):Ext B B H H':=⟨hh,.refl _,h.trans hh,λ_ _ e=>.inl e⟩
abbrev Env:=List OB
abbrev FE:=Env->OB
abbrev FA:=Env->Option (List D)
abbrev FT:=Env->Option Bool
def F0 (K:Frag)(H N:Hp)(v:V):D->Prop
 |.tup ds=>∃(a:Addr)(vs:List V),v=.ref a/\ga K N a vs/\IsL K N vs ds/\∀(i:Nat)(es:List D),ds[i]? = some (.lst es)->∃(b:Addr)(us:List V),vs[i]? = some (.ref b)/\H b=none/\N b=some (.lst us)/\IsL K N us es
 |d=>∃(a:Addr)(vs:List V)(ds:List D),v=.ref a/\d=.lst ds/\H a=none/\N a=some (.lst vs)/\IsL K N vs ds
theorem F0.back (h:F0 K H' N v d)(e:aA H H'):F0 K H N v d:=by
 cases d
 case tup=>exact let ⟨a,vs,q,y,z,r⟩:=h;⟨a,vs,q,y,z,λi es g=>let ⟨b,us,g1,G,M⟩:=r i es g;⟨b,us,g1,e.free G,M⟩⟩
 all_goals exact let ⟨a,vs,ds,q,y,z,r⟩:=h;⟨a,vs,ds,q,y,e.free z,r⟩
noncomputable def jE:List Str:=["in_order","has_seal","is_first_death","bases_by"]
noncomputable def mv (x:Str):Str:=x ++ ".<locals>." ++ "<lambda>"
def Tb (K:Frag)(B:Hp):Prop:=∀x∈jE,∀c P,PySem.W.tabIn K x=some (c,P)->B P=some (.tbl (mv x))
theorem Tb.mono (h:Tb K B)(e:aA B B'):Tb K B':=λx hx c P q=>e _ _ (h x hx c P q)
structure dB (K:Frag)(B:Hp)(σ:St)(ρ:Env):Prop where
 tb:Tb K B
 at':∀(i:Nat)(d:D)(b:Bool),ρ[i]? = some (some (d,b))->∃v,σ[i]? = some (some v)/\Is K B v d
theorem dB.mono (h:dB K B σ ρ)(e:aA B B'):dB K B' σ ρ:=⟨h.tb.mono e,λi d b q=>let ⟨v,h1,h2⟩:=h.at' i d b q;⟨v,h1,h2.mono e⟩⟩
def Fin (K:Frag)(B H:Hp)(d:D)(b:Bool)(Q:VK):Prop:=∀(v:V)(H' N:Hp),Ext B N H H'->Is K N v d->(b=true->F0 K H N v d)->Q v H'
noncomputable def tD (K:Frag)(f:FE):TE:=λσ H Q=>∃(B:Hp)(ρ:Env)(d:D)(b:Bool),aA B H/\dB K B σ ρ/\f ρ=some (d,b)/\Fin K B H d b Q
def qA (K:Frag)(f:FT):TT:=λσ H Q=>∃(B:Hp)(ρ:Env)(c:Bool),aA B H/\dB K B σ ρ/\f ρ=some c/\∀H',aA H H'->Q c H'
def F1 (K:Frag)(f:FA):TA:=λσ H Q=>∃(B:Hp)(ρ:Env)(ds:List D),aA B H/\dB K B σ ρ/\f ρ=some ds/\∀(vs:List V)(H' N:Hp),Ext B N H H'->IsL K N vs ds->Q vs H'
def rD (K:Frag)(op:D->D->OB):R2:=λx y H Q=>∃(B:Hp)(dx g d:D)(b:Bool),aA B H/\Is K B x dx/\Is K B y g/\op dx g=some (d,b)/\Fin K B H d b Q
def Jg (K:Frag)(op:D->OB):V->Hp->VK->Prop:=λx H Q=>∃(B:Hp)(dx d:D)(b:Bool),aA B H/\Is K B x dx/\op dx=some (d,b)/\Fin K B H d b Q
def zp (K:Frag)(op:List D->OB):List V->Hp->VK->Prop:=λxs H Q=>∃(B:Hp)(ds:List D)(d:D)(b:Bool),aA B H/\IsL K B xs ds/\op ds=some (d,b)/\Fin K B H d b Q
theorem Fin.one (h:Fin K B H d false Q)(s:aA B H)(i:Is K B v d):Q v H:=h v H B (.refl s) i (by simp)
theorem Fin.into (h:Fin K B H d b Q)(x:Ext B N H H1):Fin K N H1 d b Q:=λv H' N' y i g=>h v H' N' (x.trans y) i λe=>(g e).back x.hh
@[simp] noncomputable def fC (d:D):FE:=λ_=>some (d,false)
@[simp] noncomputable def af (i:Nat):FE:=λρ=>match ρ[i]? with|some (some (d,_))=>some (d,false)|_=>none
@[simp] noncomputable def f2 (op:D->D->OB)(fa g:FE):FE:=λρ=>(fa ρ).bind λx=>(g ρ).bind λy=>op x.1 y.1
@[simp] noncomputable def f1 (op:D->OB)(fa:FE):FE:=λρ=>(fa ρ).bind λx=>op x.1
@[simp] noncomputable def ag:FA:=λ_=>some []
@[simp] noncomputable def ab (fa:FE)(g:FA):FA:=λρ=>(fa ρ).bind λx=>(g ρ).bind λxs=>some (x.1::xs)
@[simp] noncomputable def fA (op:List D->OB)(fa:FA):FE:=λρ=>(fa ρ).bind op
theorem Er (h:tD K (af i) σ H Q):∃v,σ[i]? = some (some v)/\Q v H:=by
 obtain⟨B,ρ,d,b,s,r,e,q⟩:=h;unfold af at e;split at e
 ·rename_i d' G g;cases e
  obtain⟨v,h1,h2⟩:=r.at' i _ _ g;exact⟨v,h1,q.one s h2⟩
 ·cases e
theorem B4 (h:tD K (f2 op fa fb) σ H Q):tD K fa σ H λx M=>tD K fb σ M λy H2=>rD K op x y H2 Q:=by
 obtain⟨B,ρ,d,b,s,r,e,q⟩:=h;obtain⟨x,ex,e⟩:=oX e;obtain⟨y,O,e⟩:=oX e;refine⟨B,ρ,x.1,x.2,s,r,ex,λv M N g T _=>⟨N,ρ,y.1,y.2,g.nh,r.mono g.bn,O,λv2 H2 N2 G U _=>⟨N2,x.1,y.1,d,b,G.nh,T.mono G.bn,U,e,?_⟩⟩⟩;exact q.into (g.trans G)
theorem Jh (h:tD K (f1 op fa) σ H Q):tD K fa σ H λx g=>Jg K op x g Q:=by
 obtain⟨B,ρ,d,b,s,r,e,q⟩:=h;obtain⟨x,ex,e⟩:=oX e;exact⟨B,ρ,x.1,x.2,s,r,ex,λv g N G M _=>⟨N,x.1,d,b,G.nh,M,e,q.into G⟩⟩
theorem B5 (h:tD K (fA op fa) σ H Q):F1 K fa σ H λxs g=>zp K op xs g Q:=by
 obtain⟨B,ρ,d,b,s,r,e,q⟩:=h;obtain⟨x,ex,e⟩:=oX e;exact⟨B,ρ,x,s,r,ex,λv g N G M=>⟨N,x,d,b,G.nh,M,e,q.into G⟩⟩
theorem B6 (h:F1 K ag σ H Q):Q [] H:=by
 obtain⟨B,ρ,ds,s,r,e,q⟩:=h;cases e
 exact q [] H B (.refl s) .nil
theorem zq (h:F1 K (ab fa fr) σ H Q):tD K fa σ H λx G=>F1 K fr σ G λxs H2=>Q (x::xs) H2:=by
 obtain⟨B,ρ,ds,s,r,e,q⟩:=h;obtain⟨x,ex,e⟩:=oX e;obtain⟨y,O,e⟩:=oX e;cases e
 exact⟨B,ρ,x.1,x.2,s,r,ex,λv G N g T _=>⟨N,ρ,y,g.nh,r.mono g.bn,O,λvs H2 N2 M U=>q _ H2 N2 (g.trans M) (.cons (T.mono M.bn) U)⟩⟩
@[simp] noncomputable def be (f:FE):FT:=λρ=>match f ρ with|some (.bl c,_)=>some c|_=>none
@[simp] noncomputable def cu (f g:FT):FT:=λρ=>match f ρ with|some true=>g ρ|some false=>some false|none=>none
@[simp] noncomputable def gX (f g:FT):FT:=λρ=>match f ρ with|some true=>some true|some false=>g ρ|none=>none
@[simp] noncomputable def fJ (f:FT):FT:=λρ=>(f ρ).map (!·)
@[simp] noncomputable def Pb (c:FT)(f g:FE):FE:=λρ=>match c ρ with|some true=>f ρ|some false=>g ρ|none=>none
open Classical in
noncomputable def cD (H:Hp)(P:Addr->Prop):Hp:=λa=>if P a then none else H a
theorem bU (h:¬P a):cD H P a=H a:=by unfold cD;rw[if_neg h]
theorem uq (h:P a):cD H P a=none:=by unfold cD;rw[if_pos h]
theorem mw (h:cD H P a=some o):¬P a/\H a=some o:=by
 by_cases q:P a
 ·rw[uq q]at h;cases h
 ·rw[bU q]at h;exact⟨q,h⟩
theorem aZ:aA (cD H P) H:=λ_ _ e=>(mw e).2
theorem cR (e:∀a o,H a=some o->¬P a->H' a=some o/\¬P' a):aA (cD H P) (cD H' P'):=λa o q=>by
 obtain⟨h1,h2⟩:=mw q;obtain⟨h3,h4⟩:=e a o h2 h1;rw[bU h4];exact h3
noncomputable def join (N N':Hp):Hp:=λa=>match N a with|some o=>some o|none=>N' a
theorem cZ:aA N (join N N'):=λa o e=>by unfold join;rw[e]
theorem cK (e:N a=none):join N N' a=N' a:=by unfold join;rw[e]
def own (σ:St)(ρ:Env)(a:Addr):Prop:=∃(i:Nat)(d:D),ρ[i]? = some (some (d,true))/\σ[i]? = some (some (V.ref a))
inductive Bx (K:Frag)(C:Hp):HO->D->Prop where
 |lst {vs:List V}{ds:List D}(h:IsL K C vs ds):Bx K C (.lst vs) (.lst ds)
 |dk {ks:List bu}{vs:List V}{ds:List D}(hl:ks.length=vs.length) (h:IsL K C vs ds) {ob:Obj}:Bx K C (.dK (ks.zip vs) ob) (.dk ks ds)
 |dt {ks:List (List bu)}{vs:List V}{ds:List D}(hl:ks.length=vs.length) (h:IsL K C vs ds):Bx K C (.dT (ks.zip vs)) (.dt ks ds)
theorem Bx.mono (h:Bx K C o d)(e:aA C C'):Bx K C' o d:=by
 cases h with
 |lst h=>exact .lst (h.mono e)
 |dk hl h=>exact .dk hl (h.mono e)
 |dt hl h=>exact .dt hl (h.mono e)
theorem Bx.is (h:Bx K C o d)(e:C a=some o):Is K C (.ref a) d:=by
 cases h with
 |lst h=>exact .lst (eK.of e) h
 |dk hl h=>exact .dk e hl h
 |dt hl h=>exact .dt e hl h
structure cJ (K:Frag)(B0 H0 N H:Hp)(σ:St)(ρ:Env):Prop where
 bh:aA B0 H0
 tb:Tb K B0
 ext:Ext B0 N H0 H
 len:ρ.length=σ.length
 sh:∀(i:Nat)(d:D),ρ[i]? = some (some (d,false))->∃v,σ[i]? = some (some v)/\Is K (cD N (own σ ρ)) v d
 ow:∀(i:Nat)(d:D),ρ[i]? = some (some (d,true))->∃(a:Addr)(o:HO),σ[i]? = some (some (V.ref a))/\N a=some o/\H0 a=none/\Bx K (cD N (own σ ρ)) o d
 inj:∀(i j:Nat)(a:Addr)(d e:D),ρ[i]? = some (some (d,true))->ρ[j]? = some (some (e,true))->σ[i]? = some (some (V.ref a))->σ[j]? = some (some (V.ref a))->i=j
def qB (K:Frag)(B0 H0 H:Hp)(σ:St)(ρ:Env):Prop:=∃N,cJ K B0 H0 N H σ ρ
section
variable {K:Frag}{B0 H0 N H H':Hp}{σ:St}{ρ:Env}
theorem cJ.owL (s:cJ K B0 H0 N H σ ρ)(i:Nat)(d:D)(q:ρ[i]? = some (some (.lst es,true)))(hd:d=.lst es:=by rfl):∃(a:Addr)(vs:List V)(ds:List D),d=.lst ds/\σ[i]? = some (some (V.ref a))/\N a=some (.lst vs)/\H0 a=none/\IsL K (cD N (own σ ρ)) vs ds:=by
 obtain⟨a,o,h1,h2,h3,h4⟩:=s.ow i _ q;cases h4 with
 |lst h4=>exact⟨a,_,es,hd,h1,h2,h3,h4⟩
def boxed:HO->Prop
 |.lst _|.dK _ _|.dT _=>True
 |_=>False
theorem Bx.boxed (h:Bx K C o d):boxed o:=by cases h<;>exact trivial
theorem cJ.owned (s:cJ K B0 H0 N H σ ρ)(h:own σ ρ a):∃o,(N a=some o/\boxed o)/\H0 a=none:=by
 obtain⟨i,d,h1,h2⟩:=h;obtain⟨G,o,h3,h4,h5,g⟩:=s.ow i d h1;rw[h2]at h3;cases h3;exact⟨o,⟨h4,g.boxed⟩,h5⟩
theorem cJ.rep (s:cJ K B0 H0 N H σ ρ):dB K N σ ρ:=⟨s.tb.mono s.ext.bn,λi d b q=>by
 cases b with
 |false=>obtain⟨v,h1,h2⟩:=s.sh i d q;exact⟨v,h1,h2.mono aZ⟩
 |true=>
  obtain⟨a,o,h2,h3,_,h4⟩:=s.ow i d q;exact⟨_,h2,(h4.mono aZ).is h3⟩⟩
noncomputable def k9 (ρ:Env):Env:=ρ.map λx=>match x with|some (d,false)=>some (d,false)|_=>none
theorem zr {i:Nat}{d:D}{b:Bool}(h:(k9 ρ)[i]? = some (some (d,b))):b=false/\ρ[i]? = some (some (d,false)):=by
 unfold k9 at h;rw[vB]at h;cases e:ρ[i]? with
 |none=>rw[e]at h;cases h
 |some x=>
  rw[e]at h;match x,h with
  |some (d',false),h=>cases h;exact⟨rfl,rfl⟩
  |some (d',true),h=>cases h
  |none,h=>cases h
theorem cJ.tbC (s:cJ K B0 H0 N H σ ρ):Tb K (cD N (own σ ρ)):=λx hx c P q=>by
 have z:=s.tb.mono s.ext.bn x hx c P q;rw[bU]
 ·exact z
 ·intro y;obtain⟨o,⟨y,g⟩,_⟩:=s.owned y;rw[z]at y;cases y;exact g
theorem cJ.repH (s:cJ K B0 H0 N H σ ρ):dB K (cD N (own σ ρ)) σ (k9 ρ):=⟨s.tbC,λi d b q=>by
 obtain⟨rfl,g⟩:=zr q;exact s.sh i d g⟩
theorem cJ.grow (s:cJ K B0 H0 N H σ ρ)(x:Ext N N' H H'):cJ K B0 H0 N' H' σ ρ:=by
 have c:aA (cD N (own σ ρ)) (cD N' (own σ ρ)):=cR λa o e q=>⟨x.bn a o e,q⟩;refine⟨s.bh,s.tb,s.ext.trans x,s.len,λi d q=>?_,λi d q=>?_,s.inj⟩
 ·obtain⟨v,h1,h2⟩:=s.sh i d q;exact⟨v,h1,h2.mono c⟩
 ·obtain⟨a,o,h2,h3,h4,h5⟩:=s.ow i d q;exact⟨a,o,h2,x.bn _ _ h3,h4,h5.mono c⟩
theorem cJ.growH (s:cJ K B0 H0 N H σ ρ)(x:Ext (cD N (own σ ρ)) N' H H'):cJ K B0 H0 (join N N') H' σ ρ/\aA N' (cD (join N N') (own σ ρ)):=by
 have G:Ext N (join N N') H H':=by
  refine⟨x.hh,cZ,λa o e=>?_,λa o e=>?_⟩
  ·cases q:N a with
   |some u=>
    have:join N N' a=some u:=cZ _ _ q;rw[this]at e;cases e;exact x.hh _ _ (s.ext.nh _ _ q)
   |none=>rw[cK q]at e;exact x.nh _ _ e
  ·cases q:N a with
   |some u=>
    have:join N N' a=some u:=cZ _ _ q;rw[this]at e;cases e;exact .inl rfl
   |none=>
    rw[cK q]at e;rcases x.new a o e with z|z
    ·have:=aZ _ _ z;rw[q]at this;cases this
    ·exact .inr z
 refine⟨s.grow G,λa o e=>?_⟩;rcases x.new a o e with z|z
 ·obtain⟨M,O⟩:=mw z;rw[bU M];exact cZ _ _ O
 ·have g:N a=none:=s.ext.nh.free z;have:¬own σ ρ a:=λq=>by obtain⟨vs,⟨q,_⟩,_⟩:=s.owned q;rw[g]at q;cases q
  rw[bU this,cK g];exact e
noncomputable def unown (ρ:Env):Env:=ρ.map λx=>x.map λy=>(y.1,false)
theorem iE {i:Nat}{d:D}{b:Bool}(h:(unown ρ)[i]? = some (some (d,b))):b=false/\∃c,ρ[i]? = some (some (d,c)):=by
 unfold unown at h;rw[vB]at h;cases e:ρ[i]? with
 |none=>rw[e]at h;cases h
 |some x=>
  rw[e]at h;match x,h with
  |some (d',c),h=>cases h;exact⟨rfl,c,rfl⟩
  |none,h=>cases h
theorem oV {a:Addr}:¬own σ (unown ρ) a:=λ⟨i,d,h,_⟩=>by
 obtain⟨z,_⟩:=iE h;cases z
theorem cJ.unown (s:cJ K B0 H0 N H σ ρ):cJ K B0 H0 N H σ (unown ρ):=by
 refine⟨s.bh,s.tb,s.ext,by unfold DL.unown;rw[vI];exact s.len,λi d q=>?_,λi d q=>?_,λi j a d e q=>?_⟩
 ·obtain⟨_,c,q⟩:=iE q;obtain⟨v,h1,h2⟩:=s.rep.at' i d c q;exact⟨v,h1,h2.mono λa o e=>by rw[bU oV];exact e⟩
 ·obtain⟨z,_⟩:=iE q;cases z
 ·obtain⟨z,_⟩:=iE q;cases z
theorem bg {α:Type}{l:List α}{i j:Nat}{x y:α}(h:(l.set i x)[j]? = some y):(i=j/\x=y)∨(i≠j/\l[j]? = some y):=by
 by_cases e:i=j
 ·subst e;rw[List.getElem?_set]at h;split at h
  ·split at h
   ·exact .inl ⟨rfl,vK h⟩
   ·cases h
  ·contradiction
 ·rw[vC e]at h;exact .inr ⟨e,h⟩
theorem oW {α g:Type}{l:List α}{m:List g}{i:Nat}{x y:α}(h:(l.set i x)[i]? = some y)(e:l.length=m.length):i<m.length:=by
 obtain⟨h,_⟩:=vV h;rw[List.length_set]at h;omega
theorem lR {i:Nat}{v:V}{x:OB}{a:Addr}(h:own (σ.set i (some v)) (ρ.set i x) a):(v=.ref a/\∃d,x=some (d,true))∨∃j,j≠i/\∃d,ρ[j]? = some (some (d,true))/\σ[j]? = some (some (V.ref a)):=by
 obtain⟨j,d,h1,h2⟩:=h;rcases bg h1 with⟨e,q⟩|⟨e,q⟩
 ·rcases bg h2 with⟨e2,g⟩|⟨e2,g⟩
  ·cases g;exact .inl ⟨rfl,d,q⟩
  ·exact absurd e e2
 ·rcases bg h2 with⟨e2,g⟩|⟨e2,g⟩
  ·exact absurd e2 e
  ·exact .inr ⟨j,λz=>e z.symm,d,q,g⟩
theorem cJ.bind (s:cJ K B0 H0 N H σ ρ){i:Nat}{v:V}{d:D}(h:Is K (cD N (own σ ρ)) v d):cJ K B0 H0 N H (σ.set i (some v)) (ρ.set i (some (d,false))):=by
 have o:∀a,own (σ.set i (some v)) (ρ.set i (some (d,false))) a->own σ ρ a:=λa q=>by
  rcases lR q with⟨_,d',p⟩|⟨j,_,d',M,O⟩
  ·cases p
  ·exact⟨j,d',M,O⟩
 have c:aA (cD N (own σ ρ)) (cD N (own (σ.set i (some v)) (ρ.set i (some (d,false))))):=cR λa u e q=>⟨e,λz=>q (o a z)⟩;refine⟨s.bh,s.tb,s.ext,by simp[s.len],λj e q=>?_,λj e q=>?_,λj k a e f q T h1 h2=>?_⟩
 ·rcases bg q with⟨rfl,p⟩|⟨ne,p⟩
  ·cases p
   have hi:=oW q s.len;exact⟨v,by simp[hi],h.mono c⟩
  ·obtain⟨w,h1,h2⟩:=s.sh j e p;exact⟨w,by rw[vC ne];exact h1,h2.mono c⟩
 ·rcases bg q with⟨rfl,p⟩|⟨ne,p⟩
  ·cases p
  ·obtain⟨a,o,h1,h2,h3,h4⟩:=s.ow j e p;exact⟨a,o,by rw[vC ne];exact h1,h2,h3,h4.mono c⟩
 ·rcases bg q with⟨rfl,p⟩|⟨ne,p⟩
  ·cases p
  ·rcases bg T with⟨rfl,g⟩|⟨G,g⟩
   ·cases g
   ·rw[vC ne]at h1;rw[vC G]at h2;exact s.inj j k a e f p g h1 h2
theorem cJ.bindOwn (s:cJ K B0 H0 N H σ ρ){i:Nat}{a:Addr}{ob:HO}{dd:D}(hN:N a=some ob)(h0:H0 a=none)(G:∀(j:Nat)(d:D),ρ[j]? = some (some (d,true))->σ[j]? ≠ some (some (V.ref a)))
  (T:∀(j:Nat)(d:D),j≠i->ρ[j]? = some (some (d,false))->∃v,σ[j]? = some (some v)/\Is K (cD N (λb=>own σ ρ b∨b=a)) v d) (U:∀(j:Nat)(d:D),j≠i->ρ[j]? = some (some (d,true))->∃(M:Addr)(o:HO),σ[j]? = some (some (V.ref M))/\N M=some o/\Bx K (cD N (λb=>own σ ρ b∨b=a)) o d)
  (JN:Bx K (cD N (λb=>own σ ρ b∨b=a)) ob dd):cJ K B0 H0 N H (σ.set i (some (.ref a))) (ρ.set i (some (dd,true))):=by
 have o:∀b,own (σ.set i (some (V.ref a))) (ρ.set i (some (dd,true))) b->own σ ρ b∨b=a:=λb q=>by
  rcases lR q with⟨p,_⟩|⟨j,_,d',q1,q2⟩
  ·cases p;exact .inr rfl
  ·exact .inl ⟨j,d',q1,q2⟩
 have c:aA (cD N (λb=>own σ ρ b∨b=a)) (cD N (own (σ.set i (some (V.ref a))) (ρ.set i (some (dd,true))))):=cR λb u e q=>⟨e,λz=>q (o b z)⟩;refine⟨s.bh,s.tb,s.ext,by simp[s.len],λj e q=>?_,λj e q=>?_,λj k b e f q q' h1 h2=>?_⟩
 ·rcases bg q with⟨rfl,p⟩|⟨ne,p⟩
  ·cases p
  ·obtain⟨w,h1,h2⟩:=T j e (Ne.symm ne) p;exact⟨w,by rw[vC ne];exact h1,h2.mono c⟩
 ·rcases bg q with⟨rfl,p⟩|⟨ne,p⟩
  ·cases p
   have hi:=oW q s.len;exact⟨a,ob,by simp[hi],hN,h0,JN.mono c⟩
  ·obtain⟨M,o',h1,h2,h4⟩:=U j e (Ne.symm ne) p;have h3:H0 M=none:=by
    obtain⟨a2,_,k1,_,k3,_⟩:=s.ow j e p;rw[h1]at k1;cases k1;exact k3
   exact⟨M,o',by rw[vC ne];exact h1,h2,h3,h4.mono c⟩
 ·rcases bg q with⟨rfl,p⟩|⟨ne,p⟩
  ·rcases bg q' with⟨rfl,O⟩|⟨g,O⟩
   ·rfl
   ·rw[vC g]at h2;have N6:V.ref a=V.ref b:=by
     rcases bg h1 with⟨_,z⟩|⟨z,_⟩
     ·exact vK z
     ·exact absurd rfl z
    cases N6
    exact absurd h2 (G k f O)
  ·rcases bg q' with⟨rfl,O⟩|⟨g,O⟩
   ·rw[vC ne]at h1;have Hu:V.ref a=V.ref b:=by
     rcases bg h2 with⟨_,z⟩|⟨z,_⟩
     ·exact vK z
     ·exact absurd rfl z
    cases Hu
    exact absurd h1 (G j e p)
   ·rw[vC ne]at h1;rw[vC g]at h2;exact s.inj j k b e f p O h1 h2
end
inductive Res where
 |nx (ρ:Env)|rt (d:D) (b:Bool)|bk (ρ:Env)|ct (ρ:Env)
abbrev FS:=Env->Option Res
def G6 (K:Frag)(B0 H0:Hp)(E:Ends):Res->Prop
 |.nx ρ=>∀σ H,qB K B0 H0 H σ ρ->E.nx σ H
 |.rt d b=>∀v H N,Ext B0 N H0 H->Is K N v d->(b=true->F0 K H0 N v d)->E.rt v H
 |.bk ρ=>∀σ H,qB K B0 H0 H σ ρ->E.bk σ H
 |.ct ρ=>∀σ H,qB K B0 H0 H σ ρ->E.ct σ H
def ja (K:Frag)(g:FS):TS:=λE σ H=>∃(B0 H0:Hp)(ρ:Env)(r:Res),qB K B0 H0 H σ ρ/\g ρ=some r/\G6 K B0 H0 E r
section
variable {K:Frag}{B0 H0 N H H':Hp}{σ:St}{ρ:Env}{E:Ends}
theorem cJ.writeB (s:cJ K B0 H0 N H σ ρ)(hi:ρ[i]? = some (some (d,true)))(g:σ[i]? = some (some (V.ref a)))(h:Bx K (cD N (own σ ρ)) ob dd):
  cJ K B0 H0 (upd N a ob) (upd H a ob) σ (ρ.set i (some (dd,true))):=by
 have T:own σ ρ a:=⟨i,d,hi,g⟩;obtain⟨ws,hw,h0⟩:=s.owned T;have b0:B0 a=none:=s.bh.free h0;have o:∀b,own σ (ρ.set i (some (dd,true))) b↔own σ ρ b:=λb=>by
  constructor
  ·rintro⟨j,e,M,G⟩;rcases bg M with⟨rfl,p⟩|⟨_,p⟩
   ·exact⟨i,d,hi,G⟩
   ·exact⟨j,e,p,G⟩
  ·rintro⟨j,e,M,G⟩;by_cases z:i=j
   ·subst z;exact⟨i,dd,by rw[List.getElem?_set_self (vV hi).1],G⟩
   ·exact⟨j,e,by rw[vC z];exact M,G⟩
 have c:aA (cD N (own σ ρ)) (cD (upd N a ob) (own σ (ρ.set i (some (dd,true))))):=cR λb u e q=>by
  have ne:b≠a:=λz=>q (z ▸ T);exact⟨by rw[ar ne];exact e,λz=>q ((o b).mp z)⟩
 refine⟨s.bh,s.tb,⟨λb u e=>?_,λb u e=>?_,λb u e=>?_,λb u e=>?_⟩,by rw[List.length_set];exact s.len,λj e q=>?_,λj e q=>?_,λj k b e f q q' h1 h2=>?_⟩
 ·rw[ar (λz=>by subst z;rw[h0]at e;cases e)];exact s.ext.hh _ _ e
 ·rw[ar (λz=>by subst z;rw[b0]at e;cases e)];exact s.ext.bn _ _ e
 ·by_cases z:b=a
  ·subst z;rw[aq]at e ⊢;exact e
  ·rw[ar z]at e ⊢;exact s.ext.nh _ _ e
 ·by_cases z:b=a
  ·subst z;exact .inr h0
  ·rw[ar z]at e;exact s.ext.new _ _ e
 ·rcases bg q with⟨rfl,p⟩|⟨ne,p⟩
  ·cases p
  ·obtain⟨v,h1,h2⟩:=s.sh j e p;exact⟨v,h1,h2.mono c⟩
 ·rcases bg q with⟨rfl,p⟩|⟨ne,p⟩
  ·cases p
   exact⟨a,ob,g,aq,h0,h.mono c⟩
  ·obtain⟨U,o',h1,h2,h3,h4⟩:=s.ow j e p;have na:U≠a:=λz=>by subst z;exact ne (s.inj i j _ d e hi p g h1)
   exact⟨U,o',h1,by rw[ar na];exact h2,h3,h4.mono c⟩
 ·have get:∀ {j:Nat}{e:D},(ρ.set i (some (dd,true)))[j]? = some (some (e,true))->∃O,ρ[j]? = some (some (O,true)):=λ{j e} q=>by
   rcases bg q with⟨rfl,p⟩|⟨ne,p⟩
   ·exact⟨d,hi⟩
   ·exact⟨e,p⟩
  obtain⟨O,M⟩:=get q;obtain⟨f',G⟩:=get q';exact s.inj j k b O f' M G h1 h2
theorem cJ.write (s:cJ K B0 H0 N H σ ρ)(hi:ρ[i]? = some (some (d,true)))(g:σ[i]? = some (some (V.ref a)))(h:IsL K (cD N (own σ ρ)) vs ds):
  cJ K B0 H0 (upd N a (.lst vs)) (upd H a (.lst vs)) σ (ρ.set i (some (.lst ds,true))):=s.writeB hi g (.lst h)
theorem cJ.tups (s:cJ K B0 H0 N H σ ρ):∀a vs,ga K N a vs->ga K (cD N (own σ ρ)) a vs:=λa vs h=>by
 have g:∀u,N a=some u->¬boxed u->cD N (own σ ρ) a=some u:=λu e hu=>by
  rw[bU λz=>?_];exact e;obtain⟨M,⟨q,G⟩,_⟩:=s.owned z;rw[e]at q;cases q;exact hu G
 rcases h with (h|⟨o,h⟩)|h
 ·exact .inl (.inl (g _ h (λq=>q)))
 ·exact .inl (.inr ⟨o,g _ h (λq=>q)⟩)
 ·exact .inr h
theorem cJ.flat (s:cJ K B0 H0 N H σ ρ)(h:Is K N v d)(n:aT d=true):Is K (cD N (own σ ρ)) v d:=h.keepT s.tups n
theorem cJ.rebase (s:cJ K B0 H0 N H σ ρ):cJ K (cD N (own σ ρ)) (cD H (own σ ρ)) N H σ ρ :=
 ⟨cR λa o e q=>⟨s.ext.nh _ _ e,q⟩,s.tbC,⟨aZ,aZ,s.ext.nh,λa o e=>by
  by_cases q:own σ ρ a
  ·exact .inr (uq q)
  ·exact .inl (by rw[bU q];exact e)⟩,s.len,s.sh,λi d q=>by
   obtain⟨a,o,h1,h2,_,h4⟩:=s.ow i d q;exact⟨a,o,h1,h2,uq ⟨i,d,q,h1⟩,h4⟩,s.inj⟩
theorem cJ.unbase (s:cJ K B0 H0 N H σ ρ)(t:cJ K (cD N (own σ ρ)) (cD H (own σ ρ)) N' H' σ' ρ'):cJ K B0 H0 N' H' σ' ρ':=by
 have h0:aA H0 (cD H (own σ ρ)):=λa o e=>by
  rw[bU λz=>?_];exact s.ext.hh _ _ e;obtain⟨_,_,q⟩:=s.owned z;rw[q]at e;cases e
 have g:aA B0 (cD N (own σ ρ)):=λa o e=>by
  rw[bU λz=>?_];exact s.ext.bn _ _ e;obtain⟨_,_,q⟩:=s.owned z;rw[s.bh _ _ e]at q;cases q
 refine⟨s.bh,s.tb,⟨h0.trans t.ext.hh,g.trans t.ext.bn,t.ext.nh,λa o e=>?_⟩,t.len,t.sh,λi d q=>?_,t.inj⟩
 ·rcases t.ext.new a o e with z|z
  ·exact s.ext.new a o (aZ _ _ z)
  ·exact .inr (h0.free z)
 ·obtain⟨a,o,h1,h2,h3,h4⟩:=t.ow i d q;exact⟨a,o,h1,h2,h0.free h3,h4⟩
theorem cJ.based (t:cJ K B0 H0 N H σ ρ):aA B0 (cD N (own σ ρ)):=λa o e=>by
 rw[bU λz=>?_];exact t.ext.bn _ _ e;obtain⟨_,_,q⟩:=t.owned z;rw[t.bh _ _ e]at q;cases q
@[simp] noncomputable def a0 (g h:FS):FS:=λρ=>match g ρ with|some (.nx ρ')=>h ρ'|r=>r
@[simp] noncomputable def bA:FS:=λρ=>some (.nx ρ)
@[simp] noncomputable def gb (c:FT)(g h:FS):FS:=λρ=>match c ρ with|some true=>g ρ|some false=>h ρ|none=>none
@[simp] noncomputable def br (f:FE):FS:=λρ=>(f ρ).map λx=>.rt x.1 x.2
@[simp] noncomputable def Lb:FS:=λ_=>some (.rt .non false)
@[simp] noncomputable def Lc (f:FE):FS:=λρ=>(f ρ).map λ_=>.nx ρ
@[simp] noncomputable def De:D->Bool
 |.dk _ _=>true
 |.dt _ _=>true
 |_=>false
@[simp] def jb (i:Nat):FS:=λρ=>match ρ[i]? with|some (some (d,b))=>some (.rt d (b && !De d))|_=>none
@[simp] def rO:D->Bool
 |.lst ds=>bj ds
 |_=>false
@[simp] def setE (ρ:Env)(i:Nat)(d:D)(b:Bool):Env :=
 if aT d=true then ρ.set i (some (d,false))else if b=true/\rO d=true then ρ.set i (some (d,true))else (unown ρ).set i (some (d,false))
@[simp] def aM (i:Nat)(f:FE):FS:=λρ=>(f ρ).map λx=>.nx (setE ρ i x.1 x.2)
@[simp] def Ld (i:Nat)(f:FE):FS:=λρ=>(f (k9 ρ)).map λx=>.nx (ρ.set i (some (x.1,false)))
@[simp] def lK (i:Nat)(f:FE):FS:=λρ=>match ρ[i]? with
 |some (some (.lst ds,true))=>(f ρ).bind λx=>if aT x.1=true/\ds.length<sizeLine then some (.nx (ρ.set i (some (.lst (ds++[x.1]),true))))else none
 |_=>none
theorem B7 (q:ja K (a0 g h) E σ H):yU (ja K g) (ja K h) E σ H:=by
 obtain⟨B0,H0,ρ,r,s,e,p⟩:=q;unfold a0 at e;cases G:g ρ with
 |none=>rw[G]at e;cases e
 |some M=>
  rw[G]at e;cases M with
  |nx ρ'=>exact⟨B0,H0,ρ,.nx ρ',s,G,λO H' s'=>⟨B0,H0,ρ',r,s',e,p⟩⟩
  |rt d b=>cases e;exact⟨B0,H0,ρ,_,s,G,p⟩
  |bk ρ'=>cases e;exact⟨B0,H0,ρ,_,s,G,p⟩
  |ct ρ'=>cases e;exact⟨B0,H0,ρ,_,s,G,p⟩
theorem zt (q:ja K bA E σ H):mm E σ H:=by
 obtain⟨B0,H0,ρ,r,s,e,p⟩:=q;cases e
 exact p σ H s
theorem qB.grown (s:cJ K B0 H0 N H σ ρ)(h:aA H H'):qB K B0 H0 H' σ ρ:=⟨N,s.grow (.grow s.ext.nh h)⟩
theorem Es (q:ja K (gb c g h) E σ H):ua (qA K c) (ja K g) (ja K h) E σ H:=by
 obtain⟨B0,H0,ρ,r,⟨N,s⟩,e,p⟩:=q;unfold gb at e;cases G:c ρ with
 |none=>rw[G]at e;cases e
 |some b=>
  rw[G]at e;refine⟨N,ρ,b,s.ext.nh,s.rep,G,λM h1=>?_⟩;cases b with
  |true=>rw[if_pos rfl];exact⟨B0,H0,ρ,r,.grown s h1,e,p⟩
  |false=>rw[if_neg (by decide)];exact⟨B0,H0,ρ,r,.grown s h1,e,p⟩
theorem B8 (q:ja K (br f) E σ H):Bh (tD K f) E σ H:=by
 obtain⟨B0,H0,ρ,r,⟨N,s⟩,e,p⟩:=q;obtain⟨x,ex,e⟩:=oY e;subst e;exact⟨N,ρ,x.1,x.2,s.ext.nh,s.rep,ex,λv g N1 G M f1=>p v g N1 (s.ext.trans G) M λb=>(f1 b).back s.ext.hh⟩
theorem zu (q:ja K (jb i) E σ H):Bh (xI i) E σ H:=by
 obtain⟨B0,H0,ρ,r,⟨N,s⟩,e,p⟩:=q;unfold jb at e;split at e
 ·rename_i d b ei;cases e
  cases b with
  |false=>
   obtain⟨v,h1,h2⟩:=s.sh i d ei;exact⟨v,h1,p v H N s.ext (h2.mono aZ) (by simp)⟩
  |true=>
   obtain⟨a,o,h1,h2,h3,h4⟩:=s.ow i d ei;cases h4 with
   |lst h4=>exact⟨_,h1,p _ H N s.ext (.lst (eK.of h2) (h4.mono aZ)) λ_=>⟨a,_,_,rfl,rfl,h3,h2,h4.mono aZ⟩⟩
   |dk hl h4=>exact⟨_,h1,p _ H N s.ext (.dk h2 hl (h4.mono aZ)) (by simp)⟩
   |dt hl h4=>exact⟨_,h1,p _ H N s.ext (.dt h2 hl (h4.mono aZ)) (by simp)⟩
 ·cases e
theorem cJ.setE (s:cJ K B0 H0 N H σ ρ)(x:Ext N N1 H H1)(h:Is K N1 v d)(f:b=true->F0 K H N1 v d):cJ K B0 H0 N1 H1 (σ.set i (some v)) (setE ρ i d b):=by
 have s1:=s.grow x;unfold DL.setE;by_cases hn:aT d=true
 ·rw[if_pos hn];exact s1.bind (s1.flat h hn)
 ·rw[if_neg hn];by_cases hb:b=true/\rO d=true
  ·rw[if_pos hb];obtain⟨es,rfl⟩:∃es,d=.lst es:=by cases d<;>first|exact⟨_,rfl⟩|(simp at hb)
   obtain⟨a,vs,ds,rfl,z,ha,M,hs⟩:=f hb.1;cases z
   have g:N a=none:=s.ext.nh.free ha;have O:¬own σ ρ a:=λz=>by obtain⟨T,⟨q,_⟩,_⟩:=s.owned z;rw[g]at q;cases q
   have c:aA (cD N (own σ ρ)) (cD N1 (λb=>own σ ρ b∨b=a)):=cR λb u e q=>⟨x.bn _ _ e,λz=>z.elim q λz=>by subst z;rw[g]at e;cases e⟩;refine s1.bindOwn M (s.ext.hh.free ha) (λj e q z=>O ⟨j,e,q,z⟩) (λj e _ q=>?_) (λj e _ q=>?_) (.lst (hs.keepT (λt ts st=>?_) hb.2))
   ·obtain⟨w,h1,h2⟩:=s.sh j e q;exact⟨w,h1,h2.mono c⟩
   ·obtain⟨U,o',h1,h2,_,h4⟩:=s.ow j e q;exact⟨U,o',h1,x.bn _ _ h2,h4.mono c⟩
   ·have G:∀u,N1 t=some u->¬boxed u->cD N1 (λb=>own σ ρ b∨b=a) t=some u:=λu e hu=>by
     rw[bU λz=>?_];exact e;rcases z with z|z
     ·obtain⟨T,⟨q,qb⟩,_⟩:=s1.owned z;rw[e]at q;cases q;exact hu qb
     ·subst z;rw[e]at M;cases M;exact hu trivial
    rcases st with (st|⟨o,st⟩)|st
    ·exact .inl (.inl (G _ st (λq=>q)))
    ·exact .inl (.inr ⟨o,G _ st (λq=>q)⟩)
    ·exact .inr st
  ·rw[if_neg hb];exact s1.unown.bind (h.mono λa o e=>by rw[bU oV];exact e)
theorem wl (q:ja K (aM i f) E σ H):xJ (tD K f) (gO i) E σ H:=by
 obtain⟨B0,H0,ρ,r,⟨N,s⟩,e,p⟩:=q;obtain⟨x,ex,e⟩:=oY e;subst e;exact⟨N,ρ,x.1,x.2,s.ext.nh,s.rep,ex,λv g N1 G M f1=>p _ g ⟨N1,s.setE G M f1⟩⟩
theorem B9 (q:ja K (lK i f) E σ H):∃(a:Addr)(us:List V),σ[i]? = some (some (V.ref a))/\H a=some (.lst us)/\rC (tD K f) Bn σ H λxs H2=>qy (.ref a) xs H2 λ_ M=>E.nx σ M:=by
 obtain⟨B0,H0,ρ,r,⟨N,s⟩,e,p⟩:=q;unfold lK at e;split at e
 ·rename_i ds ei;obtain⟨x,ex,e⟩:=oX e;split at e
  ·rename_i hx;cases e
   obtain⟨a,vs,g,z,h1,h2,h3,h4⟩:=s.owL i _ ei;cases z
   refine⟨a,vs,h1,s.ext.nh _ _ h2,N,ρ,x.1,x.2,s.ext.nh,s.rep,ex,λv H1 N1 G O f1=>⟨a,vs,v,rfl,rfl,G.hh _ _ (s.ext.nh _ _ h2),by rw[h4.length];exact hx.2,?_⟩⟩;have s1:=s.grow G;obtain⟨a',T,g,z,k1,k2,_,U⟩:=s1.owL i _ ei;cases z
   rw[h1]at k1;cases k1;rw[G.bn _ _ h2]at k2;cases k2;exact p σ _ ⟨_,s1.write ei h1 (U.append (.cons (s1.flat O hx.1) .nil))⟩
  ·cases e
 ·cases e
end
noncomputable def fR (c:FT)(g:FS):Nat->Env->Option Res
 |0,_=>none
 |n+1,ρ=>match c ρ with
  |some true=>match g ρ with
   |some (.nx ρ')=>fR c g n ρ'
   |some (.ct ρ')=>fR c g n ρ'
   |some (.bk ρ')=>some (.nx ρ')
   |r=>r
  |some false=>some (.nx ρ)
  |none=>none
theorem xY (q:ja K (fR c g n) E σ H):yW (qA K c) (ja K g) E σ H:=by
 obtain⟨B0,H0,ρ,r,s,e,p⟩:=q;refine⟨λm σ H=>∃ρ,qB K B0 H0 H σ ρ/\fR c g m ρ=some r,⟨n,ρ,s,e⟩,?_⟩;rintro m σ H ⟨ρ,⟨N,s⟩,e⟩;cases m with
 |zero=>cases e
 |succ m=>
  unfold fR at e;cases M:c ρ with
  |none=>rw[M]at e;cases e
  |some b=>
   rw[M]at e;refine⟨N,ρ,b,s.ext.nh,s.rep,M,λU h1=>?_⟩;cases b with
   |false=>rw[if_neg (by decide)];cases e;exact p σ U (.grown s h1)
   |true=>
    rw[if_pos rfl];refine⟨λσ H=>∃ρ,qB K B0 H0 H σ ρ/\fR c g m ρ=some r,λG H' w=>⟨m,Nat.lt_succ_self m,w⟩,?_⟩;cases O:g ρ with
    |none=>rw[O]at e;cases e
    |some T=>
     rw[O]at e;refine⟨B0,H0,ρ,T,.grown s h1,O,?_⟩;cases T with
     |nx ρ'=>exact λG H' s'=>⟨ρ',s',e⟩
     |ct ρ'=>exact λG H' s'=>⟨ρ',s',e⟩
     |bk ρ'=>cases e;exact λG H' s'=>p G H' s'
     |rt d b=>cases e;exact p
def my (K:Frag)(J:It)(B:Hp)(ds:List D):Prop:=∀(i:Nat)(H:Hp),aA B H ->
 (∀d,ds[i]? = some d->J.go i H/\∀x H',J.yld i H x H'->∃N,Ext B N H H'/\Is K N x d)/\(ds.length<=i->J.stop i H)
def Le (K:Frag)(f:FA):TI:=λσ H R=>∃(B:Hp)(ρ:Env)(ds:List D),aA B H/\dB K B σ ρ/\f ρ=some ds/\∀(J:It)(H' N:Hp),Ext B N H H'->my K J N ds->R J H'
abbrev FG:=D->Env->Option Env
def BA (K:Frag)(tg:FG)(g:TG):Prop:=∀(B0 H0 N H:Hp)(σ:St)(ρ ρ':Env)(v:V)(d:D)(Q:St->Hp->Prop),cJ K B0 H0 N H σ ρ->Is K (cD N (own σ ρ)) v d->tg d ρ=some ρ' ->
 (∀G H',qB K B0 H0 H' G ρ'->Q G H')->g v σ H Q
@[simp] noncomputable def dC (i:Nat):FG:=λd ρ=>some (ρ.set i (some (d,false)))
theorem dW:BA K (dC i) (gO i):=by
 intro B0 H0 N H σ ρ ρ' v d Q s h e k;cases e
 exact k _ H ⟨N,s.bind h⟩
noncomputable def dX (tg:FG)(g:FS):List D->Env->Option Res
 |[],ρ=>some (.nx ρ)
 |d::ds,ρ=>(tg d ρ).bind λG=>match g G with
  |some (.nx ρ')=>dX tg g ds ρ'
  |some (.ct ρ')=>dX tg g ds ρ'
  |some (.bk ρ')=>some (.nx ρ')
  |r=>r
@[simp] theorem zv (tg:FG)(g:FS)(ρ:Env):dX tg g [] ρ=some (.nx ρ):=by rw[dX]
@[simp] theorem iF (tg:FG)(g:FS)(d:D)(ds:List D)(ρ:Env):dX tg g (d::ds) ρ=(tg d ρ).bind λG=>match g G with
  |some (.nx ρ')=>dX tg g ds ρ'
  |some (.ct ρ')=>dX tg g ds ρ'
  |some (.bk ρ')=>some (.nx ρ')
  |r=>r:=by rw[dX]
@[simp] def jF (f:FA)(tg:FG)(g:FS):FS:=λρ=>(f (k9 ρ)).bind λds=>dX tg g ds ρ
theorem rP (ht:BA K tg t)(s1:cJ K B0 H0 N H1 σ ρ)(c:aA N1 (cD N (own σ ρ)))(J1:my K J N1 ds)(e:dX tg g ds ρ=some r)(p:G6 K B0 H0 E r):
  ∃W:Nat->Nat->St->Hp->Prop,(∃m,W 0 m σ H1)/\∀i m σ H,W i m σ H->(J.stop i H/\E.nx σ H)∨(J.go i H/\∃N:St->Hp->Prop,(∀G H',N G H'->∃m',m'<m/\W (i+1) m' G H')/\∀x H',J.yld i H x H'->t x σ H' λT H2=>ja K g { E with nx:=N,ct:=N,bk:=E.nx } T H2):=by
 refine⟨λi m σ H=>∃(N:Hp)(ρ:Env),cJ K B0 H0 N H σ ρ/\aA N1 (cD N (own σ ρ))/\m=ds.length - i/\i<=ds.length/\dX tg g (ds.drop i) ρ=some r,⟨ds.length,_,ρ,s1,c,rfl,uO _,e⟩,?_⟩;clear e s1 c;rintro i m σ H ⟨N,ρ,s,c,rfl,hi,e⟩;have hs:aA N1 H:=c.trans (aZ.trans s.ext.nh);obtain⟨j1,j2⟩:=J1 i H hs;by_cases M:i<ds.length
 ·obtain⟨go,yl⟩:=j1 ds[i] (by simp[M]);rw[List.drop_eq_getElem_cons M]at e;obtain⟨U,e1,e⟩:=oX e;refine .inr ⟨go,λG H'=>∃(N:Hp)(ρ:Env),cJ K B0 H0 N H' G ρ/\aA N1 (cD N (own G ρ))/\dX tg g (ds.drop (i+1)) ρ=some r,λG H' ⟨N',ρ',s',c',e'⟩=>⟨_,by omega,N',ρ',s',c',rfl,M,e'⟩,λx H' y=>?_⟩;obtain⟨N2,O,i2⟩:=yl x H' y;have x3:Ext (cD N (own σ ρ)) (join (cD N (own σ ρ)) N2) H H':=by
   refine⟨O.hh,cZ,λa o e=>?_,λa o e=>?_⟩
   ·cases q:cD N (own σ ρ) a with
    |some u=>rw[cZ _ _ q]at e;cases e;exact O.hh _ _ (s.ext.nh _ _ (aZ _ _ q))
    |none=>rw[cK q]at e;exact O.nh _ _ e
   ·cases q:cD N (own σ ρ) a with
    |some u=>rw[cZ _ _ q]at e;cases e;exact .inl rfl
    |none=>
     rw[cK q]at e;rcases O.new a o e with z|z
     ·rw[c _ _ z]at q;cases q
     ·exact .inr z
  obtain⟨s2,c2⟩:=s.growH x3;have c3:aA N2 (join (cD N (own σ ρ)) N2):=λa o e=>by
   rcases O.new a o e with z|z
   ·exact cZ _ _ (c _ _ z)
   ·rw[cK ((aZ.trans s.ext.nh).free z)];exact e
  have i3:=i2.mono (c3.trans c2);have c4:aA N1 (cD (join N (join (cD N (own σ ρ)) N2)) (own σ ρ)):=(O.bn.trans c3).trans c2;refine ht _ _ _ _ _ _ _ _ _ _ s2.rebase i3 e1 λT H2 ⟨N4,s4⟩=>?_;cases eg:g U with
  |none=>rw[eg]at e;cases e
  |some r1=>
   rw[eg]at e;refine⟨_,_,U,r1,⟨N4,s4⟩,eg,?_⟩;have back:∀ {G:St}{H':Hp}{ρ':Env}{N':Hp},cJ K _ _ N' H' G ρ'->cJ K B0 H0 N' H' G ρ'/\aA N1 (cD N' (own G ρ')):=λt=>⟨s2.unbase t,c4.trans t.based⟩;cases r1 with
   |nx ρ'=>exact λG H' ⟨N',t⟩=>⟨N',ρ',(back t).1,(back t).2,e⟩
   |ct ρ'=>exact λG H' ⟨N',t⟩=>⟨N',ρ',(back t).1,(back t).2,e⟩
   |bk ρ'=>cases e;exact λG H' ⟨N',t⟩=>p G H' ⟨N',(back t).1⟩
   |rt d b=>
    cases e
    intro v H' N' x' i' f';have y:=s2.rebase.ext;have h0:aA H0 (cD H' (λ_=>False)):=λa o e=>by rw[bU (λz=>z)];exact x'.hh _ _ (by
     rw[bU λz=>?_];exact s2.ext.hh _ _ e;obtain⟨_,_,q⟩:=s2.owned z;rw[q]at e;cases e)
    have Pj:aA H0 (cD H' (λ_=>False)):=h0;have hH:aA H0 (cD H' (λ_=>False)):=h0;have hc:∀a,cD H' (λ_=>False) a=H' a:=λa=>bU (λz=>z);have hb:aA H0 (cD _ (own σ ρ)):=λa o e=>by
     rw[bU λz=>?_];exact s2.ext.hh _ _ e;obtain⟨_,_,q⟩:=s2.owned z;rw[q]at e;cases e
    have bb:aA B0 (cD _ (own σ ρ)):=λa o e=>by
     rw[bU λz=>?_];exact s2.ext.bn _ _ e;obtain⟨_,_,q⟩:=s2.owned z;rw[s2.bh _ _ e]at q;cases q
    refine p v H' N' ⟨hb.trans x'.hh,bb.trans x'.bn,x'.nh,λa o e=>?_⟩ i' λz=>(f' z).back hb;rcases x'.new a o e with z|z
    ·exact s2.ext.new a o (aZ _ _ z)
    ·exact .inr (hb.free z)
 ·have ei:i=ds.length:=by omega
  subst ei;rw[List.drop_eq_nil_of_le (vT _)]at e;cases e
  exact .inl ⟨j2 (vT _),p σ H ⟨N,s⟩⟩
theorem BB (G:BA K tg t)(q:ja K (jF f tg g) E σ H):DT (Le K f) t (ja K g) E σ H:=by
 obtain⟨B0,H0,ρ,r,⟨N,s⟩,e,p⟩:=q;obtain⟨ds,M,e⟩:=oX e;refine⟨cD N (own σ ρ),k9 ρ,ds,aZ.trans s.ext.nh,s.repH,M,λJ U N1 O T=>?_⟩;obtain⟨s1,c⟩:=s.growH O;exact rP G s1 c T e p
def Il (K:Frag)(f:FA):TI:=λσ H R=>∃(B:Hp)(ρ:Env)(ds:List D),aA B H/\dB K B σ ρ/\f ρ=some ds/\∀(J:It)(H' N:Hp),Ext B N H H'->(∀g,my K J g ds)->R J H'
@[simp] def mz (f:FA)(tg:FG)(g:FS):FS:=λρ=>(f ρ).bind λds=>dX tg g ds ρ
theorem zw (G:BA K tg t)(q:ja K (mz f tg g) E σ H):DT (Il K f) t (ja K g) E σ H:=by
 obtain⟨B0,H0,ρ,r,⟨N,s⟩,e,p⟩:=q;obtain⟨ds,M,e⟩:=oX e;refine⟨N,ρ,ds,s.ext.nh,s.rep,M,λJ U N1 O T=>?_⟩;exact rP G (s.grow O) (aA.refl _) (T _) e p
end DL
namespace DL
open PySem PySem.Spec PyProof.Rows L2
abbrev JE (X:Cx)(e:Expr)(f:FE):Prop:=PE X e (tD X.K f)
abbrev JT (X:Cx)(e:Expr)(f:FT):Prop:=PT X e (qA X.K f)
abbrev JW (X:Cx)(e:Expr)(f:FT):Prop:=PW X e (qA X.K f)
abbrev JA (X:Cx)(es:List Expr)(f:FA):Prop:=PA X es (F1 X.K f)
abbrev JS (X:Cx)(st:Stmt)(g:FS):Prop:=PS X st (ja X.K g)
abbrev o0 (X:Cx)(st:List Stmt)(g:FS):Prop:=o3 X st (ja X.K g)
abbrev JI (X:Cx)(tg g:Expr)(f:FA):Prop:=PI X tg g (Le X.K f)
def Et (M:Model)(A:Around)(G:List Expr)(O:Expr)(env:PySem.Env)(T:Value)(E:Value->Shared->Prop)(P:Shared->Prop):Shared->Prop :=
 wpAny M A (forIn G true λc r=>if r=true then do let ok ←isTrue c env (eval c env);pure (ForInStep.yield ok)else pure (ForInStep.yield r))
  (λok g=>if ok=true then wpAny M A (eval O env) (λx=>wpAny M A (call (.builtin "list.append") [T,x]) (λ_=>P) E) E g else P g) E
theorem qC {E:Value->Shared->Prop}(hE:∀x s,¬E x s)(I:Nat->Shared->Prop)
  (O:∀n s,I n s->wpAny (model prog w) A (pyNext it) (λr g=>match r with
   |none=>R (.ok .next) g
   |some v=>wpAny (model prog w) A (letOwnedTupleGo vz it v) (λ_=>wpAny (model prog w) A (assign vz env v) (λ_=>Et (model prog w) A v0 rq env xD E λs=>∃m,m<n/\I m s) E) E g) E s)
  (n:Nat) (h:I n s):codeAny (model prog w) A (.compLoop (.ListComp rq [⟨vz,dP,v0,0⟩] scope pos) 0 it xD env) R s:=by
 refine codeAny_loop rfl I (λn s hI=>?_) n h;show wpAny _ A ((compTurn (.ListComp rq [⟨vz,dP,v0,0⟩] scope pos) 0 it xD env).onRaise (λx=>do noteFrame x env;theTreesLotGoes x)) _ _ s;refine wpAny_noted (wpAny_mono (E:=E) ?_ (λ_ _ q=>q) λ_ _ z=>(hE _ _ z).elim);rw[compTurn_list];refine wX (wpAny_standAt (wX (bF (O n s hI) λr g G=>?_)));cases r with
 |none=>exact wY G
 |some v=>
  refine wX (bF G λ_ g G=>wX (bF G λ_ s₂ T=>wX (bF T λok s₃ M=>?_)));cases ok with
  |false=>exact wY ⟨rfl,M⟩
  |true=>exact wX (wX (bF M λx s₄ U=>wX (bF U λ_ s₅ h₅=>wY (wY ⟨rfl,h₅⟩))))
theorem Ext.upd (x:Ext B N H H')(h:H a=none)(g:N a=none):Ext B N H (upd H' a o) :=
 ⟨λb u e=>by rw[ar (λz=>by subst z;rw[h]at e;cases e)];exact x.hh _ _ e,x.bn,λb u e=>by rw[ar (λz=>by subst z;rw[g]at e;cases e)];exact x.nh _ _ e,x.new⟩
noncomputable abbrev fT (X:Cx)(N':List Str)(scope:Scope)(cl:List (Str×Addr))(C:Addr)(g:Shared)(G:Hp)(fp:List Addr):Cx :=
 { X with N:=N',s₀:=g,H₀:=G,env:=compEnvC scope cl C X.env,outer:=X.stack,stack:=X.stack,ex:=fp,fn:=λ_=>false,pn:=[],xe:=λ_ _=>False }
inductive kx (X:Cx)(N':List Str)(scope:Scope)(cl:List (Str×Addr)):Nat->List Nat->Prop where
 |nil {j:Nat}(h:N'.length=j):kx X N' scope cl j []
 |cons {j i:Nat}{r:List Nat}{x:Str}(h1:N'[j]? = some x) (h2:X.N[i]? = some x) (h3:X.env.kindOf x=some .cell∨X.env.kindOf x=some .free)
   (h4:(relabel scope X.env).names.lookup x=some .cell∨(relabel scope X.env).names.lookup x=some .free) (h5:cl.lookup x=X.env.cells.lookup x) (t:kx X N' scope cl (j+1) r):kx X N' scope cl j (i::r)
theorem kx.len:∀ {j:Nat}{cap:List Nat},kx X N' scope cl j cap->N'.length=j+cap.length
 |_,_,.nil h=>by rw[h];rfl
 |j,i::r,.cons _ _ _ _ _ t=>by rw[t.len,vE];omega
theorem kx.get:∀ {j:Nat}{cap:List Nat}{k i:Nat},kx X N' scope cl j cap->cap[k]? = some i->∃x,N'[j+k]? = some x/\X.N[i]? = some x/\(X.env.kindOf x=some .cell∨X.env.kindOf x=some .free) /\
  ((relabel scope X.env).names.lookup x=some .cell∨(relabel scope X.env).names.lookup x=some .free)/\cl.lookup x=X.env.cells.lookup x
 |_,_,_,_,.nil _,e=>by simp at e
 |j,_,0,_,.cons h1 h2 h3 h4 h5 _,e=>by simp at e;subst e;exact⟨_,h1,h2,h3,h4,h5⟩
 |j,_,k+1,i,.cons _ _ _ _ _ t,e=>by
  obtain⟨x,q,r⟩:=t.get (k:=k) (i:=i) (by simpa using e);exact⟨x,by rw[show j+(k+1)=j+1+k by omega];exact q,r⟩
structure CompSc (X:Cx)(scope:Scope)(cl:List (Str×Addr)):Prop where
 clos:closureFor scope X.env=pure cl
 nocell:∀y∈scope.names,y.2≠.cell
 kind:scope.kind=.function
 names:∀y∈scope.names,y.2=.local->scope.names.lookup y.1=some .local
 sub:∀x c,cl.lookup x=some c->X.env.cells.lookup x=some c
 has:∀x,((relabel scope X.env).names.lookup x=some .cell∨(relabel scope X.env).names.lookup x=some .free)->∃c,cl.lookup x=some c
noncomputable def cE:List (Str×NameKind)->List (Str×Addr)->List (Str×Addr)->List (Str×Addr)
 |[],_,cs=>cs
 | (n,k)::r,cells,cs=>cE r cells (if k == .free then (match cells.lookup n with|some c=>(n,c)::cs|none=>cs)else cs)
theorem oZ:∀(names:List (Str×NameKind))(cs:List (Str×Addr)),(∀y∈names,y.2=.free->(env.cells.lookup y.1).isSome=true) ->
    (do let mut cs:=cs
        for (name,kind)in names do
          if kind == .free then cs:=(name,←cellOf env name)::cs
        return cs:Sem (List (Str×Addr)))=pure (cE names env.cells cs):=by
  intro names;induction names with
  |nil=>intro cs _;rfl
  |cons y r M=>
    intro cs h;obtain⟨n,k⟩:=y;have g:=λcs=>M cs λy hy=>h y (mZ _ hy);by_cases hk:k=.free
    . subst hk;have hc:=h (n,.free) mX rfl;cases q:env.cells.lookup n with
      |none=>rw[q]at hc;cases hc
      |some c=>
        have G:cE ((n,.free)::r) env.cells cs=cE r env.cells ((n,c)::cs):=by
          rw[cE,q];rfl
        rw[G,←g ((n,c)::cs)];have e2:cellOf env n=pure c:=by unfold cellOf;rw[q]
        simp only[List.forIn_cons,beq_self_eq_true,if_true,e2];rfl
    . have hb:(k == NameKind.free)=false:=by simpa using hk
      have G:cE ((n,k)::r) env.cells cs=cE r env.cells cs:=by rw[cE,hb];rfl
      rw[G,←g cs];simp only[List.forIn_cons,hb,uW,if_false];rfl
theorem jG:∀(names:List (Str×NameKind))(cs:List (Str×Addr)),(∀y d,cs.lookup y=some d->cells.lookup y=some d)->(cE names cells cs).lookup x=some c->cells.lookup x=some c
 |[],cs,h,e=>h x c e
 | (n,k)::r,cs,h,e=>by
  rw[cE]at e;refine jG r _ (λy d q=>?_) e;split at q
  ·split at q
   ·rename_i G g;rw[List.lookup_cons]at q;split at q
    ·rename_i hy;cases q
     rw[eq_of_beq hy];exact g
    ·exact h y d q
   ·exact h y d q
  ·exact h y d q
theorem pb:∀(names:List (Str×NameKind))(cs:List (Str×Addr)),(cs.lookup x).isSome=true->((cE names cells cs).lookup x).isSome=true
 |[],cs,h=>h
 | (n,k)::r,cs,h=>by
  rw[cE];refine pb r _ ?_;split
  ·split
   ·rw[List.lookup_cons];split
    ·rfl
    ·exact h
   ·exact h
  ·exact h
theorem jH:∀(names:List (Str×NameKind))(cs:List (Str×Addr)),(x,NameKind.free)∈names->(cells.lookup x).isSome=true->((cE names cells cs).lookup x).isSome=true
 | (n,k)::r,cs,hm,hc=>by
  rw[cE];rcases vP hm with e|e
  ·cases e
   refine pb r _ ?_;cases q:cells.lookup x with
   |none=>rw[q]at hc;cases hc
   |some c=>simp
  ·exact jH r _ e hc
theorem dD {α:Type}{x:Str}{k:α}:∀ {l:List (Str×α)},l.lookup x=some k->(x,k)∈l
 | (n,j)::r,h=>by
  rw[List.lookup_cons]at h;split at h
  ·rename_i e;cases h
   rw[eq_of_beq e];exact mX
  ·exact mZ _ (dD h)
theorem Eu {X:Cx}{scope:Scope}(h1:∀y∈scope.names,y.2≠.cell)(h2:scope.kind=.function)(h3:∀y∈scope.names,y.2=.local->scope.names.lookup y.1=some .local)(g:(scope.names.all λy=>!(y.2 == NameKind.free) || (X.env.cells.lookup y.1).isSome)=true):
  CompSc X scope (cE scope.names X.env.cells []):=by
 have h4:∀y∈scope.names,y.2=.free->(X.env.cells.lookup y.1).isSome=true:=λy hy e=>by
  have:=uS g y hy;rw[e]at this;simpa using this
 have frees:∀x,((relabel scope X.env).names.lookup x=some .cell∨(relabel scope X.env).names.lookup x=some .free)->(x,NameKind.free)∈scope.names:=λx h=>by
  have:∃k,(x,k)∈(relabel scope X.env).names/\(k=.cell∨k=.free):=by
   rcases h with h|h
   ·exact⟨_,dD h,.inl rfl⟩
   ·exact⟨_,dD h,.inr rfl⟩
  obtain⟨k,hm,hk⟩:=this;obtain⟨⟨n,j⟩,hj,e⟩:=vO hm;dsimp only at e;split at e
  ·rename_i hc;rw[vD,vD]at hc;cases e
   rw[←eq_of_beq hc.1.1];exact hj
  ·cases e
   rcases hk with rfl|rfl
   ·exact absurd rfl (h1 _ hj)
   ·exact hj
 exact⟨oZ scope.names [] h4,h1,h2,h3,λx c e=>jG scope.names [] (λy d q=>by cases q) e,λx h=>by
  have:=jH (x:=x) scope.names [] (frees x h) (h4 _ (frees x h) rfl);exact uV this⟩
theorem lS {scope:Scope}{cells:List (Str×Addr)}{x:Str}(h:(x,NameKind.free)∈scope.names)(hc:(cells.lookup x).isSome=true):(cE scope.names cells []).lookup x=cells.lookup x:=by
 obtain⟨c,e⟩:=uV (jH (x:=x) scope.names [] h hc);rw[e,jG scope.names [] (λy d q=>by cases q) e]
noncomputable def o7 (nT:Nat)(cap:List Nat)(σ:St):St:=List.replicate nT none++cap.map λi=>(σ[i]?).join
noncomputable def cL (nT:Nat)(cap:List Nat)(ρ:Env):Env:=List.replicate nT none++cap.map λi=>match ρ[i]? with|some (some (d,_))=>some (d,false)|_=>none
theorem qD {α:Type}{nT:Nat}{cap:List Nat}{f:Nat->Option α}{j:Nat}{v:α}(h:(List.replicate nT none++cap.map f)[j]? = some (some v)):∃k i,j=nT+k/\cap[k]? = some i/\f i=some v:=by
 by_cases hj:j<nT
 ·rw[List.getElem?_append_left (by simpa using hj),List.getElem?_replicate,if_pos hj]at h;cases h
 ·rw[List.getElem?_append_right (by simpa using Nat.not_lt.mp hj),List.length_replicate,vB]at h;obtain⟨i,h1,h2⟩:=oY h;exact⟨j - nT,i,by omega,h1,h2⟩
theorem BC {α:Type}{nT:Nat}{cap:List Nat}{f:Nat->Option α}{k i:Nat}{v:α}(h1:cap[k]? = some i)(h2:f i=some v):(List.replicate nT none++cap.map f)[nT+k]? = some (some v):=by
 rw[List.getElem?_append_right (by simp),List.length_replicate,vB,Nat.add_sub_cancel_left,h1];simp[h2]
theorem dB.caps {K:Frag}{B:Hp}{σ:St}{ρ:Env}{nT:Nat}{cap:List Nat}(h:dB K B σ ρ):dB K B (o7 nT cap σ) (cL nT cap ρ):=⟨h.tb,λj d b q=>by
 obtain⟨k,i,rfl,h1,h2⟩:=qD q;split at h2
 ·rename_i d' G e;cases h2
  obtain⟨v,g1,g⟩:=h.at' i _ _ e;exact⟨v,BC h1 (by rw[g1];rfl),g⟩
 ·cases h2⟩
noncomputable def eM (tg:FG)(c:FT)(fe:FE)(ρ:Env):List D->Option (List D)
 |[]=>some []
 |d::r=>(tg d ρ).bind λg=>(c g).bind λb=>if b=true then (fe g).bind λx=>(eM tg c fe ρ r).map (x.1 :: ·)else eM tg c fe ρ r
@[simp] theorem F3 (tg:FG)(c:FT)(fe:FE)(ρ:Env):eM tg c fe ρ []=some []:=by rw[eM]
@[simp] theorem ur (tg:FG)(c:FT)(fe:FE)(ρ:Env)(d:D)(r:List D):eM tg c fe ρ (d::r)=(tg d ρ).bind λg=>(c g).bind λb=>if b=true then (fe g).bind λx=>(eM tg c fe ρ r).map (x.1 :: ·)else eM tg c fe ρ r:=by rw[eM]
@[simp] def bR (fi:FA)(nT:Nat)(cap:List Nat)(tg:FG)(c:FT)(fe:FE):FE:=λρ=>(fi ρ).bind λitems=>if items.length<=sizeLine then (eM tg c fe (cL nT cap ρ) items).map λds=>(.lst ds,true)else none
def Df (K:Frag)(n:Nat)(tg:FG)(g:TG):Prop:=∀(B H:Hp)(σ:St)(ρ M:Env)(v:V)(d:D)(Q:St->Hp->Prop),(∀i,i<n->ρ[i]? = some none)->dB K B σ ρ->aA B H->Is K B v d->tg d ρ=some M ->
 ρ.length=σ.length->(∀G,dB K B G M->(∀O,dB K O σ ρ->dB K O G ρ)->ρ.length=G.length->Q G H)->g v σ H Q
theorem rQ {K:Frag}{n i:Nat}(hi:i<n):Df K n (dC i) (gO i):=by
 intro B H σ ρ M v d Q cl rep s h e hl k;cases e
 have G:i<σ.length:=by
  have:=(vV (cl i hi)).1;omega
 refine k _ ⟨rep.tb,λj e b q=>?_⟩ ?_ (by simpa using hl)
 ·rcases bg q with⟨rfl,p⟩|⟨ne,p⟩
  ·cases p
   exact⟨v,by simp[G],h⟩
  ·obtain⟨w,h1,h2⟩:=rep.at' j e b p;exact⟨w,by rw[vC ne];exact h1,h2⟩
 ·intro O g;refine⟨g.tb,λj e b q=>?_⟩;obtain⟨w,h1,h2⟩:=g.at' j e b q;have ne:i≠j:=λz=>by subst z;rw[cl i hi]at q;cases q
  exact⟨w,by rw[vC ne];exact h1,h2⟩
def JC (X:Cx)(g:List Expr)(c:FT):Prop:=∀(aa:List (Addr×Obj))(s:Shared)(σ:St)(H:Hp)(Q:Bool->Hp->Prop),Inv X aa σ H s->qA X.K c σ H Q ->
 wq X (forIn g true λc r=>if r=true then do let ok ←isTrue c X.env (eval c X.env);pure (ForInStep.yield ok)else pure (ForInStep.yield r)) (TP X aa σ Q) X.xe s
@[simp] noncomputable def gR:FT:=λ_=>some true
theorem kB:JC X [] gR:=by
 intro aa s σ H Q I h;obtain⟨B,ρ,c,g,rep,e,q⟩:=h;cases e
 exact wpAny_tests_nil ⟨H,I,q H (.refl H)⟩
theorem hJ (h:JT X e f):JC X [e] f:=λaa s σ H Q I q=>wpAny_tests_one (h aa s σ H Q I q)
inductive CI (Y:Cx)(tn:Nat->Heap->Prop)(fp:List Addr)(N1 H2:Hp)(κ:Env)(a:Addr)(l:List D->Option (List D))(items ds:List D)(s:Shared):Nat->Prop
 |mk (i:Nat) (N:Hp) (vs:List V) (es r:List D) (σ:St) (H:Hp) (I:Inv Y [] σ H s) (ti:tn i s.heap) (hn:∀b∈fp,H b=none) (hi:i<=items.length) (rp:dB Y.K N1 σ κ) (hl:κ.length=σ.length)
   (x:Ext N1 N H2 H) (n0:N a=none) (h0:H a=some (.lst vs)) (vl:vs.length<=i) (iv:IsL Y.K N vs es) (er:l (items.drop i)=some r) (ed:es++r=ds):CI Y tn fp N1 H2 κ a l items ds s (items.length - i)
theorem Ext.both (x:Ext N1 N H2 H)(y:Ext N1 N' H H'):Ext N (join N N') H H'/\aA N' (join N N'):=by
 refine⟨⟨y.hh,cZ,λa o e=>?_,λa o e=>?_⟩,λa o e=>?_⟩
 ·cases z:N a with
  |some g=>rw[cZ _ _ z]at e;cases e;exact y.hh _ _ (x.nh _ _ z)
  |none=>rw[cK z]at e;exact y.nh _ _ e
 ·cases z:N a with
  |some g=>rw[cZ _ _ z]at e;cases e;exact .inl rfl
  |none=>
   rw[cK z]at e;exact(y.new a o e).elim (λG=>by rw[x.bn _ _ G]at z;cases z) .inr
 ·exact(y.new a o e).elim (λz=>cZ _ _ (x.bn _ _ z)) λz=>by rw[cK (x.nh.free z)];exact e
theorem Ext.off (x:Ext B N H H')(h:B a=none)(h':H a=some o):N a=none:=by
 cases z:N a with
 |none=>rfl
 |some u=>
  rcases x.new _ _ z with z|z
  ·rw[h]at z;cases z
  ·rw[h']at z;cases z
theorem xZ {Y:Cx}(O:Y.calm=true)(hE:∀x s,¬Y.xe x s)(hg:PG Y tg g)(Hv:Df Y.K nT mh g)(hc:JC Y v0 fc)(he:JE Y rq fe)(T:Turn Y.prog Y.w Y.K tg J fp it tn)(Hw:∀i,i<nT->κ[i]? = some none)
  (J1:my Y.K J N1 items) (hsz:items.length<=sizeLine) (hD:H2 a=none) (JR:∀H',(∀b∈fp,H' b=none)->∀b∈fp,k6 Y [] H' b)
  (hR:∀s4 M H' N vs,Inv Y [] M H' s4->Ext N1 N H2 H'->N a=none->H' a=some (.lst vs)->IsL Y.K N vs ds->R (.ok .next) s4) (h:CI Y tn fp N1 H2 κ a (eM mh fc fe κ) items ds s items.length):
  codeAny (model Y.prog Y.w) Y.A (.compLoop (.ListComp rq [⟨tg,dP,v0,0⟩] scope pos) 0 (.ref it) (.ref a) Y.env) R s:=by
 refine qC hE (λn s=>CI Y tn fp N1 H2 κ a (eM mh fc fe κ) items ds s n) (λn s' h=>?_) _ h;obtain⟨i,N,vs,es,r,M,H',I',ti,hn,hi,rp,iD,x,IC,Hx,D4,Hy,er,ID⟩:=h;have sH:aA N1 H':=x.bn.trans x.nh;by_cases xE:i<items.length
 ·obtain⟨go,yl⟩:=(J1 i H' sH).1 items[i] (by simp[xE]);refine bF (T.item Y rfl rfl rfl O i [] s' M H' Y.xe I' (JR _ hn) ti go) λq s4 ⟨u,eu,hq⟩=>?_;subst eu;refine bF hq λ_ s5 ⟨xv,H5,I5,rx,y5,t5,JM⟩=>?_;obtain⟨N5,x5,i5⟩:=yl xv H5 y5;obtain⟨x6,c5⟩:=x.both x5;have L9:(join N N5) a=none:=x6.off IC Hx;have IE:aA (join N N5) H5:=x6.nh;rw[List.drop_eq_getElem_cons xE]at er;unfold eM at er;obtain⟨ρ1,e1,er⟩:=oX er;obtain⟨b,e2,er⟩:=oX er;have gt:∀(s9:Shared)(U:St)(H9 N9:Hp)(Hz:List V)(IG r9:List D),Inv Y (k7 fp s5.heap) U H9 s9->dB Y.K N1 U κ->κ.length=U.length->Ext N1 N9 H2 H9->N9 a=none->H9 a=some (.lst Hz) ->
    Hz.length<=i+1->IsL Y.K N9 Hz IG->eM mh fc fe κ (items.drop (i+1))=some r9->IG++r9=ds->∃m,m<items.length - i/\CI Y tn fp N1 H2 κ a (eM mh fc fe κ) items ds s9 m:=λs9 U H9 N9 Hz IG r9 I9 N7 l9 x9 n9 h9 v9 i9 NA NB=>
   ⟨_,by omega,i+1,N9,Hz,IG,r9,U,H9,I9.pins_of λp hp=>by simp at hp,T.keep _ _ _ t5 λb hb o e=>(I9.pin (b,o) (mY _ (gv hb e))).1,λb hb=>by
    obtain⟨o,e,d⟩:=T.obj _ _ t5 b hb;exact(I9.pin (b,o) (mY _ (gv hb e))).2.1,xE,N7,l9,x9,n9,h9,v9,i9,NA,NB⟩
  refine bF (hg (k7 fp s5.heap) s5 M H5 xv u (λG H6=>H6=H5/\dB Y.K (join N N5) G ρ1/\dB Y.K N1 G κ/\κ.length=G.length) (I5.pinned (JR _ JM) (T.obj _ _ t5)) rx
   (Hv (join N N5) H5 M κ ρ1 xv items[i] _ Hw (rp.mono (x.bn.trans cZ)) IE (i5.mono c5) e1 iD λσ1 r1 r2 l1=>⟨rfl,r1,r2 N1 rp,l1⟩)) λ_ s6 ⟨G,H6,I6,eH,LA,LB,l6⟩=>?_
  subst eH;have JU:H6 a=some (.lst vs):=x5.hh _ _ Hx;refine bF (hc _ s6 G H6 (λc H7=>c=b/\aA H6 H7) I6 ⟨join N N5,ρ1,b,IE,LA,e2,λH7 h7=>⟨rfl,h7⟩⟩) λok s7 ⟨H7,I7,eb,h7⟩=>?_;subst eb;have x7:Ext N1 (join N N5) H2 H7:=(x.trans x6).trans (.grow IE h7);cases ok with
  |false=>
   rw[if_neg (by decide)]at er ⊢;exact gt s7 G H7 (join N N5) vs es r I7 LB l6 x7 L9 (h7 _ _ JU) (Nat.le_succ_of_le D4) (Hy.mono cZ) er ID
  |true=>
   rw[if_pos rfl]at er ⊢;obtain⟨y,e3,er⟩:=oX er;obtain⟨r',e4,er⟩:=oY er;subst er;refine bF (he _ s7 G H7 (λv H8=>∃N8,Ext (join N N5) N8 H7 H8/\Is Y.K N8 v y.1) I7 ⟨join N N5,ρ1,y.1,y.2,IE.trans h7,LA,e3,λv H8 N8 x8 i8 _=>⟨N8,x8,i8⟩⟩) λw8 s8 ⟨v8,H8,I8,r8,N8,x8,i8⟩=>?_;refine bF (k8 _ s8 G H8 (.ref a) [v8] (.ref a) [w8] (λ_ H9=>H9=upd H8 a (.lst (vs++[v8]))) I8 rfl (.cons r8 .nil) ⟨_,vs,v8,rfl,rfl,x8.hh _ _ (h7 _ _ JU),by omega,rfl⟩) λ_ s9 ⟨_,H9,I9,_,e9⟩=>?_;subst e9;have LC:=x8.off L9 (h7 _ _ JU);exact gt s9 G _ N8 (vs++[v8]) (es++[y.1]) r' I9 LB l6 ((x7.trans x8).upd hD LC) LC aq (by rw[vA,List.length_singleton];omega) ((Hy.mono (cZ.trans x8.bn)).append (.cons i8 .nil)) e4 (by rw[List.append_assoc];exact ID)
 ·obtain rfl:i=items.length:=by omega
  rw[List.drop_eq_nil_of_le (vT _)]at er;cases er
  rw[uR]at ID;subst ID;refine bF (T.done Y rfl rfl rfl O items.length [] s' M H' Y.xe I' (JR _ hn) ti ((J1 _ H' sH).2 (vT _))) λq s4 ⟨hq,I9⟩=>?_;subst hq;exact hR s4 M H' N vs I9 x IC Hx Hy
theorem m5 {X:Cx}(HA:X.calm=true){tg dP rq:Expr}{v0:List Expr}{scope:Scope}{pos:Pos}{cl:List (Str×Addr)}{N':List Str}{nT:Nat}{cap:List Nat}{mh:FG}{g:TG}{fc:FT}{fe:FE}
  (S:CompSc X scope cl) (cp:kx X N' scope cl nT cap)
  (hg:∀C s H fp,PG (fT X N' scope cl C s H fp) tg g) (Hv:Df X.K nT mh g) (hc:∀C s H fp,JC (fT X N' scope cl C s H fp) v0 fc) (he:∀C s H fp,JE (fT X N' scope cl C s H fp) rq fe)
  {aa:List (Addr×Obj)}{σ:St}{H2:Hp}{s2:Shared}{it:Addr}{fp:List Addr}{tn:Nat->Heap->Prop}{J:It}{N1:Hp}{ρ:Env}{items ds:List D}{E:Value->Shared->Prop}
  (I2:Inv X aa σ H2 s2) (T:Turn X.prog X.w X.K tg J fp it tn) (CJ:tn 0 s2.heap) (f2:∀b∈fp,k6 X aa H2 b)
  (rep:dB X.K N1 σ ρ) (sN:aA N1 H2) (J1:my X.K J N1 items) (hsz:items.length<=sizeLine) (ec:eM mh fc fe (cL nT cap ρ) items=some ds) {RR:Value->Addr->Result->Shared->Prop}
  (NC:∀(Dd C:Addr)(s':Shared)(H' N:Hp)(vs:List V)(m:Str->Option Value),H2 Dd=none->Inv X aa σ H' s'->s'.heap.Ns C m->k6 X aa H' C->Ext N1 N H2 H'->N Dd=some (.lst vs)->IsL X.K N vs ds->RR (.ref Dd) C (.ok .next) s'):
  wq X (newList []) (λxD U=>wq X (newFunctionEnv scope X.env.globals cl [] X.env.qual none .none (some X.env)) (λHB s₄=>
   codeAny (model X.prog X.w) X.A (.compStart (.ListComp rq [⟨tg,dP,v0,0⟩] scope pos) 0 (.ref it) xD { HB with scope:=relabel scope X.env }) (RR xD HB.locals) s₄) E U) E s2:=by
 refine wpAny_newObj_type (wpAny_newFunctionEnv S.nocell (by intro y hy;simp at hy) (λh₁ M O=>?_) S.kind);dsimp only at M O ⊢;have hD:H2 s2.heap.objs.size=none:=I2.fresh;have I3:Inv X aa σ (upd H2 s2.heap.objs.size (.lst [])) { s2 with heap:=s2.heap.push { cls:=.type "list",dict:=none,data:=.seq ([]:List Value).toArray } }:=I2.lnew (t':=s2.toks) (ys:=[]) (its:=[]) .nil (uO _);generalize hH3:s2.heap.push { cls:=.type "list",dict:=none,data:=.seq ([]:List Value).toArray }=g3 at M O I3 ⊢;have hC:g3.objs.size=s2.heap.objs.size+1:=by rw[←hH3,Heap.size_push]
 have CL:∀b o,s2.heap.get? b=some o->g3.get? b=some o:=λb o e=>hH3 ▸ vZ _ e;have G:∀b o,g3.get? b=some o->h₁.get? b=some o:=λb o e=>O.extBut b o (vS (vX e)) (vZ _ e);have ND:∀b o,g3.get? b=some o->b≠g3.objs.size:=λb o e=>vS (vX e);have LD:∀b∈fp,∃o,s2.heap.get? b=some o:=λb hb=>let ⟨o,e,_⟩:=T.obj 0 s2.heap CJ b hb;⟨o,e⟩;have NE:∀b∈fp,b≠s2.heap.objs.size:=λb hb=>let ⟨o,e⟩:=LD b hb;vS (vX e);have LF:∀b∈fp,b≠g3.objs.size:=λb hb=>let ⟨o,e⟩:=LD b hb;ND b o (CL b o e);have LG:∀x c,X.env.cells.lookup x=some c->c≠g3.objs.size:=λx c e=>by
  obtain⟨v,z⟩:=I3.cell x c e;exact vS z.lt
 have NF:(upd H2 s2.heap.objs.size (HO.lst [])) g3.objs.size=none:=I3.hok.fresh (vT _);have stk:∀b∈yN X.stack,∃o,s2.heap.get? b=some o:=λb hb=>by
  obtain⟨_,o,ho,_⟩:=(I2.stack).mem hb;exact⟨o,ho⟩
 -- the block's context
 let Y:Cx:=fT X N' scope cl g3.objs.size { s2 with heap:=g3 } (upd H2 s2.heap.objs.size (.lst [])) fp;have ok:Y.Ok:=by
  refine⟨I2.ok.mod,?_,I2.ok.glob,I2.ok.blt,vT _,λx y c e1 e2=>I2.ok.inj x y c (S.sub x c e1) (S.sub y c e2),λx h=>S.has x h,λx c h=>absurd h uY,I2.ok.hd,I2.ok.frames,.inl rfl,λb hb=>⟨LF b hb,λx c e=>(f2 b hb).2.2.2.2.1 x c (S.sub x c e)⟩,λb o e=>?_,?_,λb o e hb=>?_,λb hb hz=>?_,I3.stack,λb hb=>I3.stkFree b hb⟩
  ·show(relabel scope X.env).kind=.function;exact S.kind
  ·exact I3.bs b o e
  ·exact vR I3.ok.bsz I3.sz
  ·have h1:=(f2 b hb).2.2.2.1;rcases h1 with z|z
   ·exact I2.ok.noex b o e z
   ·exact absurd (vQ (vX e) (vR I2.ok.bsz z)) (Nat.lt_irrefl _)
  ·rcases vP (I2.stkSub b hz)with z|z
   ·exact(f2 b hb).2.1 z
   ·exact(f2 b hb).2.2.1 z
 have I4:Inv Y [] (o7 nT cap σ) (upd H2 s2.heap.objs.size (.lst [])) { s2 with heap:=h₁,toks:=s2.toks+([]:List (Str×Value)).length }:=by
  refine⟨ok,rfl,I2.bare,Un.kept G,⟨_,M,λj x v e1 e2 e3=>?_⟩,λx c e=>?_,NF,λx c e=>I3.freeC x c (S.sub x c e),λp hp=>absurd (show p∈[]from hp) List.not_mem_nil,I3.hok.kept G,?_⟩
  ·obtain⟨k,i,rfl,h1,h2⟩:=qD e2;obtain⟨y,g1,g2,LH,g4,g5⟩:=cp.get h1;have LI:N'[nT+k]? = some x:=e1;rw[g1]at LI;cases LI;have Hu:σ[i]? = some (some v):=by
    cases q:σ[i]? with
    |none=>rw[q]at h2;cases h2
    |some z=>rw[q]at h2;have:z=some v:=h2;rw[this]
   obtain⟨m,_,hl⟩:=I3.loc;obtain⟨u,r,l⟩:=hl i _ v g2 Hu (LH.elim (λz=>.inr (.inl z)) λz=>.inr (.inr z));refine⟨u,r,?_⟩;rcases l with⟨l,_⟩|⟨_,c,lc,ic⟩
   ·rcases LH with z|z<;>(rw[z]at l;cases l)
   ·refine .inr ⟨g4,c,by show cl.lookup _=some c;rw[g5];exact lc,?_⟩;obtain⟨o,ho,hd⟩:=ic;exact⟨o,G _ _ ho,hd⟩
  ·obtain⟨v,o,ho,hd⟩:=I3.cell x c (S.sub x c e);exact⟨v,o,G _ _ ho,hd⟩
  ·show(o7 nT cap σ).length=N'.length;unfold o7;rw[cp.len];simp
 have loop:∀U:Shared,U={ s2 with heap:=h₁,toks:=s2.toks+([]:List (Str×Value)).length }->codeAny (model Y.prog Y.w) Y.A (.compLoop (.ListComp rq [⟨tg,dP,v0,0⟩] scope pos) 0 (.ref it) (.ref s2.heap.objs.size) Y.env) (RR (.ref s2.heap.objs.size) g3.objs.size) U:=by
  rintro U rfl;refine xZ (Y:=Y) HA (λ_ _ z=>z) (hg _ _ _ _) Hv (hc _ _ _ _) (he _ _ _ _) T (λi hi=>?_) J1 hsz hD (λH' hn b hb=>⟨hn b hb,LF b hb,ok.exfs b hb,.inl hb,λx c e=>(f2 b hb).2.2.2.2.1 x c (S.sub x c e),λp hp=>absurd (show p∈[]from hp) List.not_mem_nil⟩) (λs4 σ' H' N vs I9 x IC Hx Hy=>?_)
   ⟨0,N1,[],[],ds,o7 nT cap σ,_,I4,T.keep _ _ _ CJ λb hb o e=>G _ _ (CL _ _ e),λb hb=>?_,uO _,rep.caps,?_,(Ext.refl sN).upd hD (sN.free hD),sN.free hD,aq,uO _,.nil,by simpa using ec,rfl⟩
  ·unfold cL;rw[List.getElem?_append_left (by simpa using hi),List.getElem?_replicate,if_pos hi]
  ·obtain⟨m,hm,_⟩:=I9.loc;have k:aA N (upd N s2.heap.objs.size (.lst vs)):=λa o e=>by rw[ar (λz=>by subst z;rw[IC]at e;cases e)];exact e
   refine NC s2.heap.objs.size g3.objs.size s4 H' (upd N s2.heap.objs.size (.lst vs)) vs m hD (I2.call' (ch:=fp) I9.os ((Un.laid CL (vT _) hD).trans I9.base) I9.hok I9.bare λb hb=>⟨(f2 b hb).2.2.2.1,(f2 b hb).2.1,(f2 b hb).2.2.2.2.1,(f2 b hb).2.2.2.2.2⟩) hm (I2.fpOk (by rw[hC];exact Nat.le_succ _) I9.free) ⟨x.hh,x.bn.trans k,λa o e=>?_,λa o e=>?_⟩ aq (Hy.mono k)
   ·by_cases z:a=s2.heap.objs.size
    ·subst z;rw[aq]at e;cases e;exact Hx
    ·rw[ar z]at e;exact x.nh _ _ e
   ·by_cases z:a=s2.heap.objs.size
    ·subst z;exact .inr hD
    ·rw[ar z]at e;exact x.new _ _ e
  ·rw[ar (NE b hb)];exact(f2 b hb).1
  ·unfold cL o7;simp
 exact codeAny_compStart_list (loop _ rfl) (T.self _ 0 _ _ _ (T.keep _ _ _ CJ λb hb o e=>G _ _ (CL _ _ e)) (loop _ rfl))
theorem BD (G:X.calm=true) 
  (S:CompSc X scope cl) (cp:kx X N' scope cl nT cap) (hi:JI X tg dP fi)
  (hg:∀C s H fp,PG (fT X N' scope cl C s H fp) tg g) (O:Df X.K nT mh g) (hc:∀C s H fp,JC (fT X N' scope cl C s H fp) v0 fc) (he:∀C s H fp,JE (fT X N' scope cl C s H fp) rq fe)
  (hs:∀x,foldedSetIterable dP X.env x=pure x:=by intro _;rfl):
  JE X (.ListComp rq [⟨tg,dP,v0,0⟩] scope pos) (bR fi nT cap mh fc fe):=by
 intro aa s σ H Q I h;obtain⟨B,ρ,d,b,sB,rep,e,q⟩:=h;obtain⟨items,ei,e⟩:=oX e;have hsz:items.length<=sizeLine:=Decidable.byContradiction λz=>by rw[if_neg z]at e;cases e
 rw[if_pos hsz]at e;obtain⟨ds,ec,e⟩:=oY e;cases e
 rw[eval_ListComp];refine wpAny_comprehension_free (use:=none) rfl hs S.clos S.kind S.names (bF (hi aa s σ H (λJ H2=>∃N1,Ext B N1 H H2/\my X.K J N1 items) I ⟨B,ρ,items,sB,rep,ei,λJ H2 N1 M U=>⟨N1,M,U⟩⟩) λv s1 h1=>bF h1 λL5 s2 h2=>?_);obtain⟨it,fp,tn,J,H2,e,I2,T,CJ,f2,N1,M,U⟩:=h2;subst e;refine m5 G S cp hg O hc he I2 T CJ f2 (rep.mono M.bn) M.nh U hsz ec (RR:=λxD C=>compPost (model X.prog X.w) X.A X.xe none (EP X aa σ Q) xD C) ?_;intro Dd C s' H' N vs m hD I' hm fC x hN hl;refine⟨m,hm,λh' hs'=>⟨.ref Dd,H',?_,rfl,q _ H' N (M.trans x) (.lst (eK.of hN) hl) λ_=>⟨Dd,vs,ds,rfl,rfl,M.hh.free hD,hN,hl⟩⟩⟩;obtain⟨c0,c1,c2,c3,c4,c5⟩:=fC;exact I'.turned (t':=s'.toks) (λb o hb e=>(hs'.2 b hb).trans e) c0 c1 c3 c4 c5
theorem BE (M:X.calm=true) 
  (hN:X.N.Nodup) (NG:X.N[i]? = some y) (hy:X.env.kindOf y=some .local)
  (NH:swapsWith (.ListComp rq [⟨tg,G,O,0⟩] scope pos) (some (.Name y py)) spos.line X.env=pure true)
  (S:CompSc X scope cl) (cp:kx X N' scope cl nT cap) (hi:JI X tg G fi)
  (hg:∀C s H fp,PG (fT X N' scope cl C s H fp) tg g) (Hv:Df X.K nT mh g) (hc:∀C s H fp,JC (fT X N' scope cl C s H fp) O fc) (he:∀C s H fp,JE (fT X N' scope cl C s H fp) rq fe)
  (hs:∀x,foldedSetIterable G X.env x=pure x:=by intro _;rfl):
  JS X (.Assign [.Name y py] (.ListComp rq [⟨tg,G,O,0⟩] scope pos) spos) (aM i (bR fi nT cap mh fc fe)):=by
 intro aa s σ H E I h;have h2:xJ (tD X.K (bR fi nT cap mh fc fe)) (gO i) E σ H:=wl h;obtain⟨B,ρ,d,b,sB,rep,e,q⟩:=h2;obtain⟨items,ei,e⟩:=oX e;have hsz:items.length<=sizeLine:=Decidable.byContradiction λz=>by rw[if_neg z]at e;cases e
 rw[if_pos hsz]at e;obtain⟨ds,ec,e⟩:=oY e;cases e
 rw[exec_Assign_Name_used _ _ _ _ NH];refine wX (wpAny_standAt (wX ?_));show wpAny _ _ (do let _ ←comprehension (.ListComp rq [⟨tg,G,O,0⟩] scope pos) scope X.env _ (newList []) false (eval G X.env) (some (assign (.Name y py) X.env))) _ _ s;refine wX (wpAny_mono (wpAny_comprehension_free (use:=some (assign (.Name y py) X.env)) (Q:=λ_ s'=>SP X aa E .next s') rfl hs S.clos S.kind S.names
  (bF (hi aa s σ H (λJ H2=>∃N1,Ext B N1 H H2/\my X.K J N1 items) I ⟨B,ρ,items,sB,rep,ei,λJ H2 N1 U j1=>⟨N1,U,j1⟩⟩) λv s1 h1=>bF h1 λL5 s2 h2=>?_)) (λ_ s' hq=>wY (wY hq)) λ_ _ e=>e)
 obtain⟨it,fp,tn,J,H2,e,I2,T,CJ,f2,N1,U,j1⟩:=h2;subst e;refine m5 M S cp hg Hv hc he I2 T CJ f2 (rep.mono U.bn) U.nh j1 hsz ec (RR:=λxD C=>compPost (model X.prog X.w) X.A X.xe (some (assign (.Name y py) X.env)) (λ_ s'=>SP X aa E .next s') xD C) ?_;intro Dd C s' H' N vs m hD I' hm fC x LJ hl;show wpAny _ _ (assign (.Name y py) X.env (.ref Dd)) _ _ s';obtain⟨c0,c1,c2,c3,c4,c5⟩:=fC;refine wpAny_assign_Name (oH I' hN NG (.inl hy) (r:=show aC (.ref Dd) (.ref Dd)from rfl) (λs9 I9 ⟨a,sb,ha⟩=>?_) (.inr hy));have nC:C≠a:=by
  rcases ha with z|z
  ·rw[z];exact c1
  ·exact λw=>c4 y a z w.symm
 refine⟨m,hm.sameBut sb nC,λh' hs'=>⟨_,H',?_,q _ H' N (U.trans x) (.lst (eK.of LJ) hl) λ_=>⟨Dd,vs,ds,rfl,rfl,U.hh.free hD,LJ,hl⟩⟩⟩;exact I9.turned (t':=s9.toks) (λb o hb e=>(hs'.2 b hb).trans e) c0 c1 c3 c4 c5
section
variable {X:Cx}{a b c e:Expr}{pos:Pos}
theorem PE.to (h:PE X e t)(k:∀σ H Q,t' σ H Q->t σ H Q):PE X e t':=λaa s σ H Q I q=>h aa s σ H Q I (k σ H Q q)
theorem PT.to (h:PT X e t)(k:∀σ H Q,t' σ H Q->t σ H Q):PT X e t':=λaa s σ H Q I q=>h aa s σ H Q I (k σ H Q q)
theorem PW.to (h:PW X e t)(k:∀σ H Q,t' σ H Q->t σ H Q):PW X e t':=λg aa s σ H Q I q=>h g aa s σ H Q I (k σ H Q q)
theorem PA.to (h:PA X es t)(k:∀σ H Q,t' σ H Q->t σ H Q):PA X es t':=λpos aa s σ H Q I q=>h pos aa s σ H Q I (k σ H Q q)
theorem PS.to {st:Stmt}{t t':TS}(h:PS X st t)(k:∀E σ H,t' E σ H->t E σ H):PS X st t':=λaa s σ H E I q=>h aa s σ H E I (k E σ H q)
theorem o3.to {st:List Stmt}{t t':TS}(h:o3 X st t)(k:∀E σ H,t' E σ H->t E σ H):o3 X st t':=λaa s σ H E I q=>h aa s σ H E I (k E σ H q)
theorem PI.to (h:PI X tg it t)(k:∀σ H Q,t' σ H Q->t σ H Q):PI X tg it t':=λaa s σ H Q I q=>h aa s σ H Q I (k σ H Q q)
theorem ya {K:Frag}{d:D}{v:V}(i:∀B,Is K B v d){σ:St}{H:Hp}{Q:VK}(h:tD K (fC d) σ H Q):tC v σ H Q:=by
 obtain⟨B,ρ,d',b,s,r,e,q⟩:=h;cases e
 exact q.one s (i B)
theorem ac (i:Nat)(G:X.N[i]? = some x:=by rfl)(hv:yS X.env.scope x:=by first|exact Or.inl rfl|exact Or.inr (Or.inl rfl)|exact Or.inr (Or.inr rfl))(hd:(x == ("__debug__" : Str))=false:=by decide)
  (g:(x == ("__classdict__" : Str))=false:=by decide):JE X (.Name x pos) (af i):=PE.to (jh G hv hd g) λ_ _ _ h=>Er h
theorem ao:JE X (.Constant (.int i) j pos) (fC (.int i)):=PE.to yT λ_ _ _ h=>ya (λ_=>.int i) h
theorem jI:JE X (.Constant (.bool i) j pos) (fC (.bl i)):=PE.to FU λ_ _ _ h=>ya (λ_=>.bl i) h
theorem gy:JE X (.Constant .none j pos) (fC .non):=PE.to DE λ_ _ _ h=>ya (λ_=>.non) h
theorem aw:JE X (.Constant (.str x) j pos) (fC (.str x)):=PE.to DF λ_ _ _ h=>ya (λ_=>.str x) h
theorem BF (g:Gl X x)(hm:X.mg x=some u)(r:aC v u)(i:∀B,Is X.K B v d)(hd:(x == ("__debug__" : Str))=false:=by decide):JE X (.Name x pos) (fC d):=PE.to (wa g hm r hd) λ_ _ _ h=>ya i h
theorem a8 (g:cY X (binaryOp op) (rD X.K f))(ha:JE X a fa)(hb:JE X b fb):JE X (.BinOp a op b pos) (f2 f fa fb):=PE.to (Gh g ha hb) λ_ _ _ h=>B4 h
theorem Dg (g:Gf X (unaryOp op) (Jg X.K f))(ha:JE X a fa):JE X (.UnaryOp op a pos) (f1 f fa):=PE.to (Gi g ha) λ_ _ _ h=>Jh h
theorem dE (g:cY X (compareOp op) (rD X.K f))(ha:JE X a fa)(hb:JE X b G)(hm:behindInMarks op b=false:=by first|exact j7 _ (by decide) (by decide)|rfl):JE X (.Compare a [op] [b] pos) (f2 f fa G):=PE.to (Bl g ha hb hm) λ_ _ _ h=>B4 h
theorem ut {K:Frag}{f:FE}{σ:St}{H:Hp}{Q:Bool->Hp->Prop}(h:qA K (be f) σ H Q):tD K f σ H λx H'=>∃k,x=.bl k/\Q k H':=by
 obtain⟨B,ρ,c,s,r,e,q⟩:=h;unfold be at e;split at e
 ·rename_i M g G;cases e
  refine⟨B,ρ,.bl c,g,s,r,G,λv H' N x i _=>?_⟩;cases i
  exact⟨c,rfl,q H' x.hh⟩
 ·cases e
theorem aE (g:cY X (compareOp op) (rD X.K f))(ha:JE X a fa)(hb:JE X b fb)(hm:behindInMarks op b=false:=by first|exact j7 _ (by decide) (by decide)|rfl):JT X (.Compare a [op] [b] pos) (be (f2 f fa fb)) :=
 PT.to (Bm g ha hb hm) λ_ _ _ h=>B4 (ut h)
theorem gz (h:JE X e f)(he:∀g,isTrue e X.env g=(do let v ←g;standAt e.pos;holding [v] (truthy v)):=by intro _;rfl):JT X e (be f):=PT.to (DI h he) λ_ _ _ q=>ut q
@[simp] noncomputable def kE (f g:D->D->OB)(fa G M:FE):FE:=λρ=>(fa ρ).bind λx=>(G ρ).bind λy=>match f x.1 y.1 with
 |some (.bl true,_)=>(M ρ).bind λz=>g y.1 z.1
 |some (.bl false,_)=>some (.bl false,false)
 |_=>none
theorem zx {K:Frag}{f g:D->D->OB}{fa fb fc:FE}{σ:St}{H:Hp}{Q:VK}(h:tD K (kE f g fa fb fc) σ H Q):za (rD K f) (rD K g) (tD K fa) (tD K fb) (tD K fc) σ H Q:=by
 obtain⟨B,ρ,d,b,s,r,e,q⟩:=h;obtain⟨x,ex,e⟩:=oX e;obtain⟨y,ey,e⟩:=oX e;refine⟨B,ρ,x.1,x.2,s,r,ex,λv H1 N1 O i1 _=>⟨N1,ρ,y.1,y.2,O.nh,r.mono O.bn,ey,λv2 H2 N2 G T _=>?_⟩⟩;split at e
 ·rename_i U ef;obtain⟨z,ez,e⟩:=oX e;refine⟨N2,x.1,y.1,.bl true,U,G.nh,i1.mono G.bn,T,ef,λv3 H3 N3 M i3 _=>?_⟩;cases i3
  refine⟨true,rfl,?_⟩;rw[if_pos rfl];refine⟨N3,ρ,z.1,z.2,M.nh,r.mono (O.bn.trans (G.bn.trans M.bn)),ez,λv4 H4 N4 x4 i4 _=>⟨N4,y.1,z.1,d,b,x4.nh,T.mono (M.bn.trans x4.bn),i4,e,?_⟩⟩;exact q.into ((O.trans G).trans (M.trans x4))
 ·rename_i U ef;cases e
  refine⟨N2,x.1,y.1,.bl false,U,G.nh,i1.mono G.bn,T,ef,λv3 H3 N3 M i3 _=>?_⟩;cases i3
  refine⟨false,rfl,?_⟩;rw[if_neg (by decide)];exact(q.into ((O.trans G).trans M)).one M.nh (.bl false)
 ·cases e
theorem zy (M:cY X (compareOp op) (rD X.K f))(G:cY X (compareOp LK) (rD X.K g))(ha:JE X a fa)(hb:JE X b fb)(hc:JE X c fc)
  (hm:lastMarks [op,LK] [b,c]=false:=by with_unfolding_all rfl):JE X (.Compare a [op,LK] [b,c] pos) (kE f g fa fb fc):=PE.to (zb M G ha hb hc hm) λ_ _ _ h=>zx h
theorem BG {K:Frag}{f g:FT}{σ:St}{H:Hp}{Q:Bool->Hp->Prop}(h:qA K (cu f g) σ H Q):FV (qA K f) (qA K g) σ H Q:=by
 obtain⟨B,ρ,c,s,r,e,q⟩:=h;unfold cu at e;cases G:f ρ with
 |none=>rw[G]at e;cases e
 |some k=>
  rw[G]at e;refine⟨B,ρ,k,s,r,G,λM h1=>?_⟩;cases k with
  |true=>rw[if_pos rfl];exact⟨B,ρ,c,s.trans h1,r,e,λH2 h2=>q H2 (h1.trans h2)⟩
  |false=>rw[if_neg (by decide)];cases e;exact q M h1
theorem Ew {K:Frag}{f g:FT}{σ:St}{H:Hp}{Q:Bool->Hp->Prop}(h:qA K (gX f g) σ H Q):KO (qA K f) (qA K g) σ H Q:=by
 obtain⟨B,ρ,c,s,r,e,q⟩:=h;unfold gX at e;cases G:f ρ with
 |none=>rw[G]at e;cases e
 |some k=>
  rw[G]at e;refine⟨B,ρ,k,s,r,G,λM h1=>?_⟩;cases k with
  |false=>rw[if_neg (by decide)];exact⟨B,ρ,c,s.trans h1,r,e,λH2 h2=>q H2 (h1.trans h2)⟩
  |true=>rw[if_pos rfl];cases e;exact q M h1
theorem BH {K:Frag}{f:FT}{σ:St}{H:Hp}{Q:Bool->Hp->Prop}(h:qA K (fJ f) σ H Q):FW (qA K f) σ H Q:=by
 obtain⟨B,ρ,c,s,r,e,q⟩:=h;obtain⟨k,ek,e⟩:=oY e;subst e;exact⟨B,ρ,k,s,r,ek,λg h1=>q g h1⟩
variable {az:List Expr}
theorem fK (ha:JT X a f):JW X (.BoolOp .And [a] pos) f:=Bg ha
theorem kF (ha:JT X a f):JW X (.BoolOp .Or [a] pos) f:=DJ ha
theorem g7 (ha:JT X a f)(hb:JW X (.BoolOp .And (b::az) pos) g):JW X (.BoolOp .And (a::b::az) pos) (cu f g):=PW.to (DK ha hb) λ_ _ _ h=>BG h
theorem m6 (ha:JT X a f)(hb:JW X (.BoolOp .Or (b::az) pos) g):JW X (.BoolOp .Or (a::b::az) pos) (gX f g):=PW.to (FX ha hb) λ_ _ _ h=>Ew h
theorem jJ (h:JW X e f):JT X e f:=h.pt
theorem m7 (ha:JT X a f):JT X (.UnaryOp .Not a pos) (fJ f):=PT.to (DM ha) λ_ _ _ h=>BH h
@[simp] noncomputable def m8 (f g:FE):FE:=λρ=>match f ρ with|some (.bl true,_)=>g ρ|some (.bl false,_)=>some (.bl false,false)|_=>none
@[simp] noncomputable def F4 (f g:FE):FE:=λρ=>match f ρ with|some (.bl true,_)=>some (.bl true,false)|some (.bl false,_)=>g ρ|_=>none
@[simp] noncomputable def z4 (f:FE):FE:=λρ=>match f ρ with|some (.bl c,_)=>some (.bl (!c),false)|_=>none
theorem kG (ha:JE X a f)(hb:JE X (.BoolOp .And (b::az) pos) g):JE X (.BoolOp .And (a::b::az) pos) (m8 f g):=PE.to (DO ha hb) λσ H Q h=>by
 obtain⟨B,ρ,d,k,s,r,e,q⟩:=h;unfold m8 at e;split at e
 ·rename_i T M;refine⟨B,ρ,_,_,s,r,M,λv U N1 G O _=>?_⟩;cases O
  refine⟨true,rfl,?_⟩;rw[if_pos rfl];exact⟨N1,ρ,d,k,G.nh,r.mono G.bn,e,q.into G⟩
 ·rename_i T M;cases e
  refine⟨B,ρ,_,_,s,r,M,λv U N1 G O _=>?_⟩;cases O
  refine⟨false,rfl,?_⟩;rw[if_neg (by decide)];exact(q.into G).one G.nh (.bl false)
 ·cases e
theorem Dh (ha:JE X a f)(hb:JE X (.BoolOp .Or (b::az) pos) g):JE X (.BoolOp .Or (a::b::az) pos) (F4 f g):=PE.to (Ga ha hb) λσ H Q h=>by
 obtain⟨B,ρ,d,k,s,r,e,q⟩:=h;unfold F4 at e;split at e
 ·rename_i T M;cases e
  refine⟨B,ρ,_,_,s,r,M,λv U N1 G O _=>?_⟩;cases O
  refine⟨true,rfl,?_⟩;rw[if_pos rfl];exact(q.into G).one G.nh (.bl true)
 ·rename_i T M;refine⟨B,ρ,_,_,s,r,M,λv U N1 G O _=>?_⟩;cases O
  refine⟨false,rfl,?_⟩;rw[if_neg (by decide)];exact⟨N1,ρ,d,k,G.nh,r.mono G.bn,e,q.into G⟩
 ·cases e
theorem jj (h:JE X a f):JE X (.BoolOp op [a] pos) f:=DN h
theorem Ex (ha:JE X a f):JE X (.UnaryOp .Not a pos) (z4 f):=PE.to (DP ha) λσ H Q h=>by
 obtain⟨B,ρ,d,k,s,r,e,q⟩:=h;unfold z4 at e;split at e
 ·rename_i c O G;cases e
  refine⟨B,ρ,_,_,s,r,G,λv T N1 g M _=>?_⟩;cases M
  exact⟨c,rfl,(q.into g).one g.nh (.bl _)⟩
 ·cases e
variable {es:List Expr}
theorem ai:JA X [] ag:=PA.to gw λ_ _ _ h=>B6 h
theorem ae (ha:JE X e f)(G:JA X es g)(hs:starEach (e::es) X.env=(false,eval e X.env)::starEach es X.env:=by rfl):JA X (e::es) (ab f g):=PA.to (dQ ha G hs) λ_ _ _ h=>zq h
@[simp] noncomputable def ba:List D->OB:=λds=>if ds.length<=sizeLine then some (.tup ds,false)else none
@[simp] noncomputable def bD:List D->OB:=λds=>if ds.length<=sizeLine then some (.lst ds,true)else none
theorem bo {g}(h:JA X es f):JE X (.Tuple es g pos) (fA ba f):=PE.to (qp h) λσ H Q q=>by
 obtain⟨B,ρ,ds,s,r,e,k⟩:=B5 q;refine⟨B,ρ,ds,s,r,e,λvs M N1 g O=>?_⟩;obtain⟨T,U,d,b,s2,G,e2,k2⟩:=k vs M N1 g O;unfold ba at e2;split at e2
 ·rename_i hz;cases e2
  refine⟨by rw[G.length];exact hz,λp hp=>k2 _ _ (upd T p (.tup vs)) (.laid s2 hp) (.tup (ga.of aq) (G.mono (Ext.laid s2 hp).bn)) (by simp)⟩
 ·cases e2
theorem bV (h:JA X es f):JE X (.List es pos) (fA bD f):=PE.to (Ed h) λσ H Q q=>by
 obtain⟨B,ρ,ds,s,r,e,k⟩:=B5 q;refine⟨B,ρ,ds,s,r,e,λvs M N1 O T=>?_⟩;obtain⟨U,g,d,b,s2,G,e2,k2⟩:=k vs M N1 O T;unfold bD at e2;split at e2
 ·rename_i hz;cases e2
  refine⟨by rw[G.length];exact hz,λp hp=>k2 _ _ (upd U p (.lst vs)) (.laid s2 hp) (.lst (eK.of aq) (G.mono (Ext.laid s2 hp).bn)) λ_=>⟨p,vs,g,rfl,rfl,hp,aq,G.mono (Ext.laid s2 hp).bn⟩⟩
 ·cases e2
end
section
variable {X:Cx}
theorem g8 (h:cY X f r)(k:∀x y H Q,r' x y H Q->r x y H Q):cY X f r':=λaa s σ H x y v u Q I g G q=>h aa s σ H x y v u Q I g G (k x y H Q q)
noncomputable def AT (f g:D->D->OB):D->D->OB:=λx y=>match f x y with|some r=>some r|none=>g x y
theorem m9 (h:cY X s (rD X.K f))(h':cY X s (rD X.K g)):cY X s (rD X.K (AT f g)):=by
 intro aa st σ H x y v u Q I G M q;obtain⟨B,dx,O,d,b,T,U,iy,e,q⟩:=q;unfold AT at e;split at e
 ·rename_i r ef;cases e
  exact h aa st σ H x y v u Q I G M ⟨B,dx,O,_,_,T,U,iy,ef,q⟩
 ·exact h' aa st σ H x y v u Q I G M ⟨B,dx,O,_,_,T,U,iy,e,q⟩
@[simp] noncomputable def wm (C:Int->Int->Bool)(g:Int->Int->D):D->D->OB
 |.int i,.int j=>if C i j=true then some (g i j,false)else none
 |_,_=>none
theorem qE (h:cY X s (rI C g))(G:∀i j,C' i j=true->C i j)(M:∀i j B,Is X.K B (g i j) (g' i j)):cY X s (rD X.K (wm C' g')):=by
 refine g8 h λx y H Q q=>?_;obtain⟨B,dx,dy,d,b,O,T,U,e,q⟩:=q;cases T<;>try (cases e;done)
 cases U<;>try (cases e;done)
 rename_i i j;simp only[wm]at e;split at e
 ·rename_i hc;cases e
  exact⟨i,j,rfl,rfl,G i j hc,q.one O (M i j B)⟩
 ·cases e
theorem hU (h:cY X s (CU g))(G:∀i j B,Is X.K B (g i j) (g' i j)):cY X s (rD X.K (wm (λ_ _=>true) g')):=by
 refine g8 h λx y H Q q=>?_;obtain⟨B,dx,U,d,b,M,O,T,e,q⟩:=q;cases O<;>try (cases e;done)
 cases T<;>try (cases e;done)
 rename_i i j;simp only[wm,if_true]at e;cases e
 exact⟨i,j,rfl,rfl,q.one M (G i j B)⟩
abbrev Ey:D->D->OB:=wm (λ_ _=>true) λi j=>.int (i+j)
abbrev G7:D->D->OB:=wm (λ_ _=>true) λi j=>.int (i - j)
abbrev G8:D->D->OB:=wm (λi j=>decide ((-18446744073709551616<i/\i<18446744073709551616)∨(-18446744073709551616<j/\j<18446744073709551616))) λi j=>.int (i*j)
abbrev fU:D->D->OB:=wm (λ_ j=>decide (0<j/\j<1073741824)) λi j=>.int (i / j)
abbrev cy:D->D->OB:=wm (λ_ j=>decide (0<j)) λi j=>.int (i % j)
abbrev Lf:D->D->OB:=wm (λ_ _=>true) λi j=>.bl (decide (i<j))
abbrev Ji:D->D->OB:=wm (λ_ _=>true) λi j=>.bl (decide (i<=j))
abbrev Ez:D->D->OB:=wm (λ_ _=>true) λi j=>.bl (decide (j<i))
theorem G9:cY X (binaryOp .Add) (rD X.K Ey):=hU DW λ_ _ _=>.int _
theorem GA:cY X (binaryOp .Sub) (rD X.K G7):=hU DX λ_ _ _=>.int _
theorem GB:cY X (binaryOp .Mult) (rD X.K G8):=qE DY (λi j h=>by have h:=of_decide_eq_true h;unfold Bj;omega) λ_ _ _=>.int _
theorem dn:cY X (binaryOp .FloorDiv) (rD X.K fU):=qE Bk (λi j h=>by have h:=of_decide_eq_true h;unfold Gk;omega) λ_ _ _=>.int _
theorem cF:cY X (binaryOp .Mod) (rD X.K cy):=qE DZ (λ_ _ h=>of_decide_eq_true h) λ_ _ _=>.int _
theorem Jj:cY X (compareOp .Lt) (rD X.K Lf):=hU Gm λ_ _ _=>.bl _
theorem Jk:cY X (compareOp .LtE) (rD X.K Ji):=hU Gn λ_ _ _=>.bl _
theorem E1:cY X (compareOp .Gt) (rD X.K Ez):=hU Go λ_ _ _=>.bl _
@[simp] noncomputable def F5 (C:Str->Str->Bool)(g:Str->Str->D):D->D->OB
 |.str i,.str j=>if C i j=true then some (g i j,false)else none
 |_,_=>none
abbrev BI:D->D->OB:=F5 (λi j=>decide (i.length+j.length<=sizeLine)) λi j=>.str (i++j)
abbrev Im:D->D->OB:=F5 (λ_ _=>true) λi j=>.bl (!decide (j.cps.toList<i.cps.toList))
theorem E2:cY X (binaryOp .Add) (rD X.K BI):=by
 refine g8 ud λx y H Q q=>?_;obtain⟨B,dx,O,d,b,g,G,M,e,q⟩:=q;cases G<;>try (cases e;done)
 cases M<;>try (cases e;done)
 rename_i i j;simp only[BI,F5]at e;split at e
 ·rename_i hc;cases e
  exact⟨i,j,rfl,rfl,of_decide_eq_true hc,q.one g (.str _)⟩
 ·cases e
theorem GC:cY X (compareOp .LtE) (rD X.K Im):=by
 intro aa s σ H x y v u Q I g G q;obtain⟨B,dx,U,d,b,M,O,T,e,q⟩:=q;cases O<;>try (cases e;done)
 cases T<;>try (cases e;done)
 rename_i i j;simp only[Im,F5,if_true]at e;cases e
 obtain⟨t,rfl⟩:=g;obtain⟨t',rfl⟩:=G;exact PySem.P.le_str ⟨.bl _,H,I,rfl,q.one M (.bl _)⟩
end
section
variable {X:Cx}{a b c e:Expr}{pos:Pos}{st:Stmt}{az:List Stmt}
theorem fg:o0 X [] bA:=o3.to ql λ_ _ _ h=>zt h
theorem ah (h1:JS X st g)(h2:o0 X az h):o0 X (st::az) (a0 g h):=o3.to (j8 h1 h2) λ_ _ _ q=>B7 q
theorem aO (h1:JS X st g):o0 X [st] g:=wb h1
theorem fh {c:Expr}{a b:List Stmt}{G:FT}{g h:FS}(hc:JT X c G)(ha:o0 X a g)(hb:o0 X b h):JS X (.If c a b pos) (gb G g h):=PS.to (yV hc ha hb) λ_ _ _ q=>Es q
theorem z5 (he:JE X e f):JS X (.Return (some e) pos) (br f):=PS.to (tZ he) λ_ _ _ q=>B8 q
theorem jK (i:Nat)(G:X.N[i]? = some x:=by rfl)(hv:yS X.env.scope x:=by first|exact Or.inl rfl|exact Or.inr (Or.inl rfl)|exact Or.inr (Or.inr rfl))(hd:(x == ("__debug__" : Str))=false:=by decide)
  (g:(x == ("__classdict__" : Str))=false:=by decide):JS X (.Return (some (.Name x p)) pos) (jb i):=PS.to (tZ (jh G hv hd g)) λ_ _ _ q=>zu q
theorem ax (g:X.N.Nodup)(he:JE X e f)(hi:X.N[i]? = some x:=by rfl)(hx:AQ X.env.scope x:=by first|exact Or.inl rfl|exact Or.inr rfl)(hs:swapsWith e (some (.Name x p)) pos.line X.env=pure false:=by rfl)
  (hf:X.fn x=true∨X.env.scope.names.lookup x=some .local:=by first|exact .inl rfl|exact .inr rfl):JS X (.Assign [.Name x p] e pos) (aM i f):=PS.to (qo g hi hx he hs hf) λ_ _ _ q=>wl q
theorem z6 (n:Nat)(hp:PassesOwn (model X.prog X.w) X.A X.env X.xe)(hc:JT X c fc)(hb:o0 X body g):JS X (.While c body [] pos) (fR fc g n):=PS.to (yX hp hc hb) λ_ _ _ q=>xY q
theorem E3 (hp:PassesOwn (model X.prog X.w) X.A X.env X.xe)(hc:X.calm=true)(hi:JI X tg dP fi)(G:PG X tg t)(M:BA X.K mh t)(hb:o0 X body g)
  (hs:∀x,foldedSetIterable dP X.env x=pure x:=by intro _;rfl):JS X (.For tg dP body [] pos) (jF fi mh g):=PS.to (yZ hp hc hi G hb hs) λ_ _ _ q=>BB M q
theorem BJ (hp:PassesOwn (model X.prog X.w) X.A X.env X.xe)(hc:X.calm=true)(hi:PI X tg dP (Il X.K fi))(G:PG X tg t)(M:BA X.K mh t)(hb:o0 X body g)
  (hs:∀x,foldedSetIterable dP X.env x=pure x:=by intro _;rfl):JS X (.For tg dP body [] pos) (mz fi mh g):=PS.to (yZ hp hc hi G hb hs) λ_ _ _ q=>zw M q
theorem hV (he:JE X e f)(U:X.N[i]? = some x:=by rfl)(hv:yS X.env.scope x:=by first|exact Or.inl rfl|exact Or.inr (Or.inl rfl)|exact Or.inr (Or.inr rfl))(hd:(x == ("__debug__" : Str))=false:=by decide)
  (O:(x == ("__classdict__" : Str))=false:=by decide)
  (g:attributeBase (.Name x p) "append" X.env (eval (.Name x p) X.env)=eval (.Name x p) X.env:=by rfl)
  (M:((backTo cC (starEach [e] X.env)).all (λx=>!x.1) && (backToKw cC (keywordEach [] X.env)).all (λx=>x.1.isSome)
   && decide ([e].length+([]:List Keyword).length+(if([]:List Keyword).isEmpty then 0 else 1)<30))=true:=by rfl)
  (G:(dO.endLine == cC.line)=true:=by rfl) (hs:starEach [e] X.env=[(false,eval e X.env)]:=by rfl) (T:swapsWith (.Call (.Attribute (.Name x p) "append" dO) [e] [] cC) none pos.line X.env=pure false:=by rfl):
  JS X (.Expr (.Call (.Attribute (.Name x p) "append" dO) [e] [] cC) pos) (lK i f):=by
 refine PS.to (wc (zh PySem.F.plainAttrs_list PySem.F.slot_list_append PySem.F.type_list_append k8 (jh U hv hd O) (dQ he gw hs) g M G hs rfl) T) λE σ H q=>?_;obtain⟨a,us,h1,h2,k⟩:=B9 q;exact⟨_,h1,.inl ⟨rfl,us,eK.of h2⟩,k⟩
end
@[simp] noncomputable def aN (g:FS)(n k:Nat):List D->OB:=λds=>if ds.length=n then
 match g (ds.map (λd=>some (d,false))++List.replicate k none) with
 |some (.rt d b)=>some (d,b)
 |some (.nx _)=>some (.non,false)
 |_=>none
 else none
def BK (K:Frag)(f:List D->OB):Sp:=λvs H Q _=>∃(B:Hp)(ds:List D)(d:D)(b:Bool),(aA B H/\Tb K B)/\IsL K B vs ds/\f ds=some (d,b)/\Fin K B H d b Q
theorem rR {K:Frag}{B H:Hp}{vs:List V}{ds:List D}{N:List Str}(G:aA B H)(tb:Tb K B)(i:IsL K B vs ds):cJ K B H B H (L2.gQ N vs) (ds.map (λd=>some (d,false))++List.replicate (N.length - vs.length) none):=by
 have g:∀(j:Nat)(d:D)(b:Bool),(ds.map (λd=>some (d,false))++List.replicate (N.length - vs.length) none:Env)[j]? = some (some (d,b))->b=false/\ds[j]? = some d:=λj d b e=>by
  by_cases hj:j<ds.length
  ·rw[List.getElem?_append_left (by simpa using hj),vB]at e;obtain⟨d',h1,h2⟩:=oY e;cases h2
   exact⟨rfl,h1⟩
  ·rw[List.getElem?_append_right (by simpa using Nat.not_lt.mp hj),List.getElem?_replicate]at e;split at e<;>cases e
 have no:∀a,¬own (L2.gQ N vs) (ds.map (λd=>some (d,false))++List.replicate (N.length - vs.length) none) a:=λa ⟨j,d,h,_⟩=>by
  obtain⟨z,_⟩:=g j d true h;cases z
 refine⟨G,tb,.refl G,?_,λj d e=>?_,λj d e=>?_,λj k a d e h=>?_⟩
 ·unfold L2.gQ;rw[vA,vA,vI,vI,List.length_replicate,List.length_replicate,i.length]
 ·obtain⟨_,M⟩:=g j d false e;obtain⟨v,h1,h2⟩:=i.get M;refine⟨v,?_,h2.mono λa o e=>by rw[bU (no a)];exact e⟩;unfold L2.gQ;have hj:j<vs.length:=(vV h1).1;rw[List.getElem?_append_left (by simpa using hj),vB,h1]<;>rfl
 ·obtain⟨z,_⟩:=g j d true e;cases z
 ·obtain⟨z,_⟩:=g j d true h;cases z
section
variable {P:Program}{w:World}{K:Frag}{mg:Str->Option Value}{base:Heap}
theorem GD {x qual:Str}{st:Stmt}{f:Addr}{fd:FuncData}{N ps:List Str}{k:Nat}{g:FS}(F:Fl K x qual st f fd)(S:FnScope N ps (a7 st))
  (hb:∀(cQ:Value)(A:Around)(outer:List PySem.Env)(s:Shared)(H:Hp)(E:XK),cV k (A.deeper (envOfC qual (a7 st) s.heap.objs.size f cQ))->o0 (lI tU P w K mg base N qual (a7 st) f cQ A outer s H E).nox (bI st) g):
  oF P w K mg base tU (k+1) f fd ps (BK K (aN g ps.length (N.length - ps.length))):=by
 have len:∀vs H Q E,BK K (aN g ps.length (N.length - ps.length)) vs H Q E->vs.length=ps.length:=λvs H Q E h=>by
  obtain⟨B,ds,d,b,M,i,e,q⟩:=h;unfold aN at e;split at e
  ·rename_i hl;rw[i.length];exact hl
  ·cases e
 refine F.ok S len λcQ A outer s H vs Q E U h=>⟨_,hb cQ A outer s H E U,?_⟩;have G:=len vs H Q E h;obtain⟨B,ds,d,b,M,i,e,q⟩:=h;unfold aN at e;rw[if_pos (by rw[←i.length];exact G)]at e;have O:=rR (N:=N) M.1 M.2 i;rw[G]at O;split at e
 ·rename_i d' b' T;cases e
  exact⟨B,H,_,_,⟨B,O⟩,T,λv H' N' x' i' f'=>q v H' N' x' i' f'⟩
 ·rename_i ρ' T;cases e
  exact⟨B,H,_,_,⟨B,O⟩,T,λσ' H' ⟨N',s'⟩=>q .non H' N' s'.ext .non (by simp)⟩
 ·cases e
structure Fn (P:Program)(w:World)(K:Frag)(mg:Str->Option Value)(base:Heap)(k:Nat)(x:Str)(f:List D->OB):Prop where
 ex:∃(ad:Addr)(fd:FuncData)(ps:List Str),oF P w K mg base tU k ad fd ps (BK K f)/\mg x=some (.ref ad)/\PySem.W.keepIn K (.ref ad)=true/\oJ K fd ps []
end
theorem wn (F:Fn X.prog X.w X.K X.mg X.base k x f)(O:cV k X.A)(ha:JA X (e::es) fa)(T:Gl X x:=by rfl)
  (g:(x == ("__debug__" : Str))=false:=by decide) (he:starEach (e::es) X.env=(false,eval e X.env)::starEach es X.env:=by rfl) (G:(backTo pos (starEach es X.env)).any (·.1)=false:=by rfl):
  JE X (.Call (.Name x p) (e::es) [] pos) (fA f fa):=by
 obtain⟨ad,fd,ps,U,hm,hk,hb⟩:=F.ex;refine PE.to (Bo U O T hm hk hb .nil Gx ha g he G) λσ H Q q=>?_;obtain⟨B,ρ,d,b,s,r,e,q⟩:=q;obtain⟨ds,ex,e⟩:=oX e;exact⟨B,ρ,ds,s,r,ex,λvs H1 N1 M i1=>by
  show BK X.K f (vs++[]) H1 Q _;rw[uR];exact⟨N1,ds,d,b,⟨M.nh,r.tb.mono M.bn⟩,i1,e,q.into M⟩⟩
mutual
@[simp] def cB:D->D->Bool
 |.non,.non=>true
 |.bl a,.bl b=>a == b
 |.bl a,.int b=>decide ((if a then 1 else 0)=b)
 |.int a,.bl b=>decide (a=(if b then 1 else 0))
 |.int a,.int b=>decide (a=b)
 |.str a,.str b=>decide (a=b)
 |.tup xs,.tup ys=>g9 xs ys
 |.lst xs,.lst ys=>g9 xs ys
 |_,_=>false
@[simp] def g9:List D->List D->Bool
 |[],[]=>true
 |x::xs,y::ys=>cB x y && g9 xs ys
 |_,_=>false
end
@[simp] theorem rS (a:Str)(b:Str):cB (.str a) (.str b)=decide (a=b):=by simp only[cB]
@[simp] noncomputable def ay:Nat->D->Bool
 |_,.non=>true
 |_,.bl _=>true
 |_,.int _=>true
 |_,.str _=>true
 |_,.ty _=>false
 |_,.dk _ _=>false
 |_,.dt _ _=>false
 |0,.tup _=>false
 |0,.lst _=>false
 |n+1,.tup ds=>ds.all (ay n)
 |n+1,.lst ds=>ds.all (ay n)
theorem rT:∀ {xs ys:List D},g9 xs ys=true->xs.length=ys.length
 |[],[],_=>rfl
 |x::xs,y::ys,h=>by
  simp only[g9,vD]at h;rw[vE,vE,rT h.2]
 |[],_::_,h=>by simp[g9]at h
 |_::_,[],h=>by simp[g9]at h
theorem wo (h:xs.length≠ys.length):g9 xs ys=false:=by
 cases e:g9 xs ys with
 |false=>rfl
 |true=>exact absurd (rT e) h
theorem jk (f:Nat->Bool):∀ {xs ys:List D},xs.length=ys.length->(∀(j:Nat) x y,xs[j]? = some x->ys[j]? = some y->f j=cB x y)->(List.range xs.length).all f=g9 xs ys
 |[],[],_,_=>by simp[g9]
 |x::xs,y::ys,hl,h=>by
  have e:=jk (λj=>f (j+1)) (xs:=xs) (ys:=ys) (by simpa using hl) λj a b h1 h2=>h (j+1) a b (by simpa using h1) (by simpa using h2);rw[vE,List.range_succ_eq_map,List.all_cons,List.all_map,g9,←h 0 x y rfl rfl,←e];rfl
 |[],_::_,hl,_=>by simp at hl
 |_::_,[],hl,_=>by simp at hl
section
variable {X:Cx}{aa:List (Addr×Obj)}{σ:St}{H:Hp}{s:Shared}
theorem wt (I:Inv X aa σ H s)(h1:ga X.K H a vs)(h2:eK X.K H a ws):False:=by
 obtain⟨its,_,⟨o,e,c,_⟩,_⟩:=I.tuple h1;obtain⟨its',_,⟨o',M,g,G,_⟩,_⟩:=I.list h2;rw[e]at g;cases g;rw[c]at G;injection G with z;exact absurd z (by decide)
theorem wu (I:Inv X aa σ H s)(e:s.heap.get? a=some o)(d:o.data=.seq its n):(∀av ob,H a≠some (.dK av ob))/\∀av,H a≠some (.dT av):=by
 refine⟨λav ob h=>?_,λav h=>?_⟩
 ·obtain⟨_,_,_,_,_,o',es,G,g,_,d',_⟩:=(show bi X.prog X.w H s.heap a (.dK av ob)from I.hok a _ h);rw[e]at g;cases g;rw[d]at d';cases d'
 ·obtain⟨_,_,_,_,o',es,G,g,_,d',_⟩:=(show bi X.prog X.w H s.heap a (.dT av)from I.hok a _ h);rw[e]at g;cases g;rw[d]at d';cases d'
theorem rV (I:Inv X aa σ H s)(h1:ga X.K H a vs):(∀av ob,H a≠some (.dK av ob))/\∀av,H a≠some (.dT av):=by
 obtain⟨its,_,⟨o,e,c,n,d⟩,_⟩:=I.tuple h1;exact wu I e d
theorem rW (I:Inv X aa σ H s)(h1:eK X.K H a vs):(∀av ob,H a≠some (.dK av ob))/\∀av,H a≠some (.dT av):=by
 obtain⟨its,_,p,_⟩:=I.list h1;obtain⟨o,e,c,n,d⟩:=p.isList;exact wu I e d
theorem wv (I:Inv X aa σ H s):∀(n:Nat){v:V}{d d':D},Is X.K H v d->Is X.K H v d'->ay n d=true->cB d d'=true:=by
 have g:∀ {p:D->Bool}(M:∀ {v:V}{d d':D},Is X.K H v d->Is X.K H v d'->p d=true->cB d d'=true) {vs:List V}{ds G:List D},IsL X.K H vs ds->IsL X.K H vs G->ds.all p=true->g9 ds G=true:=by
  intro p M vs;induction vs with
  |nil=>intro ds G h h' _;cases h;cases h';simp[g9]
  |cons v vs O=>
   intro ds G h h' hp;cases h with
   |cons h1 h2=>
    cases h' with
    |cons h3 h4=>
     rw[List.all_cons,vD]at hp;rw[g9,M h1 h3 hp.1,O h2 h4 hp.2];rfl
 intro n;induction n with
 |zero=>
  intro v d d' h h' hp;cases h<;>cases h'<;>first|(simp[ay]at hp;done)|simp[cB]
 |succ n M=>
  intro v d d' h h' hp;cases h with
  |tup h1 h2=>
   cases h' with
   |tup h3 h4=>
    rw[I.tuple_inj h3 h1]at h4;rw[cB];exact g M h2 h4 (by simpa [ay]using hp)
   |lst h3 h4=>exact(wt I h1 h3).elim
   |dk h3 _ _=>exact((rV I h1).1 _ _ h3).elim
   |dt h3 _ _=>exact((rV I h1).2 _ h3).elim
  |lst h1 h2=>
   cases h' with
   |lst h3 h4=>
    rw[I.list_inj h3 h1]at h4;rw[cB];exact g M h2 h4 (by simpa [ay]using hp)
   |tup h3 h4=>exact(wt I h3 h1).elim
   |dk h3 _ _=>exact((rW I h1).1 _ _ h3).elim
   |dt h3 _ _=>exact((rW I h1).2 _ h3).elim
  |ty=>simp[ay]at hp
  |dk=>simp[ay]at hp
  |dt=>simp[ay]at hp
  |_=>cases h'<;>simp[cB]
theorem Di {α:Type}{p:α->Bool}{l:List α}{j:Nat}{x:α}(h:l.all p=true)(e:l[j]? = some x):p x=true:=uS h x (vL e)
theorem rX {A:Around}{p:D->Bool}(ih:∀ {M O:V}{d1 d2:D}{T U:Value},p d1=true->p d2=true->Is X.K H M d1->Is X.K H O d2->aC M T->aC O U->SeqAt.EqAt A s T U (cB d1 d2))
  {vs G:List V}{ds es:List D}{its g:List Value}(i1:IsL X.K H vs ds) (i2:IsL X.K H G es) (r1:aH vs its) (r2:aH G g) (p1:ds.all p=true) (p2:es.all p=true):
  ∀j (h1:j<its.toArray.size) (h2:j<g.toArray.size),SeqAt.EqAt A s its.toArray[j] g.toArray[j] (cB (ds.getD j .non) (es.getD j .non)):=by
 intro j h1 h2;rw[vH]at h1 h2;have l1:=r1.length;have l2:=r2.length;have l3:=i1.length;have l4:=i2.length;have hv:j<vs.length:=by omega
 have hw:j<G.length:=by omega
 have hd:j<ds.length:=by omega
 have he:j<es.length:=by omega
 obtain⟨u,e1,q1⟩:=r1.get (i:=j) (x:=vs[j]) (by simp[hv]);obtain⟨u',e2,q2⟩:=r2.get (i:=j) (x:=G[j]) (by simp[hw]);obtain⟨v,e3,q3⟩:=i1.get (i:=j) (d:=ds[j]) (by simp[hd]);obtain⟨w,e4,q4⟩:=i2.get (i:=j) (d:=es[j]) (by simp[he]);have a1:its.toArray[j]=u:=by have z:=(vV e1).2;simpa using z
 have a2:g.toArray[j]=u':=by have z:=(vV e2).2;simpa using z
 have a3:vs[j]=v:=by simpa [hv]using e3
 have a4:G[j]=w:=by simpa [hw]using e4
 have a5:ds.getD j .non=ds[j]:=by simp[List.getD,hd]
 have a6:es.getD j .non=es[j]:=by simp[List.getD,he]
 rw[a1,a2,a5,a6];exact ih (Di p1 (j:=j) (by simp[hd])) (Di p2 (j:=j) (by simp[he])) (a3 ▸ q3) (a4 ▸ q4) q1 q2
theorem ww {xs ys:List D}(j:Nat)(x y:D)(h1:xs[j]? = some x)(h2:ys[j]? = some y):cB (xs.getD j .non) (ys.getD j .non)=cB x y:=by
 simp[List.getD,h1,h2]
abbrev Jl (A:Around)(s:Shared)(g G:Value)(b:Bool):Prop:=SeqAt.RcAt A s g G b/\SeqAt.EqAt A s g G b/\SeqAt.RcNeAt A s g G (!b)
theorem wx {g G:Addr}(rc:SeqAt.RcAt A s (.ref g) (.ref G) b)(M:SeqAt.RcNeAt A s (.ref g) (.ref G) (!b))(h:g=G->b=true):Jl A s (.ref g) (.ref G) b:=by
 refine⟨rc,?_,M⟩;by_cases ha:g=G
 ·subst ha;rw[h rfl];exact SeqAt.EqAt.same _
 ·exact SeqAt.EqAt.of_refs ha rc
theorem rY (O:ay 0 d1=true)(p2:ay 0 d2=true)(T:Is X.K H v1 d1)(G:Is X.K H v2 d2)(M:aC v1 u1)(g:aC v2 u2):Jl A s u1 u2 (cB d1 d2):=by
 cases T with
 |non=>
  cases M
  cases G with
  |non=>cases g;rw[cB];exact⟨.none_none,.same _,.none_none⟩
  |bl b=>cases g;simp only[cB];exact⟨.none_bool _,.none_bool _,.none_bool _⟩
  |int b=>obtain⟨t',rfl⟩:=g;simp only[cB];exact⟨.none_int _ _,.none_int _ _,.none_int _ _⟩
  |str b=>obtain⟨t',rfl⟩:=g;simp only[cB];exact⟨.none_str _ _,.none_str _ _,.none_str _ _⟩
  |_=>simp at p2
 |bl a=>
  cases M
  cases G with
  |non=>cases g;simp only[cB];exact⟨.bool_none _,.bool_none _,.bool_none _⟩
  |bl b=>cases g;rw[cB];exact⟨.bool_bool _ _,.bool_bool _ _,.bool_bool _ _⟩
  |int b=>obtain⟨t',rfl⟩:=g;rw[cB,←Bool.beq_eq_decide_eq];exact⟨.bool_int _ _ _,.bool_int _ _ _,.bool_int _ _ _⟩
  |str b=>obtain⟨t',rfl⟩:=g;simp only[cB];exact⟨.bool_str _ _ _,.bool_str _ _ _,.bool_str _ _ _⟩
  |_=>simp at p2
 |int a=>
  obtain⟨t,rfl⟩:=M;cases G with
  |non=>cases g;simp only[cB];exact⟨.int_none _ _,.int_none _ _,.int_none _ _⟩
  |bl b=>cases g;rw[cB,←Bool.beq_eq_decide_eq];exact⟨.int_bool _ _ _,.int_bool _ _ _,.int_bool _ _ _⟩
  |int b=>obtain⟨t',rfl⟩:=g;rw[cB,←Bool.beq_eq_decide_eq];exact⟨.int_int _ _ _ _,.int_int _ _ _ _,.int_int _ _ _ _⟩
  |str b=>obtain⟨t',rfl⟩:=g;simp only[cB];exact⟨.int_str _ _ _ _,.int_str _ _ _ _,.int_str _ _ _ _⟩
  |_=>simp at p2
 |str a=>
  obtain⟨t,rfl⟩:=M;cases G with
  |non=>cases g;simp only[cB];exact⟨.str_none _ _,.str_none _ _,.str_none _ _⟩
  |bl b=>cases g;simp only[cB];exact⟨.str_bool _ _ _,.str_bool _ _ _,.str_bool _ _ _⟩
  |int b=>obtain⟨t',rfl⟩:=g;simp only[cB];exact⟨.str_int _ _ _ _,.str_int _ _ _ _,.str_int _ _ _ _⟩
  |str b=>obtain⟨t',rfl⟩:=g;rw[cB,←Bool.beq_eq_decide_eq];exact⟨.str_str _ _ _ _,.str_str _ _ _ _,.str_str _ _ _ _⟩
  |_=>simp at p2
 |_=>simp at O
theorem Dj (I:Inv X aa σ H s):∀(n:Nat){A:Around}{v1 v2:V}{d1 d2:D}{u1 u2:Value},A.units+n<cLine->ay n d1=true->ay n d2=true->Is X.K H v1 d1->Is X.K H v2 d2->aC v1 u1->aC v2 u2->Jl A s u1 u2 (cB d1 d2):=by
 intro n;induction n with
 |zero=>exact λ_ p1 p2 i1 i2 O U=>rY p1 p2 i1 i2 O U
 |succ n ih=>
  intro A v1 v2 d1 d2 u1 u2 hu p1 p2 i1 i2 O U;have g:A.units<cLine:=by omega
  have LL:∀ {v1 v2:V}{d1 d2:D}{u1 u2:Value},ay n d1=true->ay n d2=true->Is X.K H v1 d1->Is X.K H v2 d2->aC v1 u1->aC v2 u2->SeqAt.EqAt A.in1 s u1 u2 (cB d1 d2):=λp1 p2 i1 i2 O U=>(ih (A:=A.in1) (by show A.units+1+n<cLine;omega) p1 p2 i1 i2 O U).2.1;by_cases f2:ay 0 d2=true
  ·by_cases f1:ay 0 d1=true
   ·exact rY f1 f2 i1 i2 O U
   ·cases i1 with
    |tup h1 k1=>
     cases O
     obtain⟨its,T,G,z1⟩:=I.tuple h1;cases i2 with
     |non=>cases U;simp only[cB];exact⟨.tuple_none G g,.tuple_none G g,.tuple_none G g⟩
     |bl=>cases U;simp only[cB];exact⟨.tuple_bool _ G g,.tuple_bool _ G g,.tuple_bool _ G g⟩
     |int=>obtain⟨t,rfl⟩:=U;simp only[cB];exact⟨.tuple_int _ _ G g,.tuple_int _ _ G g,.tuple_int _ _ G g⟩
     |str=>obtain⟨t,rfl⟩:=U;simp only[cB];exact⟨.tuple_str _ _ G g,.tuple_str _ _ G g,.tuple_str _ _ G g⟩
     |_=>simp at f2
    |lst h1 k1=>
     cases O
     obtain⟨its,T,G,z1⟩:=I.list h1;replace G:=G.isList;cases i2 with
     |non=>cases U;simp only[cB];exact⟨.list_none G g,.list_none G g,.list_none G g⟩
     |bl=>cases U;simp only[cB];exact⟨.list_bool _ G g,.list_bool _ G g,.list_bool _ G g⟩
     |int=>obtain⟨t,rfl⟩:=U;simp only[cB];exact⟨.list_int _ _ G g,.list_int _ _ G g,.list_int _ _ G g⟩
     |str=>obtain⟨t,rfl⟩:=U;simp only[cB];exact⟨.list_str _ _ G g,.list_str _ _ G g,.list_str _ _ G g⟩
     |_=>simp at f2
    |_=>simp at f1 p1
  ·cases i2 with
   |tup h2 k2=>
    cases U
    obtain⟨CM,HC,M,z2⟩:=I.tuple h2;cases i1 with
    |tup h1 k1=>
     cases O
     obtain⟨its,T,G,z1⟩:=I.tuple h1;rename_i a2 ws es a1 vs ds;have he:=rX (A:=A.in1) (p:=ay n) LL k1 k2 T HC (by simpa using p1) (by simpa using p2);have JV:((List.range (min its.toArray.size CM.toArray.size)).all (λj=>cB (ds.getD j .non) (es.getD j .non)) && its.toArray.size == CM.toArray.size)=cB (.tup ds) (.tup es):=by
      rw[cB,vH,vH,←T.length,←HC.length,k1.length,k2.length];by_cases hl:ds.length=es.length
      ·rw[←hl,Nat.min_self,beq_self_eq_true,Bool.and_true];exact jk _ hl λj x y e1 e2=>ww j x y e1 e2
      ·rw[wo hl,beq_eq_false_iff_ne.mpr hl,Bool.and_false]
     have rc:=SeqAt.RcAt.tuples G M g he;have rn:=SeqAt.RcNeAt.tuples G M g he;rw[JV]at rc rn;exact wx rc rn λe=>by subst e;exact wv I (n+1) (.tup h1 k1) (.tup h2 k2) p1
    |lst h1 k1=>cases O;obtain⟨its,T,G,z1⟩:=I.list h1;simp only[cB];exact⟨.list_tuple G.isList M g,.list_tuple G.isList M g,.list_tuple G.isList M g⟩
    |non=>cases O;simp only[cB];exact⟨.none_tuple M g,.none_tuple M g,.none_tuple M g⟩
    |bl=>cases O;simp only[cB];exact⟨.bool_tuple _ M g,.bool_tuple _ M g,.bool_tuple _ M g⟩
    |int=>obtain⟨t,rfl⟩:=O;simp only[cB];exact⟨.int_tuple _ _ M g,.int_tuple _ _ M g,.int_tuple _ _ M g⟩
    |str=>obtain⟨t,rfl⟩:=O;simp only[cB];exact⟨.str_tuple _ _ M g,.str_tuple _ _ M g,.str_tuple _ _ M g⟩
    |_=>simp at p1
   |lst h2 k2=>
    cases U
    obtain⟨CM,HC,M,z2⟩:=I.list h2;replace M:=M.isList;cases i1 with
    |lst h1 k1=>
     cases O
     obtain⟨its,T,G,z1⟩:=I.list h1;replace G:=G.isList;rename_i a2 ws es a1 vs ds;have he:=rX (A:=A.in1) (p:=ay n) LL k1 k2 T HC (by simpa using p1) (by simpa using p2);have both:SeqAt.RcAt A s (.ref a1) (.ref a2) (cB (.lst ds) (.lst es))/\SeqAt.RcNeAt A s (.ref a1) (.ref a2) (!cB (.lst ds) (.lst es)):=by
      have hz:its.toArray.size=ds.length/\CM.toArray.size=es.length:=by rw[vH,vH,←T.length,←HC.length,k1.length,k2.length];exact⟨rfl,rfl⟩
      by_cases hl:ds.length=es.length
      ·have JV:(List.range its.toArray.size).all (λj=>cB (ds.getD j .non) (es.getD j .non))=cB (.lst ds) (.lst es):=by
        rw[cB,hz.1];exact jk _ hl λj x y e1 e2=>ww j x y e1 e2
       have hs:=(hz.1.trans hl).trans hz.2.symm;have rc:=SeqAt.RcAt.lists G M hs g he;have rn:=SeqAt.RcNeAt.lists G M hs g he;rw[JV]at rc rn;exact⟨rc,rn⟩
      ·have hs:(its.toArray.size != CM.toArray.size)=true:=by rw[hz.1,hz.2];exact bne_iff_ne.mpr hl
       rw[cB,wo hl];exact⟨.lists_lengths G M hs g,.lists_lengths G M hs g⟩
     exact wx both.1 both.2 λe=>by subst e;exact wv I (n+1) (.lst h1 k1) (.lst h2 k2) p1
    |tup h1 k1=>cases O;obtain⟨its,T,G,z1⟩:=I.tuple h1;simp only[cB];exact⟨.tuple_list G M g,.tuple_list G M g,.tuple_list G M g⟩
    |non=>cases O;simp only[cB];exact⟨.none_list M g,.none_list M g,.none_list M g⟩
    |bl=>cases O;simp only[cB];exact⟨.bool_list _ M g,.bool_list _ M g,.bool_list _ M g⟩
    |int=>obtain⟨t,rfl⟩:=O;simp only[cB];exact⟨.int_list _ _ M g,.int_list _ _ M g,.int_list _ _ M g⟩
    |str=>obtain⟨t,rfl⟩:=O;simp only[cB];exact⟨.str_list _ _ M g,.str_list _ _ M g,.str_list _ _ M g⟩
    |_=>simp at p1
   |_=>simp at f2 p2
@[simp] def dF:D->D->OB:=λx y=>if ay 40 x=true/\ay 40 y=true then some (.bl (cB x y),false)else none
@[simp] def yP:D->D->OB:=λx y=>if ay 40 x=true/\ay 40 y=true then some (.bl (!cB x y),false)else none
theorem dc (hu:X.A.units+40<cLine):cY X (compareOp .Eq) (rD X.K dF):=by
 intro aa s σ H x y v u Q I G M q;obtain⟨B,dx,U,d,b,g,O,T,e,q⟩:=q;unfold dF at e;split at e
 ·rename_i hp;cases e
  exact(Dj I 40 hu hp.1 hp.2 (O.mono g) (T.mono g) G M).1 _ _ _ _ ⟨.bl _,H,I,rfl,q.one g (.bl _)⟩
 ·cases e
theorem BL (hu:X.A.units+40<cLine):cY X (compareOp .NotEq) (rD X.K yP):=by
 intro aa s σ H x y v u Q I G M q;obtain⟨B,dx,U,d,b,g,O,T,e,q⟩:=q;unfold yP at e;split at e
 ·rename_i hp;cases e
  exact(Dj I 40 hu hp.1 hp.2 (O.mono g) (T.mono g) G M).2.2 _ _ _ _ ⟨.bl _,H,I,rfl,q.one g (.bl _)⟩
 ·cases e
end
section
variable {X:Cx}{a b e:Expr}{pos:Pos}
theorem wy {K:Frag}{H:Hp}{vs:List V}{ds:List D}{i:Int}{d:D}(h:IsL K H vs ds)(e:iX ds i=some d):∃v,iX vs i=some v/\Is K H v d:=by
 unfold iX at e ⊢;rw[h.length];cases q:wh ds.length i with
 |none=>rw[q]at e;cases e
 |some j=>rw[q]at e;exact h.get e
@[simp] def cw:D->D->OB
 |.lst ds,.int i=>(iX ds i).map λd=>(d,false)
 |.tup ds,.int i=>(iX ds i).map λd=>(d,false)
 |.str z,.int i=>if z.length<=sizeLine then (iX z.cps.toList i).map λc=>(.str ⟨#[c]⟩,false)else none
 |_,_=>none
theorem Jm:AR X (rD X.K cw):=by
 intro g G aa s σ H x y v u Q I T U q hs;obtain⟨B,dx,dy,d,b,M,ix,iy,e,q⟩:=q;cases ix<;>try (cases e;done)
 all_goals (cases iy<;>try (cases e;done))
 ·simp only[cw]at e;split at e
  ·rename_i hz;obtain⟨c,O,e2⟩:=oY e;cases e2
   exact ul g G aa s σ H _ _ v u Q I T U ⟨_,_,c,rfl,rfl,hz,O,q.one M (.str _)⟩ hs
  ·cases e
 ·rename_i h hl i;simp only[cw]at e;obtain⟨c,O,e2⟩:=oY e;cases e2
  obtain⟨w,h1,h2⟩:=wy hl O;exact uj g G aa s σ H _ _ v u Q I T U ⟨_,_,_,w,rfl,rfl,aP M h,h1,q.one M h2⟩ hs
 ·rename_i h hl i;simp only[cw]at e;obtain⟨c,O,e2⟩:=oY e;cases e2
  obtain⟨w,h1,h2⟩:=wy hl O;exact Bw g G aa s σ H _ _ v u Q I T U ⟨_,_,_,w,rfl,rfl,M.seq h,h1,q.one M h2⟩ hs
theorem bf (ha:JE X a fa)(hb:JE X b fb)(hs:qr b:=by intro _ _;rfl):JE X (.Subscript a b pos) (f2 cw fa fb):=PE.to (zf Jm ha hb hs) λ_ _ _ h=>B4 h
abbrev FO:=Env->Option (Option Int)
def MF (K:Frag)(f:FO):TO:=λσ H Q=>∃(B:Hp)(ρ:Env)(o:Option Int),aA B H/\dB K B σ ρ/\f ρ=some o/\∀H',aA H H'->Q o H'
abbrev JO (X:Cx)(e:Option Expr)(f:FO):Prop:=PO X e (MF X.K f)
@[simp] noncomputable def pc:FO:=λ_=>some none
@[simp] noncomputable def hW (f:FE):FO:=λρ=>match f ρ with|some (.int i,_)=>some (some i)|_=>none
theorem lU:JO X none pc:=λaa s σ H Q I h=>Br aa s σ H Q I (by
 obtain⟨B,ρ,o,g,r,e,q⟩:=h;cases e
 exact q H (.refl H))
theorem iG (h:JE X e f):JO X (some e) (hW f):=λaa s σ H Q I q=>Bs h aa s σ H Q I (by
 obtain⟨B,ρ,o,g,r,e,q⟩:=q;unfold hW at e;split at e
 ·rename_i i U G;cases e
  refine⟨B,ρ,_,_,g,r,G,λv M N1 O T _=>?_⟩;cases T
  exact⟨i,rfl,q M O.hh⟩
 ·cases e)
def lL (ds:List D)(lo hi:Option Int):List D:=(ds.drop (HT.c7 ds.length 0 lo)).take (HT.c7 ds.length ds.length hi - HT.c7 ds.length 0 lo)
theorem qF {K:Frag}{H:Hp}{vs:List V}{ds:List D}{lo hi:Option Int}(h:IsL K H vs ds):IsL K H (o4 vs lo hi) (lL ds lo hi):=by
 unfold o4 lL;rw[h.length];exact(h.drop _).take _
@[simp] def MG (fa:FE)(fl g:FO):FE:=λρ=>(fa ρ).bind λx=>(fl ρ).bind λl=>(g ρ).bind λh=>match x.1 with
 |.lst ds=>some (.lst (lL ds l h),true)
 |.tup ds=>if HT.c7 ds.length 0 l=0/\HT.c7 ds.length ds.length h=ds.length then none else some (.tup (lL ds l h),false)
 |_=>none
theorem bB.to (h:bB X f r)(k:∀xs H Q,r' xs H Q->r xs H Q):bB X f r':=λaa s σ H xs us Q I g q=>h aa s σ H xs us Q I g (k xs H Q q)
variable {es:List Expr}{x:Str}{p:Pos}{id T:String}
theorem bv (hc:bB X (.builtin id) (zp X.K f))(hm:X.mg x=none)(hv:bootBuiltins x=some (.builtin id))(ha:JA X (e::es) fa)(M:Gl X x:=by rfl)(hn:x ≠ "__name__":=by decide)(g:(x == ("__debug__" : Str))=false:=by decide)
  (he:starEach (e::es) X.env=(false,eval e X.env)::starEach es X.env:=by rfl) (G:(backTo pos (starEach es X.env)).any (·.1)=false:=by rfl):JE X (.Call (.Name x p) (e::es) [] pos) (fA f fa):=PE.to (rF hc M hm hv ha hn g he G) λ_ _ _ h=>B5 h
theorem kH (hc:bB X (.type T) (zp X.K f))(hm:X.mg x=none)(hv:bootBuiltins x=some (.type T))(ha:JA X (e::es) fa)(M:Gl X x:=by rfl)(hn:x ≠ "__name__":=by decide)(g:(x == ("__debug__" : Str))=false:=by decide)
  (he:starEach (e::es) X.env=(false,eval e X.env)::starEach es X.env:=by rfl) (G:(backTo pos (starEach es X.env)).any (·.1)=false:=by rfl):JE X (.Call (.Name x p) (e::es) [] pos) (fA f fa):=PE.to (oQ hc M hm hv ha hn g he G) λ_ _ _ h=>B5 h
@[simp] noncomputable def eQ:List D->OB
 |[.lst ds]=>some (.int ds.length,false)
 |[.tup ds]=>some (.int ds.length,false)
 |[.str z]=>if z.length<=sizeLine then some (.int z.length,false)else none
 |_=>none
theorem hZ:bB X (.builtin "len") (zp X.K eQ):=by
 refine bB.to (bB.or qw qx) λxs H Q q=>?_;obtain⟨B,ds,d,b,g,i,e,q⟩:=q;cases i with
 |nil=>simp[eQ]at e
 |cons G M=>
  cases M with
  |cons _ _=>cases G<;>simp[eQ]at e
  |nil=>
   cases G<;>try (simp[eQ]at e;done)
   ·simp only[eQ]at e;split at e
    ·rename_i hz;cases e
     exact .inr ⟨_,rfl,hz,q.one g (.int _)⟩
    ·cases e
   ·rename_i h hl;simp only[eQ]at e;cases e
    refine .inl ⟨_,_,rfl,.inr (aP g h),?_⟩;rw[hl.length];exact q.one g (.int _)
   ·rename_i h hl;simp only[eQ]at e;cases e
    refine .inl ⟨_,_,rfl,.inl (g.seq h),?_⟩;rw[hl.length];exact q.one g (.int _)
theorem z7 (hm:X.mg x=none)(hv:bootBuiltins x=some (.type n))(g:Gl X x:=by rfl)(hn:x ≠ "__name__":=by decide)(hd:(x == ("__debug__" : Str))=false:=by decide):JE X (.Name x pos) (fC (.ty n)) :=
 PE.to (Bf g hm hv (v:=.ty n) rfl hn hd) λ_ _ _ h=>ya (λ_=>.ty n) h
end
theorem z8 (g:cV k A):A.units+40<cLine:=by have:=g.un;omega
section
variable {X:Cx}{a b e:Expr}{pos:Pos}{x:Str}{p:Pos}
theorem z9 (h:∃u v,X.mg x=some u/\aC v u/\∀B,Is X.K B v d)(g:Gl X x:=by rfl)(hd:(x == ("__debug__" : Str))=false:=by decide):JE X (.Name x pos) (fC d):=by
 obtain⟨u,v,hm,r,i⟩:=h;exact BF g hm r i hd
@[simp] noncomputable def wz:D->D->OB
 |.int i,.int j=>some (.int (i+j),false)
 |.str i,.str j=>if i.length+j.length<=sizeLine then some (.str (i++j),false)else none
 |_,_=>none
theorem BM:cY X (binaryOp .Add) (rD X.K wz):=by
 refine g8 (r:=rD X.K (AT Ey BI)) (m9 G9 E2) λx y H Q q=>?_;obtain⟨B,dx,g,d,b,G,M,O,e,q⟩:=q;refine⟨B,dx,g,d,b,G,M,O,?_,q⟩;cases dx<;>try (cases e;done)
 all_goals (cases g<;>try (cases e;done))
 all_goals (simp[wz]at e;simp[AT,Ey,BI,wm,F5,e])
@[simp] def iY:D->D->OB:=G8
theorem gA:cY X (binaryOp .Mult) (rD X.K iY):=GB
@[simp] def zA:D->D->OB:=Lf
theorem pd:cY X (compareOp .Lt) (rD X.K zA):=Jj
@[simp] noncomputable def tV:D->D->OB
 |.int i,.int j=>some (.bl (decide (i<=j)),false)
 |.str i,.str j=>some (.bl (!decide (j.cps.toList<i.cps.toList)),false)
 |_,_=>none
theorem mB:cY X (compareOp .LtE) (rD X.K tV):=by
 refine g8 (r:=rD X.K (AT Ji Im)) (m9 Jk GC) λx y H Q q=>?_;obtain⟨B,dx,g,d,b,G,M,O,e,q⟩:=q;refine⟨B,dx,g,d,b,G,M,O,?_,q⟩;cases dx<;>try (cases e;done)
 all_goals (cases g<;>try (cases e;done))
 all_goals (simp[tV]at e;simp[AT,Ji,Im,wm,F5,e])
@[simp] noncomputable def yc:D->OB
 |.int i=>some (.int (-i),false)
 |_=>none
theorem Dk:Gf X (unaryOp .USub) (Jg X.K yc):=by
 intro aa s σ H x v Q I g q;obtain⟨B,dx,d,b,G,M,e,q⟩:=q;cases M<;>try (simp[yc]at e;done)
 simp only[yc]at e;cases e
 exact Ea aa s σ H _ v Q I g ⟨_,rfl,q.one G (.int _)⟩
@[simp] noncomputable def ye:D->D->Option Bool
 |.non,.non=>some true
 |_,.non=>some false
 |.bl a,.bl b=>some (a == b)
 |_,.bl _=>some false
 |_,_=>none
@[simp] def E4:D->D->OB:=λx y=>(ye x y).map λb=>(.bl b,false)
@[simp] def kI:D->D->OB:=λx y=>(ye x y).map λb=>(.bl (!b),false)
theorem w4 {K:Frag}{B:Hp}{x y:V}{v u:Value}{dx g:D}{k:Bool}(M:Is K B x dx)(O:Is K B y g)(G:aC x v)(T:aC y u)(e:ye dx g=some k):plainIs v u=true/\(v == u)=k:=by
 cases O<;>(first|(cases dx<;>simp[ye]at e;done)|skip)
 all_goals (cases M)
 all_goals (first|(obtain⟨t,rfl⟩:=G)|cases G)
 all_goals (cases T)
 all_goals (simp only[ye,Option.some.injEq]at e;subst e)
 all_goals (first|exact⟨rfl,rfl⟩|skip)
 all_goals (rename_i c d;cases c<;>cases d<;>exact⟨rfl,rfl⟩)
theorem BN:cY X (compareOp .Is) (rD X.K E4):=by
 intro aa s σ H x y v u Q I g G q;obtain⟨B,dx,U,d,b,M,O,T,e,q⟩:=q;obtain⟨k,ek,e⟩:=oY e;cases e
 obtain⟨h1,h2⟩:=w4 O T g G ek;refine wpAny_is_plain h1 ⟨.bl k,H,I,by rw[h2];rfl,q.one M (.bl _)⟩
theorem wA:cY X (compareOp .IsNot) (rD X.K kI):=by
 intro aa s σ H x y v u Q I g G q;obtain⟨B,dx,U,d,b,M,O,T,e,q⟩:=q;obtain⟨k,ek,e⟩:=oY e;cases e
 obtain⟨h1,h2⟩:=w4 O T g G ek;refine wpAny_isNot_plain h1 ⟨.bl (!k),H,I,by rw[h2];rfl,q.one M (.bl _)⟩
@[simp] noncomputable def eN:D->Bool
 |.non=>true|.bl _=>true|.int _=>true|.str _=>true
 |_=>false
noncomputable def zB (x:D)(ds:List D):Bool:=ds.any λy=>cB y x
@[simp] noncomputable def fL:D->Option (List D)
 |.lst ds=>some ds
 |.tup ds=>some ds
 |_=>none
@[simp] def BO:D->D->OB:=λx y=>(fL y).bind λds=>if eN x=true/\ds.all eN=true then some (.bl (zB x ds),false)else none
@[simp] def fj:D->D->OB:=λx y=>(fL y).bind λds=>if eN x=true/\ds.all eN=true then some (.bl (!zB x ds),false)else none
theorem mC {K:Frag}{B:Hp}{v:V}{d:D}(i:Is K B v d)(h:eN d=true):iZ v=true:=by
 cases i<;>first|rfl|(simp[eN]at h)
theorem Jn {K:Frag}{B:Hp}{v w:V}{d e:D}(i:Is K B v d)(j:Is K B w e)(h:eN d=true)(h':eN e=true):AS v w=cB d e:=by
 cases i<;>(first|(simp[eN]at h;done)|skip)
 all_goals (cases j<;>(first|(simp[eN]at h';done)|skip))
 all_goals (simp only[AS,cB,Bool.beq_eq_decide_eq])
theorem rZ {K:Frag}{B:Hp}:∀ {vs:List V}{ds:List D},IsL K B vs ds->ds.all eN=true->vs.all iZ=true
 |_,_,.nil,_=>rfl
 |_,_,.cons i t,h=>by
  rw[List.all_cons,vD]at h;rw[List.all_cons,mC i h.1,rZ t h.2];rfl
theorem zC {K:Frag}{B:Hp}{v:V}{d:D}(j:Is K B v d)(hd:eN d=true):∀ {vs:List V}{ds:List D},IsL K B vs ds->ds.all eN=true->Ik v vs=zB d ds
 |_,_,.nil,_=>rfl
 |_,_,.cons i t,h=>by
  rw[List.all_cons,vD]at h;have e:=zC j hd t h.2;unfold Ik zB at *;rw[List.any_cons,List.any_cons,e,Jn i j h.1 hd]
theorem Dl:cY X (compareOp .In) (rD X.K BO):=by
 refine g8 xS λx y H Q q=>?_;obtain⟨B,dx,O,d,b,g,G,M,e,q⟩:=q;obtain⟨ds,es,e⟩:=oX e;split at e
 ·rename_i hf;cases e
  cases M<;>simp only[fL]at es<;>try (cases es;done)
  ·rename_i h hl;cases es
   exact⟨_,_,rfl,.inr (aP g h),mC G hf.1,rZ hl hf.2,by rw[if_neg (by decide),zC G hf.1 hl hf.2];exact q.one g (.bl _)⟩
  ·rename_i h hl;cases es
   exact⟨_,_,rfl,.inl (g.seq h),mC G hf.1,rZ hl hf.2,by rw[if_neg (by decide),zC G hf.1 hl hf.2];exact q.one g (.bl _)⟩
 ·cases e
theorem mD:cY X (compareOp .NotIn) (rD X.K fj):=by
 refine g8 qu λx y H Q q=>?_;obtain⟨B,dx,O,d,b,g,G,M,e,q⟩:=q;obtain⟨ds,es,e⟩:=oX e;split at e
 ·rename_i hf;cases e
  cases M<;>simp only[fL]at es<;>try (cases es;done)
  ·rename_i h hl;cases es
   exact⟨_,_,rfl,.inr (aP g h),mC G hf.1,rZ hl hf.2,by rw[if_pos rfl,zC G hf.1 hl hf.2];exact q.one g (.bl _)⟩
  ·rename_i h hl;cases es
   exact⟨_,_,rfl,.inl (g.seq h),mC G hf.1,rZ hl hf.2,by rw[if_pos rfl,zC G hf.1 hl hf.2];exact q.one g (.bl _)⟩
 ·cases e
theorem gS:bootBuiltins "len" = some (.builtin "len"):=PySem.boot_len
theorem gB:bootBuiltins "isinstance" = some (.builtin "isinstance"):=by decide +kernel
theorem GF:bootBuiltins "min" = some (.builtin "min"):=by decide +kernel
theorem GG:bootBuiltins "int" = some (.type "int"):=by decide +kernel
theorem E5:bootBuiltins "bool" = some (.type "bool"):=by decide +kernel
theorem E6:bootBuiltins "list" = some (.type "list"):=by decide +kernel
theorem wB:bootBuiltins "tuple" = some (.type "tuple"):=by decide +kernel
@[simp] noncomputable def MH:List D->OB
 |[.int i,.int j]=>some (.int (if j > i then j else i),false)
 |_=>none
@[simp] noncomputable def E7:List D->OB
 |[.int i,.int j]=>some (.int (if j<i then j else i),false)
 |_=>none
theorem zD {K:Frag}{B:Hp}{xs:List V}{i j:Int}(h:IsL K B xs [.int i,.int j]):xs=[.int i,.int j]:=by
 cases h with
 |cons h1 h2=>cases h1;cases h2 with|cons h3 h4=>cases h3;cases h4;rfl
theorem GH (hc:X.calm=true:=by rfl):bB X (.builtin "min") (zp X.K E7):=by
 refine bB.to (xO hc) λxs H Q q=>?_;obtain⟨B,ds,d,b,g,i,e,q⟩:=q;match ds,e with
 |[.int G,.int M],e=>simp only[E7]at e;cases e;exact⟨G,M,zD i,q.one g (.int _)⟩
@[simp] noncomputable def ia:D->String
 |.non=>"NoneType" | .bl _=>"bool" | .int _=>"int" | .str _=>"str" | .ty _=>"type" | .tup _=>"tuple" | .lst _=>"list" | .dk _ _=>"dict" | .dt _ _=>"dict"
@[simp] noncomputable def GI:D->Bool
 |.ty _=>true
 |_=>false
@[simp] noncomputable def wC (t n:String):OB :=
 if n = "int" then some (.bl (t == "int" || t == "bool"),false)else if n = "bool" then some (.bl (t == "bool"),false)else if n = "str" then some (.bl (t == "str"),false)
 else if n = "list" then some (.bl (t == "list"),false)else if n = "tuple" then some (.bl (t == "tuple"),false)else none
@[simp] def dh:List D->OB
 |[d,.ty n]=>if GI d=true then none else wC (ia d) n
 |_=>none
theorem BP {aa:List (Addr×Obj)}{σ:St}{H:Hp}{s:Shared}{A:Around}{E:Value->Shared->Prop}{Q:Value->Shared->Prop}{c:Value}{b:Bool}{v:V}{d:D}{u:Value}(I:Inv X aa σ H s)(i:Is X.K H v d)(hd:∀n,d≠.ty n)(g:aC v u)(e:PySem.W.kitOne X.K (.type (ia d)) c=some b)(h:∀tk,Q (.bool b) { s with toks:=tk }):
  wpAny (model X.prog X.w) A (call (.builtin "isinstance") [u,c]) Q E s:=by
 cases i with
 |non=>exact eX I g .non e h
 |bl y=>exact eX I g (.bl y) e h
 |int y=>exact eX I g (.int y) e h
 |str y=>exact eX I g (.str y) e h
 |ty n=>exact absurd rfl (hd n)
 |dk h1 _ _=>exact eX I g (.dK h1) e h
 |dt h1 _ _=>exact eX I g (.dT h1) e h
 |tup G _=>
  cases g
  obtain⟨its,_,⟨o,h1,h2,_⟩,_⟩:=I.tuple G;exact kia_one PySem.W.kitx_tuple I.kIn ⟨o,h1,h2⟩ e (λz=>nomatch z) h
 |lst hl _=>
  cases g
  obtain⟨its,_,⟨o,n,h1,h2,_⟩,_⟩:=I.list hl;exact kia_one PySem.W.kitx_list I.kIn ⟨o,h1,h2⟩ e (λz=>nomatch z) h
theorem E8 (K:Frag)(d:D)(hd:∀n,d≠.ty n):
  PySem.W.kitOne K (.type (ia d)) (.type "int")=some (ia d == "int" || ia d == "bool")/\PySem.W.kitOne K (.type (ia d)) (.type "bool")=some (ia d == "bool")/\PySem.W.kitOne K (.type (ia d)) (.type "str")=some (ia d == "str") /\
   PySem.W.kitOne K (.type (ia d)) (.type "list")=some (ia d == "list")/\PySem.W.kitOne K (.type (ia d)) (.type "tuple")=some (ia d == "tuple"):=by
 cases d<;>(first|exact absurd rfl (hd _)|skip)
 all_goals (simp only[ia];refine⟨?_,?_,?_,?_,?_⟩<;>kernel_rfl)
theorem gC:bB X (.builtin "isinstance") (zp X.K dh):=by
 intro aa s σ H xs us Q I G q;obtain⟨B,ds,d,b,g,i,e,q⟩:=q;cases i with
 |nil=>cases e
 |cons M i=>cases i with
 |nil=>cases e
 |cons O i=>
  cases O<;>try (cases e;done)
  cases i<;>try (cases e;done)
  rename_i dx n;obtain⟨T,u2,rfl,U,r2⟩:=CV G;cases r2
  simp only[dh]at e;split at e
  ·cases e
  ·rename_i ht;have hd:∀n,dx≠.ty n:=λn z=>by subst z;exact ht rfl
   obtain⟨k1,k2,k3,k4,k5⟩:=E8 X.K dx hd;have gt:∀ {k:Bool},PySem.W.kitOne X.K (.type (ia dx)) (.type n)=some k->Fin X.K B H (.bl k) false Q->wq X (call (.builtin "isinstance") [T,.type n]) (EP X aa σ Q) X.xe s:=λ{k} hk q=>
    BP I (M.mono g) hd U hk λtk=>⟨.bl k,H,I.tok tk,rfl,q.one g (.bl k)⟩
   unfold wC at e;split at e
   ·rename_i z;subst z;cases e;exact gt k1 q
   split at e
   ·rename_i z;subst z;cases e;exact gt k2 q
   split at e
   ·rename_i z;subst z;cases e;exact gt k3 q
   split at e
   ·rename_i z;subst z;cases e;exact gt k4 q
   split at e
   ·rename_i z;subst z;cases e;exact gt k5 q
   ·cases e
@[simp] noncomputable def Lg:D->OB
 |.int i=>some (.int (Builtin.Int.intBits i),false)
 |_=>none
@[simp] def zE (f:FE):FA:=λρ=>(f ρ).bind λx=>fL x.1
theorem wD (h:JE X e f):JI X tg e (zE f):=by
 intro aa s σ H R I q;obtain⟨B,ρ,ds,sB,r,e',q⟩:=q;obtain⟨x,ex,es⟩:=oX e';obtain⟨xd,xb⟩:=x;cases xd<;>simp only[fL]at es<;>try (cases es;done)
 ·cases es
  refine DS h aa s σ H R I ⟨B,ρ,_,_,sB,r,ex,λv T N1 M U _=>?_⟩;cases U with
  |@tup a vs _ G hl=>
   refine⟨a,rfl,⟨vs,aP M.nh G⟩,q _ T N1 M λi H2 s2=>⟨λd ed=>?_,λg=>⟨vs,aP s2 G,by rw[hl.length];exact g⟩⟩⟩;obtain⟨v,O,iv⟩:=hl.get ed;refine⟨⟨vs,v,aP s2 G,O⟩,λy H3 hy=>?_⟩;obtain⟨rfl,hy⟩:=hy;have:=hy vs (aP s2 G);rw[O]at this;cases this;exact⟨N1,.refl s2,iv⟩
 ·cases es
  refine Bi h aa s σ H R I ⟨B,ρ,_,_,sB,r,ex,λv T N1 M U _=>?_⟩;cases U with
  |@lst a vs _ G hl=>
   refine⟨a,rfl,⟨vs,M.nh.seq G⟩,q _ T N1 M λi H2 s2=>⟨λd ed=>?_,λg=>⟨vs,s2.seq G,by rw[hl.length];exact g⟩⟩⟩;obtain⟨v,O,iv⟩:=hl.get ed;refine⟨⟨vs,v,s2.seq G,O⟩,λy H3 hy=>?_⟩;obtain⟨rfl,hy⟩:=hy;have:=hy vs (s2.seq G);rw[O]at this;cases this;exact⟨N1,.refl s2,iv⟩
noncomputable def fm (lo:Int)(n:Nat):List D:=(List.range n).map λ(k:Nat)=>.int (lo+(k:Int))
theorem zF {K:Frag}{B:Hp}(lo:Int)(n:Nat):my K (Ij lo n) B (fm lo n):=by
 intro i H s;unfold fm;refine⟨λd ed=>?_,λhl=>by rw[vI,List.length_range]at hl;exact hl⟩;rw[vB]at ed;obtain⟨k,ek,ed⟩:=oY ed;have hk:=vV ek;obtain⟨g,hk⟩:=hk;rw[List.length_range]at g;rw[List.getElem_range]at hk;subst hk;subst ed;refine⟨g,λx H' hy=>?_⟩;obtain⟨rfl,rfl⟩:=hy;exact⟨B,.refl s,.int _⟩
@[simp] def fW (f:FE):FA:=λρ=>match f ρ with
 |some (.int j,_)=>if -1000<=j/\j<=1000 then some (fm 0 j.toNat)else none
 |_=>none
theorem mE (hm:X.mg "range" = none)(h:JE X a f)(M:Gl X "range":=by rfl)(hs:starEach [a] X.env=[(false,eval a X.env)]:=by rfl):PI X tg (.Call (.Name "range" p) [a] [] pos) (Il X.K (fW f)):=by
 refine PI.to (xL M hm (ae h ai hs) hs) λσ H R q=>?_;obtain⟨B,ρ,ds,O,r,g,q⟩:=q;unfold fW at g;split at g
 ·rename_i j b' T;split at g
  ·rename_i hj;cases g
   refine⟨B,ρ,[.int j],O,r,by simp[ab,ag,T],λvs U N1 x1 G=>?_⟩;cases G with
   |cons G i2=>
    cases G;cases i2
    exact⟨j,rfl,by omega,by omega,q _ U N1 x1 λ_=>zF 0 j.toNat⟩
  ·cases g
 ·cases g
theorem zG (hm:X.mg "range" = none)(h:JE X a f)(g:Gl X "range":=by rfl)(hs:starEach [a] X.env=[(false,eval a X.env)]:=by rfl):JI X tg (.Call (.Name "range" p) [a] [] pos) (fW f) :=
 PI.to (mE hm h g hs) λσ H R ⟨B,ρ,ds,G,r,M,q⟩=>⟨B,ρ,ds,G,r,M,λJ H' N x h=>q J H' N x (h _)⟩
end
def eU (K:Frag)(x:Str)(st:Stmt):Prop:=∃(f:Addr)(fd:FuncData),Fl K x x st f fd/\nsIn K mainGlobals x=some (some (.ref f))
theorem def_mk {K:Frag}{x:Str}{st:Stmt}{f:Addr}{oc:Value}{od an:Option Addr}{lH:Array (Option Value)}{kV doc pm cQ ct:Value}(a:nsIn K mainGlobals x=some (some (.ref f)))
  (l:K.lookup f=some ⟨oc,od,.func (fnOf x x (dR st) (bI st) (a7 st) .none kV doc pm an cQ ct),lH⟩) (c:PySem.W.codeIn K cQ x=true) (k:PySem.W.keepIn K (.ref f)=true):eU K x st:=⟨f,_,Ek l c k,a⟩
section
variable {P:Program}{w:World}{K:Frag}{mg:Str->Option Value}{base:Heap}
theorem eU.fn {x:Str}{st:Stmt}{N ps:List Str}{k:Nat}{g:FS}{h:Heap}(F:eU K x st)(X:K.In h)(G:h.Ns mainGlobals mg)(S:FnScope N ps (a7 st))
  (M:∀(kV doc pm:Value)(an:Option Addr)(cQ ct:Value)(us:List Value),us.length=ps.length->bindArgs (fnOf x x (dR st) (bI st) (a7 st) .none kV doc pm an cQ ct) ⟨us,[]⟩=pure (ps.zip us))
  (hb:∀(f:Addr)(cQ:Value)(A:Around)(outer:List PySem.Env)(s:Shared)(H:Hp)(E:XK),cV k (A.deeper (envOfC x (a7 st) s.heap.objs.size f cQ))->o0 (lI tU P w K mg base N x (a7 st) f cQ A outer s H E).nox (bI st) g):
  Fn P w K mg base (k+1) x (aN g ps.length (N.length - ps.length)):=by
 obtain⟨f,fd,O,a⟩:=F;exact⟨f,fd,ps,GD O S (hb f),mg_of X G a,O.kp,O.binds M⟩
end
def GJ (H:Hp):Prop:=∀b,H b=none∨(∃o xs,H b=some (.frz o (.lst xs)))∨∃q,H b=some (.tbl q)
noncomputable def mF (g:List (Addr×Str))(G:Hp):Hp:=λb=>match g.lookup b with|some q=>some (.tbl q)|none=>G b
theorem dY (e:tabs.lookup b=some q):mF tabs G b=some (.tbl q):=by unfold mF;rw[e]
theorem ge (e:tabs.lookup b=none):mF tabs G b=G b:=by unfold mF;rw[e]
theorem yf {P:Program}{w:World}{K:Frag}{mg mb:Str->Option Value}{k:Nat}{fa a:Addr}{fd:FuncData}{x:Str}{sp:Sp}{g:Shared}{vs:List Value}{ns:List Int}(M:List (Addr×Str))
  (ht:∀b q,M.lookup b=some q->g.heap.get? b=some (PySem.W.tabObj #[])/\isCodeTable g.heap b) (NI:PySem.W.noTabs K=true)
  (KX:K.In g.heap) (FI:g.heap.Ns mainGlobals mg) (hb:g.heap.Ns builtinsNs mb) (NJ:∀x:Str,x ≠ "__name__"->mb x=bootBuiltins x) (JX:g.heap.NoLimit)
  (NK:∃bm ob,mg "__builtins__" = some (.ref bm)/\bm≠builtinsNs/\g.heap.get? bm=some ob/\ob.cls=.type "module"/\ob.dict=some builtinsNs/\ob.data=.plain) (hg:g.gens=#[])
  (ha:g.heap.get? a=some { cls:=.type "list",data:=.seq vs.toArray }) (hi:IntsAre vs ns) (hl:ns.length<=sizeLine) (hr:cV k callerA)
  (F:∀base:Heap,K.In base->base.Ns mainGlobals mg->oF P w K mg base tU k fa fd [x] sp) (HD:∀(s:Shared)(u:Value),BindsTo s fd ⟨[u],[]⟩ [(x,u)])
  (NL:∀H:Hp,(∀b q,M.lookup b=some q->H b=some (.tbl q))->eK K H a (ns.map V.int)->sp [.ref a] H (λv _=>v=.bl true) λ_ _ _=>False):
  codeAny (model P w) callerA (.call (.ref fa) ⟨[.ref a],[]⟩) (λr s'=>r=.ok (.ret (.bool true))/\OldK g.heap s'.heap/\s'.os=g.os/\AllBare s'.gens) g:=by
 have rv:=L2.gd hi;have JY:=hi.length;have HE:∀H:Hp,GJ H->(∀b q,M.lookup b=some q->H b=some (.tbl q))->eK K H a (ns.map V.int)->iW P w H g.heap->(∀b q,H b=some (.tbl q)->g.heap.get? b=some (PySem.W.tabObj #[])/\isCodeTable g.heap b) ->
   (∀b o u,H b=some (.frz o u)->b=a)->(∀b o u,H b=some (.frz o u)->K.lookup b=none) ->
   codeAny (model P w) callerA (.call (.ref fa) ⟨[.ref a],[]⟩) (λr s'=>r=.ok (.ret (.bool true))/\OldK g.heap s'.heap/\s'.os=g.os/\AllBare s'.gens) g:=by
  intro H hO hT hS hok hA hB hK;have NM:∀ {b:Addr}{o:Obj},g.heap.get? b=some o->(o.cls≠.none)->(o.cls≠.type "list")->H b=none:=λ{b o} e d d'=>by
   rcases hO b with q|⟨ob,xs,q⟩|⟨u,q⟩
   ·exact q
   ·have e':b=a:=hB b _ _ q;subst e';rw[ha]at e;cases e;exact absurd rfl d'
   ·rw[(hA b u q).1]at e;cases e;exact absurd rfl d
  have NN:∀ {b:Addr}{o:Obj}{es:Array DictEntry}{ep:Nat},g.heap.get? b=some o->o.data=.dict es ep->H b=none:=λ{b o es ep} e d=>by
   rcases hO b with q|⟨ob,xs,q⟩|⟨u,q⟩
   ·exact q
   ·have e':b=a:=hB b _ _ q;subst e';rw[ha]at e;cases e;cases d
   ·rw[(hA b u q).1]at e;cases e;cases d
  have U:∀ {b:Addr}{m:Str->Option Value},g.heap.Ns b m->(r0 g.heap H).Ns b m:=λ{b m} ⟨o,es,ep,e,d,r⟩=>⟨o,es,ep,ml e (NN e d),d,r⟩;have LM:K.In (r0 g.heap H):=λb o e=>ml (KX b o e) (by
   rcases hO b with q|⟨ob,xs,q⟩|⟨u,q⟩
   ·exact q
   ·rw[hK b _ _ q]at e;cases e
   ·have z:=(hA b u q).1;rw[KX b o e]at z;cases z
    have:=uS NI _ (PySem.W.mem_of_lookupK e);simp at this)
  have hM:Mod K mg (r0 g.heap H):=⟨LM,U FI,⟨mb,U hb,NJ⟩,let ⟨mc,h1,h2⟩:=JX;⟨mc,U h1,h2⟩,by
   obtain⟨bm,ob,b1,b2,b3,b4,b5⟩:=NK;exact⟨bm,ob,b1,b2,ml b3 (NM b3 (by rw[b4];exact λz=>nomatch z) (by rw[b4];intro z;injection z with z;exact absurd z (by decide))),b4,b5⟩⟩
  have e0:Env0 P w K mg (r0 g.heap H) callerA [] g H:=⟨rfl,hM,λb o e=>Bd e,Nat.le_of_eq (xH _ _),trivial,λb hb=>absurd (show b∈([]:List Addr)from hb) (by simp),hok,.of_eq hg⟩;refine codeAny_mono ((F _ LM (U FI)).run callerA [] g H ⟨[.ref a],[]⟩ [.ref a] [.ref a] _ _ hr e0 (HD g (.ref a)) (.cons rfl .nil) (NL H hT hS)) λr s' h=>?_;cases r with
  |error e=>exact False.elim h
  |ok fl=>
   cases fl with
   |next=>exact False.elim h
   |brk=>exact False.elim h
   |cont=>exact False.elim h
   |ret u=>
    obtain⟨v,H',os,bare,un,HF,r',q⟩:=h;have q':v=.bl true:=q;subst q';obtain rfl:u=Value.bool true:=r';have kp:∀b o,H b=none->g.heap.get? b=some o->s'.heap.get? b=some o:=λb o n e=>un.keep b o e n (by intro z;exact absurd (show b∈([]:List Addr)from z) (by simp)) (by simp);refine⟨rfl,⟨λb o e=>?_,λb o e=>un.there b o e (by simp)⟩,os,bare⟩;rcases hO b with z|⟨ob,xs,z⟩|⟨u,z⟩
    ·exact .inl (kp b o z e)
    ·have z2:=un.frzs b ob _ z;obtain⟨e1,_⟩:=hok b _ z;obtain⟨e2,_⟩:=HF b _ z2;rw[e]at e1;cases e1;exact .inl e2
    ·obtain⟨e1,e2⟩:=hA b u z;rw[e]at e1;cases e1;obtain⟨ps,e3,_⟩:=HF b _ (un.tbls b u z);exact .inr (.inl ⟨e2,rfl,#[],ps,rfl,by simpa using e3⟩)
 have Fm:∀q,M.lookup a≠some q:=λq z=>by
  have:=(ht a q z).1;rw[ha]at this;cases this
 have ta:M.lookup a=none:=by
  cases z:M.lookup a with
  |none=>rfl
  |some q=>exact absurd z (Fm q)
 have T:∀(G:Hp) b q,M.lookup b=some q->bi P w (mF M G) g.heap b (.tbl q):=λG b q z=>⟨#[],(ht b q z).1,trivial,λpos cv c=>by cases c⟩;cases hk:K.lookup a with
 |some o=>
  have e:=KX a o hk;rw[ha]at e;cases e
  refine HE (mF M λ_=>none) (λb=>?_) (λb q z=>dY z) (.inr ⟨_,vs.toArray,_,hk,rfl,rfl,rfl,by rw[vH,JY];exact hl,by simpa using rv⟩) (λb u z=>?_) (λb q z=>?_) (λb o u z=>?_) λb o u z=>?_
  all_goals cases O:M.lookup b with
   |none=>first|exact .inl (ge O)|(rw[ge O]at z;cases z)
   |some q'=>first|exact .inr (.inr ⟨q',dY O⟩)|(rw[dY O]at z;cases z;done)|(rw[dY O]at z;cases z;first|exact T _ b _ O|exact ht b _ O)
 |none=>
  refine HE (mF M λb=>if b=a then some (.frz { cls:=.type "list",data:=.seq vs.toArray } (.lst (ns.map V.int)))else none) (λb=>?_) (λb q z=>dY z) (.inl (.inr ⟨{ cls:=.type "list",data:=.seq vs.toArray },by rw[ge ta,if_pos rfl]⟩)) (λb u z=>?_) (λb q z=>?_) (λb o u z=>?_) λb o u z=>?_
  all_goals cases O:M.lookup b with
   |some q'=>first|exact .inr (.inr ⟨q',dY O⟩)|(rw[dY O]at z;cases z;done)|(rw[dY O]at z;cases z;first|exact T _ b _ O|exact ht b _ O)
   |none=>
    first
    |rw[ge O]at z
    |rw[ge O]
    by_cases hb:b=a
    ·first
     |rw[if_pos hb]at z
     |rw[if_pos hb]
     first
     |exact .inr (.inl ⟨_,_,rfl⟩)
     | (cases z;subst hb;exact⟨ha,by rw[vI];exact hl,vs,_,rv,ha⟩)
     |exact hb
     | (rw[hb];exact hk)
     |cases z
    ·first
     | (rw[if_neg hb]at z;cases z)
     |exact .inl (if_neg hb)
noncomputable def qG (L:List (Str×Option (Addr×Addr))):List (Addr×Str):=L.filterMap λp=>p.2.map λq=>(q.2,mv p.1)
structure mi (K:Frag)(L:List (Str×Option (Addr×Addr))):Prop where
 names:L=jE.map λx=>(x,PySem.W.tabIn K x)
 apart:((qG L).map (·.1)).Nodup
 none:PySem.W.noTabs K=true
theorem jc {α g:Type}[BEq α][LawfulBEq α]:∀ {l:List (α×g)}{a:α}{b:g},(l.map (·.1)).Nodup->(a,b)∈l->l.lookup a=some b
 | (c,d)::l,a,b,nd,h=>by
  rw[List.lookup_cons];rcases vP h with e|h
  ·cases e;simp
  ·have ne:a≠c:=λz=>(List.nodup_cons.mp nd).1 (by rw[←z];exact uT ⟨(a,b),h,rfl⟩);rw[show(a == c)=false by simpa using ne];exact jc (List.nodup_cons.mp nd).2 h
theorem ib {α g:Type}[BEq α][LawfulBEq α]:∀ {l:List (α×g)}{a:α}{b:g},l.lookup a=some b->(a,b)∈l
 | (c,d)::l,a,b,h=>by
  rw[List.lookup_cons]at h;cases e:a == c with
  |true=>rw[e]at h;cases h;rw[eq_of_beq e];exact mX
  |false=>rw[e]at h;exact mZ _ (ib h)
theorem mi.tb {K:Frag}{L:List (Str×Option (Addr×Addr))}(F:mi K L){H:Hp}(h:∀b q,(qG L).lookup b=some q->H b=some (.tbl q)):Tb K H:=λx hx c P e=>by
 refine h P (mv x) (jc F.apart ?_);rw[F.names];exact List.mem_filterMap.mpr ⟨(x,PySem.W.tabIn K x),uT ⟨x,hx,rfl⟩,by rw[e];rfl⟩
theorem tab_no {K:Frag}{x:Str}(e:nsIn K mainGlobals x=some none):PySem.W.tabIn K x=none:=by unfold PySem.W.tabIn;rw[e]
theorem tab_yes {K:Frag}{x:Str}{f c P:Addr}{oc G:Value}{od M:Option Addr}{lH g:Array (Option Value)}{fd:FuncData}{vs:Array Value}(O:nsIn K mainGlobals x=some (some (.ref f)))(e2:K.lookup f=some ⟨oc,od,.func fd,lH⟩)(T:fd.code=.ref c)
  (U:K.lookup c=some ⟨G,M,.fields vs,g⟩) (e5:vs[11]? = some (.ref P)):PySem.W.tabIn K x=some (c,P):=by unfold PySem.W.tabIn;simp only[O,e2,T,U,e5]
theorem tabs_fit {K:Frag}{g G M O:Option (Addr×Addr)}(h0:PySem.W.tabIn K "in_order" = g)(h1:PySem.W.tabIn K "has_seal" = G)(h2:PySem.W.tabIn K "is_first_death" = M)(h3:PySem.W.tabIn K "bases_by" = O)
  (T:((qG [("in_order",g),("has_seal",G),("is_first_death",M),("bases_by",O)]).map (·.1)).Nodup) (nt:PySem.W.noTabs K=true):mi K [("in_order",g),("has_seal",G),("is_first_death",M),("bases_by",O)] :=
 ⟨by subst h0;subst h1;subst h2;subst h3;rfl,T,nt⟩
theorem walkD {l:PySem.W.OpenLaw}{q:Program}{O:List Str}{XP:(Str->Option Value)->Heap->Prop}{YP:World->Heap->Prop}{d:DefRec}{K:Params->Frag}{k:Nat}{x:Str}{f:List D->OB}{L:List (Str×Option (Addr×Addr))}(hn:l.most=some 63)(JP:d.params.defaults=[])(hr:cV k callerA)
  (hY:∀(w:World)(h:Heap),YP w h->(K w.params).In h) (hT:∀w:World,mi (K w.params) L) (hD:(L.all λp=>p.2.isNone || ((recsOf q).find? λe=>e.name == p.1).isSome)=true)
  (F:∀(w:World)(mg:Str->Option Value)(fa:Addr)(h:Heap),(K w.params).In h->h.Ns mainGlobals mg->mg d.name=some (.ref fa) ->
   ∃fd:FuncData,(∀(s:Shared)(u:Value),BindsTo s fd ⟨[u],[]⟩ [(x,u)])/\∀base:Heap,(K w.params).In base->base.Ns mainGlobals mg->oF l.prog w (K w.params) mg base tU k fa fd [x] (BK (K w.params) f))
  (ht:∀ns:List Int,ns.length<=63->∃b,f [.lst (ns.map .int)]=some (.bl true,b)):PySem.W.WalkO q O XP YP l.row.toRowW d [] (λf vs=>PySem.call f vs):=by
 refine Att.rH hn JP λw s₀ s₁ mg mb fa o pm cd doc a vs ns G Y ho hd Fk hmg hobj U M hg=>?_;have KX:=hY w _ Y;obtain⟨fd,hb,hF⟩:=F w mg fa _ KX G.T.g hmg;refine yf (qG L) (λb u e=>?_) (hT w).none KX G.T.g G.T.b G.T.builtins G.T.nolimit G.T.bmain hg hobj U (vR M (by decide)) hr hF hb λH hH hS=>?_
 ·obtain⟨p,hp,e2⟩:=List.mem_filterMap.mp (ib e);obtain⟨⟨c,P⟩,e3,e4⟩:=oY e2;cases e4
  have JZ:=uS hD p hp;rw[e3]at JZ;rw[Option.isNone_some,Bool.false_or]at JZ;obtain⟨r,NO⟩:=uV JZ;have NP:PySem.W.tabIn (K w.params) p.1=some (c,P):=by
   rw[(hT w).names]at hp;obtain⟨y,_,rfl⟩:=vO hp;exact e3
  obtain⟨h1,h2⟩:=PySem.W.tab_of G.T KX NO NP;exact⟨h2,(h1.tab h2).isCodeTable⟩
 ·obtain⟨b,e⟩:=ht ns M;exact⟨H,_,_,b,⟨.refl H,(hT w).tb hH⟩,.cons (.lst hS (.flat rfl)) .nil,e,λv H' N x' i' _=>by cases i';rfl⟩
theorem eU.law {P:Program}{w:World}{K:Frag}{mg:Str->Option Value}{x y:Str}{st:Stmt}{N:List Str}{k:Nat}{g:FS}{h:Heap}{fa:Addr}(F:eU K x st)(X:K.In h)(G:h.Ns mainGlobals mg)(M:mg x=some (.ref fa))(S:FnScope N [y] (a7 st))
  (O:∀(kV doc pm:Value)(an:Option Addr)(cQ ct:Value)(u:Value),bindArgs (fnOf x x (dR st) (bI st) (a7 st) .none kV doc pm an cQ ct) ⟨[u],[]⟩=pure [(y,u)])
  (hb:∀(base:Heap),K.In base->base.Ns mainGlobals mg->∀(f:Addr)(cQ:Value)(A:Around)(outer:List PySem.Env)(s:Shared)(H:Hp)(E:XK),cV k (A.deeper (envOfC x (a7 st) s.heap.objs.size f cQ))->o0 (lI tU P w K mg base N x (a7 st) f cQ A outer s H E).nox (bI st) g):
  ∃fd:FuncData,(∀(s:Shared)(u:Value),BindsTo s fd ⟨[u],[]⟩ [(y,u)])/\∀base:Heap,K.In base->base.Ns mainGlobals mg->oF P w K mg base tU (k+1) fa fd [y] (BK K (aN g 1 (N.length - 1))):=by
 obtain⟨f,fd,T,a⟩:=F;have e:=M.symm.trans (mg_of X G a);cases e
 refine⟨fd,λs u=>?_,λbase U nb=>GD T S (hb base U nb _)⟩;obtain⟨oc,od,kV,doc,pm,an,cQ,ct,lH,rfl,lk,Fk⟩:=T.ex;exact .of_eq (O kV doc pm an cQ ct u)
section
variable {X:Cx}{a b e:Expr}{pos:Pos}{x:Str}{p:Pos}
@[simp] noncomputable def BQ:D->D->OB
 |.lst xs,.lst ys=>if xs.length+ys.length<=sizeLine then some (.lst (xs++ys),true)else none
 |_,_=>none
theorem E9:cY X (binaryOp .Add) (rD X.K BQ):=by
 intro aa s σ H x y v u Q I rx ry q;obtain⟨B,dx,dy,d,bb,O,ix,iy,M,q⟩:=q;cases ix<;>try (cases M;done)
 all_goals (cases iy<;>try (cases M;done))
 rename_i l vs ds h hl l' ws es h' G;simp only[BQ]at M;split at M
 ·rename_i hz;cases M
  cases rx
  cases ry
  obtain⟨its,T,p1,z1⟩:=I.list (O.seq h);obtain⟨g,U,p2,z2⟩:=I.list (O.seq h');obtain⟨⟨c1,d1,t1,s1⟩,o1,e1,n1,k1⟩:=p1.isList;obtain⟨⟨c2,d2,t2,s2⟩,o2,e2,n2,k2⟩:=p2.isList;dsimp only at e1 k1 e2 k2;subst e1;subst k1;subst e2;subst k2;have hsz:its.toArray.size+g.toArray.size<=sizeLine:=by
   rw[vH,vH,←T.length,←U.length,hl.length,G.length];exact hz
  have ea:its.toArray++g.toArray=(its++g).toArray:=by simp
  refine concat_meets ⟨_,o1,rfl⟩ ⟨_,o2,rfl⟩ noFill_list_add seq_list_add PySem.F.slot_list_add PySem.F.entry_list_add (PySem.F.args_list_add_2 _ _) (list_addW l l' its.toArray g.toArray n1 n2 d1 d2 s1 s2 hsz) ⟨o1,o2,?_⟩;rw[ea];have xt:=Ext.laid (o:=.lst (vs++ws)) O I.fresh;have il:=(hl.append G).mono xt.bn;exact⟨.ref s.heap.objs.size,_,I.lnew (t':=s.toks) (T.append U) (by rw[vA,hl.length,G.length];exact hz),rfl,q _ _ _ xt (.lst (eK.of aq) il) λ_=>⟨_,_,_,rfl,rfl,I.fresh,aq,il⟩⟩
 ·cases M
@[simp] noncomputable def BR:D->D->OB
 |.tup xs,.tup ys=>if xs.length+ys.length<=sizeLine/\xs.isEmpty=false then some (.tup (xs++ys),false)else none
 |_,_=>none
theorem EA:cY X (binaryOp .Add) (rD X.K BR):=by
 refine g8 Bt λx y H Q q=>?_;obtain⟨B,dx,dy,d,bb,M,U,iy,G,q⟩:=q;cases U<;>try (cases G;done)
 all_goals (cases iy<;>try (cases G;done))
 rename_i l vs ds h hl l' O es h' g;simp only[BR]at G;split at G
 ·rename_i hz;cases G
  have l1:=hl.length;have l2:=g.length;refine⟨l,l',vs,O,rfl,rfl,aP M h,aP M h',λz=>?_,by omega,λz=>?_,λ_ pp hp=>?_⟩
  ·subst z;cases hl
   simp at hz
  ·subst z;cases g
   rw[uR]at q;exact q.one M (.tup h hl)
  ·have T:=Ext.laid (o:=.tup (vs++O)) M hp;exact q _ _ _ T (.tup (ga.of aq) ((hl.append g).mono T.bn)) (by simp)
 ·cases G
@[simp] noncomputable def zH:D->D->OB
 |.bl i,.int j=>some (.int ((if i=true then 1 else 0)+j),false)
 |.int i,.bl j=>some (.int (i+b2i j),false)
 |_,_=>none
theorem EB:cY X (binaryOp .Add) (rD X.K zH):=by
 intro aa s σ H x y v u Q I G M q;obtain⟨B,dx,dy,d,bb,O,T,U,g,q⟩:=q;cases T<;>try (cases g;done)
 all_goals (cases U<;>try (cases g;done))
 ·simp only[zH]at g;cases g
  cases G
  obtain⟨t,rfl⟩:=M;exact IntBool.add_bool_int ⟨.int _,H,I.tok _,⟨_,rfl⟩,q.one O (.int _)⟩
 ·simp only[zH]at g;cases g
  exact xN aa s σ H _ _ v u Q I G M ⟨_,_,rfl,rfl,q.one O (.int _)⟩
@[simp] noncomputable def dj:D->D->OB
 |.int i,.int j=>some (.int (i+j),false)
 |.str i,.str j=>if i.length+j.length<=sizeLine then some (.str (i++j),false)else none
 |.lst xs,.lst ys=>if xs.length+ys.length<=sizeLine then some (.lst (xs++ys),true)else none
 |.tup xs,.tup ys=>if xs.length+ys.length<=sizeLine/\xs.isEmpty=false then some (.tup (xs++ys),false)else none
 |.bl i,.int j=>some (.int ((if i=true then 1 else 0)+j),false)
 |.int i,.bl j=>some (.int (i+b2i j),false)
 |_,_=>none
theorem bW:cY X (binaryOp .Add) (rD X.K dj):=by
 refine g8 (r:=rD X.K (AT wz (AT BQ (AT BR zH)))) (m9 BM (m9 E9 (m9 EA EB))) λx y H Q q=>?_;obtain⟨B,dx,G,d,bb,M,O,T,g,q⟩:=q;refine⟨B,dx,G,d,bb,M,O,T,?_,q⟩;cases dx<;>try (cases g;done)
 all_goals (cases G<;>try (cases g;done))
 all_goals (simp[dj]at g;simp[AT,wz,BQ,BR,zH,g])
@[simp] noncomputable def Lh:D->Option Bool
 |.bl b=>some b
 |_=>none
def uu:List D->Option (List Bool)
 |[]=>some []
 |d::ds=>(Lh d).bind λb=>(uu ds).map (b :: ·)
@[simp] theorem GK:uu []=some []:=rfl
@[simp] theorem F6 (d:D)(ds:List D):uu (d::ds)=(Lh d).bind λb=>(uu ds).map (b :: ·):=rfl
@[simp] def MI:List D->OB
 |[.lst ds]=>(uu ds).map λbs=>(.bl (bs.all id),false)
 |_=>none
@[simp] def MJ:List D->OB
 |[.lst ds]=>(uu ds).map λbs=>(.bl (bs.any id),false)
 |_=>none
end
noncomputable def Io (z:Str):It:=⟨λi _=>i<z.cps.size,λi H v H'=>H'=H/\∃c,z.cps[i]? = some c/\v=.str ⟨#[c]⟩,λi _=>z.cps.size<=i⟩
theorem sd {P:Program}{w:World}{K:Frag}{tg:Expr}(z:Str)(t:Tok)(it:Addr):Turn P w K tg (Io z) [it] it (λi h=>h.IsStrIter it "str_ascii_iterator" z t i) where
 mem:=List.mem_singleton.mpr rfl
 obj:=λi h st b hb=>by
  have O:=uU hb;subst O;obtain⟨o,G,_,d1⟩:=st;exact⟨o,G,λv zz=>by rw[d1]at zz;cases zz⟩
 keep:=λi h h' st k=>let ⟨o,G,r⟩:=st;⟨o,k it (List.mem_singleton.mpr rfl) o G,r⟩
 item:=by
  intro X T hw U hc i aa s σ H E I hf st hg;subst T hw U;have g:i<z.cps.size:=hg;obtain⟨f0,f1,f2,f3,f4,f5⟩:=hf it (List.mem_singleton.mpr rfl);refine wpAny_pyNext_ascii_item st (c:=z.cps[i]) (by simp[g]) λh' M sb=>?_;obtain⟨o,G,c1,d1⟩:=id M;exact⟨_,rfl,mn (s:={ s with heap:=h',toks:=s.toks+1 }) G c1 d1 (by decide) ⟨.str ⟨#[z.cps[i]]⟩,H,I.turned (λb o hb e2=>(sb.2 b hb).trans e2) f0 f1 f3 f4 f5,⟨_,rfl⟩,⟨rfl,_,by simp[g],rfl⟩,M,λb hb=>(hf b hb).1⟩⟩
 done:=by
  intro X T hw U hc i aa s σ H E I hf st hg;subst T hw U;have g:z.cps.size<=i:=hg;obtain⟨f0,f1,f2,f3,f4,f5⟩:=hf it (List.mem_singleton.mpr rfl);exact wpAny_pyNext_ascii_end (I.ok.hd hc) st (by simp;omega) λh' O=>⟨rfl,I.turned (t':=s.toks) (λb o hb e2=>O b o hb e2) f0 f1 f3 f4 f5⟩
 self:=λ_ _ _ _ _ st h=>wpAny_pyIter_striter_ascii st h
theorem se {P:Program}{w:World}{K:Frag}{tg:Expr}(z:Str)(t:Tok)(it:Addr):Turn P w K tg (Io z) [it] it (λi h=>h.IsStrIter it "str_iterator" z t i) where
 mem:=List.mem_singleton.mpr rfl
 obj:=λi h st b hb=>by
  have O:=uU hb;subst O;obtain⟨o,G,_,d1⟩:=st;exact⟨o,G,λv zz=>by rw[d1]at zz;cases zz⟩
 keep:=λi h h' st k=>let ⟨o,G,r⟩:=st;⟨o,k it (List.mem_singleton.mpr rfl) o G,r⟩
 item:=by
  intro X T hw U hc i aa s σ H E I hf st hg;subst T hw U;have g:i<z.cps.size:=hg;obtain⟨f0,f1,f2,f3,f4,f5⟩:=hf it (List.mem_singleton.mpr rfl);refine wpAny_pyNext_wide_item st (c:=z.cps[i]) (by simp[g]) λh' M sb=>?_;obtain⟨o,G,c1,d1⟩:=id M;exact⟨_,rfl,mn (s:={ s with heap:=h',toks:=s.toks+1 }) G c1 d1 (by decide) ⟨.str ⟨#[z.cps[i]]⟩,H,I.turned (λb o hb e2=>(sb.2 b hb).trans e2) f0 f1 f3 f4 f5,⟨_,rfl⟩,⟨rfl,_,by simp[g],rfl⟩,M,λb hb=>(hf b hb).1⟩⟩
 done:=by
  intro X T hw U hc i aa s σ H E I hf st hg;subst T hw U;have g:z.cps.size<=i:=hg;obtain⟨f0,f1,f2,f3,f4,f5⟩:=hf it (List.mem_singleton.mpr rfl);exact wpAny_pyNext_wide_end (I.ok.hd hc) st (by simp;omega) λh' O=>⟨rfl,I.turned (t':=s.toks) (λb o hb e2=>O b o hb e2) f0 f1 f3 f4 f5⟩
 self:=λ_ _ _ _ _ st h=>wpAny_pyIter_striter_wide st h
section
variable {X:Cx}{a b e:Expr}{pos:Pos}{x:Str}{p:Pos}{tg:Expr}
theorem zI {l:Expr}{tl:TE}(hl:PE X l tl):PI X tg l (λσ H R=>tl σ H λx g=>∃z,x=.str z/\R (Io z) g):=by
 intro aa s σ H R I h;refine bF (hl aa s σ H _ I h) λv s1 ⟨x,g,G,M,O⟩=>?_;obtain⟨z,rfl,q⟩:=O;obtain⟨t,rfl⟩:=M;have fp:∀b∈[s1.heap.objs.size],k6 X aa g b:=λb hb=>by
  rw[uU hb];exact G.fpOk (vT _) (G.hok.fresh (vT _))
 cases ha:z.cps.all (· < 128) with
 |true=>exact wpAny_pyIter_ascii ha ⟨_,[s1.heap.objs.size],_,_,g,rfl,G.kept (t':=s1.toks) λb o e=>vZ _ e,sd z t _,⟨_,vY _ rfl,rfl,rfl⟩,fp,q⟩
 |false=>exact wpAny_pyIter_wide ha ⟨_,[s1.heap.objs.size],_,_,g,rfl,G.kept (t':=s1.toks) λb o e=>vZ _ e,se z t _,⟨_,vY _ rfl,rfl,rfl⟩,fp,q⟩
noncomputable def wE (z:Str):List D:=z.cps.toList.map λc=>.str ⟨#[c]⟩
theorem zJ {K:Frag}{B:Hp}(z:Str):my K (Io z) B (wE z):=by
 intro i H s;refine⟨λd ed=>?_,λhl=>by unfold wE at hl;show z.cps.size<=i;simpa using hl⟩;unfold wE at ed;rw[vB]at ed;obtain⟨c,M,rfl⟩:=oY ed;have g:z.cps[i]? = some c:=by simpa using M
 refine⟨(Array.getElem?_eq_some_iff.mp g).1,λv H' hy=>?_⟩;obtain⟨rfl,O,G,rfl⟩:=hy;rw[g]at G;cases G;exact⟨B,.refl s,.str _⟩
@[simp] def EC:D->Option (List D)
 |.lst ds=>some ds
 |.tup ds=>some ds
 |.str z=>some (wE z)
 |_=>none
@[simp] def cz (f:FE):FA:=λρ=>(f ρ).bind λx=>EC x.1
theorem c6 (h:JE X e f):JI X tg e (cz f):=by
 intro aa s σ H R I q;obtain⟨B,ρ,ds,g,r,G,q⟩:=q;obtain⟨M,ex,es⟩:=oX G;obtain⟨xd,xb⟩:=M;cases xd with
 |lst l=>exact wD h aa s σ H R I ⟨B,ρ,ds,g,r,by unfold zE;rw[ex];exact es,q⟩
 |tup l=>exact wD h aa s σ H R I ⟨B,ρ,ds,g,r,by unfold zE;rw[ex];exact es,q⟩
 |str z=>
  cases es
  refine zI h aa s σ H R I ⟨B,ρ,_,_,g,r,ex,λv O N1 T U _=>?_⟩;cases U
  exact⟨z,rfl,q _ O N1 T (zJ z)⟩
 |_=>cases es
theorem BS:yO X (λx lo hi H Q=>∃z,x=.str z/\z.length<=sizeLine/\Q (.str (Txt.slice z lo hi)) H):=by
 intro aa s σ H x v vl O lo hi sl Q I M hs pl G h;obtain⟨z,rfl,hz,q⟩:=h;obtain⟨t,rfl⟩:=M;have gt:∀lo hi,Q (.str (Txt.slice z lo hi)) H->(Txt.slice z lo hi).length<=sizeLine/\∀t' k,EP X aa σ Q (.str (Txt.slice z lo hi) t') { s with toks:=k }:=λlo hi q=>
  ⟨vR (Txt.slice_le z _ _) hz,λt' k=>⟨.str _,H,I.tok k,⟨t',rfl⟩,q⟩⟩
 refine⟨"str",_,PySem.F.slot_str_getitem.lookup,typeIs_str _ _ _,?_⟩;cases pl with
 |none=>
  cases G with
  |none=>exact wpAny_getItem_str_slice (l:=none) (u:=none) (st:=none) hs rfl (post_val_or_str (gt _ _ q))
  |int j g=>exact wpAny_getItem_str_slice (l:=none) (u:=some (j,g)) (st:=none) hs rfl (post_val_or_str (gt _ _ q))
 |int i ti=>
  cases G with
  |none=>exact wpAny_getItem_str_slice (l:=some (i,ti)) (u:=none) (st:=none) hs rfl (post_val_or_str (gt _ _ q))
  |int j g=>exact wpAny_getItem_str_slice (l:=some (i,ti)) (u:=some (j,g)) (st:=none) hs rfl (post_val_or_str (gt _ _ q))
theorem yg {A:Around}{E:Value->Shared->Prop}{s:Shared}{prog:Program}{w:World}{t sl:Addr}{items:Array Value}{vl T:Value}{lo hi:Option Int}{Q:Value->Shared->Prop}(g:IsTup s.heap t items)(hs:s.heap.IsSliceOf sl vl T .none)(pl:IsPart vl lo)(U:IsPart T hi)
  (h0:HT.c7 items.size 0 lo=0) (h1:HT.c7 items.size items.size hi=items.size) (h:Q (.ref t) s):wpAny (model prog w) A (getItem (.ref t) (.ref sl)) Q E s:=by
 obtain⟨os,G,M,JN⟩:=id hs
 have hT:s.TypeIs (.ref sl) "slice":=⟨os,G,M⟩
 unfold getItem
 try with_reducible refine wpAny_holding ?_
 first|refine wX (wY ?_)|skip
 refine wX (wpAny_sequenceKey g.typeIs (by decide) ?_)
 refine wX (wpAny_callSpecial?_slot (name:=Str.ofString "__getitem__") g.typeIs PyProof.Rows.slot_tuple_getitem (wpAny_call_entry PyProof.Rows.slot_tuple_getitem g.typeIs entry_tuple_getitem ?_ (args_tuple_getitem _ _)))
 show wpAny _ _ (Builtin.Tuple.tupleItemsOf (.ref t)>>=_) _ _ s
 refine wX (tupleItemsOf_ g ?_)
 refine wX (wpAny_typeOf hT ?_)
 rw[if_pos (by decide)]
 refine wX (HT.gc hs pl U ?_)
 have O:(((HT.c7 items.size 0 lo:Nat):Int) == 0 && (1:Int) == 1 && (HT.c7 items.size items.size hi - HT.c7 items.size 0 lo) == items.size)=true:=by
  rw[h0,h1];simp
 show wpAny _ _ (if(((HT.c7 items.size 0 lo:Nat):Int) == 0 && (1:Int) == 1 && (HT.c7 items.size items.size hi - HT.c7 items.size 0 lo) == items.size)=true then _ else _) _ _ s
 rw[if_pos O]
 refine wX ?_
 unfold Builtin.Tuple.tupleIsExact
 refine wX (wpAny_typeOf g.typeIs (wY ?_))
 show wpAny _ _ (if((Value.type "tuple") == Value.type "tuple")=true then _ else _) _ _ s
 rw[if_pos (by decide)]
 refine wX (wpAny_rule ?_)
 exact wY ⟨_,rfl,wY h⟩
theorem BU:yO X (λx lo hi H Q=>∃a xs,x=.ref a/\ga X.K H a xs/\HT.c7 xs.length 0 lo=0/\HT.c7 xs.length xs.length hi=xs.length/\Q (.ref a) H):=by
 intro aa s σ H x v vl T lo hi sl Q I M hs pl O h;obtain⟨a,xs,rfl,hx,h0,h1,q⟩:=h;cases M
 obtain⟨its,r,G,hz⟩:=I.tuple hx;have g:its.toArray.size=xs.length:=by rw[vH];exact r.length.symm
 refine⟨"tuple",_,PyProof.Rows.slot_tuple_getitem.lookup,G.typeIs,?_⟩;exact yg G hs pl O (by rw[g];exact h0) (by rw[g];exact h1) ⟨.ref a,H,I,rfl,q⟩
@[simp] def BV (fa:FE)(fl g:FO):FE:=λρ=>(fa ρ).bind λx=>(fl ρ).bind λl=>(g ρ).bind λh=>match x.1 with
 |.lst ds=>some (.lst (lL ds l h),true)
 |.tup ds=>some (.tup (lL ds l h),false)
 |.str z=>if z.length<=sizeLine then some (.str (Txt.slice z l h),false)else none
 |_=>none
theorem uw {ds:List D}{lo hi:Option Int}(h0:HT.c7 ds.length 0 lo=0)(h1:HT.c7 ds.length ds.length hi=ds.length):lL ds lo hi=ds:=by
 unfold lL;rw[h0,h1];simp
theorem ie {lo hi:Option Expr}{p2:Pos}{fa:FE}{fl U:FO}(ha:JE X e fa)(hl:JO X lo fl)(hh:JO X hi U):JE X (.Subscript e (.Slice lo hi none p2) pos) (BV fa fl U):=by
 refine PE.to (ze (yO.or (yO.or By Eg) (yO.or BS BU)) ha hl hh) λσ H Q q=>?_;obtain⟨B,ρ,d,b,sB,r,e,q⟩:=q;obtain⟨x,ex,e⟩:=oX e;obtain⟨l,el,e⟩:=oX e;obtain⟨h,eh,e⟩:=oX e;refine⟨B,ρ,x.1,x.2,sB,r,ex,λv H1 N1 g i1 _=>⟨N1,ρ,l,g.nh,r.mono g.bn,el,λH2 h2=>⟨N1,ρ,h,g.nh.trans h2,r.mono g.bn,eh,λH3 h3=>?_⟩⟩⟩;have G:aA N1 H3:=g.nh.trans (h2.trans h3);have O:=q.into (g.trans (.grow g.nh (h2.trans h3)));obtain⟨xd,xb⟩:=x;dsimp only at e i1;cases i1 with
 |@tup T vs ds hs hv=>
  cases e
  by_cases hw:HT.c7 ds.length 0 l=0/\HT.c7 ds.length ds.length h=ds.length
  ·rw[uw hw.1 hw.2]at O;exact .inr (.inr ⟨T,vs,rfl,aP G hs,by rw[hv.length];exact hw.1,by rw[hv.length];exact hw.2,O.one G (.tup hs hv)⟩)
  ·refine .inl (.inr ⟨T,vs,rfl,aP G hs,by rw[hv.length];exact hw,λp hp=>?_⟩);have M:=Ext.laid (o:=.tup (o4 vs l h)) G hp;exact O _ _ _ M (.tup (ga.of aq) ((qF hv).mono M.bn)) (by simp)
 |@lst T vs ds hs hv=>
  cases e
  refine .inl (.inl ⟨T,vs,rfl,G.seq hs,λp hp=>?_⟩);have M:=Ext.laid (o:=.lst (o4 vs l h)) G hp;exact O _ _ _ M (.lst (eK.of aq) ((qF hv).mono M.bn)) λ_=>⟨p,_,_,rfl,rfl,hp,aq,(qF hv).mono M.bn⟩
 |str z=>
  dsimp only at e;split at e
  ·rename_i hz;cases e
   exact .inr (.inl ⟨z,rfl,hz,O.one G (.str _)⟩)
  ·cases e
 |_=>cases e
noncomputable def qH:Value->D->Bool
 |.none,.non=>true
 |.bool a,.bl b=>a == b
 |.int i _,.int j=>decide (i=j)
 |.str i _,.str j=>decide (i=j)
 |_,_=>false
def gD:List Value->List D->Bool
 |[],[]=>true
 |u::us,d::ds=>qH u d && gD us ds
 |_,_=>false
theorem iH {K:Frag}{B:Hp}:∀ {u:Value}{d:D},qH u d=true->∃v,aC v u/\Is K B v d
 |.none,.non,_=>⟨.non,rfl,.non⟩
 |.bool a,.bl b,h=>by
  have:a=b:=eq_of_beq h;subst this;exact⟨.bl a,rfl,.bl a⟩
 |.int i t,.int j,h=>by
  have:i=j:=of_decide_eq_true h;subst this;exact⟨.int i,⟨t,rfl⟩,.int i⟩
 |.str i t,.str j,h=>by
  have:i=j:=of_decide_eq_true h;subst this;exact⟨.str i,⟨t,rfl⟩,.str i⟩
theorem gE {K:Frag}:∀ {us:List Value}{ds:List D},gD us ds=true->∃vs,L2.aH vs us/\∀B,IsL K B vs ds
 |[],[],_=>⟨[],.nil,λ_=>.nil⟩
 |u::us,d::ds,h=>by
  rw[gD,vD]at h;obtain⟨vs,r,i⟩:=gE (K:=K) h.2;obtain⟨v,G,_⟩:=iH (K:=K) (B:=λ_=>none) h.1;refine⟨v::vs,.cons G r,λB=>?_⟩;obtain⟨O,g,T⟩:=iH (K:=K) (B:=B) h.1;have:O=v:=by have M:=G.abs;rw[g.abs]at M;exact vK M
  subst this;exact .cons T (i B)
theorem const_tup {K:Frag}{y:Str}{a:Addr}{od:Option Addr}{its:Array Value}{n:Nat}{lH:Array (Option Value)}{ds:List D}(e:nsIn K mainGlobals y=some (some (.ref a)))
  (l:K.lookup a=some ⟨.type "tuple",od,.seq its n,lH⟩) (h:(decide (its.size<=1000) && gD its.toList ds)=true):∃u v,nsIn K mainGlobals y=some (some u)/\aC v u/\∀B,Is K B v (.tup ds):=by
 rw[vD]at h;obtain⟨vs,r,i⟩:=gE (K:=K) h.2;exact⟨_,.ref a,e,rfl,λB=>.tup (.inr ⟨_,its,n,l,rfl,rfl,Nat.le_of_lt (Nat.lt_of_le_of_lt (of_decide_eq_true h.1) (by decide)),r⟩) (i B)⟩
end
section
variable {X:Cx}{a b o e:Expr}{pos:Pos}{x:Str}{p:Pos}{tg:Expr}
@[simp] noncomputable def ED:D->Option Str
 |.str z=>some z
 |_=>none
def dZ:List D->Option (List Str)
 |[]=>some []
 |d::ds=>(ED d).bind λz=>(dZ ds).map (z :: ·)
@[simp] theorem F7:dZ []=some []:=rfl
@[simp] theorem ux (d:D)(ds:List D):dZ (d::ds)=(ED d).bind λz=>(dZ ds).map (z :: ·):=rfl
@[simp] theorem F8 (zs:List Str):dZ (zs.map D.str)=some zs:=by
 induction zs with
 |nil=>rfl
 |cons z zs g=>simp[g]
theorem jL {K:Frag}{B:Hp}:∀ {vs:List V}{ds:List D}{zs:List Str}{its:List Value},L2.aH vs its->IsL K B vs ds->dZ ds=some zs->StrsAre its zs
 |_,_,_,_,.nil,.nil,e=>by cases e;exact .nil
 |_,_,_,_,.cons r G,.cons i M,e=>by
  rw[ux]at e;obtain⟨z,g,e⟩:=oX e;obtain⟨zs,e2,e⟩:=oY e;subst e;cases i<;>simp only[ED]at g<;>try (cases g;done)
  cases g
  obtain⟨t,rfl⟩:=r;exact .cons _ t (jL G M e2)
@[simp] def Li:D->D->OB
 |.str g,.lst ds=>(dZ ds).bind λzs=>if(zs.map (·.length)).sum+zs.length*g.length<=16777216 then some (.str (Txt.join g zs),false)else none
 |.str g,.tup ds=>(dZ ds).bind λzs=>if(zs.map (·.length)).sum+zs.length*g.length<=16777216 then some (.str (Txt.join g zs),false)else none
 |_,_=>none
noncomputable def dq:List Nat->List D->Env->Option Env
 |[],[],ρ=>some ρ
 |i::is,d::ds,ρ=>dq is ds (ρ.set i (some (d,false)))
 |_,_,_=>none
@[simp] theorem pe (ρ:Env):dq [] [] ρ=some ρ:=by rw[dq]
@[simp] theorem jl (i:Nat)(is:List Nat)(d:D)(ds:List D)(ρ:Env):dq (i::is) (d::ds) ρ=dq is ds (ρ.set i (some (d,false))):=by rw[dq]
@[simp] theorem GL (d:D)(ds:List D)(ρ:Env):dq [] (d::ds) ρ=none:=by simp only[dq]
@[simp] theorem GN (i:Nat)(is:List Nat)(ρ:Env):dq (i::is) [] ρ=none:=by simp only[dq]
@[simp] def AU (is:List Nat):FG:=λd ρ=>match d with|.tup ds=>dq is ds ρ|_=>none
def mG:List Nat->DQ
 |[]=>Gc
 |i::is=>CT (gO i) (mG is)
theorem zK:aA (cD N (own σ ρ)) (cD N (own (σ.set i (some v)) (ρ.set i (some (d,false))))):=cR λa u e q=>⟨e,λz=>q (by
 rcases lR z with⟨_,d',p⟩|⟨j,_,d',g,G⟩
 ·cases p
 ·exact⟨j,d',g,G⟩)⟩
theorem iI {K:Frag}:∀ {is:List Nat}{vs:List V}{ds:List D}{B0 H0 N H:Hp}{σ:St}{ρ ρ':Env}{Q:St->Hp->Prop},cJ K B0 H0 N H σ ρ->IsL K (cD N (own σ ρ)) vs ds->dq is ds ρ=some ρ'->(∀g,cJ K B0 H0 N H g ρ'->Q g H)->mG is vs σ H Q
 |[],_,_,_,_,_,_,_,_,_,_,s,.nil,e,k=>by
  rw[pe]at e;cases e;exact⟨rfl,k _ s⟩
 |[],_,_,_,_,_,_,_,_,_,_,_,.cons _ _,e,_=>by simp at e
 |_::_,_,_,_,_,_,_,_,_,_,_,_,.nil,e,_=>by simp at e
 |i::is,_,_,_,_,_,_,_,_,_,_,s,.cons h hs,e,k=>by
  rw[jl]at e;exact⟨_,_,rfl,iI (s.bind h) (hs.mono zK) e k⟩
theorem kJ:∀ {is:List Nat}{ds:List D}{ρ ρ':Env},dq is ds ρ=some ρ'->ds.length=is.length
 |[],[],_,_,_=>rfl
 |_::_,_::_,_,_,e=>by rw[jl]at e;simp[kJ e]
 |[],_::_,_,_,e=>by simp at e
 |_::_,[],_,_,e=>by simp at e
theorem Dm {K:Frag}{is:List Nat}:BA K (AU is) (DR K is.length (mG is)):=by
 intro B0 H0 N H σ ρ ρ' v d Q s h e k;cases h with
 |@tup a vs ds M hl=>
  have G:dq is ds ρ=some ρ':=e;exact⟨a,vs,rfl,aP (aZ.trans s.ext.nh) M,by rw[hl.length];exact kJ G,iI s hl G λg s'=>k g H ⟨N,s'⟩⟩
 |_=>cases e
theorem pf {K:Frag}{n:Nat}{B H:Hp}{G:Env}{Q:St->Hp->Prop}(cl:∀i,i<n->G[i]? = some none):∀ {is:List Nat}{vs:List V}{ds:List D}{σ:St}{ρ M:Env},(∀i∈is,i<n)->dB K B σ ρ->IsL K B vs ds->dq is ds ρ=some M->ρ.length=σ.length->ρ.length=G.length ->
  (∀g,dB K B g M->(∀T,dB K T σ G->dB K T g G)->G.length=g.length->Q g H)->mG is vs σ H Q
 |[],_,_,_,_,_,_,rp,.nil,e,U,l2,k=>by
  rw[pe]at e;cases e;exact⟨rfl,k _ rp (λ_ z=>z) (by omega)⟩
 |[],_,_,_,_,_,_,_,.cons _ _,e,_,_,_=>by simp at e
 |_::_,_,_,_,_,_,_,_,.nil,e,_,_,_=>by simp at e
 |i::is,_,_,σ,ρ,_,hn,rp,.cons (v:=v) h hs,e,U,l2,k=>by
  rw[jl]at e;have hi:=hn i mX;have O:i<σ.length:=by
   have:=(vV (cl i hi)).1;omega
  refine⟨_,_,rfl,pf cl (λj hj=>hn j (mZ _ hj)) ⟨rp.tb,λj d b q=>?_⟩ hs e (by simpa using U) (by simpa using l2) λg r1 r2 l=>k g r1 (λT z=>r2 T ⟨z.tb,λj d b q=>?_⟩) l⟩
  ·rcases bg q with⟨rfl,pp⟩|⟨ne,pp⟩
   ·cases pp
    exact⟨v,by simp[O],h⟩
   ·obtain⟨w,h1,h2⟩:=rp.at' j d b pp;exact⟨w,by rw[vC ne];exact h1,h2⟩
  ·obtain⟨w,h1,h2⟩:=z.at' j d b q;have ne:i≠j:=λz=>by subst z;rw[cl i hi]at q;cases q
   exact⟨w,by rw[vC ne];exact h1,h2⟩
theorem Dn {K:Frag}{n:Nat}{is:List Nat}(hn:∀i∈is,i<n):Df K n (AU is) (DR K is.length (mG is)):=by
 intro B H σ ρ g v d Q cl rep s h e hl k;cases h with
 |@tup a vs ds M hv=>
  have G:dq is ds ρ=some g:=e;exact⟨a,vs,rfl,aP s M,by rw[hv.length];exact kJ G,pf cl hn rep hv G hl rfl k⟩
 |_=>cases e
end
section
variable {prog:Program}{w:World}{A:Around}{E:Value->Shared->Prop}{s:Shared}
theorem uy (st:s.heap.IsTupleIter it l i)(g:s.heap.IsTuple l items)(hv:items[i]? = some v)
  (k:∀h',h'.IsTupleIter it l (i+1)->Heap.SameBut it s.heap h'->Q v { s with heap:=h' }):wpAny (model prog w) A (Builtin.SmallTypes.nextOf (.ref it)) Q E s:=by
 obtain⟨O,g1,G,d1⟩:=id st;obtain⟨T,M,_,n2,d2⟩:=g;unfold Builtin.SmallTypes.nextOf;refine wX (wpAny_callSpecial?_slot (name:=Str.ofString "__next__") st.typeIs PySem.F.slot_tuple_iterator_next (wpAny_call_entry PySem.F.slot_tuple_iterator_next st.typeIs PySem.F.entry_tuple_iterator_next ?_ (PySem.F.args_tuple_iterator_next_1 _)));show wpAny _ _ (field (.ref it) 0>>=_) _ _ _;refine wX (wpAny_field g1 d1 (x:=.ref l) rfl ?_);show wpAny _ _ (if(Value.ref l == Value.none)=true then _ else _) _ _ _;rw[if_neg (λz=>uY z:¬((Value.ref l == Value.none)=true))];show wpAny _ _ (field (.ref it) 1>>=_) _ _ _;refine wX (wpAny_field g1 d1 (x:=.int i 0) rfl ?_);show wpAny _ _ (seqItems? (.ref l)>>=_) _ _ _;refine wX (wpAny_seqItems M d2 ?_);simp only[hv,Int.toNat_natCast];refine wX (wpAny_setField g1 d1 (by simp) (wY ⟨v,rfl,wY (k _ ?_ (vW ..))⟩));exact⟨_,Heap.get?_update_self _ g1 (Obj.isFreed_of_fields (Obj.data_mapFields d1 _)),(Obj.cls_mapFields ..).trans G,by rw[Obj.data_mapFields d1];simp[rawInt]⟩
theorem yh (g:A.handled=none)(st:s.heap.IsTupleIter it l i)(G:s.heap.IsTuple l items)(hv:items[i]? = none)
  (k:∀h' x,Heap.ExtBut it s.heap h'->(∃o,h'.get? x=some o/\o.cls=.type "StopIteration")->E (.ref x) { s with heap:=h' }):wpAny (model prog w) A (Builtin.SmallTypes.nextOf (.ref it)) Q E s:=by
 obtain⟨O,g1,T,d1⟩:=id st;obtain⟨U,M,_,n2,d2⟩:=G;unfold Builtin.SmallTypes.nextOf;refine wX (wpAny_callSpecial?_slot (name:=Str.ofString "__next__") st.typeIs PySem.F.slot_tuple_iterator_next (wpAny_call_entry PySem.F.slot_tuple_iterator_next st.typeIs PySem.F.entry_tuple_iterator_next ?_ (PySem.F.args_tuple_iterator_next_1 _)));show wpAny _ _ (field (.ref it) 0>>=_) _ _ _;refine wX (wpAny_field g1 d1 (x:=.ref l) rfl ?_);show wpAny _ _ (if(Value.ref l == Value.none)=true then _ else _) _ _ _;rw[if_neg (λz=>uY z:¬((Value.ref l == Value.none)=true))];show wpAny _ _ (field (.ref it) 1>>=_) _ _ _;refine wX (wpAny_field g1 d1 (x:=.int i 0) rfl ?_);show wpAny _ _ (seqItems? (.ref l)>>=_) _ _ _;refine wX (wpAny_seqItems M d2 ?_);simp only[hv,Int.toNat_natCast];refine wX (wpAny_rule (wX (wpAny_setField g1 d1 (by simp) ?_)));show wpAny _ _ (newExc (.type "StopIteration") []>>=_) _ _ _;refine wX ?_;simp only[newTuple,newExc];refine wX (wpAny_newObj_type ?_ (by size_fits));refine wX (m:=firstArgMember _ _) (wpAny_of_eq (a:=Value.none) (by first|(simp only[firstArgMember];rfl)|rfl) ?_);refine wpAny_newObj_type ?_ (by size_fits);simp only[raiseNew];refine wX (wpAny_handled ?_);first|rw[g]|rw[show A.in1.handled=none from g]
 exact wX (wY (wpAny_throw (k _ _ (((vW ..).extBut.push _).push _) ⟨_,vY _ rfl,rfl⟩)))
end
def wF:Bool->Heap->Addr->Addr->Nat->Prop
 |true,h,it,a,i=>h.IsListIter it a i
 |false,h,it,a,i=>h.IsTupleIter it a i
def tW:Bool->Heap->Addr->Array Value->Prop
 |true,h,a,items=>h.IsList a items
 |false,h,a,items=>h.IsTuple a items
def uz (k:Bool)(K:Frag)(H:Hp)(a:Addr)(xs:List V):Prop:=match k with|true=>eK K H a xs|false=>ga K H a xs
theorem wF.ob (st:wF k h it a i):∃o,h.get? it=some o/\∀v,o.data≠.cell v:=by
 cases k<;>(obtain⟨o,g,_,d⟩:=st;exact⟨o,g,λv z=>by rw[d]at z;cases z⟩)
theorem wF.upon (st:wF k h it a i)(g:∀o,h.get? it=some o->h'.get? it=some o):wF k h' it a i:=by
 cases k<;>(obtain⟨o,e,r⟩:=st;exact⟨o,g o e,r⟩)
theorem tW.upon (st:tW k h a items)(g:∀o,h.get? a=some o->h'.get? a=some o):tW k h' a items:=by
 cases k<;>(obtain⟨o,e,r⟩:=st;exact⟨o,g o e,r⟩)
theorem tW.lt (st:tW k h a items):a<h.objs.size:=by
 cases k<;>(obtain⟨o,e,r⟩:=st;exact vX e)
theorem uz.same {k:Bool}{K:Frag}{H H':Hp}{a:Addr}{xs:List V}(h:uz k K H a xs)(e:aA H H'):uz k K H' a xs:=by
 cases k
 ·exact aP e h
 ·exact e.seq h
theorem uz.vals (I:Inv X aa σ H s)(h:uz k X.K H a xs):∃its:List Value,aH xs its/\tW k s.heap a its.toArray/\xs.length<=sizeLine:=by
 cases k
 ·exact I.tuple h
 ·obtain⟨its,r,p,z⟩:=I.list h;exact⟨its,r,p.isList,z⟩
theorem uz.inj (I:Inv X aa σ H s)(h:uz k X.K H a xs)(h':uz k X.K H a ys):xs=ys:=by
 cases k
 ·exact I.tuple_inj h h'
 ·exact I.list_inj h h'
section
variable {prog:Program}{w:World}{A:Around}{E:Value->Shared->Prop}{s:Shared}
theorem yi (st:wF k s.heap it l i)(g:tW k s.heap l items)(hv:items[i]? = some v)
  (q:∀h',wF k h' it l (i+1)->Heap.SameBut it s.heap h'->Q v { s with heap:=h' }):wpAny (model prog w) A (Builtin.SmallTypes.nextOf (.ref it)) Q E s:=by
 cases k
 ·exact uy st g hv q
 ·exact wpAny_nextOf_list_item st g hv q
theorem sf (g:A.handled=none)(st:wF k s.heap it l i)(G:tW k s.heap l items)(hv:items[i]? = none)
  (q:∀h' x,Heap.ExtBut it s.heap h'->(∃o,h'.get? x=some o/\o.cls=.type "StopIteration")->E (.ref x) { s with heap:=h' }):wpAny (model prog w) A (Builtin.SmallTypes.nextOf (.ref it)) Q E s:=by
 cases k
 ·exact yh g st G hv q
 ·exact wpAny_nextOf_list_end g st G hv q
end
noncomputable def EE (k:Bool)(l:Addr):Obj:={ cls:=.type (if k=true then "list_iterator" else "tuple_iterator"),data:=.fields #[.ref l,.int 0 0] }
theorem qI (g:tW k s.heap l items)
  (q:Q (.ref s.heap.objs.size) { s with heap:=s.heap.push (EE k l) }):wpAny (model prog w) A (pyIter (.ref l)) Q E s:=by
 cases k
 ·exact wpAny_pyIter_tuple g q
 ·exact wpAny_pyIter_list g q
theorem tW.push (st:tW k h a items)(o:Obj):tW k (h.push o) a items:=st.upon λ_ e=>vZ _ e
theorem qJ {X:Cx}{aa:List (Addr×Obj)}{σ:St}{H:Hp}{s:Shared}{h':Heap}{t':Nat}{ch:List Addr}(I:Inv X aa σ H s)(f:∀b∈ch,k6 X aa H b)(k:∀b o,b∉ch->s.heap.get? b=some o->h'.get? b=some o):Inv X aa σ H { s with heap:=h',toks:=t' }:=by
 have g:∀b u,H b=some u->b∉ch:=λb u e z=>by rw[(f b z).1]at e;cases e
 refine I.step (g':=s.gens) (d':=s.drawn) (ch:=ch) (λb hb=>?_) (λb o _ _ hc e _=>k b o hc e) (λb o _ _ hc e _=>⟨o.slots,k b o hc e⟩) (λ_ _ _ _ n=>n)
  (λb o hc e=>⟨o,k b o hc e⟩) (λ_ _ e=>e) (λ_ _ _ e=>e) (λ_ _ e=>e) (λm hm=>?_) (λb u e=>?_) I.bare
 ·obtain⟨_,f1,_,f3,f4,f5⟩:=f b hb;exact⟨f3,f1,f4,f5⟩
 ·obtain⟨o,es,G,M,r⟩:=hm;exact⟨o,es,G,k _ o (λz=>(f _ z).2.1 rfl) M,r⟩
 ·refine(I.hok b u e).stay (λc v hc q=>k c v ?_ q) (λ_ q=>q) (λ_ _ q=>q) λ_ _ _ q=>q;rcases hc with z|z
  ·rw[z];exact g b u e
  ·exact g c _ z
theorem GO {X:Cx}{aa:List (Addr×Obj)}{σ:St}{H:Hp}{s:Shared}{h':Heap}{t':Nat}{ch:List Addr}{a:Addr}{ob:HO}(I:Inv X aa σ H s)(f:∀b∈ch,k6 X aa H b)(k:∀b o,b∉ch->s.heap.get? b=some o->h'.get? b=some o)(ha:s.heap.objs.size<=a)
  (new:bi X.prog X.w (upd H a ob) h' a ob):Inv X aa σ (upd H a ob) { s with heap:=h',toks:=t' }:=by
 have hn:H a=none:=I.hok.fresh ha;have g:∀b u,H b=some u->b∉ch:=λb u e z=>by rw[(f b z).1]at e;cases e
 have G:∀b o,s.heap.get? b=some o->b≠a:=λb o e=>vS (vQ (vX e) ha);refine I.step (g':=s.gens) (d':=s.drawn) (ch:=ch) (λb hb=>?_) (λb o _ _ hc e _=>k b o hc e) (λb o _ _ hc e _=>⟨o.slots,k b o hc e⟩) (λb o _ e n=>by rw[ar (G b o e)];exact n)
  (λb o hc e=>⟨o,k b o hc e⟩) (λb xs e=>by rw[ar (aD e hn)];exact e) (λb o u e=>by rw[ar (aD e hn)];exact e) (λb ps e=>by rw[ar (aD e hn)];exact e) (λm hm=>?_) (λb u e=>?_) I.bare
 ·obtain⟨_,f1,_,f3,f4,f5⟩:=f b hb;exact⟨f3,f1,f4,f5⟩
 ·obtain⟨o,es,M,O,r⟩:=hm;exact⟨o,es,M,k _ o (λz=>(f _ z).2.1 rfl) O,r⟩
 ·by_cases hb:b=a
  ·subst hb;rw[aq]at e;cases e;exact new
  ·rw[ar hb]at e;refine(I.hok b u e).stay (λc v hc q=>k c v ?_ q) (λc q=>?_) (λc xs q=>?_) λc o xs q=>?_
   ·rcases hc with z|z
    ·rw[z];exact g b u e
    ·exact g c _ z
   ·rw[ar (aD q hn)];exact q
   ·rw[ar (aD q hn)];exact q
   ·rw[ar (aD q hn)];exact q
section
variable {X:Cx}{a b e:Expr}{pos:Pos}{p:Pos}
noncomputable def GP (xs ys:List D):List D:=List.zipWith (λx y=>.tup [x,y]) xs ys
@[simp] def Jo (fa g:FE):FA:=λρ=>(fa ρ).bind λx=>(g ρ).bind λy=>(fL x.1).bind λxs=>(fL y.1).map λys=>GP xs ys
theorem GQ {K:Frag}{B:Hp}{v:V}{d:D}{ds:List D}(h:Is K B v d)(e:fL d=some ds):∃k a vs,v=.ref a/\uz k K B a vs/\IsL K B vs ds:=by
 cases h with
 |tup g hl=>cases e;exact⟨false,_,_,rfl,g,hl⟩
 |lst g hl=>cases e;exact⟨true,_,_,rfl,g,hl⟩
 |_=>cases e
end
noncomputable def unown1 (ρ:Env)(i:Nat):Env:=match ρ[i]? with
 |some (some (d,true))=>ρ.set i (some (d,false))
 |_=>ρ
theorem cJ.unown1 {K:Frag}{B0 H0 N H:Hp}{σ:St}{ρ:Env}(s:cJ K B0 H0 N H σ ρ)(i:Nat):cJ K B0 H0 N H σ (unown1 ρ i):=by
 unfold DL.unown1;split
 ·rename_i d hd;obtain⟨a,ob,h1,h2,h3,h4⟩:=s.ow i d hd;have get:∀ {j:Nat}{e:D}{b:Bool},(ρ.set i (some (d,false)))[j]? = some (some (e,b))->(i=j/\e=d/\b=false)∨(i≠j/\ρ[j]? = some (some (e,b))):=λq=>by
   rcases bg q with⟨z,p⟩|⟨z,p⟩
   ·cases p;exact .inl ⟨z,rfl,rfl⟩
   ·exact .inr ⟨z,p⟩
  have o:∀c,own σ (ρ.set i (some (d,false))) c->own σ ρ c/\c≠a:=λc ⟨j,e,M,G⟩=>by
   rcases get M with⟨_,_,z⟩|⟨ne,q⟩
   ·cases z
   ·exact⟨⟨j,e,q,G⟩,λz=>by subst z;exact ne (s.inj i j _ _ _ hd q h1 G)⟩
  have c:aA (cD N (own σ ρ)) (cD N (own σ (ρ.set i (some (d,false))))):=cR λb u e q=>⟨e,λz=>q (o b z).1⟩;have O:¬own σ (ρ.set i (some (d,false))) a:=λz=>(o a z).2 rfl;refine⟨s.bh,s.tb,s.ext,by rw[List.length_set];exact s.len,λj e q=>?_,λj e q=>?_,λj k b e f q g T U=>?_⟩
  ·rcases get q with⟨rfl,rfl,_⟩|⟨_,q⟩
   ·exact⟨_,h1,(h4.mono c).is (by rw[bU O];exact h2)⟩
   ·obtain⟨v,k1,k2⟩:=s.sh j e q;exact⟨v,k1,k2.mono c⟩
  ·rcases get q with⟨_,_,z⟩|⟨_,q⟩
   ·cases z
   ·obtain⟨a',o',k1,k2,k3,k4⟩:=s.ow j e q;exact⟨a',o',k1,k2,k3,k4.mono c⟩
  ·rcases get q with⟨_,_,z⟩|⟨_,q⟩
   ·cases z
   ·rcases get g with⟨_,_,z⟩|⟨_,g⟩
    ·cases z
    ·exact s.inj j k b e f q g T U
 ·exact s
@[simp] noncomputable def GR (is:List Nat)(g:FS):FS:=λρ=>g (is.foldl unown1 ρ)
theorem cJ.unowns {K:Frag}{B0 H0 N H:Hp}{σ:St}:∀(is:List Nat){ρ:Env},cJ K B0 H0 N H σ ρ->cJ K B0 H0 N H σ (is.foldl DL.unown1 ρ)
 |[],_,s=>s
 |i::is,_,s=>cJ.unowns is (s.unown1 i)
theorem EF {K:Frag}{is:List Nat}{g:FS}{E:Ends}{σ:St}{H:Hp}(q:ja K (GR is g) E σ H):ja K g E σ H:=by
 obtain⟨B0,H0,ρ,r,⟨N,s⟩,e,p⟩:=q;exact⟨B0,H0,_,r,⟨N,s.unowns is⟩,e,p⟩
theorem zL {X:Cx}{st:Stmt}{g:FS}(is:List Nat)(h:JS X st g):JS X st (GR is g):=PS.to h λ_ _ _ q=>EF q
@[simp] noncomputable def Dp:FS:=λρ=>some (.ct ρ)
@[simp] noncomputable def Jp:FS:=λρ=>some (.bk ρ)
@[simp] noncomputable def Jq:FS:=λ_=>none
section
variable {X:Cx}{pos:Pos}
theorem BW:JS X (.Continue pos) Dp:=PS.to rB λE σ H q=>by
 obtain⟨B0,H0,ρ,r,s,e,p⟩:=q;cases e
 exact p σ H s
end
inductive CRows (K:Frag)(P:Params):List DictEntry->List (Str×D)->Prop where
 |nil:CRows K P [] []
 |tup {x:Str}{t:Tok}{h:Int}{a:Addr}{its:Array Value}{n:Nat}{lH:Array (Option Value)}{ds:List D}{r:List DictEntry}{av:List (Str×D)}(hh:h=PyData.keyHash P x)
   (l:K.lookup a=some ⟨.type "tuple",none,.seq its n,lH⟩) (f:(decide (its.size<=1000) && gD its.toList ds)=true) (tl:CRows K P r av):CRows K P (⟨h,.str x t,.ref a⟩::r) ((x,.tup ds)::av)
 |flat {x:Str}{t:Tok}{h:Int}{u:Value}{d:D}{r:List DictEntry}{av:List (Str×D)}(hh:h=PyData.keyHash P x) (f:qH u d=true) (tl:CRows K P r av):CRows K P (⟨h,.str x t,u⟩::r) ((x,d)::av)
theorem CRows.lit {K:Frag}{P:Params}:∀ {es:List DictEntry}{av:List (Str×D)},CRows K P es av->PySem.W.KeysLit P es
 |_,_,.nil=>trivial
 |_,_,.tup hh _ _ tl=>⟨⟨_,_,rfl,hh⟩,tl.lit⟩
 |_,_,.flat hh _ tl=>⟨⟨_,_,rfl,hh⟩,tl.lit⟩
theorem CRows.find {K:Frag}{P:Params}(y:Str):∀ {es:List DictEntry}{av:List (Str×D)},CRows K P es av->match av.lookup y with
  |none=>es.find? (λe=>Value.isStrOf y e.key)=none
  |some d=>∃e v,es.find? (λe=>Value.isStrOf y e.key)=some e/\aC v e.val/\∀B,Is K B v d
 |_,_,.nil=>rfl
 |_,_,.tup (x:=x) (t:=t) (a:=a) (ds:=ds) hh l f tl=>by
  by_cases e:y=x
  ·subst e;rw[List.lookup_cons_self];rw[vD]at f;obtain⟨vs,r,i⟩:=gE (K:=K) f.2;exact⟨_,.ref a,List.find?_cons_of_pos (by simp[Value.isStrOf]),rfl,λB=>.tup (.inr ⟨_,_,_,l,rfl,rfl,Nat.le_of_lt (Nat.lt_of_le_of_lt (of_decide_eq_true f.1) (by decide)),r⟩) (i B)⟩
  ·have g:=tl.find y;rw[List.lookup_cons,beq_eq_false_iff_ne.mpr e];have G:Value.isStrOf y (Value.str x t)=false:=by
    rw[Bool.eq_false_iff];intro z;obtain⟨t',q⟩:=Value.isStrOf_shape z;injection q with M;exact e M.symm
   simp only[List.find?_cons,G];exact g
 |_,_,.flat (x:=x) (t:=t) (u:=u) (d:=d) hh f tl=>by
  by_cases e:y=x
  ·subst e;rw[List.lookup_cons_self];obtain⟨v,T,_⟩:=iH (K:=K) (B:=λ_=>none) f;refine⟨_,v,List.find?_cons_of_pos (by simp[Value.isStrOf]),T,λB=>?_⟩;obtain⟨v',O,i'⟩:=iH (K:=K) (B:=B) f;have:v'=v:=by have U:=T.abs;rw[O.abs]at U;exact vK U
   subst this;exact i'
  ·have g:=tl.find y;rw[List.lookup_cons,beq_eq_false_iff_ne.mpr e];have G:Value.isStrOf y (Value.str x t)=false:=by
    rw[Bool.eq_false_iff];intro z;obtain⟨t',q⟩:=Value.isStrOf_shape z;injection q with M;exact e M.symm
   simp only[List.find?_cons,G];exact g
def ph (K:Frag)(P:Params)(a:Addr)(av:List (Str×D)):Prop:=∃es n,K.lookup a=some ⟨.type "dict",none,.dict es n,#[]⟩/\CRows K P es.toList av/\(a == sysModules)=false
theorem const_dict {K:Frag}{P:Params}{y:Str}{a:Addr}{es:Array DictEntry}{n:Nat}{av:List (Str×D)}(e:nsIn K mainGlobals y=some (some (.ref a)))(l:K.lookup a=some ⟨.type "dict",none,.dict es n,#[]⟩)(r:CRows K P es.toList av)(s:(a == sysModules)=false):
  ∃a,nsIn K mainGlobals y=some (some (.ref a))/\ph K P a av:=⟨a,e,es,n,l,r,s⟩
section
variable {X:Cx}{a b e:Expr}{pos:Pos}{x:Str}{p:Pos}
theorem ph.map {aa:List (Addr×Obj)}{σ:St}{H:Hp}{s:Shared}{d:Addr}{av:List (Str×D)}(I:Inv X aa σ H s)(h:ph X.K X.w.params d av):∃f:Str->Option Value,s.heap.MapOf (strKind X.prog X.w) d f/\(d == sysModules)=false /\
  ∀y,match av.lookup y with|none=>f y=none|some dd=>∃u v,f y=some u/\aC v u/\∀B,Is X.K B v dd:=by
 obtain⟨es,n,l,r,G⟩:=h;refine⟨_,PySem.W.mapOf_K I.kIn l r.lit,G,λy=>?_⟩;have:=r.find y;have g:findBy Value.isStrOf es y=(es.toList.find? λe=>Value.isStrOf y e.key).map (·.val):=by
  unfold findBy;obtain⟨es⟩:=es;rw[List.find?_toArray]
 cases hl:av.lookup y with
 |none=>rw[hl]at this;dsimp only at this ⊢;rw[g,this];rfl
 |some dd=>
  rw[hl]at this;obtain⟨en,v,M,e2,O⟩:=this;exact⟨en.val,v,by rw[g,M];rfl,e2,O⟩
@[simp] noncomputable def ML (av:List (Str×D)):D->OB
 |.str y=>(av.lookup y).map λd=>(d,false)
 |_=>none
@[simp] noncomputable def Pc (av:List (Str×D)):D->OB
 |.str y=>some (.bl (av.lookup y).isSome,false)
 |_=>none
@[simp] noncomputable def Jr (av:List (Str×D)):D->OB
 |.str y=>some (.bl (!(av.lookup y).isSome),false)
 |_=>none
@[simp] noncomputable def Ip:List D->OB
 |[.lst ds]=>some (.lst ds,true)
 |[.tup ds]=>some (.lst ds,true)
 |_=>none
@[simp] noncomputable def ft:List D->OB
 |[.lst ds]=>some (.tup ds,false)
 |[.tup ds]=>some (.tup ds,false)
 |_=>none
theorem BX:bB X (.type "tuple") (zp X.K ft):=by
 refine bB.to o6 λxs H Q q=>?_;obtain⟨B,ds,d,bb,G,i,g,q⟩:=q;cases i with
 |nil=>simp[ft]at g
 |cons M T=>
  cases T with
  |cons _ _=>cases M<;>simp[ft]at g
  |nil=>
   cases M<;>try (simp[ft]at g;done)
   ·rename_i U vs es h hl;simp only[ft]at g;cases g
    exact⟨_,_,rfl,.inr ⟨aP G h,q.one G (.tup h hl)⟩⟩
   ·rename_i U vs es h hl;simp only[ft]at g;cases g
    refine⟨_,_,rfl,.inl ⟨G.seq h,λl hp=>?_⟩⟩;have O:=Ext.laid (o:=.tup vs) G hp;exact q _ _ _ O (.tup (ga.of aq) (hl.mono O.bn)) (by simp)
end
section
variable {X:Cx}{a b e:Expr}{pos:Pos}{x:Str}{p:Pos}
@[simp] def Lj (is:List Nat)(f:FE):FS:=λρ=>(f ρ).bind λx=>(fL x.1).bind λds=>(dq is ds (if bj ds=true then ρ else unown ρ)).map .nx
@[simp] def MN (i:Nat)(g G:FE):FS:=λρ=>match ρ[i]? with
 |some (some (.lst ds,true))=>(G ρ).bind λv=>(g ρ).bind λk=>match k.1 with
  |.int j=>(wh ds.length j).bind λn=>if aT v.1=true then some (.nx (ρ.set i (some (.lst (ds.set n v.1),true))))else none
  |_=>none
 |_=>none
@[simp] noncomputable def MO (i:Nat)(g:List D->Option (List D)):FS:=λρ=>match ρ[i]? with
 |some (some (.lst ds,true))=>(g ds).map λes=>.nx (ρ.set i (some (.lst es,true)))
 |_=>none
@[simp] def MP (i:Nat)(f:FE):FS:=λρ=>match ρ[i]? with
 |some (some (.lst ds,true))=>(f ρ).bind λx=>match x.1 with
  |.lst es=>if x.2=true/\bj es=true/\ds.length+es.length<=sizeLine then some (.nx (ρ.set i (some (.lst (ds++es),true))))else none
  |_=>none
 |_=>none
@[simp] noncomputable def sg:List D->OB
 |[.int i]=>some (.int i,false)
 |[.bl b]=>some (.int (if b then 1 else 0),false)
 |_=>none
theorem GS:bB X (.type "int") (zp X.K sg):=by
 refine bB.to xP λxs H Q q=>?_;obtain⟨B,ds,d,bb,G,i,g,q⟩:=q;cases i with
 |nil=>simp[sg]at g
 |cons M O=>
  cases O with
  |cons _ _=>cases M<;>simp[sg]at g
  |nil=>
   cases M<;>try (simp[sg]at g;done)
   ·simp only[sg]at g;cases g
    exact .inr ⟨_,rfl,q.one G (.int _)⟩
   ·simp only[sg]at g;cases g
    exact .inl ⟨_,rfl,q.one G (.int _)⟩
end
open AutoSeq1 (wpAny_loadPart')
set_option maxRecDepth 100000
noncomputable def Lk (k:Bool):String:=if k=true then "list" else "tuple"
theorem si (k:Bool)(l:Addr)(items:Array Value)(n:Nat)(G:Option Addr)(sl:Array (Option Value)):
  Meets (Builtin.«enumerate.__new__» ⟨[.type "enumerate",.ref l],[]⟩) (λ_ R s=>s.heap.get? l=some { cls:=.type (Lk k),dict:=G,data:=.seq items n,slots:=sl } /\
   R (.ok (.ret (.ref (s.heap.push (EE k l)).objs.size))) { s with heap:=(s.heap.push (EE k l)).push { cls:=.type "enumerate",data:=.fields #[.none,.bool false,.ref s.heap.objs.size,rawInt 0,.none,.none] } }) :=
 .of_wp λprog w A R s hs=>by
  obtain⟨hp,g,d,tk,os⟩:=s;obtain⟨hl,hs⟩:=hs;have O:=sub_enumerate;have M:tW k (Shared.heap ⟨hp,g,d,tk,os⟩) l items:=by cases k<;>exact⟨_,hl,rfl,n,rfl⟩
  wp_walk using wpAny_loadPart' hl;refine wpAny_stack_any λst=>wY ?_;split
  ·rename_i c _ _ _ _ _;cases (c == Value.type "enumerate")
   ·wp_walk using wpAny_loadPart' hl,qI M;exact⟨_,rfl,hs⟩
   ·wp_walk using wpAny_loadPart' hl,qI M;exact⟨_,rfl,hs⟩
  ·wp_walk using wpAny_loadPart' hl,qI M;exact⟨_,rfl,hs⟩
section
variable {prog:Program}{w:World}{A:Around}{E:Value->Shared->Prop}{s:Shared}
theorem zM (M:tW k s.heap l items)
  (q:∀h',IsEnum h' (s.heap.objs.size+1) s.heap.objs.size 0 .none->wF k h' s.heap.objs.size l 0->(∀b o,s.heap.get? b=some o->h'.get? b=some o)->Q (.ref (s.heap.objs.size+1)) { s with heap:=h' }):
  wpAny (model prog w) A (call (.type "enumerate") [.ref l]) Q E s:=by
 have hh:∃(g:Option Addr)(sl:Array (Option Value))(n:Nat),s.heap.get? l=some { cls:=.type (Lk k),dict:=g,data:=.seq items n,slots:=sl }:=by
  cases k<;>(obtain⟨⟨c,g,dt,sl⟩,hl,hc,n,hd⟩:=M;dsimp only at hc hd;subst hc;subst hd;exact⟨g,sl,n,hl⟩)
 obtain⟨g,sl,n,hl⟩:=hh;refine callType_new PySem.F.called_enumerate (by decide) (PySem.F.typeCall_enumerate_1 _) (PySem.F.newCall_enumerate_1 _) (λobj=>PySem.F.args_object_init_2 obj _) PySem.F.entry_enumerate_new (si k l items n g sl) ⟨hl,?_⟩;have n1:(s.heap.push (EE k l)).objs.size=s.heap.objs.size+1:=Heap.size_push ..;have G:((s.heap.push (EE k l)).push { cls:=.type "enumerate",data:=.fields #[.none,.bool false,.ref s.heap.objs.size,rawInt 0,.none,.none] }).get? (s.heap.push (EE k l)).objs.size=some _:=vY _ rfl;have g1:((s.heap.push (EE k l)).push { cls:=.type "enumerate",data:=.fields #[.none,.bool false,.ref s.heap.objs.size,rawInt 0,.none,.none] }).get? s.heap.objs.size=some _:=vZ _ (vY _ (by cases k<;>rfl))
 rw[n1]at G;show _/\_;rw[n1];refine⟨⟨_,G,rfl⟩,q _ G ?_ λb o e=>vZ _ (vZ _ e)⟩;cases k<;>exact⟨_,g1,rfl,rfl⟩
theorem EG (T:A.handled=none)(it l:Addr)(g:l≠it)(items:Array Value):Draws prog w A it [it,l] items.size (λi v=>items[i]? = some v) (λi h=>wF k h it l i/\tW k h l items) where
 live:=λi h st=>let ⟨o,e,_⟩:=st.1.ob;⟨o,e⟩
 frame:=λi h h' st M=>⟨st.1.upon λo e=>M it (by simp) o e,st.2.upon λo e=>M l (by simp) o e⟩
 item:=λi s Q E hi st q=>yi st.1 st.2 (v:=items[i]) (by simp[hi]) λh' G O=>q _ h' s.toks (by simp[hi]) ⟨G,st.2.upon λo e=>O.extBut _ _ g e⟩ O
 done:=λs Q E st q=>sf T st.1 st.2 (by simp) q
theorem EH (G:A.handled=none)(it l:Addr)(items:Array Value)(n:Nat)(hn:items[n]? = none):Draws prog w A it [it,l] n (λ_ _=>True) (λi h=>(wF k h it l i/\tW k h l items)/\i=n) where
 live:=λi h st=>let ⟨o,e,_⟩:=st.1.1.ob;⟨o,e⟩
 frame:=λi h h' st g=>⟨⟨st.1.1.upon λo e=>g it (by simp) o e,st.1.2.upon λo e=>g l (by simp) o e⟩,st.2⟩
 item:=λi s Q E hi st q=>absurd st.2 (vS hi)
 done:=λs Q E st q=>sf G st.1.1 st.1.2 hn q
end
noncomputable def Js (K:Frag)(k:Bool)(a:Addr):It :=
  ⟨λi H=>∃xs x,uz k K H a xs/\xs[i]? = some x,
   λi H v H'=>∃T x,v=.ref T/\H T=none/\H'=upd H T (.tup [.int i,x])/\∀xs,uz k K H a xs->xs[i]? = some x,
   λi H=>∃xs,uz k K H a xs/\xs.length<=i⟩
theorem yj {P:Program}{w:World}{K:Frag}{es:List Expr}{kt:Nat}{pt:Pos}{k:Bool}{a e it:Addr}(M:e≠it)(NQ:a≠e)(NR:a≠it):
  Turn P w K (.Tuple es kt pt) (Js K k a) [e,it] e (λi h=>(∃g,IsEnum h e it i g)/\wF k h it a i) where
 mem:=by simp
 obj:=λi h st b hb=>by
  obtain⟨⟨g,he⟩,G⟩:=st;simp at hb;rcases hb with rfl|rfl
  ·exact⟨_,he,λv z=>by cases z⟩
  ·exact G.ob
 keep:=λi h h' st kk=>by
  obtain⟨⟨g,he⟩,G⟩:=st;exact⟨⟨g,kk e (by simp) _ he⟩,G.upon λo q=>kk it (by simp) o q⟩
 item:=by
  intro X hP hw hK hc i aa s σ H E I hf st hg;subst hP hw hK;obtain⟨⟨g,he⟩,G⟩:=st;obtain⟨xs,x,q1,hx⟩:=hg;obtain⟨its,r1,p1,z1⟩:=q1.vals I;obtain⟨u,hu,ru⟩:=r1.get hx;have fresh:H s.heap.objs.size=none:=I.hok.fresh (vT _);have NS:i<its.toArray.size:=by rw[vH];exact(vV hu).1
  have T:e≠s.heap.objs.size:=vS (vX he);have NT:it≠s.heap.objs.size:=by obtain⟨o,q,_⟩:=G.ob;exact vS (vX q)
  refine wpAny_pyNext_enum_itemD (EG (A:=X.A.in1) (I.ok.hd hc) it a NR its.toArray) he ⟨G,p1⟩ NS M (by simp[M,NQ.symm]) λv h' tk hv ho HG hT hsz hk=>?_;have ev:v=u:=by
   have U:its[i]? = some v:=by simpa using hv
   rw[hu]at U;exact(vK U).symm
  subst ev;refine⟨_,rfl,wpAny_letOwnedTupleGo_enum (s:={ s with heap:=h',toks:=tk+1 }) ho λh2 IH s2=>?_⟩;have O:Heap.SameBut e h' h2:=s2;have kk:∀b o,b∉[e,it]->s.heap.get? b=some o->h2.get? b=some o:=λb o hb q=>O.extBut _ _ (λz=>hb (by simp[z])) (hk b o (λz=>hb (by simp[z])) (λz=>hb (by simp[z])) q);have new:bi X.prog X.w (upd H s.heap.objs.size (.tup [.int i,x])) h2 s.heap.objs.size (.tup [.int i,x]):=⟨by show 2<=sizeLine;decide,[.int i tk,v],.cons ⟨tk,rfl⟩ (.cons ru .nil),⟨_,O.extBut _ _ T.symm hT,rfl,_,rfl⟩⟩;refine⟨.ref s.heap.objs.size,upd H s.heap.objs.size (.tup [.int i,x]),GO (s:=s) (t':=tk+1) I hf kk (vT _) new,rfl,⟨_,x,rfl,fresh,rfl,λzs hq=>by rw[uz.inj I hq q1];exact hx⟩,?_,λb hb=>?_⟩
  ·exact⟨⟨_,by have:=IH;rw[show((i:Int)+1)=((i+1:Nat):Int) by omega]at this;exact this⟩,HG.1.upon λo q=>O.extBut _ _ M.symm q⟩
  ·have AZ:b≠s.heap.objs.size:=by
    simp at hb;rcases hb with rfl|rfl
    ·exact T
    ·exact NT
   rw[ar AZ];exact(hf b hb).1
 done:=by
  intro X hP hw hK hc i aa s σ H E I hf st hg;subst hP hw hK;obtain⟨⟨g,he⟩,G⟩:=st;obtain⟨xs,q1,hl⟩:=hg;obtain⟨its,r1,p1,z1⟩:=q1.vals I;have n1:=r1.length;refine wpAny_pyNext_enum_endD (EH (A:=X.A.in1) (I.ok.hd hc) it a its.toArray i (by simp;omega)) he ⟨⟨G,p1⟩,rfl⟩ λh' hk=>⟨rfl,?_⟩;exact qJ (t':=s.toks) I hf λb o hb q=>hk b o (λz=>hb (by simp[z])) q
 self:=λ_ _ _ _ _ st h=>let ⟨⟨_,he⟩,_⟩:=st;wpAny_pyIter_enum he h
section
variable {X:Cx}{a b e:Expr}{pos:Pos}{p:Pos}
theorem sj:bootBuiltins "enumerate" = some (.type "enumerate"):=by decide +kernel
noncomputable def jM (ds:List D):List D:=ds.mapIdx λi d=>.tup [.int i,d]
@[simp] def wG (fa:FE):FA:=λρ=>(fa ρ).bind λx=>(fL x.1).map jM
theorem BY {K:Frag}{N:Hp}{k:Bool}{l:Addr}{vs:List V}{ds:List D}(h1:uz k K N l vs)(G:IsL K N vs ds):my K (Js K k l) N (jM ds):=by
 intro i H' g;have n1:=G.length;refine⟨λd ed=>?_,λhl=>⟨vs,h1.same g,?_⟩⟩
 ·unfold jM at ed;rw[List.getElem?_mapIdx]at ed;obtain⟨x,e1,rfl⟩:=oY ed;obtain⟨v,M,iv⟩:=G.get e1;refine⟨⟨vs,v,h1.same g,M⟩,λr H2 hy=>?_⟩;obtain⟨T,v',rfl,hT,rfl,f1⟩:=hy;have O:=f1 vs (h1.same g);rw[M]at O;cases O;have U:=Ext.laid (o:=.tup [.int i,v]) g hT;exact⟨_,U,.tup (ga.of aq) (.cons (.int _) (.cons (iv.mono U.bn) .nil))⟩
 ·unfold jM at hl;rw[List.length_mapIdx]at hl;omega
theorem wH {es:List Expr}{kt:Nat}{pt:Pos}{fa:FE}(hm:X.mg "enumerate" = none)(ha:JE X a fa)(hg:Gl X "enumerate":=by rfl)(hs:starEach [a] X.env=[(false,eval a X.env)]:=by rfl):
  JI X (.Tuple es kt pt) (.Call (.Name "enumerate" p) [a] [] pos) (wG fa):=by
 intro aa s σ H R I q;refine Call_ (ji I hg hm sj (PyProof.Rows.callWith_type1 (bF (ae ha ai hs pos aa s σ H (λvs g=>∃(k:Bool)(l:Addr)(us:List V),vs=[.ref l]/\uz k X.K g l us/\R (Js X.K k l) g) I ?_) λus s1 ⟨vs,g,O,r1,q1⟩=>?_) hs rfl))
 ·obtain⟨B,ρ,ds,sB,r,G,q⟩:=q;obtain⟨x1,ex,G⟩:=oX G;obtain⟨xs,T,G⟩:=oY G;subst G;refine⟨B,ρ,[x1.1],sB,r,by simp[ab,ag,ex],λvs g N1 xt i1=>?_⟩;cases i1 with
  |cons j1 j2=>
   cases j2
   obtain⟨k1,l1,us,rfl,s1,m1⟩:=GQ j1 T;exact⟨k1,l1,us,rfl,s1.same xt.nh,q _ g N1 xt (BY s1 m1)⟩
 ·obtain⟨k,l,ws,rfl,h1,q⟩:=q1;obtain⟨u1,rfl,U⟩:=r1.one;cases U
  obtain⟨its,v1,p1,z1⟩:=h1.vals O;have Ix:=p1.lt;refine zM p1 λh' c1 c2 ck=>?_;refine wpAny_pyIter_enum c1 ⟨s1.heap.objs.size+1,[s1.heap.objs.size+1,s1.heap.objs.size],_,_,g,rfl,O.kept (t':=s1.toks) ck,
   yj (Nat.succ_ne_self _) (vS (Nat.lt_succ_of_lt Ix)) (vS Ix),⟨⟨_,c1⟩,c2⟩,λb hb=>?_,q⟩
  have M:s1.heap.objs.size<=b:=by
   simp at hb;rcases hb with rfl|rfl
   ·exact Nat.le_succ _
   ·exact vT _
  exact O.fpOk M (O.hok.fresh M)
end
end DL
namespace DL
open PySem PySem.Spec PyProof.Rows
theorem yk (t:SetTable)(es:Array (Int×Value))(n:Nat):(relayAll t es n).2.1.led=t.led:=by
 unfold relayAll;split
 ·rename_i t' g h;unfold SetTable.relaid SetTable.laid at h;obtain⟨ow,_,h⟩:=oX h;cases h
  dsimp only;split<;>rfl
 ·rfl
theorem sk (t:SetTable)(es:Array (Int×Value))(n:Nat)(hp:t.plain=false):(relayAll t es n).2.1.plain=false:=by
 unfold relayAll;split
 ·rename_i t' g h;unfold SetTable.relaid SetTable.laid at h;obtain⟨ow,_,h⟩:=oX h;cases h
  dsimp only;split
  ·exact hp
  ·rfl
 ·rfl
theorem BZ (t:SetTable)(es:Array (Int×Value))(h:Int)(x:Value):(layNew t es h x).2.1.led=t.led:=by
 unfold layNew;split
 ·dsimp only[SetTable.put,SetTable.orStandIn];repeat' (first|rfl|split)
 ·rfl
structure TabT (w:World)(es:Array (Int×Value))(t:SetTable):Prop where
 fits:t.fits es.size=true
 led:t.led = !w.params.followText "set-order"
 plain:es.size≠0->t.plain=false
def fX (prog:Program)(w:World)(h:Heap)(a:Addr)(g:List Str):Prop :=
 ∃o es G t,h.get? a=some o/\o.ExactSet/\o.data=.set es G t/\ElemsOf (PySem.strKind prog w) es.toList/\(es.toList.map (λe=>strOf e.2)).Perm g/\g.Nodup/\g.length<scanBound/\TabT w es t
noncomputable def gF (g:List Str)(x:Str):List Str:=if x∈g then g else g++[x]
theorem zN (g:List Str)(x:Str):(gF g x).length<=g.length+1:=by unfold gF;split<;>simp
theorem sn (h:Value.isStrOf k v=true):strOf v=k:=by obtain⟨t,rfl⟩:=Value.isStrOf_shape h;rfl
section
variable {prog:Program}{w:World}{A:Around}{E:Value->Shared->Prop}{s:Shared}
theorem pi {es:Array (Int×Value)}{M:List Str}(G:ElemsOf (PySem.strKind prog w) es.toList)(hp:(es.toList.map (λe=>strOf e.2)).Perm M)(k:Str):k∈M ↔ ∃e∈es.toList,(PySem.strKind prog w).is k e.2=true:=by
 rw[←hp.mem_iff,List.mem_map];constructor
 ·rintro⟨e,he,rfl⟩;obtain⟨⟨k',hk,_⟩,_⟩:=G e he;have g:Value.isStrOf k' e.2=true:=hk;refine⟨e,he,?_⟩;show Value.isStrOf (strOf e.2) e.2=true;rw[sn g];exact g
 ·rintro⟨e,he,hk⟩;exact⟨e,he,sn hk⟩
theorem pj {h:Heap}{a:Addr}{o:Obj}{es:Array (Int×Value)}{G:Nat}{t:SetTable}(M:h.get? a=some o)(hd:o.data=.set es G t)(g:Array (Int×Value))(t':SetTable):
  (h.update a (Obj.putSet g t')).get? a=some { o with data:=.set g (G+1) t' }:=by
 have:=Heap.get?_update_self (Obj.putSet g t') M (by rw[putSet_of g t' hd];rfl);rw[putSet_of g t' hd]at this;exact this
theorem sq {g:Bool->Sem Unit}(hg:∀(b:Bool)(U:Shared)(Q':Unit->Shared->Prop),Q' () U->wpAny (model prog w) A (g b) Q' E U)
  {a:Addr}{o:Obj}{es:Array (Int×Value)}{ep:Nat}{t:SetTable}(ho:s.heap.get? a=some o) (CN:o.ExactSet) (hd:o.data=.set es ep t)
  {G:Array (Int×Value)}{M:SetTable}{ts:List Str}(AI:ElemsOf (PySem.strKind prog w) G.toList) (FJ:(G.toList.map (λe=>strOf e.2)).Perm ts) (nd:ts.Nodup)
  (hb1:ts.length<scanBound) (II:M.fits G.size=true) (D5:M.led = !w.params.followText "set-order") (yL:M.plain=false) {O:Bool}{R:Option Bool->Shared->Prop}
  (h:∀h',Heap.SameBut a s.heap h'->fX prog w h' a ts->R (some true) { s with heap:=h' }):
  wpAny (model prog w) A (do
    storeSet a G M
    if(!O && M.tooFull)=true then do
      g (relayAll M G (SetTable.grown G.size)).2.2
      storeSet a (relayAll M G (SetTable.grown G.size)).1 (relayAll M G (SetTable.grown G.size)).2.1
      pure (some true)
     else pure (some true)) R E s:=by
 have LN:G.size=ts.length:=by rw[←FJ.length_eq,vI,vG]
 refine wX (wpAny_storeSet_of ho hd ?_ (fits_of_scanBound (by rw[LN];exact hb1)));have CO:=pj ho hd G M;have HH:=vW s.heap a (Obj.putSet G M);split
 ·have hp:=relayAll_perm M G (SetTable.grown G.size);have HI:=relayAll_fits M G (SetTable.grown G.size);have FK:=yk M G (SetTable.grown G.size);have Ka:=sk M G (SetTable.grown G.size) yL;generalize hRl:relayAll M G (SetTable.grown G.size)=Rl at hp HI FK Ka ⊢;obtain⟨T,t3,LO⟩:=Rl;dsimp only at hp HI FK Ka ⊢;have Kb:ElemsOf (PySem.strKind prog w) T.toList:=AI.perm hp;have hsz:T.size=G.size:=by rw[←vG,hp.length_eq,vG]
  refine wX (hg _ _ _ ?_);refine wX (wpAny_storeSet_of CO rfl ?_ (fits_of_scanBound (by rw[hsz,LN];exact hb1)));have NU:=pj CO rfl T t3;exact wY (h _ (HH.trans (vW _ a _)) ⟨_,T,_,t3,NU,CN,rfl,Kb,(hp.map _).trans FJ,nd,hb1,HI,FK.trans D5,λ_=>Ka⟩)
 ·exact wY (h _ HH ⟨_,G,_,M,CO,CN,rfl,AI,FJ,nd,hb1,II,D5,λ_=>yL⟩)
theorem u0 {a:Addr}{T:List Str}{k:Str}{tk:Tok}{Q:Bool->Shared->Prop}(hS:fX prog w s.heap a T)(HJ:T.length+1<scanBound)
  (h:∀b h',Heap.SameBut a s.heap h'->fX prog w h' a (gF T k)->Q b { s with heap:=h' }):
  wpAny (model prog w) A (setAddHashed a (.str k tk) ((PySem.strKind prog w).hash k)) Q E s:=by
 have hS0:=hS;obtain⟨o,es,ep,t,ho,CN,hd,U,g,nd,hb,hf,CP,yL⟩:=hS;have HK:(PySem.strKind prog w).is k (.str k tk)=true:=strKind_is prog w k tk;have sz:es.size=T.length:=by rw[←g.length_eq,vI,vG]
 unfold setAddHashed setAddHashedIn;refine wpAny_holding (wX (wpAny_setState_of ho hd hf ?_));dsimp only;rw[byScan_of (x:=.str k tk) rfl (by rw[sz];exact hb) U];simp only[↓reduceIte];unfold setAddByScan;refine wX ?_;refine wX (wpAny_rule ?_);refine wX (wpAny_setScan_of HK ho hd hf U ?_);cases hr:List.findIdx? (λe=>(PySem.strKind prog w).is k e.2) es.toList with
 |some j=>
  dsimp only;obtain⟨hj,NV,_⟩:=List.findIdx?_eq_some_iff_getElem.mp hr;have hm:k∈T:=(pi U g k).mpr ⟨es.toList[j],List.getElem_mem hj,NV⟩;refine wY (wY ?_);have e:gF T k=T:=by unfold gF;rw[if_pos hm]
  exact h false s.heap (Heap.SameBut.refl a s.heap) (by rw[e];exact hS0)
 |none=>
  dsimp only;have hm:k∉T:=λz=>by
   obtain⟨e,he,hp⟩:=(pi U g k).mp z;have:=List.findIdx?_eq_none_iff.mp hr e he;rw[hp]at this;exact Bool.noConfusion this
  have ea:gF T k=T++[k]:=by unfold gF;rw[if_neg hm]
  have NW:∀(b:Bool){O:Shared}{Q':Unit->Shared->Prop},Q' () O->wpAny (model prog w) A (match b with|true=>rule "set.scan.the-table-gave-way" | false=>pure ()) Q' E O :=
   λb O Q' hq=>by cases b<;>first|exact wY hq|exact wpAny_rule hq
  have G:=layNew_perm t es ((PySem.strKind prog w).hash k) (.str k tk);have M:=layNew_fits t es ((PySem.strKind prog w).hash k) (.str k tk);have AJ:=BZ t es ((PySem.strKind prog w).hash k) (.str k tk);generalize hL:layNew t es ((PySem.strKind prog w).hash k) (.str k tk)=L at G M AJ ⊢;obtain⟨LP,t1,HL,Kc⟩:=L;dsimp only at G M AJ ⊢;rw[Array.toList_push]at G;have AI:ElemsOf (PySem.strKind prog w) LP.toList:=(U.push HK rfl).perm G;have FJ:(LP.toList.map (λe=>strOf e.2)).Perm (T++[k]):=(G.map _).trans (by rw[uX];exact g.append_right _);have LQ:(T++[k]).Nodup:=by
   rw[List.nodup_append];refine⟨nd,by simp,λx hx y hy=>?_⟩;rw[List.mem_singleton]at hy;subst hy;exact λz=>hm (z ▸ hx)
  have hb1:(T++[k]).length<scanBound:=by rw[vA];exact HJ
  refine wX (NW _ ?_);have HM:∀h',Heap.SameBut a s.heap h'->fX prog w h' a (T++[k])->Q true { s with heap:=h' }:=λh' hsb Fo=>h true h' hsb (by rw[ea];exact Fo);split
  ·refine wX ?_;rw[hashByValue_scannable 8 (x:=.str k tk) rfl];refine wY ?_;refine sq ?_ ho CN hd AI FJ LQ hb1 ?_ ?_ ?_ ?_
   ·intro b O Q' hq;cases b<;>first|exact wY hq|exact wpAny_rule hq
   ·exact SetTable.fits_plain_off M
   ·exact AJ.trans CP
   ·rfl
   ·intro h' hsb Fo;dsimp only;exact wY (HM h' hsb Fo)
  ·rename_i Kd;refine wX (wY ?_);simp only[↓reduceIte];refine sq ?_ ho CN hd AI FJ LQ hb1 M (AJ.trans CP) (by simpa using Kd) ?_
   ·intro b O Q' hq;cases b<;>first|exact wY hq|exact wpAny_rule hq
   ·intro h' hsb Fo;dsimp only;exact wY (HM h' hsb Fo)
end
noncomputable def fH (g:List Str):List Str:=g.foldl gF []
theorem u5 (h:ts.Nodup)(x:Str):(gF ts x).Nodup:=by
 unfold gF;split
 ·exact h
 ·rename_i hm;rw[List.nodup_append];refine⟨h,by simp,λy hy z hz=>?_⟩;rw[List.mem_singleton]at hz;subst hz;exact λe=>hm (e ▸ hy)
theorem mH:y∈gF ts x↔y∈ts∨y=x:=by
 unfold gF;split
 ·rename_i hm;exact⟨.inl,λz=>z.elim id λe=>e ▸ hm⟩
 ·simp
theorem qK (G:List Str):∀g:List Str,(G.foldl gF g).length<=g.length+G.length:=by
 induction G with
 |nil=>intro g;simp
 |cons x r M=>intro g;rw[List.foldl_cons];have:=M (gF g x);have:=zN g x;simp only[vE];omega
theorem mI (g:List Str):(fH g).length<=g.length:=by have:=qK g [];simpa [fH]using this
theorem ym (g:List Str)(x:Str):fH (g++[x])=gF (fH g) x:=by unfold fH;rw[List.foldl_append];rfl
theorem StrsAre.at:∀ {vs:List Value}{g:List Str},StrsAre vs g->∀(i:Nat)(v:Value),vs[i]? = some v->∃x t,v=.str x t/\g[i]? = some x
 |_,_,.nil,i,v,h=>by simp at h
 |_,_,.cons x t G,0,v,h=>by simp at h;exact⟨x,t,h.symm,rfl⟩
 |_,_,.cons x t G,i+1,v,h=>by
  simp only[List.getElem?_cons_succ]at h;exact StrsAre.at G i v h
theorem fX.at (x:fX prog w h a ts)(k:∀o,h.get? a=some o->h'.get? a=some o):fX prog w h' a ts:=by
 obtain⟨o,es,g,t,G,r⟩:=x;exact⟨o,es,g,t,k o G,r⟩
section
variable {prog:Program}{w:World}{A:Around}{R:Result->Shared->Prop}{I:Addr}{fp wr:List Addr}{G:Array GenState->Array GenState->Prop}{n:Nat}{P:Nat->Value->Prop}{St:Nat->Shared->Prop}
theorem qL (W:WalksS prog w A.in1 I fp wr G n P St)(S:Addr)(T:S∉fp)(g:List Str)(hn:g.length=n)
  (U:∀i v,P i v->∃x t,v=.str x t/\g[i]? = some x) (hb:n+1<scanBound):
  ∀(k i:Nat)(s:Shared),n - i=k->i<=n->St i s->fX prog w s.heap S (fH (g.take i)) ->
   (∀s',Moved (S::wr) G s s'->fX prog w s'.heap S (fH g)->R (.ok (.ret .none)) s') ->
   codeAny (model prog w) A (.builtin "set.update.loop" ⟨[.ref S,.ref I],[]⟩) R s:=by
 have LR:S∉wr:=λh=>T (W.sub _ h);have M:∀b∈wr,b∈S::wr:=λb hb=>mZ _ hb;intro k;induction k with
 |zero=>
  intro i s hk hi O hS hR;have Fp:i=n:=by omega
  subst Fp;refine codeAny_builtin PyProof.Rows.F.entry_set_update_loop ?_;rw[Around.under_plainId PyProof.Rows.F.plain_set_update_loop _];show wpAny _ A.in1 (pyNext (.ref I)>>=_) _ _ s;refine wX (W.done s _ _ O λs' hm=>?_);show wpAny _ A.in1 (ret Value.none) _ _ s';refine wY (hR s' (hm.mono M) ?_);rw[List.take_of_length_le (by omega)]at hS;exact hS.at λo e=>hm.heap S _ LR e
 |succ k ih=>
  intro i s hk hi O hS hR;have xE:i<n:=by omega
  refine codeAny_builtin PyProof.Rows.F.entry_set_update_loop ?_;rw[Around.under_plainId PyProof.Rows.F.plain_set_update_loop _];show wpAny _ A.in1 (pyNext (.ref I)>>=_) _ _ s;refine wX (W.item i s _ _ xE O λv s' hP hst' hm=>?_);obtain⟨x,t,rfl,hx⟩:=U i v hP;have Fo:fX prog w s'.heap S (fH (g.take i)):=hS.at λo e=>hm.heap S _ LR e;show wpAny _ A.in1 (holding [Value.str x t] (setAdd S (.str x t))>>=_) _ _ s';refine wX (wpAny_holding ?_);unfold setAdd;refine wpAny_holding ?_;refine wX ((PySem.strKind prog w).pyHash (k:=x) (strKind_is prog w x t) ?_);have hl:(fH (g.take i)).length+1<scanBound:=by have:=mI (g.take i);rw[List.length_take]at this;omega
  refine u0 (s:={ s' with toks:=s'.toks+1 }) Fo hl λb h' hsb HN=>?_;have NX:fX prog w h' S (fH (g.take (i+1))):=by
   rw[List.take_add_one,hx,Option.toList_some,ym];exact HN
  refine wY ⟨plainId_quiet PyProof.Rows.F.plain_set_update_loop _,ih (i+1) _ (by omega) xE (W.frame _ s' _ _ hst' (Nat.le_succ _) λb hb o e=>?_) NX λHP hm'' hS''=>?_⟩
  ·rw[hsb.2 b (λh:b=S=>T (by rw[←h];exact hb))];exact e
  ·refine hR HP (Moved.trans W.gtrans ((hm.mono M).then_heap (Nat.le_succ _) λb o hb e=>?_) hm'') hS'';rw[hsb.2 b (λh:b=S=>hb (by rw[h];exact mX))];exact e
end
section
variable {prog:Program}{w:World}{A:Around}{E:Value->Shared->Prop}{s:Shared}
noncomputable abbrev cW (w:World):Obj:={ cls:=.type "set",dict:=none,data:=.set #[] 0 (.fresh 0 0 (!w.params.followText "set-order")) }
theorem sr (a:Value) 
  (h:Q₁ (.ref s.heap.objs.size) { s with heap:=s.heap.push (cW w) }):
  codeAny (model prog w) A (.call (.builtin "set.__new__") ⟨[.type "set",a],[]⟩) (wants Q₁ E) s:=by
 refine codeAny_of_tree ?_;show wpAny _ A.in1 (do checkBuiltinCall "set.__new__" ⟨[.type "set",a],[]⟩;again (.builtin "set.__new__" ⟨[.type "set",a],[]⟩)) _ _ s;refine wX (wpAny_of_eq (PySem.F.newCall_set_1 a) (wY ⟨plainId_quiet PySem.F.plain_set_new _,codeAny_builtin PySem.F.entry_set_new ?_⟩));rw[Around.under_plainId PySem.F.plain_set_new _];unfold Builtin.«set.__new__» Builtin.Frozenset.newClass;have G:=sub_set_self;obtain⟨hp,g,d,tk,os⟩:=s;dsimp only;wp_walk;refine wpAny_askSetting (wY ?_);dsimp only;simp only[newObj];refine wX (wpAny_alloc (wY ?_));exact wY h
set_option maxHeartbeats 3200000 in
theorem mJ 
  (hh:A.handled=none) (hl:s.heap.IsList l items) (hi:StrsAre items.toList ss) (hb:items.size+1<scanBound)
  (h:∀(h':Heap)(tk:Nat),fX prog w h' s.heap.objs.size (fH ss) ->
   (∀b o,b<s.heap.objs.size->s.heap.get? b=some o->h'.get? b=some o)->Q (.ref s.heap.objs.size) { s with heap:=h',toks:=tk }):
  wpAny (model prog w) A (call (.type "set") [.ref l]) Q E s:=by
 obtain⟨c,tl,NY⟩:=PySem.F.called_set.mro;have LS:=PySem.F.called_set.made;have NZ:=PySem.F.called_set.sub;refine wpAny_call (codeAny_of_tree ?_);show wpAny _ _ (callAny (.type "set") _) _ _ _;refine wY ⟨Code.quiet_builtin _ (by decide +kernel),codeAny_builtin PySem.F.entry_type_call ?_⟩;rw[Around.under_plain (weight_type_call_type "set" [.ref l] []) rfl];have h1:=PySem.F.called_set.notType;have h2:=PySem.F.called_set.canCreate;have Pl:=PySem.F.typeCall_set_1 (.ref l);have iD:ss.length=items.size:=by have:=hi.strs;rw[←this,vI,vG]
 repeat (any_goals (first|assumption|wp_step))
 refine codeAny_mono (sr (.ref l) (E:=E) (Q₁:=λobj M=>obj=.ref s.heap.objs.size/\M={ s with heap:=s.heap.push (cW w) }) ⟨rfl,rfl⟩) λr M hr=>?_;cases r with
 |error e=>exact hr
 |ok fl=>
  cases fl with
  |ret obj=>
   obtain⟨rfl,rfl⟩:=hr;have hS:(s.heap.push (cW w)).get? s.heap.objs.size=some (cW w):=vY _ rfl;have hT:Shared.TypeIs { s with heap:=s.heap.push (cW w) } (.ref s.heap.objs.size) "set":=⟨_,hS,rfl⟩;have Pm:=PySem.F.called_set.init.lookup;have Pn:=PySem.F.called_set.init.bind (.ref s.heap.objs.size);repeat (any_goals (first|assumption|wp_step))
   refine codeAny_mono (codeAny_call_builtin (R:=wants (λr O=>r=.none/\∃h' tk,O={ s with heap:=h',toks:=tk } /\
     fX prog w h' s.heap.objs.size (fH ss) /\
     (∀b o,b<s.heap.objs.size->s.heap.get? b=some o->h'.get? b=some o)) E) PySem.F.called_set.init.plain PySem.F.entry_set_init (check_set_init_1 hT ?_)) λr₂ O g=>?_
   ·obtain⟨ol,IJ,yM,nl,Ba⟩:=hl;obtain⟨Oa,T,LU,G⟩:=ol;simp only at yM Ba;subst yM;subst Ba;have Kf:(s.heap.push (cW w)).get? l=some { cls:=.type "list",dict:=T,data:=.seq items nl,slots:=G }:=vZ _ IJ;have Ob:=PySem.F.sub_list_set;have Oc:=PySem.F.sub_list_frozenset;have AZ:(Value.type "list" == Value.type "dict")=false:=by decide
    have AJ:(s.heap.push (cW w)).IsList l items:=⟨_,Kf,rfl,nl,rfl⟩;unfold Builtin.«set.__init__» noKeywords Builtin.Frozenset.updateFrom;generalize hPI:pyIter=PI;wp_walk;subst hPI;refine wpAny_pyIter_list AJ ?_;refine wX (wpAny_runValue ?_);have LV:l<s.heap.objs.size:=vX IJ;have Od:A.in1.in1.in1.handled=none:=by simp[hh]
    have Kg:l≠(s.heap.push (cW w)).objs.size:=by
     rw[Heap.size_push];exact vS (Nat.lt_succ_of_lt LV)
    have IK:s.heap.objs.size∉[(s.heap.push (cW w)).objs.size,l]:=by
     rw[Heap.size_push];simp only[List.mem_cons,List.mem_singleton,List.not_mem_nil,or_false,not_or];exact⟨vS (Nat.lt_succ_self _),Nat.ne_of_gt LV⟩
    have Kh:∀(i:Nat)(v:Value),items[i]? = some v->∃x t,v=.str x t/\ss[i]? = some x:=λi v hv=>
     StrsAre.at hi i v (by rw[Array.getElem?_toList];exact hv)
    refine qL ((Walks.list Od _ l Kg items).toS) s.heap.objs.size
     IK ss iD Kh hb (items.size - 0) 0 _ (by omega) (uO _)
     ⟨⟨_,vY _ rfl,rfl,rfl⟩,(AJ.push _)⟩ ?hS0 ?hR
    case hS0=>
     have Ki:((s.heap.push (cW w)).push { cls:=.type "list_iterator",data:=.fields #[.ref l,.int 0 0] }).get? s.heap.objs.size
       = some (cW w):=vZ _ hS
     exact⟨_,#[],0,_,Ki,⟨rfl,rfl,rfl⟩,rfl,λe he=>by simp at he,List.Perm.refl _,List.nodup_nil,(by show(0:Nat)<scanBound;decide),rfl,rfl,λz=>absurd rfl z⟩
    case hR=>
     intro s' hm U
     obtain⟨h',g',d',Fq,Oe⟩:=s'
     have eg:g'=s.gens:=hm.gens
     have ed:d'=s.drawn:=hm.drawn
     have eo:Oe=s.os:=hm.os
     subst eg;subst ed;subst eo
     show wpAny _ _ _ _ _ _
     refine wY ?_
     show wpAny _ _ (ret Value.none) _ _ _
     refine wY ⟨rfl,h',Fq,rfl,U,λb o hb e=>?_⟩
     have hb1:b≠s.heap.objs.size:=vS hb
     have Of:b≠(s.heap.push (cW w)).objs.size:=by
      rw[Heap.size_push];exact vS (Nat.lt_succ_of_lt hb)
     exact hm.heap b o (by simp only[List.mem_cons,List.mem_singleton,List.not_mem_nil,or_false,not_or];exact⟨hb1,Of⟩) (vZ _ (vZ _ e))
   ·cases r₂ with
    |error e=>exact g
    |ok fl₂=>
     cases fl₂ with
     |ret r=>
      obtain⟨rfl,h',tk,rfl,U,D6⟩:=g;repeat (any_goals (first|assumption|wp_step))
      exact h _ _ U D6
     |_=>exact g.elim
  |_=>exact hr.elim
end
open Sem (wp)
section
variable {M:Model}{A:Around}{E:Value->Shared->Prop}{s:Shared}
theorem Ca (hn:n≠0)(h:∀k d,k<n->Q k { s with drawn:=d }):wpAny M A (choose src n) Q E s:=by
 intro g p G;unfold choose;rw[Sem.wp_choose];refine⟨hn,?_⟩;have:=h _ (s.drawn.bump src) (Nat.mod_lt (M.w.draws src (s.drawn.get src)) (Nat.pos_of_ne_zero hn));simpa using this
end
theorem jN {α:Type}:∀(l:List α)(i:Nat),i<l.length->(l.eraseIdx i).length=l.length - 1:=λl i h=>by rw[List.length_eraseIdx,if_pos h]
theorem jm {α:Type}:∀(l:List α)(i:Nat)(x:α),l[i]? = some x->(x::l.eraseIdx i).Perm l
 |[],i,x,h=>by simp at h
 |a::l,0,x,h=>by simp at h;subst h;exact List.Perm.refl _
 |a::l,i+1,x,h=>by
  rw[List.eraseIdx_cons_succ];simp only[List.getElem?_cons_succ]at h;exact(List.Perm.swap a x _).trans ((jm l i x h).cons a)
theorem wI {α:Type}:∀(n:Nat)(xs:List α)(s:Shared)(Q:List α->Shared->Prop),xs.length=n->(∀ys d,ys.Perm xs->Q ys { s with drawn:=d })->wpAny M A (drawOrder n xs) Q E s
 |0,xs,s,Q,hl,h=>by
  have:xs=[]:=List.eq_nil_of_length_eq_zero hl;subst this;exact wY (h [] s.drawn (List.Perm.refl _))
 |n+1,[],s,Q,hl,h=>by simp at hl
 |n+1,x::r,s,Q,hl,h=>by
  show wpAny M A (choose .order (x::r).length>>=λi=>match (x::r)[i]? with
   |some g=>(do return g::(←drawOrder n ((x::r).eraseIdx i)))
   |none=>unsupported "internal:drawOrder") Q E s
  refine wX (Ca (by simp) λk d hk=>?_);obtain⟨y,hy⟩:∃y,(x::r)[k]? = some y:=⟨_,vU hk⟩;rw[hy];refine wX (wI n _ _ _ (by rw[jN _ _ hk,hl];rfl) λys d' hp=>wY (h _ _ ((hp.cons y).trans (jm _ _ _ hy))))
theorem wJ {α:Type}(next:Nat->Nat):∀(fuel k:Nat)(left:List α)(out:Array α),left.length=fuel->(pickOrder.go next fuel k left out).toList.Perm (out.toList++left)
 |0,k,left,out,hl=>by
  have:left=[]:=List.eq_nil_of_length_eq_zero hl;subst this;unfold pickOrder.go;simp
 |fuel+1,k,left,out,hl=>by
  unfold pickOrder.go;have hk:next k % left.length<left.length:=Nat.mod_lt _ (by omega);obtain⟨y,hy⟩:∃y,left[next k % left.length]? = some y:=⟨_,vU hk⟩;rw[hy];dsimp only;refine(wJ next fuel (k+1) _ _ (by rw[jN _ _ hk];omega)).trans ?_;rw[Array.toList_push,List.append_assoc];exact(jm _ _ _ hy).append_left _
theorem yn {α:Type}(next:Nat->Nat)(xs:Array α):(pickOrder next xs).toList.Perm xs.toList:=by
 have:=wJ next xs.size 0 xs.toList #[] (by simp);simpa [pickOrder]using this
theorem aS:Slot "set_iterator" "__next__" "set_iterator.__next__" :=
 .of (owner:="set_iterator") (n:="__next__") (by rw[typeLookup_type,builtinLookup_eq_fast];kernel_rfl) (by decide +kernel) (by decide +kernel) (by decide +kernel)
  (by first|exact .inl (by decide +kernel)|exact .inr (by decide +kernel)) (by rw[isSubtype_type];kernel_rfl)
theorem dr:entryFor table "set_iterator.__next__" = some Builtin.«set_iterator.__next__»:=entryFor_of_tree (by kernel_rfl)
theorem dS (a:Value):argsOk "set_iterator.__next__" ⟨[a],[]⟩:=by unfold argsOk;kernel_rfl
theorem jd:Slot "set_iterator" "__iter__" "set_iterator.__iter__" :=
 .of (owner:="set_iterator") (n:="__iter__") (by rw[typeLookup_type,builtinLookup_eq_fast];kernel_rfl) (by decide +kernel) (by decide +kernel) (by decide +kernel)
  (by first|exact .inl (by decide +kernel)|exact .inr (by decide +kernel)) (by rw[isSubtype_type];kernel_rfl)
theorem mK:entryFor table "set_iterator.__iter__" = some Builtin.«dict_keyiterator.__iter__» :=
 entryFor_alias (id':="dict_keyiterator.__iter__") (by kernel_rfl) rfl (by decide +kernel) (by kernel_rfl)
theorem o8 (a:Value):argsOk "set_iterator.__iter__" ⟨[a],[]⟩:=by unfold argsOk;kernel_rfl
theorem lM:entryFor table "set.__iter__" = some Builtin.«frozenset.__iter__» :=
 entryFor_alias (id':="frozenset.__iter__") (by kernel_rfl) rfl (by decide +kernel) (by kernel_rfl)
noncomputable abbrev jn (g:Value)(i:Nat)(S:Addr)(n G:Nat):Obj:={ cls:=.type "set_iterator",data:=.fields #[g,.int i 0,.ref S,.int n 0,.int G 0] }
section
variable {prog:Program}{w:World}{A:Around}{E:Value->Shared->Prop}{s:Shared}{it S:Addr}{i ep:Nat}{o:Obj}{es:Array (Int×Value)}{t:SetTable}
theorem cG (g:s.heap.get? it=some (jn fst i S n ep)):s.TypeIs (.ref it) "set_iterator":=⟨_,g,rfl⟩
theorem qM {k k':Nat}{x:Value}{Q:Option Value->Shared->Prop}(g:s.heap.get? it=some (jn (.int k 0) i S es.size ep))
  (M:s.heap.get? S=some o) (hd:o.data=.set es ep t) (hf:t.fits es.size=true)
  (O:∀(T:Around)(U:Value->Shared->Prop)(G:Option (Value×Nat)->Shared->Prop),G (some (x,k')) s->wpAny (model prog w) T (setNext S k i ep) G U s)
  (hQ:∀h',h'.get? it=some (jn (.int k' 0) (i+1) S es.size ep)->Heap.SameBut it s.heap h'->Q (some x) { s with heap:=h' }):
  wpAny (model prog w) A (pyNext (.ref it)) Q E s:=by
 unfold pyNext;refine wX (wpAny_attempt (wpAny_callSpecial?_slot (name:=Str.ofString "__next__") (cG g) aS
  (wpAny_call_entry aS (cG g) dr ?_ (dS _))))
 show wpAny _ _ (fieldsOf (.ref it)>>=_) _ _ s;refine wX (wpAny_fieldsOf g rfl ?_);show wpAny _ _ (setEntries S>>=_) _ _ s;refine wX (wpAny_setEntries_of M hd hf ?_);rw[if_neg (by simp)];show wpAny _ _ (setNext S _ _ _>>=_) _ _ s;simp only[Int.toNat_natCast];refine wX (O _ _ _ ?_);dsimp only;refine wX (wpAny_setField_rec g (by simp) λh1 e1 b1=>?_);refine wX (wpAny_setField_rec e1 (by simp) λh2 e2 b2=>?_);exact wY ⟨x,rfl,wY (hQ h2 (by simpa [rawInt,jn]using e2) (b1.trans b2))⟩
theorem qN {k:Nat}{Q:Option Value->Shared->Prop}(hh:A.handled=none)(g:s.heap.get? it=some (jn (.int k 0) i S es.size ep))
  (M:s.heap.get? S=some o) (hd:o.data=.set es ep t) (hf:t.fits es.size=true)
  (O:∀(U:Around)(E':Value->Shared->Prop)(G:Option (Value×Nat)->Shared->Prop),G none s->wpAny (model prog w) U (setNext S k i ep) G E' s)
  (hQ:∀h',Heap.ExtBut it s.heap h'->Q none { s with heap:=h' }):
  wpAny (model prog w) A (pyNext (.ref it)) Q E s:=by
 unfold pyNext;refine wX (wpAny_attempt (wpAny_callSpecial?_slot (name:=Str.ofString "__next__") (cG g) aS
  (wpAny_call_entry aS (cG g) dr ?_ (dS _))))
 show wpAny _ _ (fieldsOf (.ref it)>>=_) _ _ s;refine wX (wpAny_fieldsOf g rfl ?_);show wpAny _ _ (setEntries S>>=_) _ _ s;refine wX (wpAny_setEntries_of M hd hf ?_);rw[if_neg (by simp)];show wpAny _ _ (setNext S _ _ _>>=_) _ _ s;simp only[Int.toNat_natCast];refine wX (O _ _ _ ?_);dsimp only;refine wX (wpAny_setField_rec g (by simp) λh1 e1 b1=>?_);refine wX ?_;simp only[newExc,newTuple];refine wX (wpAny_newObj_type ?_ (by size_fits));refine wX (m:=firstArgMember _ _) (wpAny_of_eq (a:=Value.none) (by first|rfl|(simp only[firstArgMember];rfl)) ?_);refine wpAny_newObj_type ?_ (by size_fits);simp only[raiseNew];refine wX (wpAny_handled ?_);rw[show A.in1.handled=none from hh];refine wX (wY (wpAny_throw ?_));refine wX (wpAny_isInstance (T:="StopIteration") (b:=true) ⟨_,vY _ rfl,rfl⟩ isSubtype_stop ?_);exact wY (hQ _ ((b1.extBut.push _).push _))
theorem o9 {T:Addr}{pl:List Nat}{p:Nat}{x:Int×Value}{nt:Nat}{Q:Option Value->Shared->Prop}(g:s.heap.get? it=some (jn (.ref T) i S es.size ep))
  (O:s.heap.get? T=some (seqObj "tuple" (pl.map λ(p:Nat)=>Value.int p 0).toArray nt))
  (M:s.heap.get? S=some o) (hd:o.data=.set es ep t) (hf:t.fits es.size=true) (hp:pl[i]? = some p) (hx:es[p]? = some x)
  (U:∀h',h'.get? it=some (jn (.ref T) (i+1) S es.size ep)->Heap.SameBut it s.heap h'->Q (some x.2) { s with heap:=h' }):
  wpAny (model prog w) A (pyNext (.ref it)) Q E s:=by
 unfold pyNext;refine wX (wpAny_attempt (wpAny_callSpecial?_slot (name:=Str.ofString "__next__") (cG g) aS
  (wpAny_call_entry aS (cG g) dr ?_ (dS _))))
 show wpAny _ _ (fieldsOf (.ref it)>>=_) _ _ s;refine wX (wpAny_fieldsOf g rfl ?_);show wpAny _ _ (setEntries S>>=_) _ _ s;refine wX (wpAny_setEntries_of M hd hf ?_);rw[if_neg (by simp)];show wpAny _ _ (seqItems? (.ref T)>>=_) _ _ s;refine wX (wpAny_seqItems O rfl ?_);have G:(pl.map λ(p:Nat)=>Value.int p 0).toArray[(i:Int).toNat]? = some (.int p 0):=by simp[hp]
 dsimp only;rw[G];dsimp only;have e2:wpAny (model prog w) A.in1 (setNextDrawn S (p:Int).toNat (ep:Int).toNat) (λy s'=>y=x.2/\s'=s) (λ_ _=>False) s:=by
  unfold setNextDrawn;refine wX (wpAny_setState_of M hd hf ?_);dsimp only;rw[if_neg (by simp)];simp only[Int.toNat_natCast,hx];exact wY ⟨rfl,rfl⟩
 refine wX (wpAny_mono e2 (λy s' hy=>?_) λ_ _ z=>z.elim);obtain⟨rfl,rfl⟩:=hy;refine wX (wpAny_setField_rec g (by simp) λh1 G b1=>?_);exact wY ⟨_,rfl,wY (U h1 (by simpa [rawInt,jn]using G) b1)⟩
theorem oA {T:Addr}{pl:List Nat}{nt:Nat}{Q:Option Value->Shared->Prop}(hh:A.handled=none)(g:s.heap.get? it=some (jn (.ref T) i S es.size ep))
  (M:s.heap.get? T=some (seqObj "tuple" (pl.map λ(p:Nat)=>Value.int p 0).toArray nt))
  (O:s.heap.get? S=some o) (hd:o.data=.set es ep t) (hf:t.fits es.size=true) (hp:pl[i]? = none)
  (U:∀h',Heap.ExtBut it s.heap h'->Q none { s with heap:=h' }):
  wpAny (model prog w) A (pyNext (.ref it)) Q E s:=by
 unfold pyNext;refine wX (wpAny_attempt (wpAny_callSpecial?_slot (name:=Str.ofString "__next__") (cG g) aS
  (wpAny_call_entry aS (cG g) dr ?_ (dS _))))
 show wpAny _ _ (fieldsOf (.ref it)>>=_) _ _ s;refine wX (wpAny_fieldsOf g rfl ?_);show wpAny _ _ (setEntries S>>=_) _ _ s;refine wX (wpAny_setEntries_of O hd hf ?_);rw[if_neg (by simp)];show wpAny _ _ (seqItems? (.ref T)>>=_) _ _ s;refine wX (wpAny_seqItems M rfl ?_);have G:(pl.map λ(p:Nat)=>Value.int p 0).toArray[(i:Int).toNat]? = none:=by simpa using hp
 dsimp only;rw[G];dsimp only;refine wX (wpAny_setField_rec g (by simp) λh0 e0 b0=>?_);refine wX (wpAny_setField_rec e0 (by simp) λh1 G b1=>?_);refine wX ?_;simp only[newExc,newTuple];refine wX (wpAny_newObj_type ?_ (by size_fits));refine wX (m:=firstArgMember _ _) (wpAny_of_eq (a:=Value.none) (by first|rfl|(simp only[firstArgMember];rfl)) ?_);refine wpAny_newObj_type ?_ (by size_fits);simp only[raiseNew];refine wX (wpAny_handled ?_);rw[show A.in1.handled=none from hh];refine wX (wY (wpAny_throw ?_));refine wX (wpAny_isInstance (T:="StopIteration") (b:=true) ⟨_,vY _ rfl,rfl⟩ isSubtype_stop ?_);exact wY (U _ (((b0.trans b1).extBut.push _).push _))
theorem su (g:s.heap.get? it=some (jn fst i S n ep))(h:Q (.ref it) s):wpAny (model prog w) A (pyIter (.ref it)) Q E s:=by
 refine wpAny_pyIter_slot (cG g) jd (wpAny_call_entry jd (cG g) mK ?_ (o8 _));show wpAny _ _ (ret (.ref it)) _ _ s;exact wY ⟨_,rfl,"set_iterator",_,cG g,aS.lookup,h⟩
end
section
variable {prog:Program}{w:World}{A:Around}{E:Value->Shared->Prop}{s:Shared}{it S:Addr}{i k ep:Nat}{o:Obj}{es:Array (Int×Value)}{t:SetTable}
theorem pq (g:s.heap.get? S=some o)(hd:o.data=.set es ep t)(hf:t.fits es.size=true)(hb:w.params.followText "set-order" = true)
  (h:Q (((pickOrder (w.params.setOrder S ep) es)[i]?).map λe=>(e.2,k)) s):wpAny (model prog w) A (setNext S k i ep) Q E s:=by
 unfold setNext;refine wX (wpAny_setState_of g hd hf ?_);dsimp only;unfold setsByText;refine wX (wX (wpAny_askSetting (wY ?_)));show wpAny _ _ (if w.params.followText "set-order" = true then _ else _) _ _ _;rw[if_pos hb,if_neg (by simp)];unfold setWalk setsByText;refine wX (wX (wpAny_setState_of g hd hf ?_));dsimp only;refine wX (wX (wpAny_askSetting (wY ?_)));show wpAny _ _ (if w.params.followText "set-order" = true then _ else _) _ _ _;rw[if_pos hb];refine wX (wpAny_askSetting (wY ?_));exact wY h
theorem mL (g:s.heap.get? S=some o)(hd:o.data=.set es ep t)(hf:t.fits es.size=true)(hb:w.params.followText "set-order" = false)(hl:t.led=true)(hz:es.size<=1)
  (h:Q (match es[SetTable.below t.place k]?,t.place[SetTable.below t.place k]? with
   |some (_,x),some j=>some (x,j+1)
   |_,_=>none) s):wpAny (model prog w) A (setNext S k i ep) Q E s:=by
 unfold setNext;refine wX (wpAny_setState_of g hd hf ?_);dsimp only;unfold setsByText;refine wX (wX (wpAny_askSetting (wY ?_)));show wpAny _ _ (if w.params.followText "set-order" = true then _ else _) _ _ _;rw[if_neg (by rw[hb];simp)];show wpAny _ _ (if(!t.plain && decide (es.size > 1))=true then _ else _) _ _ _;rw[if_neg (by rw[decide_eq_false (by omega)];simp)];show wpAny _ _ ((if(!t.led && !es.isEmpty)=true then unsupported "set:maker-not-led" else pure ())>>=_) _ _ _;rw[hl,if_neg (by simp)];refine wX (wY ?_);exact wY h
theorem pr (hh:A.handled=none)(hd:o.data=.set es ep t)(hf:t.fits es.size=true)(T:S≠it)(vs:List Value)(hv:vs.length=es.size)(sl:Nat->Nat)
  (U:∀i x,vs[i]? = some x->∀(G:Around)(M:Value->Shared->Prop)(s:Shared)(g:Option (Value×Nat)->Shared->Prop),s.heap.get? S=some o->g (some (x,sl (i+1))) s->wpAny (model prog w) G (setNext S (sl i) i ep) g M s)
  (hE:∀(G:Around)(M:Value->Shared->Prop)(s:Shared)(g:Option (Value×Nat)->Shared->Prop),s.heap.get? S=some o->g none s->wpAny (model prog w) G (setNext S (sl es.size) es.size ep) g M s):
  Walks prog w A it [it,S] [it] es.size (λi v=>vs[i]? = some v) (λi h=>h.get? it=some (jn (.int (sl i) 0) i S es.size ep)/\h.get? S=some o) where
 sub:=λb hb=>by simp at hb;simp[hb]
 frame:=λ_ _ _ st hk=>⟨hk it (by simp) _ st.1,hk S (by simp) _ st.2⟩
 item:=λi s Q E hi st O=>by
  obtain⟨x,hx⟩:∃x,vs[i]? = some x:=⟨_,vU (by omega)⟩;refine qM st.1 st.2 hd hf (λG M g q=>U i x hx G M s g st.2 q) λh' h1 h2=>?_;exact O x h' s.toks hx ⟨h1,h2.extBut S _ T st.2⟩ λb u hb e=>h2.extBut b u (λz=>hb (by simp[z])) e
 done:=λs Q E st O=>qN hh st.1 st.2 hd hf (λG M g q=>hE G M s g st.2 q) λh' h1=>O h' s.toks λb u hb e=>h1 b u (λz=>hb (by simp[z])) e
 self:=λ_ _ _ _ st O=>su st.1 O
theorem u6 {T:Addr}{pl:List Nat}{nt:Nat}(hh:A.handled=none)(hd:o.data=.set es ep t)(hf:t.fits es.size=true)(M:S≠it)(O:T≠it)(hp:pl.Perm (List.range es.size)):
  Walks prog w A it [it,S,T] [it] es.size (λi v=>(pl.map λp=>(es.getD p (0,.none)).2)[i]? = some v)
   (λi h=>h.get? it=some (jn (.ref T) i S es.size ep)/\h.get? S=some o/\h.get? T=some (seqObj "tuple" (pl.map λ(p:Nat)=>Value.int p 0).toArray nt)) where
 sub:=λb hb=>by simp at hb;simp[hb]
 frame:=λ_ _ _ st hk=>⟨hk it (by simp) _ st.1,hk S (by simp) _ st.2.1,hk T (by simp) _ st.2.2⟩
 item:=λi s Q E hi st g=>by
  have G:pl.length=es.size:=by rw[hp.length_eq,List.length_range]
  obtain⟨p,hx⟩:∃p,pl[i]? = some p:=⟨_,vU (by omega)⟩;have U:p<es.size:=List.mem_range.mp (hp.mem_iff.mp (vL hx));have he:es[p]? = some (es.getD p (0,.none)):=by rw[Array.getD_eq_getD_getElem?,Array.getElem?_eq_getElem U];rfl
  refine o9 st.1 st.2.2 st.2.1 hd hf hx he λh' h1 h2=>?_;exact g _ h' s.toks (by simp[hx]) ⟨h1,h2.extBut S _ M st.2.1,h2.extBut T _ O st.2.2⟩ λb u hb e=>h2.extBut b u (λz=>hb (by simp[z])) e
 done:=λs Q E st g=>by
  have G:pl.length=es.size:=by rw[hp.length_eq,List.length_range]
  exact oA hh st.1 st.2.2 st.2.1 hd hf (List.getElem?_eq_none (by omega)) λh' h1=>g h' s.toks λb u hb e=>h1 b u (λz=>hb (by simp[z])) e
 self:=λ_ _ _ _ st g=>su st.1 g
end
theorem u9 {α:Type}(es:Array α)(d:α):(List.range es.size).map (λp=>es.getD p d)=es.toList:=by
 apply List.ext_getElem?;intro i;by_cases h:i<es.size
 ·simp[h,Array.getD_eq_getD_getElem?]
 ·simp[h]
section
variable {prog:Program}{w:World}{A:Around}{E:Value->Shared->Prop}{s:Shared}
theorem pv (h:xs=#[j]):SetTable.below xs k=if j<k then 1 else 0:=by
 subst h;by_cases h:j<k
 ·simp[SetTable.below,SetTable.below.go,h]
 ·simp[SetTable.below,SetTable.below.go,h]
theorem zO {S:Addr}{ts:List Str}{Q:Value->Shared->Prop}(hS:fX prog w s.heap S ts)
  (hQ:∀(h':Heap)(d:Drawn)(it:Addr)(vs:List Value)(fp:List Addr)(St:Nat->Heap->Prop),(∀A',A'.handled=none->Walks prog w A' it fp [it] ts.length (λi v=>vs[i]? = some v) St)->St 0 h' ->
   (∀b u,s.heap.get? b=some u->h'.get? b=some u)->s.heap.objs.size<=it->(∀b∈fp,b=S∨s.heap.objs.size<=b)->vs.length=ts.length->(vs.map strOf).Perm ts->(∀v∈vs,∃x t,v=.str x t) ->
   Q (.ref it) { s with heap:=h',drawn:=d }):wpAny (model prog w) A (pyIter (.ref S)) Q E s:=by
 obtain⟨o,es,ep,t,U,CN,hd,Kj,hp,nd,hb,hf,CP,yL⟩:=hS;have sz:es.size=ts.length:=by rw[←hp.length_eq,vI,vG]
 have O:S<s.heap.objs.size:=vX U;have LW:s.TypeIs (.ref S) "set":=⟨_,U,CN.1⟩;have G:∀e∈es.toList,∃x t,e.2=.str x t:=λe he=>by
  obtain⟨⟨k,hk,_⟩,_⟩:=Kj e he;obtain⟨t,q⟩:=Value.isStrOf_shape (show Value.isStrOf k e.2=true from hk);exact⟨k,t,q⟩
 refine wpAny_pyIter_slot LW PySem.F.slot_set_iter (wpAny_call_entry PySem.F.slot_set_iter LW lM ?_ (PySem.F.args_set_iter_1 _));show wpAny _ _ (Builtin.Frozenset.sizeOf S>>=_) _ _ s;unfold Builtin.Frozenset.sizeOf;refine wX (wX (wpAny_setEntries_of U hd hf (wY ?_)));unfold setDrawn setsByText;refine wX (wX (wpAny_setState_of U hd hf ?_));dsimp only;refine wX (wX (wpAny_askSetting (wY (wY ?_))));show wpAny _ _ (if(!w.params.followText "set-order" && (!t.plain && decide (es.size > 1)))=true then _ else _) _ _ _;have T:(es.toList.map (·.2)).map strOf=es.toList.map (λe=>strOf e.2):=by rw[List.map_map];rfl
 by_cases g:w.params.followText "set-order" = true
 ·rw[if_neg (by rw[g];simp)];refine wX (wY ?_);refine wX (wpAny_setEpoch_of U hd hf ?_);have pp:=yn (w.params.setOrder S ep) es;have iD:((pickOrder (w.params.setOrder S ep) es).toList.map (·.2)).length=es.size:=by rw[vI,pp.length_eq,vG]
  refine wX (wpAny_newObj_type (wY ⟨_,rfl,"set_iterator",_,⟨_,vY _ rfl,rfl⟩,aS.lookup,?_⟩));refine hQ _ s.drawn s.heap.objs.size ((pickOrder (w.params.setOrder S ep) es).toList.map (·.2)) [s.heap.objs.size,S] (λi h=>h.get? s.heap.objs.size=some (jn (.int ((λ_=>0:Nat->Nat) i:Nat) 0) i S es.size ep)/\h.get? S=some o) (λA' hA=>?_) ?_ (λb u e=>vZ _ e) (vT _) (λb hb=>?_) (iD.trans sz) ?_ ?_
  ·rw[←sz];exact pr hA hd hf (vS O) _ iD (λ_=>0) (λi x hx A' E' s Q' h1 h2=>pq h1 hd hf g (by
    rw[vB,Array.getElem?_toList]at hx;obtain⟨e,he,rfl⟩:=oY hx;rw[he];exact h2)) (λA' E' s Q' h1 h2=>pq h1 hd hf g (by
    rw[Array.getElem?_eq_none (by rw[←vG,pp.length_eq,vG];exact vT _)];exact h2))
  ·exact⟨vY _ rfl,vZ _ U⟩
  ·simp only[List.mem_cons,List.not_mem_nil,or_false]at hb;rcases hb with rfl|rfl
   ·exact .inr (vT _)
   ·exact .inl rfl
  ·refine List.Perm.trans ?_ hp;rw[←T];exact(pp.map _).map _
  ·intro v hv;obtain⟨e,he,rfl⟩:=vO hv;exact G e (pp.mem_iff.mp he)
 ·rw[Bool.not_eq_true]at g;have hl:t.led=true:=by rw[CP,g];rfl
  by_cases h1:es.size<=1
  ·rw[if_neg (by rw[decide_eq_false (by omega)];simp)];refine wX (wY ?_);refine wX (wpAny_setEpoch_of U hd hf ?_);refine wX (wpAny_newObj_type (wY ⟨_,rfl,"set_iterator",_,⟨_,vY _ rfl,rfl⟩,aS.lookup,?_⟩));have Po:t.place.size=es.size:=by
    simp only[SetTable.fits,vD,beq_iff_eq,decide_eq_true_eq]at hf;exact hf.1
   refine hQ _ s.drawn s.heap.objs.size (es.toList.map (·.2)) [s.heap.objs.size,S] (λi h=>h.get? s.heap.objs.size=some (jn (.int ((λi=>if i=0 then 0 else t.place.getD 0 0+1:Nat->Nat) i:Nat) 0) i S es.size ep)/\h.get? S=some o) (λA' hA=>?_) ?_ (λb u e=>vZ _ e) (vT _) (λb hb=>?_) (by rw[vI,vG,sz]) (by rw[T];exact hp) ?_
   ·rw[←sz];refine pr hA hd hf (vS O) _ (by simp) (λi=>if i=0 then 0 else t.place.getD 0 0+1) (λi x hx A' E' s Q' q1 q2=>mL q1 hd hf g hl h1 ?_) (λA' E' s Q' q1 q2=>mL q1 hd hf g hl h1 ?_)
    ·have hi:i<es.size:=by have:=(vV hx).1;simpa using this
     have Og:i=0:=by omega
     subst Og;obtain⟨j,hj⟩:∃j,t.place=#[j]:=Array.size_eq_one_iff.mp (by omega);rw[if_pos rfl,pv hj,if_neg (by omega)];rw[vB,Array.getElem?_toList]at hx;obtain⟨e,he,rfl⟩:=oY hx;rw[he];simp only[hj]at q2 ⊢;simpa using q2
    ·by_cases h0:es.size=0
     ·have Kk:t.place=#[]:=Array.eq_empty_of_size_eq_zero (by omega);have Oh:es=#[]:=Array.eq_empty_of_size_eq_zero h0;rw[Kk,Oh];simpa using q2
     ·obtain⟨j,hj⟩:∃j,t.place=#[j]:=Array.size_eq_one_iff.mp (by omega);rw[if_neg h0,pv hj];have:t.place.getD 0 0=j:=by rw[hj];rfl
      rw[this,if_pos (by omega),Array.getElem?_eq_none (by omega)];exact q2
   ·exact⟨vY _ rfl,vZ _ U⟩
   ·simp only[List.mem_cons,List.not_mem_nil,or_false]at hb;rcases hb with rfl|rfl
    ·exact .inr (vT _)
    ·exact .inl rfl
   ·intro v hv;obtain⟨e,he,rfl⟩:=vO hv;exact G e he
  ·have Kk:t.plain=false:=yL (by omega);rw[if_pos (by rw[g,Kk,decide_eq_true (by omega)];rfl)];refine wX (wI es.size (List.range es.size) _ _ (by simp) λpl d pp=>?_);refine wX (wpAny_newTuple ?_ (by rw[vI,pp.length_eq,List.length_range,sz];exact fits_of_scanBound hb));refine wX (wpAny_setEpoch_of (vZ _ U) hd hf ?_);refine wX (wpAny_newObj_type (wY ⟨_,rfl,"set_iterator",_,⟨_,vY _ rfl,rfl⟩,aS.lookup,?_⟩));have hsz:(s.heap.push (seqObj "tuple" (pl.map λ(p:Nat)=>Value.int p 0).toArray 0)).objs.size=s.heap.objs.size+1:=size_push' _ _;have M:((pl.map λp=>(es.getD p (0,.none)).2)).Perm (es.toList.map (·.2)):=by
    have:=(pp.map λp=>es.getD p (0,Value.none)).map (·.2);rw[u9]at this;rw[List.map_map]at this;exact this
   refine hQ _ d _ (pl.map λp=>(es.getD p (0,.none)).2) [(s.heap.push (seqObj "tuple" (pl.map λ(p:Nat)=>Value.int p 0).toArray 0)).objs.size,S,s.heap.objs.size] (λi h=>h.get? (s.heap.push (seqObj "tuple" (pl.map λ(p:Nat)=>Value.int p 0).toArray 0)).objs.size=some (jn (.ref s.heap.objs.size) i S es.size ep)/\h.get? S=some o/\h.get? s.heap.objs.size=some (seqObj "tuple" (pl.map λ(p:Nat)=>Value.int p 0).toArray 0)) (λA' hA=>?_) ?_ (λb u e=>vZ _ (vZ _ e)) ?_ (λb hb=>?_) ?_ ?_ ?_
   ·rw[←sz];exact u6 (nt:=0) hA hd hf (by show S≠(s.heap.push _).objs.size;rw[size_push'];exact vS (Nat.lt_succ_of_lt O)) (by show s.heap.objs.size≠(s.heap.push _).objs.size;rw[size_push'];exact vS (Nat.lt_succ_self _)) pp
   ·exact⟨vY _ rfl,vZ _ (vZ _ U),vZ _ (vY _ rfl)⟩
   ·show s.heap.objs.size<=(s.heap.push _).objs.size;rw[size_push'];omega
   ·simp only[List.mem_cons,List.not_mem_nil,or_false]at hb;rcases hb with rfl|rfl|rfl
    ·refine .inr ?_;show s.heap.objs.size<=(s.heap.push _).objs.size;rw[size_push'];omega
    ·exact .inl rfl
    ·exact .inr (vT _)
   ·rw[M.length_eq,vI,vG,sz]
   ·exact((M.map strOf).trans (by rw[T])).trans hp
   ·intro v hv;obtain⟨e,he,rfl⟩:=vO (M.mem_iff.mp hv);exact G e he
end
theorem yo (h:ItemsOf (λi v=>vs[i]? = some v) xD vs.length):xD.toList=vs:=by
 apply List.ext_getElem?;intro i;by_cases hi:i<xD.size
 ·have e:xD[i]? = some xD[i]:=Array.getElem?_eq_getElem hi;rw[Array.getElem?_toList,e,h.2 i _ e]
 ·rw[List.getElem?_eq_none (by rw[vG];omega),List.getElem?_eq_none (by rw[←h.1];omega)]
section
variable {prog:Program}{w:World}{A:Around}{E:Value->Shared->Prop}{s:Shared}
theorem sv (hh:A.handled=none)(hS:fX prog w s.heap S ts)
  (hQ:∀s' vs,(∀b u,s.heap.get? b=some u->s'.heap.get? b=some u)->s'.gens=s.gens->s'.os=s.os->vs.length=ts.length->(vs.map strOf).Perm ts->(∀v∈vs,∃x t,v=.str x t)->Q vs s'):
  wpAny (model prog w) A (collect (.ref S)) Q E s:=by
 have g:∀(s1:Shared),fX prog w s1.heap S ts->s1.TypeIs (.ref S) "set":=λs1 h=>by
  obtain⟨o,_,_,_,ho,CN,_⟩:=h;exact⟨o,ho,CN.1⟩
 have xE:S<s.heap.objs.size:=by obtain⟨o,_,_,_,ho,_⟩:=hS;exact vX ho
 have O:ts.length<scanBound:=by obtain⟨_,_,_,_,_,_,_,_,_,_,h,_⟩:=hS;exact h
 unfold collect;refine wX (wpAny_runValue (codeAny_builtin PySem.F.entry_proto_collect ?_));rw[Around.under_plainId PySem.F.plain_proto_collect _];show wpAny _ A.in1 (newList []>>=λl=>again (.builtin "list.__iadd__" ⟨[l,.ref S],[]⟩)) _ _ s;refine wX (wpAny_newObj_type ?_);refine wY ⟨plainId_quiet PySem.F.plain_list_iadd _,codeAny_builtin PySem.F.entry_list_iadd ?_⟩;rw[Around.under_plainId PySem.F.plain_list_iadd _];show wpAny _ A.in1 (Builtin.List.listExtendWith (.ref s.heap.objs.size) (.ref S) (.ref s.heap.objs.size)) _ _ _;unfold Builtin.List.listExtendWith;have T:fX prog w (s.heap.push { cls:=.type "list",data:=.seq ([]:List Value).toArray }) S ts:=hS.at λo e=>vZ _ e;refine wX (wpAny_typeOf (g _ T) ?_);have LX:s.heap.objs.size≠S:=Nat.ne_of_gt xE;have h1:Builtin.List.listSameRef (.ref s.heap.objs.size) (.ref S)=false:=by simp[Builtin.List.listSameRef,LX]
 have h2:(Value.type "set" == Value.type "list")=false:=by decide
 have h3:(Value.type "set" == Value.type "tuple")=false:=by decide
 simp only[h1,h2,h3,Bool.or_false,uW,if_false];refine wX (zO (s:={ s with heap:=s.heap.push { cls:=.type "list",data:=.seq ([]:List Value).toArray } }) T λh' d it vs fp St W IL hk AK hfp D4 U hstr=>?_);have HN:fX prog w h' S ts:=T.at λo e=>hk _ _ e;refine wX (wpAny_holding ?_);unfold Builtin.List.listLengthHint;refine wX (wpAny_specialOf (g _ HN) PySem.F.slot_set_len.lookup ?_);wp_delta;refine wX (wpAny_isInstance (g _ HN) sub_set_self ?_);show wpAny _ A.in1 (typeOf (Value.ref S)>>=_) _ _ _;refine wX (wpAny_typeOf (g _ HN) ?_);refine wY ?_;rw[if_pos (by decide)];refine wX (wpAny_rule ?_);refine wX ?_;have G:(s.heap.push { cls:=.type "list",data:=.seq ([]:List Value).toArray }).objs.size=s.heap.objs.size+1:=size_push' _ _;have LY:h'.get? s.heap.objs.size=some { cls:=.type "list",data:=.seq ([]:List Value).toArray }:=hk _ _ (vY _ rfl);show wpAny _ A.in1 (updateSeq s.heap.objs.size (·.push .none)>>=λ_=>updateSeq s.heap.objs.size (·.pop)) _ _ _;refine wX (wpAny_updateSeq LY rfl ?_);have LZ:=Heap.get?_update_self (Obj.mapSeq (·.push Value.none)) LY rfl;refine wpAny_updateSeq LZ rfl ?_;have Oi:=Heap.get?_update_self (Obj.mapSeq (·.pop)) LZ rfl;have IK:s.heap.objs.size∉fp:=λhm=>by
  rcases hfp _ hm with z|z
  ·exact LX z
  ·rw[G]at z;exact absurd z (Nat.not_succ_le_self _)
 have Ma:∀b u,b≠s.heap.objs.size->h'.get? b=some u ->
   ((h'.update s.heap.objs.size (Obj.mapSeq (·.push Value.none))).update s.heap.objs.size (Obj.mapSeq (·.pop))).get? b=some u :=
  λb u hb e=>(Heap.get?_update_other _ _ (Ne.symm hb)).trans ((Heap.get?_update_other _ _ (Ne.symm hb)).trans e)
 have W0:=W A.in1 hh;refine wY ⟨plainId_quiet PySem.F.plain_extend_loop _,codeAny_extend_loopS W0.toS (fits_of_scanBound O) _ IK _ ts.length 0 _ _ _ rfl (uO _)
  (W0.frame 0 _ _ IL λb hb u e=>Ma b u (λz=>IK (z ▸ hb)) e) Oi (ItemsOf.nil _) λs' acc' c' hm hL' M=>?_⟩
 show wpAny _ A (load s.heap.objs.size>>=_) _ _ s';refine wX (wpAny_load hL' ?_);rw[←D4]at M;refine wY ?_;show Q acc'.toList s';rw[yo M];refine hQ s' vs (λb u e=>hm.heap b u (λhb=>?_) (Ma b u (vS (vX e)) (hk _ _ (vZ _ e)))) hm.gens hm.os D4 U hstr;have hl:=vX e;simp only[List.mem_cons,List.not_mem_nil,or_false]at hb;rcases hb with rfl|rfl
 ·exact absurd hl (Nat.lt_irrefl _)
 ·rw[G]at AK;exact absurd (vQ hl (Nat.le_of_succ_le AK)) (Nat.lt_irrefl _)
theorem uA (hh:A.handled=none)(hS:fX prog w s.heap S ts)(FL:ts.length<64)
  (hQ:∀(s1:Shared)(h':Heap)(a:Addr)(out:Array Value)(n:Nat)(g:List Str),(∀b u,s.heap.get? b=some u->s1.heap.get? b=some u)->s1.os=s.os->s1.gens=s.gens->(∀b u,s1.heap.get? b=some u->h'.get? b=some u)->s1.heap.objs.size<=a->h'.get? a=some (seqObj "list" out n) ->
   StrsAre out.toList g->g.Perm ts->sortedS g=true->Q (.ref a) { s1 with heap:=h' }):
  wpAny (model prog w) A (call (.builtin "sorted") [.ref S]) Q E s:=by
 refine Calls.call_function_entry kind_sorted plain_sorted entry_sorted (args_sorted1 _) ?_;unfold Builtin.«sorted»;refine wX (m:=checkCount "sorted" 1 1 _) (wY ?_);refine wX (sv (A:=A.in1) (by exact hh) hS λs1 vs hk hg hos T G U=>?_);have M:StrsAre vs (vs.map strOf):=strsAre_map vs U;refine wX (wpAny_newList ?_ (by rw[T,sizeLine_eq];omega));have O:(s1.heap.push (seqObj "list" vs.toArray 0)).get? s1.heap.objs.size=some (seqObj "list" vs.toArray 0):=vY _ rfl;show wpAny _ _ _ _ _ { s1 with heap:=s1.heap.push (seqObj "list" vs.toArray 0) };refine wX (wpAny_holding (wpAny_call_entry slot_list_sort ⟨_,O,rfl⟩ entry_list_sort (list_sort_treeK strKind_oneLt O M.keysOf (λv₁ v₂ az e=>keyKind_strs (by rw[←e];exact M)) (by rw[T];exact FL) λHG a1 a2=>⟨_,rfl,?_⟩) (args_list_sort _)));obtain⟨g,b1,b2,b3⟩:=sorted_out_str M a1 a2;obtain⟨e,he⟩:=sortedHeap_at (out:=(arrOf HG).map (·.2)) O;refine wY ⟨_,rfl,hQ s1 _ _ _ e g hk hos hg (λb u q=>?_) (vT _) he b1 (b2.trans G) b3⟩;have hl:=vX q;rw[sortedHeap_old (vS hl) (by rw[size_push'];exact Nat.lt_succ_of_lt hl)];exact vZ _ q
end
end DL
namespace DL
open PySem PySem.Spec PyProof.Rows L2
def qO (a b:Str):Prop:=¬b.cps.toList<a.cps.toList
theorem wK:ltCps b.cps.toList a.cps.toList=false↔qO a b:=by rw[ltCps_eq,decide_eq_false_iff_not];rfl
theorem pw (h:qO a b)(k:qO b c):qO a c:=by
 unfold qO at *;exact List.not_lt.mpr (List.le_trans (List.not_lt.mp h) (List.not_lt.mp k))
theorem zP (h:qO a b)(k:qO b a):a=b:=by
 have e:a.cps.toList=b.cps.toList:=List.le_antisymm (List.not_lt.mp h) (List.not_lt.mp k);obtain⟨a⟩:=a;obtain⟨b⟩:=b;have:a=b:=Array.toList_inj.mp e;rw[this]
noncomputable def uB (x:Str):List Str->List Str
 |[]=>[x]
 |y::r=>if ltCps y.cps.toList x.cps.toList then y::uB x r else x::y::r
noncomputable def ig (l:List Str):List Str:=l.foldr uB []
theorem kK (x:Str):∀l,(uB x l).Perm (x::l)
 |[]=>List.Perm.refl _
 |y::r=>by
  unfold uB;split
  ·exact((kK x r).cons y).trans (List.Perm.swap x y r)
  ·exact List.Perm.refl _
theorem cf:∀l,(ig l).Perm l
 |[]=>List.Perm.refl _
 |x::l=>(kK x (ig l)).trans ((cf l).cons x)
theorem px (x:Str):∀l,l.Pairwise qO->(uB x l).Pairwise qO
 |[],_=>by simp[uB]
 |y::r,h=>by
  obtain⟨h1,h2⟩:=List.pairwise_cons.mp h;unfold uB;split
  ·rename_i hl;refine List.pairwise_cons.mpr ⟨λz hz=>?_,px x r h2⟩;rcases vP ((kK x r).mem_iff.mp hz)with rfl|hz
   ·rw[ltCps_eq,decide_eq_true_eq]at hl;exact λk=>List.lt_irrefl _ (List.lt_trans hl k)
   ·exact h1 z hz
  ·rename_i hl;rw[Bool.not_eq_true]at hl;have g:qO x y:=wK.mp hl;refine List.pairwise_cons.mpr ⟨λz hz=>?_,h⟩;rcases vP hz with rfl|hz
   ·exact g
   ·exact pw g (h1 z hz)
theorem mM:∀l,(ig l).Pairwise qO
 |[]=>List.Pairwise.nil
 |x::l=>px x _ (mM l)
theorem lu:∀(l:List Str)(p:Str),risingS p l=true->(p::l).Pairwise qO
 |[],p,_=>List.pairwise_singleton _ _
 |x::r,p,h=>by
  have h':(!ltCps x.cps.toList p.cps.toList && risingS x r)=true:=h;rw[vD]at h';have g:qO p x:=wK.mp (by simpa using h'.1);have G:=lu r x h'.2;refine List.pairwise_cons.mpr ⟨λz hz=>?_,G⟩;rcases vP hz with rfl|hz
  ·exact g
  ·exact pw g ((List.pairwise_cons.mp G).1 z hz)
theorem sw:∀(l:List Str),sortedS l=true->l.Pairwise qO
 |[],_=>List.Pairwise.nil
 |x::r,h=>lu r x h
theorem sx (a:Str):qO a a:=List.lt_irrefl _
theorem mN:∀(G g:List Str),G.Perm g->G.Pairwise qO->g.Pairwise qO->G=g
 |[],g,p,_,_=>(List.nil_perm.mp p).symm
 |x::T,[],p,_,_=>absurd p.length_eq (by simp)
 |x::T,y::U,p,h1,h2=>by
  have M:qO x y:=by
   rcases vP (p.mem_iff.mpr (mX ..))with z|z
   ·rw[z];exact sx _
   ·exact(List.pairwise_cons.mp h1).1 y z
  have O:qO y x:=by
   rcases vP (p.mem_iff.mp (mX ..))with z|z
   ·rw[z];exact sx _
   ·exact(List.pairwise_cons.mp h2).1 x z
  have e:=zP M O;subst e;rw[mN T U (List.Perm.cons_inv p) (List.pairwise_cons.mp h1).2 (List.pairwise_cons.mp h2).2]
theorem pz (p:l'.Perm l)(h:sortedS l'=true):l'=ig l:=mN _ _ (p.trans (cf l).symm) (sw _ h) (mM l)
section
variable {X:Cx}
noncomputable def zQ (X:Cx)(S:Addr)(g:List Str):HO:=.ext λh=>fX X.prog X.w h S g
theorem yp (I:Inv X aa σ H s)(k:∀b u,s.heap.get? b=some u->s1.heap.get? b=some u)(g:s1.os=s.os)(G:s1.gens=s.gens):Inv X aa σ H s1:=by
 have M:=I.step (g':=s.gens) (d':=s1.drawn) (t':=s1.toks) (h':=s1.heap) (H':=H) (ch:=[]) (λ_ z=>nomatch z) (λb o _ _ _ e _=>k b o e) (λb o _ _ _ e _=>⟨o.slots,k b o e⟩) (λ_ _ _ _ n=>n)
  (λb o _ e=>⟨o,k b o e⟩) (λ_ _ e=>e) (λ_ _ _ e=>e) (λ_ _ e=>e) (λm hm=>?_) (I.hok.kept k) I.bare
 ·obtain⟨h1,g1,d1,T,U⟩:=s1;cases g;cases G
  exact M
 ·obtain⟨o,es,O,g,r⟩:=hm;exact⟨o,es,O,k _ o g,r⟩
theorem sy (hc:X.calm=true):bB X (.type "set") (λxs H Q=>∃p ys g,xs=[.ref p]/\eK X.K H p ys/\(∀its,aH ys its->StrsAre its g)/\g.length<4000/\∀S,H S=none->Q (.ref S) (upd H S (zQ X S (fH g)))):=by
 intro aa s σ H xs us Q I r h;obtain⟨p,ys,g,rfl,hq,hs,T,q⟩:=h;obtain⟨u,rfl,U⟩:=gP r;cases U
 obtain⟨its,r',pl,hz⟩:=I.list hq;have G:=hs its r';have M:its.length=g.length:=by rw[←G.strs,vI]
 refine mJ (I.ok.hd hc) pl.isList (by simpa using G) (by simp only[vH];unfold scanBound;omega) λh' tk O hk=>?_;refine⟨.ref s.heap.objs.size,_,I.laid (t':=tk) (λb u e=>hk b u (vX e) e) (vT _) ?_,rfl,q _ (I.hok.fresh (vT _))⟩;refine⟨O,?_,λh1 h2 z k=>z.at k⟩;obtain⟨o,_,_,_,ho,_⟩:=O;exact⟨o,ho⟩
theorem lN (hc:X.calm=true):bB X (.builtin "sorted") (λxs H Q=>∃S G,xs=[.ref S]/\H S=some (zQ X S G)/\G.length<64/\∀l,H l=none->Q (.ref l) (upd H l (.lst ((ig G).map .str)))):=by
 intro aa s σ H xs us Q I r h;obtain⟨S,G,rfl,hS,M,q⟩:=h;obtain⟨u,rfl,rx⟩:=gP r;cases rx
 have hT:fX X.prog X.w s.heap S G:=(I.hok S _ hS).1;refine uA (I.ok.hd hc) hT M λs1 h' a out n ss' k1 ho hg k2 hp he O g T=>?_;have e:=pz g T;subst e;have U:=yp I k1 ho hg;have hv:∀ {its:List Value}{zs:List Str},StrsAre its zs->aH (zs.map V.str) its:=λz=>by
  induction z with
  |nil=>exact .nil
  |cons x t _ ih=>exact .cons ⟨t,rfl⟩ ih
 refine⟨.ref a,_,U.laid (t':=s1.toks) k2 hp (show bi X.prog X.w _ h' _ (.lst _)from ⟨?_,out.toList,n,hv O,he⟩),rfl,q _ (U.hok.fresh hp)⟩;rw[vI,(cf G).length_eq,sizeLine_eq];omega
end
@[simp] def cS:D->OB
 |.lst ds=>(dZ ds).bind λg=>if g.length<64 then some (.lst ((ig (fH g)).map .str),true)else none
 |_=>none
@[simp] def Iq:D->OB
 |.lst ds=>(dZ ds).bind λg=>if g.length<4000 then some (.int ((fH g).length:Nat),false)else none
 |_=>none
theorem sA:bootBuiltins "sorted" = some (.builtin "sorted"):=by decide +kernel
theorem GU:bootBuiltins "set" = some (.type "set"):=by decide +kernel
theorem jO {K:Frag}{N:Hp}:∀(zs:List Str),IsL K N (zs.map V.str) (zs.map D.str)
 |[]=>.nil
 |z::zs=>.cons (.str z) (jO zs)
section
variable {X:Cx}{e:Expr}{pos pos2 p p2:Pos}
theorem jo (hc:X.calm=true)(m1:X.mg "sorted" = none)(m2:X.mg "set" = none)(he:JE X e f)(g1:Gl X "sorted":=by rfl)(g2:Gl X "set":=by rfl)
  (h1:starEach [e] X.env=(false,eval e X.env)::starEach [] X.env:=by rfl):JE X (.Call (.Name "sorted" p) [.Call (.Name "set" p2) [e] [] pos2] [] pos) (f1 cS f):=by
 refine PE.to (rF (lN hc) g1 m1 sA (dQ (oQ (sy hc) g2 m2 GU (dQ he gw h1) (he:=h1)) gw)) λσ H Q q=>?_;obtain⟨B,ρ,d',bb,sB,r,g,q⟩:=q;obtain⟨T,ex,g⟩:=oX g;refine⟨B,ρ,T.1,T.2,sB,r,ex,λv H1 N1 M i1 fr=>?_⟩;obtain⟨xd,xb⟩:=T;cases i1<;>try (simp[cS]at g;done)
 rename_i l0 vs ds h hl;simp only[cS]at g;obtain⟨O,ez,g⟩:=oX g;split at g
 ·rename_i U;cases g
  refine⟨_,_,O,rfl,M.nh.seq h,λits r'=>jL r' hl ez,by omega,λS hS=>⟨S,_,rfl,aq,Nat.lt_of_le_of_lt (mI O) U,λl G=>?_⟩⟩;have x2:=Ext.laid (o:=zQ X S (fH O)) M.nh hS;have x3:=Ext.laid (o:=.lst ((ig (fH O)).map V.str)) x2.nh G;have Mb:H l=none:=((M.trans x2).hh).free G;exact q _ _ _ ((M.trans x2).trans x3) (.lst (eK.of aq) (jO _)) λ_=>⟨_,_,_,rfl,rfl,Mb,aq,jO _⟩
 ·cases g
end
end DL
namespace DL
open PySem PySem.Spec PySem.W PyProof.Rows
inductive Run (n:Nat)(lt:Nat->Nat->Bool){α:Type}:KasT α->α->Prop where
 |ret (a:α):Run n lt (.ret a) a
 |ask {i j:Nat}{k:Bool->KasT α}{a:α}(hi:i<n) (hj:j<n) (h:Run n lt (k (lt i j)) a):Run n lt (.ask i j k) a
theorem Run.bind {n:Nat}{lt:Nat->Nat->Bool}{α g:Type}{t:KasT α}{f:α->KasT g}{a:α}{b:g}(h:Run n lt t a)(k:Run n lt (f a) b):Run n lt (t.bind f) b:=by
 induction h with
 |ret a=>exact k
 |ask hi hj _ G=>exact .ask hi hj (G k)
theorem Run.wp {n:Nat}{lt:Nat->Nat->Bool}{α:Type}{g:Nat->Nat->(Bool->Shared->Prop)->Shared->Prop}{Q:α->Shared->Prop}{t:KasT α}{a:α}(J:Shared->Prop)
  (hc:∀i j C s,i<n->j<n->J s->(∀s',J s'->C (lt i j) s')->g i j C s) (h:Run n lt t a):∀ {s:Shared},J s->(∀s',J s'->Q a s')->t.kasWp g Q s:=by
 induction h with
 |ret a=>intro s G M;exact M s G
 |ask hi hj _ T=>intro s G M;exact hc _ _ _ _ hi hj G λs' O=>T O M
section
variable {n:Nat}{rk:Nat->Int}
noncomputable abbrev oB (rk:Nat->Int)(i j:Nat):Bool:=decide (rk i<rk j)
noncomputable def bw (rk:Nat->Int)(p:Array Nat)(k:Nat):Int:=rk (p.getD k 0)
structure ky (n:Nat)(p:Array Nat):Prop where
 size:p.size=n
 perm:p.toList.Perm (List.range n)
theorem ky.lt {p:Array Nat}(h:ky n p){k:Nat}(hk:k<n):p.getD k 0<n:=by
 have g:k<p.size:=by rw[h.size];exact hk
 have:p.getD k 0=p[k]:=by rw[Array.getD_eq_getD_getElem?,Array.getElem?_eq_getElem g];rfl
 rw[this];exact List.mem_range.mp (h.perm.mem_iff.mp (by simp))
theorem ky.rev {p:Array Nat}(h:ky n p)(i j:Nat):ky n (kas_rev p i j) :=
 ⟨(mirror_size _ _ _ _).trans h.size,(Array.perm_iff_toList_perm.mp (mirror_perm p i j _)).trans h.perm⟩
theorem ky.bub {p:Array Nat}(h:ky n p)(k d:Nat):ky n (bubble p k d) :=
 ⟨(bubble_size _ _ _).trans h.size,(Array.perm_iff_toList_perm.mp (bubble_perm p k d)).trans h.perm⟩
theorem qP {p:Array Nat}{i j:Nat}(hj:j<=p.size)(k:Nat):bw rk (kas_rev p i j) k=if i<=k/\k<j then bw rk p (i+j - 1 - k)else bw rk p k:=by
 unfold bw kas_rev;rw[Array.getD_eq_getD_getElem?,getElem?_mirror_all hj];split<;>rw[Array.getD_eq_getD_getElem?]
theorem zR {p:Array Nat}{g d:Nat}(hs:g<p.size)(hd:d<=g)(k:Nat):bw rk (bubble p g d) k=if k=g - d then bw rk p g else if g - d<k/\k<=g then bw rk p (k - 1)else bw rk p k:=by
 unfold bw;simp only[Array.getD_eq_getD_getElem?];rw[getElem?_bubble hs d hd];repeat' split
 all_goals rfl
def Up (rk:Nat->Int)(p:Array Nat)(m:Nat):Prop:=∀i j,i<=j->j<m->bw rk p i<=bw rk p j
def qQ (rk:Nat->Int)(p:Array Nat)(m:Nat):Prop:=∀i j,i<=j->j<m->bw rk p j<=bw rk p i
theorem EI (p:Array Nat):Up rk p 1:=λi j h1 h2=>by
 have:i=j:=by omega
 subst this;exact Int.le_refl _
theorem qR {p:Array Nat}(h:ky n p){r:Nat}(U:r<=n):∀(f m:Nat),r - m=f->1<=m->m<=r->Up rk p m->∃g,Run n (oB rk) (kas_asc p f m) g/\m<=g/\g<=r/\Up rk p g/\(g<r->bw rk p g<bw rk p (g - 1))
 |0,m,hf,h1,hm,hu=>⟨m,.ret m,vT _,hm,hu,λz=>by omega⟩
 |f+1,m,hf,h1,hm,hu=>by
  have O:=h.lt (k:=m) (by omega);have T:=h.lt (k:=m - 1) (by omega);by_cases hc:bw rk p m<bw rk p (m - 1)
  ·refine⟨m,.ask O T ?_,vT _,hm,hu,λ_=>hc⟩;have:oB rk (p.getD m 0) (p.getD (m - 1) 0)=true:=decide_eq_true hc;rw[this,if_pos rfl];exact .ret m
  ·have G:Up rk p (m+1):=λi j M hj=>by
    by_cases e:j=m
    ·subst e;by_cases e2:i=j
     ·subst e2;exact Int.le_refl _
     ·have:=hu i (j - 1) (by omega) (by omega);omega
    ·exact hu i j M (by omega)
   obtain⟨g,q1,q2,q3,q4,q5⟩:=qR h U f (m+1) (by omega) (by omega) (by omega) G;refine⟨g,.ask O T ?_,by omega,q3,q4,q5⟩;have:oB rk (p.getD m 0) (p.getD (m - 1) 0)=false:=decide_eq_false hc;rw[this,if_neg uY];exact q1
def Cb (rk:Nat->Int)(p:Array Nat)(m q:Nat):Prop:=q+1<=m/\∀k,m - (q+1)<=k->k<m->bw rk p k=bw rk p (m - 1)
theorem sC {p:Array Nat}{m q:Nat}(hs:m<=p.size)(hf:Cb rk p m q)(k:Nat):bw rk (kas_rev p (m - (q+1)) m) k=bw rk p k:=by
 rw[qP hs];split
 ·rename_i hk;have h0:=hf.1;rw[hf.2 k hk.1 hk.2,hf.2 _ (by omega) (by omega)]
 ·rfl
theorem wL {p g:Array Nat}{m:Nat}(e:∀k,bw rk g k=bw rk p k)(h:qQ rk p m):qQ rk g m:=λi j h1 h2=>by rw[e,e];exact h i j h1 h2
theorem mO (p:Array Nat){m:Nat}(h:1<=m):Cb rk p m 0:=⟨h,λk h1 h2=>by
 have:k=m - 1:=by omega
 rw[this]⟩
theorem jP {r:Nat}(hr:r<=n):∀(f:Nat)(p:Array Nat)(m q:Nat),ky n p->r - m=f->1<=m->m<=r->qQ rk p m->Cb rk p m q->∃g G T,Run n (oB rk) (kas_desc f p m q) (g,G,T)/\ky n g/\m<=G/\G<=r/\qQ rk g G/\Cb rk g G T
 |0,p,m,q,h,hf,h1,hm,hd,hq=>⟨p,m,q,.ret _,h,vT _,hm,hd,hq⟩
 |f+1,p,m,q,h,hf,h1,hm,hd,hq=>by
  have U:=h.lt (k:=m) (by omega);have a2:=h.lt (k:=m - 1) (by omega);have step:∀g:Array Nat,(∀k,bw rk g k=bw rk p k)->bw rk p m<=bw rk p (m - 1)->qQ rk g (m+1):=λg e FK i j hij hj=>by
   rw[e,e];by_cases z:j=m
   ·subst z;by_cases z2:i=j
    ·subst z2;exact Int.le_refl _
    ·have:=hd i (j - 1) (by omega) (by omega);omega
   ·exact hd i j hij (by omega)
  by_cases hc:bw rk p m<bw rk p (m - 1)
  ·have M:oB rk (p.getD m 0) (p.getD (m - 1) 0)=true:=decide_eq_true hc;by_cases hq0:q > 0
   ·have e:=sC (p:=p) (by rw[h.size];omega) hq;obtain⟨g,G,T,g1,g2,g3,g4,g5,g6⟩:=jP hr f (kas_rev p (m - (q+1)) m) (m+1) 0 (h.rev _ _) (by omega) (by omega) (by omega) (step _ e (by omega)) (mO _ (by omega));refine⟨g,G,T,.ask U a2 ?_,g2,by omega,g4,g5,g6⟩;rw[M,if_pos rfl,if_pos hq0];exact g1
   ·obtain⟨g,G,T,g1,g2,g3,g4,g5,g6⟩:=jP hr f p (m+1) 0 h (by omega) (by omega) (by omega) (step _ (λ_=>rfl) (by omega)) (mO _ (by omega));refine⟨g,G,T,.ask U a2 ?_,g2,by omega,g4,g5,g6⟩;rw[M,if_pos rfl,if_neg hq0];exact g1
  ·have M:oB rk (p.getD m 0) (p.getD (m - 1) 0)=false:=decide_eq_false hc;by_cases D7:bw rk p (m - 1)<bw rk p m
   ·have O:oB rk (p.getD (m - 1) 0) (p.getD m 0)=true:=decide_eq_true D7;refine⟨p,m,q,.ask U a2 ?_,h,vT _,hm,hd,hq⟩;rw[M,if_neg uY];refine .ask a2 U ?_;rw[O,if_pos rfl];exact .ret _
   ·have O:oB rk (p.getD (m - 1) 0) (p.getD m 0)=false:=decide_eq_false D7;have he:bw rk p m=bw rk p (m - 1):=by omega
    obtain⟨g,G,T,g1,g2,g3,g4,g5,g6⟩:=jP hr f p (m+1) (q+1) h (by omega) (by omega) (by omega) (step _ (λ_=>rfl) (by omega)) ⟨by have:=hq.1;omega,λk k1 k2=>by
     rw[Nat.add_sub_cancel];by_cases z:k=m
     ·rw[z]
     ·rw[hq.2 k (by omega) (by omega),he]⟩
    refine⟨g,G,T,.ask U a2 ?_,g2,by omega,g4,g5,g6⟩;rw[M,if_neg uY];refine .ask a2 U ?_;rw[O,if_neg uY];exact g1
theorem sD {r:Nat}(M:r<=n){p:Array Nat}(h:ky n p){m:Nat}(h1:1<=m)(hm:m<=r)(hd:qQ rk p m):∃g G,Run n (oB rk) (kas_tail3 m r p) (g,G)/\ky n G/\1<=g/\g<=r/\Up rk G g:=by
 have hu:Up rk (kas_rev p 0 m) m:=λi j O hj=>by
  rw[qP (by rw[h.size];omega),qP (by rw[h.size];omega),if_pos (by omega),if_pos (by omega)];exact hd _ _ (by omega) (by omega)
 obtain⟨g,T,q2,U,q4,_⟩:=qR (h.rev 0 m) M (r - m) m rfl h1 hm hu;exact⟨g,_,T.bind (.ret _),h.rev 0 m,by omega,U,q4⟩
theorem sE {r:Nat}(O:r<=n){p:Array Nat}(h:ky n p){m:Nat}(hm:m+1<=r)(hd:qQ rk p (m+1)):∃g G,Run n (oB rk) (kas_descPart m r p) (g,G)/\ky n G/\1<=g/\g<=r/\Up rk G g:=by
 obtain⟨p1,M,q1,g1,T,g3,g4,g5,g6⟩:=jP O (r - (m+1)) p (m+1) 0 h rfl (by omega) hm hd (mO _ (by omega));by_cases hq:q1 > 0
 ·obtain⟨g,G,k1,k2,U,k4,k5⟩:=sD O (T.rev (M - (q1+1)) M) (m:=M) (by omega) g4 (wL (sC (by rw[T.size];omega) g6) g5);exact⟨g,G,g1.bind (by dsimp only;rw[if_pos hq];exact k1),k2,U,k4,k5⟩
 ·obtain⟨g,G,k1,k2,U,k4,k5⟩:=sD O T (m:=M) (by omega) g4 g5;exact⟨g,G,g1.bind (by dsimp only;rw[if_neg hq];exact k1),k2,U,k4,k5⟩
theorem yq {p:Array Nat}(h:ky n p)(hn:1<=n):∃G M,Run n (oB rk) (kas_count n p) (G,M)/\ky n M/\1<=G/\G<=n/\Up rk M G:=by
 obtain⟨m,U,q2,q3,q4,q5⟩:=qR h (vT n) (n - 1) 1 rfl (vT 1) hn (EI (rk:=rk) p);by_cases e:m=n
 ·exact⟨m,p,U.bind (by rw[if_pos (by simp[e])];exact .ret _),h,q2,q3,q4⟩
 ·have T:=q5 (by omega);have e1:¬(m == n)=true:=by simp[e]
  by_cases O:m > 1
  ·by_cases hc:bw rk p 0<bw rk p (m - 1)
   ·refine⟨m,p,U.bind ?_,h,q2,q3,q4⟩;rw[if_neg e1,if_pos O];refine .ask (h.lt (by omega)) (h.lt (by omega)) ?_;have:oB rk (p.getD 0 0) (p.getD (m - 1) 0)=true:=decide_eq_true hc;rw[this,if_pos rfl];exact .ret _
   ·have g:∀k,k<m->bw rk p k=bw rk p 0:=λk hk=>by
     have z1:=q4 0 k (by omega) hk;have z2:=q4 k (m - 1) (by omega) (by omega);omega
    have er:∀k,bw rk (kas_rev p 0 m) k=bw rk p k:=λk=>by
     rw[qP (by rw[h.size];omega)];split
     ·rename_i z;rw[g _ (by omega),g k z.2]
     ·rfl
    have hd:qQ rk p (m+1):=λi j hij hj=>by
     by_cases z:j=m
     ·subst z;by_cases z2:i=j
      ·subst z2;exact Int.le_refl _
      ·rw[g i (by omega)];rw[g (j - 1) (by omega)]at T;omega
     ·rw[g i (by omega),g j (by omega)];exact Int.le_refl _
    obtain⟨G,M,k1,k2,k3,k4,k5⟩:=sE (vT n) (h.rev 0 m) (m:=m) (by omega) (wL er hd);refine⟨G,M,U.bind ?_,k2,k3,k4,k5⟩;rw[if_neg e1,if_pos O];refine .ask (h.lt (by omega)) (h.lt (by omega)) ?_;have:oB rk (p.getD 0 0) (p.getD (m - 1) 0)=false:=decide_eq_false hc;rw[this,if_neg uY];exact k1
  ·have em:m=1:=by omega
   subst em;have hd:qQ rk p 2:=λi j hij hj=>by
    by_cases z2:i=j
    ·subst z2;exact Int.le_refl _
    ·have:i=0:=by omega
     have:j=1:=by omega
     subst_vars;have:=T;simp at this;omega
   obtain⟨G,M,k1,k2,k3,k4,k5⟩:=sE (vT n) h (m:=1) (by omega) hd;refine⟨G,M,U.bind ?_,k2,k3,k4,k5⟩;rw[if_neg e1,if_neg O];exact k1
theorem kL {p:Array Nat}(h:ky n p){k:Nat}(hk:k<n)(hu:Up rk p k):∀(f l r:Nat),r - l<=f->l<=r->r<=k->(∀i,i<l->bw rk p i<=bw rk p k)->(∀i,r<=i->i<k->bw rk p k<bw rk p i) ->
  ∃g,Run n (oB rk) (kas_place p k f l r) g/\g<=k/\(∀i,i<g->bw rk p i<=bw rk p k)/\(∀i,g<=i->i<k->bw rk p k<bw rk p i)
 |0,l,r,hf,hl,hr,h1,h2=>⟨l,.ret l,by omega,h1,λi a b=>h2 i (by omega) b⟩
 |f+1,l,r,hf,hl,hr,h1,h2=>by
  by_cases G:l ≥ r
  ·refine⟨l,?_,by omega,h1,λi a b=>h2 i (by omega) b⟩;unfold kas_place;rw[if_pos G];exact .ret l
  ·by_cases hc:bw rk p k<bw rk p ((l+r) / 2)
   ·obtain⟨g,M,O,T,U⟩:=kL h hk hu f l ((l+r) / 2) (by omega) (by omega) (by omega) h1 λi a b=>by
     have:=hu ((l+r) / 2) i a b;omega
    refine⟨g,?_,O,T,U⟩;unfold kas_place;rw[if_neg G];refine .ask (h.lt (by omega)) (h.lt (by omega)) ?_;have:oB rk (p.getD k 0) (p.getD ((l+r) / 2) 0)=true:=decide_eq_true hc;rw[this,if_pos rfl];exact M
   ·obtain⟨g,M,O,T,U⟩:=kL h hk hu f ((l+r) / 2+1) r (by omega) (by omega) hr (λi a=>by
     have:=hu i ((l+r) / 2) (by omega) (by omega);omega) h2
    refine⟨g,?_,O,T,U⟩;unfold kas_place;rw[if_neg G];refine .ask (h.lt (by omega)) (h.lt (by omega)) ?_;have:oB rk (p.getD k 0) (p.getD ((l+r) / 2) 0)=false:=decide_eq_false hc;rw[this,if_neg uY];exact M
theorem wM:∀(f:Nat)(p:Array Nat)(k:Nat),ky n p->n - k=f->k<=n->Up rk p k->∃g,Run n (oB rk) (kas_bin f p k) g/\ky n g/\Up rk g n
 |0,p,k,h,hf,hk,hu=>⟨p,.ret p,h,(show k=n by omega) ▸ hu⟩
 |f+1,p,k,h,hf,hk,hu=>by
  have G:k<n:=by omega
  obtain⟨l,q1,q2,q3,q4⟩:=kL h G hu k 0 k (by omega) (by omega) (vT _) (λi z=>by omega) (λi a b=>by omega);have hsz:k<p.size:=by rw[h.size];exact G
  have O:Up rk (bubble p k (k - l)) (k+1):=λi j T hj=>by
   rw[zR hsz (by omega),zR hsz (by omega)];have e:k - (k - l)=l:=by omega
   rw[e];by_cases U:i=l
   ·rw[if_pos U];by_cases M:j=l
    ·rw[if_pos M];exact Int.le_refl _
    ·rw[if_neg M,if_pos (by omega)];have:=q4 (j - 1) (by omega) (by omega);omega
   ·rw[if_neg U];by_cases i2:l<i/\i<=k
    ·rw[if_pos i2,if_neg (by omega),if_pos (by omega)];exact hu _ _ (by omega) (by omega)
    ·rw[if_neg i2];by_cases M:j=l
     ·rw[if_pos M];exact q3 i (by omega)
     ·rw[if_neg M];by_cases j2:l<j/\j<=k
      ·rw[if_pos j2];exact hu _ _ (by omega) (by omega)
      ·rw[if_neg j2];exact hu _ _ T (by omega)
  obtain⟨g,k1,k2,k3⟩:=wM f (bubble p k (k - l)) (k+1) (h.bub _ _) (by omega) (by omega) O;exact⟨g,q1.bind k1,k2,k3⟩
theorem sG (hn:1<=n):∃p,Run n (oB rk) (kas_sort n) p/\ky n p/\Up rk p n:=by
 have h0:ky n (List.toArray (List.range n)):=⟨by simp,by simp⟩;obtain⟨m,p,G,M,q3,q4,O⟩:=yq (rk:=rk) h0 hn;by_cases e:m<n
 ·have g:max m 1=m:=by omega
  obtain⟨T,k1,k2,U⟩:=wM (n - max m 1) p (max m 1) M rfl (by omega) (by rw[g];exact O);exact⟨T,G.bind (by dsimp only;rw[if_pos e];exact k1),k2,U⟩
 ·have:m=n:=by omega
  subst this;exact⟨p,G.bind (by dsimp only;rw[if_neg e];exact .ret _),M,O⟩
end
theorem gf {a b c:List Int}(h:a<b)(k:b<c):a<c:=List.lt_trans h k
theorem yr {a b c:List Int}(h:¬b<a)(k:¬c<b):¬c<a:=List.not_lt.mpr (List.le_trans (List.not_lt.mp h) (List.not_lt.mp k))
theorem zS {a b:List Int}(h:¬b<a)(k:¬a<b):a=b:=List.le_antisymm (List.not_lt.mp h) (List.not_lt.mp k)
section
variable {α:Type}(f:α->List Int)
def zT (a b:α):Prop:=¬f b<f a
noncomputable def uC (x:α):List α->List α
 |[]=>[x]
 |y::r=>if f y<f x then y::uC x r else x::y::r
noncomputable def eO (l:List α):List α:=l.foldr (uC f) []
theorem kM (x:α):∀l,(uC f x l).Perm (x::l)
 |[]=>List.Perm.refl _
 |y::r=>by
  unfold uC;split
  ·exact((kM x r).cons y).trans (List.Perm.swap x y r)
  ·exact List.Perm.refl _
theorem bN:∀l,(eO f l).Perm l
 |[]=>List.Perm.refl _
 |x::l=>(kM f x (eO f l)).trans ((bN l).cons x)
theorem p0 (x:α):∀l,l.Pairwise (zT f)->(uC f x l).Pairwise (zT f)
 |[],_=>by simp[uC]
 |y::r,h=>by
  obtain⟨h1,h2⟩:=List.pairwise_cons.mp h;unfold uC;split
  ·rename_i hl;refine List.pairwise_cons.mpr ⟨λz hz=>?_,p0 x r h2⟩;rcases vP ((kM f x r).mem_iff.mp hz)with rfl|hz
   ·exact λk=>List.lt_irrefl _ (gf hl k)
   ·exact h1 z hz
  ·rename_i hl;refine List.pairwise_cons.mpr ⟨λz hz=>?_,h⟩;rcases vP hz with rfl|hz
   ·exact hl
   ·exact yr hl (h1 z hz)
theorem fu:∀l,(eO f l).Pairwise (zT f)
 |[]=>List.Pairwise.nil
 |x::l=>p0 f x _ (fu l)
theorem p7:∀(g G:List α),(∀x∈g,∀y∈g,f x=f y->x=y)->g.Perm G->g.Pairwise (zT f)->G.Pairwise (zT f)->g=G
 |[],G,_,p,_,_=>(List.nil_perm.mp p).symm
 |x::M,[],_,p,_,_=>absurd p.length_eq (by simp)
 |x::M,y::U,hi,p,h1,h2=>by
  have hy:y∈x::M:=p.mem_iff.mpr (mX ..);have O:zT f x y:=by
   rcases vP hy with z|z
   ·rw[z];exact List.lt_irrefl _
   ·exact(List.pairwise_cons.mp h1).1 y z
  have T:zT f y x:=by
   rcases vP (p.mem_iff.mp (mX ..))with z|z
   ·rw[z];exact List.lt_irrefl _
   ·exact(List.pairwise_cons.mp h2).1 x z
  have e:x=y:=hi x (mX ..) y hy (zS O T);subst e;rw[p7 M U (λa ha b hb=>hi a (mZ _ ha) b (mZ _ hb)) (List.Perm.cons_inv p) (List.pairwise_cons.mp h1).2 (List.pairwise_cons.mp h2).2]
theorem gg (hi:∀x∈l,∀y∈l,f x=f y->x=y)(p:l'.Perm l)(h:l'.Pairwise (zT f)):l'=eO f l :=
 p7 f _ _ (λx hx y hy=>hi x (p.mem_iff.mp hx) y (p.mem_iff.mp hy)) (p.trans (bN f l).symm) h (fu f l)
end
theorem jp {α:Type}{p q:α->Bool}(h:∀x,p x=true->q x=true):∀l:List α,(l.filter p).length<=(l.filter q).length
 |[]=>vT _
 |x::l=>by
  have g:=jp h l;rw[List.filter_cons,List.filter_cons];by_cases z:p x=true
  ·rw[if_pos z,if_pos (h x z)];simp only[vE];omega
  ·rw[if_neg z];split
   ·simp only[vE];omega
   ·exact g
noncomputable def jQ (cs:List (List Int))(c:List Int):Int:=((cs.filter λx=>decide (x<c)).length:Nat)
theorem Cc {cs:List (List Int)}{a b:List Int}(h:¬b<a):jQ cs a<=jQ cs b:=by
 unfold jQ;refine Int.ofNat_le.mpr (jp (λx hx=>?_) cs);rw[decide_eq_true_eq]at hx ⊢;rcases List.le_iff_lt_or_eq.mp (List.not_lt.mp h)with z|z
 ·exact gf hx z
 ·rw[←z];exact hx
theorem qS {cs:List (List Int)}{a b:List Int}(ha:a∈cs)(h:a<b):jQ cs a<jQ cs b:=by
 unfold jQ;apply Int.ofNat_lt.mpr;induction cs with
 |nil=>simp at ha
 |cons c cs G=>
  have g:∀l:List (List Int),(l.filter λx=>decide (x<a)).length<=(l.filter λx=>decide (x<b)).length:=λl=>
   jp (λx hx=>by rw[decide_eq_true_eq]at hx ⊢;exact gf hx h) l
  rw[List.filter_cons,List.filter_cons];rcases vP ha with rfl|ha
  ·rw[if_neg (by simp[List.lt_irrefl]),if_pos (by simpa using h)];have:=g cs;simp only[vE];omega
  ·have:=G ha;by_cases z:c<a
   ·rw[if_pos (by simpa using z),if_pos (by simpa using gf z h)];simp only[vE];omega
   ·rw[if_neg (by simpa using z)];split
    ·simp only[vE];omega
    ·exact this
theorem zU (ha:a∈cs):decide (jQ cs a<jQ cs b)=decide (a<b):=by
 by_cases h:a<b
 ·rw[decide_eq_true h,decide_eq_true (qS ha h)]
 ·rw[decide_eq_false h,decide_eq_false];have:=Cc (cs:=cs) h;omega
inductive At where
 |i (n:Int)
 |s (z:Str)
noncomputable def EJ:At->List Int
 |.i n=>[n]
 |.s z=>z.cps.toList.map (λ(c:Nat)=>(c:Int)+1)++[0]
noncomputable def bJ (xs:List At):List Int:=xs.flatMap EJ
noncomputable def aL:List At->List At->Option Bool
 |[],ys=>some (!ys.isEmpty)
 |_::_,[]=>some false
 |.i a::xs,.i b::ys=>if a=b then aL xs ys else some (decide (a<b))
 |.s a::xs,.s b::ys=>if a=b then aL xs ys else some (decide (a.cps.toList<b.cps.toList))
 |_::_,_::_=>none
theorem qT:∀(a b:List Nat)(r g:List Int),(a.map (λ(c:Nat)=>(c:Int)+1)++0::r)<(b.map (λ(c:Nat)=>(c:Int)+1)++0::g)↔a<b∨(a=b/\r<g)
 |[],[],r,g=>by simp[List.cons_lt_cons_iff]
 |[],y::b,r,g=>by simp[List.cons_lt_cons_iff]
 |x::a,[],r,g=>by simp[List.cons_lt_cons_iff];omega
 |x::a,y::b,r,g=>by
  rw[uZ,uZ,List.cons_append,List.cons_append,List.cons_lt_cons_iff,qT a b r g,List.cons_lt_cons_iff];constructor
  ·rintro (h|⟨h,k|⟨k1,k2⟩⟩)
   ·exact .inl (.inl (by omega))
   ·exact .inl (.inr ⟨by omega,k⟩)
   ·exact .inr ⟨by rw[k1,show x=y by omega],k2⟩
  ·rintro ((h|⟨h,k⟩)|⟨h,k⟩)
   ·exact .inl (by omega)
   ·exact .inr ⟨by omega,.inl k⟩
   ·injection h with h1 h2;exact .inr ⟨by omega,.inr ⟨h2,k⟩⟩
theorem gh (x:At)(xs:List At):bJ (x::xs)=EJ x++bJ xs:=by unfold bJ;rw[List.flatMap_cons]
theorem EK (x:At):EJ x≠[]:=by cases x<;>simp[EJ]
theorem wN {a b:Str}:a.cps.toList=b.cps.toList↔a=b:=by
 constructor
 ·intro h;obtain⟨a⟩:=a;obtain⟨b⟩:=b;have:a=b:=Array.toList_inj.mp h;rw[this]
 ·rintro rfl;rfl
theorem lV:∀(xs ys:List At)(b:Bool),aL xs ys=some b->b=decide (bJ xs<bJ ys)
 |[],[],b,h=>by simp[aL]at h;subst h;simp[bJ]
 |[],y::ys,b,h=>by
  simp[aL]at h;subst h;rw[gh];cases e:EJ y with
  |nil=>exact absurd e (EK y)
  |cons c cs=>simp[bJ]
 |x::xs,[],b,h=>by simp[aL]at h;subst h;simp[bJ]
 |.i a::xs,.i c::ys,b,h=>by
  rw[aL]at h;rw[gh,gh];show b=decide (a::bJ xs<c::bJ ys);split at h
  ·rename_i e;subst e;rw[lV xs ys b h];exact decide_eq_decide.mpr (by rw[List.cons_lt_cons_iff];simp)
  ·rename_i e;cases h
   exact decide_eq_decide.mpr (by rw[List.cons_lt_cons_iff];simp[e])
 |.s a::xs,.s c::ys,b,h=>by
  rw[aL]at h;rw[gh,gh];have g:∀(z:Str)(r:List Int),EJ (.s z)++r=z.cps.toList.map (λ(c:Nat)=>(c:Int)+1)++0::r:=λz r=>by simp[EJ]
  rw[g,g];split at h
  ·rename_i e;subst e;rw[lV xs ys b h];exact decide_eq_decide.mpr (by rw[qT];exact⟨λz=>.inr ⟨rfl,z⟩,λz=>z.elim (λq=>absurd q (List.lt_irrefl _)) (·.2)⟩)
  ·rename_i e;cases h
   exact decide_eq_decide.mpr (by rw[qT,wN];exact⟨.inl,λz=>z.elim id λq=>absurd q.1 e⟩)
 |.i _::_,.s _::_,b,h=>by simp[aL]at h
 |.s _::_,.i _::_,b,h=>by simp[aL]at h
theorem uE:∀(xs ys:List At),aL xs ys=some false->aL ys xs=some false->xs=ys
 |[],[],_,_=>rfl
 |[],y::ys,h,_=>by simp[aL]at h
 |x::xs,[],_,h=>by simp[aL]at h
 |.i a::xs,.i c::ys,h,k=>by
  rw[aL]at h k;by_cases e:a=c
  ·subst e;rw[if_pos rfl]at h k;rw[uE xs ys h k]
  ·rw[if_neg e]at h;rw[if_neg (Ne.symm e)]at k;simp at h k;omega
 |.s a::xs,.s c::ys,h,k=>by
  rw[aL]at h k;by_cases e:a=c
  ·subst e;rw[if_pos rfl]at h k;rw[uE xs ys h k]
  ·rw[if_neg e]at h;rw[if_neg (Ne.symm e)]at k;simp only[Option.some.injEq,decide_eq_false_iff_not]at h k;exact absurd (wN.mp (List.le_antisymm (List.not_lt.mp k) (List.not_lt.mp h))) e
 |.i _::_,.s _::_,h,_=>by simp[aL]at h
 |.s _::_,.i _::_,h,_=>by simp[aL]at h
noncomputable def cA (ks:List (List At)):Bool:=ks.all λx=>ks.all λy=>(aL x y).isSome
theorem eY (h:cA ks=true)(hx:x∈ks)(hy:y∈ks):aL x y=some (decide (bJ x<bJ y)):=by
 have:=uS (uS h x hx) y hy;obtain⟨b,e⟩:=uV this;rw[e,lV _ _ _ e]
theorem iJ (h:cA ks=true)(hx:x∈ks)(hy:y∈ks)(e:bJ x=bJ y):x=y:=by
 refine uE _ _ ?_ ?_
 ·rw[eY h hx hy,e,decide_eq_false (List.lt_irrefl _)]
 ·rw[eY h hy hx,e,decide_eq_false (List.lt_irrefl _)]
def Dq:At->Value->Prop
 |.i n,v=>∃t,v=.int n t
 |.s z,v=>∃t,v=.str z t
def eE (h:Heap)(xs:List At)(v:Value):Prop:=∃a o its n,v=.ref a/\h.get? a=some o/\o.cls=.type "tuple"/\o.data=.seq its n/\Paired Dq xs its.toList
theorem eE.keep (x:eE h xs v)(k:∀a o,o.cls=.type "tuple"->h.get? a=some o->h'.get? a=some o):eE h' xs v:=by
 obtain⟨a,o,its,n,e,g,hc,r⟩:=x;exact⟨a,o,its,n,e,k a o hc g,hc,r⟩
noncomputable def bX (ks:List (List At)):Bool:=ks.all (λx=>match x with|.i _::_=>true|_=>false) || ks.all (λx=>match x with|.s _::_=>true|_=>false)
section
variable {prog:Program}{w:World}{A:Around}{E:Value->Shared->Prop}{s:Shared}
theorem mP:∀(xs ys:List At)(its g:List Value)(i:Nat),Paired Dq xs its->Paired Dq ys g->aL xs ys=some b->gt=decide (xs.length<ys.length)->Q b s->KatLex prog w A true gt Q (its.zip g) i s
 |[],ys,_,g,i,.nil,O,h,hf,q=>by
  rw[List.zip_nil_left];refine kat_nil ?_;cases ys with
  |nil=>simp[aL]at h;subst h;rw[hf];exact q
  |cons y ys=>simp[aL]at h;subst h;rw[hf];simpa using q
 |x::xs,[],_,_,i,_,.nil,h,hf,q=>by
  rw[List.zip_nil_right];refine kat_nil ?_;simp[aL]at h;subst h;rw[hf];simpa using q
 |.i a::xs,.i c::ys,_,_,i,.cons T G,.cons O M,h,hf,q=>by
  obtain⟨t,rfl⟩:=T;obtain⟨u,rfl⟩:=O;rw[List.zip_cons_cons];refine kat_cons (wpAny_eqBool_int ?_);rw[aL]at h;by_cases e:a=c
  ·rw[if_pos e]at h;rw[show(a == c)=true by simp[e]];exact kat_yes (mP xs ys _ _ (i+1) G M h (by rw[hf];simp) q)
  ·rw[if_neg e]at h;cases h
   rw[show(a == c)=false by simp[e]];refine kat_no ?_;cases hb:(true && i == 0) with
   |true=>exact oneLt_int q
   |false=>exact kat_one _ _ (PyProof.Rows.lt_int q)
 |.s a::xs,.s c::ys,_,_,i,.cons T G,.cons O M,h,hf,q=>by
  obtain⟨t,rfl⟩:=T;obtain⟨u,rfl⟩:=O;rw[List.zip_cons_cons];refine kat_cons (wpAny_eqBool_str ?_);rw[aL]at h;by_cases e:a=c
  ·rw[if_pos e]at h;rw[decide_eq_true e];exact kat_yes (mP xs ys _ _ (i+1) G M h (by rw[hf];simp) q)
  ·rw[if_neg e]at h;cases h
   rw[decide_eq_false e];refine kat_no ?_;cases hb:(true && i == 0) with
   |true=>exact oneLt_str q
   |false=>exact kat_one _ _ (PySem.P.lt_str q)
 |.i _::_,.s _::_,_,_,_,_,_,h,_,_=>by simp[aL]at h
 |.s _::_,.i _::_,_,_,_,_,_,h,_,_=>by simp[aL]at h
theorem fw {α M:Type}{F:α->M->Prop}:∀ {g:List α}{G:List M},Paired F g G->g.length=G.length
 |_,_,.nil=>rfl
 |_,_,.cons _ t=>by simp[fw t]
theorem EL {Q:Bool->Shared->Prop}{xs ys:List At}{x y:Value}{b:Bool}(hx:eE s.heap xs x)(hy:eE s.heap ys y)(h:aL xs ys=some b)(q:Q b s):wpAny (model prog w) A (keyLt' (tuples' true) x y) Q E s:=by
 obtain⟨a,o,its,n,rfl,O,_,hd,r⟩:=hx;obtain⟨T,o',its',U,rfl,g,_,G,M⟩:=hy;refine kat_lt O hd g G (mP xs ys _ _ 0 r M h ?_ q);rw[←vG,←vG,fw r,fw M]
theorem lw:∀ {ks:List (List At)}{vs:List Value},Paired (eE h) ks vs->(∀k∈ks,k≠[])->∃fs,KatTups h vs fs/\fs.length=ks.length/\∀v∈fs,∃k r,(k::r)∈ks/\Dq k v
 |_,_,.nil,_=>⟨[],trivial,rfl,by simp⟩
 |k::ks,_,.cons x t,g=>by
  obtain⟨fs,h1,h2,h3⟩:=lw t λz hz=>g z (mZ _ hz);obtain⟨a,o,its,n,rfl,O,hc,hd,r⟩:=x;cases G:its.toList with
  |nil=>
   rw[G]at r;cases r
   exact absurd rfl (g [] (mX ..))
  |cons v vs=>
   rw[G]at r;obtain⟨p,M⟩:∃p,its[0]? = some v:=⟨(),by rw[←Array.getElem?_toList,G];rfl⟩;cases r with
   |cons q qs=>
    rename_i k0 T;refine⟨v::fs,KatTups.cons O hc hd M h1,by simp[h2],λu hu=>?_⟩;rcases vP hu with rfl|hu
    ·exact⟨k0,T,mX ..,q⟩
    ·obtain⟨k1,M,U,m2⟩:=h3 u hu;exact⟨k1,M,mZ _ U,m2⟩
theorem sJ (hp:Paired (eE s.heap) ks vs)(hf:bX ks=true)(hn:0<ks.length)(q:Q (tuples' true) s):wpAny (model prog w) A (keyKind' vs.toArray) Q E s:=by
 have g:∀k∈ks,k≠[]:=λk hk z=>by
  subst z;unfold bX at hf;rw[Bool.or_eq_true]at hf;rcases hf with hf|hf
  ·have:=uS hf [] hk;simp at this
  ·have:=uS hf [] hk;simp at this
 obtain⟨fs,h1,h2,h3⟩:=lw hp g;unfold bX at hf;rw[Bool.or_eq_true]at hf;rcases hf with hf|hf
 ·refine kat_kind (T:=.type "int") h1 (by omega) (λv hv=>?_) (by decide) q;obtain⟨k,r,m,z⟩:=h3 v hv;have:=uS hf _ m;cases k with
  |i n=>obtain⟨t,rfl⟩:=z;exact .now
  |s G=>simp at this
 ·refine kat_kind (T:=.type "str") h1 (by omega) (λv hv=>?_) (by decide) q;obtain⟨k,r,m,z⟩:=h3 v hv;have:=uS hf _ m;cases k with
  |s G=>obtain⟨t,rfl⟩:=z;exact .now
  |i n=>simp at this
end
section
variable {prog:Program}{w:World}{A:Around}{E:Value->Shared->Prop}{s:Shared}
theorem jq {α M:Type}{F:α->M->Prop}(d:α)(e:M):∀ {g:List α}{G:List M},Paired F g G->∀ {i:Nat},i<g.length->F (g.getD i d) (G.getD i e)
 |_,_,.cons r t,0,_=>r
 |_,_,.cons r t,i+1,h=>by
  simp only[List.getD_cons_succ];exact jq d e t (by simpa using h)
 |_,_,.nil,i,h=>by simp at h
def wO (ks:List (List At))(i:Nat):Int:=jQ (ks.map bJ) (bJ (ks.getD i []))
theorem wP {ks:List (List At)}{vs:List Value}(hc:cA ks=true)(hp:Paired (eE s.heap) ks vs):∀(i j:Nat)(C:Bool->Shared->Prop)(s1:Shared),i<ks.length->j<ks.length->s1=s->(∀s',s'=s->C (oB (wO ks) i j) s')->kas_ask prog w A (tuples' true) vs i j C s1:=by
 intro i j C s1 hi hj e G;subst e;unfold kas_ask;have g:ks.getD i []∈ks:=by rw[vF,vU hi];exact List.getElem_mem hi
 have M:ks.getD j []∈ks:=by rw[vF,vU hj];exact List.getElem_mem hj
 refine EL (jq [] Value.none hp hi) (jq [] Value.none hp hj) (eY hc g M) ?_;have:=G s1 rfl;unfold oB wO at this;rw[zU (uT ⟨_,g,rfl⟩)]at this;exact this
theorem yt (U:s.heap.get? a=some (seqObj "list" vs.toArray n))(hk:Paired (eE s.heap) ks vs)(hc:cA ks=true)(hf:bX ks=true)(FL:vs.length<64)
  (h:∀p:Array Nat,ky vs.length p->Up (wO ks) p vs.length->P (.done (.ret .none)) { s with heap:=sortedHeap s.heap a vs (List.toArray (p.toList.map λi=>vs.getD i Value.none)) }):
  wpAny (model prog w) A (Builtin.«list.sort» ⟨[.ref a],[]⟩) P E s:=by
 have ha:=vX U;have iD:ks.length=vs.length:=fw hk;obtain⟨e1,CO⟩:∃e1,(s.heap.update a (Obj.mapSeq λ_=>#[])).get? a=some (seqObj "list" #[] e1):=⟨_,get?_update_seq U (λ_=>#[])⟩;let g:Heap:=((s.heap.update a (Obj.mapSeq λ_=>#[])).push (seqObj "tuple" vs.toArray 0)).push (seqObj "list" #[] 0);have Ol:∀b u,b≠a->s.heap.get? b=some u->g.get? b=some u:=λb u hb q=>
  vZ _ (vZ _ ((Heap.get?_update_ne _ _ _ _ hb).trans q))
 have Mc:g.get? a=some (seqObj "list" #[] e1):=vZ _ (vZ _ CO);have Md:Paired (eE g) ks vs:=L2.Paired.mapP hk λk v x=>x.keep λb u yM q=>Ol b u (λz=>by
  subst z;rw[U]at q;cases q;injection yM with z;exact absurd z (by decide)) q
 rw[list_sort_plain];refine wX (listItems_at U rfl (wX (listUpdate_at U rfl (wX (seqEpoch_at CO rfl (wX (wpAny_newTuple (wX (wpAny_newList (wpAny_holding ?_))) (by show vs.length<=sizeLine;rw[sizeLine_eq];omega))))))));show wpAny (model prog w) A _ P E { s with heap:=g };dsimp only;have T:∀(st:SortSt)(p:Array Nat),arrOf st=p.map (kas_item (vs.toArray.zip vs.toArray))->failedOf st=none->ky vs.length p->Up (wO ks) p vs.length ->
   wpAny (model prog w) A (do
    let M:=(←seqEpoch a) != e1
    Builtin.List.listUpdate (.ref a) λ_=>(arrOf st).map (·.2)
    if let some e:=failedOf st then rule "list.sort.comparison-raised";throw e
    if M then rule "list.sort.modified";raiseError "ValueError" "list modified during sort"
    ret .none) P E { s with heap:=g }:=λst p ea ef ap up=>by
  have eo:(arrOf st).map (·.2)=List.toArray (p.toList.map λi=>vs.getD i Value.none):=kat_snds rfl ea;refine wX (seqEpoch_at Mc rfl ?_);refine wX (listUpdate_at Mc rfl ?_ (hsz2:=by rw[eo];simp only[vH,vI,vG,ap.size,sizeLine_eq];omega));rw[ef];simp only[bne_self_eq_false,uW,if_false];rw[eo];exact wY (h p ap up)
 by_cases h2:vs.toArray.size<2
 ·rw[if_pos h2,if_pos h2];refine wX (wY ?_);rw[StateT.run_pure];refine wX (wY ?_);have Kl:vs.length<2:=by simpa using h2
  refine T _ (List.toArray (List.range vs.length)) ?_ rfl ⟨by simp,by simp⟩ ?_
  ·show vs.toArray.zip vs.toArray=_;have:=kas_range (vs.toArray.zip vs.toArray);rw[show(vs.toArray.zip vs.toArray).size=vs.length by simp]at this;exact this.symm
  ·intro i j hij hj;have:i=j:=by omega
   subst this;exact Int.le_refl _
 ·rw[if_neg h2,if_neg h2];have Hu:2<=vs.length:=by simp at h2;omega
  refine wX (sJ (s:={ s with heap:=g }) Md hf (by omega) ?_);obtain⟨p,r1,r2,r3⟩:=sG (n:=vs.length) (rk:=wO ks) (by omega);refine wX (wpAny_mono (kat_run (E:=E) (ks:=vs) (vs:=vs) (κ:=tuples' true) (s:={ s with heap:=g }) (Q:=λO s'=>s'={ s with heap:=g }/\arrOf O=p.map (kas_item (vs.toArray.zip vs.toArray))/\failedOf O=none)
   (G:=λp' s'=>p'=p/\s'={ s with heap:=g }) rfl Hu FL (λp' O s' _ e2 e3 e4=>by
    obtain⟨rfl,rfl⟩:=e4;exact⟨rfl,e2,e3⟩) (Run.wp (λs'=>s'={ s with heap:=g }) (λi j C s1 hi hj e hC=>wP (s:={ s with heap:=g }) hc Md i j C s1 (by omega) (by omega) e hC) r1 rfl λs' e=>⟨rfl,e⟩)) (λr s' hr=>?_) λ_ _ z=>z)
  obtain⟨⟨⟩,O⟩:=r;obtain⟨rfl,e2,e3⟩:=hr;exact T O p e2 e3 r2 r3
theorem sK (hl:s.heap.IsList l vs.toArray)(hk:Paired (eE s.heap) ks vs)(hc:cA ks=true)(hf:bX ks=true)(G:vs.length<64)
  (h:∀p:Array Nat,ky vs.length p->Up (wO ks) p vs.length->Q (.ref (s.heap.objs.size+1)) { s with heap:=sortedAll s.heap vs (List.toArray (p.toList.map λi=>vs.getD i Value.none)) }):
  wpAny (model prog w) A (call (.builtin "sorted") [.ref l]) Q E s:=by
 let h1:Heap:=(s.heap.push (seqObj "list" #[] 0)).update s.heap.objs.size (Obj.mapSeq (· ++ vs.toArray));have hsz:h1.objs.size=s.heap.objs.size+1:=by show(Heap.update _ _ _).objs.size=_;rw[Heap.size_update,size_push']
 let h2:Heap:=h1.push (seqObj "list" vs.toArray 0);have g:h2.get? (s.heap.objs.size+1)=some (seqObj "list" vs.toArray 0):=by rw[←hsz];exact vY _ rfl
 have M:Paired (eE h2) ks vs:=L2.Paired.mapP hk λk v x=>x.keep λb u _ q=>
  vZ _ ((Heap.get?_update_ne _ _ _ _ (vS (vX q))).trans (vZ _ q))
 refine Calls.call_function_entry kind_sorted plain_sorted entry_sorted (args_sorted1 _) ?_;unfold Builtin.«sorted»;refine wX (m:=checkCount "sorted" 1 1 _) (wY (wX (collect_list hl (wX (wpAny_newList ?_)))));show wpAny _ _ _ _ _ { s with heap:=h2 };rw[show((s.heap.push (seqObj "list" #[] 0)).update s.heap.objs.size (Obj.mapSeq (· ++ vs.toArray))).objs.size=s.heap.objs.size+1 from hsz];exact wX (wpAny_holding (wpAny_call_entry slot_list_sort ⟨_,g,rfl⟩ entry_list_sort (yt g M hc hf G λp O T=>⟨_,rfl,wY ⟨_,rfl,h p O T⟩⟩) (args_list_sort _)))
end
end DL
namespace DL
open PySem PySem.Spec PySem.W PyProof.Rows L2
noncomputable def p8:D->Option At
 |.int n=>some (.i n)
 |.str z=>some (.s z)
 |_=>none
def bO:List D->Option (List At)
 |[]=>some []
 |d::ds=>(p8 d).bind λa=>(bO ds).map (a :: ·)
def jR:D->Option (List At)
 |.tup es=>bO es
 |_=>none
def ca:List D->Option (List (List At))
 |[]=>some []
 |d::ds=>(jR d).bind λa=>(ca ds).map (a :: ·)
def yu (d:D):List Int:=bJ ((jR d).getD [])
noncomputable def lx:List D->Option (List Int)
 |[]=>some []
 |.int n::ds=>(lx ds).map (n :: ·)
 |_::_=>none
def wQ (ns:List Int):List Int:=eO (λn=>[n]) ns
def fM:List D->OB
 |[.lst ds]=>match dZ ds with
  |some g=>if g.length<64 then some (.lst ((ig g).map .str),true)else none
  |none=>match lx ds with
   |some ns=>if ns.length<64 then some (.lst ((wQ ns).map .int),true)else none
   |none=>match ca ds with
    |some ks=>if ks.length<64/\cA ks=true/\bX ks=true then some (.lst (eO yu ds),true)else none
    |none=>none
 |_=>none
theorem yv (h:p8 d=some a)(k:p8 e=some a):d=e:=by
 cases d<;>simp only[p8]at h<;>cases h<;>cases e<;>simp only[p8]at k<;>cases k<;>rfl
theorem mQ:∀ {ds es:List D}{g:List At},bO ds=some g->bO es=some g->ds=es
 |[],[],_,_,_=>rfl
 |[],e::es,g,h,k=>by
  simp only[bO]at h k;cases h
  obtain⟨a,_,k⟩:=oX k;obtain⟨r,_,k⟩:=oY k;cases k
 |d::ds,[],g,h,k=>by
  simp only[bO]at h k;cases k
  obtain⟨a,_,h⟩:=oX h;obtain⟨r,_,h⟩:=oY h;cases h
 |d::ds,e::es,g,h,k=>by
  simp only[bO]at h k;obtain⟨a,h1,h⟩:=oX h;obtain⟨r,h2,h⟩:=oY h;obtain⟨O,k1,k⟩:=oX k;obtain⟨T,k2,k⟩:=oY k;subst h;injection k with G M;subst G;subst M;rw[yv h1 k1,mQ h2 k2]
theorem sM (h:jR d=some k)(h':jR e=some k):d=e:=by
 cases d<;>simp only[jR]at h<;>try (cases h;done)
 cases e<;>simp only[jR]at h'<;>try (cases h';done)
 rw[mQ h h']
theorem dG:∀ {ds:List D}{ks:List (List At)},ca ds=some ks->ks.length=ds.length
 |[],_,h=>by simp only[ca]at h;cases h;rfl
 |d::ds,_,h=>by
  simp only[ca]at h;obtain⟨a,h1,h⟩:=oX h;obtain⟨r,h2,h⟩:=oY h;subst h;simp[dG h2]
theorem gk:∀ {ds:List D}{ks:List (List At)},ca ds=some ks->∀ {i:Nat},i<ds.length->jR (ds.getD i .non)=some (ks.getD i [])
 |[],_,h,i,hi=>by simp at hi
 |d::ds,_,h,0,hi=>by
  simp only[ca]at h;obtain⟨a,h1,h⟩:=oX h;obtain⟨r,h2,h⟩:=oY h;subst h;exact h1
 |d::ds,_,h,i+1,hi=>by
  simp only[ca]at h;obtain⟨a,h1,h⟩:=oX h;obtain⟨r,h2,h⟩:=oY h;subst h;simp only[List.getD_cons_succ];exact gk h2 (by simpa using hi)
theorem mR {α:Type}(l:List α)(d:α):(List.range l.length).map (λi=>l.getD i d)=l:=by
 apply List.ext_getElem?;intro i;by_cases h:i<l.length
 ·simp[h]
 ·simp[h]
theorem uF (hk:ca ds=some ks)(hc:cA ks=true)(M:ky ds.length p)(up:Up (wO ks) p ds.length):p.toList.map (λi=>ds.getD i .non)=eO yu ds:=by
 have mem:∀x∈ds,∃k∈ks,jR x=some k:=λx hx=>by
  obtain⟨i,hi,rfl⟩:=List.mem_iff_getElem.mp hx;have:=gk hk hi;rw[vF,vU hi]at this;refine⟨_,?_,this⟩;have g:i<ks.length:=by rw[dG hk];exact hi
  rw[vF,vU g];exact List.getElem_mem g
 apply gg yu
 ·intro x hx y hy e;obtain⟨k,mk,ek⟩:=mem x hx;obtain⟨k',O,G⟩:=mem y hy;unfold yu at e;rw[ek,G]at e;have:=iJ hc mk O e;subst this;exact sM ek G
 ·have:=M.perm.map (λi=>ds.getD i .non);rw[mR]at this;exact this
 ·rw[List.pairwise_iff_getElem];intro i j hi hj T;have hsz:=M.size;have g:i<p.size:=by simpa using hi
  have U:j<p.size:=by simpa using hj
  have:=up i j (Nat.le_of_lt T) (by omega);unfold bw wO at this;have gi:p.getD i 0=p[i]:=by rw[Array.getD_eq_getD_getElem?,Array.getElem?_eq_getElem g];rfl
  have gj:p.getD j 0=p[j]:=by rw[Array.getD_eq_getD_getElem?,Array.getElem?_eq_getElem U];rfl
  have li:=M.lt (k:=i) (by omega);have lj:=M.lt (k:=j) (by omega);have mj:ks.getD (p.getD j 0) []∈ks:=by
   have h':p.getD j 0<ks.length:=by rw[dG hk];exact lj
   rw[vF,vU h'];exact List.getElem_mem h'
  have nl:¬bJ (ks.getD (p.getD j 0) [])<bJ (ks.getD (p.getD i 0) []):=λz=>by
   have:=qS (cs:=ks.map bJ) (uT ⟨_,mj,rfl⟩) z;omega
  simp only[List.getElem_map,Array.getElem_toList];unfold zT yu;rw[←gi,←gj,gk hk li,gk hk lj];exact nl
section
variable {X:Cx}
theorem sP {K:Frag}{B:Hp}:∀ {vs:List V}{es:List D}{k:List At}{its:List Value},aH vs its->IsL K B vs es->bO es=some k->Paired Dq k its
 |_,_,_,_,.nil,.nil,h=>by simp only[bO]at h;cases h;exact .nil
 |_,_,_,_,.cons r g,.cons i G,h=>by
  simp only[bO]at h;obtain⟨a,h1,h⟩:=oX h;obtain⟨t,h2,h⟩:=oY h;subst h;refine .cons ?_ (sP g G h2);cases i<;>simp only[p8]at h1<;>cases h1
  ·exact r
  ·exact r
theorem lW {aa:List (Addr×Obj)}{σ:St}{H:Hp}{s:Shared}(I:Inv X aa σ H s):∀ {ys:List V}{ds:List D}{ks:List (List At)}{its:List Value},aH ys its->IsL X.K H ys ds->ca ds=some ks->Paired (eE s.heap) ks its
 |_,_,_,_,.nil,.nil,h=>by simp only[ca]at h;cases h;exact .nil
 |_,_,_,_,.cons r g,.cons i G,h=>by
  simp only[ca]at h;obtain⟨a,h1,h⟩:=oX h;obtain⟨t,h2,h⟩:=oY h;subst h;refine .cons ?_ (lW I g G h2);cases i<;>simp only[jR]at h1<;>try (cases h1;done)
  rename_i hq hl;cases r
  obtain⟨its',M,⟨o,O,hc,n,hd⟩,_⟩:=I.tuple hq;exact⟨_,o,_,n,rfl,O,hc,hd,by simpa using sP M hl h1⟩
theorem wR {K:Frag}{B:Hp}:∀ {vs:List V}{ds:List D},IsL K B vs ds->∀ {i:Nat},i<ds.length->Is K B (vs.getD i .non) (ds.getD i .non)
 |_,_,.cons h _,0,_=>h
 |_,_,.cons _ t,i+1,hi=>by
  simp only[List.getD_cons_succ];exact wR t (by simpa using hi)
 |_,_,.nil,i,hi=>by simp at hi
theorem sQ:∀ {vs:List V}{us:List Value},aH vs us->∀ {i:Nat},i<vs.length->aC (vs.getD i .non) (us.getD i Value.none)
 |_,_,.cons h _,0,_=>h
 |_,_,.cons _ t,i+1,hi=>by
  simp only[List.getD_cons_succ];exact sQ t (by simpa using hi)
 |_,_,.nil,i,hi=>by simp at hi
theorem mS {K:Frag}{B:Hp}{vs:List V}{ds:List D}(h:IsL K B vs ds):∀(l:List Nat),(∀i∈l,i<ds.length)->IsL K B (l.map λi=>vs.getD i .non) (l.map λi=>ds.getD i .non)
 |[],_=>.nil
 |i::l,hl=>.cons (wR h (hl i (mX ..))) (mS h l λj hj=>hl j (mZ _ hj))
theorem kN (h:aH vs us):∀(l:List Nat),(∀i∈l,i<vs.length)->aH (l.map λi=>vs.getD i .non) (l.map λi=>us.getD i Value.none)
 |[],_=>.nil
 |i::l,hl=>.cons (sQ h (hl i (mX ..))) (kN h l λj hj=>hl j (mZ _ hj))
end
section
variable {X:Cx}
theorem wS {K:Frag}{B:Hp}:∀ {vs:List V}{ds:List D}{ns:List Int}{its:List Value},aH vs its->IsL K B vs ds->lx ds=some ns->IntsAre its ns
 |_,_,_,_,.nil,.nil,h=>by simp only[lx]at h;cases h;exact .nil
 |_,_,_,_,.cons r g,.cons i G,h=>by
  cases i<;>simp only[lx]at h<;>try (cases h;done)
  obtain⟨t,h2,h⟩:=oY h;subst h;obtain⟨u,rfl⟩:=r;exact .cons _ u (wS g G h2)
theorem p9:∀ {its:List Value}{zs:List Str},StrsAre its zs->aH (zs.map V.str) its
 |_,_,.nil=>.nil
 |_,_,.cons x t r=>.cons ⟨t,rfl⟩ (p9 r)
theorem gd:∀ {its:List Value}{zs:List Int},IntsAre its zs->aH (zs.map V.int) its
 |_,_,.nil=>.nil
 |_,_,.cons x t r=>.cons ⟨t,rfl⟩ (gd r)
theorem sR {K:Frag}{N:Hp}:∀(zs:List Int),IsL K N (zs.map V.int) (zs.map D.int)
 |[]=>.nil
 |z::zs=>.cons (.int z) (sR zs)
theorem zV (p:l'.Perm l)(h:l'.Pairwise (·<=·)):l'=wQ l:=by
 refine gg _ (λx _ y _ e=>by injection e) p (h.imp λ{a b} hab=>?_);unfold zT;intro z;rw[List.cons_lt_cons_iff]at z;rcases z with z|⟨_,z⟩
 ·omega
 ·exact List.lt_irrefl _ z
theorem jr (I:Inv X aa σ H s)(G:aA B H)(q:Fin X.K B H (.lst ds) true Q)(hv:aH ys out.toList)(hl:IsL X.K B ys ds)(hz:ys.length<=sizeLine):
  EP X aa σ Q (.ref (s.heap.objs.size+1)) { s with heap:=sortedAll s.heap its out }:=by
 obtain⟨e,he⟩:=sortedAll_at s.heap its out;have hp:H (s.heap.objs.size+1)=none:=I.hok.fresh (Nat.le_succ _);have g:=Ext.laid (o:=.lst ys) G hp;exact⟨.ref _,_,I.laid (t':=s.toks) (λb o=>sortedAll_old) (Nat.le_succ _) (show bi X.prog X.w _ _ _ (.lst ys)from ⟨hz,out.toList,e,hv,he⟩),rfl,
  q _ _ _ g (.lst (eK.of aq) (hl.mono g.bn)) λ_=>⟨_,_,_,rfl,rfl,hp,aq,hl.mono g.bn⟩⟩
theorem zW:bB X (.builtin "sorted") (zp X.K fM):=by
 intro aa s σ H xs us Q I r h;obtain⟨B,dl,d,bb,M,i,g,q⟩:=h;cases i with
 |nil=>simp[fM]at g
 |cons i1 i2=>
  cases i2 with
  |cons _ _=>cases i1<;>simp[fM]at g
  |nil=>
   cases i1<;>try (simp[fM]at g;done)
   rename_i l0 vs ds h hl;obtain⟨u,rfl,rx⟩:=gP r;cases rx
   obtain⟨its,O,pl,hz⟩:=I.list (M.seq h);have D4:vs.length=its.length:=O.length;have Ba:ds.length=vs.length:=hl.length.symm;simp only[fM]at g;split at g
   ·rename_i ss es;split at g
    ·rename_i T;cases g
     have G:=jL O hl es;have Km:its.length=ss.length:=by rw[←G.strs,vI]
     refine sorted_strs pl.isList (by simpa using G) (by omega) λout ss' a1 a2 a3=>?_;have e:=pz a2 a3;subst e;exact jr I M q (p9 a1) (jO _) (by rw[vI,(cf ss).length_eq,sizeLine_eq];omega)
    ·cases g
   ·split at g
    ·rename_i ns es;split at g
     ·rename_i T;cases g
      have G:=wS O hl es;have Km:its.length=ns.length:=IntsAre.length G;refine sorted_ints pl.isList (by simpa using G) (by omega) λout ss' a1 a2 a3=>?_;have e:=zV a2 a3;subst e;exact jr I M q (gd a1) (sR _) (by rw[vI];unfold wQ;rw[(bN _ ns).length_eq,sizeLine_eq];omega)
     ·cases g
    ·split at g
     ·rename_i ks es;split at g
      ·rename_i hh;obtain⟨T,hc,hf⟩:=hh;cases g
       have Om:=dG es;have G:=lW I O (hl.mono M) es;refine sK pl.isList (by simpa using G) hc hf (by omega) λp ap up=>?_;have yL:its.length=ds.length:=by omega
       rw[yL]at ap up;have e:=uF es hc ap up;have U:∀i∈p.toList,i<ds.length:=λi hi=>List.mem_range.mp (ap.perm.mem_iff.mp hi);have il:=mS hl p.toList U;rw[e]at il;refine jr I M q (ys:=p.toList.map λi=>vs.getD i .non) ?_ il ?_
       ·simpa using kN O p.toList λi hi=>by rw[←Ba];exact U i hi
       ·rw[vI,vG,ap.size,sizeLine_eq];omega
      ·cases g
     ·cases g
end
end DL
namespace DL
open PySem PySem.Spec PyProof.Rows L2
section
variable {X:Cx}{pos:Pos}
@[simp] def MQ (i:Nat)(f:FE):FS:=λρ=>match ρ[i]? with
 |some (some (.lst ds,true))=>(f ρ).bind λx=>(lx ds).bind λns=>match x.1 with
  |.int n=>if ns.findIdx (· == n)<ns.length then some (.nx (ρ.set i (some (.lst ((ns.eraseIdx (ns.findIdx (· == n))).map .int),true))))else none
  |_=>none
 |_=>none
end
section
variable {prog:Program}{w:World}{A:Around}{E:Value->Shared->Prop}{s:Shared}
theorem uG {a:Addr}{o:Obj}{its:Array Value}{n:Nat}{x:Value}{e:Value->Bool}{j:Nat}{P:PySem.Fin->Shared->Prop}(T:s.heap.get? a=some o)(hd:o.data=.seq its n)
  (he:∀y∈its,MeetsSeq.EqGives y x (e y)) (hj:j<its.size) (AK:e its[j]=true) (G:∀m (hm:m<its.size),m<j->e its[m]=false)
  (h:P (.done (.ret (.int j s.toks))) { s with toks:=s.toks+1 }):wpAny (model prog w) A (Builtin.«tuple.index» ⟨[.ref a,x],[]⟩) P E s:=by
 show wpAny _ _ (Builtin.Tuple.tupleItemsOf (.ref a)>>=_) _ _ s;refine wX (wpAny_tupleItemsOf T hd ?_);dsimp only;refine wX (wY (wX (wY (wX ?_))));rw[Std.Legacy.Range.forIn_eq_forIn_range'];refine wpAny_forIn_list _
  (λaz r s'=>r.1=none/\s'=s/\∃i,i<=j/\az=List.range' i (its.size - i))
  _ ?_ ?_ _ _ ⟨rfl,rfl,0,uO _,?_⟩
 ·rintro k az r s' ⟨U,rfl,i,hi,hz⟩;have g:i<its.size:=by omega
  obtain⟨m,hm⟩:∃m,its.size - i=m+1:=⟨its.size - i - 1,by omega⟩;rw[hm,List.range'_succ]at hz;injection hz with M z2;have M:=M.symm;subst M;subst z2;have hg:its[i]? = some its[i]:=by simp[g]
  simp only[hg];refine wX (he _ (Array.getElem_mem g) prog w _ _ _ _ ?_);by_cases O:i=j
  ·subst O;rw[AK];simp only[if_true];refine wX ?_;show wpAny _ _ (mkInt (i:Int)>>=λv=>ret v) _ _ _;exact wX (wpAny_mkInt (wY (wY (wY h))))
  ·rw[G i g (by omega)];simp only[uW,if_false];exact wY ⟨rfl,rfl,i+1,by omega,by rw[show its.size - (i+1)=m by omega]⟩
 ·rintro⟨r1,r2⟩ s' ⟨U,rfl,i,hi,hz⟩;exfalso;have:(List.range' i (its.size - i)).length=0:=by rw[←hz];rfl
  rw[List.length_range']at this;omega
 ·simp
end
theorem CRows.findT {K:Frag}{P:Params}(y:Str){ds:List D}:∀ {es:List DictEntry}{av:List (Str×D)},CRows K P es av->av.lookup y=some (.tup ds) ->
  ∃e a its n lH,es.find? (λe=>Value.isStrOf y e.key)=some e/\e.val=.ref a/\K.lookup a=some ⟨.type "tuple",none,.seq its n,lH⟩/\gD its.toList ds=true
 |_,_,.nil,h=>by simp at h
 |_,_,.tup (x:=x) (t:=t) (a:=a) (ds:=M) hh l f tl,h=>by
  by_cases e:y=x
  ·subst e;rw[List.lookup_cons_self]at h;cases h
   rw[vD]at f;exact⟨_,a,_,_,_,List.find?_cons_of_pos (by simp[Value.isStrOf]),rfl,l,f.2⟩
  ·rw[List.lookup_cons,beq_eq_false_iff_ne.mpr e]at h;have g:Value.isStrOf y (Value.str x t)=false:=by
    rw[Bool.eq_false_iff];intro z;obtain⟨t',q⟩:=Value.isStrOf_shape z;injection q with G;exact e G.symm
   simp only[List.find?_cons,g];exact tl.findT y h
 |_,_,.flat (x:=x) (t:=t) (u:=u) (d:=d) hh f tl,h=>by
  by_cases e:y=x
  ·subst e;rw[List.lookup_cons_self]at h;cases h
   cases u<;>simp[qH]at f
  ·rw[List.lookup_cons,beq_eq_false_iff_ne.mpr e]at h;have g:Value.isStrOf y (Value.str x t)=false:=by
    rw[Bool.eq_false_iff];intro z;obtain⟨t',q⟩:=Value.isStrOf_shape z;injection q with G;exact e G.symm
   simp only[List.find?_cons,g];exact tl.findT y h
section
variable {X:Cx}{b e:Expr}{pos:Pos}{x:Str}{p:Pos}
def Jt (K:Frag):V->List V->Hp->VK->Prop:=λx xs H Q=>∃(a:Addr)(o:Obj)(its:Array Value)(n:Nat)(zs:List Str)(y:Str),x=.ref a/\xs=[.str y]/\K.lookup a=some o/\o.cls=.type "tuple"/\o.data=.seq its n/\StrsAre its.toList zs/\zs.findIdx (· == y)<zs.length/\Q (.int (zs.findIdx (· == y):Nat)) H
noncomputable def Dr (y:Str):Value->Bool
 |.str z _=>z == y
 |_=>false
theorem wT:∀ {its:List Value}{zs:List Str},StrsAre its zs->∀(i:Nat)(hi:i<its.length),∃(h:i<zs.length)(t:Tok),its[i]=.str zs[i] t
 |_,_,.cons z t h,0,_=>⟨by simp,t,rfl⟩
 |_,_,.cons z t h,i+1,hi=>by
  obtain⟨h',t',e⟩:=wT h i (by simpa using hi);exact⟨by simpa using h',t',by simpa using e⟩
 |_,_,.nil,i,hi=>by simp at hi
theorem sU:∀ {its:List Value}{zs:List Str},StrsAre its zs->its.length=zs.length
 |_,_,.nil=>rfl
 |_,_,.cons _ _ h=>by rw[vE,vE,sU h]
theorem zX:Eh X "tuple.index" (Jt X.K):=by
 intro aa s σ H x xs v us Q I O T h;obtain⟨a,o,its,n,zs,y,rfl,rfl,U,hc,hd,hz,hk,q⟩:=h;cases O
 obtain⟨u,rfl,⟨t,rfl⟩⟩:=T.one;have M:=I.kIn a o U;have hl:=sU hz;rw[vG]at hl;have at':∀(i:Nat)(hi:i<its.size),∃(h:i<zs.length)(t:Tok),its[i]=.str zs[i] t:=λi hi=>by
  obtain⟨h',t',e⟩:=wT hz i (by simpa using hi);exact⟨h',t',by simpa using e⟩
 refine wpAny_call_entry PySem.F.slot_tuple_index ⟨o,M,hc⟩ PySem.F.entry_tuple_index (uG (e:=Dr y) (j:=zs.findIdx (· == y)) M hd (λz hm=>?_) (by omega) ?_ (λm hm G=>?_) ⟨_,rfl,.int (zs.findIdx (· == y):Nat),H,I.tok _,⟨_,rfl⟩,q⟩) (PySem.F.args_tuple_index_2 _ _)
 ·obtain⟨i,hi,rfl⟩:=Array.mem_iff_getElem.mp hm;obtain⟨_,t',g⟩:=at' i hi;rw[g];exact eqGives_str _ _ _ _
 ·obtain⟨_,t',g⟩:=at' (zs.findIdx (· == y)) (by omega);rw[g];exact List.findIdx_getElem (p:=(· == y)) (w:=hk)
 ·obtain⟨_,t',g⟩:=at' m hm;rw[g];have:=List.not_of_lt_findIdx (p:=(· == y)) (xs:=zs) G;simpa [Dr]using this
@[simp] def oC (av:List (Str×D)):D->D->OB
 |.str y,.str z=>match av.lookup y with
  |some (.tup ds)=>(dZ ds).bind λzs=>if zs.findIdx (· == z)<zs.length then some (.int (zs.findIdx (· == z):Nat),false)else none
  |_=>none
 |_,_=>none
theorem Ce {av:List (Str×D)}{f g:FE}{dO cC:Pos}(h:∃d,X.mg x=some (.ref d)/\ph X.K X.w.params d av)(hb:JE X b f)(he:JE X e g)(hg:Gl X x:=by rfl)(Kn:(x == ("__debug__" : Str))=false:=by decide)(hs:qr b:=by intro _ _;rfl)
  (M:attributeBase (.Subscript (.Name x p) b pos) "index" X.env (eval (.Subscript (.Name x p) b pos) X.env)=eval (.Subscript (.Name x p) b pos) X.env:=by rfl)
  (U:((backTo cC (starEach [e] X.env)).all (λx=>!x.1) && (backToKw cC (keywordEach [] X.env)).all (λx=>x.1.isSome)
   && decide ([e].length+([]:List Keyword).length+(if([]:List Keyword).isEmpty then 0 else 1)<30))=true:=by rfl)
  (O:(dO.endLine == cC.line)=true:=by rfl) (IL:starEach [e] X.env=[(false,eval e X.env)]:=by rfl):
  JE X (.Call (.Attribute (.Subscript (.Name x p) b pos) "index" dO) [e] [] cC) (f2 (oC av) f g):=by
 obtain⟨d,hm,cd⟩:=h;have ix:AR X (λx y H Q=>∃z ds,x=.ref d/\y=.str z/\av.lookup z=some (.tup ds)/\∀a its n lH,X.K.lookup a=some ⟨.type "tuple",none,.seq its n,lH⟩->gD its.toList ds=true->Q (.ref a) H):=by
  intro value slice aa s σ H x y v u Q I rx ry q hs;obtain⟨z,ds,rfl,rfl,el,q⟩:=q;cases rx
  obtain⟨t,rfl⟩:=ry;obtain⟨es,n,l,r,sm⟩:=cd;have hM:=PySem.W.mapOf_K (prog:=X.prog) (w:=X.w) I.kIn l r.lit;obtain⟨en,a,its,n',lH,e1,e2,e3,e4⟩:=r.findT z el;have ff:findBy Value.isStrOf es z=some (.ref a):=by
   unfold findBy;obtain⟨es⟩:=es;rw[List.find?_toArray,e1,←e2];rfl
  exact tail_any hM.typeIs slot_dict_getitem.lookup (wpAny_getItem_of (strKind_is X.prog X.w z t) hM ff ⟨.ref a,H,I.tok _,rfl,q a _ _ _ e3 e4⟩) hs
 refine PE.to (zh (T:="tuple") PySem.F.plainAttrs_tuple PySem.F.slot_tuple_index PySem.F.type_tuple_index zX (zf ix (wa (v:=.ref d) hg hm rfl Kn) hb hs) (dQ he gw IL) M U O IL rfl) λσ H Q q=>?_;obtain⟨B,ρ,d',bb,sB,r,G,q⟩:=q;obtain⟨x1,ex,G⟩:=oX G;obtain⟨y1,ey,G⟩:=oX G;obtain⟨xd,xb⟩:=x1;obtain⟨yd,yb⟩:=y1;cases xd with
 |str z=>
  cases yd with
  |str y=>
   refine⟨B,ρ,_,xb,sB,r,ex,λv H1 N1 xt i1 _=>?_⟩;cases i1
   simp only[oC]at G;split at G
   ·rename_i ds el;obtain⟨zs,ez,G⟩:=oX G;split at G
    ·rename_i hk;cases G
     refine⟨z,ds,rfl,rfl,el,λa its n lH l fl=>⟨.inr (.inl ⟨rfl,_,l,rfl,rfl⟩),N1,ρ,_,yb,xt.nh,r.mono xt.bn,ey,λv2 H2 N2 xt2 i2 _=>?_⟩⟩;cases i2
     obtain⟨vs,rv,iv⟩:=gE (K:=X.K) fl;exact⟨a,_,its,n,zs,y,rfl,rfl,l,rfl,rfl,jL rv (iv N2) ez,hk,(q.into (xt.trans xt2)).one xt2.nh (.int _)⟩
    ·cases G
   ·cases G
  |_=>simp[oC]at G
 |_=>simp[oC]at G
end
open PySem.W (tabIn tabObj CodeHd kla_fn kla_obj kla_eval kla_makeFunction kla_makeFunctionHit kla_callFunE kla_codeExpr envX)
def GV (K:Frag)(c P:Addr):Prop:=∃o vs G T g tg O M U,K.lookup c=some o/\o.cls=.type "code"/\o.data=.fields vs/\vs[11]? = some (.ref P)/\vs.getD 11 .none=.ref P/\vs.getD 18 .none=.str G T /\
 vs.getD 7 .none=.int g tg/\vs.getD 9 .none=.bool O/\vs.getD 10 .none=.int M U/\c≠P
def yw (K:Frag)(x:Str):Prop:=∃c P,tabIn K x=some (c,P)/\GV K c P
def zY (H:Hp)(f:Addr)(q:Str)(params:Arguments)(g:Expr)(scope:Scope)(cl:List (Str×Addr)):Prop :=
 ∃pm c G u oc M vs t,H f=some (.frz (kla_obj "<lambda>" q params g scope cl pm c G) u)/\H c=some (.frz oc M)/\oc.data=.fields vs/\vs[1]? = some (.str q t)
theorem zY.mono (h:zY H f q params body scope cl)(e:aA H H'):zY H' f q params body scope cl :=
 let ⟨pm,c,g,u,oc,G,vs,t,h1,h2,h3,h4⟩:=h;⟨pm,c,g,u,oc,G,vs,t,e _ _ h1,e _ _ h2,h3,h4⟩
theorem lam_mk {K:Frag}{x:Str}{f c P:Addr}{oc:Value}{od Oo:Option Addr}{lH O:Array (Option Value)}{fd:FuncData}{vs:Array Value}{G:Str}{tf tg tt:Tok}{g M:Int}{T:Bool}(e1:nsIn K mainGlobals x=some (some (.ref f)))(e2:K.lookup f=some ⟨oc,od,.func fd,lH⟩)
  (e3:fd.code=.ref c) (e4:K.lookup c=some ⟨.type "code",Oo,.fields vs,O⟩) (e5:vs[11]? = some (.ref P)) (e6:vs.getD 11 .none=.ref P) (e7:vs.getD 18 .none=.str G tf) (e8:vs.getD 7 .none=.int g tg) (e9:vs.getD 9 .none=.bool T) (Op:vs.getD 10 .none=.int M tt) (U:(c == P)=false):yw K x :=
 ⟨c,P,tab_yes e1 e2 e3 e4 e5,_,vs,G,tf,g,tg,T,M,tt,e4,rfl,rfl,e5,e6,e7,e8,e9,Op,λz=>by rw[z]at U;simp at U⟩
theorem uH (l:List Value)(h:TriplesOk l)(e:codeAmong pos (l++[rawInt a,rawInt b,c])=some cv):codeAmong pos l=some cv∨cv=c:=by
 fun_induction TriplesOk l with
 |case1=>
  simp only[List.nil_append,rawInt,codeAmong]at e;split at e
  ·cases e;exact .inr rfl
  ·cases e
 |case2 G t M u x az g=>
  simp only[List.cons_append,codeAmong]at e ⊢;split at e
  ·rename_i hc;rw[if_pos hc];exact .inl e
  ·rename_i hc;rw[if_neg hc];exact g h e
 |case3 l h1 h2=>exact h.elim
section
variable {X:Cx}{aa:List (Addr×Obj)}{σ:St}{H:Hp}{s:Shared}
theorem zZ 
  (hx:x∈jE) (L:yw X.K x) (hc:∀c P,tabIn X.K x=some (c,P)->X.env.code=.ref c) (hq:X.env.qual ++ "<lambda>" = mv x) (Ko:defaultsOf params X.env=([],[])) (yM:closureFor scope X.env=pure cl)
  (I:Inv X aa σ H s) (tb:Tb X.K H) (k:∀f H' s',Inv X aa σ H' s'->aA H H'->zY H' f (mv x) params body scope cl->Q (.ref f) s'):
  wq X (eval (.Lambda params body scope pos) X.env) Q E s:=by
 refine kla_eval Ko ?_;rw[hq];obtain⟨c,P,ht,o,vs,Kp,tf,U,tg,Oq,Kq,tt,lk,ck⟩:=L;have G:=hc c P ht;have hP:=tb x hx c P ht;obtain⟨ps,e,tr,co⟩:=I.hok P _ hP;have C:CodeHd s.heap c P:=⟨o,vs,Kp,tf,U,tg,Oq,Kq,tt,I.kIn c o lk,ck⟩;have hg:s.heap.Ns mainGlobals X.mg:=I.mod.glob.keeps I.bk;have nP:∀b,H b=none->b≠P:=λb n z=>by rw[z,hP]at n;cases n
 have Ot:mainGlobals≠P:=by
  obtain⟨og,_,_,eg,_⟩:=I.mod.glob;exact nP _ (I.bs _ _ eg).2
 have hb:s.heap.BuiltinsAt X.mg P:=by
  obtain⟨bm,ob,b1,b2,b3,b4,b5,b6⟩:=I.mod.bmain;refine⟨bm,ob,b1,b2,λz=>?_,nP _ (I.bs _ _ b3).2,I.bk _ _ b3,b4,b5,b6⟩;obtain⟨og,es,ep,eg,dg,_⟩:=I.mod.glob;rw[z,eg]at b3;cases b3;rw[dg]at b6;cases b6
 cases hf:codeAmong pos ps.toList with
 |some cv=>
  obtain⟨g,oc,u,ws,t,rfl,hH,hd,hv⟩:=co pos cv hf;refine kla_makeFunctionHit (mg:=X.mg) yM I.ok.glob hg G C e tr hf hb λM h' tk hk hsz=>?_;have hn:H h'.objs.size=none:=I.hok.fresh hsz;have O:aA H (upd H h'.objs.size (.frz (kla_obj "<lambda>" (mv x) params body scope cl ((X.mg "__name__").getD .none) g M) (.own h'.objs.size))):=λb u q=>by rw[ar (aD q hn)];exact q
  refine k _ _ _ (I.laid (t':=tk) (λb u q=>vZ _ (hk b u q)) hsz (show bi X.prog X.w _ _ _ (.frz _ (.own h'.objs.size))from ⟨vY _ rfl,_,vY _ rfl⟩)) O ?_;exact⟨_,g,M,_,oc,u,ws,t,aq,O _ _ hH,hd,hv⟩
 |none=>
  refine kla_makeFunction (mg:=X.mg) yM I.ok.glob hg G C e tr hf Ot hb λg M h' tk hx' hge xE hrec htb=>?_;obtain⟨c2,oc,ws,t,e2,CH,hd,hv⟩:=hrec;cases e2
  have Ou:H g=none:=I.hok.fresh hge;have hsz:s.heap.objs.size<=h'.objs.size:=vR hge (Nat.le_of_lt xE);have Ov:H h'.objs.size=none:=I.hok.fresh hsz;have Ow:g≠h'.objs.size:=vS xE;let fo:Obj:=kla_obj "<lambda>" (mv x) params body scope cl ((X.mg "__name__").getD .none) g M;let H1:Hp:=upd (upd H g (.frz oc (.own g))) h'.objs.size (.frz fo (.own h'.objs.size));have O:aA H H1:=λb u q=>by
   show upd _ _ _ b=_;rw[ar (aD q Ov),ar (aD q Ou)];exact q
  have Kr:H1 g=some (.frz oc (.own g)):=by show upd _ _ _ g=_;rw[ar Ow,aq]
  have keep:∀b u,b≠P->s.heap.get? b=some u->(h'.push fo).get? b=some u:=λb u n q=>vZ _ (hx' b u n q);have lt:∀b u,s.heap.get? b=some u->b≠g/\b≠h'.objs.size:=λb u q=>⟨vS (vQ (vX q) hge),vS (vQ (vX q) hsz)⟩;have T:(h'.push fo).get? P=some (tabObj (ps++#[rawInt pos.line,rawInt pos.col,.ref g])):=vZ _ htb;refine k _ H1 _ (I.un (t':=tk) (h':=h'.push fo) ⟨λb u q n _ _=>keep b u (nP b n) q,λb u q n _ _=>⟨u.slots,keep b u (nP b n) q⟩,λb u q n _=>?_,λb u q _=>?_,λb xs q=>O _ _ q,λb ob u q=>O _ _ q,λb u q=>O _ _ q⟩ λb u q=>?_) O ⟨_,g,M,_,oc,_,ws,t,aq,Kr,hd,hv⟩
  ·show upd _ _ _ b=_;rw[ar (lt b u q).2,ar (lt b u q).1];exact n
  ·by_cases z:b=P
   ·subst z;exact⟨_,T⟩
   ·exact⟨u,keep b u z q⟩
  ·by_cases z1:b=h'.objs.size
   ·subst z1;have q':some (HO.frz fo (.own h'.objs.size))=some u:=by rw[←q];exact aq.symm
    cases q'
    exact⟨vY _ rfl,_,vY _ rfl⟩
   ·by_cases z2:b=g
    ·subst z2;rw[Kr]at q;cases q;exact⟨vZ _ CH,_,vZ _ CH⟩
    ·have q':H b=some u:=by
      have:H1 b=H b:=by show upd _ _ _ b=_;rw[ar z1,ar z2]
      rw[←this];exact q
     by_cases z3:b=P
     ·subst z3;rw[hP]at q';cases q';refine⟨_,T,?_,λAH cv' ea=>?_⟩
      ·rw[Array.toList_append];exact TriplesOk_snoc _ _ _ _ tr
      ·rw[Array.toList_append]at ea;rcases uH _ tr ea with ea|rfl
       ·obtain⟨c3,Ox,u3,Oy,t3,y1,y2,y3⟩:=co AH cv' ea;exact⟨c3,Ox,u3,Oy,t3,y1,O _ _ y2,y3⟩
       ·exact⟨g,oc,_,ws,t,rfl,Kr,hd,hv⟩
     ·refine(I.hok b u q').stay (λd v Ks r=>keep d v ?_ r) (λd r=>O _ _ r) (λd xs r=>O _ _ r) λd ob v r=>O _ _ r;rcases Ks with rfl|r
      ·exact z3
      ·intro z;rw[z,hP]at r;cases r
end
section
variable {P:Program}{w:World}{K:Frag}{mg:Str->Option Value}{base:Heap}
theorem eU.fnL {x:Str}{st:Stmt}{N ps:List Str}{k:Nat}{g:FS}{h:Heap}(F:eU K x st)(X:K.In h)(G:h.Ns mainGlobals mg)(S:FnScope N ps (a7 st))
  (O:∀(kV doc pm:Value)(an:Option Addr)(cQ ct:Value)(us:List Value),us.length=ps.length->bindArgs (fnOf x x (dR st) (bI st) (a7 st) .none kV doc pm an cQ ct) ⟨us,[]⟩=pure (ps.zip us))
  (hb:∀(f:Addr)(cQ:Value)(A:Around)(outer:List PySem.Env)(s:Shared)(H:Hp)(E:XK),(∀c P,tabIn K x=some (c,P)->cQ=.ref c)->cV k (A.deeper (envOfC x (a7 st) s.heap.objs.size f cQ))->o0 (lI tU P w K mg base N x (a7 st) f cQ A outer s H E).nox (bI st) g):
  Fn P w K mg base (k+1) x (aN g ps.length (N.length - ps.length)):=by
 obtain⟨f,fd,T,a⟩:=F;have F2:=T;obtain⟨oc,od,kV,doc,pm,an,cQ,ct,lH,rfl,lk,U⟩:=F2.ex;have hc:∀c P,tabIn K x=some (c,P)->cQ=.ref c:=λc P e=>by
  unfold tabIn at e;simp only[a,lk]at e;split at e
  ·rename_i c' _;split at e
   ·split at e
    ·cases e;rfl
    ·cases e
   ·cases e
  ·cases e
 have len:∀vs H Q E,BK K (aN g ps.length (N.length - ps.length)) vs H Q E->vs.length=ps.length:=λvs H Q E h=>by
  obtain⟨B,ds,d,b,sB,i,e,q⟩:=h;unfold aN at e;split at e
  ·rename_i hl;rw[i.length];exact hl
  ·cases e
 refine⟨f,_,ps,CZ lk U S len λA outer s H vs Q E hr h=>⟨_,o3.nox (hb f cQ A outer s H E hc hr),?_⟩,mg_of X G a,T.kp,T.binds O⟩;have M:=len vs H Q E h;obtain⟨B,ds,d,b,sB,i,e,q⟩:=h;unfold aN at e;rw[if_pos (by rw[←i.length];exact M)]at e;have s0:=rR (N:=N) sB.1 sB.2 i;rw[M]at s0;split at e
 ·rename_i d' b' eg;cases e
  exact⟨B,H,_,_,⟨B,s0⟩,eg,λv H' N' x' i' f'=>q v H' N' x' i' f'⟩
 ·rename_i ρ' eg;cases e
  exact⟨B,H,_,_,⟨B,s0⟩,eg,λσ' H' ⟨N',s'⟩=>q .non H' N' s'.ext .non (by simp)⟩
 ·cases e
end
inductive jg (X:Cx)(N':List Str)(scope:Scope)(cl:List (Str×Addr)):Nat->List Nat->Prop where
 |nil {j:Nat}(h:N'.length=j):jg X N' scope cl j []
 |cons {j i:Nat}{r:List Nat}{x:Str}(h1:N'[j]? = some x) (h2:X.N[i]? = some x) (h3:X.env.kindOf x=some .cell∨X.env.kindOf x=some .free)
   (h4:scope.names.lookup x=some .free) (h5:cl.lookup x=X.env.cells.lookup x) (t:jg X N' scope cl (j+1) r):jg X N' scope cl j (i::r)
theorem jg.len:∀ {j:Nat}{cap:List Nat},jg X N' scope cl j cap->N'.length=j+cap.length
 |_,_,.nil h=>by rw[h];rfl
 |j,i::r,.cons _ _ _ _ _ t=>by rw[t.len,vE];omega
theorem jg.get:∀ {j:Nat}{cap:List Nat}{k i:Nat},jg X N' scope cl j cap->cap[k]? = some i->∃x,N'[j+k]? = some x/\X.N[i]? = some x/\(X.env.kindOf x=some .cell∨X.env.kindOf x=some .free) /\
  scope.names.lookup x=some .free/\cl.lookup x=X.env.cells.lookup x
 |_,_,_,_,.nil _,e=>by simp at e
 |j,_,0,_,.cons h1 h2 h3 h4 h5 _,e=>by simp at e;subst e;exact⟨_,h1,h2,h3,h4,h5⟩
 |j,_,k+1,i,.cons _ _ _ _ _ t,e=>by
  obtain⟨x,q,r⟩:=t.get (k:=k) (i:=i) (by simpa using e);exact⟨x,by rw[show j+(k+1)=j+1+k by omega];exact q,r⟩
noncomputable abbrev sV (X:Cx)(N':List Str)(scope:Scope)(cl:List (Str×Addr))(q:Str)(A:Around)(f c:Addr)(s:Shared)(H:Hp):Cx :=
 { X with A:=A.deeper (envX q scope s.heap.objs.size f (.ref c) cl),N:=N',s₀:=s,H₀:=H,env:=envX q scope s.heap.objs.size f (.ref c) cl,outer:=X.stack,stack:=envX q scope s.heap.objs.size f (.ref c) cl::X.stack,ex:=[],fn:=λ_=>false,calm:=true,pn:=[],xe:=λ_ _=>False }
structure LamSc (X:Cx)(scope:Scope)(cl:List (Str×Addr))(y:Str):Prop where
 clos:closureFor scope X.env=pure cl
 nocell:∀z∈scope.names,z.2≠.cell
 kind:scope.kind=.function
 co:scope.isCoroutine=false
 gen:scope.isGenerator=false
 par:scope.names.lookup y=some .local
 sub:∀x c,cl.lookup x=some c->X.env.cells.lookup x=some c
 has:∀x,scope.names.lookup x=some .free->∃c,cl.lookup x=some c
theorem Aa (h1:∀z∈scope.names,z.2≠.cell)(h2:scope.kind=.function)(h3:scope.isCoroutine=false)(g:scope.isGenerator=false)(hp:scope.names.lookup y=some .local)
  (G:(scope.names.all λz=>!(z.2 == NameKind.free) || (X.env.cells.lookup z.1).isSome)=true):LamSc X scope (cE scope.names X.env.cells []) y:=by
 have h4:∀z∈scope.names,z.2=.free->(X.env.cells.lookup z.1).isSome=true:=λz hz e=>by
  have:=uS G z hz;rw[e]at this;simpa using this
 exact⟨oZ scope.names [] h4,h1,h2,h3,g,hp,λx c e=>jG scope.names [] (λy d q=>by cases q) e,λx h=>by
  have:=jH (x:=x) scope.names [] (dD h) (h4 _ (dD h) rfl);exact uV this⟩
section
variable {X:Cx}{aa:List (Addr×Obj)}{σ:St}{H:Hp}{s:Shared}{A:Around}{N':List Str}{scope:Scope}{cl:List (Str×Addr)}{q y:Str}{cap:List Nat}
theorem Cf (S:LamSc X scope cl y)(N0:N'[0]? = some y)(cp:jg X N' scope cl 1 cap)(I:Inv X aa σ H s)(hA:A.frames=some X.stack)(hh:A.handled=none)(r:aC v u)
  (FI:h₁.Ns s.heap.objs.size (λx=>[(y,u)].reverse.lookup x)) (hk:∀b o,s.heap.get? b=some o->h₁.get? b=some o):
  Inv (sV X N' scope cl q A f c s H) [] (some v::o7 0 cap σ) H { s with heap:=h₁,toks:=tk }:=by
 have G:∀b:Addr,b∉(sV X N' scope cl q A f c s H).ex:=λb z=>absurd (show b∈([]:List Addr)from z) (by simp);refine⟨⟨I.ok.mod,S.kind,rfl,rfl,vT _,λx z d T e2=>I.ok.inj x z d (S.sub _ _ T) (S.sub _ _ e2),λx hx=>?_,(λx d e=>by cases e),λ_=>hh,Around.frames_deeper hA,.inr ⟨rfl,rfl⟩,λb z=>absurd z (G b),I.bs,vR I.ok.bsz I.sz,λb _ _=>G b,λb z=>absurd z (G b),I.stack,I.stkFree⟩,
  rfl,I.bare,Un.kept hk,⟨_,FI,λi x U T e2 e3=>?_⟩,λx d e=>?_,I.hok.fresh (vT _),λx d e=>I.freeC x d (S.sub _ _ e),λp hp=>absurd (show p∈([]:List (Addr×Obj))from hp) (by simp),I.hok.kept hk,?_⟩
 ·have hx':scope.names.lookup x=some .cell∨scope.names.lookup x=some .free:=hx;rcases hx' with hx'|hx'
  ·exact absurd rfl (S.nocell _ (dD hx'))
  ·exact S.has x hx'
 ·cases i with
  |zero=>
   have g:N'[0]? = some x:=T;rw[N0]at g;cases g;have M:some v=some U:=by simpa using e2
   cases M
   exact⟨u,r,.inl ⟨S.par,by simp⟩⟩
  |succ k=>
   have M:(o7 0 cap σ)[k]? = some (some U):=by simpa using e2
   obtain⟨k',i',D6,g1,O⟩:=qD M;have:k=k':=by omega
   subst this;obtain⟨x',n1,n2,n3,n4,n5⟩:=cp.get g1;have:x'=x:=by
    have g:N'[k+1]? = some x:=T;rw[show 1+k=k+1 by omega]at n1;rw[n1]at g;exact vK g
   subst this;have Oz:σ[i']? = some (some U):=by
    cases z:σ[i']? with
    |none=>rw[z]at O;cases O
    |some w=>rw[z]at O;cases w with
     |none=>cases O
     |some w=>cases O;rfl
   obtain⟨m,_,hl⟩:=I.loc;obtain⟨u',ru,lk⟩:=hl i' x' U n2 Oz (by
    rcases n3 with n3|n3
    ·exact .inr (.inl n3)
    ·exact .inr (.inr n3))
   refine⟨u',ru,.inr ⟨.inr n4,?_⟩⟩;rcases lk with⟨l1,_⟩|⟨_,d,l2,l3⟩
   ·rcases n3 with n3|n3<;>(rw[l1]at n3;cases n3)
   ·obtain⟨ob,ho,hd⟩:=l3;exact⟨d,by show cl.lookup x'=_;rw[n5];exact l2,ob,hk _ _ ho,hd⟩
 ·obtain⟨w,ob,ho,hd⟩:=I.cell x d (S.sub _ _ e);exact⟨w,ob,hk _ _ ho,hd⟩
 ·have:=cp.len;show(some v::o7 0 cap σ).length=N'.length;unfold o7;rw[this];simp;omega
theorem Cg (S:LamSc X scope cl y)(N0:N'[0]? = some y)(cp:jg X N' scope cl 1 cap)(I:Inv X aa σ H s)
  (hA:A.frames=some X.stack) (hh:A.handled=none) (g:A.depth<recursionLimit) (lv:zY H f q params body scope cl)
  (G:∀pm c O u,bindArgs (kla_fn "<lambda>" q params body scope cl pm (.ref c) O) ⟨[u],[]⟩=pure [(y,u)])
  (hb:∀(f c:Addr)(s:Shared)(H:Hp),JE (sV X N' scope cl q A f c s H) body fb)
  (rep:dB X.K B σ ρ) (sB:aA B H) (r:aC v u) (i:Is X.K B v d) (e:fb (some (d,false)::cL 0 cap ρ)=some (d',b')) (qf:Fin X.K B H d' b' Q):
  wpAny (model X.prog X.w) A (call (.ref f) [u]) (EP X aa σ Q) (λ_ _=>False) s:=by
 obtain⟨pm,c,O,uf,oc,u',ws,t,hf,hc,hd,hv⟩:=lv;have ho:=(I.hok f _ hf).1;have CH:=(I.hok c _ hc).1;refine wpAny_call (codeAny_mono (R:=λr s'=>CR tU X.stack X.prog X.w H s Q (λ_ _ _=>False) r s') ?_ λr s' hq=>?_)
 ·refine kla_callFunE g ho rfl S.co S.gen rfl ⟨c,oc,ws,t,rfl,CH,hd,hv⟩ ?_;rw[G];refine wY (wpAny_newFunctionEnv S.nocell (λz hz=>by rw[uU hz];exact S.par) (λT FI U=>⟨I.nolimit.fresh _ U,?_⟩) S.kind);have M:∀b o,s.heap.get? b=some o->T.get? b=some o:=λb o e=>U.extBut b o (vS (vX e)) (vZ _ e);have J:=Cf (f:=f) (c:=c) (q:=q) (tk:=s.toks+1) S N0 cp I hA hh r FI M;refine kla_codeExpr (wpAny_mono (hb f c s H [] _ _ H Q J ⟨B,_,d',b',sB,⟨rep.tb,λj e0 b0 z=>?_⟩,e,qf⟩) (λw s' hw=>?_) λ_ _ z=>z.elim)
  ·cases j with
   |zero=>
    have z':some (d,false)=some (e0,b0):=by simpa using z
    cases z'
    exact⟨v,rfl,i⟩
   |succ j=>
    obtain⟨w,h1,h2⟩:=(rep.caps (nT:=0) (cap:=cap)).at' j e0 b0 (by simpa using z);exact⟨w,by simpa using h1,h2⟩
  ·obtain⟨v',H',J',rv,qv⟩:=hw;exact⟨v',H',J'.os,J'.bare,J'.base,J'.hok,rv,qv⟩
 ·cases r with
  |error e=>exact False.elim hq
  |ok fl=>
   cases fl with
   |ret w=>exact I.after hq
   |next=>exact False.elim hq
   |brk=>exact False.elim hq
   |cont=>exact False.elim hq
end
end DL
namespace DL
open PySem PySem.Spec PySem.W PyProof.Rows L2
section
variable {X:Cx}{aa:List (Addr×Obj)}{σ:St}{H:Hp}{s:Shared}{h':Heap}{t':Nat}
theorem kO (I:Inv X ((p,o)::aa) σ H s):∀x c,X.env.cells.lookup x=some c->c≠p:=λx c e z=>by
 have g:=I.pin (p,o) (mY _ mX);obtain⟨v,ob,G,hd⟩:=I.cell x c e;rw[z,g.1]at G;cases G;exact g.2.2.2.2 v hd
theorem ii (I:Inv X (p::aa) σ H s):Inv X aa σ H s:=I.pins_of λq hq=>I.pin q (mY _ (mZ _ hq))
theorem fx (I:Inv X ((p,o)::aa) σ H s)(h0:X.s₀.heap.objs.size<=p)(hp:∀q∈X.pn++aa,q.1≠p)(k:∀b u,b≠p->s.heap.get? b=some u->h'.get? b=some u)(G:h'.get? p=some o')(M:∀v,o'.data≠.cell v):
  Inv X ((p,o')::aa) σ H { s with heap:=h',toks:=t' }:=by
 have g:=I.pin (p,o) (mY _ mX);have J:=(ii I).turned (t':=t') k g.2.1 g.2.2.1 (.inr h0) (kO I) hp;refine J.pins_of λq hq=>?_;rcases vP hq with rfl|hq
 ·exact⟨G,g.2.1,g.2.2.1,g.2.2.2.1,M⟩
 ·exact J.pin q (mY _ hq)
theorem lX (I:Inv X aa σ H s)(k:∀b u,s.heap.get? b=some u->h'.get? b=some u)(hs:s.heap.objs.size<=p)(g:h'.get? p=some o)(G:∀v,o.data≠.cell v):Inv X ((p,o)::aa) σ H { s with heap:=h',toks:=t' }:=by
 have J:=I.kept (t':=t') k;refine J.pins_of λq hq=>?_;rcases vP hq with rfl|hq
 ·exact⟨g,I.hok.fresh hs,Nat.ne_of_gt (vQ I.lt hs),I.nofs hs,G⟩
 ·exact J.pin q (mY _ hq)
theorem Ch (I:Inv X ((p,o)::aa) σ H s)(h0:X.s₀.heap.objs.size<=p)(hp:∀q∈X.pn++aa,q.1≠p)(k:∀b u,b≠p->s.heap.get? b=some u->h'.get? b=some u)(T:∃u,h'.get? p=some u)
  (new:bi X.prog X.w (upd H p ob) h' p ob):Inv X aa σ (upd H p ob) { s with heap:=h',toks:=t' }:=by
 have g:=I.pin (p,o) (mY _ mX);have hn:=g.2.1;have hn:H p=none:=hn;have cs:=kO I;refine(ii I).step (g':=s.gens) (d':=s.drawn) (ch:=[p]) (λb hb=>?_) (λb u _ _ hc e _=>k b u (λz=>hc (by simp[z])) e) (λb u _ _ hc e _=>⟨u.slots,k b u (λz=>hc (by simp[z])) e⟩) (λb u hc _ n=>by rw[ar (λz=>hc (by simp[z]))];exact n)
  (λb u hc e=>⟨u,k b u (λz=>hc (by simp[z])) e⟩) (λb xs e=>by rw[ar (aD e hn)];exact e) (λb u w e=>by rw[ar (aD e hn)];exact e) (λb q e=>by rw[ar (aD e hn)];exact e) (λm hm=>?_) (λb u e=>?_) I.bare
 ·have z:b=p:=by simpa using hb
  subst z;exact⟨.inr h0,g.2.2.1,cs,hp⟩
 ·obtain⟨G,es,M,O,r⟩:=hm;exact⟨G,es,M,k _ G (λz=>g.2.2.1 z.symm) O,r⟩
 ·by_cases z:b=p
  ·subst z;rw[aq]at e;cases e;exact new
  ·rw[ar z]at e;refine(I.hok b u e).stay (λc v hc q=>k c v ?_ q) (λc q=>?_) (λc xs q=>?_) λc w xs q=>?_
   ·rcases hc with rfl|hc
    ·exact z
    ·exact aD hc hn
   ·rw[ar (aD q hn)];exact q
   ·rw[ar (aD q hn)];exact q
   ·rw[ar (aD q hn)];exact q
end
def wU (X:Cx)(A:Around)(σ:St)(g:Value)(B G:Hp)(M:D->Option D):Prop :=
 ∀(aa:List (Addr×Obj))(s:Shared)(H N:Hp)(v:V)(u:Value)(d d':D),Inv X aa σ H s->aA G H->aA B N->aA N H->Is X.K N v d->aC v u->M d=some d' ->
  wpAny (model X.prog X.w) A (call g [u]) (EP X aa σ λO H'=>∃N',Ext N N' H H'/\Is X.K N' O d') (λ_ _=>False) s
def JK (X:Cx)(A:Around)(e:Expr)(M:Env->D->Option D):Prop:=∀(aa:List (Addr×Obj))(s:Shared)(σ:St)(H B:Hp)(ρ:Env)(Q:Value->Shared->Prop)(E:Value->Shared->Prop),Inv X aa σ H s->aA B H->dB X.K B σ ρ ->
 (∀G g s1,Inv X aa σ g s1->aA H g->wU X A σ (.ref G) B g (M ρ)->Q (.ref G) s1)->wq X (eval e X.env) Q E s
section
variable {X:Cx}{A:Around}
@[simp] def sW (cap:List Nat)(g:FE):Env->D->Option D:=λρ d=>(g (some (d,false)::cL 0 cap ρ)).map (·.1)
theorem uI (hx:x∈jE)(L:yw X.K x)(hc:∀c P,tabIn X.K x=some (c,P)->X.env.code=.ref c)(hq:X.env.qual ++ "<lambda>" = mv x)
  (G:defaultsOf params X.env=([],[])) (S:LamSc X scope (cE scope.names X.env.cells []) y) (N0:N'[0]? = some y) (cp:jg X N' scope (cE scope.names X.env.cells []) 1 cap) (hA:A.frames=X.A.frames) (M:cV (k+1) A)
  (g:∀pm c O u,bindArgs (kla_fn "<lambda>" (mv x) params body scope (cE scope.names X.env.cells []) pm (.ref c) O) ⟨[u],[]⟩=pure [(y,u)])
  (hb:∀(f c:Addr)(s:Shared)(H:Hp),cV k (sV X N' scope (cE scope.names X.env.cells []) (mv x) A f c s H).A->JE (sV X N' scope (cE scope.names X.env.cells []) (mv x) A f c s H) body fb):JK X A (.Lambda params body scope pos) (sW cap fb):=by
 intro aa s σ H B ρ Q E I sB rep kk;refine zZ hx L hc hq G S.clos I (rep.tb.mono sB) λf H1 s1 I1 sm lv=>kk f H1 s1 I1 sm ?_;intro T s' H' N v u d d' U m1 m2 m3 iv r e;simp only[sW]at e;obtain⟨⟨d2,b2⟩,e1,e2⟩:=oY e;cases e2
 exact Cg S N0 cp U (hA.trans U.ok.frames) M.hd M.depth (lv.mono m1) g (λf c s H=>hb f c s H (M.deeper _)) (rep.mono m2) m3 r iv e1 λv' H2 N2 x2 i2 _=>⟨N2,x2,i2⟩
@[simp] noncomputable def oD (g:List D->OB):Env->D->Option D:=λ_ d=>(g [d]).map (·.1)
theorem wV (F:Fn X.prog X.w X.K X.mg X.base k x g)(hr:cV k A)(hA:A.frames=X.A.frames)(hg:Gl X x:=by rfl)(M:(x == ("__debug__" : Str))=false:=by decide):JK X A (.Name x p) (oD g):=by
 intro aa s σ H B ρ Q E I sB rep kk;obtain⟨ad,fd,ps,U,hm,hk,hb⟩:=F.ex;refine qk I hg hm ?_ M;refine kk ad H s I (.refl H) ?_;intro O s' H' N v u d d' T m1 m2 m3 iv r e;simp only[oD]at e;obtain⟨⟨d2,b2⟩,e1,e2⟩:=oY e;cases e2
 have sp:BK X.K g [v] H' (λv' H2=>∃N',Ext N N' H' H2/\Is X.K N' v' d2) (λ_ _ _=>False):=⟨N,[d],d2,b2,⟨m3,rep.tb.mono m2⟩,.cons iv .nil,e1,λv' H2 N2 x2 i2 _=>⟨N2,x2,i2⟩⟩;have hl:[u].length=ps.length:=by have:=U.len _ _ _ _ sp;simpa using this
 have G:=T.env0;have bb:=hb s' [u] T.kIn (by simpa using hl);rw[uR]at bb;refine wpAny_call (codeAny_mono (U.run A X.stack s' H' ⟨[u],[]⟩ [u] [v] _ (λ_ _ _=>False) hr ⟨hA.trans G.frames,G.mod,G.bs,G.bsz,G.funs,G.frf,G.hok,G.bare⟩ bb (.cons r .nil) sp) λr s' hq=>?_);cases r with
 |error e=>exact False.elim hq
 |ok fl=>
  cases fl with
  |ret w=>exact T.after hq
  |next=>exact False.elim hq
  |brk=>exact False.elim hq
  |cont=>exact False.elim hq
end
noncomputable def gG (f:D->Option D):List D->Option (List D)
 |[]=>some []
 |d::ds=>(f d).bind λx=>(gG f ds).map (x :: ·)
theorem ij:∀ {ds ks:List D},gG f ds=some ks->ks.length=ds.length
 |[],_,h=>by simp only[gG]at h;cases h;rfl
 |d::ds,_,h=>by
  simp only[gG]at h;obtain⟨a,h1,h⟩:=oX h;obtain⟨r,h2,h⟩:=oY h;subst h;simp[ij h2]
theorem mT:∀ {ds ks:List D},gG f ds=some ks->∀ {i:Nat}{d:D},ds[i]? = some d->∃k,ks[i]? = some k/\f d=some k
 |[],_,h,i,d,e=>by simp at e
 |d::ds,_,h,0,e,q=>by
  simp only[gG]at h;obtain⟨a,h1,h⟩:=oX h;obtain⟨r,h2,h⟩:=oY h;subst h;simp at q;subst q;exact⟨a,by simp,h1⟩
 |d::ds,_,h,i+1,e,q=>by
  simp only[gG]at h;obtain⟨a,h1,h⟩:=oX h;obtain⟨r,h2,h⟩:=oY h;subst h;obtain⟨k,g,G⟩:=mT h2 (i:=i) (d:=e) (by simpa using q);exact⟨k,by simpa using g,G⟩
structure KK (X:Cx)(A:Around)(kd:List D->Option (List (List At)))(ok:List (List At)->Bool):Prop where
 len:∀ {ds:List D}{ks:List (List At)},kd ds=some ks->ks.length=ds.length
 ask:∀ {aa:List (Addr×Obj)}{σ:St}{H:Hp}{s:Shared}(_:Inv X aa σ H s) {ys:List V}{ds:List D}{ks:List (List At)}{its:List Value},aH ys its->IsL X.K H ys ds->kd ds=some ks->ok ks=true->cA ks=true ->
  (0<ks.length->∀ {E:Value->Shared->Prop}{Q:SortKind->Shared->Prop},Q (tuples' true) s->wpAny (model X.prog X.w) A (keyKind' its.toArray) Q E s) /\
  ∀(i j:Nat)(C:Bool->Shared->Prop)(s1:Shared),i<ks.length->j<ks.length->s1=s->(∀s',s'=s->C (oB (wO ks) i j) s')->kas_ask X.prog X.w A (tuples' true) its i j C s1
theorem Ab:KK X A ca bX:=⟨dG,λI _ _ _ _ r i e hf hc=>have hp:=lW I r i e;⟨λhn _ _ q=>sJ hp hf hn q,wP hc hp⟩⟩
section
variable {X:Cx}{aa:List (Addr×Obj)}{σ:St}{s:Shared}
theorem pA (r:aC x u):∀ {vs:List V}{us:List Value},aH vs us->aH (vs++[x]) (us++[u])
 |_,_,.nil=>.cons r .nil
 |_,_,.cons h t=>.cons h (pA r t)
theorem ci:∀v,(Obj.mk c od (.seq its n) sl).data≠.cell v:=λv z=>by cases z
theorem uJ 
  (I:Inv X ((a,seqObj "list" its.toArray n)::aa) σ H s) (h0:X.s₀.heap.objs.size<=a) (hp:∀q∈X.pn++aa,q.1≠a) (Bb:wU X A σ qv B H kf) (rv:aH vs its) (iv:IsL X.K B vs ds) (sB:aA B H)
  (M:KK X A kd ok) (em:gG kf ds=some gu) (ek:kd gu=some ks) (hc:cA ks=true) (hf:ok ks=true) (FL:its.length<64)
  (h:∀(p:Array Nat)(s':Shared)(H' N:Hp),ky its.length p->Up (wO ks) p its.length->Inv X aa σ (upd H' a (.lst (p.toList.map λi=>vs.getD i .non))) s'->Ext B N H H'->H' a=none->P (.done (.ret .none)) s'):
  wpAny (model X.prog X.w) A (ksk_tree a qv false) P E s:=by
 have pa:=I.pin (a,seqObj "list" its.toArray n) (mY _ mX)
 have D4:vs.length=its.length:=rv.length
 have Ba:ds.length=vs.length:=iv.length.symm
 have O0:gu.length=ds.length:=ij em
 have Kt:ks.length=gu.length:=M.len ek
 have hz:its.length<=sizeLine:=by rw[sizeLine_eq];omega
 have Pp:H a=none:=pa.2.1
 obtain⟨O,CO⟩:∃O,(s.heap.update a (Obj.mapSeq λ_=>(#[]:Array Value))).get? a=some (seqObj "list" #[] O):=⟨_,get?_update_seq pa.1 λ_=>#[]⟩
 have u1:=vW s.heap a (Obj.mapSeq λ_=>(#[]:Array Value))
 have I1:Inv X ((a,seqObj "list" #[] O)::aa) σ H { s with heap:=s.heap.update a (Obj.mapSeq λ_=>(#[]:Array Value)) }:=fx (t':=s.toks) I h0 hp (λb u n q=>(u1.2 b n).trans q) CO ci
 let h2:Heap:=(s.heap.update a (Obj.mapSeq λ_=>(#[]:Array Value))).push (seqObj "tuple" its.toArray 0)
 have I2:Inv X ((a,seqObj "list" #[] O)::aa) σ H { s with heap:=h2 }:=I1.kept (t':=s.toks) λb u q=>vZ _ q
 let kS:Addr:=h2.objs.size
 have I3:Inv X ((kS,seqObj "list" #[] 0)::(a,seqObj "list" #[] O)::aa) σ H { s with heap:=h2.push (seqObj "list" #[] 0) }:=lX (s:={ s with heap:=h2 }) (t':=s.toks) I2 (λb u q=>vZ _ q) (vT _) (vY _ rfl) ci
 have k0:X.s₀.heap.objs.size<=kS:=I2.sz
 have kp:∀q∈X.pn++((a,seqObj "list" #[] O)::aa),q.1≠kS:=λq hq=>vS (vX (I2.pin q hq).1)
 have Pq:kS≠a:=λz=>kp (a,seqObj "list" #[] O) (mY _ mX) z.symm
 unfold ksk_tree
 refine wX (listItems_at pa.1 rfl ?_)
 refine wX (listUpdate_at pa.1 rfl ?_ (by simpa using hz) (uO _))
 refine wX (seqEpoch_at CO rfl ?_)
 refine wX (wpAny_newTuple ?_ (by show its.length<=sizeLine;exact hz))
 refine wX (wpAny_newList ?_ (uO _))
 refine wpAny_holding ?_
 show wpAny (model X.prog X.w) A (ksk_rest a qv false its.toArray O (.ref kS)) P E { s with heap:=h2.push (seqObj "list" #[] 0) }
 unfold ksk_rest
 refine wX (wpAny_rule ?_)
 rw[List.forIn_toArray]
 refine wX (ksk_fold (λi s'=>∃(H' N:Hp)(kA:Array Value)(e:Nat)(av:List V),Inv X ((kS,seqObj "list" kA e)::(a,seqObj "list" #[] O)::aa) σ H' s'/\Ext B N H H'/\aH av kA.toList/\IsL X.K N av (gu.take i)) its 0 _
  ⟨H,B,#[],0,[],I3,.refl sB,.nil,by simpa using IsL.nil⟩ ?step ?done)
 case step=>
  rintro j u s' hu ⟨H',N,kA,e,av,J,U,rk,ik⟩
  simp only[Nat.zero_add]at ik ⊢
  have hj:j<its.length:=(vV hu).1
  obtain⟨d,hd⟩:∃d,ds[j]? = some d:=⟨_,vU (by omega)⟩
  obtain⟨v,hv,HQ⟩:=iv.get hd
  obtain⟨kd,O1,Ku⟩:=mT em hd
  obtain⟨u',Me,ru⟩:=rv.get hv
  rw[hu]at Me;cases Me
  have kl:kA.size=j:=by
   have z1:=rk.length
   have z2:=ik.length
   rw[List.length_take]at z2
   rw[vG]at z1
   exact z1.symm.trans (z2.trans (Nat.min_eq_left (by omega)))
  refine wX (wpAny_attempt (wpAny_mono (Bb _ s' H' N v u d kd J U.hh U.bn U.nh (HQ.mono U.bn) ru Ku) (λw HP hw=>?_) λ_ _ hF=>hF.elim))
  obtain⟨v',O2,J',O3,N',x2,i2⟩:=hw
  have pk:=J'.pin (kS,seqObj "list" kA e) (mY _ mX)
  obtain⟨c2,D7⟩:∃c2,(HP.heap.update kS (Obj.mapSeq (·.push w))).get? kS=some (seqObj "list" (kA.push w) c2):=⟨_,get?_update_seq pk.1 (·.push w)⟩
  have u2:=vW HP.heap kS (Obj.mapSeq (·.push w))
  refine wX (listUpdate_at pk.1 rfl ?_ (by rw[sizeLine_eq];omega) (vR (Nat.le_of_eq (Array.size_push ..)) (by rw[sizeLine_eq];omega)))
  refine wY ⟨rfl,O2,N',kA.push w,c2,av++[v'],fx (t':=HP.toks) J' k0 kp (λb q n z=>(u2.2 b n).trans z) D7 ci,U.trans x2,?_,?_⟩
  ·rw[Array.toList_push];exact pA O3 rk
  ·rw[List.take_add_one,O1];exact(ik.mono x2.bn).append (.cons i2 .nil)
 case done=>
  rintro s' ⟨H',N,kA,e,av,J,U,rk,ik⟩
  have Mf:IsL X.K N av gu:=by
   have z:gu.take (0+its.length)=gu:=List.take_of_length_le (by omega)
   rw[z]at ik;exact ik
  have pk:=J.pin (kS,seqObj "list" kA e) (mY _ mX)
  have O4:=J.pin (a,seqObj "list" #[] O) (mY _ (mZ _ mX))
  have JH:H' a=none:=O4.2.1
  have kz:kA.toList.length=its.length:=by rw[←rk.length,Mf.length];omega
  have Mg:kA.size=its.length:=by rw[←vG];exact kz
  refine wX (listItems_at pk.1 rfl ?_)
  have Mh:=M.ask J rk (Mf.mono U.nh) ek hf hc
  -- the end of the sort,for a permutation p
  have HR:∀(st:SortSt)(p:Array Nat),arrOf st=p.map (kas_item (kA.toList.toArray.zip its.toArray))->failedOf st=none->ky its.length p->Up (wO ks) p its.length ->
    wpAny (model X.prog X.w) A (ksk_tail a false O (.ref kS) st) P E s':=λst p ea ef ap up=>by
   have eo:(arrOf st).map (·.2)=List.toArray (p.toList.map λi=>its.getD i Value.none):=kat_snds kz ea
   have Fp:∀i∈p.toList,i<vs.length:=λi hi=>by
    have:=List.mem_range.mp (ap.perm.mem_iff.mp hi)
    omega
   obtain⟨c3,O5⟩:∃c3,(s'.heap.update kS (Obj.mapSeq λ_=>(#[]:Array Value))).get? kS=some (seqObj "list" #[] c3):=⟨_,get?_update_seq pk.1 λ_=>#[]⟩
   have u3:=vW s'.heap kS (Obj.mapSeq λ_=>(#[]:Array Value))
   have J3:=ii (fx (t':=s'.toks) J k0 kp (λb q n z=>(u3.2 b n).trans z) O5 ci)
   have Kv:=J3.pin (a,seqObj "list" #[] O) (mY _ mX)
   obtain⟨c4,Mi⟩:∃c4,((s'.heap.update kS (Obj.mapSeq λ_=>(#[]:Array Value))).update a (Obj.mapSeq λ_=>(arrOf st).map (·.2))).get? a=some (seqObj "list" ((arrOf st).map (·.2)) c4):=⟨_,get?_update_seq Kv.1 λ_=>(arrOf st).map (·.2)⟩
   have u4:=vW (s'.heap.update kS (Obj.mapSeq λ_=>(#[]:Array Value))) a (Obj.mapSeq λ_=>(arrOf st).map (·.2))
   have so:((arrOf st).map (·.2)).size=its.length:=by rw[eo];simp only[vH,vI,vG,ap.size]
   unfold ksk_tail
   try dsimp only
   refine wX (listUpdate_at pk.1 rfl ?_ (by rw[Mg,sizeLine_eq];omega) (uO _))
   refine wX (wpAny_letGo ?_)
   refine wX (seqEpoch_at Kv.1 rfl ?_)
   refine wX (listUpdate_at Kv.1 rfl ?_ (uO _) (by simp only[uW,if_false];rw[so,sizeLine_eq];omega))
   rw[ef]
   simp only[bne_self_eq_false,uW,if_false]
   refine wY (h p _ H' N ap up (Ch (s:={ s' with heap:=s'.heap.update kS (Obj.mapSeq λ_=>(#[]:Array Value)) }) (t':=s'.toks) J3 h0 hp (λb q n z=>(u4.2 b n).trans z) ⟨_,Mi⟩ ?_) U JH)
   refine⟨by rw[vI,vG,ap.size];exact hz,p.toList.map λi=>its.getD i Value.none,c4,kN rv p.toList Fp,?_⟩
   rw[←eo];exact Mi
  unfold ksk_end
  try dsimp only
  simp only[uW,if_false]
  have O6:kA=kA.toList.toArray:=by simp
  by_cases g:its.toArray.size<2
  ·rw[if_pos g,if_pos g]
   refine wX (wY ?_)
   rw[StateT.run_pure]
   refine wX (wY ?_)
   have Kl:its.length<2:=by simpa using g
   refine HR _ (List.toArray (List.range its.length)) ?_ rfl ⟨by simp,by simp⟩ ?_
   ·show kA.zip its.toArray=_
    have:=kas_range (kA.toList.toArray.zip its.toArray)
    rw[show(kA.toList.toArray.zip its.toArray).size=its.length by simp[Mg]]at this
    rw[this]
   ·intro i j hij hj
    have:i=j:=by omega
    subst this;exact Int.le_refl _
  ·rw[if_neg g,if_neg g]
   have Kw:2<=its.length:=by simp at g;omega
   rw[O6]
   refine wX (Mh.1 (by omega) ?_)
   obtain⟨p,r1,r2,r3⟩:=sG (n:=its.length) (rk:=wO ks) (by omega)
   refine wX (wpAny_mono (kat_run (E:=E) (ks:=kA.toList) (vs:=its) (κ:=tuples' true) (s:=s') (Q:=λT s2=>s2=s'/\arrOf T=p.map (kas_item (kA.toList.toArray.zip its.toArray))/\failedOf T=none)
    (G:=λp' s2=>p'=p/\s2=s') kz Kw FL (λp' T s2 _ e2 e3 e4=>by
     obtain⟨rfl,rfl⟩:=e4
     exact⟨rfl,e2,e3⟩) (Run.wp (λs2=>s2=s') (λi j C s2 hi hj e hC=>Mh.2 i j C s2 (by omega) (by omega) e hC) r1 rfl λs2 e=>⟨rfl,e⟩)) (λr s2 hr=>?_) λ_ _ z=>z)
   obtain⟨⟨⟩,T⟩:=r
   obtain⟨rfl,e2,e3⟩:=hr
   exact HR T p e2 e3 r2 r3
end
theorem sX {α g:Type}{f:α->g}:∀ {l:List α},(l.map f).Nodup->l.Nodup
 |[],_=>List.nodup_nil
 |a::l,h=>by
  rw[uZ,List.nodup_cons]at h;exact List.nodup_cons.mpr ⟨λz=>h.1 (uT ⟨a,z,rfl⟩),sX h.2⟩
def im (ks:List (List At))(ds:List D):List D:=(eO (λp:List At×D=>bJ p.1) (ks.zip ds)).map (·.2)
theorem Ac {α O:Type}(d:α)(e:O):∀ {G:List α}{g:List O},G.length=g.length->(List.range g.length).map (λi=>(G.getD i d,g.getD i e))=G.zip g:=λ{G g} h=>by
 apply List.ext_getElem?;intro i;by_cases hi:i<g.length
 ·have M:i<G.length:=by omega
  have:=(List.getElem?_zip_eq_some (z:=(G[i],g[i]))).mpr ⟨vU M,vU hi⟩;rw[this];simp[hi,M]
 ·simp[hi,h]
theorem Ci {α M:Type}{g:List α}{G:List M}(nd:g.Nodup){a:α}{b c:M}(h1:(a,b)∈g.zip G)(h2:(a,c)∈g.zip G):b=c:=by
 obtain⟨i,hi⟩:=List.mem_iff_getElem?.mp h1;obtain⟨j,hj⟩:=List.mem_iff_getElem?.mp h2;obtain⟨T,U⟩:=List.getElem?_zip_eq_some.mp hi;obtain⟨j1,O⟩:=List.getElem?_zip_eq_some.mp hj;obtain⟨li,ei⟩:=vV T;obtain⟨lj,ej⟩:=vV j1;have:i=j:=(List.getElem_inj nd).mp (ei.trans ej.symm);subst this;rw[U]at O;exact vK O
theorem uK {ds:List D}{ks:List (List At)}{p:Array Nat}(hl:ks.length=ds.length)(hc:cA ks=true)(nd:ks.Nodup)(g:ky ds.length p)(T:Up (wO ks) p ds.length):p.toList.map (λi=>ds.getD i .non)=im ks ds:=by
 unfold im;have e:p.toList.map (λi=>(ks.getD i [],ds.getD i .non))=eO (λp:List At×D=>bJ p.1) (ks.zip ds):=by
  apply gg
  ·intro x hx y hy e;have mx:=(List.of_mem_zip hx).1;have U:=(List.of_mem_zip hy).1;have:=iJ hc mx U e;obtain⟨k1,d1⟩:=x;obtain⟨k2,d2⟩:=y;have z:k1=k2:=this;subst z;rw[Ci nd hx hy]
  ·have:=g.perm.map (λi=>(ks.getD i [],ds.getD i D.non));rw[Ac [] D.non hl]at this;exact this
  ·rw[List.pairwise_iff_getElem];intro i j hi hj G;have hsz:=g.size;have M:i<p.size:=by simpa using hi
   have O:j<p.size:=by simpa using hj
   have:=T i j (Nat.le_of_lt G) (by omega);unfold bw wO at this;have gi:p.getD i 0=p[i]:=by rw[Array.getD_eq_getD_getElem?,Array.getElem?_eq_getElem M];rfl
   have gj:p.getD j 0=p[j]:=by rw[Array.getD_eq_getD_getElem?,Array.getElem?_eq_getElem O];rfl
   have lj:=g.lt (k:=j) (by omega);have mj:ks.getD (p.getD j 0) []∈ks:=by
    have h':p.getD j 0<ks.length:=by omega
    rw[vF,vU h'];exact List.getElem_mem h'
   have nl:¬bJ (ks.getD (p.getD j 0) [])<bJ (ks.getD (p.getD i 0) []):=λz=>by
    have:=qS (cs:=ks.map bJ) (uT ⟨_,mj,rfl⟩) z;omega
   simp only[List.getElem_map,Array.getElem_toList];unfold zT;rw[←gi,←gj];exact nl
 rw[←e,List.map_map];rfl
@[simp] def uL (kd:List D->Option (List (List At)))(ok:List (List At)->Bool)(f:FE)(G:Env->D->Option D):FE:=λρ=>(f ρ).bind λx=>match x.1 with
 |.lst ds=>(gG (G ρ) ds).bind λg=>(kd g).bind λks=>if ks.length<64/\cA ks=true/\ok ks=true/\(ks.map bJ).Nodup then some (.lst (im ks ds),true)else none
 |_=>none
@[simp] abbrev mU:FE->(Env->D->Option D)->FE:=uL ca bX
section
variable {X:Cx}{e ke:Expr}{p pos kp:Pos}
theorem Ds {kd:List D->Option (List (List At))}{ok:List (List At)->Bool}(M:KK X X.A.in1.in1 kd ok){f:FE}{kf:Env->D->Option D}(hm:X.mg "sorted" = none)(he:JE X e f)(hk:JK X X.A.in1.in1 ke kf)(hg:Gl X "sorted":=by rfl)
  (Kx:starEach [e] X.env=[(false,eval e X.env)]:=by rfl) (Ky:backTo pos (starEach [e] X.env)=(false,eval e X.env)::backTo pos (starEach [] X.env):=by rfl) (G:(backTo pos (starEach [e] X.env)).any (·.1)=false:=by rfl)
  (AL:(backToKw pos (keywordEach [⟨some "key",ke,kp⟩] X.env)).all (·.1.isSome)=true:=by rfl) (Kz:(backToKw pos (keywordEach [⟨some "key",ke,kp⟩] X.env)).any (·.1.isNone)=false:=by rfl)
  (K0:(backToKw pos (keywordEach [⟨some "key",ke,kp⟩] X.env)).filterMap (·.1)=[("key" : Str)]:=by rfl):
  JE X (.Call (.Name "sorted" p) [e] [⟨some "key",ke,kp⟩] pos) (uL kd ok f kf):=by
 intro aa s σ H Q I h;obtain⟨B,ρ,d,b,sB,rep,g,q⟩:=h;obtain⟨⟨xd,xb⟩,ex,g⟩:=oX g;cases xd<;>try (cases g;done)
 rename_i ds;obtain⟨gu,em,g⟩:=oX g;obtain⟨ks,ek,g⟩:=oX g;split at g
 ·rename_i hh;obtain⟨FL,hc,hf,nd⟩:=hh;cases g
  refine wpAny_Call_Name_kw (ji I hg hm (u:=.builtin "sorted") rfl ?_);refine callWith_kw (bF ((dQ he gw Kx) pos aa s σ H (λvs H1=>∃v N,vs=[v]/\Ext B N H H1/\Is X.K N v (.lst ds)) I ⟨B,ρ,_,_,sB,rep,ex,λv H1 N O i1 _=>⟨v,N,rfl,O,i1⟩⟩) λus s1 hA=>?_) Ky G AL Kz;obtain⟨O7,H1,I1,r1,v,N,rfl,O,i1⟩:=hA;obtain⟨u,rfl,ru⟩:=gP r1;refine kws_cons (hk aa s1 σ H1 N ρ _ _ I1 O.nh (rep.mono O.bn) λqa H2 s2 I2 m2 Bb=>kws_nil ?_);rw[K0];show wpAny _ _ (call (.builtin "sorted") [u] [(("key" : Str),.ref qa)]) _ _ _;cases i1
  rename_i l vs hq il;cases ru
  have sN:aA N H2:=O.nh.trans m2;obtain⟨its,rv,pl,hz⟩:=I2.list (sN.seq hq);have D4:vs.length=its.length:=rv.length;have Ba:ds.length=vs.length:=il.length.symm;have O0:gu.length=ds.length:=ij em;have Kt:ks.length=gu.length:=M.len ek;have K1:its.length<64:=by omega
  refine call_function_entry_kw kind_sorted plain_sorted entry_sorted (ksk_s1 _ _) ?_;unfold Builtin.«sorted»;refine wX (m:=checkCount "sorted" 1 1 _) (wY (wX (collect_list pl.isList (wX (wpAny_newList ?_ (by rw[sizeLine_eq];omega))) (by rw[sizeLine_eq];omega))));let h1:Heap:=(s2.heap.push (seqObj "list" #[] 0)).update s2.heap.objs.size (Obj.mapSeq (· ++ its.toArray));have hsz:h1.objs.size=s2.heap.objs.size+1:=by show(Heap.update _ _ _).objs.size=_;rw[Heap.size_update,size_push']
  have T:∀b o,s2.heap.get? b=some o->h1.get? b=some o:=λb o q=>(Heap.get?_update_ne _ _ _ _ (vS (vX q))).trans (vZ _ q);have I3:Inv X ((h1.objs.size,seqObj "list" its.toArray 0)::aa) σ H2 { s2 with heap:=h1.push (seqObj "list" its.toArray 0) } :=
   lX (t':=s2.toks) I2 (λb u q=>vZ _ (T b u q)) (by rw[hsz];exact Nat.le_succ _) (vY _ rfl) ci
  have p3:=I3.pin (h1.objs.size,seqObj "list" its.toArray 0) (mY _ mX);show wpAny (model X.prog X.w) X.A.in1 (holding [.ref h1.objs.size] (call (.builtin "list.sort") [.ref h1.objs.size] [(("key" : Str),.ref qa)])>>=_) _ _ { s2 with heap:=h1.push (seqObj "list" its.toArray 0) };refine wX (wpAny_holding (wpAny_call_entry_kw slot_list_sort ⟨_,p3.1,rfl⟩ entry_list_sort ?_ (ksk_l1 _ _)));show wpAny (model X.prog X.w) X.A.in1.in1 (Builtin.«list.sort» ⟨[.ref h1.objs.size],[(Str.ofString "key",.ref qa)]⟩) _ _ _;rw[ksk_t1];refine uJ I3 (vR I2.sz (by rw[hsz];exact Nat.le_succ _)) (λq hq=>by rw[hsz];exact vS (Nat.lt_succ_of_lt (vX (I2.pin q hq).1))) Bb rv il sN M em ek hc hf K1 λpm s' H' N' ap up J U hn=>⟨_,rfl,wY ⟨_,rfl,?_⟩⟩;have G:its.length=ds.length:=by omega
  rw[G]at ap up;have er:=uK (by omega) hc (sX nd) ap up;have Fp:∀i∈pm.toList,i<ds.length:=λi hi=>List.mem_range.mp (ap.perm.mem_iff.mp hi);have ip:=mS (il.mono U.bn) pm.toList Fp;rw[er]at ip;have x4:Ext B N' H H':=(O.trans (.grow O.nh m2)).trans U;have hN:N' h1.objs.size=none:=U.nh.free hn;have x5:=x4.trans (Ext.laid (o:=.lst (pm.toList.map λi=>vs.getD i .non)) U.nh hn);exact⟨.ref h1.objs.size,_,J,rfl,q _ _ _ x5 (.lst (eK.of aq) (ip.mono (Ext.laid (o:=.lst (pm.toList.map λi=>vs.getD i .non)) U.nh hn).bn)) λ_=>⟨_,_,_,rfl,rfl,x4.hh.free hn,aq,ip.mono (Ext.laid (o:=.lst (pm.toList.map λi=>vs.getD i .non)) U.nh hn).bn⟩⟩
 ·cases g
end
noncomputable def MR {f:String->CmpOp->Builtin}(_:f "__lt__" .Lt=Builtin.«tuple.__lt__»):=f
noncomputable def Ll:String->CmpOp->Builtin:=MR rfl
section
variable {prog:Program}{w:World}{A:Around}{E:Value->Shared->Prop}{s:Shared}{op:CmpOp}
theorem eE.type (h:eE s.heap xs v):s.TypeIs v "tuple":=by
 obtain⟨a,o,its,n,rfl,g,hc,_⟩:=h;exact⟨o,g,hc⟩
inductive GeW (prog:Program)(w:World)(A:Around)(s:Shared)(op:CmpOp)(gt r:Bool):List (Value×Value)->Prop
 |nil (h:gt=r):GeW prog w A s op gt r []
 |eq {u v:Value}{l:List (Value×Value)}(h:SeqAt.EqAt A s u v true) (t:GeW prog w A s op gt r l):GeW prog w A s op gt r ((u,v)::l)
 |ne {u v:Value}{l:List (Value×Value)}(h:SeqAt.EqAt A s u v false) (t:∀(Q E:Value->Shared->Prop),Q (.bool r) s->wpAny (model prog w) A (richCompare op u v) Q E s):GeW prog w A s op gt r ((u,v)::l)
theorem Cj {nm:String}(M:s.TypeIs (.ref b) "tuple")(O:s.heap.get? a=some oa)(T:oa.data=.seq its na)(U:s.heap.get? b=some ob)(Kn:ob.data=.seq CM nb)
  (W:GeW prog w A s op gt r (its.toList.zip CM.toList)) (hz:Builtin.Tuple.tupleCompareSizes op its.size CM.size=.bool gt) (O8:op=.Lt∨op=.Gt∨op=.GtE) (q:P (.done (.ret (.bool r))) s):wpAny (model prog w) A (Ll nm op ⟨[.ref a,.ref b],[]⟩) P E s:=by
 show wpAny _ _ (isInstance (.ref _) (.type "tuple")>>=_) _ _ s;refine wX (wpAny_isInstance M isSubtype_tuple_tuple ?_);simp only[Bool.not_true,uW,if_false];refine wX (wpAny_tupleItemsOf O T ?_);refine wX (wpAny_tupleItemsOf U Kn ?_);refine wX ?_;refine wpAny_forIn_list _ (λaz z s'=>z.1=none/\s'=s/\GeW prog w A s op gt r az) _ ?_ ?_ _ _ ⟨rfl,rfl,W⟩
 ·rintro⟨u,v⟩ az z s' ⟨hz,rfl,W⟩;cases W with
  |eq h t=>
   refine wX (h _ _ _ _ ?_);simp only[Bool.not_true,uW,if_false];exact wY ⟨rfl,rfl,t⟩
  |ne h t=>
   refine wX (h _ _ _ _ ?_);simp only[Bool.not_false,if_true];have t:=t (λv g=>v=.bool r/\g=s') E ⟨rfl,rfl⟩;rcases O8 with rfl|rfl|rfl<;>exact wX (wpAny_rule (wX (wpAny_mono t (λv g hv=>by obtain⟨rfl,rfl⟩:=hv;exact wX (wY (wY (wY q)))) λ_ _ z=>z)))
 ·rintro⟨z1,z2⟩ s' ⟨G,rfl,W⟩;simp only at G;subst G;refine wY ?_;cases W with
  |nil h=>
   show P (.done (.ret (Builtin.Tuple.tupleCompareSizes op its.size CM.size))) s';rw[hz,h];exact q
structure CmR (prog:Program)(w:World)(A:Around)(s:Shared)(op:CmpOp)(R:List At->List At->Bool->Prop)(fl:Nat->Nat->Bool):Prop where
 ei:∀ {a xs ys r},R (.i a::xs) (.i a::ys) r->R xs ys r
 es:∀ {a xs ys r},R (.s a::xs) (.s a::ys) r->R xs ys r
 ni:∀ {a c xs ys r},a≠c->R (.i a::xs) (.i c::ys) r->∀t u (Q E:Value->Shared->Prop),Q (.bool r) s->wpAny (model prog w) A (richCompare op (.int a t) (.int c u)) Q E s
 ns:∀ {a c xs ys r},a≠c->R (.s a::xs) (.s c::ys) r->∀t u (Q E:Value->Shared->Prop),Q (.bool r) s->wpAny (model prog w) A (richCompare op (.str a t) (.str c u)) Q E s
 mx:∀ {a c xs ys r},¬R (.i a::xs) (.s c::ys) r/\¬R (.s c::xs) (.i a::ys) r
 en:∀ {xs r},(R [] xs r->fl 0 xs.length=r)/\(R xs [] r->fl xs.length 0=r)
 fs:∀ {m n},fl (m+1) (n+1)=fl m n
theorem mV (C:CmR prog w A s op R fl):∀(xs ys:List At)(its M:List Value),Paired Dq xs its->Paired Dq ys M->R xs ys r->GeW prog w A s op (fl xs.length ys.length) r (its.zip M)
 |[],_,_,_,.nil,_,h=>.nil (C.en.1 h)
 |_::_,[],_,_,.cons _ _,.nil,h=>.nil (C.en.2 h)
 |.i _::_,.s _::_,_,_,_,_,h=>absurd h C.mx.1
 |.s _::_,.i _::_,_,_,_,_,h=>absurd h C.mx.2
 |.i a::xs,.i c::ys,_,_,.cons O g,.cons T G,h=>by
  obtain⟨t,rfl⟩:=O;obtain⟨u,rfl⟩:=T;have he:=SeqAt.EqAt.int_int (A:=A) (s:=s) a t c u;rw[List.zip_cons_cons,vE,vE,C.fs];by_cases e:a=c
  ·subst e;rw[show(a == a)=true by simp]at he;exact .eq he (mV C xs ys _ _ g G (C.ei h))
  ·rw[show(a == c)=false by simp[e]]at he;exact .ne he (C.ni e h t u)
 |.s a::xs,.s c::ys,_,_,.cons O g,.cons T G,h=>by
  obtain⟨t,rfl⟩:=O;obtain⟨u,rfl⟩:=T;have he:=SeqAt.EqAt.str_str (A:=A) (s:=s) a t c u;rw[List.zip_cons_cons,vE,vE,C.fs];by_cases e:a=c
  ·subst e;rw[show(a == a)=true by simp]at he;exact .eq he (mV C xs ys _ _ g G (C.es h))
  ·rw[show(a == c)=false by simp[e]]at he;exact .ne he (C.ns e h t u)
theorem GW:CmR prog w A s .Lt (λxs ys r=>aL xs ys=some r) (λm n=>decide (m<n)) where
 ei h:=by rwa [aL,if_pos rfl]at h
 es h:=by rwa [aL,if_pos rfl]at h
 ni e h _ _ _ _ q:=by rw[aL,if_neg e]at h;cases h;exact PyProof.Rows.lt_int q
 ns e h _ _ _ _ q:=by rw[aL,if_neg e]at h;cases h;exact PySem.P.lt_str q
 mx:=by simp[aL]
 en:=λ{xs}=>by cases xs<;>simp[aL]
 fs:=by simp
theorem GX:CmR prog w A s .Gt (λxs ys r=>aL ys xs=some r) (λm n=>decide (n<m)) where
 ei h:=by rwa [aL,if_pos rfl]at h
 es h:=by rwa [aL,if_pos rfl]at h
 ni e h _ _ _ _ q:=by rw[aL,if_neg (Ne.symm e)]at h;cases h;exact PyProof.Rows.gt_int q
 ns e h _ _ _ _ q:=by rw[aL,if_neg (Ne.symm e)]at h;cases h;exact PySem.P.gt_str q
 mx:=by simp[aL]
 en:=λ{xs}=>by cases xs<;>simp[aL]
 fs:=by simp
theorem Ad (hx:eE s.heap xs (.ref a)):∃o its n,s.heap.get? a=some o/\o.data=.seq its n/\Paired Dq xs its.toList/\xs.length=its.size:=by
 obtain⟨G,o,its,n,e,g,hc,hd,p⟩:=hx;cases e
 exact⟨o,its,n,g,hd,p,by rw[←vG];exact fw p⟩
theorem Dt {nm:String}(C:CmR prog w A s op R fl)(hz:∀m n,Builtin.Tuple.tupleCompareSizes op m n=.bool (fl m n))(g:op=.Lt∨op=.Gt∨op=.GtE)(hx:eE s.heap xs (.ref a))(hy:eE s.heap ys (.ref b))(h:R xs ys r)(q:P (.done (.ret (.bool r))) s):wpAny (model prog w) A (Ll nm op ⟨[.ref a,.ref b],[]⟩) P E s:=by
 have hb:=hy.type;obtain⟨_,_,_,O,hd,p,T⟩:=Ad hx;obtain⟨_,_,_,G,M,U,l2⟩:=Ad hy;exact Cj hb O hd G M (mV C _ _ _ _ p U h) (by rw[T,l2];exact hz _ _) g q
theorem GY (hx:eE s.heap xs x)(hy:eE s.heap ys y)(h:aL xs ys=some r)(hu:A.units<cLine)(q:Q (.bool r) s):wpAny (model prog w) A (richCompare .Lt x y) Q E s:=by
 have g:=hx.type;have ty:=hy.type;obtain⟨a,_,_,_,rfl,_⟩:=id hx;obtain⟨b,_,_,_,rfl,_⟩:=id hy;exact wpAny_richCompare_same_room (op:=.Lt) g ty PySem.F.slot_tuple_lt (wpAny_call_entry PySem.F.slot_tuple_lt g PySem.F.entry_tuple_lt (Dt GW (λ_ _=>rfl) (.inl rfl) hx hy h ⟨_,rfl,(λe=>nomatch e),q⟩) (PySem.F.args_tuple_lt_2 _ _)) hu
theorem GZ (hx:eE s.heap xs x)(hy:eE s.heap ys y)(h:aL ys xs=some r)(hu:A.units<cLine)(q:Q (.bool r) s):wpAny (model prog w) A (richCompare .Gt x y) Q E s:=by
 have g:=hx.type;have ty:=hy.type;obtain⟨a,_,_,_,rfl,_⟩:=id hx;obtain⟨b,_,_,_,rfl,_⟩:=id hy;exact wpAny_richCompare_same_room (op:=.Gt) g ty PySem.F.slot_tuple_gt (wpAny_call_entry PySem.F.slot_tuple_gt g PySem.F.entry_tuple_gt (Dt GX (λ_ _=>rfl) (.inr (.inl rfl)) hx hy h ⟨_,rfl,(λe=>nomatch e),q⟩) (PySem.F.args_tuple_gt_2 _ _)) hu
end
def jS:List At×D->List (List At×D)->D
 |b,[]=>b.2
 |b,x::r=>if aL b.1 x.1=some true then jS x r else jS b r
def je:List At×D->List (List At×D)->D
 |b,[]=>b.2
 |b,x::r=>if aL x.1 b.1=some true then je x r else je b r
noncomputable def MS {f:String->CmpOp->Builtin}(_:f "max" .Gt=Builtin.«max.loop»):=f
noncomputable def MT:String->CmpOp->Builtin:=MS rfl
noncomputable def MU {f:String->Builtin}(_:f "max" = Builtin.«max»):=f
noncomputable def MV:String->Builtin:=MU rfl
structure MM (nm lp:String)(ns:Str)(op:CmpOp)(lt:List At->List At->Option Bool)(go:List At×D->List (List At×D)->D):Prop where
 hn:(toString nm++toString ".loop" : String)=lp
 en:entryFor table lp=some (MT nm op)
 pl:plainId lp=true
 k2:builtinKind nm=none
 p2:plainId nm=true
 e2:entryFor table nm=some (MV nm)
 ka:∀a v:Value,argsOk nm ⟨[a],[(Str.ofString "key",v)]⟩
 bt:bootBuiltins ns=some (.builtin nm)
 n1:ns ≠ "__name__"
 n2:(ns == ("__debug__" : Str))=false
 g0:∀b,go b []=b.2
 g1:∀b x r,go b (x::r)=if lt b.1 x.1=some true then go x r else go b r
 cg:∀ {ks:List (List At)},cA ks=true->∀ {a b},a∈ks->b∈ks->∃r,lt a b=some r
 rc:∀ {prog:Program}{w:World}{A:Around}{E:Value->Shared->Prop}{s:Shared}{xs ys:List At}{x y:Value}{r:Bool}{Q:Value->Shared->Prop},eE s.heap xs x->eE s.heap ys y->lt ys xs=some r->A.units<cLine->Q (.bool r) s->wpAny (model prog w) A (richCompare op x y) Q E s
theorem Lm:MM "max" "max.loop" "max" .Gt aL jS :=
 ⟨by decide,PySem.F.entry_max_loop,PySem.F.plain_max_loop,PySem.F.kind_max,PySem.F.plain_max,PySem.F.entry_max,λ_ _=>by unfold argsOk;kernel_rfl,rfl,by decide,by decide,λ_=>rfl,λ_ _ _=>rfl,λh _ _ a b=>⟨_,eY h a b⟩,GZ⟩
theorem Ju:MM "min" "min.loop" "min" .Lt (λa b=>aL b a) je :=
 ⟨by decide,PySem.F.entry_min_loop,PySem.F.plain_min_loop,PySem.F.kind_min,PySem.F.plain_min,PySem.F.entry_min,λ_ _=>by unfold argsOk;kernel_rfl,rfl,by decide,by decide,λ_=>rfl,λ_ _ _=>rfl,λh _ _ a b=>⟨_,eY h b a⟩,GY⟩
section
variable {X:Cx}{aa:List (Addr×Obj)}{σ:St}
theorem uM (J:Inv X ((a1,o1)::(a2,o2)::aa) σ H' s'):Inv X ((a2,o2)::(a1,o1)::aa) σ H' s' :=
 J.pins_of λq hq=>J.pin q (by
  rcases vP hq with rfl|hq
  ·exact mY _ (mZ _ mX)
  ·rcases vP hq with rfl|hq
   ·exact mY _ mX
   ·exact mY _ (mZ _ (mZ _ hq)))
theorem mW (hp:∀q∈X.pn++aa,q.1≠a)(h:S≠a):∀q∈X.pn++((S,o)::aa),q.1≠a:=λq hq=>by
 rcases List.mem_append.mp hq with hq|hq
 ·exact hp q (List.mem_append_left _ hq)
 ·rcases vP hq with rfl|hq
  ·exact h
  ·exact hp q (mY _ hq)
theorem wW (I:Inv X aa σ H s)(r:aC v u)(i:Is X.K H v d)(e:jR d=some k):eE s.heap k u:=by
 have:=lW I (ys:=[v]) (ds:=[d]) (ks:=[k]) (its:=[u]) (.cons r .nil) (.cons i .nil) (by simp only[ca,e];rfl);cases this;assumption
inductive MK (X:Cx)(aa:List (Addr×Obj))(σ:St)(S It l:Addr)(o:Obj)(j:Nat)(N H:Hp)(y:List At×D)(u ku:Value)(s:Shared):Prop
 |mk (H2 N2:Hp) (v kv:V) (kd:D) (oI:Obj) (J:Inv X ((S,o)::(It,oI)::aa) σ H2 s) (AK:s.heap.IsListIter It l (j+1)) (x:Ext N N2 H H2) (ru:aC v u) (iv:Is X.K N2 v y.2) (rk:aC kv ku) (ik:Is X.K N2 kv kd) (ek:jR kd=some y.1)
theorem Ae {E:Value->Shared->Prop}{It:Addr}(hh:X.A.handled=none)(Bb:wU X X.A.in1 σ (.ref qa) B H1 kf)(hq:eK X.K B l vs)(iv:IsL X.K B vs ds)(em:gG kf ds=some gu)(ek:ca gu=some ks)(I0:X.s₀.heap.objs.size<=It)(Fs:∀q∈X.pn++((S,o)::aa),q.1≠It)
  (Ft:l≠It) (hz:(ks.zip ds)[j]? = some y) (I:Inv X ((S,o)::(It,oI)::aa) σ H s) (AK:s.heap.IsListIter It l j) (g:Ext B N H1 H):
  wpAny (model X.prog X.w) X.A.in1 (pyNext (.ref It)) (λr s1=>∃u,r=some u/\wpAny (model X.prog X.w) X.A.in1 (call (.ref qa) [u]) (MK X aa σ S It l o j N H y u) (λ_ _=>False) s1) E s:=by
 obtain⟨its,rv,pl,_⟩:=I.list ((g.bn.trans g.nh).seq hq);obtain⟨hk,hd⟩:=List.getElem?_zip_eq_some.mp hz;obtain⟨v,hv,M⟩:=iv.get hd;obtain⟨kd,O,Ku⟩:=mT em hd;obtain⟨u,hu,ru⟩:=rv.get hv;have FM:jR kd=some y.1:=by
  have:=gk ek (i:=j) (vV O).1;rw[vF,O,vF,hk]at this;exact this
 refine(Walks.list (prog:=X.prog) (w:=X.w) (A:=X.A.in1) hh It l Ft its.toArray).item j _ _ _ (by simpa using(vV hu).1) ⟨AK,pl.isList⟩ λu' h' Fq hP T D6=>?_;have U:its[j]? = some u':=by simpa using hP
 rw[hu]at U;cases U;obtain⟨G,K2,CH,Mj⟩:=id T.1;exact⟨u,rfl,bF (Bb _ _ H N v u y.2 kd (uM (fx (t':=Fq) (uM I) I0 Fs (λb o n e=>D6 b o (by simpa using n) e) K2 (λv z=>by rw[Mj]at z;cases z))) g.hh g.bn g.nh (M.mono g.bn) ru Ku) λku s2 ⟨kv,H2,J4,rk,N2,x2,ik⟩=>
  ⟨H2,N2,v,kv,kd,G,J4,⟨G,(J4.pin (It,G) (mY _ (mZ _ mX))).1,CH,Mj⟩,x2,ru,M.mono (g.bn.trans x2.bn),rk,ik,FM⟩⟩
theorem Ck {nm lp:String}{ns:Str}{op:CmpOp}{lt:List At->List At->Option Bool}{go:List At×D->List (List At×D)->D}(M:MM nm lp ns op lt go){qv:Value}{l S It:Addr}{vs:List V}{ds gu:List D}{ks:List (List At)}{B H1:Hp}{kf:D->Option D}{d0:D}{R:Result->Shared->Prop}(hh:X.A.handled=none)(hu:X.A.in1.units<cLine)(Bb:wU X X.A.in1 σ qv B H1 kf)(O9:∃a,qv=.ref a)(hq:eK X.K B l vs)(iv:IsL X.K B vs ds)
  (em:gG kf ds=some gu) (ek:ca gu=some ks) (hc:cA ks=true) (S0:X.s₀.heap.objs.size<=S) (I0:X.s₀.heap.objs.size<=It) (HS:∀q∈X.pn++aa,q.1≠S) (Fs:∀q∈X.pn++aa,q.1≠It) (U:S≠It) (Mk:S≠l) (Ft:l≠It)
  (hR:∀(s':Shared)(H' N:Hp)(v:V)(u:Value),Inv X aa σ H' s'->Ext B N H1 H'->aC v u->Is X.K N v d0->R (.ok (.ret u)) s'):
  ∀(r j:Nat)(s:Shared)(H N:Hp)(G g:Value)(vb O:V)(db T:D)(kb:List At)(c:Nat)(oI:Obj),vs.length - j=r->j<=vs.length->Inv X ((S,seqObj "list" #[G,g] c)::(It,oI)::aa) σ H s->s.heap.IsListIter It l j->Ext B N H1 H ->
   aC vb G->Is X.K N vb db->aC O g->Is X.K N O T->jR T=some kb->kb∈ks->go (kb,db) ((ks.zip ds).drop j)=d0 ->
   codeAny (model X.prog X.w) X.A (.builtin lp ⟨[.ref It,qv,.ref S],[]⟩) R s:=by
 obtain⟨qa,rfl⟩:=O9;intro r;induction r with
 |zero=>
  intro j s H N G g vb O db T kb c oI hr hj I AK x1 r1 i1 r2 i2 ekb mk hd;have pS:=I.pin (S,seqObj "list" #[G,g] c) (mY _ mX);have sB:aA B H:=x1.bn.trans x1.nh;obtain⟨its,rv,pl,_⟩:=I.list (sB.seq hq);have hl:=pl.isList;have W:=Walks.list (prog:=X.prog) (w:=X.w) (A:=X.A.in1) hh It l Ft its.toArray;have hsz:its.toArray.size=its.length:=vH ..;have D4:vs.length=its.length:=rv.length;have Ba:ds.length=its.length:=by rw[←iv.length];exact rv.length
  have Om:ks.length=ds.length:=by rw[dG ek,ij em]
  have Ks:db=d0:=by
   rw[List.drop_of_length_le (by rw[List.length_zip];omega)]at hd;rw[M.g0]at hd;exact hd
  subst Ks;refine codeAny_builtin M.en ?_;rw[Around.under_plainId M.pl _];show wpAny _ X.A.in1 (seqItems? (.ref S)>>=_) _ _ _;refine wX (wpAny_seqItems pS.1 rfl ?_);show wpAny _ X.A.in1 (tryCatch (pyNext (.ref It)) _>>=_) _ _ _;refine wX (wpAny_tryCatch (W.done _ _ _ ⟨by rw[hsz,show its.length=j by omega];exact AK,hl⟩ λh' Fq D6=>?_));have J1:Inv X ((It,oI)::(S,seqObj "list" #[G,g] c)::aa) σ H s:=uM I;have K3:∀q∈X.pn++((S,seqObj "list" #[G,g] c)::aa),q.1≠It:=mW Fs U;have J2:Inv X ((S,seqObj "list" #[G,g] c)::aa) σ H { s with heap:=h',toks:=Fq } :=
   (ii J1).turned (t':=Fq) (λb o n e=>D6 b o (by simpa using n) e) (J1.pin (It,oI) (mY _ mX)).2.1 (J1.pin (It,oI) (mY _ mX)).2.2.1 (.inr I0) (kO J1) K3
  have Ml:=J2.pin (S,seqObj "list" #[G,g] c) (mY _ mX);obtain⟨c2,D7⟩:∃c2,(h'.update S (Obj.mapSeq λ_=>(#[]:Array Value))).get? S=some (seqObj "list" #[] c2):=⟨_,get?_update_seq Ml.1 λ_=>#[]⟩;have u2:=vW h' S (Obj.mapSeq λ_=>(#[]:Array Value));show wpAny _ X.A.in1 (updateSeq S (λ_=>#[])>>=_) _ _ _;refine wX ?_;refine wpAny_updateSeq Ml.1 rfl (wX (wpAny_letGo (wY ?_)));exact hR _ H N vb G (ii (fx (t':=Fq) J2 S0 HS (λb o n e=>(u2.2 b n).trans e) D7 ci)) x1 r1 i1
 |succ r ih=>
  intro j s H N G g vb O db T kb c oI hr hj I AK x1 r1 i1 r2 i2 ekb mk hd;have xE:j<(ks.zip ds).length:=by rw[List.length_zip,dG ek,ij em,←iv.length];omega
  have pS:=I.pin (S,seqObj "list" #[G,g] c) (mY _ mX);have hz:=vU xE;rw[List.drop_eq_getElem_cons xE,M.g1]at hd;generalize (ks.zip ds)[j]=y at hz hd;have hm:y.1∈ks:=vL (List.getElem?_zip_eq_some.mp hz).1;obtain⟨r,K4⟩:=M.cg hc mk hm;refine codeAny_builtin M.en ?_;rw[Around.under_plainId M.pl _];show wpAny _ X.A.in1 (seqItems? (.ref S)>>=_) _ _ _;refine wX (wpAny_seqItems pS.1 rfl ?_);show wpAny _ X.A.in1 (tryCatch (pyNext (.ref It)) _>>=_) _ _ _;refine wX (wpAny_tryCatch (bF (Ae hh Bb hq iv em ek I0 (mW Fs U) Ft hz I AK x1) λ_ s1 ⟨u,e,h1⟩=>?_));subst e;show wpAny _ X.A.in1 (tryCatch (holding [u] (call (.ref qa) [u])) _>>=_) _ _ _;refine wX (wpAny_tryCatch (wpAny_holding (wpAny_mono h1 (λku s2 ⟨H2,N2,v,kv,kd,IM,J4,HU,x2,ru,HQ,rk,ik,FM⟩=>?_) λ_ _ z=>z.elim)));have t1:=wW J4 rk (ik.mono x2.nh) FM;have t2:=wW J4 r2 (i2.mono (x2.bn.trans x2.nh)) ekb;show wpAny _ X.A.in1 (tryCatch (holding [u,ku] (richCompare op ku g>>=_)) _>>=_) _ _ _;refine wX (wpAny_tryCatch (wpAny_holding (wX (M.rc t1 t2 K4 hu ?_))));refine wX (wpAny_holding (wpAny_truthy_bool ?_));refine wX (wpAny_letGo (wY ?_));cases r with
  |true=>
   rw[if_pos K4]at hd;have u2:=vW s2.heap S (Obj.mapSeq λ_=>#[u,ku]);simp only[if_true];have HV:=J4.pin (S,seqObj "list" #[G,g] c) (mY _ mX);refine wX (wpAny_updateSeq HV.1 rfl (wX (wpAny_letGo ?_)));rw[M.hn];obtain⟨o,g1,g2⟩:=HU;exact wY ⟨plainId_quiet M.pl _,ih (j+1) _ H2 N2 u ku v kv y.2 kd y.1 _ IM (by omega) (by omega) (fx (t':=s2.toks) J4 S0 (mW HS U.symm) (λb o n e=>(u2.2 b n).trans e) (get?_update_seq HV.1 λ_=>#[u,ku]) ci) ⟨o,(u2.2 It U.symm).trans g1,g2⟩ (x1.trans x2) ru HQ rk ik FM hm hd⟩
  |false=>
   rw[if_neg (by rw[K4];simp)]at hd;simp only[uW,if_false];refine wX (wpAny_letGo ?_);rw[M.hn];exact wY ⟨plainId_quiet M.pl _,ih (j+1) _ H2 N2 G g vb O db T kb c IM (by omega) (by omega) J4 HU (x1.trans x2) r1 (i1.mono x2.bn) r2 (i2.mono x2.bn) ekb mk hd⟩
end
@[simp] def EM (go:List At×D->List (List At×D)->D)(f:FE)(G:Env->D->Option D):FE:=λρ=>(f ρ).bind λx=>match x.1 with
 |.lst ds=>(gG (G ρ) ds).bind λg=>(ca g).bind λks=>if cA ks=true then match ks.zip ds with
  |[]=>none
  |y::r=>some (go y r,false)
  else none
 |_=>none
@[simp] def pB:=EM jS
@[simp] def pC:=EM je
section
variable {X:Cx}{e ke:Expr}{p pos kp:Pos}
theorem sY {nm lp:String}{ns:Str}{op:CmpOp}{lt:List At->List At->Option Bool}{go:List At×D->List (List At×D)->D}(M:MM nm lp ns op lt go){f:FE}{kf:Env->D->Option D}{k:Nat}(hm:X.mg ns=none)(he:JE X e f)(hk:JK X X.A.in1 ke kf)(hr:cV k X.A)(hg:Gl X ns:=by rfl)
  (Kx:starEach [e] X.env=[(false,eval e X.env)]:=by rfl) (Ky:backTo pos (starEach [e] X.env)=(false,eval e X.env)::backTo pos (starEach [] X.env):=by rfl) (yL:(backTo pos (starEach [e] X.env)).any (·.1)=false:=by rfl)
  (AL:(backToKw pos (keywordEach [⟨some "key",ke,kp⟩] X.env)).all (·.1.isSome)=true:=by rfl) (Kz:(backToKw pos (keywordEach [⟨some "key",ke,kp⟩] X.env)).any (·.1.isNone)=false:=by rfl)
  (K0:(backToKw pos (keywordEach [⟨some "key",ke,kp⟩] X.env)).filterMap (·.1)=[("key" : Str)]:=by rfl):
  JE X (.Call (.Name ns p) [e] [⟨some "key",ke,kp⟩] pos) (EM go f kf):=by
 intro aa s σ H Q I h;obtain⟨B,ρ,d,b,sB,rep,g,q⟩:=h;obtain⟨⟨xd,xb⟩,ex,g⟩:=oX g;cases xd<;>try (cases g;done)
 rename_i ds;obtain⟨gu,em,g⟩:=oX g;obtain⟨ks,ek,g⟩:=oX g;split at g
 ·rename_i hc;split at g
  ·cases g
  ·rename_i y az ez;cases g
   refine wpAny_Call_Name_kw (ji I hg hm M.bt ?_ M.n1 M.n2);refine callWith_kw (bF ((dQ he gw Kx) pos aa s σ H (λvs H1=>∃v N,vs=[v]/\Ext B N H H1/\Is X.K N v (.lst ds)) I ⟨B,ρ,_,_,sB,rep,ex,λv H1 N O i1 _=>⟨v,N,rfl,O,i1⟩⟩) λus s1 hA=>?_) Ky yL AL Kz;obtain⟨O7,H1,I1,r1,v,N,rfl,O,i1⟩:=hA;obtain⟨u,rfl,ru⟩:=gP r1;refine kws_cons (hk aa s1 σ H1 N ρ _ _ I1 O.nh (rep.mono O.bn) λT H2 s2 U m2 Bb=>kws_nil ?_);rw[K0];show wpAny _ _ (call (.builtin nm) [u] [(("key" : Str),.ref T)]) _ _ _;cases i1
   rename_i l vs hq il;cases ru
   have sN:aA N H2:=O.nh.trans m2;obtain⟨its,rv,pl,hz⟩:=U.list (sN.seq hq);have K5:l<s2.heap.objs.size:=by
    obtain⟨ol,IJ,_⟩:=pl.isList;exact vX IJ
   have z0:(ks.zip ds)[0]? = some y:=by rw[ez];rfl
   have OA:=vL (List.getElem?_zip_eq_some.mp z0).1;refine kmk_tree M.k2 M.p2 M.e2 (M.ka _ _) ?_;show wpAny _ X.A.in1 (Builtin.Builtins.bindParams nm ["key","default"] 0 ⟨[],[(Str.ofString "key",.ref T)]⟩>>=_) _ _ s2;refine wX (wpAny_of_eq (show Builtin.Builtins.bindParams nm ["key","default"] 0 ⟨[],[(Str.ofString "key",.ref T)]⟩=pure [some (.ref T),none]from rfl) ?_);refine wX (wY ?_);refine wX (wpAny_pyIter_list pl.isList ?_);refine wX (wpAny_newList ?_ (uO _));rw[M.hn];let It:Addr:=s2.heap.objs.size;let oI:Obj:={ cls:=.type "list_iterator",data:=.fields #[.ref l,.int 0 0] };let S:Addr:=(s2.heap.push oI).objs.size;have hS:S=s2.heap.objs.size+1:=size_push' ..;have G:S≠It:=by rw[hS];exact Nat.ne_of_gt (Nat.lt_succ_self _)
   have J1:Inv X ((It,oI)::aa) σ H2 { s2 with heap:=s2.heap.push oI }:=lX (t':=s2.toks) U (λb u q=>vZ _ q) (vT _) (vY _ rfl) (λv z=>by cases z);have J2:Inv X ((S,seqObj "list" #[] 0)::(It,oI)::aa) σ H2 { s2 with heap:=(s2.heap.push oI).push (seqObj "list" #[] 0) }:=lX (s:={ s2 with heap:=s2.heap.push oI }) (t':=s2.toks) J1 (λb u q=>vZ _ q) (vT _) (vY _ rfl) ci;have I0:X.s₀.heap.objs.size<=It:=U.sz;have S0:X.s₀.heap.objs.size<=S:=by rw[hS];exact Nat.le_succ_of_le U.sz
   have Fs:∀q∈X.pn++aa,q.1≠It:=λq hq=>vS (vX (U.pin q hq).1);have HS:∀q∈X.pn++aa,q.1≠S:=λq hq=>by rw[hS];exact vS (Nat.lt_succ_of_lt (vX (U.pin q hq).1))
   have Ft:l≠It:=vS K5;have Mk:S≠l:=by rw[hS];exact Nat.ne_of_gt (Nat.lt_succ_of_lt K5)
   have hh:X.A.handled=none:=hr.hd;have hu:X.A.in1.units<cLine:=by have:=hr.un;show X.A.units+1<cLine;omega
   have pS:=J2.pin (S,seqObj "list" #[] 0) (mY _ mX);have pI:=J2.pin (It,oI) (mY _ (mZ _ mX));refine wY ⟨plainId_quiet M.pl _,?_⟩;refine codeAny_builtin M.en ?_;rw[Around.under_plainId M.pl _];show wpAny _ X.A.in1 (seqItems? (.ref S)>>=_) _ _ { s2 with heap:=(s2.heap.push oI).push (seqObj "list" #[] 0) };refine wX (wpAny_seqItems pS.1 rfl ?_);show wpAny _ X.A.in1 (tryCatch (pyNext (.ref It)) _>>=_) _ _ _;refine wX (wpAny_tryCatch (bF (Ae hh Bb hq il em ek I0 (mW Fs G) Ft z0 J2 ⟨oI,pI.1,rfl,rfl⟩ (.refl sN)) λ_ s1 ⟨u,e,h1⟩=>?_));subst e;show wpAny _ X.A.in1 (tryCatch (holding [u] (call (.ref T) [u])) _>>=_) _ _ _;refine wX (wpAny_tryCatch (wpAny_holding (wpAny_mono h1 (λku s3 ⟨H3,N3,v,kv,kd,IM,J4,⟨o,g1,g2⟩,x3,ru,HQ,rk,ik,FM⟩=>?_) λ_ _ z=>z.elim)));have HV:=J4.pin (S,seqObj "list" #[] 0) (mY _ mX);have u2:=vW s3.heap S (Obj.mapSeq λ_=>#[u,ku]);show wpAny _ X.A.in1 (updateSeq S (λ_=>#[u,ku])>>=_) _ _ _;refine wX (wpAny_updateSeq HV.1 rfl ?_);rw[M.hn];have OC:1<=vs.length:=by
    have:=congrArg List.length ez;rw[List.length_zip,vE,←il.length]at this;omega
   exact wY ⟨plainId_quiet M.pl _,Ck M (S:=S) (It:=It) hh hu Bb ⟨T,rfl⟩ hq il em ek hc S0 I0 HS Fs G Mk Ft (λs' H' N' v' u' J' x' r' i'=>⟨v',H',J',r',q _ _ _ ((O.trans (.grow O.nh m2)).trans x') i' (by simp)⟩) _ 1 _ H3 N3 u ku v kv y.2 kd y.1 _ IM rfl OC
    (fx (t':=s3.toks) J4 S0 (mW HS G.symm) (λb o n e=>(u2.2 b n).trans e) (get?_update_seq HV.1 λ_=>#[u,ku]) ci) ⟨o,(u2.2 It G.symm).trans g1,g2⟩ x3 ru HQ rk ik FM OA (by rw[ez];rfl)⟩
 ·cases g
end
section
variable {X:Cx}
@[simp] def M7:D->D->OB
 |.tup xs,.tup ys=>(bO xs).bind λg=>(bO ys).bind λbs=>(aL g bs).map λr=>(.bl r,false)
 |_,_=>none
@[simp] def M8:D->D->OB
 |.tup xs,.tup ys=>(bO xs).bind λg=>(bO ys).bind λbs=>(aL bs g).map λr=>(.bl r,false)
 |_,_=>none
end
section
variable {X:Cx}{a b:Expr}{p pos:Pos}
@[simp] def Ir (f g:FE):FA:=λρ=>(f ρ).bind λx=>(g ρ).bind λy=>match x.1,y.1 with
 |.int i,.int j=>if -1000<=i/\i<=1000/\-1000<=j/\j<=1000 then some (fm i (j - i).toNat)else none
 |_,_=>none
end
@[simp] def Ln:List D->OB
 |[.tup xs,.tup ys]=>(bO xs).bind λg=>(bO ys).bind λbs=>(aL g bs).map λr=>(if r=true then .tup ys else .tup xs,false)
 |_=>none
end DL
namespace DL
open PySem PySem.Spec PyProof.Rows L2
section
variable {X:Cx}
@[simp] noncomputable def Lo:D->D->OB
 |.tup xs,.tup ys=>if xs.length+ys.length<=sizeLine then some (.tup (xs++ys),false)else none
 |_,_=>none
end
section
variable {X:Cx}
@[simp] def Iu:List D->OB
 |[d,.tup [.ty n,.ty m]]=>if GI d=true then none else if n = "list"/\m = "tuple" then some (.bl (ia d == "list" || ia d == "tuple"),false)else none
 |_=>none
end
@[simp] noncomputable def gT:D->Option bu
 |.int i=>some (.inl i)
 |.str x=>some (.inr x)
 |_=>none
theorem pD {K:Frag}{B:Hp}{v:V}{d:D}{k:bu}(i:Is K B v d)(e:gT d=some k):v=kV k:=by
 cases i<;>simp only[gT]at e<;>cases e<;>rfl
noncomputable def aV {κ:Type}[DecidableEq κ]:List κ->List D->κ->Option D
 |k'::ks,d::ds,k=>if k'=k then some d else aV ks ds k
 |_,_,_=>none
theorem nc {κ:Type}[DecidableEq κ]{K:Frag}{B:Hp}(k:κ):∀ {ks:List κ}{vs:List V}{ds:List D},ks.length=vs.length->IsL K B vs ds ->
  (∃v d,gZ (ks.zip vs) k=some v/\aV ks ds k=some d/\Is K B v d)∨(gZ (ks.zip vs) k=none/\aV ks ds k=none)
 |[],vs,ds,_,_=>.inr ⟨by cases vs<;>rfl,by cases ds<;>rfl⟩
 |k'::ks,[],_,h,_=>by simp at h
 |k'::ks,v::vs,_,h,.cons i is=>by
  rw[List.zip_cons_cons];unfold aV;by_cases e:k'=k
  ·rw[if_pos e];exact .inl ⟨v,_,jC (p:=(k',v)) e,rfl,i⟩
  ·rw[if_neg e,jD (p:=(k',v)) e];exact nc k (by simpa using h) is
section
variable {X:Cx}{o e i:Expr}{pos:Pos}
@[simp] def uN:D->D->OB
 |.dk ks vs,y=>(gT y).map λk=>((aV ks vs k).getD .non,false)
 |_,_=>none
theorem sZ {dO cC:Pos}{U fe:FE}(hu:X.A.units+1<cLine)(ho:JE X o U)(he:JE X e fe)(m:M1 X o "get" dO e cC):JE X (.Call (.Attribute o "get" dO) [e] [] cC) (f2 uN U fe):=by
 refine PE.to (rN hu ho he m) λσ H Q q=>?_;obtain⟨B,ρ,d,bb,sB,r,g,q⟩:=q;obtain⟨x,ex,g⟩:=oX g;obtain⟨y,ey,g⟩:=oX g;refine⟨B,ρ,x.1,x.2,sB,r,ex,λv H1 N1 M i1 ff=>?_⟩;obtain⟨xd,xb⟩:=x;cases i1 with
 |@dk a ks vs ds ob h hl hs=>
  simp only[uN]at g;obtain⟨k,hk,g⟩:=oY g;cases g
  refine⟨a,rfl,.inl ⟨_,_,.inl (M.nh _ _ h)⟩,N1,ρ,y.1,y.2,M.nh,r.mono M.bn,ey,λv2 H2 N2 G i2 _=>?_⟩;have hv:=pD i2 hk;subst hv;refine⟨gZ (ks.zip vs) k,.inl ⟨_,k,_,.inl (G.nh _ _ (G.bn _ _ h)),rfl,rfl⟩,?_⟩;have O:=hs.mono G.bn;rcases nc k hl O with⟨v,d',T,e2,i3⟩|⟨T,e2⟩
  ·rw[T];rw[e2]at q;exact(q.into (M.trans G)).one G.nh i3
  ·rw[T];rw[e2]at q;exact(q.into (M.trans G)).one G.nh .non
 |_=>simp[uN]at g
@[simp] def AV:D->D->OB
 |.dk ks vs,y=>(gT y).bind λk=>(aV ks vs k).map λd=>(d,false)
 |_,_=>none
theorem uP {T fi:FE}(hu:X.A.units+1<cLine)(U:JE X o T)(hi:JE X i fi)(hs:El i):JE X (.Subscript o i pos) (f2 AV T fi):=by
 refine PE.to (B3 hu U hi hs) λσ H Q q=>?_;obtain⟨B,ρ,d,bb,sB,r,g,q⟩:=q;obtain⟨x,ex,g⟩:=oX g;obtain⟨y,ey,g⟩:=oX g;refine⟨B,ρ,x.1,x.2,sB,r,ex,λv H1 N1 M i1 ff=>?_⟩;obtain⟨xd,xb⟩:=x;cases i1 with
 |@dk a ks vs ds ob h hl O=>
  simp only[AV]at g;obtain⟨k,hk,g⟩:=oX g;obtain⟨d0,hd,g⟩:=oY g;cases g
  refine⟨N1,ρ,y.1,y.2,M.nh,r.mono M.bn,ey,λv2 H2 N2 G i2 _=>?_⟩;have hv:=pD i2 hk;subst hv;rcases nc k hl (O.mono G.bn)with⟨v,d',e1,e2,i3⟩|⟨_,e2⟩
  ·rw[hd]at e2;cases e2
   exact⟨a,v,rfl,.inl ⟨_,k,_,.inl (G.nh _ _ (G.bn _ _ h)),rfl,e1.symm⟩,(q.into (M.trans G)).one G.nh i3⟩
  ·rw[hd]at e2;cases e2
 |_=>simp[AV]at g
@[simp] def Pd:D->D->OB
 |y,.dk ks vs=>(gT y).map λk=>(.bl (aV ks vs k).isSome,false)
 |_,_=>none
@[simp] def kP:D->D->OB
 |y,.dk ks vs=>(gT y).map λk=>(.bl (!(aV ks vs k).isSome),false)
 |_,_=>none
theorem yx {κ:Type}[DecidableEq κ]{K:Frag}{B:Hp}{k:κ}{ks:List κ}{vs:List V}{ds:List D}(hl:ks.length=vs.length)(hs:IsL K B vs ds):(gZ (ks.zip vs) k).isSome=(aV ks ds k).isSome:=by
 rcases nc k hl hs with⟨v,d,g,e2,_⟩|⟨g,e2⟩
 ·rw[g,e2];rfl
 ·rw[g,e2];rfl
theorem yy {fi O:FE}(hu:X.A.units+1<cLine)(hi:JE X i fi)(T:JE X o O)(hm:behindInMarks .NotIn o=false:=by first|exact j7 _ (by decide) (by decide)|rfl):JT X (.Compare i [.NotIn] [o] pos) (be (f2 kP fi O)):=by
 refine PT.to (DH (xX hu hi T) hm) λσ H Q q=>?_;obtain⟨B,ρ,d,bb,U,r,g,q⟩:=ut q;obtain⟨y,ey,g⟩:=oX g;obtain⟨x,ex,g⟩:=oX g;refine⟨B,ρ,y.1,y.2,U,r,ey,λv2 H1 N1 G i2 _=>⟨N1,ρ,x.1,x.2,G.nh,r.mono G.bn,ex,λv H2 N2 M i1 ff=>?_⟩⟩;obtain⟨xd,xb⟩:=x;cases i1 with
 |@dk a ks vs ds ob h hl hs=>
  simp only[kP]at g;obtain⟨k,hk,g⟩:=oY g;cases g
  have hv:=pD i2 hk;subst hv;refine⟨a,gZ (ks.zip vs) k,rfl,.inl ⟨_,k,_,.inl (M.nh _ _ h),rfl,rfl⟩,?_⟩;rw[yx hl hs];exact(q.into (G.trans M)).one M.nh (.bl _)
 |_=>simp[kP]at g
end
noncomputable def bK {κ:Type}[DecidableEq κ](ks:List κ)(k:κ):List κ:=if k∈ks then ks else ks++[k]
noncomputable def bE {κ α:Type}[DecidableEq κ](ks:List κ)(xs:List α)(k:κ)(x:α):List α:=if k∈ks then List.zipWith (λk' g=>if k'=k then x else g) ks xs else xs++[x]
theorem wZ {κ:Type}[DecidableEq κ](k:κ):∀ {ks:List κ}{vs:List V},ks.length=vs.length->((ks.zip vs).any λkv=>decide (kv.1=k))=decide (k∈ks)
 |[],_,_=>by simp
 |k'::ks,[],h=>by simp at h
 |k'::ks,v::vs,h=>by
  have g:=wZ k (ks:=ks) (vs:=vs) (by simpa using h);rw[List.zip_cons_cons,List.any_cons,g];by_cases e:k'=k
  ·simp[e]
  ·have G:¬k=k':=λz=>e z.symm;simp[e,G]
theorem xa {κ:Type}[DecidableEq κ](k:κ)(v:V):∀(ks:List κ)(vs:List V),(ks.zip vs).map (λkv=>if kv.1=k then (kv.1,v)else kv)=ks.zip (List.zipWith (λk' g=>if k'=k then v else g) ks vs)
 |[],_=>by simp
 |_::_,[]=>by simp
 |k'::ks,w::vs=>by
  rw[List.zip_cons_cons,uZ,xa k v ks vs,List.zipWith_cons_cons,List.zip_cons_cons];by_cases e:k'=k
  ·simp[e]
  ·simp[e]
theorem qU {κ:Type}[DecidableEq κ]{ks:List κ}{vs:List V}(hl:ks.length=vs.length)(k:κ)(v:V):jB (ks.zip vs) k v=(bK ks k).zip (bE ks vs k v):=by
 unfold jB bK bE;rw[wZ k hl];by_cases h:k∈ks
 ·rw[if_pos (decide_eq_true h),if_pos h,if_pos h,xa]
 ·rw[if_neg (by simpa using h),if_neg h,if_neg h,List.zip_append hl];rfl
theorem lY {κ α:Type}[DecidableEq κ]{ks:List κ}{xs:List α}(hl:ks.length=xs.length)(k:κ)(x:α):(bK ks k).length=(bE ks xs k x).length:=by
 unfold bK bE;split<;>simp[hl]
theorem IsL.zipWith {κ:Type}[DecidableEq κ]{K:Frag}{B:Hp}{k:κ}{v:V}{d:D}(i:Is K B v d):∀ {ks:List κ}{vs:List V}{ds:List D},IsL K B vs ds->IsL K B (List.zipWith (λk' g=>if k'=k then v else g) ks vs) (List.zipWith (λk' g=>if k'=k then d else g) ks ds)
 |[],_,_,_=>by simpa using IsL.nil
 |_::_,_,_,.nil=>by simpa using IsL.nil
 |k'::ks,_,_,.cons h t=>by
  rw[List.zipWith_cons_cons,List.zipWith_cons_cons];refine .cons ?_ (IsL.zipWith i t);by_cases e:k'=k
  ·rw[if_pos e,if_pos e];exact i
  ·rw[if_neg e,if_neg e];exact h
theorem IsL.put {κ:Type}[DecidableEq κ]{K:Frag}{B:Hp}{k:κ}{v:V}{d:D}(i:Is K B v d){ks:List κ}{vs:List V}{ds:List D}(h:IsL K B vs ds):IsL K B (bE ks vs k v) (bE ks ds k d):=by
 unfold bE;split
 ·exact h.zipWith i
 ·exact h.append (.cons i .nil)
section
variable {K:Frag}{E:Ends}{σ:St}{H:Hp}
noncomputable def xc (i:Nat):FS:=λρ=>some (.nx (ρ.set i (some (.dk [] [],true))))
noncomputable def Af (i:Nat):FS:=λρ=>some (.nx (ρ.set i (some (.dt [] [],true))))
theorem cJ.newBox (s:cJ K B0 H0 N H σ ρ)(i:Nat)(hp:H p=none)(hb:∀C,Bx K C ob dd):cJ K B0 H0 (upd N p ob) (upd H p ob) (σ.set i (some (.ref p))) (ρ.set i (some (dd,true))):=by
 have x:=Ext.laid (o:=ob) s.ext.nh hp;have s1:=s.grow x;have g:N p=none:=s.ext.nh.free hp;have G:¬own σ ρ p:=λz=>by obtain⟨O,⟨q,_⟩,_⟩:=s.owned z;rw[g]at q;cases q
 have c:aA (cD N (own σ ρ)) (cD (upd N p ob) (λb=>own σ ρ b∨b=p)):=cR λb u e q=>⟨x.bn _ _ e,λz=>z.elim q λz=>by subst z;rw[g]at e;cases e⟩;refine s1.bindOwn aq (s.ext.hh.free hp) (λj e q z=>G ⟨j,e,q,z⟩) (λj e _ q=>?_) (λj e _ q=>?_) (hb _)
 ·obtain⟨w,h1,h2⟩:=s.sh j e q;exact⟨w,h1,h2.mono c⟩
 ·obtain⟨M,o',h1,h2,_,h4⟩:=s.ow j e q;exact⟨M,o',h1,x.bn _ _ h2,h4.mono c⟩
theorem Ag (q:ja K (xc i) E σ H):xJ zl (gO i) E σ H:=by
 obtain⟨B0,H0,ρ,r,⟨N,s⟩,e,p⟩:=q;cases e
 exact λa ob ha=>p _ _ ⟨_,s.newBox i ha λ_=>.dk (ks:=[]) (vs:=[]) rfl .nil⟩
theorem Ah (q:ja K (Af i) E σ H):xJ zm (gO i) E σ H:=by
 obtain⟨B0,H0,ρ,r,⟨N,s⟩,e,p⟩:=q;cases e
 exact λa ha=>p _ _ ⟨_,s.newBox i ha λ_=>.dt (ks:=[]) (vs:=[]) rfl .nil⟩
def ng (i:Nat)(G M:FE):FS:=λρ=>match ρ[i]? with
 |some (some (.dk ks vs,true))=>(M ρ).bind λv=>(G ρ).bind λk=>(gT k.1).bind λg=>if aT v.1=true/\ks.length<sizeLine then some (.nx (ρ.set i (some (.dk (bK ks g) (bE ks vs g v.1),true))))else none
 |_=>none
theorem Ai {i:Nat}{g G:FE}(q:ja K (ng i g G) E σ H):zj (xI i) (tD K g) (tD K G) E σ H:=by
 obtain⟨B0,H0,ρ,r,⟨N,s⟩,e,p⟩:=q;unfold ng at e;split at e
 ·rename_i ks ds ei;obtain⟨v,O,e⟩:=oX e;obtain⟨k,ek,e⟩:=oX e;obtain⟨T,hk,e⟩:=oX e;split at e
  ·rename_i hx;cases e
   refine⟨N,ρ,v.1,v.2,s.ext.nh,s.rep,O,λv1 H1 N1 U i1 _=>?_⟩;have s1:=s.grow U;obtain⟨a,o,h1,h2,h3,h4⟩:=s1.ow i _ ei;refine⟨.ref a,h1,N1,ρ,k.1,k.2,s1.ext.nh,s1.rep,ek,λv2 H2 N2 M i2 _=>?_⟩;have s2:=s1.grow M;have hv:=pD i2 hk;subst hv;obtain⟨a',o',k1,k2,k3,k4⟩:=s2.ow i _ ei;rw[h1]at k1;cases k1
   cases k4 with
   |@dk ks vs ds hl h5 ob=>
    refine⟨a,rfl,.inl ⟨_,T,_,s2.ext.nh _ _ k2,rfl,?_,λPr=>?_⟩⟩
    ·rw[List.length_zip];omega
    ·rw[qU hl];exact p σ _ ⟨_,s2.writeB ei h1 (.dk (lY hl _ _) (h5.put (s2.flat (i1.mono M.bn) hx.1)))⟩
  ·cases e
 ·cases e
end
section
variable {X:Cx}{pos:Pos}{e k:Expr}
theorem xf (g:X.N.Nodup)(hi:X.N[i]? = some x:=by rfl)(hx:AQ X.env.scope x:=by first|exact Or.inl rfl|exact Or.inr rfl)(hs:swapsWith (.Dict [] [] dp) (some (.Name x p)) pos.line X.env=pure false:=by rfl)
  (hf:X.fn x=true∨X.env.scope.names.lookup x=some .local:=by first|exact .inl rfl|exact .inr rfl):JS X (.Assign [.Name x p] (.Dict [] [] dp) pos) (xc i):=PS.to (qo g hi hx zn hs hf) λ_ _ _ q=>Ag q
theorem Cm (g:X.N.Nodup)(hi:X.N[i]? = some x:=by rfl)(hx:AQ X.env.scope x:=by first|exact Or.inl rfl|exact Or.inr rfl)(hs:swapsWith (.Dict [] [] dp) (some (.Name x p)) pos.line X.env=pure false:=by rfl)
  (hf:X.fn x=true∨X.env.scope.names.lookup x=some .local:=by first|exact .inl rfl|exact .inr rfl):JS X (.Assign [.Name x p] (.Dict [] [] dp) pos) (Af i):=PS.to (qo g hi hx zo hs hf) λ_ _ _ q=>Ah q
theorem xg (hu:X.A.units+1<cLine)(hv:JE X e fv)(hk:JE X k fk)(M:X.N[i]? = some y:=by rfl)(g:yS X.env.scope y:=by first|exact Or.inl rfl|exact Or.inr (Or.inl rfl)|exact Or.inr (Or.inr rfl))(hd:(y == ("__debug__" : Str))=false:=by decide)
  (G:(y == ("__classdict__" : Str))=false:=by decide) (hs:swapsWith e (some (.Subscript (.Name y py) k pt)) pos.line X.env=pure false:=by rfl):JS X (.Assign [.Subscript (.Name y py) k pt] e pos) (ng i fk fv) :=
 PS.to (wj hu (jh M g hd G) hk hv hs) λ_ _ _ q=>Ai q
end
section
variable {prog:Program}{w:World}{A:Around}{E:Value->Shared->Prop}{s:Shared}
abbrev EN (h:Heap)(z TI TO g:Addr)(f:Bool):Prop:=h.get? z=some { cls:=.type "zip",dict:=none,data:=.fields #[rawInt g,.bool f,.bool false,.ref TI,.ref TO],slots:=#[] }
end
def Lp (k1 k2:Bool)(z TI TO G M O T S:Addr)(i:Nat)(h:Heap):Prop :=
 IsPair h TI (.ref G) (.ref M)/\wF k1 h G O i/\wF k2 h M T i/\((IsZip h z TI TO .none/\∃a b,IsPair h TO a b)∨∃g f U oO,EN h z TI TO g f/\h.get? g=some U/\g∉[z,TI,TO,G,M]/\g≠S/\h.get? TO=some oO)
section
variable {prog:Program}{w:World}{A:Around}{E:Value->Shared->Prop}{s:Shared}{k1 k2:Bool}{z TI TO i1 i2 l1 l2 S:Addr}{j:Nat}{xs ys:Array Value}
theorem Lp.ty (st:Lp k1 k2 z TI TO i1 i2 l1 l2 S j h):∃o,h.get? z=some o/\o.cls=.type "zip":=by
 obtain⟨_,_,_,g⟩:=st;rcases g with⟨b1,_⟩|⟨G,f,M,O,b1,_⟩
 ·exact⟨_,b1,rfl⟩
 ·exact⟨_,b1,rfl⟩
end
theorem nj (h:H a=none):aA H (upd H a o):=λb u e=>by rw[ar (aD e h)];exact e
@[simp] def Pe (fa g:FE):FE:=λρ=>(Jo fa g ρ).map λds=>(.lst ds,true)
end DL
namespace DL
open PySem PySem.Spec PyProof.Rows
theorem qV:typeLookup (.type "list") "keys" = pure none:=by rw[typeLookup_type,builtinLookup_eq_fast];kernel_rfl
theorem yz 
  (hx:s.heap.get? a=some { cls:=.type "list",dict:=none,data:=.seq xs k,slots:=sl }) (O:A.handled=none)
  (h:∀h' tk,(∀b o,s.heap.get? b=some o->h'.get? b=some o)->Q none { s with heap:=h',toks:=tk }):
  wpAny (model prog w) A (getAttr? (.ref a) "keys") Q E s:=by
 obtain⟨hp,g,d,tk,os⟩:=s;have M:∀G,(⟨hp,g,d,G,os⟩:Shared).TypeIs (.ref a) "list":=λ_=>⟨_,hx,rfl⟩;have f1:=sub_AttributeError;have f3:=PySem.F.slot_list_getattribute.lookup;have f4:=PySem.F.slot_list_getattribute.bind (.ref a);have f5:=am_list_getattr_none;unfold getAttr? getAttrBy? getAttrBy;repeat (any_goals (first|assumption|exact M _|((with_reducible show wpAny _ _ (call (Value.builtin "list.__getattribute__") _ _) _ _ _);refine call_meets PySem.F.slot_list_getattribute (M _) am_entry_list_getattribute (PySem.F.args_list_getattribute_2 _ _) (meets_getattribute_miss_list a xs k sl "keys" _ qV (by decide) (by decide)) ⟨hx,O,λh' G e hx'=>?_⟩)|wp_step))
 obtain⟨t',T,he⟩:=hx'.there;show wpAny _ _ (getattributeRaised _ _ _ _ _ _ _) _ _ _;unfold getattributeRaised;repeat (any_goals (first|assumption|wp_step))
 exact h _ _ hx'.of.keeps
end DL
namespace DL
open PySem PySem.Spec PyProof.Rows L2
def fY:List D->Option (List (bu×D))
 |[]=>some []
 |.tup [k,v]::r=>(gT k).bind λg=>(fY r).map λl=>(g,v)::l
 |_=>none
noncomputable def jT (a:List bu×List D)(p:bu×D):List bu×List D:=(bK a.1 p.1,bE a.1 a.2 p.1 p.2)
noncomputable def aU (l:List (bu×D)):List bu×List D:=l.foldl jT ([],[])
theorem js (l:List (bu×D))(p:bu×D):aU (l++[p])=jT (aU l) p:=by unfold aU;rw[List.foldl_append];rfl
theorem nn:∀ {ds:List D}{l:List (bu×D)},fY ds=some l->l.length=ds.length
 |[],l,h=>by simp[fY]at h;subst h;rfl
 |d::r,l,h=>by
  unfold fY at h;split at h
  ·rename_i h0;cases h0
  ·rename_i k v g h0;cases h0
   obtain⟨G,_,h⟩:=oX h;obtain⟨M,h1,rfl⟩:=oY h;simp[nn h1]
  ·cases h
theorem np:∀ {ds:List D}{l:List (bu×D)}{i:Nat}{d:D},fY ds=some l->ds[i]? = some d->∃k v g,d=.tup [k,v]/\gT k=some g/\l[i]? = some (g,v)
 |[],l,i,d,_,h=>by simp at h
 |d0::r,l,i,d,h,hi=>by
  unfold fY at h;split at h
  ·rename_i h0;cases h0
  ·rename_i k v G h0;cases h0
   obtain⟨g,h2,h⟩:=oX h;obtain⟨M,h1,rfl⟩:=oY h;cases i with
   |zero=>simp at hi;subst hi;exact⟨k,v,g,rfl,h2,rfl⟩
   |succ i=>simp only[List.getElem?_cons_succ]at hi ⊢;exact np h1 hi
  ·cases h
theorem jU (l:List (bu×D)):∀a:List bu×List D,a.1.length=a.2.length->(l.foldl jT a).1.length=(l.foldl jT a).2.length/\(l.foldl jT a).1.length<=a.1.length+l.length:=by
 induction l with
 |nil=>intro a h;exact⟨h,vT _⟩
 |cons p l g=>
  intro a h;have h1:(jT a p).1.length<=a.1.length+1:=by
   show(bK _ _).length<=_;unfold bK;split<;>simp
  have:=g (jT a p) (lY h _ _);rw[List.foldl_cons,vE];exact⟨this.1,by omega⟩
theorem y0 (l:List (bu×D)):(aU l).1.length=(aU l).2.length/\(aU l).1.length<=l.length:=by
 have:=jU l ([],[]) rfl;exact⟨this.1,vR this.2 (by simp)⟩
theorem pE:entryFor table "dict.update.loop" = some Builtin.«dict.update.loop»:=entryFor_of_tree (by kernel_rfl)
theorem iK:plainId "dict.update.loop" = true:=by decide +kernel
section
variable {X:Cx}{aa:List (Addr×Obj)}{σ:St}{B H0:Hp}{A:Around}{R:Result->Shared->Prop}{it l d:Addr}{us:List V}{ds:List D}{gu:List (bu×D)}
theorem uQ (hA:A.handled=none)(nl:l≠it)(nd:d≠it)(hl:eK X.K B l us)(il:IsL X.K B us ds)(hp:fY ds=some gu)
  (hR:∀g N vs ob s',Inv X aa σ (upd g d (.dK ((aU gu).1.zip vs) ob)) s'->g d=none->Ext B N H0 g->(aU gu).1.length=vs.length->IsL X.K N vs (aU gu).2->R (.ok (.ret .none)) s'):
  ∀(k i:Nat)(tk:Nat)(s:Shared)(g N:Hp)(vs:List V)(ob:Obj),ds.length - i=k->i<=ds.length->Inv X aa σ (upd g d (.dK ((aU (gu.take i)).1.zip vs) ob)) s->g d=none->Ext B N H0 g->k6 X aa (upd g d (.dK ((aU (gu.take i)).1.zip vs) ob)) it ->
   s.heap.IsListIter it l i->(aU (gu.take i)).1.length=vs.length->IsL X.K N vs (aU (gu.take i)).2 ->
   codeAny (model X.prog X.w) A (.builtin "dict.update.loop" ⟨[.ref d,.ref it,.int i tk,.none],[]⟩) R s:=by
 have n1:=il.length;have n2:=nn hp;intro k;induction k with
 |zero=>
  intro i tk s g N vs ob hk hi I hc G fp st hz hv;have Fp:i=ds.length:=by omega
  have sm:aA B (upd g d (.dK ((aU (gu.take i)).1.zip vs) ob)):=(G.bn.trans G.nh).trans (nj hc);obtain⟨its,r1,p1,z1⟩:=I.list (sm.seq hl);have e1:=r1.length;refine codeAny_builtin pE ?_;rw[Around.under_plainId iK _];show wpAny _ A.in1 (pyNext (.ref it)>>=_) _ _ s;refine wX (wpAny_pyNext_list_end (A:=A.in1) hA st p1.isList (by simp;omega) λh' D6=>?_);show wpAny _ _ (Builtin.Dict.addKeywords d []>>=_) _ _ _;refine wX (wY (wY ?_));have U:=qJ (t':=s.toks) (h':=h') (ch:=[it]) I (λb hb=>by rw[uU hb];exact fp) λb o hb e=>D6 b o (λq=>hb (by simp[q])) e;rw[Fp,←n2,List.take_length]at U hz hv;exact hR g N vs ob _ U hc G hz hv
 |succ k ih=>
  intro i tk s g N vs ob hk hi I hc G fp st hz hv;have O:i<ds.length:=by omega
  have sm:aA B (upd g d (.dK ((aU (gu.take i)).1.zip vs) ob)):=(G.bn.trans G.nh).trans (nj hc);obtain⟨its,r1,p1,z1⟩:=I.list (sm.seq hl);obtain⟨kd,vd,M,ed,ek,el⟩:=np hp (vU O);obtain⟨x,hx,ix⟩:=il.get (vU O);rw[ed]at ix;cases ix with
  |@tup T xs _ hT hxs=>
   cases hxs with
   |cons ik r=>
    cases r with
    |cons iv r=>
     cases r
     rename_i xk xv;have OD:=pD ik ek;subst OD;obtain⟨u,hu,ru⟩:=r1.get hx;cases (show u=Value.ref T from ru)
     refine codeAny_builtin pE ?_;rw[Around.under_plainId iK _];show wpAny _ A.in1 (pyNext (.ref it)>>=_) _ _ s;refine wX (wpAny_pyNext_list_item (A:=A.in1) st p1.isList (x:=.ref T) (by simpa using hu) λh' HG hs=>?_);have U:=qJ (t':=s.toks) (h':=h') (ch:=[it]) I (λb hb=>by rw[uU hb];exact fp) λb o hb e=>hs.extBut b o (λq=>hb (by simp[q])) e;obtain⟨ps,r2,p2,z2⟩:=U.tuple (aP sm hT);obtain⟨uk,uv,rfl,rk,rv⟩:=r2.two;have OE:Shared.TypeIs { s with heap:=h' } (.ref T) "tuple":=by obtain⟨o,e,c,_⟩:=p2;exact⟨o,e,c⟩
     dsimp only;refine wX (wpAny_holding (wX (wpAny_tryCatch ?_)));unfold Builtin.Dict.pairItems;refine wX (wpAny_typeOf OE ?_);obtain⟨oT,eT,cT,nT,dT⟩:=p2;rw[if_pos (by decide)];refine wX (wpAny_seqItems eT dT (wY ?_));show wpAny _ _ (holding [uk,uv] (dictSet d uk uv)) _ _ _;obtain⟨zz,Kl,OF,Mm,dd⟩:=rK U.hok (a:=d) aq;have OG:OF.length<=sizeLine:=by rw[←Mm.length];exact zz
     have nk:((aU (gu.take i)).1.zip vs).length<sizeLine:=by
      have a1:=(y0 (gu.take i)).2;have a2:=z1;rw[List.length_take]at a1;rw[List.length_zip];omega
     refine wpAny_holding (wpAny_dictSet_pairs (hsz:=OG) (oR rk) dd λh2 dd2 IN=>?_);have D5:(jB ((aU (gu.take i)).1.zip vs) M xv).length<=sizeLine:=by have:=hG ((aU (gu.take i)).1.zip vs) M xv;omega
     obtain⟨Mn,IH⟩:∃q,h2.get? d=some q:=let ⟨q,_,_,hq,_⟩:=dd2;⟨q,hq⟩;have I2:=q8 (t':=s.toks+1) U (a:=d) (ob:=.dK (jB ((aU (gu.take i)).1.zip vs) M xv) Mn) (by rw[aq];exact True.intro) IN ⟨_,IH⟩ (zi D5 Kl (Mm.put M rv) dd2 IH);rw[Bc,qU hz]at I2;have et:gu.take (i+1)=gu.take i++[(M,vd)]:=by rw[List.take_add_one,el];rfl
     have Mo:(aU (gu.take (i+1))).1=bK (aU (gu.take i)).1 M:=by rw[et,js];rfl
     have OH:(aU (gu.take (i+1))).2=bE (aU (gu.take i)).1 (aU (gu.take i)).2 M vd:=by rw[et,js];rfl
     refine wY ⟨plainId_quiet iK _,?_⟩;refine ih (i+1) 0 _ g N (bE (aU (gu.take i)).1 vs M xv) Mn (by omega) O (by rw[Mo];exact I2) hc G ?_ ?_ ?_ ?_
     ·obtain⟨f0,f1⟩:=fp;refine⟨?_,f1⟩;rw[ar nd.symm]at f0 ⊢;exact f0
     ·exact HG.at λo e=>(IN.2 it nd.symm).trans e
     ·rw[Mo];exact lY hz _ _
     ·rw[OH];exact hv.put (iv.mono G.bn)
end
@[simp] def gH:List D->OB
 |[.lst ds]=>(fY ds).map λg=>(.dk (aU g).1 (aU g).2,false)
 |_=>none
theorem EO:bootBuiltins "dict" = some (.type "dict"):=by decide +kernel
section
variable {X:Cx}
theorem EQ (O:X.calm=true):bB X (.type "dict") (zp X.K gH):=by
 intro aa s σ H xs us Q I r h;obtain⟨B,Ps,d0,bb,sB,i0,M,q⟩:=h;cases i0 with
 |nil=>simp[gH]at M
 |cons i1 i2=>
  cases i2 with
  |cons _ _=>cases i1<;>simp[gH]at M
  |nil=>
   cases i1<;>try (simp[gH]at M;done)
   rename_i l ws ds hl il;simp only[gH]at M;obtain⟨T,hp,M⟩:=oY M;cases M
   obtain⟨u,rfl,rx⟩:=gP r;cases rx
   have hA:X.A.handled=none:=I.ok.hd O;refine callType_codes (Q₁:=λobj G=>obj=.ref s.heap.objs.size/\G={ s with heap:=s.heap.push { cls:=.type "dict",data:=.dict #[] } }) PySem.F.kt_called_dict (PySem.F.kt_typeCall_dict_1 _) PySem.F.entry_dict_init (kt_code_dict_new _ ⟨rfl,rfl⟩) ?_;rintro obj G ⟨rfl,rfl⟩;have I1:Inv X aa σ (upd H s.heap.objs.size (.dK [] { cls:=.type "dict",data:=.dict #[] })) { s with heap:=s.heap.push { cls:=.type "dict",data:=.dict #[] } }:=I.laid (t':=s.toks) (λb o e=>vZ _ e) (vT _) (rM s.heap I.big);have U:H s.heap.objs.size=none:=I.fresh;have hT:Shared.TypeIs { s with heap:=s.heap.push { cls:=.type "dict",data:=.dict #[] } } (.ref s.heap.objs.size) "dict":=⟨_,vY _ rfl,rfl⟩;refine⟨hT,PySem.F.args_dict_init_2 _ _,?_⟩;unfold Builtin.«dict.__init__»;refine wX ?_;unfold Builtin.Dict.selfAndRest;refine wX (wpAny_notOrdered_dict hT ?_);show wpAny _ _ (pure (s.heap.objs.size,[Value.ref l])) _ _ _;refine wY ?_;show wpAny _ _ (Builtin.Dict.updateFrom "dict.__init__" s.heap.objs.size (.ref l) [] .none) _ _ _;unfold Builtin.Dict.updateFrom;have sm:aA B (upd H s.heap.objs.size (.dK [] { cls:=.type "dict",data:=.dict #[] })):=sB.trans (nj U);obtain⟨its,r1,p1,z1⟩:=I1.list (sm.seq hl);have pl:=p1.isList;obtain⟨ol,nl,g,cl,Mp,dl⟩:=p1;have OI:Shared.TypeIs { s with heap:=s.heap.push { cls:=.type "dict",data:=.dict #[] } } (.ref l) "list":=⟨ol,g,cl⟩;refine wX (wpAny_typeOf OI ?_);rw[if_pos (by decide)];obtain⟨oc,od,oo,os⟩:=ol;simp only at cl Mp dl;subst cl Mp dl;refine wX (yz g (by exact hA) λh' tk hk=>?_);dsimp only[Option.isNone_none];rw[if_pos rfl];have I2:Inv X aa σ (upd H s.heap.objs.size (.dK [] { cls:=.type "dict",data:=.dict #[] })) { s with heap:=h',toks:=tk }:=I1.kept (t':=tk) hk;refine wX (wpAny_rule ?_);refine wX (wpAny_pyIter_list (items:=its.toArray) ⟨_,hk _ _ g,rfl,nl,rfl⟩ ?_);have I3:Inv X aa σ (upd H s.heap.objs.size (.dK [] { cls:=.type "dict",data:=.dict #[] })) { s with heap:=h'.push { cls:=.type "list_iterator",data:=.fields #[.ref l,.int 0 0] },toks:=tk }:=I2.kept (t':=tk) λb o e=>vZ _ e;have ld:s.heap.objs.size<h'.objs.size:=vX (hk _ _ (vY _ rfl));have ll:l<h'.objs.size:=vX (hk _ _ g);refine wY ⟨plainId_quiet iK _,uQ (A:=X.A.in1) (B:=B) (H0:=H) (l:=l) (d:=s.heap.objs.size) (it:=h'.objs.size) hA (vS ll) (vS ld) hl il hp (λHc N vs ob s' I' Fh xt hz hv=>?_) _ 0 0 _ H B [] _ rfl (uO _) I3 U (Ext.refl sB) (I2.fpOk (vT _) (I2.hok.fresh (vT _))) ⟨_,vY _ rfl,rfl,rfl⟩ rfl .nil⟩;refine⟨rfl,.ref s.heap.objs.size,_,I',rfl,?_⟩;have x3:=xt.trans (Ext.laid (o:=.dK ((aU T).1.zip vs) ob) xt.nh Fh);exact q _ _ _ x3 (.dk aq hz (hv.mono (Ext.laid (o:=.dK ((aU T).1.zip vs) ob) xt.nh Fh).bn)) (by simp)
end
@[simp] noncomputable def Lq:FE:=λ_=>none
@[simp] noncomputable def Lr:FA:=λ_=>none
theorem AW (h:n+40<cLine):n+1<cLine:=by omega
@[simp] noncomputable def Jv:D->D->OB
 |.lst ds,.int k=>if 0<=k/\ds.length*k.toNat<=1000/\k<=1000 then some (.lst (List.replicate k.toNat ds).flatten,true)else none
 |_,_=>none
@[simp] def MW (fa g:FE):FE:=λρ=>(fa ρ).bind λx=>if x.2=true then (g ρ).bind λy=>Jv x.1 y.1 else none
def fN:List D->Option (List bu)
 |[]=>some []
 |d::ds=>(gT d).bind λk=>(fN ds).map (k :: ·)
theorem vc {K:Frag}{B:Hp}:∀ {vs:List V}{ds:List D}{ks:List bu},IsL K B vs ds->fN ds=some ks->vs=ks.map kV
 |_,_,ks,.nil,e=>by simp[fN]at e;subst e;rfl
 |_,_,ks,.cons i is,e=>by
  simp only[fN]at e;obtain⟨k,h1,e⟩:=oX e;obtain⟨r,h2,rfl⟩:=oY e;rw[pD i h1,vc is h2];rfl
@[simp] def Aj (G:FE)(fa:FA):FE:=λρ=>(G ρ).bind λx=>(fa ρ).bind λds=>match x.1 with
 |.dt g vs=>if ds.length<=sizeLine then (fN ds).map λk=>((aV g vs k).getD .non,false)else none
 |_=>none
section
variable {X:Cx}{o:Expr}{es:List Expr}{pos:Pos}
theorem Ak {dO cC G:Pos}{M:Nat}{fo:FE}{fa:FA}(hu:X.A.units+1<cLine)(ho:JE X o fo)(ha:JA X es fa)(m:M1 X o "get" dO (.Tuple es M G) cC):JE X (.Call (.Attribute o "get" dO) [.Tuple es M G] [] cC) (Aj fo fa):=by
 refine PE.to (rN hu ho (qp ha) m) λσ H Q q=>?_;obtain⟨B,ρ,d,bb,sB,r,g,q⟩:=q;obtain⟨x,ex,g⟩:=oX g;obtain⟨ds,ey,g⟩:=oX g;refine⟨B,ρ,x.1,x.2,sB,r,ex,λv H1 N1 M i1 ff=>?_⟩;obtain⟨xd,xb⟩:=x;cases i1 with
 |@dt a ks vs Fj h hl hs=>
  simp only at g;split at g
  ·rename_i hz;obtain⟨k,hk,g⟩:=oY g;cases g
   refine⟨a,rfl,.inr ⟨_,.inl (M.nh _ _ h)⟩,N1,ρ,ds,M.nh,r.mono M.bn,ey,λus H2 N2 T i2=>?_⟩;have hv:=vc i2 hk;have U:us.length<=sizeLine:=by rw[i2.length];exact hz
   refine⟨U,λp hp=>?_⟩;have O:=Ext.laid (o:=.tup us) T.nh hp;have OJ:N2 a=some (.dT (ks.zip vs)):=T.bn _ _ h;refine⟨gZ (ks.zip vs) k,.inr ⟨_,k,p,.inl (O.nh _ _ (O.bn _ _ OJ)),rfl,by rw[aq,hv],rfl⟩,?_⟩;have IN:=(hs.mono T.bn).mono O.bn;rcases nc k hl IN with⟨v,d',e1,e2,i3⟩|⟨e1,e2⟩
   ·rw[e1];rw[e2]at q;exact(q.into ((M.trans T).trans O)).one O.nh i3
   ·rw[e1];rw[e2]at q;exact(q.into ((M.trans T).trans O)).one O.nh .non
  ·cases g
 |_=>simp at g
end
section
variable {K:Frag}{E:Ends}{σ:St}{H:Hp}
def pF (i:Nat)(G:FA)(M:FE):FS:=λρ=>match ρ[i]? with
 |some (some (.dt ks vs,true))=>(M ρ).bind λv=>(G ρ).bind λkd=>(fN kd).bind λg=>if aT v.1=true/\ks.length<sizeLine/\kd.length<=sizeLine then some (.nx (ρ.set i (some (.dt (bK ks g) (bE ks vs g v.1),true))))else none
 |_=>none
theorem Al {i:Nat}{G:FA}{M:FE}(q:ja K (pF i G M) E σ H):zj (xI i) (Ec (F1 K G)) (tD K M) E σ H:=by
 obtain⟨B0,H0,ρ,r,⟨N,s⟩,e,p⟩:=q;unfold pF at e;split at e
 ·rename_i ks ds ei;obtain⟨v,ev,e⟩:=oX e;obtain⟨kd,ek,e⟩:=oX e;obtain⟨kk,hk,e⟩:=oX e;split at e
  ·rename_i hx;cases e
   refine⟨N,ρ,v.1,v.2,s.ext.nh,s.rep,ev,λv1 H1 N1 x1 i1 _=>?_⟩;have s1:=s.grow x1;obtain⟨a,o,h1,h2,h3,h4⟩:=s1.ow i _ ei;refine⟨.ref a,h1,N1,ρ,kd,s1.ext.nh,s1.rep,ek,λus H2 N2 O T=>?_⟩;have s2:=s1.grow O;have hv:=vc T hk;refine⟨by rw[T.length];exact hx.2.2,λpp hp=>?_⟩;have U:=Ext.laid (o:=.tup us) s2.ext.nh hp;have g:=s2.grow U;obtain⟨a',o',k1,k2,k3,k4⟩:=g.ow i _ ei;rw[h1]at k1;cases k1
   cases k4 with
   |@dt ks vs ds hl h5=>
    refine⟨a,rfl,.inr ⟨_,kk,pp,g.ext.nh _ _ k2,rfl,by rw[aq,hv],?_,?_⟩⟩
    ·rw[List.length_zip];omega
    ·rw[qU hl];exact p σ _ ⟨_,g.writeB ei h1 (.dt (lY hl _ _) (h5.put (g.flat ((i1.mono O.bn).mono U.bn) hx.1)))⟩
  ·cases e
 ·cases e
end
section
variable {X:Cx}{pos:Pos}{e:Expr}{es:List Expr}
theorem Cn (hu:X.A.units+1<cLine)(hv:JE X e fv)(hk:JA X es fk)(M:X.N[i]? = some y:=by rfl)(g:yS X.env.scope y:=by first|exact Or.inl rfl|exact Or.inr (Or.inl rfl)|exact Or.inr (Or.inr rfl))(hd:(y == ("__debug__" : Str))=false:=by decide)
  (G:(y == ("__classdict__" : Str))=false:=by decide) (hs:swapsWith e (some (.Subscript (.Name y py) (.Tuple es x1 Fi) pt)) pos.line X.env=pure false:=by rfl):JS X (.Assign [.Subscript (.Name y py) (.Tuple es x1 Fi) pt] e pos) (pF i fk fv) :=
 PS.to (wj hu (jh M g hd G) (qp hk) hv hs) λ_ _ _ q=>Al q
end
end DL
namespace DL
open PySem PySem.Spec PySem.W PyProof.Rows L2
section
variable {X:Cx}{a b c:Expr}{p pos:Pos}
noncomputable def ER (lo c:Int)(n:Nat):List D:=(List.range n).map λ(k:Nat)=>.int (lo+(k:Int)*c)
@[simp] def Iv (f g h:FE):FA:=λρ=>(f ρ).bind λx=>(g ρ).bind λy=>(h ρ).bind λz=>match x.1,y.1,z.1 with
 |.int i,.int j,.int c=>if(-1000<=i/\i<=1000/\-1000<=j/\j<=1000)/\(c=1∨c=2∨c=3∨c = -1)then some (ER i c (Builtin.Range.rangeSize i j c).toNat)else none
 |_,_,_=>none
end
end DL
namespace L2
open PySem PySem.Spec PyProof.Rows
noncomputable def Jw (a:Addr)(av:List (bu×V))(ob:Obj):It:=⟨λi H=>H a=some (.dK av ob)/\i<av.length,λi H x H'=>H'=H/\∃k v,av[i]? = some (k,v)/\x=kV k,λi H=>H a=some (.dK av ob)/\av.length<=i⟩
noncomputable def MX (a:Addr)(av:List (bu×V))(ob:Obj):It:=⟨λi H=>H a=some (.dK av ob)/\i<av.length,λi H x H'=>H'=H/\∃k,av[i]? = some (k,x),λi H=>H a=some (.dK av ob)/\av.length<=i⟩
theorem KV.get {av:List (bu×V)}{vs:List (bu×Value)}(r:KV av vs){i:Nat}{k:bu}{x:V}(h:av[i]? = some (k,x)):∃u,vs[i]? = some (k,u)/\aC x u:=by
 unfold KV at r;induction r generalizing i with
 |nil=>simp at h
 |@cons p q ps O hq t g=>
  cases i with
  |zero=>
   cases (show p=(k,x)from vK h)
   obtain⟨G,M⟩:=q;exact⟨M,by rw[show k=G from hq.1];rfl,hq.2⟩
  |succ i=>exact g h
theorem Ha (h:(bH P w).is k u=true):aC (kV k) u:=by
 cases k with
 |inl i=>exact Value.isInt_shape h
 |inr z=>exact Value.isStrOf_shape h
section
variable {P:Program}{w:World}{H:Hp}{h:Heap}{a:Addr}
theorem tj (ok:iW P w H h)(e:H a=some (.dK av ob))(hd:ob.data=.dict es ep):∃vs,KV av vs/\h.DictAt (bH P w) a vs ep:=by
 obtain⟨_,_,vs,r,o,g,G,h1,h2,h3,h4⟩:=rK ok e;rw[uo ok e]at h1;cases h1
 rw[hd]at h3;cases h3
 exact⟨vs,r,ob,es,uo ok e,h2,hd,h4⟩
theorem Co (ok:iW P w H h)(e:H a=some (.dK av ob)):∃es M,ob.data=.dict es M:=by
 obtain⟨_,_,vs,r,o,g,G,h1,h2,h3,h4⟩:=rK ok e;rw[uo ok e]at h1;cases h1
 exact⟨g,G,h3⟩
end
theorem F9 {P:Program}{w:World}{K:Frag}{tg:Expr}(a it:Addr)(av:List (bu×V))(ob:Obj){es:Array DictEntry}{ep:Nat}(hd:ob.data=.dict es ep):Turn P w K tg (MX a av ob) [it] it (λi h=>h.IsValIter it a i av.length ep) where
 mem:=by simp
 obj:=λi h st b hb=>by
  have e:b=it:=by simpa using hb
  subst e;obtain⟨o,e,c,d⟩:=st;exact⟨o,e,λv z=>by rw[d]at z;cases z⟩
 keep:=λi h h' st k=>st.at λo e=>k it (by simp) o e
 item:=by
  intro X M hw O hc i aa s σ H E I hf st T;subst M hw O;obtain⟨U,G⟩:=T;obtain⟨vs,r,m⟩:=tj I.hok U hd;obtain⟨f0,f1,f2,f3,f4,f5⟩:=hf it (by simp);have hl:vs.length=av.length:=(Paired.length r).symm;obtain⟨u,hu,ru⟩:=r.get (k:=av[i].1) (x:=av[i].2) (vU G);refine wpAny_pyNext_values_item (by rw[hl];exact st) m hu λh' g sb=>?_;rw[hl]at g;have I1:Inv X aa σ H { s with heap:=h' }:=I.turned (t':=s.toks) (λb o hb e=>(sb.2 b hb).trans e) f0 f1 f3 f4 f5;obtain⟨o,e,c,d⟩:=id g;exact⟨u,rfl,mn (s:={ s with heap:=h' }) e c d (by decide) ⟨av[i].2,H,I1,ru,⟨rfl,av[i].1,vU G⟩,g,λb hb=>(hf b hb).1⟩⟩
 done:=by
  intro X M hw O hc i aa s σ H E I hf st T;subst M hw O;obtain⟨U,FK⟩:=T;obtain⟨vs,r,m⟩:=tj I.hok U hd;obtain⟨f0,f1,f2,f3,f4,f5⟩:=hf it (by simp);have hl:vs.length=av.length:=(Paired.length r).symm;exact wpAny_pyNext_values_end (I.ok.hd hc) (by rw[hl];exact st) m (List.getElem?_eq_none (by omega)) λh' eb=>⟨rfl,I.turned (t':=s.toks) (λb o hb e=>eb b o hb e) f0 f1 f3 f4 f5⟩
 self:=λ_ _ _ _ _ st h=>wpAny_pyIter_valiter st h
theorem y4 {P:Program}{w:World}{K:Frag}{tg:Expr}(a it:Addr)(av:List (bu×V))(ob:Obj){es:Array DictEntry}{ep:Nat}(hd:ob.data=.dict es ep):Turn P w K tg (Jw a av ob) [it] it (λi h=>h.IsKeyIter it a i av.length ep) where
 mem:=by simp
 obj:=λi h st b hb=>by
  have e:b=it:=by simpa using hb
  subst e;obtain⟨o,e,c,d⟩:=st;exact⟨o,e,λv z=>by rw[d]at z;cases z⟩
 keep:=λi h h' st k=>st.at λo e=>k it (by simp) o e
 item:=by
  intro X O hw T hc i aa s σ H E I hf st U;subst O hw T;obtain⟨hH,G⟩:=U;obtain⟨vs,r,m⟩:=tj I.hok hH hd;obtain⟨f0,f1,f2,f3,f4,f5⟩:=hf it (by simp);have hl:vs.length=av.length:=(Paired.length r).symm;obtain⟨u,hu,ru⟩:=r.get (k:=av[i].1) (x:=av[i].2) (vU G);refine wpAny_pyNext_dict_item (by rw[hl];exact st) m hu λkey h' M g sb=>?_;rw[hl]at g;have I1:Inv X aa σ H { s with heap:=h' }:=I.turned (t':=s.toks) (λb o hb e=>(sb.2 b hb).trans e) f0 f1 f3 f4 f5;obtain⟨o,e,c,d⟩:=id g;exact⟨key,rfl,mn (s:={ s with heap:=h' }) e c d (by decide) ⟨kV av[i].1,H,I1,Ha M,⟨rfl,av[i].1,av[i].2,vU G,rfl⟩,g,λb hb=>(hf b hb).1⟩⟩
 done:=by
  intro X O hw T hc i aa s σ H E I hf st U;subst O hw T;obtain⟨hH,FK⟩:=U;obtain⟨vs,r,m⟩:=tj I.hok hH hd;obtain⟨f0,f1,f2,f3,f4,f5⟩:=hf it (by simp);have hl:vs.length=av.length:=(Paired.length r).symm;exact wpAny_pyNext_dict_end (I.ok.hd hc) (by rw[hl];exact st) m (List.getElem?_eq_none (by omega)) λh' eb=>⟨rfl,I.turned (t':=s.toks) (λb o hb e=>eb b o hb e) f0 f1 f3 f4 f5⟩
 self:=λ_ _ _ _ _ st h=>wpAny_pyIter_keyiter st h
section
variable {X:Cx}{tg:Expr}
def Hb (G:TE):TI:=λσ H R=>G σ H λx g=>∃a av ob,x=.ref a/\g a=some (.dK av ob)/\R (Jw a av ob) g
theorem Cp {o:Expr}{M:TE}(O:PE X o M):PI X tg o (Hb M):=by
 intro aa s σ H R I h;refine bF (O aa s σ H _ I h) λv s1 ⟨x,T,g,U,a,av,ob,ex,G,q⟩=>?_;subst ex;cases U
 obtain⟨es,ep,hd⟩:=Co g.hok G;obtain⟨vs,r,m⟩:=tj g.hok G hd;have hl:vs.length=av.length:=(Paired.length r).symm;refine wpAny_pyIter_dict (rK g.hok G).2.1 m ?_;rw[hl];refine⟨s1.heap.objs.size,[s1.heap.objs.size],_,_,T,rfl,g.kept (t':=s1.toks) λb o e=>vZ _ e,y4 a _ av ob hd,⟨_,vY _ rfl,rfl,rfl⟩,λb hb=>?_,q⟩;have e:b=s1.heap.objs.size:=by simpa using hb
 subst e;exact g.fpOk (vT _) (g.hok.fresh (vT _))
end
end L2
namespace DL
open PySem PySem.Spec PySem.W PyProof.Rows L2
noncomputable def kD:bu->D
 |.inl i=>.int i
 |.inr z=>.str z
theorem He {K:Frag}{B:Hp}(k:bu):Is K B (kV k) (kD k):=by
 cases k with
 |inl i=>exact .int i
 |inr z=>exact .str z
section
variable {K:Frag}{B:Hp}
theorem Cq {a:Addr}{ks:List bu}{vs:List V}{ob:Obj}(h:B a=some (.dK (ks.zip vs) ob))(hl:ks.length=vs.length):my K (Jw a (ks.zip vs) ob) B (ks.map kD):=by
 intro i H s;have hz:(ks.zip vs).length=ks.length:=by rw[List.length_zip];omega
 refine⟨λd ed=>?_,λg=>⟨s _ _ h,by rw[hz];rw[vI]at g;exact g⟩⟩;rw[vB]at ed;obtain⟨k0,ek,rfl⟩:=oY ed;have G:i<ks.length:=(vV ek).1;refine⟨⟨s _ _ h,by rw[hz];exact G⟩,λy M hy=>?_⟩;obtain⟨rfl,k,v,e,rfl⟩:=hy;have:=(List.getElem?_zip_eq_some.mp e).1;rw[ek]at this;cases this
 exact⟨B,.refl s,He _⟩
end
section
variable {X:Cx}{e:Expr}{tg:Expr}
@[simp] noncomputable def Jx (f:FE):FA:=λρ=>(f ρ).bind λx=>match x.1 with|.dk _ ds=>some ds|_=>none
@[simp] noncomputable def ve (f:FE):FA:=λρ=>(f ρ).bind λx=>match x.1 with|.dk ks _=>some (ks.map kD)|_=>none
theorem Cr {f:FE}(h:JE X e f):JI X tg e (ve f):=by
 intro aa s σ H R I q;obtain⟨B,ρ,ds,G,r,M,q⟩:=q;obtain⟨⟨xd,U⟩,ex,es⟩:=oX M;cases xd<;>try (cases es;done)
 cases es
 refine Cp h aa s σ H R I ⟨B,ρ,_,_,G,r,ex,λv O N1 g T _=>?_⟩;cases T with
 |@dk a ks vs ds ob hd hl hs=>exact⟨a,_,ob,rfl,g.nh _ _ hd,q _ O N1 g (Cq hd hl)⟩
end
end DL
namespace DL
open PySem PySem.Spec PyProof.Rows L2
@[simp] abbrev bP (i:Nat)(j:Int):FE:=f2 cw (af i) (fC (.int j))
theorem bz (F:Fn X.prog X.w X.K X.mg X.base k x f)(M:cV j X.A)(ha:JA X (e::es) fa)(hj:k<=j:=by decide)(O:Gl X x:=by rfl)(g:(x == ("__debug__" : Str))=false:=by decide)(he:starEach (e::es) X.env=(false,eval e X.env)::starEach es X.env:=by rfl)(G:(backTo pos (starEach es X.env)).any (·.1)=false:=by rfl):JE X (.Call (.Name x p) (e::es) [] pos) (fA f fa):=wn F (M.mono hj) ha O g he G
theorem Hf (h1:∀y∈scope.names,y.2≠.cell:=by decide +kernel)(h2:scope.kind=.function:=by rfl)(h3:∀y∈scope.names,y.2=.local->scope.names.lookup y.1=some .local:=by decide +kernel)(g:(scope.names.all λy=>!(y.2 == NameKind.free) || (X.env.cells.lookup y.1).isSome)=true:=by rfl):CompSc X scope (cE scope.names X.env.cells []):=Eu h1 h2 h3 g
theorem Ls (h1:N'[j]? = some x)(h2:X.N[i]? = some x)(t:kx X N' scope (cE scope.names X.env.cells []) (j+1) r)(h3:X.env.kindOf x=some .cell∨X.env.kindOf x=some .free:=by exact Or.inl rfl)(h4:(relabel scope X.env).names.lookup x=some .cell∨(relabel scope X.env).names.lookup x=some .free:=by exact Or.inl rfl)(hf:(x,NameKind.free)∈scope.names:=by decide +kernel)(hc:(X.env.cells.lookup x).isSome=true:=by rfl):kx X N' scope (cE scope.names X.env.cells []) j (i::r):=.cons h1 h2 h3 h4 (lS hf hc) t
end DL
namespace DL
open PySem PySem.Spec PySem.W PyProof.Rows L2
def Jy:D->Option (List At)
 |.tup [.int n,.tup es]=>(bO es).map (.i n :: ·)
 |_=>none
def Du:List D->Option (List (List At))
 |[]=>some []
 |d::ds=>(Jy d).bind λa=>(Du ds).map (a :: ·)
@[simp] abbrev Jz:FE->(Env->D->Option D)->FE:=uL Du λ_=>true
end DL
namespace DL
open PySem PySem.Spec PyProof.Rows L2
def Hg:Nat->(List Value->Prop)->Prop
 |0,P=>P []
 |n+1,P=>∀a,Hg n λl=>P (a::l)
theorem ES:∀n P,Hg n P->∀us:List Value,us.length=n->P us
 |0,_,h,[],_=>h
 |n+1,_,h,a::us,e=>ES n _ (h a) us (Nat.succ.inj e)
section
variable {P:Program}{w:World}{K:Frag}{mg:Str->Option Value}{base:Heap}
def KC (K:Frag)(mg:Str->Option Value)(x:Str)(c:D):Prop:=∃u v,mg x=some u/\aC v u/\∀B,Is K B v c
def KD (w:World)(K:Frag)(mg:Str->Option Value)(x:Str)(c:List (Str×D)):Prop:=∃d,mg x=some (.ref d)/\ph K w.params d c
theorem kc_of {x:Str}{c:D}{h:Heap}(X:K.In h)(G:h.Ns mainGlobals mg)(k:∃u v,nsIn K mainGlobals x=some (some u)/\aC v u/\∀B,Is K B v c):KC K mg x c:=let ⟨u,v,e,r⟩:=k;⟨u,v,mg_of X G e,r⟩
theorem kd_of {x:Str}{c:List (Str×D)}{h:Heap}(X:K.In h)(G:h.Ns mainGlobals mg)(k:∃d,nsIn K mainGlobals x=some (some (.ref d))/\ph K w.params d c):KD w K mg x c:=let ⟨d,e,r⟩:=k;⟨d,mg_of X G e,r⟩
theorem eU.fqL {x:Str}{st:Stmt}{k:Nat}{O:List D->OB}(F:eU K x st)(B:∃h,K.In h/\h.Ns mainGlobals mg)(g:FS)(N:List Str)(n:Nat)
  (hb:∀ {f:Addr}{cQ:Value}{A:Around}{outer:List PySem.Env}{s:Shared}{H:Hp}{E:XK},N.Nodup->cV k (A.deeper (envOfC x (a7 st) s.heap.objs.size f cQ))->(A.deeper (envOfC x (a7 st) s.heap.objs.size f cQ)).units+40<cLine->(∀c P,PySem.W.tabIn K x=some (c,P)->cQ=.ref c)->o0 (lI tU P w K mg base N x (a7 st) f cQ A outer s H E).nox (bI st) g)
  (S:FnScope N (N.take n) (a7 st):=by refine⟨rfl,rfl,rfl,?_,rfl,?_,?_⟩<;>decide +kernel)
  (M:∀(kV doc pm:Value)(an:Option Addr)(cQ ct:Value)(us:List Value),us.length=(N.take n).length->bindArgs (fnOf x x (dR st) (bI st) (a7 st) .none kV doc pm an cQ ct) ⟨us,[]⟩=pure ((N.take n).zip us):=by
   exact λ_ _ _ _ _ _=>ES _ _ (by(repeat intro);rfl))
  (e:aN g (N.take n).length (N.length - (N.take n).length)=O:=by rfl):
  Fn P w K mg base (k+1) x O:=let ⟨_,X,G⟩:=B;e ▸ F.fnL X G S M λ_ _ _ _ _ _ _ hc T=>hb S.nd T (z8 T) hc
theorem eU.fq {x:Str}{st:Stmt}{k:Nat}{M:List D->OB}(F:eU K x st)(B:∃h,K.In h/\h.Ns mainGlobals mg)(g:FS)(N:List Str)(n:Nat)
  (hb:∀ {f:Addr}{cQ:Value}{A:Around}{outer:List PySem.Env}{s:Shared}{H:Hp}{E:XK},N.Nodup->cV k (A.deeper (envOfC x (a7 st) s.heap.objs.size f cQ))->(A.deeper (envOfC x (a7 st) s.heap.objs.size f cQ)).units+40<cLine->o0 (lI tU P w K mg base N x (a7 st) f cQ A outer s H E).nox (bI st) g)
  (S:FnScope N (N.take n) (a7 st):=by refine⟨rfl,rfl,rfl,?_,rfl,?_,?_⟩<;>decide +kernel)
  (G:∀(kV doc pm:Value)(an:Option Addr)(cQ ct:Value)(us:List Value),us.length=(N.take n).length->bindArgs (fnOf x x (dR st) (bI st) (a7 st) .none kV doc pm an cQ ct) ⟨us,[]⟩=pure ((N.take n).zip us):=by
   exact λ_ _ _ _ _ _=>ES _ _ (by(repeat intro);rfl))
  (e:aN g (N.take n).length (N.length - (N.take n).length)=M:=by rfl):
  Fn P w K mg base (k+1) x M:=F.fqL B g N n (λn r u _=>hb n r u) S G e
end
section
variable {X:Cx}{x:Str}{pos:Pos}
theorem yQ (i:Nat)(g:X.N.Nodup)(hi:X.N[i]? = some x:=by rfl)(hx:AQ X.env.scope x:=by first|exact Or.inl rfl|exact Or.inr rfl)(hf:X.fn x=true∨X.env.scope.names.lookup x=some .local:=by first|exact .inl rfl|exact .inr rfl):PG X (.Name x pos) (gO i):=wd g hi hx hf
theorem FC {fp}(i:Nat)(g:N'.Nodup:=by decide +kernel)(hi:(fT X N' scope cl C s H fp).N[i]? = some x:=by rfl)(hx:AQ (fT X N' scope cl C s H fp).env.scope x:=by exact Or.inl rfl)(hf:(fT X N' scope cl C s H fp).fn x=true∨(fT X N' scope cl C s H fp).env.scope.names.lookup x=some .local:=by first|exact .inl rfl|exact .inr rfl):PG (fT X N' scope cl C s H fp) (.Name x pos) (gO i):=wd g hi hx hf
theorem jV (N':List Str)(hi:JI X tg dP fi)(hc:∀ {C s H fp},JC (fT X N' scope (cE scope.names X.env.cells []) C s H fp) v0 fc)(he:∀ {C s H fp},JE (fT X N' scope (cE scope.names X.env.cells []) C s H fp) rq fe)
  (M:Df X.K nT mh g:=by first|exact rQ (by decide)|exact Dn (by decide)) (O:∀ {C s H fp},PG (fT X N' scope (cE scope.names X.env.cells []) C s H fp) tg g:=by intros;first|exact FC 0|exact qm rfl (dU (FC 0) (dU (FC 1) lQ)))
  (T:kx X N' scope (cE scope.names X.env.cells []) nT cap:=by repeat first|exact .nil rfl|refine Ls rfl rfl ?_)
  (S:CompSc X scope (cE scope.names X.env.cells []):=by exact Hf) (G:X.calm=true:=by rfl)
  (hs:∀x,foldedSetIterable dP X.env x=pure x:=by intro _;rfl):
  JE X (.ListComp rq [⟨tg,dP,v0,0⟩] scope pos) (bR fi nT cap mh fc fe):=BD G S T hi (λ_ _ _ _=>O) M (λ_ _ _ _=>hc) (λ_ _ _ _=>he) hs
theorem tm (N':List Str)(U:X.N.Nodup)(hi:JI X tg dP fi)(hc:∀ {C s H fp},JC (fT X N' scope (cE scope.names X.env.cells []) C s H fp) v0 fc)(he:∀ {C s H fp},JE (fT X N' scope (cE scope.names X.env.cells []) C s H fp) rq fe)
  (M:Df X.K nT mh g:=by first|exact rQ (by decide)|exact Dn (by decide)) (hg:∀ {C s H fp},PG (fT X N' scope (cE scope.names X.env.cells []) C s H fp) tg g:=by intros;first|exact FC 0|exact qm rfl (dU (FC 0) (dU (FC 1) lQ)))
  (cp:kx X N' scope (cE scope.names X.env.cells []) nT cap:=by repeat first|exact .nil rfl|refine Ls rfl rfl ?_)
  (O:X.N[i]? = some y:=by rfl) (hy:X.env.kindOf y=some .local:=by rfl)
  (T:swapsWith (.ListComp rq [⟨tg,dP,v0,0⟩] scope pos) (some (.Name y py)) spos.line X.env=pure true:=by rfl)
  (S:CompSc X scope (cE scope.names X.env.cells []):=by exact Hf) (G:X.calm=true:=by rfl)
  (hs:∀x,foldedSetIterable dP X.env x=pure x:=by intro _;rfl):
  JS X (.Assign [.Name y py] (.ListComp rq [⟨tg,dP,v0,0⟩] scope pos) spos) (aM i (bR fi nT cap mh fc fe)):=BE G U O hy T S cp hi (λ_ _ _ _=>hg) M (λ_ _ _ _=>hc) (λ_ _ _ _=>he) hs
theorem ly (hi:JI X tg dP fi)(G:PG X tg t)(M:BA X.K mh t)(hb:o0 X body g)(hp:PassesOwn (model X.prog X.w) X.A X.env X.xe:=by exact PassesOwn.never)(hc:X.calm=true:=by rfl)
  (hs:∀x,foldedSetIterable dP X.env x=pure x:=by intro _;rfl):JS X (.For tg dP body [] pos) (jF fi mh g):=E3 hp hc hi G M hb hs
theorem Dv (hi:PI X tg dP (Il X.K fi))(G:PG X tg t)(M:BA X.K mh t)(hb:o0 X body g)(hp:PassesOwn (model X.prog X.w) X.A X.env X.xe:=by exact PassesOwn.never)(hc:X.calm=true:=by rfl)
  (hs:∀x,foldedSetIterable dP X.env x=pure x:=by intro _;rfl):JS X (.For tg dP body [] pos) (mz fi mh g):=BJ hp hc hi G M hb hs
end
end DL
namespace DL
open PySem PySem.Spec PySem.W PyProof.Rows L2
section
variable {X:Cx}
@[simp] def Pf:D->D->OB
 |.tup [.int n,.tup xs],.tup [.int m,.tup ys]=>(bO xs).bind λg=>(bO ys).bind λbs=>(aL (.i n::g) (.i m::bs)).map λr=>(.bl (!r),false)
 |_,_=>none
end
section
variable {X:Cx}{es:List Expr}{kt:Nat}{pt:Pos}{e:Expr}
noncomputable def ET (ks:List bu)(ds:List D):List D:=(ks.zip ds).map λx=>.tup [kD x.1,x.2]
@[simp] def Iw (f:FE):FA:=λρ=>(f ρ).bind λx=>match x.1 with|.dk ks ds=>some (ET ks ds)|_=>none
end
noncomputable def Dw:List bu->Option (List Int)
 |[]=>some []
 |.inl n::ks=>(Dw ks).map (n :: ·)
 |.inr _::_=>none
@[simp] def Hh:List D->OB
 |[.dk ks _]=>(Dw ks).bind λns=>if ns.length<64 then some (.lst ((wQ ns).map .int),true)else none
 |_=>none
end DL
namespace DL
open PySem PySem.Spec PyProof.Rows L2
@[simp] abbrev fV (i:Nat)(g:FA):FA:=ab (af i) g
@[simp] abbrev fI (n:Int):FE:=fC (.int n)
@[simp] abbrev fS (s:PySem.Str):FE:=fC (.str s)
section
variable {X:Cx}{es:List Expr}{g:FA}{pos:Pos}
theorem aJ {x:Str}{p:Pos}(i:Nat)(M:JA X es g)(O:X.N[i]? = some x:=by rfl)(hv:yS X.env.scope x:=by first|exact Or.inl rfl|exact Or.inr (Or.inl rfl)|exact Or.inr (Or.inr rfl))(hd:(x == ("__debug__" : Str))=false:=by decide)(G:(x == ("__classdict__" : Str))=false:=by decide)
  (hs:starEach (.Name x p::es) X.env=(false,eval (.Name x p) X.env)::starEach es X.env:=by rfl):JA X (.Name x p::es) (fV i g):=ae (ac i O hv hd G) M hs
theorem de {i:Int}{j:Nat}(G:JA X es g):JA X (.Constant (.int i) j pos::es) (ab (fC (.int i)) g):=ae ao G
theorem aF (F:Fn X.prog X.w X.K X.mg X.base k x f)(O:cV j X.A)(ha:JA X (e::es) g:=by repeat first|exact ai|refine aJ _ ?_|refine ae aw ?_)(hj:k<=j:=by decide)(T:Gl X x:=by rfl)(G:(x == ("__debug__" : Str))=false:=by decide)(he:starEach (e::es) X.env=(false,eval e X.env)::starEach es X.env:=by rfl)(M:(backTo pos (starEach es X.env)).any (·.1)=false:=by rfl):JE X (.Call (.Name x p) (e::es) [] pos) (fA f g):=wn F (O.mono hj) ha T G he M
theorem b7 (he:JE X e f):o0 X [.Return (some e) pos] (br f):=aO (z5 he)
theorem eP {c:Expr}{G:FT}(hc:JT X c G)(he:JE X e f):JS X (.If c [.Return (some e) p] [] pos) (gb G (br f) bA):=fh hc (aO (z5 he)) fg
theorem aQ (i:Nat)(M:X.N[i]? = some x:=by rfl)(hv:yS X.env.scope x:=by first|exact Or.inl rfl|exact Or.inr (Or.inl rfl)|exact Or.inr (Or.inr rfl))(hd:(x == ("__debug__" : Str))=false:=by decide)(G:(x == ("__classdict__" : Str))=false:=by decide):JE X (.Subscript (.Name x p) (.Constant (.int n) j q) pos) (bP i n):=bf (ac i M hv hd G) ao
end
noncomputable def J0 (n:Int)(r:List Int):Int:=r.foldl (λb x=>if x<b then x else b) n
@[simp] def MY:List D->OB
 |[.lst ds]=>match lx ds with
  |some (n::r)=>some (.int (J0 n r),false)
  |_=>none
 |_=>none
@[simp] def M9:D->D->OB
 |.tup xs,.tup ys=>(bO xs).bind λg=>(bO ys).bind λbs=>(aL g bs).map λr=>(.bl (!r),false)
 |_,_=>none
@[simp] def MZ:D->OB
 |.lst ds=>some (.lst ds.reverse,true)
 |_=>none
noncomputable def IW (K:Frag)(g G:Addr):It :=
  ⟨λi H=>∃xs ys x y,eK K H g xs/\eK K H G ys/\xs[i]? = some x/\ys[i]? = some y,
   λi H v H'=>∃T x y,v=.ref T/\H T=none/\H'=upd H T (.tup [x,y])/\(∀xs,eK K H g xs->xs[i]? = some x)/\(∀ys,eK K H G ys->ys[i]? = some y),
   λi H=>∃xs ys,eK K H g xs/\eK K H G ys/\(xs.length<=i∨ys.length<=i)⟩
@[simp] def Lu (fa g:FE):FA:=λρ=>(fa ρ).bind λx=>(g ρ).bind λy=>match x.1,y.1 with
 |.lst xs,.lst ys=>some (GP xs ys)
 |_,_=>none
@[simp] def xh (f:FE)(i:Nat):FS:=λρ=>match ρ[i]? with
 |some (some (.lst ds,true))=>(f ρ).bind λx=>if aT x.1=true then some (.rt (.tup [x.1,.lst ds]) true)else none
 |_=>none
theorem Am {K:Frag}(q:ja K (xh f i) E σ H):Bh (Ec (rC (tD K f) (rC (xI i) Bn))) E σ H:=by
 obtain⟨B0,H0,ρ,r,⟨N,s⟩,e,p⟩:=q;unfold xh at e;split at e
 ·rename_i ds ei;obtain⟨x,ex,e⟩:=oX e;split at e
  ·rename_i hx;cases e
   obtain⟨a,vs,U,z,h1,h2,h3,h4⟩:=s.owL i _ ei;cases z
   refine⟨N,ρ,x.1,x.2,s.ext.nh,s.rep,ex,λv H1 N1 G i1 _=>⟨_,h1,(by decide:2<=sizeLine),λt ht=>?_⟩⟩;have M:=Ext.laid (o:=HO.tup [v,.ref a]) G.nh ht;have O:IsL K (upd N1 t (.tup [v,.ref a])) vs ds:=(h4.mono aZ).mono (G.bn.trans M.bn);have n4:upd N1 t (.tup [v,.ref a]) a=some (.lst vs):=M.bn _ _ (G.bn _ _ h2);have T:IsL K (upd N1 t (.tup [v,.ref a])) [v,.ref a] [x.1,.lst ds]:=.cons (i1.mono M.bn) (.cons (.lst (eK.of n4) O) .nil);refine p _ _ _ (s.ext.trans (G.trans M)) (.tup (ga.of aq) T) λ_=>⟨t,_,rfl,ga.of aq,T,λj es g=>?_⟩;match j,g with
   |0,g=>simp at g;rw[g]at hx;simp at hx
   |1,g=>simp at g;subst g;exact⟨a,vs,rfl,h3,n4,O⟩
  ·cases e
 ·cases e
theorem cJ.forget {K:Frag}(s:cJ K B0 H0 N H σ ρ)(hs:aA H H')(i:Nat)(v:V):cJ K B0 H0 N H' (σ.set i (some v)) (ρ.set i none):=by
 have o:∀a,own (σ.set i (some v)) (ρ.set i none) a->own σ ρ a:=λa q=>by
  rcases lR q with⟨_,d',p⟩|⟨j,_,d',M,O⟩
  ·cases p
  ·exact⟨j,d',M,O⟩
 have c:aA (cD N (own σ ρ)) (cD N (own (σ.set i (some v)) (ρ.set i none))):=cR λa u e q=>⟨e,λz=>q (o a z)⟩;have g:∀ {j:Nat}{e:D}{b:Bool},(ρ.set i none)[j]? = some (some (e,b))->i≠j/\ρ[j]? = some (some (e,b)):=λ{j e b} q=>by
  rcases bg q with⟨_,p⟩|p
  ·cases p
  ·exact p
 refine⟨s.bh,s.tb,⟨s.ext.hh.trans hs,s.ext.bn,s.ext.nh.trans hs,s.ext.new⟩,by simp[s.len],λj e q=>?_,λj e q=>?_,λj k a e f q T h1 h2=>?_⟩
 ·obtain⟨ne,p⟩:=g q;obtain⟨w,h1,h2⟩:=s.sh j e p;exact⟨w,by rw[vC ne];exact h1,h2.mono c⟩
 ·obtain⟨ne,p⟩:=g q;obtain⟨a,o,h1,h2,h3,h4⟩:=s.ow j e p;exact⟨a,o,by rw[vC ne];exact h1,h2,h3,h4.mono c⟩
 ·obtain⟨ne,p⟩:=g q;obtain⟨G,U⟩:=g T;rw[vC ne]at h1;rw[vC G]at h2;exact s.inj j k a e f p U h1 h2
@[simp] noncomputable def J5 (j:Nat):D×Bool->Option (List D)
 | (.tup ds,true)=>match ds[j]? with
  |some (.lst es)=>some es
  |_=>none
 |_=>none
@[simp] def EU (i:Nat)(f:FE)(g:FT)(g1:FS)(G:FT)(j:Nat)(fe:FE)(h2:FS):FS:=λρ=>(f (k9 ρ)).bind λx=>match g (ρ.set i (some (x.1,false))) with
 |some true=>match g1 (ρ.set i (some (x.1,false))) with
  |some (.rt d b)=>some (.rt d b)
  |_=>none
 |some false=>match G (ρ.set i (some (x.1,false))) with
  |some false=>some (.nx (ρ.set i (some (x.1,false))))
  |some true=>(J5 j x).bind λes=>(fe (ρ.set i (some (x.1,false)))).bind λy=>if i<ρ.length/\es.length<sizeLine then h2 (ρ.set i none)else none
  |none=>none
 |none=>none
theorem EV {K:Frag}(q:ja K (EU i f c1 g1 c2 j fe h2) E σ H):yU (xJ (tD K f) (gO i)) (yU (ua (qA K c1) (ja K g1) mm) (ua (qA K c2) (yU (CS (KZ K "list" qy (Gg (Gv K) (xI i) (tC (.int j))) (rC (tD K fe) Bn))) (ja K h2)) mm)) E σ H:=by
 obtain⟨B0,H0,ρ,r,⟨N,s⟩,e,p⟩:=q;obtain⟨x,ex,e⟩:=oX e;refine⟨cD N (own σ ρ),k9 ρ,x.1,x.2,aZ.trans s.ext.nh,s.repH,ex,λv H1 N1 M i1 f1=>?_⟩;obtain⟨s1,c⟩:=s.growH M;have s2:=s1.bind (i:=i) (i1.mono c);show ua (qA K c1) (ja K g1) mm { E with nx:=ua (qA K c2) _ mm E } (σ.set i (some v)) H1;split at e
 ·rename_i O;split at e
  ·rename_i d b eg;cases e
   refine⟨_,_,true,s2.ext.nh,s2.rep,O,λH2 h=>?_⟩;show ja K g1 _ _ _;exact⟨B0,H0,_,_,.grown s2 h,eg,p⟩
  ·cases e
 ·rename_i O;refine⟨_,_,false,s2.ext.nh,s2.rep,O,λH2 h=>?_⟩;show ua (qA K c2) _ mm E (σ.set i (some v)) H2;split at e
  ·rename_i g;cases e
   refine⟨_,_,false,s2.ext.nh.trans h,s2.rep,g,λU h'=>?_⟩;exact p _ _ (.grown s2 (h.trans h'))
  ·rename_i g;obtain⟨es,G,e2⟩:=oX e;obtain⟨y,ey,T⟩:=oX e2;split at T
   ·rename_i hc;refine⟨_,_,true,s2.ext.nh.trans h,s2.rep,g,λU h'=>?_⟩;have hh:=h.trans h';obtain⟨xd,xb⟩:=x;unfold J5 at G;split at G
    ·rename_i ds z;cases z
     split at G
     ·rename_i es' ej;cases G
      obtain⟨t,vs,rfl,hT,hs,hl⟩:=f1 rfl;obtain⟨a,us,ea,ha,hn,iu⟩:=hl j es ej;have n3:U a=some (.lst us):=hh _ _ (M.nh _ _ hn);refine⟨.ref t,by rw[List.getElem?_set_self (by rw[←s.len];exact hc.1)],t,vs,j,.ref a,rfl,rfl,aP (M.nh.trans hh) hT,?_,.inl ⟨rfl,us,eK.of n3⟩,_,_,y.1,y.2,s2.ext.nh.trans hh,s2.rep,ey,λw H4 N4 x4 i4 _=>⟨a,us,w,rfl,rfl,x4.hh _ _ n3,by rw[iu.length];exact hc.2,?_⟩⟩
      ·have hj:j<vs.length:=(vV ea).1;unfold iX wh;rw[if_pos (by omega),if_pos (by omega)];exact ea
      ·refine⟨B0,H0,_,r,⟨N,s.forget (λb o q=>?_) i _⟩,T,p⟩;rw[ar (λz=>by subst z;rw[ha]at q;cases q)];exact x4.hh _ _ (hh _ _ (M.hh _ _ q))
     ·cases G
    ·cases G
   ·cases T
  ·cases e
 ·cases e
section
variable {X:Cx}{e:Expr}
theorem Cs (i:Nat)(he:JE X e f)(M:X.N[i]? = some x:=by rfl)(hv:yS X.env.scope x:=by first|exact Or.inl rfl|exact Or.inr (Or.inl rfl)|exact Or.inr (Or.inr rfl))(hd:(x == ("__debug__" : Str))=false:=by decide)
  (g:(x == ("__classdict__" : Str))=false:=by decide) (hs:starEach [e,.Name x p] X.env=(false,eval e X.env)::starEach [.Name x p] X.env:=by rfl) (G:starEach [.Name x p] X.env=[(false,eval (.Name x p) X.env)]:=by rfl):JS X (.Return (some (.Tuple [e,.Name x p] x1 p2)) pos) (xh f i) :=
 PS.to (tZ (qp (dQ he (dQ (jh M hv hd g) gw G) hs))) λ_ _ _ q=>Am q
theorem Hi (i j:Nat)(nd:X.N.Nodup)(he:JE X e f)(h1:JT X e1 c1)(k1:o0 X b1 g1)(h2:JT X e2 c2)(ha:JE X ea fe)(k2:o0 X b2 g2)(hi:X.N[i]? = some x:=by rfl)(hx:AQ X.env.scope x:=by first|exact Or.inl rfl|exact Or.inr rfl)(hs:swapsWith e (some (.Name x p)) pos.line X.env=pure false:=by rfl)
  (hf:X.fn x=true∨X.env.scope.names.lookup x=some .local:=by first|exact .inl rfl|exact .inr rfl) (hv:yS X.env.scope x:=by first|exact Or.inl rfl|exact Or.inr (Or.inl rfl)|exact Or.inr (Or.inr rfl)) (hd:(x == ("__debug__" : Str))=false:=by decide)
  (T:(x == ("__classdict__" : Str))=false:=by decide)
  (g:attributeBase (.Subscript (.Name x p1) (.Constant (.int j) k p2) p3) "append" X.env (eval (.Subscript (.Name x p1) (.Constant (.int j) k p2) p3) X.env)=eval (.Subscript (.Name x p1) (.Constant (.int j) k p2) p3) X.env:=by rfl)
  (M:((backTo cC (starEach [ea] X.env)).all (λx=>!x.1) && (backToKw cC (keywordEach [] X.env)).all (λx=>x.1.isSome)
   && decide ([ea].length+([]:List Keyword).length+(if([]:List Keyword).isEmpty then 0 else 1)<30))=true:=by rfl)
  (G:(dO.endLine == cC.line)=true:=by rfl) (O:starEach [ea] X.env=[(false,eval ea X.env)]:=by rfl) (U:swapsWith (.Call (.Attribute (.Subscript (.Name x p1) (.Constant (.int j) k p2) p3) "append" dO) [ea] [] cC) none p5.line X.env=pure false:=by rfl):
  o0 X [.Assign [.Name x p] e pos,.If e1 b1 [] p4,.If e2 (.Expr (.Call (.Attribute (.Subscript (.Name x p1) (.Constant (.int j) k p2) p3) "append" dO) [ea] [] cC) p5::b2) [] p6] (EU i f c1 g1 c2 j fe g2) :=
 o3.to (j8 (qo nd hi hx he hs hf) (j8 (yV h1 k1 ql) (wb (yV h2 (j8 (wc (zh PySem.F.plainAttrs_list PySem.F.slot_list_append PySem.F.type_list_append k8 (zf uj (jh hi hv hd T) yT (by intro _ _;rfl)) (dQ ha gw O) g M G O rfl) U) k2) ql)))) λ_ _ _ q=>EV q
end
@[simp] noncomputable def Hj:List D->OB
 |[.dk ks _]=>some (.int ks.length,false)
 |_=>none
theorem EW {X:Cx}:bB X (.builtin "len") (zp X.K Hj):=by
 intro aa s σ H xs us Q I r q;obtain⟨B,ds,d,b,g,i,e,q⟩:=q;cases i with
 |nil=>cases e
 |cons G M=>
  cases M with
  |cons _ _=>cases G<;>cases e
  |nil=>
   cases G<;>try (cases e;done)
   rename_i h hl hs;cases e
   obtain⟨u,rfl,O⟩:=gP r;cases O
   exact G0 I (.inl (g _ _ h)) λt s' T=>⟨.int _,H,T,⟨t,by rw[List.length_zip,←hl,Nat.min_self]⟩,q.one g (.int _)⟩
end DL
namespace DL
open PySem L2
theorem du (I:Nat->Env->Prop)(ds:List D)(M:Env)(h0:I 0 M)
  (step:∀i d ρ,ds[i]? = some d->I i ρ->∃G ρ',tg d ρ=some G/\(g G=some (.nx ρ')∨g G=some (.ct ρ'))/\I (i+1) ρ'):
  ∃ρ',dX tg g ds M=some (.nx ρ')/\I ds.length ρ':=by
 have O:∀(es:List D)(i:Nat)(ρ:Env),ds.drop i=es->i+es.length=ds.length->I i ρ->∃ρ',dX tg g es ρ=some (.nx ρ')/\I ds.length ρ':=by
  intro es;induction es with
  |nil=>intro i ρ e hl h;refine⟨ρ,by rw[zv],?_⟩;rw[←hl];exact h
  |cons d es U=>
   intro i ρ e hl h;have hd:ds[i]? = some d:=by
    have:(ds.drop i)[0]? = some d:=by rw[e];rfl
    rwa [List.getElem?_drop,Nat.add_zero]at this
   obtain⟨G,ρ',h1,h2,h3⟩:=step i d ρ hd h;have he:ds.drop (i+1)=es:=by rw[←List.drop_drop,e];rfl
   obtain⟨T,k1,k2⟩:=U (i+1) ρ' he (by simp at hl;omega) h3;refine⟨T,?_,k2⟩;rw[iF,h1];rcases h2 with h2|h2<;>simp only[vJ,h2]<;>exact k1
 exact O ds 0 M (by simp) (by simp) h0
theorem An (n:Nat)(I:Nat->Env->Prop)(G:Env)(h0:I 0 G)
  (step:∀(i:Nat) ρ,i<n->I i ρ->∃M ρ',tg (.int (i:Int)) ρ=some M/\(g M=some (.nx ρ')∨g M=some (.ct ρ'))/\I (i+1) ρ'):
  ∃ρ',dX tg g (fm 0 n) G=some (.nx ρ')/\I n ρ':=by
 have hl:(fm 0 n).length=n:=by simp[fm]
 obtain⟨ρ',h1,h2⟩:=du (tg:=tg) (g:=g) I (fm 0 n) G h0 λi d ρ hd h=>by
  unfold fm at hd;rw[vB]at hd;obtain⟨k,hk,hd⟩:=oY hd;obtain⟨O,hk⟩:=vV hk;rw[List.length_range]at O;rw[List.getElem_range]at hk;subst hk;rw[Int.zero_add]at hd;subst hd;exact step i ρ O h
 rw[hl]at h2;exact⟨ρ',h1,h2⟩
theorem io {α:Type}{xs:List α}{j:Nat}(h:j<xs.length):iX xs (j:Int)=some xs[j]:=Bv (by simp[h])
theorem qW {α:Type}{xs:List α}{i:Int}(h0:0<=i)(h:i.toNat<xs.length):iX xs i=some xs[i.toNat]:=by
 have:=io h;rwa [Int.toNat_of_nonneg h0]at this
@[simp] theorem Dx (xs:List Int):bj (xs.map D.int)=true:=by
 induction xs with
 |nil=>simp
 |cons x xs g=>simp[g]
@[simp] theorem AX (n:Nat)(xs:List Int):(xs.map D.int).all (ay n)=true:=by
 induction xs with
 |nil=>simp
 |cons x xs g=>simpa using g
@[simp] theorem Ct (xs:List Int):(xs.map D.int).all eN=true:=by
 induction xs with
 |nil=>simp
 |cons x xs g=>simpa using g
mutual
def jW:D->D->Bool
 |.non,.non=>true
 |.bl a,.bl b=>a == b
 |.int a,.int b=>decide (a=b)
 |.str a,.str b=>decide (a=b)
 |.ty a,.ty b=>decide (a=b)
 |.tup xs,.tup ys=>nq xs ys
 |.lst xs,.lst ys=>nq xs ys
 |_,_=>false
def nq:List D->List D->Bool
 |[],[]=>true
 |x::xs,y::ys=>jW x y && nq xs ys
 |_,_=>false
end
mutual
theorem xi:∀ {x y:D},jW x y=true->x=y
 |.non,.non,_=>rfl
 |.bl a,.bl b,h=>by simp[jW]at h;rw[h]
 |.int a,.int b,h=>by simp[jW]at h;rw[h]
 |.str a,.str b,h=>by simp[jW]at h;rw[h]
 |.ty a,.ty b,h=>by simp[jW]at h;rw[h]
 |.tup xs,.tup ys,h=>by rw[jW]at h;rw[nr h]
 |.lst xs,.lst ys,h=>by rw[jW]at h;rw[nr h]
theorem nr:∀ {xs ys:List D},nq xs ys=true->xs=ys
 |[],[],_=>rfl
 |x::xs,y::ys,h=>by
  rw[nq,vD]at h;rw[xi h.1,nr h.2]
end
def J6 (r:OB)(d:D)(b:Bool):Bool:=match r with
 |some (e,c)=>jW e d && c == b
 |none=>false
theorem nu (h:J6 r d b=true):r=some (d,b):=by
 unfold J6 at h;split at h
 ·rw[vD]at h;rw[xi h.1,eq_of_beq h.2]
 ·cases h
section
variable {f:FE}{c:FT}{g g' h:FS}{ρ ρ':Env}{i:Nat}{d:D}{b:Bool}{r:Option Res}{ds:List D}
theorem au (hl:ds.length=n)(e:g (ds.map (λd=>some (d,false))++List.replicate k none)=some (.rt d b)):aN g n k ds=some (d,b):=by
 unfold aN;rw[if_pos hl,e]
theorem pG (n:aT d=true):setE ρ i d b=ρ.set i (some (d,false)):=by unfold setE;rw[if_pos n]
theorem nv (n:bj ds=true):setE ρ i (.lst ds) true=ρ.set i (some (.lst ds,true)):=by
 unfold setE;rw[if_neg (by simp),if_pos ⟨rfl,by simpa using n⟩]
theorem Cu (n:aT d=false)(m:b=false∨rO d=false):setE ρ i d b=(unown ρ).set i (some (d,false)):=by
 unfold setE;have hz:¬(b=true/\rO d=true):=λz=>by
  rcases m with m|m
  ·rw[m]at z;exact absurd z.1 (by decide)
  ·rw[m]at z;exact absurd z.2 (by decide)
 rw[if_neg (by simp[n]),if_neg hz]
theorem Ao (e:f ρ=some (d,b))(k:h (setE ρ i d b)=r):a0 (aM i f) h ρ=r:=by simp[e];exact k
theorem jt (e:f ρ=some (d,b))(n:aT d=true)(k:h (ρ.set i (some (d,false)))=r):a0 (aM i f) h ρ=r:=Ao e (by rw[pG n];exact k)
theorem cN (e:f ρ=some (.lst ds,true))(n:bj ds=true)(k:h (ρ.set i (some (.lst ds,true)))=r):a0 (aM i f) h ρ=r:=Ao e (by rw[nv n];exact k)
theorem J7 (e:f ρ=some (d,b))(n:aT d=false)(m:b=false∨rO d=false)(k:h ((unown ρ).set i (some (d,false)))=r):a0 (aM i f) h ρ=r:=Ao e (by rw[Cu n m];exact k)
theorem cb (e:g ρ=some (.nx ρ'))(k:h ρ'=r):a0 g h ρ=r:=by unfold a0;rw[e];exact k
theorem J8 (e:g ρ=some (.rt d b)):a0 g h ρ=some (.rt d b):=by unfold a0;rw[e]
theorem J9 (e:g ρ=some (.ct ρ')):a0 g h ρ=some (.ct ρ'):=by unfold a0;rw[e]
theorem jX (e:c ρ=some true)(k:g ρ=r):gb c g g' ρ=r:=by unfold gb;rw[e];exact k
theorem gI (e:c ρ=some false)(k:g' ρ=r):gb c g g' ρ=r:=by unfold gb;rw[e];exact k
theorem cP (e:c ρ=some true)(k:g ρ=some (.rt d b)):a0 (gb c g g') h ρ=some (.rt d b):=J8 (jX e k)
theorem bx (e:c ρ=some false)(k:h ρ=r):a0 (gb c g bA) h ρ=r:=cb (gI e rfl) k
theorem a9 (e:f ρ=some (d,b)):br f ρ=some (.rt d b):=by simp[e]
theorem lZ (e:ρ[i]? = some (some (d,b)))(hb:De d=false:=by rfl):jb i ρ=some (.rt d b):=by simp only[jb,e,hb];simp
theorem jY (e:f ρ=some (d,b))(n:aT d=true):aM i f ρ=some (.nx (ρ.set i (some (d,false)))):=by
 show(f ρ).map _=_;rw[e,Option.map_some,pG n]
theorem qX (e:f ρ=some (.lst ds,true))(n:bj ds=true):aM i f ρ=some (.nx (ρ.set i (some (.lst ds,true)))):=by
 show(f ρ).map _=_;rw[e,Option.map_some,nv n]
theorem iq (e:ρ[i]? = some (some (.lst ds,true)))(G:f ρ=some (d,b))(n:aT d=true)(l:ds.length<sizeLine):lK i f ρ=some (.nx (ρ.set i (some (.lst (ds++[d]),true)))):=by
 simp[e,G,n,l]
theorem tp (e:fi ρ=some ds)(k:dX tg g ds ρ=some (.nx ρ')):mz fi tg g ρ=some (.nx ρ'):=by unfold mz;rw[e];exact k
theorem fO (e:fi (k9 ρ)=some ds)(k:dX tg g ds ρ=some (.nx ρ')):jF fi tg g ρ=some (.nx ρ'):=by unfold jF;rw[e];exact k
theorem pH {f:FE}{j:Nat}(e:f ρ=some (.int j,b))(hj:j<=1000):fW f ρ=some (fm 0 j):=by
 unfold fW;rw[e];simp only[];rw[if_pos (by omega)];simp
theorem kQ (e:f ρ=some (.bl x,b)):be f ρ=some x:=by unfold be;rw[e]
theorem ma (e:fa ρ=some ds)(k:F ds=x):fA F fa ρ=x:=by unfold fA;rw[e,vJ];exact k
theorem Ap {f1 g1:D->D->OB}{fa G M:FE}{x y z:D}{b1 b2 b3 b4 p q:Bool}(O:fa ρ=some (x,b1))(T:G ρ=some (y,b2))(U:M ρ=some (z,b3))(e1:f1 x y=some (.bl p,b4))(e2:p=true->g1 y z=some (.bl q,false)):kE f1 g1 fa G M ρ=some (.bl (p && q),false):=by
 unfold kE;rw[O,T,U];simp only[vJ,e1];cases p
 ·rfl
 ·exact e2 rfl
theorem kR {f1 f2:FE}{p q b1:Bool}(G:f1 ρ=some (.bl p,b1))(e2:p=true->f2 ρ=some (.bl q,false)):m8 f1 f2 ρ=some (.bl (p && q),false):=by
 unfold m8;rw[G];cases p
 ·rfl
 ·exact e2 rfl
theorem xj {f1 f2:FE}{p q b1:Bool}(G:f1 ρ=some (.bl p,b1))(e2:p=false->f2 ρ=some (.bl q,false)):F4 f1 f2 ρ=some (.bl (p || q),false):=by
 unfold F4;rw[G];cases p
 ·exact e2 rfl
 ·rfl
theorem aR (G:f ρ=some (d,b))(e2:fr ρ=some xs):ab f fr ρ=some (d::xs):=by
 unfold ab;rw[G,vJ,e2,vJ]
theorem eF (G:fa ρ=some (x,b1))(e2:fb ρ=some (y,b2))(M:op x y=z):f2 op fa fb ρ=z:=by
 unfold f2;rw[G,vJ,e2,vJ];exact M
theorem bS (G:c1 ρ=some p)(e2:p=true->c2 ρ=some q):cu c1 c2 ρ=some (p && q):=by
 unfold cu;rw[G];cases p
 ·rfl
 ·exact e2 rfl
theorem ir (G:c1 ρ=some p)(e2:p=false->c2 ρ=some q):gX c1 c2 ρ=some (p || q):=by
 unfold gX;rw[G];cases p
 ·exact e2 rfl
 ·rfl
theorem jZ (G:c1 ρ=some p):fJ c1 ρ=some (!p):=by
 unfold fJ;rw[G];rfl
end
theorem Ix (a c:Nat):decide ([a]<[c])=decide (a<c):=by
 congr 1;rw[List.cons_lt_cons_iff];simp
@[simp] theorem Iy (a c:Nat):tV (.str ⟨#[a]⟩) (.str ⟨#[c]⟩)=some (.bl (decide (a<=c)),false):=by
 unfold tV;show some (D.bl (!decide ([c]<[a])),false)=_;rw[Ix];congr 3;by_cases h:c<a
 ·rw[decide_eq_true h,decide_eq_false (by omega)];rfl
 ·rw[decide_eq_false h,decide_eq_true (by omega)];rfl
theorem bp (h:n<=100000):n<sizeLine:=Nat.lt_of_le_of_lt h (by decide)
theorem bY (h:n<=100000):n<=sizeLine:=Nat.le_of_lt (bp h)
theorem kc {α:Type}(l:List α)(g:α->D)(p:α->Bool)(h:α->D)(e:fi ρ=some (l.map g))(hl:l.length<=100000)
  (k:∀x∈l,∃G,tg (g x) (cL nT cap ρ)=some G/\c G=some (p x)/\(p x=true->∃b,fe G=some (h x,b))):bR fi nT cap tg c fe ρ=some (.lst ((l.filter p).map h),true):=by
 have T:∀M:List α,(∀x∈M,x∈l)->eM tg c fe (cL nT cap ρ) (M.map g)=some ((M.filter p).map h):=by
  intro M;induction M with
  |nil=>intro _;simp
  |cons x M O=>
   intro hm;obtain⟨G,h1,h2,h3⟩:=k x (hm x mX);have O:=O λy hy=>hm y (mZ _ hy);rw[uZ,ur,h1,vJ,h2,vJ];cases hp:p x with
   |false=>simp[hp,O]
   |true=>
    obtain⟨b,h4⟩:=h3 hp;simp[hp,O,h4]
 unfold bR;rw[e,vJ,if_pos (bY (by simpa using hl)),T l λ_ h=>h,Option.map_some]
theorem pJ {α:Type}(l:List α)(g:α->D)(h:α->D)(e:fi ρ=some (l.map g))(hl:l.length<=100000)
  (k:∀x∈l,∃G,tg (g x) (cL nT cap ρ)=some G/\∃b,fe G=some (h x,b)):bR fi nT cap tg gR fe ρ=some (.lst (l.map h),true):=by
 have:=kc (c:=gR) (fe:=fe) l g (λ_=>true) h e hl λx hx=>by
  obtain⟨G,h1,h2⟩:=k x hx;exact⟨G,h1,rfl,λ_=>h2⟩
 rw[List.filter_eq_self.mpr λ_ _=>rfl]at this;exact this
@[simp] theorem Hk {α:Type}(f:α->Bool)(l:List α):uu (l.map λx=>.bl (f x))=some (l.map f):=by
 induction l with
 |nil=>rfl
 |cons x l g=>simp[g]
theorem ul (h0:0<=i)(h:i.toNat<z.cps.size)(hz:z.length<=100000):cw (.str z) (.int i)=some (.str ⟨#[z.cps.toList.getD i.toNat 0]⟩,false):=by
 have hh:i.toNat<z.cps.toList.length:=by simpa using h
 simp only[cw];rw[if_pos (bY hz),qW h0 hh];simp[List.getD,h]
theorem EX (h0:0<=i)(h:i.toNat<ds.length):cw (.lst ds) (.int i)=some (ds.getD i.toNat .non,false):=by
 simp only[cw];rw[qW h0 h];simp[List.getD,h]
theorem uj (h0:0<=i)(h:i.toNat<ds.length):cw (.tup ds) (.int i)=some (ds.getD i.toNat .non,false):=by
 simp only[cw];rw[qW h0 h];simp[List.getD,h]
theorem xl {xs:List Int}{i:Int}(h0:0<=i)(h:i.toNat<xs.length):cw (.lst (xs.map .int)) (.int i)=some (.int (xs.getD i.toNat 0),false):=by
 rw[EX h0 (by simpa using h)];simp[List.getD,h]
theorem mod_lt {x m:Int}(hm:0<m):0<=x % m/\x % m<m:=⟨Int.emod_nonneg _ (by omega),Int.emod_lt_of_pos _ hm⟩
theorem Cv:eQ [.lst ds]=some (.int ds.length,false):=rfl
theorem xm:dF (.int i) (.int j)=some (.bl (decide (i=j)),false):=by simp
theorem tq (h:0<=v):HT.c7 n d (some v)=min v.toNat n:=by
 show(if v<0 then (v+(n:Int)).toNat else min v.toNat n)=_;rw[if_neg (by omega)]
def Aq {α:Type}(xs:List α)(lo hi:Option Int):List α:=(xs.drop (HT.c7 xs.length 0 lo)).take (HT.c7 xs.length xs.length hi - HT.c7 xs.length 0 lo)
theorem Ar {α:Type}(f:α->D)(xs:List α)(lo hi:Option Int):lL (xs.map f) lo hi=(Aq xs lo hi).map f:=by
 unfold lL Aq;rw[vI,List.map_take,List.map_drop]
theorem bd (x y:D)(g:fa ρ=some (x,false))(e2:fb ρ=some (y,false))(G:op x y=z):f2 op fa fb ρ=z:=eF g e2 G
theorem eD (e:f ρ=some (.bl x,false)):be f ρ=some x:=kQ e
theorem ee (g:f ρ=some (d,false))(e2:fr ρ=some xs):ab f fr ρ=some (d::xs):=aR g e2
theorem aY (ds:List D)(e:fa ρ=some ds)(k:F ds=x):fA F fa ρ=x:=ma e k
theorem iL (d:D)(e:f ρ=some (d,false))(n:aT d=true)(k:h (ρ.set i (some (d,false)))=r):a0 (aM i f) h ρ=r:=jt e n k
@[simp] noncomputable abbrev Pg (G:List D)(g:Int)(t:Env):Env:=some (.tup G,false)::some (.int g,false)::t
@[simp] noncomputable abbrev eR (ns:List Int)(zs:List Str)(G:Int)(g:List Str)(R:List D)(a b:OB)(t:Env):Env:=some (.lst (ns.map .int),false)::some (.lst (zs.map .str),false)::some (.int G,false)::a::some (.lst (g.map .str),true)::some (.lst R,true)::b::t
end DL
namespace Lw
open PySem DL
noncomputable def gJ:List (PySem.Str×D):=[(("root" : Str),(.tup [(.str "office"),(.str "matters"),(.str "further"),(.str "rule")])),(("named" : Str),(.tup [(.str "day"),(.str "office"),(.str "person")])),(("chosen" : Str),(.tup [(.str "day"),(.str "by"),(.str "office"),(.str "person"),(.str "since")])),(("heir" : Str),(.tup [(.str "day"),(.str "by"),(.str "office"),(.str "person")])),(("death" : Str),(.tup [(.str "day"),(.str "person")])),(("lost" : Str),(.tup [(.str "day"),(.str "person")])),(("found" : Str),(.tup [(.str "day"),(.str "person")])),(("leave" : Str),(.tup [(.str "day"),(.str "by"),(.str "person"),(.str "matters"),(.str "stretch"),(.str "further")])),(("paper" : Str),(.tup [(.str "day"),(.str "by"),(.str "matters"),(.str "stretch"),(.str "whom"),(.str "pieces")])),(("like" : Str),(.tup [(.str "day"),(.str "by"),(.str "matters"),(.str "stretch"),(.str "whom"),(.str "of"),(.str "changes")])),(("copy" : Str),(.tup [(.str "day"),(.str "by"),(.str "of")])),(("call" : Str),(.tup [(.str "day"),(.str "by"),(.str "of")]))]
noncomputable def fy:D:=(.tup [(.str "chosen"),(.str "heir"),(.str "leave"),(.str "paper"),(.str "like"),(.str "copy"),(.str "call")])
def pK:FS :=
  (br (f2 cw (bP 0 1) (fI 0)))
def aK:=aN pK 1 0
def pL:FS :=
  (br (f2 cw (bP 0 1) (f2 dj (fI 1) (f2 (oC gJ) (fA aK (fV 0 ag)) (af 1)))))
def ak:=aN pL 2 0
def tu:FS :=
  (a0 (gb (be (f2 dF (fA aK (fV 0 ag)) (fS "root"))) (br (fC .non)) bA)
  (br (fA ak (fV 0 (ab (fS "day") ag)))))
def aX:=aN tu 1 0
def xn:FS :=
  (br (bR (wG (af 0)) 2 [1] (AU [0,1]) (be (f2 tV (bP 1 0) (af 2))) (af 0)))
def cX:=aN xn 2 0
def As:FS :=
  (br (fA ba (ab (fA aX (ab (f2 cw (af 0) (af 1)) ag)) (fV 1 ag))))
def eG:=aN As 2 0
def nw:FS :=
  (a0 (aM 2 (bR (cz (fA cX (fV 0 (fV 1 ag)))) 1 [0] (dC 0) (be (f2 kI (fA aX (ab (f2 cw (af 1) (af 0)) ag)) (fC .non))) (af 0)))
  (br (mU (af 2) (sW [0] (fA eG (fV 1 (fV 0 ag)))))))
def fz:=aN nw 2 1
def lz:FS :=
  (br (fA ba (ab (bP 0 0) (ab (bP 0 2) (ab (bP 0 4) ag)))))
def ew:=aN lz 1 0
def xo:FS :=
  (a0 (aM 2 (bR (cz (fA cX (fV 0 (fV 1 ag)))) 1 [0] (dC 0) gR (f2 cw (af 1) (af 0))))
  (br (fA gH (ab (bR (cz (af 2)) 1 [] (dC 0) (be (f2 dF (fA aK (fV 0 ag)) (fS "root"))) (fA ba (ab (fA ak (fV 0 (ab (fS "office") ag))) (fV 0 ag)))) ag))))
def iM:=aN xo 2 1
def ny:FS :=
  (br (m8 (kE tV zA (fI 0) (af 2) (fA eQ (fV 0 ag))) (f2 tV (f2 cw (f2 cw (af 0) (af 2)) (fI 0)) (af 1))))
def gK:=aN ny 3 0
def xp:FS :=
  (br (m8 (f2 BO (fA aK (fV 0 ag)) (af 1)) (m8 (f2 dF (fA ak (fV 0 (ab (fS "person") ag))) (af 2)) (f2 tV (fA aX (fV 0 ag)) (af 3)))))
def md:=aN xp 4 0
def pM:FS :=
  (br (bR (cz (fA cX (fV 0 (fV 1 ag)))) 1 [2,3,4,0] (dC 0) (be (fA md (ab (f2 cw (af 4) (af 0)) (fV 1 (fV 2 (fV 3 ag)))))) (af 0)))
def eZ:=aN pM 5 0
def xq:FS :=
  (br (f2 dF (fA eQ (ab (fA eZ (fV 0 (fV 1 (ab (fA ba (ab (fS "death") ag)) (fV 2 (fV 3 ag)))))) ag)) (fI 0)))
def kg:=aN xq 4 0
def nz:FS :=
  (a0 (aM 4 (fA eZ (fV 0 (fV 1 (ab (fA ba (ab (fS "lost") (ab (fS "found") ag))) (fV 2 (fV 3 ag)))))))
  (a0 (gb (be (f2 dF (fA eQ (fV 4 ag)) (fI 0))) (br (fC (.bl true))) bA)
  (br (f2 dF (fA aK (ab (f2 cw (af 0) (pB (af 4) (sW [0] (fA eG (fV 1 (fV 0 ag)))))) ag)) (fS "found")))))
def ju:=aN nz 4 1
def nA:FS :=
  (a0 (gb (gX (fJ (be (fA gK (fV 0 (fV 1 (fV 2 ag)))))) (be (f2 fj (fA aK (ab (f2 cw (af 0) (af 2)) ag)) (fC fy)))) (br (fC (.bl false))) bA)
  (a0 (aM 3 (fA ak (ab (f2 cw (af 0) (af 2)) (ab (fS "by") ag))))
  (a0 (aM 4 (fA aX (ab (f2 cw (af 0) (af 2)) ag)))
  (br (m8 (fA kg (fV 0 (fV 1 (fV 3 (fV 4 ag))))) (fA ju (fV 0 (fV 1 (fV 3 (fV 4 ag))))))))))
def jw:=aN nA 3 2
def pN:FS :=
  (br (m8 (f2 tV (bP 1 0) (af 0)) (F4 (f2 E4 (bP 1 1) (fC .non)) (f2 zA (af 0) (bP 1 1)))))
def kU:=aN pN 2 0
def nB:FS :=
  (br (fA kU (fV 1 (ab (fA ba (ab (bP 0 2) (ab (bP 0 3) ag))) ag))))
def bQ:=aN nB 2 0
def nD:FS :=
  (br (fA ba (ab (bP 0 2) (ab (bP 0 4) ag))))
def cj:=aN nD 1 0
def nE:FS :=
  (a0 (gb (be (f2 dF (af 1) (fS "last"))) (br (f2 cw (pB (af 0) (oD cj)) (fI 1))) bA)
  (br (f2 cw (pC (af 0) (oD cj)) (fI 1))))
def jx:=aN nE 2 0
def l7:FS :=
  (a0 (aM 3 (bR (cz (af 0)) 1 [2,1] (dC 0) (cu (be (f2 dF (bP 0 0) (fA ak (fV 2 (ab (fS "office") ag))))) (be (fA bQ (fV 0 (fV 1 ag))))) (af 0)))
  (a0 (aM 4 (f1 cS (bR (cz (af 3)) 1 [] (dC 0) gR (bP 0 1))))
  (a0 (gb (be (f2 dF (fA eQ (fV 4 ag)) (fI 0))) (br (fA ba (ab (fS "none") ag))) bA)
  (a0 (gb (cu (be (f2 Ez (fA eQ (fV 4 ag)) (fI 1))) (be (f2 dF (fA ak (fV 1 (ab (fS "rule") ag))) (fS "open")))) (xh (fS "parted") 4) bA)
  (a0 (aM 5 (fA jx (fV 3 (ab (fA ak (fV 1 (ab (fS "rule") ag))) ag))))
  (a0 (aM 6 (pC (bR (cz (af 3)) 1 [5] (dC 0) (be (f2 dF (bP 0 1) (af 1))) (af 0)) (oD cj)))
  (br (fA ba (ab (fS "one") (fV 5 (ab (bP 6 4) ag)))))))))))
def di:=aN l7 3 4
def kh:FS :=
  (br (f2 dF (BV (fA di (fV 0 (fV 1 (fV 3 ag)))) pc (hW (fI 2))) (fA ba (ab (fS "one") (fV 2 ag)))))
def eV:=aN kh 4 0
def gl:FS :=
  (a0 (aM 3 (f2 cw (af 0) (af 2)))
  (a0 (aM 4 (fA eZ (fV 0 (fV 1 (ab (fA ba (ab (fS "death") ag)) (ab (fA ak (fV 3 (ab (fS "person") ag))) (ab (fA aX (fV 3 ag)) ag)))))))
  (br (f2 dF (pC (af 4) (sW [0] (fA eG (fV 1 (fV 0 ag))))) (af 2)))))
def dH:=aN gl 3 2
def tw:FS :=
  (a0 (aM 4 (f2 cw (af 0) (af 3)))
  (a0 (gb (be (f2 dF (fA aK (fV 4 ag)) (fS "death"))) (br (fA dH (fV 0 (fV 1 (fV 3 ag))))) bA)
  (a0 (gb (be (f2 fj (fA aK (fV 4 ag)) (fA ba (ab (fS "named") (ab (fS "chosen") (ab (fS "heir") ag)))))) (br (fC (.bl false))) bA)
  (a0 (aM 5 (f2 uN (fA iM (fV 0 (fV 1 ag))) (fA ak (fV 4 (ab (fS "office") ag)))))
  (a0 (gb (be (f2 E4 (af 5) (fC .non))) (br (fC (.bl false))) bA)
  (a0 (gb (be (f2 dF (fA aK (fV 4 ag)) (fS "named"))) (br (fC (.bl true))) bA)
  (br (m8 (fA jw (fV 0 (fV 1 (fV 3 ag)))) (fA eV (fV 2 (fV 5 (ab (fA ak (fV 4 (ab (fS "by") ag))) (ab (fA aX (fV 4 ag)) ag)))))))))))))
def ki:=aN tw 4 2
def l8:FS :=
  (br (fA ba (ab (fA ak (fV 0 (ab (fS "office") ag))) (ab (fA ak (fV 0 (ab (fS "person") ag))) (fV 1 (ab (fC .non) (fV 2 ag)))))))
def eA:=aN l8 3 0
def nF:FS :=
  (gb (gX (be (f2 fj (bP 5 0) (af 1))) (gX (be (f2 yP (bP 5 1) (af 2))) (fJ (gX (be (fA bQ (fV 5 (fV 3 ag)))) (be (f2 Ez (bP 5 2) (af 3))))))) (lK 4 (af 5)) (gb (be (f2 zA (bP 5 2) (af 3))) (lK 4 (fA ba (ab (bP 5 0) (fV 2 (ab (bP 5 2) (fV 3 (ab (bP 5 4) ag))))))) bA))
def xr:FS :=
  (a0 (aM 4 (fA bD ag))
  (a0 (jF (cz (af 0)) (dC 5) nF)
  (jb 4)))
def mf:=aN xr 4 2
def iw:FS :=
  (a0 (aM 3 (fA ak (fV 1 (ab (fS "since") ag))))
  (a0 (aM 4 (fA mf (fV 0 (ab (fA bD (ab (fA ak (fV 1 (ab (fS "office") ag))) ag)) (ab (fA ak (fV 1 (ab (fS "by") ag))) (fV 3 ag))))))
  (br (f2 dj (af 4) (fA bD (ab (fA eA (fV 1 (fV 3 (fV 2 ag)))) ag))))))
def fB:=aN iw 3 2
def eW:FS :=
  (a0 (aM 9 (Aj (af 3) (fV 8 (fV 5 ag))))
  (gb (cu (be (f2 kI (af 9) (fC .non))) (be (fA kg (fV 0 (fV 1 (fV 9 (fV 6 ag))))))) (lK 7 (fA ba (fV 8 (fV 9 (fV 6 (ab (fC .non) (fV 4 ag))))))) bA))
def lA:FS :=
  (a0 (aM 5 (fA ak (ab (f2 cw (af 0) (af 4)) (ab (fS "person") ag))))
  (a0 (aM 6 (fA aX (ab (f2 cw (af 0) (af 4)) ag)))
  (a0 (aM 7 (fA bD ag))
  (a0 (GR [5,6] (jF (cz (f1 cS (bR (cz (af 2)) 1 [5,6] (dC 0) (cu (be (f2 dF (bP 0 1) (af 1))) (be (fA bQ (fV 0 (fV 2 ag))))) (bP 0 0)))) (dC 8) eW))
  (jb 7)))))
def iz:=aN lA 5 5
def jf:FS :=
  (a0 (aM 5 (bR (cz (af 2)) 1 [] (dC 0) gR (bP 0 0)))
  (a0 (aM 6 (fA mf (fV 2 (fV 5 (ab (fA ak (ab (f2 cw (af 0) (af 4)) (ab (fS "person") ag))) (ab (fA aX (ab (f2 cw (af 0) (af 4)) ag)) ag))))))
  (br (f2 dj (af 6) (fA iz (fV 0 (fV 1 (fV 2 (fV 3 (fV 4 ag))))))))))
def fZ:=aN jf 5 2
def iN:FS :=
  (a0 (aM 5 (f2 cw (af 0) (af 4)))
  (a0 (gb (fJ (be (fA ki (fV 0 (fV 1 (fV 2 (fV 4 ag))))))) Dp bA)
  (gb (be (f2 dF (fA aK (fV 5 ag)) (fS "named"))) (aM 2 (f2 dj (af 2) (fA bD (ab (fA eA (fV 5 (ab (fA aX (fV 5 ag)) (fV 4 ag)))) ag)))) (gb (be (f2 dF (fA aK (fV 5 ag)) (fS "chosen"))) (aM 2 (fA fB (fV 2 (fV 5 (fV 4 ag))))) (gb (be (f2 dF (fA aK (fV 5 ag)) (fS "heir"))) (pF 3 (ab (fA ak (fV 5 (ab (fS "office") ag))) (ab (fA ak (fV 5 (ab (fS "by") ag))) ag)) (fA ak (fV 5 (ab (fS "person") ag)))) (aM 2 (fA fZ (fV 0 (fV 1 (fV 2 (fV 3 (fV 4 ag))))))))))))
def tz:FS :=
  (a0 (aM 2 (fA bD ag))
  (a0 (Af 3)
  (a0 (jF (cz (fA fz (fV 0 (fV 1 ag)))) (dC 4) iN)
  (br (mU (af 2) (oD ew))))))
def gm:=aN tz 2 4
def t0:FS :=
  (a0 (aM 4 (f2 uN (fA iM (fV 0 (fV 1 ag))) (af 2)))
  (a0 (gb (be (f2 E4 (af 4) (fC .non))) (br (fA ba (ab (fS "none") ag))) bA)
  (br (fA di (ab (fA gm (fV 0 (fV 1 ag))) (fV 4 (fV 3 ag)))))))
def gn:=aN t0 4 1
def lB:FS :=
  (a0 (gb (be (f2 zA (af 1) (fA eQ (fV 0 ag)))) (br (f2 cw (af 0) (af 1))) bA)
  (br (fI 0)))
def aI:=aN lB 2 0
def nG:FS :=
  (a0 (aM 7 (f2 cw (fS "bqcxdlenhusv") (f2 cy (f2 dj (f2 fU (af 0) (fI 64)) (f2 iY (fI 5) (af 6))) (fI 12))))
  (lK 5 (f2 dj (f2 dj (BV (af 3) pc (hW (af 4))) (af 7)) (BV (af 3) (hW (f2 dj (af 4) (fI 1))) pc))))
def pO:FS :=
  (a0 (aM 2 (f2 dj (fI 1) (f2 cy (af 0) (fI 8))))
  (a0 (aM 3 (BV (fS "gmtazkfw") pc (hW (af 2))))
  (a0 (aM 4 (f2 cy (f2 fU (af 0) (fI 8)) (af 2)))
  (a0 (aM 5 (fA bD ag))
  (a0 (mz (fW (af 1)) (dC 6) nG)
  (jb 5))))))
def kW:=aN pO 2 6
def nH:FS :=
  (a0 (aM 4 (f2 cy (f2 dj (f2 dj (f2 iY (af 4) (fI 48271)) (fA eQ (fV 3 ag))) (fI 1)) (fI 2147483647)))
  (lK 3 (af 4)))
def pP:FS :=
  (a0 (aM 3 (BV (af 0) (hW (af 1)) (hW (f2 dj (af 1) (af 2)))))
  (a0 (aM 4 (f2 cy (fA aI (fV 0 (ab (fI 1) ag))) (fI 2147483647)))
  (a0 (fR (cu (be (f2 dF (f2 cy (f2 fU (fA aI (fV 0 (ab (fI 0) ag))) (fI 21)) (fI 8)) (fI 5))) (be (f2 zA (fA eQ (fV 3 ag)) (af 2)))) nH 1000)
  (jb 3))))
def iO:=aN pP 3 2
def cm:FS :=
  (ng 2 (f2 cw (fA bD (ab (fS "crown") (ab (fS "abbey") ag))) (af 3)) (f2 cw (fA bD (ab (fS "open") (ab (fS "first") (ab (fS "last") ag)))) (f2 cy (f2 fU (af 1) (f2 cw (fA bD (ab (fI 2) (ab (fI 6) ag))) (af 3))) (fI 3))))
def pQ:FS :=
  (a0 (aM 1 (fA aI (fV 0 (ab (fI 1) ag))))
  (a0 (xc 2)
  (a0 (mz (fW (f2 dj (fI 1) (f2 cy (af 1) (fI 2)))) (dC 3) cm)
  (jb 2))))
def iP:=aN pQ 1 3
def kX:FS :=
  (a0 (aM 9 (f2 iY (f2 dj (f2 fU (af 7) (fI 3)) (f2 cy (f2 fU (af 8) (fI 400)) (fI 3))) (af 2)))
  (a0 (aM 10 (f2 cw (fA bD (ab (fS "crown") (ab (fS "abbey") (ab (fS "crown") (ab (fS "mill") ag))))) (f2 cy (f2 fU (af 8) (fI 1200)) (f2 dj (fI 2) (fA Hj (fV 3 ag))))))
  (a0 (aM 11 (f2 cw (af 6) (f2 G7 (f1 yc (fI 1)) (f2 cy (f2 fU (af 8) (fI 10000)) (fA E7 (ab (fI 3) (ab (fA eQ (fV 6 ag)) ag)))))))
  (a0 (aM 12 (f2 cw (af 1) (f2 cy (f2 fU (af 8) (fI 30000)) (fA eQ (fV 1 ag)))))
  (a0 (aM 13 (fA ba (ab (fS "named") (fV 9 (fV 10 (fV 12 ag))))))
  (a0 (gb (be (f2 BO (f2 cy (af 8) (fI 8)) (fA ba (ab (fI 1) (ab (fI 2) (ab (fI 3) ag)))))) (aM 13 (fA ba (ab (fS "chosen") (fV 9 (fV 11 (fV 10 (fV 12 (ab (f2 dj (af 9) (f2 iY (f2 cy (f2 fU (af 8) (fI 8)) (fI 5)) (af 2))) ag)))))))) bA)
  (a0 (gb (be (f2 dF (f2 cy (af 8) (fI 8)) (fI 4))) (aM 13 (fA ba (ab (fS "death") (fV 9 (ab (f2 cw (fA bD (fV 11 (fV 12 ag))) (f2 cy (f2 fU (af 8) (fI 8)) (fI 2))) ag))))) bA)
  (a0 (gb (be (f2 yP (bP 13 0) (fS "death"))) (lK 6 (af 12)) bA)
  (lK 5 (fA ba (ab (f2 dj (af 9) (f2 iY (f2 cw (fA bD (ab (fI 0) (ab (fI 0) (ab (fI 0) (ab (fI 0) (ab (fI 1) (ab (fI 6) ag))))))) (f2 cy (f2 fU (af 8) (fI 7)) (fI 6))) (af 2))) (fV 13 ag))))))))))))
def t4:FS :=
  (a0 (aM 3 (fA iP (fV 0 ag)))
  (a0 (aM 4 (f2 iY (f2 iY (fA sg (ab (f2 dF (f2 cy (f2 fU (fA aI (fV 0 (ab (fI 1) ag))) (fI 18)) (fI 8)) (fI 1)) ag)) (fI 4)) (af 2)))
  (a0 (aM 5 (bR (ve (af 3)) 1 [4,3] (dC 0) gR (fA ba (fV 1 (ab (fA ba (ab (fS "root") (fV 0 (ab (fI 7) (ab (fI 1) (ab (f2 AV (af 2) (af 0)) ag)))))) ag)))))
  (a0 (aM 6 (fA bD (ab (bP 1 0) ag)))
  (a0 (jF (wG (fA iO (fV 0 (ab (fI 5) (ab (fI 20) ag))))) (AU [7,8]) kX)
  (br (fA ft (fV 5 ag))))))))
def nI:=aN t4 3 11
def nJ:FS :=
  (gb (cu (be (f2 dF (bP 5 0) (af 2))) (cu (be (f2 tV (bP 5 2) (af 3))) (gX (be (f2 E4 (bP 5 3) (fC .non))) (be (f2 zA (af 3) (bP 5 3)))))) (lK 4 (fA ba (ab (bP 5 2) (ab (bP 5 4) (ab (bP 5 1) ag))))) bA)
def xu:FS :=
  (a0 (aM 4 (fA bD ag))
  (a0 (jF (cz (af 0)) (dC 5) nJ)
  (a0 (aM 4 (fA fM (fV 4 ag)))
  (a0 (gb (gX (be (f2 dF (af 4) (fA bD ag))) (be (f2 kP (af 2) (af 1)))) (br (fA ba (ab (fS "none") ag))) bA)
  (a0 (aM 6 (f1 cS (bR (cz (af 4)) 1 [] (dC 0) gR (bP 0 2))))
  (a0 (gb (cu (be (f2 Ez (fA eQ (fV 6 ag)) (fI 1))) (be (f2 dF (f2 AV (af 1) (af 2)) (fS "open")))) (br (fA ba (ab (fS "parted") (fV 6 ag)))) bA)
  (a0 (aM 7 (f2 cw (bP 4 0) (fI 2)))
  (a0 (gb (be (f2 dF (f2 AV (af 1) (af 2)) (fS "last"))) (aM 7 (f2 cw (f2 cw (af 4) (f1 yc (fI 1))) (fI 2))) bA)
  (br (fA ba (ab (fS "one") (fV 7 (ab (f2 cw (bR (cz (af 4)) 1 [7] (dC 0) (be (f2 dF (bP 0 2) (af 1))) (bP 0 1)) (fI 0)) ag)))))))))))))
def iQ:=aN xu 4 4
def pR:FS :=
  (a0 (gb (gX (fJ (be (fA dh (fV 0 (ab (fC (.ty "tuple")) ag))))) (be (f2 yP (af 0) (af 1)))) (br (fC (.bl false))) bA)
  (a0 (gb (be (f2 dF (bP 0 0) (fS "one"))) (br (z4 (fA dh (ab (bP 0 2) (ab (fC (.ty "bool")) ag))))) bA)
  (br (F4 (f2 dF (bP 0 0) (fS "none")) (fA dh (ab (bP 0 1) (ab (fC (.ty "list")) ag)))))))
def iR:=aN pR 2 0
def vg:FS :=
  (gb (cu (be (f2 tV (af 6) (af 4))) (be (f2 dF (bP 7 0) (fS "root")))) (ng 5 (bP 7 1) (bP 7 4)) bA)
def nK:FS :=
  (a0 (aM 12 (fA iQ (fV 8 (fV 5 (fV 10 (fV 11 ag))))))
  (EU 13 (fA gn (fV 3 (fV 4 (fV 10 (fV 11 ag))))) (fJ (be (fA iR (fV 13 (fV 12 ag))))) (br (fC (.bl false))) (be (f2 dF (bP 13 0) (fS "parted"))) 1 (fS "zz") (gb (be (f2 yP (fA gn (fV 3 (fV 4 (fV 10 (fV 11 ag))))) (af 12))) (br (fC (.bl false))) bA)))
def vh:FS :=
  (GR [9] (jF (cz (af 9)) (dC 11) nK))
def Dy:FS :=
  (a0 (aM 1 (fA kW (ab (fA aI (fV 0 (ab (fI 2) ag))) (ab (f2 dj (fI 2) (f2 cy (fA aI (fV 0 (ab (fI 0) ag))) (fI 4))) ag))))
  (a0 (aM 2 (f2 cw (fA bD (ab (fI 1) (ab (fI 1) (ab (fI 500) ag)))) (f2 cy (f2 fU (fA aI (fV 0 (ab (fI 0) ag))) (fI 4)) (fI 3))))
  (a0 (aM 3 (fA nI (fV 0 (fV 1 (fV 2 ag)))))
  (a0 (aM 4 (f2 cw (fA bD (ab (fI 9999) (ab (f2 iY (f2 cy (fA aI (fV 0 (ab (fI 3) ag))) (fI 12)) (af 2)) ag))) (f2 cy (fA aI (fV 0 (ab (fI 4) ag))) (fI 2))))
  (a0 (xc 5)
  (a0 (GR [3] (jF (cz (af 3)) (AU [6,7]) vg))
  (a0 (aM 8 (fA gm (fV 3 (fV 4 ag))))
  (a0 (aM 9 (f2 dj (fA bD (ab (fI 0) (ab (fI 9999) ag))) (bR (fW (fI 6)) 1 [2,0] (dC 0) gR (f2 iY (f2 cy (fA aI (fV 2 (ab (f2 dj (fI 25) (af 0)) ag))) (fI 13)) (af 1)))))
  (a0 (jF (cz (fA bD (ab (fS "crown") (ab (fS "abbey") (ab (fS "mill") ag))))) (dC 10) vh)
  (br (fC (.bl true))))))))))))
def F_law:=aN Dy 1 13
end Lw
namespace Lw
open PySem DL L2
theorem kj (ns:List Int)(k:Nat):aI [.lst (ns.map .int),.int k]=some (.int (ns.getD k 0),false):=by
 by_cases h:k<ns.length
 ·refine au rfl (cP (kQ (b:=false) (by simp;omega)) (a9 ?_));exact eF (x:=.lst (ns.map .int)) (y:=.int k) (b1:=false) (b2:=false) rfl rfl (by have:=xl (xs:=ns) (i:=k) (by omega) (by simpa using h);simpa using this)
 ·have z:ns.getD k 0=0:=by simp[vF,List.getElem?_eq_none (Nat.not_lt.mp h)]
  rw[z];exact au rfl (bx (kQ (b:=false) (by simp;omega)) (a9 rfl))
theorem pT {c:FT}{g:FS}(I:Nat->DL.Env->Prop)(step:∀m ρ,I m ρ->c ρ=some false∨(c ρ=some true/\∃G ρ',m=G+1/\g ρ=some (.nx ρ')/\I G ρ')):∀(n m:Nat)(ρ:DL.Env),m<n->I m ρ->∃G ρ',fR c g n ρ=some (.nx ρ')/\I G ρ'
 |0,m,ρ,h,_=>by omega
 |n+1,m,ρ,h,i=>by
  rw[fR];rcases step m ρ i with e|⟨e,G,ρ',rfl,e2,O⟩
  ·exact⟨m,ρ,by rw[e],i⟩
  ·obtain⟨T,M,h1,h2⟩:=pT I step n G ρ' (by omega) O;exact⟨T,M,by rw[e];dsimp only;rw[e2];exact h1,h2⟩
theorem y8 (ns:List Int)(G:Nat)(hm:G<=900):∃cs:List Int,iO [.lst (ns.map .int),.int 5,.int G]=some (.lst (cs.map .int),true)/\cs.length<=G:=by
 have U:=kj ns 1;have c0:=kj ns 0;let M:List Int:=Aq ns (some 5) (some (5+G));have Mb:M.length<=G:=by
  show(Aq ns (some 5) (some (5+G))).length<=G;unfold Aq;rw[List.length_take,tq (by omega),tq (by omega)];omega
 have e0:BV (af 0) (hW (af 1)) (hW (f2 dj (af 1) (af 2))) [some (.lst (ns.map .int),false),some (.int 5,false),some (.int G,false),none,none]=some (.lst (M.map .int),true):=by
  simp[M,Ar]
 obtain⟨m',ρ',hw,cs,num,rfl,hl,_⟩:=pT (c:=cu (be (f2 dF (f2 cy (f2 fU (fA aI (ab (af 0) (ab (fC (.int 0)) ag))) (fC (.int 21))) (fC (.int 8))) (fC (.int 5)))) (be (f2 zA (fA eQ (ab (af 3) ag)) (af 2)))) (g:=nH)
  (λm ρ=>∃(cs:List Int)(num:Int),ρ=[some (.lst (ns.map .int),false),some (.int 5,false),some (.int G,false),some (.lst (cs.map .int),true),some (.int num,false)]/\cs.length+m=G/\m<=G) (λm ρ hI=>by
   obtain⟨cs,num,rfl,hl,Pt⟩:=hI;have O:be (f2 dF (f2 cy (f2 fU (fA aI (ab (af 0) (ab (fC (.int 0)) ag))) (fC (.int 21))) (fC (.int 8))) (fC (.int 5))) [some (.lst (ns.map .int),false),some (.int 5,false),some (.int G,false),some (.lst (cs.map .int),true),some (.int num,false)]=some (decide (ns.getD 0 0 / 21 % 8=5)):=by
    refine kQ (b:=false) (eF (x:=.int (ns.getD 0 0 / 21 % 8)) (y:=.int 5) (b1:=false) (b2:=false) (eF (x:=.int (ns.getD 0 0 / 21)) (y:=.int 8) (b1:=false) (b2:=false) (eF (x:=.int (ns.getD 0 0)) (y:=.int 21) (b1:=false) (b2:=false) (ma (ds:=[.lst (ns.map .int),.int 0]) rfl (by simpa using c0)) rfl (by simp[])) rfl (by simp)) rfl (by simp))
   have T:be (f2 zA (fA eQ (ab (af 3) ag)) (af 2)) [some (.lst (ns.map .int),false),some (.int 5,false),some (.int G,false),some (.lst (cs.map .int),true),some (.int num,false)]=some (decide (cs.length<G)):=by simp
   by_cases h1:ns.getD 0 0 / 21 % 8=5
   ·by_cases h2:cs.length<G
    ·refine .inr ⟨by rw[bS (p:=true) (q:=true) (by rw[O,decide_eq_true h1]) λ_=>by rw[T,decide_eq_true h2]];rfl,m - 1,[some (.lst (ns.map .int),false),some (.int 5,false),some (.int G,false),some (.lst ((cs++[(num*48271+cs.length+1) % 2147483647]).map .int),true),some (.int ((num*48271+cs.length+1) % 2147483647),false)],by omega,?_,cs++[(num*48271+cs.length+1) % 2147483647],_,rfl,by simp;omega,by omega⟩;refine jt (d:=.int ((num*48271+cs.length+1) % 2147483647)) (b:=false) (by simp) rfl ?_;rw[iq (ds:=cs.map .int) (d:=.int ((num*48271+cs.length+1) % 2147483647)) (b:=false) rfl rfl rfl (bp (by simp;omega))];simp
    ·exact .inl (by rw[bS (p:=true) (q:=false) (by rw[O,decide_eq_true h1]) λ_=>by rw[T,decide_eq_false h2]];rfl)
   ·exact .inl (by rw[bS (p:=false) (q:=false) (by rw[O,decide_eq_false h1]) (by simp)];rfl)) 1000 (G - M.length) [some (.lst (ns.map .int),false),some (.int 5,false),some (.int G,false),some (.lst (M.map .int),true),some (.int (ns.getD 1 0 % 2147483647),false)] (by omega) ⟨M,_,rfl,by omega,by omega⟩
 refine⟨cs,au rfl (cN (ds:=M.map .int) e0 (by simp) (jt (d:=.int (ns.getD 1 0 % 2147483647)) (b:=false) ?_ rfl (cb hw (lZ rfl)))),by omega⟩;exact eF (x:=.int (ns.getD 1 0)) (y:=.int 2147483647) (b1:=false) (b2:=false) (ma (ds:=[.lst (ns.map .int),.int 1]) rfl (by simpa using U)) rfl (by simp)
theorem qY (a b:Str):(a++b).length=a.length+b.length:=by
 show(a.cps++b.cps).size=_;exact Array.size_append
theorem iI (c:Int)(n:Nat)(hn:n<=100):∃zs:List Str,kW [.int c,.int n]=some (.lst (zs.map .str),true)/\zs.length=n/\∀z∈zs,z.length<=20:=by
 have h8:=mod_lt (x:=c) (m:=8) (by decide);obtain⟨sz,hsz⟩:∃sz:Int,1+c % 8=sz:=⟨_,rfl⟩;have OK:0<sz:=by omega
 have OL:sz<1073741824:=by omega
 obtain⟨base,M⟩:∃base:Str,Txt.slice ("gmtazkfw" : Str) none (some sz)=base:=⟨_,rfl⟩;have T:base.length<=8:=by rw[←M];exact vR (Txt.slice_le _ _ _) (by decide +kernel)
 obtain⟨O,OM⟩:∃O:Int,c / 8 % sz=O:=⟨_,rfl⟩;obtain⟨b1,hb1⟩:∃b1:Str,Txt.slice base none (some O)=b1:=⟨_,rfl⟩;obtain⟨b2,U⟩:∃b2:Str,Txt.slice base (some (O+1)) none=b2:=⟨_,rfl⟩;have l1:b1.length<=8:=by rw[←hb1];exact vR (Txt.slice_le _ _ _) T
 have l2:b2.length<=8:=by rw[←U];exact vR (Txt.slice_le _ _ _) T
 let G:Nat->Str:=λk=>⟨#[("bqcxdlenhusv" : Str).cps.toList.getD ((c / 64+5*k) % 12).toNat 0]⟩;let nm:Nat->Str:=λk=>b1++G k++b2;have ln:∀k,(nm k).length<=20:=λk=>by
  show(b1++G k++b2).length<=20;rw[qY,qY];have:(G k).length=1:=rfl;omega
 obtain⟨ρ',e,v6,v7,rfl⟩:=An (tg:=dC 6) (g:=nG) n (λi ρ=>∃v6 v7:OB,ρ=[some (.int c,false),some (.int n,false),some (.int sz,false),some (.str base,false),some (.int O,false),some (.lst (((List.range i).map nm).map .str),true),v6,v7])
  [some (.int c,false),some (.int n,false),some (.int sz,false),some (.str base,false),some (.int O,false),some (.lst [],true),none,none] ⟨none,none,rfl⟩ (by
   rintro i ρ hi ⟨v6,v7,rfl⟩;have ON:=mod_lt (x:=c / 64+5*(i:Int)) (m:=12) (by decide);have Pu : -18446744073709551616<(i:Int)/\(i:Int)<18446744073709551616:=by omega
   refine⟨_,_,rfl,.inl (jt (d:=.str (G i)) (b:=false) ?_ rfl (iq (ds:=((List.range i).map nm).map .str) (d:=.str (nm i)) (b:=false) rfl ?_ rfl (bp (by simp;omega)))),some (.int i,false),some (.str (G i),false),?_⟩
   ·refine eF (x:=.str "bqcxdlenhusv") (y:=.int ((c / 64+5*i) % 12)) (b1:=false) (b2:=false) rfl (by simp) ?_;exact DL.ul ON.1 (by rw[show("bqcxdlenhusv" : Str).cps.size=12 by decide +kernel];omega) (by decide +kernel)
   ·refine eF (x:=.str (b1++G i)) (y:=.str b2) (b1:=false) (b2:=false) (eF (x:=.str b1) (y:=.str (G i)) (b1:=false) (b2:=false) ?_ rfl ?_) ?_ ?_
    ·simp[hb1];exact bY (by omega)
    ·simp;exact bY (by have:(G i).length=1:=rfl;omega)
    ·simp[U];exact bY (by omega)
    ·have hh:(b1++G i).length+b2.length<=sizeLine:=bY (by rw[qY];have:(G i).length=1:=rfl;omega);show dj (.str (b1++G i)) (.str b2)=some (.str (b1++G i++b2),false);simp only[dj,if_pos hh]
   ·simp[List.range_succ])
 refine⟨(List.range n).map nm,au rfl (jt (d:=.int sz) (b:=false) (by simp[hsz]) rfl (jt (d:=.str base) (b:=false) ?_ rfl (jt (d:=.int O) (b:=false) (by simp[OK,OL,OM]) rfl (cN (ds:=[]) (by simp[sizeLine]) (by simp) (cb (tp (pH (j:=n) (b:=false) (by simp) (by omega)) e) (lZ rfl)))))),by simp,?_⟩
 ·simp[M];decide +kernel
 ·intro z hz;obtain⟨k,_,rfl⟩:=vO hz;exact ln k
end Lw
namespace DL
open PySem L2
theorem gL:∀(n m:Nat)(d:D),n<=m->ay n d=true->ay m d=true
 |n,m,.non,_,_=>by simp
 |n,m,.bl _,_,_=>by simp
 |n,m,.int _,_,_=>by simp
 |n,m,.str _,_,_=>by simp
 |n,m,.ty _,_,h=>by cases n<;>simp[ay]at h
 |n,m,.dk _ _,_,h=>by simp at h
 |n,m,.dt _ _,_,h=>by simp at h
 |0,m,.tup _,_,h=>by simp[ay]at h
 |0,m,.lst _,_,h=>by simp[ay]at h
 |n+1,0,_,h,_=>by omega
 |n+1,m+1,.tup ds,hl,h=>by
  simp only[ay,List.all_eq_true]at h ⊢;exact λd hd=>gL n m d (by omega) (h d hd)
 |n+1,m+1,.lst ds,hl,h=>by
  simp only[ay,List.all_eq_true]at h ⊢;exact λd hd=>gL n m d (by omega) (h d hd)
theorem kY:∀(ds:List D),(∀d∈ds,cB d d=true)->g9 ds ds=true
 |[],_=>by simp only[g9]
 |d::ds,h=>by
  simp only[g9,h d mX,Bool.true_and];exact kY ds λe he=>h e (mZ _ he)
theorem nL:∀(n:Nat)(d:D),ay n d=true->cB d d=true
 |n,.non,_=>by simp
 |n,.bl _,_=>by simp
 |n,.int _,_=>by simp
 |n,.str _,_=>by simp
 |n,.ty _,h=>by cases n<;>simp[ay]at h
 |n,.dk _ _,h=>by simp at h
 |n,.dt _ _,h=>by simp at h
 |0,.tup _,h=>by simp[ay]at h
 |0,.lst _,h=>by simp[ay]at h
 |n+1,.tup ds,h=>by
  simp only[ay,List.all_eq_true]at h;simp only[cB];exact kY ds λd hd=>nL n d (h d hd)
 |n+1,.lst ds,h=>by
  simp only[ay,List.all_eq_true]at h;simp only[cB];exact kY ds λd hd=>nL n d (h d hd)
end DL
namespace DL
@[simp] noncomputable abbrev sF (d:D):OB:=some (d,false)
@[simp] noncomputable abbrev lT (ds:List D):OB:=some (.lst ds,true)
@[simp] noncomputable abbrev sI (x:Int):OB:=some (.int x,false)
@[simp] noncomputable abbrev sS (x:PySem.Str):OB:=some (.str x,false)
@[simp] noncomputable abbrev sT (x:List D):OB:=some (.tup x,false)
@[simp] noncomputable abbrev sL (x:List D):OB:=some (.lst x,false)
@[simp] noncomputable abbrev sO (x:Bool):OB:=some (.bl x,false)
theorem dm {r:OB}{d:D}{b:Bool}(h:J6 r d b=true:=by decide +kernel):r=some (d,b):=nu h
theorem iS {p q:Prop}[Decidable p](h:p)(n:decide p=false:=by decide +kernel):q:=absurd h (of_decide_eq_false n)
end DL
namespace Lw
open PySem DL L2
theorem qZ (d:D)(r:List D):iX (d::r) 0=some d:=by have:=io (xs:=d::r) (j:=0) (by simp);simpa using this
theorem Au (d e:D)(r:List D):iX (d::e::r) 1=some e:=by have:=io (xs:=d::e::r) (j:=1) (by simp);simpa using this
theorem FD (d e f:D)(r:List D):iX (d::e::f::r) 2=some f:=by have:=io (xs:=d::e::f::r) (j:=2) (by simp);simpa using this
noncomputable def bT (k:Str):Bool:=decide (k = "death") || decide (k = "lost") || decide (k = "found")
noncomputable def dw (k:Str):Bool:=decide (k = "chosen") || decide (k = "heir") || decide (k = "leave") || decide (k = "paper") || decide (k = "like") || decide (k = "copy") || decide (k = "call")
structure DeedP (kind:Str)(az:List D):Prop where
 flat:bj az=true
 plain:az.all (ay 5)=true
 three:bT kind=true->∃(day:Int)(p:Str),az=[.int day,.str p]
 slg:dw kind=true->∃(day:Int)(p:Str)(r:List D),az=.int day::.str p::r
noncomputable def row (h:Int)(kind:Str)(az:List D):D:=.tup [.int h,.tup (.str kind::az)]
def kZ (r:D):Prop:=∃h kind az,r=row h kind az/\DeedP kind az
theorem kZ.flat (h:kZ r):aT r=true:=by obtain⟨a,k,az,rfl,dp⟩:=h;simp[row,dp.flat]
theorem kZ.plain (h:kZ r):ay 39 r=true:=by
 obtain⟨a,k,az,rfl,dp⟩:=h;refine gL 7 39 _ (by decide) ?_;have:=dp.plain;simp only[row,ay,List.all_cons,List.all_nil,Bool.and_true,Bool.true_and];exact this
theorem cn (h:∀d∈ds,aT d=true):bj ds=true:=by
 induction ds with
 |nil=>rfl
 |cons d r g=>simp[h d (by simp),g λe he=>h e (by simp[he])]
theorem fP (zs:List Str):bj (zs.map D.str)=true:=by
 induction zs with
 |nil=>rfl
 |cons a l g=>simp[g]
noncomputable def bL:D->Int
 |.tup (.int h::_)=>h
 |_=>0
noncomputable def kindOf:D->Str
 |.tup [_,.tup (.str k::_)]=>k
 |_=>("" : Str)
noncomputable def aG:D->Int
 |.tup [_,.tup (_::.int d::_)]=>d
 |_=>0
noncomputable def pU (p:Str)(day:Int):List D->Bool
 |[.int d,.str q]=>decide (q=p) && decide (d<=day)
 |_=>false
def told (g:List Str)(p:Str)(day:Int):D->Bool
 |.tup [_,.tup (.str kind::az)]=>decide (kind∈g) && pU p day az
 |_=>false
theorem fQ (h:Int)(kind:Str)(az:List D):aK [row h kind az]=sS kind:=au rfl (a9 (by simp[row,Au,qZ]))
theorem i6 (h:bT k=true):k = "death" ∨ k = "lost" ∨ k = "found":=by
 unfold bT at h;simp only[Bool.or_eq_true,decide_eq_true_eq]at h;rcases h with (h|h)|h
 ·exact .inl h
 ·exact .inr (.inl h)
 ·exact .inr (.inr h)
theorem jy (h:dw k=true):k = "chosen" ∨ k = "heir" ∨ k = "leave" ∨ k = "paper" ∨ k = "like" ∨ k = "copy" ∨ k = "call":=by
 unfold dw at h;simp only[Bool.or_eq_true,decide_eq_true_eq]at h;rcases h with (((((h|h)|h)|h)|h)|h)|h
 ·exact .inl h
 ·exact .inr (.inl h)
 ·exact .inr (.inr (.inl h))
 ·exact .inr (.inr (.inr (.inl h)))
 ·exact .inr (.inr (.inr (.inr (.inl h))))
 ·exact .inr (.inr (.inr (.inr (.inr (.inl h)))))
 ·exact .inr (.inr (.inr (.inr (.inr (.inr h)))))
theorem Cw (h:bT k=true∨dw k=true):oC gJ (.str k) (.str "day")=sI 0:=by
 rcases h with h|h
 ·rcases i6 h with rfl|rfl|rfl<;>exact dm
 ·rcases jy h with rfl|rfl|rfl|rfl|rfl|rfl|rfl<;>exact dm
theorem vi (h:bT k=true):oC gJ (.str k) (.str "person")=sI 1:=by
 rcases i6 h with rfl|rfl|rfl<;>exact dm
theorem Av (h:bT k=true∨dw k=true):dF (.str k) (.str "root")=sO false:=by
 rcases h with h|h
 ·rcases i6 h with rfl|rfl|rfl<;>exact dm
 ·rcases jy h with rfl|rfl|rfl|rfl|rfl|rfl|rfl<;>exact dm
theorem bc {h:Int}{k:Str}{az:List D}{part:Str}{i:Nat}{d:D}(hi:oC gJ (.str k) (.str part)=sI i)(hd:az[i]? = some d):ak [row h k az,.str part]=some (d,false):=by
 refine au rfl (a9 ?_);refine bd (.tup (.str k::az)) (.int (1+i)) (by simp[row,Au]) (bd (.int 1) (.int i) rfl (bd (.str k) (.str part) (aY [row h k az] rfl (fQ _ _ _)) rfl hi) (by simp)) ?_;have g:i<az.length:=(vV hd).1;have:iX (.str k::az) (1+(i:Int))=some d:=by
  have:=io (xs:=(.str k:D)::az) (j:=i+1) (by simp;omega);rw[show(1+(i:Int))=((i+1:Nat):Int) by omega,this];simp only[List.getElem_cons_succ];rw[vU g]at hd;exact hd
 simp[this]
theorem gp {h:Int}{k:Str}{az:List D}{d:Int}{r:List D}(hk:bT k=true∨dw k=true)(g:az=.int d::r):aX [row h k az]=sI d:=by
 subst g;refine au rfl (bx (eD (bd (.str k) (.str "root") (aY [row h k (.int d::r)] rfl (fQ _ _ _)) rfl (Av hk))) (a9 (aY [row h k (.int d::r),.str "day"] rfl (bc (i:=0) (Cw hk) rfl))))
theorem nM (k:Str)(g:List Str):zB (.str k) (g.map .str)=decide (k∈g):=by
 induction g with
 |nil=>simp[zB]
 |cons w g G=>
  have:zB (.str k) ((w::g).map .str)=(cB (.str w) (.str k) || zB (.str k) (g.map .str)):=rfl;rw[this,G,rS];by_cases e:w=k
  ·simp[e]
  ·have M:¬k=w:=λz=>e z.symm;simp[e,M]
theorem la (g:List Str):(g.map D.str).all eN=true:=by
 induction g with
 |nil=>rfl
 |cons w g G=>simp[eN]
theorem Aw (k:Str)(g:List Str):BO (.str k) (.tup (g.map .str))=sO (decide (k∈g)):=by
 simp only[BO,fL,vJ,nM];rw[if_pos ⟨rfl,la g⟩]
theorem Ax (M:kZ r)(g:List Str)(hw:∀w∈g,bT w=true)(p:Str)(day:Int):md [r,.tup (g.map .str),.str p,.int day]=sO (told g p day r):=by
 obtain⟨h,kind,az,rfl,dp⟩:=M;have G:f2 BO (fA aK (fV 0 ag)) (af 1) [some (row h kind az,false),sT (g.map .str),sS p,sI day]=sO (decide (kind∈g)) :=
  bd (.str kind) (.tup (g.map .str)) (aY [row h kind az] rfl (fQ _ _ _)) rfl (Aw kind g)
 have O:told g p day (row h kind az)=(decide (kind∈g) && pU p day az):=rfl;rw[O];refine au rfl (a9 (kR (b1:=false) G λhk=>?_));have h3:=hw kind (of_decide_eq_true hk);obtain⟨d,q,rfl⟩:=dp.three h3;show m8 _ _ _=sO (decide (q=p) && decide (d<=day));refine kR (b1:=false) ?_ λ_=>?_
 ·exact bd (.str q) (.str p) (aY [row h kind [.int d,.str q],.str "person"] rfl (bc (i:=1) (vi h3) rfl)) rfl (by simp)
 ·exact bd (.int d) (.int day) (aY [row h kind [.int d,.str q]] rfl (gp (.inl h3) rfl)) rfl (by simp)
theorem nN (ds:List D):jM ds=ds.zipIdx.map λx=>.tup [.int x.2,x.1]:=by
 unfold jM;apply List.ext_getElem?;intro i;simp[List.getElem?_mapIdx,List.getElem?_zipIdx];cases ds[i]?<;>simp
noncomputable def aj (G:List D)(g:Int):List (D×Nat):=G.zipIdx.filter λx=>decide (bL x.1<=g)
theorem nO (g:List D)(M:∀r∈g,kZ r)(hl:g.length<=1000)(G:Int):cX [.tup g,.int G]=lT ((aj g G).map λx=>.int x.2):=by
 have hc:=kc (fi:=wG (af 0)) (nT:=2) (cap:=[1]) (tg:=AU [0,1]) (c:=be (f2 tV (bP 1 0) (af 2))) (fe:=af 0) (ρ:=[sT g,sI G]) g.zipIdx (λx=>.tup [.int x.2,x.1]) (λx=>decide (bL x.1<=G)) (λx=>.int x.2)
  (by simp[nN]) (by simp;omega) λx hx=>by
   obtain⟨h,kind,az,e,_⟩:=M x.1 (List.fst_mem_of_mem_zipIdx hx);refine⟨_,rfl,eD ?_,λ_=>⟨false,by simp[cL]⟩⟩;simp[cL,e,row,qZ,bL]
 exact au rfl (a9 hc)
def lO (G:List D)(g:Int)(M:List Str)(p:Str)(day:Int):List (D×Nat):=(aj G g).filter λx=>told M p day x.1
theorem xw (h:x∈lO rows known ws p day):rows[x.2]? = some x.1/\told ws p day x.1=true:=by
 obtain⟨h1,h2⟩:=vN h;exact⟨(List.mk_mem_zipIdx_iff_getElem? (x:=x.1) (i:=x.2)).mp (vN h1).1,h2⟩
theorem jz {g:List D}{i:Nat}{r:D}(h:g[i]? = some r):iX g (i:Int)=some r:=by
 obtain⟨G,e⟩:=vV h;rw[io G,e]
theorem Cy (G:List D)(g:Int)(M:List Str)(p:Str)(day:Int):(lO G g M p day).length<=G.length:=by
 have h1:=vM (λx:D×Nat=>told M p day x.1) (aj G g);have h2:=vM (λx:D×Nat=>decide (bL x.1<=g)) G.zipIdx;rw[List.length_zipIdx]at h2;exact vR h1 h2
theorem ra (g:List D)(O:∀r∈g,kZ r)(hl:g.length<=1000)(G:Int)(M:List Str)(hw:∀w∈M,bT w=true)(p:Str)(day:Int):
  eZ [.tup g,.int G,.tup (M.map .str),.str p,.int day]=lT ((lO g G M p day).map λx=>.int x.2):=by
 have hc:=kc (fi:=cz (fA cX (fV 0 (fV 1 ag)))) (nT:=1) (cap:=[2,3,4,0]) (tg:=dC 0) (c:=be (fA md (ab (f2 cw (af 4) (af 0)) (fV 1 (fV 2 (fV 3 ag)))))) (fe:=af 0)
  (ρ:=[sT g,sI G,sT (M.map .str),sS p,sI day]) (aj g G) (λx=>.int x.2) (λx=>told M p day x.1) (λx=>.int x.2)
  (by
   show(fA cX (fV 0 (fV 1 ag)) _).bind _=_;rw[aY [.tup g,.int G] rfl (nO g O hl G)];rfl) (by have:=vM (λx:D×Nat=>decide (bL x.1<=G)) g.zipIdx;rw[List.length_zipIdx]at this;exact vR this (by omega)) λx hx=>by
   have T:g[x.2]? = some x.1:=(List.mk_mem_zipIdx_iff_getElem? (x:=x.1) (i:=x.2)).mp (vN hx).1;refine⟨_,rfl,eD (aY [x.1,.tup (M.map .str),.str p,.int day] ?_ (Ax (O _ (vL T)) M hw p day)),λ_=>⟨false,by simp[cL]⟩⟩;have ha:=jz T;simp[cL,ha]
 exact au rfl (a9 hc)
def kA (x:D×Nat):List At:=[.i (aG x.1),.i x.2]
def gq (a b:D×Nat):Bool:=decide (aG a.1<aG b.1∨(aG a.1=aG b.1/\(a.2:Int)<b.2))
def eI:D×Nat->List (D×Nat)->D×Nat
 |b,[]=>b
 |b,x::r=>if gq b x=true then eI x r else eI b r
def Dz:List (D×Nat)->Option (D×Nat)
 |[]=>none
 |x::r=>some (eI x r)
theorem Ay (a b c d:Int):aL [.i a,.i b] [.i c,.i d]=some (decide (a<c∨(a=c/\b<d))):=by
 rw[aL];by_cases h:a=c
 ·rw[if_pos h,aL];by_cases h2:b=d
  ·rw[if_pos h2,aL];simp[h,h2]
  ·rw[if_neg h2];simp[h]
 ·rw[if_neg h];simp[h]
theorem vj (a b:D×Nat):aL (kA a) (kA b)=some (gq a b):=Ay _ _ _ _
theorem rb (l:List (D×Nat)):cA (l.map kA)=true:=by
 unfold cA;simp[List.all_eq_true,vj]
theorem lb:∀(r:List (D×Nat))(b:D×Nat),jS (kA b,.int b.2) (r.map λx=>(kA x,D.int x.2))=.int (eI b r).2
 |[],b=>rfl
 |x::r,b=>by
  rw[uZ,jS,eI];show(if aL (kA b) (kA x)=some true then _ else _)=_;rw[vj];by_cases h:gq b x=true
  ·rw[if_pos h,if_pos (by rw[h])];exact lb r x
  ·rw[if_neg h,if_neg (by simpa using h)];exact lb r b
theorem nQ:∀(r:List (D×Nat))(b:D×Nat),eI b r∈b::r
 |[],b=>by simp[eI]
 |x::r,b=>by
  rw[eI];split
  ·exact mZ _ (nQ r x)
  ·rcases vP (nQ r b)with h|h
   ·rw[h];exact mX
   ·exact mZ _ (mZ _ h)
theorem gs {α:Type}{f:D->Option D}{g h:α->D}:∀(l:List α),(∀x∈l,f (g x)=some (h x))->gG f (l.map g)=some (l.map h)
 |[],_=>rfl
 |x::l,hx=>by
  rw[uZ,gG,hx x mX,vJ,gs l λy hy=>hx y (mZ _ hy)];rfl
theorem dI {α:Type}{g:α->D}{h:α->List At}:∀(l:List α),(∀x∈l,jR (g x)=some (h x))->ca (l.map g)=some (l.map h)
 |[],_=>rfl
 |x::l,hx=>by
  rw[uZ,ca,hx x mX,vJ,dI l λy hy=>hx y (mZ _ hy)];rfl
noncomputable def km:List Str:=[("lost" : Str),"found"]
theorem lC:∀w∈km,bT w=true:=by
 intro w hw;rcases vP hw with rfl|hw
 ·decide +kernel
 ·rcases vP hw with rfl|hw
  ·decide +kernel
  ·cases hw
def t6 (G:List D)(g:Int)(p:Str)(day:Int):Bool:=match Dz (lO G g km p day) with
 |none=>true
 |some b=>decide (kindOf b.1 = "found")
theorem nR (hw:∀w∈ws,bT w=true)(G:kZ r)(M:told ws p day r=true):∃h k d,r=row h k [.int d,.str p]/\bT k=true/\k∈ws/\d<=day:=by
 obtain⟨h,kind,az,rfl,dp⟩:=G;have g:(decide (kind∈ws) && pU p day az)=true:=M;rw[vD]at g;have hm:=of_decide_eq_true g.1;obtain⟨d,q,rfl⟩:=dp.three (hw _ hm);have hq:(decide (q=p) && decide (d<=day))=true:=g.2;rw[vD]at hq;have:=of_decide_eq_true hq.1;subst this;exact⟨h,kind,d,rfl,hw _ hm,hm,of_decide_eq_true hq.2⟩
theorem xx {g:List D}{i:Nat}{h d:Int}{k p:Str}(G:g[i]? = some (row h k [.int d,.str p]))(h3:bT k=true):eG [.tup g,.int i]=sT [.int d,.int i]:=by
 have ha:=jz G;refine au rfl (a9 (aY [.int d,.int i] (aR (d:=.int d) (b:=false) (aY [row h k [.int d,.str p]] (by simp[ha]) (gp (.inl h3) rfl)) rfl) (by simp[sizeLine])))
theorem Cz (g:List D)(hr:∀r∈g,kZ r)(hl:g.length<=1000)(G:Int)(p:Str)(day:Int):ju [.tup g,.int G,.str p,.int day]=sO (t6 g G p day):=by
 have ht:=ra g hr hl G km lC p day;have Km:=Cy g G km p day;have O:∀x∈lO g G km p day,∃h k d,g[x.2]? = some (row h k [.int d,.str p])/\x.1=row h k [.int d,.str p]/\bT k=true:=λx hx=>by
  obtain⟨T,K6⟩:=xw hx;obtain⟨h,k,d,e,h3,_⟩:=nR lC (hr _ (vL T)) K6;exact⟨h,k,d,by rw[T,e],e,h3⟩
 unfold t6;generalize hsel:lO g G km p day=sel at ht O Km ⊢;have M:fA eZ (fV 0 (fV 1 (ab (fA ba (ab (fS "lost") (ab (fS "found") ag))) (fV 2 (fV 3 ag))))) [sT g,sI G,sS p,sI day,none]=lT (sel.map λx=>.int x.2) :=
  aY [.tup g,.int G,.tup (km.map .str),.str p,.int day] (by simp[km,sizeLine]) ht
 have U:bj (sel.map λx=>D.int x.2)=true:=cn λd hd=>by obtain⟨x,_,rfl⟩:=vO hd;rfl
 cases sel with
 |nil=>exact au rfl (cN M U (cP (eD (by simp)) (a9 rfl)))
 |cons x r=>
  refine au rfl (cN M U (bx (eD (by simp;omega)) (a9 ?_)));obtain⟨h,k,d,T,e,h3⟩:=O (eI x r) (nQ r x);have hb:kindOf (eI x r).1=k:=by rw[e];rfl
  show _=some (D.bl (decide (kindOf (eI x r).1 = "found")),false);rw[hb];refine bd (.str k) (.str "found") (aY [row h k [.int d,.str p]] (aR (d:=row h k [.int d,.str p]) (b:=false) (bd (.tup g) (.int (eI x r).2) rfl ?_ (by simp[jz T])) rfl) (fQ _ _ _)) rfl (by simp);have hm:∀ρ:DL.Env,ρ[0]? = some (sT g)->gG (sW [0] (fA eG (fV 1 (fV 0 ag))) ρ) ((x::r).map λx=>D.int x.2)=some ((x::r).map λx=>.tup [.int (aG x.1),.int x.2]):=λρ h0=>
   gs (x::r) λy hy=>by
    obtain⟨h,k,d,T,e,h3⟩:=O y hy;have hd:aG y.1=d:=by rw[e];rfl
    rw[hd];show(fA eG _ _).map _=_;rw[aY [.tup g,.int y.2] (by simp[cL,h0]) (xx T h3)];rfl
  have hk:ca ((x::r).map λx=>D.tup [.int (aG x.1),.int x.2])=some ((x::r).map kA):=dI (x::r) λy _=>rfl;have hz:((x::r).map kA).zip ((x::r).map λx=>D.int x.2)=(kA x,.int x.2)::r.map λx=>(kA x,D.int x.2):=by
   rw[List.zip_map'];rfl
  show(pB (af 4) _ _)=_;unfold pB EM;show((some (D.lst ((x::r).map λx=>D.int x.2),false)).bind _)=_;simp only[vJ];rw[hm _ rfl];simp only[vJ];rw[hk];simp only[vJ];rw[if_pos (rb _),hz];simp only[lb]
noncomputable def cH:List Str:=[("death" : Str)]
theorem gM:∀w∈cH,bT w=true:=by
 intro w hw;rcases vP hw with rfl|hw
 ·decide +kernel
 ·cases hw
def lf (G:List D)(g:Int)(p:Str)(day:Int):Bool:=(lO G g cH p day).isEmpty
theorem t7 (g:List D)(O:∀r∈g,kZ r)(hl:g.length<=1000)(G:Int)(p:Str)(day:Int):kg [.tup g,.int G,.str p,.int day]=sO (lf g G p day):=by
 have M:=ra g O hl G cH gM p day;unfold lf;generalize lO g G cH p day=sel at M ⊢;refine au rfl (a9 (bd (.int ((sel.map λx=>D.int x.2).length:Nat)) (.int 0) ?_ rfl ?_))
 ·exact aY [.lst (sel.map λx=>.int x.2)] (aR (d:=.lst (sel.map λx=>.int x.2)) (b:=true) (aY [.tup g,.int G,.tup (cH.map .str),.str p,.int day] (by simp[sizeLine,cH]) M) rfl) Cv
 ·rw[xm];cases sel<;>simp
  omega
noncomputable def y9:D->Str
 |.tup [_,.tup (_::_::.str p::_)]=>p
 |_=>("" : Str)
noncomputable def xy:List Str:=[("chosen" : Str),"heir","leave","paper","like","copy","call"]
theorem vk (k:Str):dw k=decide (k∈xy):=by
 unfold dw xy;simp[List.mem_cons,Bool.or_assoc]
theorem vn:fy=.tup (xy.map .str):=rfl
theorem lD (k:Str)(g:List Str):fj (.str k) (.tup (g.map .str))=sO (!decide (k∈g)):=by
 simp only[fj,fL,vJ,nM];rw[if_pos ⟨rfl,la g⟩]
theorem EY (h:dw k=true):oC gJ (.str k) (.str "by")=sI 1:=by
 rcases jy h with rfl|rfl|rfl|rfl|rfl|rfl|rfl<;>exact dm
def rd (G:List D)(g:Int)(r:D):Bool:=(decide (bL r<=g) && dw (kindOf r)) && (lf G g (y9 r) (aG r) && t6 G g (y9 r) (aG r))
theorem Az {G:List D}{i:Nat}{h:Int}{kind:Str}{az:List D}(M:G[i]? = some (row h kind az))(g:Int):gK [.tup G,.int g,.int i]=sO (decide (h<=g)):=by
 have O:i<G.length:=(vV M).1;have ha:=jz M;refine au rfl (a9 ?_);have:=kR (f1:=kE tV zA (fI 0) (af 2) (fA eQ (fV 0 ag))) (f2:=f2 tV (f2 cw (f2 cw (af 0) (af 2)) (fI 0)) (af 1)) (ρ:=[sT G,sI g,sI i]) (p:=true) (q:=decide (h<=g)) (b1:=false)
  (by
   refine(Ap (x:=.int 0) (y:=.int i) (z:=.int G.length) (b1:=false) (b2:=false) (b3:=false) (b4:=false) (p:=true) (q:=true) rfl rfl (by simp) (by simp) λ_=>?_).trans rfl;simp;omega) λ_=>by simp[ha,row,qZ]
 exact this
theorem A0 (G:List D)(T:∀r∈G,kZ r)(hl:G.length<=1000)(g:Int){i:Nat}{r:D}(U:G[i]? = some r):jw [.tup G,.int g,.int i]=sO (rd G g r):=by
 obtain⟨h,kind,az,rfl,dp⟩:=T r (vL U);have hk:=Az U g;have ha:=jz U;have O:∀(ρ:DL.Env),f2 cw (af 0) (af 2) ρ=some (row h kind az,false)->fA aK (ab (f2 cw (af 0) (af 2)) ag) ρ=sS kind:=λρ e=>aY [row h kind az] (aR e rfl) (fQ _ _ _);have M:f2 cw (af 0) (af 2) [sT G,sI g,sI i,none,none]=some (row h kind az,false):=by simp[ha]
 have hc:(gX (fJ (be (fA gK (fV 0 (fV 1 (fV 2 ag)))))) (be (f2 fj (fA aK (ab (f2 cw (af 0) (af 2)) ag)) (fC fy)))) [sT G,sI g,sI i,none,none]=some (!decide (h<=g) || !dw kind):=by
  refine ir (jZ (eD (aY [.tup G,.int g,.int i] rfl hk))) λ_=>eD (bd (.str kind) fy (O _ M) rfl ?_);rw[vn,vk];exact lD kind xy
 have hs:rd G g (row h kind az)=((decide (h<=g) && dw kind) && (lf G g (y9 (row h kind az)) (aG (row h kind az)) && t6 G g (y9 (row h kind az)) (aG (row h kind az)))):=rfl;cases hb:(decide (h<=g) && dw kind) with
 |false=>
  rw[hs,hb];refine au rfl (cP (hc.trans ?_) (a9 rfl));rw[←Bool.not_and,hb];rfl
 |true=>
  rw[hs,hb];rw[vD]at hb;obtain⟨day,p,r',rfl⟩:=dp.slg hb.2;show _=some (D.bl (true && (lf G g p day && t6 G g p day)),false);rw[Bool.true_and];refine au rfl (bx (hc.trans (by rw[hb.1,hb.2];rfl)) (iL (.str p) (aY [row h kind (.int day::.str p::r'),.str "by"] (aR M rfl) (bc (i:=1) (EY hb.2) rfl)) rfl (iL (.int day) (aY [row h kind (.int day::.str p::r')] (aR (d:=row h kind (.int day::.str p::r')) (b:=false) (by simp[ha]) rfl) (gp (.inr hb.2) rfl)) rfl (a9 ?_))));exact kR (b1:=false) (aY [.tup G,.int g,.str p,.int day] (by simp) (t7 G T hl g p day)) λ_=>aY [.tup G,.int g,.str p,.int day] (by simp) (Cz G T hl g p day)
inductive Cd:Str->List D->Prop
 |root (o r:Str) (m f:Int):Cd ("root" : Str) [.str o,.int m,.int f,.str r]
 |named (d:Int) (o p:Str):Cd ("named" : Str) [.int d,.str o,.str p]
 |chosen (d:Int) (b o p:Str) (s:Int):Cd ("chosen" : Str) [.int d,.str b,.str o,.str p,.int s]
 |heir (d:Int) (b o p:Str):Cd ("heir" : Str) [.int d,.str b,.str o,.str p]
 |three (k:Str) (hk:k = "death" ∨ k = "lost" ∨ k = "found") (d:Int) (p:Str):Cd k [.int d,.str p]
 |other (k:Str) (hk:k = "leave" ∨ k = "paper" ∨ k = "like" ∨ k = "copy" ∨ k = "call") (d:Int) (b:Str) (r:List D) (hf:bj r=true) (hp:r.all (ay 5)=true):Cd k (.int d::.str b::r)
theorem Cd.deed (h:Cd k r):DeedP k r:=by
 cases h with
 |root o rl m f=>exact⟨rfl,by simp,λh=>iS h,λh=>iS h⟩
 |named d o p=>exact⟨rfl,by simp,λh=>iS h,λh=>iS h⟩
 |chosen d b o p s=>exact⟨rfl,by simp,λh=>iS h,λ_=>⟨d,b,_,rfl⟩⟩
 |heir d b o p=>exact⟨rfl,by simp,λh=>iS h,λ_=>⟨d,b,_,rfl⟩⟩
 |three k hk d p=>exact⟨rfl,by simp,λ_=>⟨d,p,rfl⟩,λh=>by rcases hk with rfl|rfl|rfl<;>exact iS h⟩
 |other k hk d b r hf hp=>exact⟨by simp[hf],by simp only[List.all_cons,hp,ay,Bool.and_true],λh=>by rcases hk with rfl|rfl|rfl|rfl|rfl<;>exact iS h,λ_=>⟨d,b,r,rfl⟩⟩
def kn (r:D):Prop:=∃h k az,r=row h k az/\Cd k az
theorem kn.rp (h:kn r):kZ r:=by obtain⟨a,k,az,rfl,d⟩:=h;exact⟨a,k,az,rfl,d.deed⟩
def bC (r:D):Bool:=decide (kindOf r = "root")
theorem Cd.day (h:Cd k r)(hk:k ≠ "root"):∃d q,r=.int d::q:=by
 cases h with
 |root=>exact absurd rfl hk
 |named d=>exact⟨d,_,rfl⟩
 |chosen d=>exact⟨d,_,rfl⟩
 |heir d=>exact⟨d,_,rfl⟩
 |three _ _ d=>exact⟨d,_,rfl⟩
 |other _ _ d=>exact⟨d,_,rfl⟩
theorem Cd.day_idx (h:Cd k r)(hk:k ≠ "root"):oC gJ (.str k) (.str "day")=sI 0:=by
 cases h with
 |root=>exact absurd rfl hk
 |named=>exact dm
 |chosen=>exact dm
 |heir=>exact dm
 |three _ hh=>rcases hh with rfl|rfl|rfl<;>exact dm
 |other _ hh=>rcases hh with rfl|rfl|rfl|rfl|rfl<;>exact dm
theorem aW (e:f ρ=some (.str a,bb))(h:decide (a=b)=x):be (f2 dF f (fS b)) ρ=some x:=eD (eF (x:=.str a) (y:=.str b) (b1:=bb) (b2:=false) e rfl (by rw[←h];simp))
def vp (r:D):D:=if bC r=true then .non else .int (aG r)
theorem vq (g:kn r):aK [r]=sS (kindOf r):=by
 obtain⟨h,k,az,rfl,_⟩:=g;exact fQ h k az
theorem xz (g:kn r):aX [r]=some (vp r,false):=by
 obtain⟨h,k,az,rfl,d⟩:=g;unfold vp;by_cases hk:k = "root"
 ·have:bC (row h k az)=true:=decide_eq_true hk;rw[if_pos this];exact au rfl (cP (aW (a:=k) (bb:=false) (aY [row h k az] rfl (fQ _ _ _)) (decide_eq_true hk)) (a9 rfl))
 ·have:bC (row h k az)=false:=decide_eq_false hk;rw[if_neg (by rw[this];decide)];obtain⟨dd,q,rfl⟩:=d.day hk;exact au rfl (bx (aW (a:=k) (bb:=false) (aY [row h k (.int dd::q)] rfl (fQ _ _ _)) (decide_eq_false hk)) (a9 (aY [row h k (.int dd::q),.str "day"] rfl (bc (i:=0) (d.day_idx hk) rfl))))
def eB (g:List D):Prop:=g.length<=60/\∀r∈g,kn r
theorem eB.rp (g:eB rows):∀r∈rows,kZ r:=λr G=>(g.2 r G).rp
theorem eB.le (g:eB rows):rows.length<=1000:=vR g.1 (by decide)
theorem df (h:x∈aj rows known):rows[x.2]? = some x.1:=by
 obtain⟨h1,_⟩:=vN h;exact List.mem_zipIdx_iff_getElem?.mp h1
theorem j0 (g:List D)(G:Int):(aj g G).length<=g.length:=by
 have:=vM (λx:D×Nat=>decide (bL x.1<=G)) g.zipIdx;rw[List.length_zipIdx]at this;exact this
theorem gN (g:List D)(G:Int):((aj g G).map (·.2)).Nodup:=by
 have h1:(g.zipIdx.map (·.2)).Nodup:=by rw[List.zipIdx_map_snd];exact List.nodup_range'
 exact List.Nodup.sublist (List.Sublist.map _ (List.filter_sublist)) h1
def bZ (G:List D)(g:Int):List (D×Nat):=(aj G g).filter λx=>!bC x.1
def Hl (G:List D)(g:Int):List (D×Nat):=eO (λx=>bJ (kA x)) (bZ G g)
theorem A1 (h:bJ (kA a)=bJ (kA b)):a.2=b.2:=by
 have h:[aG a.1,(a.2:Int)]=[aG b.1,(b.2:Int)]:=h;injection h with _ h;injection h with h;omega
theorem C0 (ha:a∈aj rows known)(hb:b∈aj rows known)(h:a.2=b.2):a=b:=by
 have h1:=df ha;have h2:=df hb;rw[h,h2]at h1;exact Prod.ext (vK h1).symm h
theorem t8 (g:eB rows)(G:Int):fz [.tup rows,.int G]=lT ((Hl rows G).map λx=>.int x.2):=by
 have hl:=g.1;have K5:=j0 rows G;have O:∀x∈aj rows G,iX rows (x.2:Int)=some x.1/\kn x.1:=λx hx=>⟨jz (df hx),g.2 _ (vL (df hx))⟩;have hc:=kc (fi:=cz (fA cX (fV 0 (fV 1 ag)))) (nT:=1) (cap:=[0]) (tg:=dC 0) (c:=be (f2 kI (fA aX (ab (f2 cw (af 1) (af 0)) ag)) (fC .non))) (fe:=af 0) (ρ:=[sT rows,sI G,none]) (aj rows G) (λx=>.int x.2) (λx=>!bC x.1) (λx=>.int x.2)
  (by
   show(fA cX (fV 0 (fV 1 ag)) _).bind _=_;rw[aY [.tup rows,.int G] rfl (nO rows g.rp g.le G)];rfl) (by omega) λx hx=>by
   obtain⟨ha,U⟩:=O x hx;refine⟨_,rfl,eD (bd (vp x.1) .non (aY [x.1] (by simp[cL,ha]) (xz U)) rfl ?_),λ_=>⟨false,by simp[cL]⟩⟩;unfold vp;cases bC x.1<;>simp[ye]
 have Fh:bR (cz (fA cX (fV 0 (fV 1 ag)))) 1 [0] (dC 0) (be (f2 kI (fA aX (ab (f2 cw (af 1) (af 0)) ag)) (fC .non))) (af 0) [sT rows,sI G,none]=lT ((bZ rows G).map λx=>.int x.2):=hc;have D0:bj ((bZ rows G).map λx=>D.int x.2)=true:=cn λd hd=>by obtain⟨x,_,rfl⟩:=vO hd;rfl
 have Ba:(bZ rows G).length<=60:=vR (vM _ _) (by omega);have M:∀x∈bZ rows G,x∈aj rows G/\bC x.1=false:=λx hx=>by
  obtain⟨h1,h2⟩:=vN hx;exact⟨h1,by simpa using h2⟩
 have hm:∀ρ:DL.Env,ρ[0]? = some (sT rows)->gG (sW [0] (fA eG (fV 1 (fV 0 ag))) ρ) ((bZ rows G).map λx=>.int x.2)=some ((bZ rows G).map λx=>.tup [.int (aG x.1),.int x.2]):=λρ h0=>
  gs (bZ rows G) λx hx=>by
   obtain⟨h1,h2⟩:=M x hx;obtain⟨ha,U⟩:=O x h1;have hd:=xz U;unfold vp at hd;rw[h2,if_neg (by decide)]at hd;have hr:eG [.tup rows,.int x.2]=sT [.int (aG x.1),.int x.2]:=au rfl (a9 (aY [.int (aG x.1),.int x.2] (aR (d:=.int (aG x.1)) (b:=false) (aY [x.1] (by simp[ha]) hd) rfl) (by simp[sizeLine])));show(fA eG _ _).map _=_;rw[aY [.tup rows,.int x.2] (by simp[cL,h0]) hr];rfl
 have hk:ca ((bZ rows G).map λx=>D.tup [.int (aG x.1),.int x.2])=some ((bZ rows G).map kA):=dI _ λx _=>rfl;have hz:((bZ rows G).map kA).zip ((bZ rows G).map λx=>D.int x.2)=(bZ rows G).map λx=>(kA x,D.int x.2):=by rw[List.zip_map']
 have IP:((bZ rows G).map (·.2)).Nodup:=List.Nodup.sublist (List.Sublist.map _ (List.filter_sublist)) (gN rows G);have T:((bZ rows G).map kA).length<64/\cA ((bZ rows G).map kA)=true/\bX ((bZ rows G).map kA)=true/\(((bZ rows G).map kA).map bJ).Nodup:=by
  refine⟨by rw[vI];omega,rb _,?_,?_⟩
  ·unfold bX;rw[Bool.or_eq_true];left;simp[List.all_eq_true,kA]
  ·rw[List.map_map];exact List.Pairwise.map _ (λa b h e=>h (A1 e)) (List.pairwise_map.mp IP)
 refine au rfl (cN Fh D0 (a9 ?_));show(mU (af 2) _ _)=_;unfold mU;show((some (D.lst ((bZ rows G).map λx=>D.int x.2),false)).bind _)=_;simp only[vJ];rw[hm _ rfl];simp only[vJ];rw[hk];simp only[vJ];rw[if_pos T];unfold im;rw[hz];have key:((Hl rows G).map λx=>(kA x,D.int x.2))=eO (λp:List At×D=>bJ p.1) ((bZ rows G).map λx=>(kA x,D.int x.2)):=by
  refine gg _ (λx hx y hy e=>?_) ((bN _ _).map _) ?_
  ·obtain⟨a,ha,rfl⟩:=vO hx;obtain⟨b,hb,rfl⟩:=vO hy;rw[C0 (M a ha).1 (M b hb).1 (A1 e)]
  ·exact List.pairwise_map.mpr (fu _ _)
 rw[←key,List.map_map];rfl
structure Cl where
 o:Str
 p:Str
 s:Int
 u:Option Int
 n:Nat
noncomputable def uD:Option Int->D
 |none=>.non
 |some x=>.int x
def aB (c:Cl):D:=.tup [.str c.o,.str c.p,.int c.s,uD c.u,.int c.n]
theorem C1 (u:Option Int):aT (uD u)=true:=by cases u<;>rfl
theorem ko (c:Cl):aT (aB c)=true:=by simp[aB,C1]
theorem fD (cs:List Cl):bj (cs.map aB)=true:=cn λd hd=>by obtain⟨c,_,rfl⟩:=vO hd;exact ko c
noncomputable def dz (c:Cl)(day:Int):Bool:=decide (c.s<=day) && (match c.u with|none=>true|some x=>decide (day<x))
theorem Na (d e f g:D)(r:List D):iX (d::e::f::g::r) 3=some g:=by have:=io (xs:=d::e::f::g::r) (j:=3) (by simp);simpa using this
theorem Lv (d e f g h:D)(r:List D):iX (d::e::f::g::h::r) 4=some h:=by have:=io (xs:=d::e::f::g::h::r) (j:=4) (by simp);simpa using this
theorem FF (c:Cl):cw (aB c) (.int 0)=sS c.o:=by simp[aB,qZ]
theorem EZ (c:Cl):cw (aB c) (.int 1)=sS c.p:=by simp[aB,Au]
theorem Hm (c:Cl):cw (aB c) (.int 2)=sI c.s:=by simp[aB,FD]
theorem Lx (c:Cl):cw (aB c) (.int 3)=some (uD c.u,false):=by simp[aB,Na]
theorem Hn (c:Cl):cw (aB c) (.int 4)=sI c.n:=by simp[aB,Lv]
theorem cO (ds:List D)(h:ds.length<=100):ba ds=sT ds:=if_pos (bY (by omega))
theorem lg (ds:List D)(h:ds.length<=100):bD ds=lT ds:=if_pos (bY (by omega))
theorem C2 (s day:Int)(u:Option Int):kU [.int day,.tup [.int s,uD u]]=sO (decide (s<=day) && (match u with|none=>true|some x=>decide (day<x))):=by
 refine au rfl (a9 (kR (b1:=false) (by simp[qZ]) λ_=>?_));cases u with
 |none=>exact xj (p:=true) (q:=true) (b1:=false) (by simp[Au,uD]) (by simp)
 |some x=>exact xj (p:=false) (q:=decide (day<x)) (b1:=false) (by simp[Au,uD]) λ_=>by simp[Au,uD]
theorem nS (c:Cl)(day:Int):bQ [aB c,.int day]=sO (dz c day) :=
 au rfl (a9 (aY [.int day,.tup [.int c.s,uD c.u]] (ee rfl (ee (aY [.int c.s,uD c.u] (aR (bd (aB c) (.int 2) rfl rfl (Hm c)) (aR (bd (aB c) (.int 3) rfl rfl (Lx c)) rfl)) (cO _ (by simp))) rfl)) (C2 c.s day c.u)))
theorem t9 (c:Cl):cj [aB c]=sT [.int c.s,.int c.n] :=
 au rfl (a9 (aY [.int c.s,.int c.n] (aR (bd (aB c) (.int 2) rfl rfl (Hm c)) (aR (bd (aB c) (.int 4) rfl rfl (Hn c)) rfl)) (cO _ (by simp))))
theorem re (c:Cl):ew [aB c]=sT [.str c.o,.int c.s,.int c.n] :=
 au rfl (a9 (aY [.str c.o,.int c.s,.int c.n] (aR (bd (aB c) (.int 0) rfl rfl (FF c)) (aR (bd (aB c) (.int 2) rfl rfl (Hm c)) (aR (bd (aB c) (.int 4) rfl rfl (Hn c)) rfl))) (cO _ (by simp))))
noncomputable def kS (c:Cl):List At:=[.i c.s,.i c.n]
def i7:Cl->List Cl->Cl
 |b,[]=>b
 |b,x::r=>if aL (kS x) (kS b)=some true then i7 x r else i7 b r
def iA:Cl->List Cl->Cl
 |b,[]=>b
 |b,x::r=>if aL (kS b) (kS x)=some true then iA x r else iA b r
theorem nU:∀(r:List Cl)(b:Cl),je (kS b,aB b) (r.map λx=>(kS x,aB x))=aB (i7 b r)
 |[],b=>rfl
 |x::r,b=>by
  rw[uZ,je,i7];split
  ·exact nU r x
  ·exact nU r b
theorem nV:∀(r:List Cl)(b:Cl),jS (kS b,aB b) (r.map λx=>(kS x,aB x))=aB (iA b r)
 |[],b=>rfl
 |x::r,b=>by
  rw[uZ,jS,iA];split
  ·exact nV r x
  ·exact nV r b
theorem x0 (cs:List Cl):cA (cs.map kS)=true:=by
 unfold cA;simp[List.all_eq_true,kS,Ay]
theorem nW (ρ:DL.Env)(cs:List Cl):gG (oD cj ρ) (cs.map aB)=some (cs.map λc=>.tup [.int c.s,.int c.n]):=gs cs λc _=>by
 show(cj [aB c]).map _=_;rw[t9];rfl
theorem lE (cs:List Cl):ca (cs.map λc=>D.tup [.int c.s,.int c.n])=some (cs.map kS):=dI cs λc _=>rfl
theorem A2 (e:f ρ=some (.lst ((b::r).map aB),bb)):pC f (oD cj) ρ=some (aB (i7 b r),false):=by
 unfold pC EM;rw[e,vJ];dsimp only;rw[nW,vJ,lE,vJ,if_pos (x0 _)];have:((b::r).map kS).zip ((b::r).map aB)=(kS b,aB b)::r.map λx=>(kS x,aB x):=by rw[List.zip_map'];rfl
 rw[this];show some (je _ _,false)=_;rw[nU]
theorem Fa (e:f ρ=some (.lst ((b::r).map aB),bb)):pB f (oD cj) ρ=some (aB (iA b r),false):=by
 unfold pB EM;rw[e,vJ];dsimp only;rw[nW,vJ,lE,vJ,if_pos (x0 _)];have:((b::r).map kS).zip ((b::r).map aB)=(kS b,aB b)::r.map λx=>(kS x,aB x):=by rw[List.zip_map'];rfl
 rw[this];show some (jS _ _,false)=_;rw[nV]
def eJ (rl:Str)(b:Cl)(r:List Cl):Cl:=if rl = "last" then iA b r else i7 b r
theorem A3 (rl:Str)(b:Cl)(r:List Cl):jx [.lst ((b::r).map aB),.str rl]=sS (eJ rl b r).p:=by
 unfold eJ;by_cases h:rl = "last"
 ·rw[if_pos h];exact au rfl (cP (aW (a:=rl) (bb:=false) rfl (decide_eq_true h)) (a9 (bd (aB (iA b r)) (.int 1) (Fa (bb:=false) rfl) rfl (EZ _))))
 ·rw[if_neg h];exact au rfl (bx (aW (a:=rl) (bb:=false) rfl (decide_eq_false h)) (a9 (bd (aB (i7 b r)) (.int 1) (A2 (bb:=false) rfl) rfl (EZ _))))
theorem nX:∀(r:List Cl)(b:Cl),i7 b r∈b::r
 |[],b=>by simp[i7]
 |x::r,b=>by
  rw[i7];split
  ·exact mZ _ (nX r x)
  ·rcases vP (nX r b)with h|h
   ·rw[h];exact mX
   ·exact mZ _ (mZ _ h)
theorem nY:∀(r:List Cl)(b:Cl),iA b r∈b::r
 |[],b=>by simp[iA]
 |x::r,b=>by
  rw[iA];split
  ·exact mZ _ (nY r x)
  ·rcases vP (nY r b)with h|h
   ·rw[h];exact mX
   ·exact mZ _ (mZ _ h)
theorem pV (rl:Str)(b:Cl)(r:List Cl):eJ rl b r∈b::r:=by
 unfold eJ;split
 ·exact nY r b
 ·exact nX r b
noncomputable def oE (cs:List Cl)(o:Str)(day:Int):List Cl:=cs.filter λc=>decide (c.o=o) && dz c day
def fE (cs:List Cl):List Str:=ig (fH (cs.map (·.p)))
def Fb:List Cl->Nat
 |[]=>0
 |b::r=>(i7 b r).n
def gU (rl:Str):List Cl->D
 |[]=>.tup [.str "none"]
 |b::r=>if 1<(fE (b::r)).length/\rl = "open" then .tup [.str "parted",.lst ((fE (b::r)).map .str)]
  else .tup [.str "one",.str (eJ rl b r).p,.int (Fb ((b::r).filter λc=>decide (c.p=(eJ rl b r).p)))]
def pW (cs:List Cl)(o rl:Str)(day:Int):D:=gU rl (oE cs o day)
theorem C3 {z:Str}:fH (z::zs)≠[]:=by
 have:∀(G:List Str)(g:List Str),z∈g->z∈G.foldl gF g:=λG=>by
  induction G with
  |nil=>intro g h;exact h
  |cons a l M=>intro g h;exact M _ (mH.mpr (.inl h))
 have h:=this zs (gF [] z) (mH.mpr (.inr rfl));intro e;unfold fH at e;rw[List.foldl_cons]at e;rw[e]at h;cases h
theorem lF:ak [row h ("root" : Str) [.str o,.int m,.int f,.str rl],.str "office"]=sS o:=bc (i:=0) dm rfl
theorem yA:ak [row h ("root" : Str) [.str o,.int m,.int f,.str rl],.str "rule"]=sS rl:=bc (i:=3) dm rfl
theorem nZ (zs:List Str):dZ (zs.map .str)=some zs:=by
 induction zs with
 |nil=>rfl
 |cons z zs g=>simp[g]
noncomputable def D0:D->Bool
 |.tup [_,.lst _]=>true
 |_=>false
theorem kq (cs:List Cl)(hl:cs.length<=60)(day:Int):di [.lst (cs.map aB),row h ("root" : Str) [.str o,.int m,.int f,.str rl],.int day]=some (pW cs o rl day,D0 (pW cs o rl day)):=by
 let rt:D:=row h ("root" : Str) [.str o,.int m,.int f,.str rl];have h1:=kc (fi:=cz (af 0)) (nT:=1) (cap:=[2,1]) (tg:=dC 0) (c:=cu (be (f2 dF (bP 0 0) (fA ak (fV 2 (ab (fS "office") ag))))) (be (fA bQ (fV 0 (fV 1 ag))))) (fe:=af 0)
  (ρ:=[sL (cs.map aB),some (rt,false),sI day,none,none,none,none]) cs aB (λc=>decide (c.o=o) && dz c day) aB (by simp) (by omega) λc hc=>by
   refine⟨_,rfl,bS (eD (bd (.str c.o) (.str o) (bd (aB c) (.int 0) (by simp[cL]) rfl (FF c)) (aY [rt,.str "office"] (by simp[cL]) lF) (by simp))) λ_=>eD (aY [aB c,.int day] (by simp[cL]) (nS c day)),λ_=>⟨false,by simp[cL]⟩⟩
 have O:bR (cz (af 0)) 1 [2,1] (dC 0) (cu (be (f2 dF (bP 0 0) (fA ak (fV 2 (ab (fS "office") ag))))) (be (fA bQ (fV 0 (fV 1 ag))))) (af 0) [sL (cs.map aB),some (rt,false),sI day,none,none,none,none]=lT ((oE cs o day).map aB):=h1;have U:(oE cs o day).length<=60:=vR (vM _ _) hl;unfold pW;generalize oE cs o day=al at O U;have h2:∀ρ:DL.Env,ρ[3]? = some (lT (al.map aB))->f1 cS (bR (cz (af 3)) 1 [] (dC 0) gR (bP 0 1)) ρ=lT ((fE al).map .str):=λρ h3=>by
  have hc:=pJ (fi:=cz (af 3)) (nT:=1) (cap:=[]) (tg:=dC 0) (fe:=bP 0 1) (ρ:=ρ) al aB (λc=>.str c.p) (by simp[h3]) (by omega) λc hc=>⟨_,rfl,false,bd (aB c) (.int 1) (by simp[cL]) rfl (EZ c)⟩;have e2:al.map (λc=>D.str c.p)=(al.map (·.p)).map .str:=by rw[List.map_map];rfl
  rw[e2]at hc;unfold f1;rw[hc,vJ];show(dZ ((al.map (·.p)).map .str)).bind _=_;rw[nZ,vJ,if_pos (by rw[vI];omega)];rfl
 have yL:bj ((fE al).map D.str)=true:=fP _;refine au rfl (cN (ds:=al.map aB) O (fD al) (cN (ds:=(fE al).map .str) (h2 _ rfl) yL ?_));cases al with
 |nil=>exact cP (eD (by simp[fE,fH,ig])) (a9 (aY [.str "none"] rfl (cO _ (by simp))))
 |cons b r=>
  have AZ:(fE (b::r)).length≠0:=by
   unfold fE;rw[(cf _).length_eq];intro e;exact C3 (List.length_eq_zero_iff.mp e)
  refine bx (eD (by simp[AZ])) ?_;have g:∀ρ:DL.Env,ρ[1]? = some (some (rt,false))->fA ak (fV 1 (ab (fS "rule") ag)) ρ=sS rl:=λρ q1=>aY [rt,.str "rule"] (by simp[q1]) yA;by_cases hp:1<(fE (b::r)).length/\rl = "open"
  ·have:gU rl (b::r)=.tup [.str "parted",.lst ((fE (b::r)).map .str)]:=by rw[gU,if_pos hp]
   rw[this];exact cP (bS (p:=true) (q:=true) (eD (by simp;omega)) λ_=>aW (bb:=false) (g _ rfl) (decide_eq_true hp.2)) rfl
  ·have:gU rl (b::r)=.tup [.str "one",.str (eJ rl b r).p,.int (Fb ((b::r).filter λc=>decide (c.p=(eJ rl b r).p)))]:=by rw[gU,if_neg hp]
   rw[this];have G:cu (be (f2 Ez (fA eQ (fV 4 ag)) (fI 1))) (be (f2 dF (fA ak (fV 1 (ab (fS "rule") ag))) (fS "open"))) [sL (cs.map aB),some (rt,false),sI day,lT ((b::r).map aB),lT ((fE (b::r)).map .str),none,none]=some false:=by
    by_cases h5:1<(fE (b::r)).length
    ·exact bS (p:=true) (q:=false) (eD (by simp;omega)) λ_=>aW (bb:=false) (g _ rfl) (decide_eq_false λe=>hp ⟨h5,e⟩)
    ·exact bS (p:=false) (q:=false) (eD (by simp;omega)) (by simp)
   have T:=pV rl b r;let ch:=eJ rl b r;have h6:=kc (fi:=cz (af 3)) (nT:=1) (cap:=[5]) (tg:=dC 0) (c:=be (f2 dF (bP 0 1) (af 1))) (fe:=af 0) (ρ:=[sL (cs.map aB),some (rt,false),sI day,lT ((b::r).map aB),lT ((fE (b::r)).map .str),sS ch.p,none]) (b::r) aB (λc=>decide (c.p=ch.p)) aB (by simp) (by omega) λc hc=>⟨_,rfl,eD (bd (.str c.p) (.str ch.p) (bd (aB c) (.int 1) (by simp[cL]) rfl (EZ c)) (by simp[cL]) (by simp)),λ_=>⟨false,by simp[cL]⟩⟩;obtain⟨b2,M,hf⟩:∃b2 M,(b::r).filter (λc=>decide (c.p=ch.p))=b2::M:=by
    cases hq:(b::r).filter (λc=>decide (c.p=ch.p)) with
    |nil=>
     have:=List.filter_eq_nil_iff.mp hq _ T;simp[ch]at this
    |cons b2 M=>exact⟨b2,M,rfl⟩
   rw[hf]at h6 ⊢;refine bx G (iL (.str ch.p) (aY [.lst ((b::r).map aB),.str rl] (ee (by simp) (aR (g _ rfl) rfl)) (A3 rl b r)) rfl (iL (aB (i7 b2 M)) (A2 (bb:=true) h6) (ko _) (a9 (aY [.str "one",.str ch.p,.int (i7 b2 M).n] (ee rfl (ee rfl (aR (bd (aB (i7 b2 M)) (.int 4) rfl rfl (Hn _)) rfl))) (cO _ (by simp))))))
def D1:D->D
 |.tup ds=>.tup (lL ds none (some 2))
 |d=>d
def tE (cs:List Cl)(o rl p:Str)(day:Int):Bool:=cB (D1 (pW cs o rl day)) (.tup [.str "one",.str p])
theorem oe (n:Nat)(zs:List Str):(zs.map D.str).all (ay n)=true:=by
 induction zs with
 |nil=>rfl
 |cons a l g=>simp
theorem yB (rl:Str)(g:List Cl):∃ds,gU rl g=.tup ds/\ds.all (ay 5)=true:=by
 cases g with
 |nil=>exact⟨_,rfl,by simp⟩
 |cons b r=>
  rw[gU];split
  ·exact⟨_,rfl,by simp only[List.all_cons,List.all_nil,ay,Bool.and_true,Bool.true_and];exact oe _ _⟩
  ·exact⟨_,rfl,by simp⟩
theorem A4 (h:ds.all (ay 5)=true):(lL ds lo hi).all (ay 5)=true:=by
 rw[List.all_eq_true]at h ⊢;exact λd hd=>h d (List.mem_of_mem_drop (List.mem_of_mem_take hd))
theorem lh (h:ds.all (ay 5)=true):ay 40 (.tup ds)=true:=gL 6 40 _ (by decide) (by simpa only[ay]using h)
theorem C4 (cs:List Cl)(hl:cs.length<=60)(p:Str)(day:Int):eV [.lst (cs.map aB),row h ("root" : Str) [.str o,.int m,.int f,.str rl],.str p,.int day]=sO (tE cs o rl p day):=by
 have hb:=kq cs hl (h:=h) (o:=o) (rl:=rl) (m:=m) (f:=f) day;obtain⟨ds,e,hd⟩:=yB rl (oE cs o day);have g:pW cs o rl day=.tup ds:=e;refine au rfl (a9 (bd (D1 (pW cs o rl day)) (.tup [.str "one",.str p]) ?_ (by simp[sizeLine]) ?_))
 ·have hc:=ma (F:=di) (fa:=fV 0 (fV 1 (fV 3 ag))) (ρ:=[sL (cs.map aB),some (row h ("root" : Str) [.str o,.int m,.int f,.str rl],false),sS p,sI day]) (ds:=[.lst (cs.map aB),row h ("root" : Str) [.str o,.int m,.int f,.str rl],.int day]) rfl hb;rw[g]at hc ⊢;show BV (fA di (fV 0 (fV 1 (fV 3 ag)))) pc (hW (fI 2)) _=_;unfold BV;rw[show(List.map (λd=>some (d,false)) [D.lst (cs.map aB),row h ("root" : Str) [.str o,.int m,.int f,.str rl],.str p,.int day]++List.replicate 0 none:DL.Env)=[sL (cs.map aB),some (row h ("root" : Str) [.str o,.int m,.int f,.str rl],false),sS p,sI day]from rfl,hc];rfl
 ·unfold tE dF;rw[if_pos];rw[g];exact⟨lh (A4 hd),lh (by simp)⟩
noncomputable def am (j:Nat):D->Str
 |.tup [_,.tup (_::az)]=>match az[j]? with
  |some (.str s)=>s
  |_=>("" : Str)
 |_=>("" : Str)
noncomputable def tF (j:Nat):D->Int
 |.tup [_,.tup (_::az)]=>match az[j]? with
  |some (.int s)=>s
  |_=>0
 |_=>0
theorem Cd.root_of (h:Cd ("root" : Str) r):∃o rl,∃m f:Int,r=[.str o,.int m,.int f,.str rl]:=by
 generalize hk:("root" : Str)=k at h;cases h with
 |root o rl m f=>exact⟨o,rl,m,f,rfl⟩
 |named=>exact iS hk
 |chosen=>exact iS hk
 |heir=>exact iS hk
 |three _ hh=>rcases hh with rfl|rfl|rfl<;>exact iS hk
 |other _ hh=>rcases hh with rfl|rfl|rfl|rfl|rfl<;>exact iS hk
theorem pX {κ α:Type}[DecidableEq κ]{ks:List κ}{k:κ}{x y:α}:∀ {xs:List α},y∈bE ks xs k x->y=x∨y∈xs:=by
 intro xs h;unfold bE at h;split at h
 ·rename_i g;clear g;induction ks generalizing xs with
  |nil=>simp at h
  |cons a ks G=>
   cases xs with
   |nil=>simp at h
   |cons b xs=>
    rw[List.zipWith_cons_cons,List.mem_cons]at h;rcases h with h|h
    ·split at h
     ·exact .inl h
     ·exact .inr (by rw[h];exact mX)
    ·rcases G h with h|h
     ·exact .inl h
     ·exact .inr (mZ _ h)
 ·rcases List.mem_append.mp h with h|h
  ·exact .inr h
  ·exact .inl (uU h)
theorem pY:∀(l:List (bu×D))(a:List bu×List D)(y:D),y∈(l.foldl jT a).2->y∈a.2∨∃p∈l,p.2=y
 |[],a,y,h=>.inl h
 |p::l,a,y,h=>by
  rw[List.foldl_cons]at h;rcases pY l _ y h with h|⟨q,hq,e⟩
  ·rcases pX (show y∈bE a.1 a.2 p.1 p.2 from h)with h|h
   ·exact .inr ⟨p,mX,h.symm⟩
   ·exact .inl h
  ·exact .inr ⟨q,mZ _ hq,e⟩
theorem pZ {α:Type}(f:α->Str)(g:α->D):∀(l:List α),fY (l.map λx=>D.tup [.str (f x),g x])=some (l.map λx=>(.inr (f x),g x))
 |[]=>rfl
 |x::l=>by
  rw[uZ,fY,pZ f g l];rfl
theorem oh {κ:Type}[DecidableEq κ]:∀ {ks:List κ}{vs:List D}{k:κ}{v:D},aV ks vs k=some v->v∈vs
 |k'::ks,d::ds,k,v,h=>by
  unfold aV at h;split at h
  ·cases h;exact mX
  ·exact mZ _ (oh h)
 |[],_,_,_,h=>by simp[aV]at h
 |_::_,[],_,_,h=>by simp[aV]at h
noncomputable def ce (KL:List (D×Nat)):List (bu×D):=(KL.filter λx=>bC x.1).map λx=>(.inr (am 0 x.1),x.1)
def iB (KL:List (D×Nat))(o:Str):Option D:=aV (aU (ce KL)).1 (aU (ce KL)).2 (.inr o)
theorem j3 (g:kn r)(h:bC r=true):∃a o rl,∃m f:Int,r=row a ("root" : Str) [.str o,.int m,.int f,.str rl]:=by
 obtain⟨a,k,az,rfl,d⟩:=g;have hk:k = "root":=of_decide_eq_true h;subst hk;obtain⟨o,rl,m,f,rfl⟩:=d.root_of;exact⟨a,o,rl,m,f,rfl⟩
theorem cx (g:eB rows)(hx:x∈aj rows known):iX rows (x.2:Int)=some x.1/\kn x.1:=⟨jz (df hx),g.2 _ (vL (df hx))⟩
theorem lG (g:eB rows)(h:iB (aj rows known) o=some v):∃a G rl,∃m f:Int,v=row a ("root" : Str) [.str G,.int m,.int f,.str rl]:=by
 have hv:=oh h;rcases pY _ ([],[]) v hv with h|⟨p,hp,e⟩
 ·cases h
 ·obtain⟨x,hx,rfl⟩:=vO hp;obtain⟨h1,h2⟩:=vN hx;rw[←e];exact j3 (cx g h1).2 h2
theorem tG (g:eB rows)(G:Int):iM [.tup rows,.int G]=sF (.dk (aU (ce (aj rows G))).1 (aU (ce (aj rows G))).2):=by
 have hl:=j0 rows G;have O:=g.1;have h1:=pJ (fi:=cz (fA cX (fV 0 (fV 1 ag)))) (nT:=1) (cap:=[0]) (tg:=dC 0) (fe:=f2 cw (af 1) (af 0)) (ρ:=[sT rows,sI G,none]) (aj rows G) (λx=>.int x.2) Prod.fst
  (by
   show(fA cX (fV 0 (fV 1 ag)) _).bind _=_;rw[aY [.tup rows,.int G] rfl (nO rows g.rp g.le G)];rfl) (by omega) λx hx=>by
   have ha:=(cx g hx).1;exact⟨_,rfl,false,by simp[cL,ha]⟩
 have hn:bj ((aj rows G).map Prod.fst)=true:=cn λd hd=>by
  obtain⟨x,hx,rfl⟩:=vO hd;exact(cx g hx).2.rp.flat
 have h2:=kc (fi:=cz (af 2)) (nT:=1) (cap:=[]) (tg:=dC 0) (c:=be (f2 dF (fA aK (fV 0 ag)) (fS "root"))) (fe:=fA ba (ab (fA ak (fV 0 (ab (fS "office") ag))) (fV 0 ag)))
  (ρ:=[sT rows,sI G,lT ((aj rows G).map Prod.fst)]) (aj rows G) Prod.fst (λx=>bC x.1) (λx=>.tup [.str (am 0 x.1),x.1]) (by simp) (by omega) λx hx=>by
   have M:=(cx g hx).2;refine⟨_,rfl,aW (a:=kindOf x.1) (bb:=false) (aY [x.1] rfl (vq M)) rfl,λhp=>⟨false,?_⟩⟩;obtain⟨a,o,rl,m,f,e⟩:=j3 M hp;refine aY [.str (am 0 x.1),x.1] (ee (aY [x.1,.str "office"] rfl ?_) rfl) (cO _ (by simp));rw[e];exact lF
 refine au rfl (cN (ds:=(aj rows G).map Prod.fst) h1 hn (a9 (aY [.lst (((aj rows G).filter λx:D×Nat=>bC x.1).map λx:D×Nat=>D.tup [.str (am 0 x.1),x.1])] (aR h2 rfl) ?_)));rw[gH,pZ (λx:D×Nat=>am 0 x.1) Prod.fst];rfl
def lP:D×Nat->List (D×Nat)->D×Nat
 |b,[]=>b
 |b,x::r=>if aL (kA x) (kA b)=some true then lP x r else lP b r
theorem rf:∀(r:List (D×Nat))(b:D×Nat),je (kA b,.int b.2) (r.map λx=>(kA x,D.int x.2))=.int (lP b r).2
 |[],b=>rfl
 |x::r,b=>by
  rw[uZ,je,lP];split
  ·exact rf r x
  ·exact rf r b
def fF (KL:List (D×Nat))(p:Str)(day:Int)(i:Nat):Bool:=match KL.filter (λx=>told cH p day x.1) with
 |[]=>false
 |b::r=>decide ((lP b r).2=i)
theorem A5 (g:eB M)(G:Int)(hx:x∈aj M G)(e:x.1=row a ("death" : Str) [.int d,.str p]):dH [.tup M,.int G,.int x.2]=sO (fF (aj M G) p d x.2):=by
 have ha:=(cx g hx).1;have gx:=(cx g hx).2;have ht:=ra M g.rp g.le G cH gM p d;have T:ak [x.1,.str "person"]=sS p:=by rw[e];exact bc (i:=1) dm rfl
 have U:aX [x.1]=sI d:=by rw[e];exact gp (.inl (by decide +kernel)) rfl
 have O:x∈lO M G cH p d:=List.mem_filter.mpr ⟨hx,by rw[e];simp[told,row,cH,pU]⟩;have OO:fF (aj M G) p d x.2=match lO M G cH p d with|[]=>false|b::r=>decide ((lP b r).2=x.2):=rfl
 have key:∀y∈lO M G cH p d,∃h k dd,M[y.2]? = some (row h k [.int dd,.str p])/\y.1=row h k [.int dd,.str p]/\bT k=true:=λy hy=>by
  obtain⟨hg,K6⟩:=xw hy;obtain⟨h,k,dd,e2,h3,_⟩:=nR gM (g.rp _ (vL hg)) K6;exact⟨h,k,dd,by rw[hg,e2],e2,h3⟩
 rw[OO];cases hs:lO M G cH p d with
 |nil=>rw[hs]at O;cases O
 |cons b r=>
  rw[hs]at ht key;have hm:∀ρ:DL.Env,ρ[0]? = some (sT M)->gG (sW [0] (fA eG (fV 1 (fV 0 ag))) ρ) ((b::r).map λy=>.int y.2)=some ((b::r).map λy=>.tup [.int (aG y.1),.int y.2]):=λρ h0=>
   gs (b::r) λy hy=>by
    obtain⟨h,k,dd,hg,e2,h3⟩:=key y hy;show(fA eG _ _).map _=_;rw[aY [.tup M,.int y.2] (by simp[cL,h0]) (xx hg h3),e2];rfl
  have hk:ca ((b::r).map λy=>D.tup [.int (aG y.1),.int y.2])=some ((b::r).map kA):=dI _ λy _=>rfl;have hz:((b::r).map kA).zip ((b::r).map λy=>D.int y.2)=(kA b,D.int b.2)::r.map λy=>(kA y,D.int y.2):=by rw[List.zip_map'];rfl
  have D0:bj ((b::r).map λy=>D.int y.2)=true:=cn λd hd=>by obtain⟨y,_,rfl⟩:=vO hd;rfl
  refine au rfl (iL x.1 (by simp[ha]) gx.rp.flat (cN (ds:=(b::r).map λy=>.int y.2) (aY [.tup M,.int G,.tup (cH.map .str),.str p,.int d] (ee rfl (ee rfl (ee (aY [.str "death"] rfl (cO _ (by simp))) (aR (aY [x.1,.str "person"] rfl T) (aR (aY [x.1] rfl U) rfl))))) ht) D0 (a9 (bd (.int (lP b r).2) (.int x.2) ?_ rfl ?_))))
  ·unfold pC EM;show((some (D.lst ((b::r).map λy=>D.int y.2),false)).bind _)=_;rw[vJ];dsimp only;rw[hm _ rfl,vJ,hk,vJ,if_pos (rb _),hz];show some (je _ _,false)=_;rw[rf]
  ·rw[xm];congr 3;apply decide_eq_decide.mpr;omega
abbrev KL:=List (D×Nat)
noncomputable def oi (K:KL)(p:Str)(day:Int):Bool:=(K.filter λx=>told cH p day x.1).isEmpty
def Ho (K:KL)(p:Str)(day:Int):Bool:=match Dz (K.filter λx=>told km p day x.1) with
 |none=>true
 |some x=>decide (kindOf x.1 = "found")
def rg (K:KL)(r:D):Bool:=dw (kindOf r) && (oi K (y9 r) (aG r) && Ho K (y9 r) (aG r))
def A6 (r:D):Str:=if kindOf r = "named" then am 1 r else am 2 r
noncomputable def rh:List Str:=[("named" : Str),"chosen","heir"]
def bM (K:KL)(g:List Cl)(x:D×Nat):Bool :=
 if kindOf x.1 = "death" then fF K (am 1 x.1) (aG x.1) x.2
 else if kindOf x.1∈rh then match iB K (A6 x.1) with
  |none=>false
  |some v=>if kindOf x.1 = "named" then true else rg K x.1 && tE g (am 0 v) (am 3 v) (am 1 x.1) (aG x.1)
 else false
theorem C5 (G:List D)(g:Int)(p:Str)(day:Int):lf G g p day=oi (aj G g) p day:=rfl
theorem C6 (h:bL r<=known):rd rows known r=rg (aj rows known) r:=by
 unfold rd rg;rw[decide_eq_true h,Bool.true_and];rfl
theorem yC (g:eB rows)(G:Int)(M:List Cl)(AM:M.length<=60)(hx:x∈aj rows G)(T:bC x.1=false):ki [.tup rows,.int G,.lst (M.map aB),.int x.2]=sO (bM (aj rows G) M x):=by
 obtain⟨ha,gx⟩:=cx g hx;have hh:bL x.1<=G:=of_decide_eq_true (vN hx).2;have hf:aT x.1=true:=gx.rp.flat;have hw:∀ρ:DL.Env,ρ[4]? = some (some (x.1,false))->fA aK (fV 4 ag) ρ=sS (kindOf x.1):=λρ h4=>aY [x.1] (by simp[h4]) (vq gx);have O:∀ρ:DL.Env,ρ[4]? = some (some (x.1,false))->be (f2 fj (fA aK (fV 4 ag)) (fA ba (ab (fS "named") (ab (fS "chosen") (ab (fS "heir") ag))))) ρ=some (!decide (kindOf x.1∈rh)):=λρ h4=>
  eD (bd (.str (kindOf x.1)) (.tup (rh.map .str)) (hw ρ h4) (by simp[sizeLine,rh]) (lD _ _))
 by_cases hd:kindOf x.1 = "death"
 ·obtain⟨a,k,az,e,d⟩:=gx;have hk:k = "death":=by rw[e]at hd;exact hd
  subst hk;obtain⟨dd,p,rfl⟩:=d.deed.three (by decide +kernel);have hc:bM (aj rows G) M x=fF (aj rows G) p dd x.2:=by
   unfold bM;rw[if_pos hd,e];rfl
  rw[hc];exact au rfl (iL x.1 (by simp[ha]) hf (cP (aW (bb:=false) (hw _ rfl) (decide_eq_true hd)) (a9 (aY [.tup rows,.int G,.int x.2] rfl (A5 g G hx e)))))
 ·by_cases h3:kindOf x.1∈rh
  ·have K7:ak [x.1,.str "office"]=sS (A6 x.1):=by
    obtain⟨a,k,az,e,d⟩:=gx;rw[e]at h3 hd T ⊢;replace h3:k∈rh:=h3;clear hd T;cases d with
    |root=>exact iS h3
    |named d o p=>exact bc (i:=1) dm rfl
    |chosen d b o p s=>exact bc (i:=2) dm rfl
    |heir d b o p=>exact bc (i:=2) dm rfl
    |three _ hk=>rcases hk with rfl|rfl|rfl<;>exact iS h3
    |other _ hk=>rcases hk with rfl|rfl|rfl|rfl|rfl<;>exact iS h3
   have e5:∀ρ:DL.Env,ρ[0]? = some (sT rows)->ρ[1]? = some (sI G)->ρ[4]? = some (some (x.1,false))->f2 uN (fA iM (fV 0 (fV 1 ag))) (fA ak (fV 4 (ab (fS "office") ag))) ρ=some ((iB (aj rows G) (A6 x.1)).getD .non,false):=λρ q0 q1 q4=>
    bd (.dk (aU (ce (aj rows G))).1 (aU (ce (aj rows G))).2) (.str (A6 x.1)) (aY [.tup rows,.int G] (by simp[q0,q1]) (tG g G)) (aY [x.1,.str "office"] (by simp[q4]) K7) rfl
   cases hr:iB (aj rows G) (A6 x.1) with
   |none=>
    rw[hr]at e5;have hc:bM (aj rows G) M x=false:=by unfold bM;rw[if_neg hd,if_pos h3,hr]
    rw[hc];exact au rfl (iL x.1 (by simp[ha]) hf (bx (aW (bb:=false) (hw _ rfl) (decide_eq_false hd)) (bx (by rw[O _ rfl,decide_eq_true h3];rfl) (iL .non (e5 _ rfl rfl rfl) rfl (cP (eD (bd .non .non rfl rfl (by simp))) (a9 rfl))))))
   |some v=>
    rw[hr]at e5;obtain⟨va,vo,Pw,vm,vf,ev⟩:=lG g hr;have Mq:aT v=true:=by rw[ev];rfl
    have Mr:E4 v .non=sO false:=by rw[ev];simp[row]
    by_cases hn:kindOf x.1 = "named"
    ·have hc:bM (aj rows G) M x=true:=by unfold bM;rw[if_neg hd,if_pos h3,hr];dsimp only;rw[if_pos hn]
     rw[hc];exact au rfl (iL x.1 (by simp[ha]) hf (bx (aW (bb:=false) (hw _ rfl) (decide_eq_false hd)) (bx (by rw[O _ rfl,decide_eq_true h3];rfl) (iL v (e5 _ rfl rfl rfl) Mq (bx (eD (bd v .non rfl rfl Mr)) (cP (aW (bb:=false) (hw _ rfl) (decide_eq_true hn)) (a9 rfl)))))))
    ·have hc:bM (aj rows G) M x=(rg (aj rows G) x.1 && tE M (am 0 v) (am 3 v) (am 1 x.1) (aG x.1)):=by unfold bM;rw[if_neg hd,if_pos h3,hr];dsimp only;rw[if_neg hn]
     have Ms:ak [x.1,.str "by"]=sS (am 1 x.1)/\aX [x.1]=sI (aG x.1):=by
      refine⟨?_,by rw[xz gx];unfold vp;rw[T];rfl⟩;obtain⟨a,k,az,e,d⟩:=gx;rw[e]at h3 hn ⊢;replace h3:k∈rh:=h3;cases d with
      |root=>exact iS h3
      |named=>exact absurd rfl hn
      |chosen d b o p s=>exact bc (i:=1) dm rfl
      |heir d b o p=>exact bc (i:=1) dm rfl
      |three _ hk=>rcases hk with rfl|rfl|rfl<;>exact iS h3
      |other _ hk=>rcases hk with rfl|rfl|rfl|rfl|rfl<;>exact iS h3
     have hs:=A0 rows g.rp g.le G (df hx);rw[C6 hh]at hs;have U:eV [.lst (M.map aB),v,.str (am 1 x.1),.int (aG x.1)]=sO (tE M (am 0 v) (am 3 v) (am 1 x.1) (aG x.1)):=by
      rw[ev];exact C4 M AM _ _
     rw[hc];refine au rfl (iL x.1 (by simp[ha]) hf (bx (aW (bb:=false) (hw _ rfl) (decide_eq_false hd)) (bx (by rw[O _ rfl,decide_eq_true h3];rfl) (iL v (e5 _ rfl rfl rfl) Mq (bx (eD (bd v .non rfl rfl Mr)) (bx (aW (bb:=false) (hw _ rfl) (decide_eq_false hn)) (a9 ?_)))))));exact kR (b1:=false) (aY [.tup rows,.int G,.int x.2] rfl hs) λ_=>aY [.lst (M.map aB),v,.str (am 1 x.1),.int (aG x.1)] (ee rfl (ee rfl (aR (aY [x.1,.str "by"] rfl Ms.1) (aR (aY [x.1] rfl Ms.2) rfl)))) U
  ·have hc:bM (aj rows G) M x=false:=by unfold bM;rw[if_neg hd,if_neg h3]
   rw[hc];exact au rfl (iL x.1 (by simp[ha]) hf (bx (aW (bb:=false) (hw _ rfl) (decide_eq_false hd)) (cP (by rw[O _ rfl,decide_eq_false h3];rfl) (a9 rfl))))
def dJ (g:List Str)(p:Str)(day:Int)(c:Cl):List Cl :=
 if(!decide (c.o∈g) || (!decide (c.p=p) || !(dz c day || decide (day<c.s))))=true then [c]else if c.s<day then [⟨c.o,p,c.s,some day,c.n⟩]else []
noncomputable def bq (G:List Cl)(g:List Str)(p:Str)(day:Int):List Cl:=G.flatMap (dJ g p day)
theorem dL (g:List Str)(p:Str)(day:Int):∀G:List Cl,(bq G g p day).length<=G.length
 |[]=>vT _
 |c::G=>by
  unfold bq;rw[List.flatMap_cons,vA,vE];have h1:=dL g p day G;have h2:(dJ g p day c).length<=1:=by
   unfold dJ;split
   ·simp
   ·split<;>simp
  unfold bq at h1;omega
theorem vt (k:Str)(g:List Str):fj (.str k) (.lst (g.map .str))=sO (!decide (k∈g)):=by
 simp only[fj,fL,vJ,nM];rw[if_pos ⟨rfl,la g⟩]
theorem tH (M:List Cl)(AM:M.length<=60)(G:List Str)(p:Str)(day:Int):mf [.lst (M.map aB),.lst (G.map .str),.str p,.int day]=lT ((bq M G p day).map aB):=by
 obtain⟨ρ',e,v5,rfl⟩:=du (tg:=dC 5) (g:=nF) (λj ρ=>∃v5:OB,ρ=[sL (M.map aB),sL (G.map .str),sS p,sI day,lT ((bq (M.take j) G p day).map aB),v5]) (M.map aB)
  [sL (M.map aB),sL (G.map .str),sS p,sI day,lT [],none] ⟨none,rfl⟩ (by
   rintro j d ρ hd ⟨v5,rfl⟩;rw[vB]at hd;obtain⟨c,hc,rfl⟩:=oY hd;have hj:j<M.length:=(vV hc).1;have et:bq (M.take (j+1)) G p day=bq (M.take j) G p day++dJ G p day c:=by
    unfold bq;rw[List.take_add_one,hc,Option.toList_some,List.flatMap_append,List.flatMap_cons,List.flatMap_nil,uR]
   have iD:(bq (M.take j) G p day).length<=60:=vR (dL G p day _) (by rw[List.length_take];omega);let T:DL.Env:=[sL (M.map aB),sL (G.map .str),sS p,sI day,lT ((bq (M.take j) G p day).map aB),some (aB c,false)];have q0:bP 5 0 T=sS c.o:=bd (aB c) (.int 0) rfl rfl (FF c);have q1:bP 5 1 T=sS c.p:=bd (aB c) (.int 1) rfl rfl (EZ c);have q2:bP 5 2 T=sI c.s:=bd (aB c) (.int 2) rfl rfl (Hm c);have q4:bP 5 4 T=sI c.n:=bd (aB c) (.int 4) rfl rfl (Hn c);have O:gX (be (f2 fj (bP 5 0) (af 1))) (gX (be (f2 yP (bP 5 1) (af 2))) (fJ (gX (be (fA bQ (fV 5 (fV 3 ag)))) (be (f2 Ez (bP 5 2) (af 3)))))) T=some (!decide (c.o∈G) || (!decide (c.p=p) || !(dz c day || decide (day<c.s)))) :=
    ir (eD (bd (.str c.o) (.lst (G.map .str)) q0 rfl (vt _ _))) λ_=>ir (eD (bd (.str c.p) (.str p) q1 rfl (by simp))) λ_=>jZ (ir (eD (aY [aB c,.int day] rfl (nS c day))) λ_=>eD (bd (.int c.s) (.int day) q2 rfl (by simp)))
   by_cases h1:(!decide (c.o∈G) || (!decide (c.p=p) || !(dz c day || decide (day<c.s))))=true
   ·have U:dJ G p day c=[c]:=by unfold dJ;rw[if_pos h1]
    rw[h1]at O;refine⟨_,_,rfl,.inl (jX O (iq (ds:=(bq (M.take j) G p day).map aB) (d:=aB c) (b:=false) rfl rfl (ko c) (bp (by simp;omega)))),some (aB c,false),?_⟩;rw[et,U,uX];rfl
   ·rw[Bool.not_eq_true]at h1;rw[h1]at O;by_cases h2:c.s<day
    ·have U:dJ G p day c=[⟨c.o,p,c.s,some day,c.n⟩]:=by unfold dJ;rw[if_neg (by rw[h1];decide),if_pos h2]
     refine⟨_,_,rfl,.inl (gI O (jX (eD (bd (.int c.s) (.int day) q2 rfl (by simp[h2]))) (iq (ds:=(bq (M.take j) G p day).map aB) (d:=aB ⟨c.o,p,c.s,some day,c.n⟩) (b:=false) rfl (aY [.str c.o,.str p,.int c.s,.int day,.int c.n] (aR q0 (ee rfl (aR q2 (ee rfl (aR q4 rfl))))) (cO _ (by simp))) (ko _) (bp (by simp;omega))))),some (aB c,false),?_⟩;rw[et,U,uX];rfl
    ·have U:dJ G p day c=[]:=by unfold dJ;rw[if_neg (by rw[h1];decide),if_neg h2]
     refine⟨_,_,rfl,.inl (gI O (gI (eD (bd (.int c.s) (.int day) q2 rfl (by simp;omega))) rfl)),some (aB c,false),?_⟩;rw[et,U,uR];rfl)
 have e':dX (dC 5) nF (M.map aB) [sL (M.map aB),sL (G.map .str),sS p,sI day,lT [],none]=some (.nx [sL (M.map aB),sL (G.map .str),sS p,sI day,lT ((bq M G p day).map aB),v5]):=by
  rw[e];have:M.take (M.map aB).length=M:=by rw[vI,List.take_length]
  rw[this]
 exact au rfl (cN (ds:=[]) (by simp[sizeLine]) rfl (cb (fO (ds:=M.map aB) (by simp[k9]) e') (lZ rfl)))
theorem D2 (g:ak [r,.str "office"]=sS o)(hp:ak [r,.str "person"]=sS p)(s:Int)(n:Nat):eA [r,.int s,.int n]=some (aB ⟨o,p,s,none,n⟩,false) :=
 au rfl (a9 (aY [.str o,.str p,.int s,.non,.int n] (aR (aY [r,.str "office"] rfl g) (aR (aY [r,.str "person"] rfl hp) rfl)) (cO _ (by simp))))
theorem yD (g:List Cl)(G:g.length<=60)(n:Nat):fB [.lst (g.map aB),row a ("chosen" : Str) [.int d,.str b,.str o,.str p,.int s],.int n]=lT ((bq g [o] b s++[(⟨o,p,s,none,n⟩:Cl)]).map aB):=by
 let r:D:=row a ("chosen" : Str) [.int d,.str b,.str o,.str p,.int s];have M:ak [r,.str "office"]=sS o:=bc (i:=2) dm rfl;have hp:ak [r,.str "person"]=sS p:=bc (i:=3) dm rfl;have hb:ak [r,.str "by"]=sS b:=bc (i:=1) dm rfl;have hs:ak [r,.str "since"]=sI s:=bc (i:=4) dm rfl;have hl:=dL [o] b s g;refine au rfl (iL (.int s) (aY [r,.str "since"] rfl hs) rfl (cN (ds:=(bq g [o] b s).map aB) (aY [.lst (g.map aB),.lst ([o].map .str),.str b,.int s] (ee rfl (aR (b:=true) (aY [.str o] (aR (aY [r,.str "office"] rfl M) rfl) (lg _ (by simp))) (aR (aY [r,.str "by"] rfl hb) rfl))) (tH g G [o] b s)) (fD _) (a9 ?_)));refine eF (x:=.lst ((bq g [o] b s).map aB)) (y:=.lst [aB ⟨o,p,s,none,n⟩]) (b1:=false) (b2:=true) rfl (aY [aB ⟨o,p,s,none,n⟩] (aR (aY [r,.int s,.int n] rfl (D2 M hp s n)) rfl) (lg _ (by simp))) ?_;rw[uX];exact if_pos (bY (by rw[vI,List.length_singleton];omega))
noncomputable def tI (hk:List (List bu))(hv:List D)(o p:Str):Option Str:=match aV hk hv [.inr o,.inr p] with
 |some (.str h)=>some h
 |_=>none
def cI (K:KL)(hk:List (List bu))(hv:List D)(p:Str)(day:Int)(n:Nat)(o:Str):List Cl:=match tI hk hv o p with
 |some h=>if oi K h day=true then [⟨o,h,day,none,n⟩]else []
 |none=>[]
def cq (g:List Cl)(p:Str)(day:Int):List Str:=ig (fH ((g.filter λc=>decide (c.p=p) && dz c day).map (·.o)))
def oj (K:KL)(g:List Cl)(hk:List (List bu))(hv:List D)(p:Str)(day:Int)(n:Nat):List Cl:=(cq g p day).flatMap (cI K hk hv p day n)
theorem j4 (K:KL)(hk:List (List bu))(hv:List D)(p:Str)(day:Int)(n:Nat)(o:Str):(cI K hk hv p day n o).length<=1:=by
 unfold cI;split
 ·split<;>simp
 ·simp
theorem om {α g:Type}(f:α->List g)(h:∀a,(f a).length<=1):∀l:List α,(l.flatMap f).length<=l.length
 |[]=>vT _
 |a::l=>by
  rw[List.flatMap_cons,vA,vE];have:=h a;have:=om f h l;omega
theorem tJ (g:List Cl)(p:Str)(day:Int):(cq g p day).length<=g.length:=by
 unfold cq;rw[(cf _).length_eq];refine vR (mI _) ?_;rw[vI];exact vM _ _
theorem ri (g:eB rows)(G:Int)(M:List Cl)(AM:M.length<=60)(hk:List (List bu))(hv:List D)(K8:∀v∈hv,∃s,v=.str s)(hx:x∈aj rows G)(e:x.1=row a ("death" : Str) [.int d,.str p]):
  iz [.tup rows,.int G,.lst (M.map aB),.dt hk hv,.int x.2]=lT ((oj (aj rows G) M hk hv p d x.2).map aB):=by
 have ha:=(cx g hx).1;have HW:ak [x.1,.str "person"]=sS p:=by rw[e];exact bc (i:=1) dm rfl
 have AN:aX [x.1]=sI d:=by rw[e];exact gp (.inl (by decide +kernel)) rfl
 have Mt:=tJ M p d;have HX:∀(o:Str)(l:List Cl)(T:OB),l.length<=60->eW [sT rows,sI G,sL (M.map aB),sF (.dt hk hv),sI x.2,sS p,sI d,lT (l.map aB),sS o,T]=some (.nx [sT rows,sI G,sL (M.map aB),sF (.dt hk hv),sI x.2,sS p,sI d,lT ((l++cI (aj rows G) hk hv p d x.2 o).map aB),sS o,some ((aV hk hv [.inr o,.inr p]).getD .non,false)]):=λo l T hl=>by
  have eg:Aj (af 3) (fV 8 (fV 5 ag)) [sT rows,sI G,sL (M.map aB),sF (.dt hk hv),sI x.2,sS p,sI d,lT (l.map aB),sS o,T]=some ((aV hk hv [.inr o,.inr p]).getD .non,false):=by
   simp[fN,sizeLine]
  cases O:aV hk hv [.inr o,.inr p] with
  |none=>
   rw[O]at eg;have ei:cI (aj rows G) hk hv p d x.2 o=[]:=by unfold cI tI;rw[O]
   rw[ei,uR];exact iL .non eg rfl (gI (bS (p:=false) (q:=false) (eD (by simp)) (by simp)) rfl)
  |some v=>
   obtain⟨h,rfl⟩:=K8 v (oh O);rw[O]at eg;have Mu:=t7 rows g.rp g.le G h d;rw[C5]at Mu;have HY:∀ρ:DL.Env,ρ[0]? = some (sT rows)->ρ[1]? = some (sI G)->ρ[6]? = some (sI d)->ρ[9]? = some (sS h)->cu (be (f2 kI (af 9) (fC .non))) (be (fA kg (fV 0 (fV 1 (fV 9 (fV 6 ag)))))) ρ=some (true && oi (aj rows G) h d):=λρ q0 q1 q6 q9=>
    bS (eD (by simp[q9])) λ_=>eD (aY [.tup rows,.int G,.str h,.int d] (by simp[q0,q1,q6,q9]) Mu)
   cases U:oi (aj rows G) h d with
   |false=>
    have ei:cI (aj rows G) hk hv p d x.2 o=[]:=by unfold cI tI;rw[O];dsimp only;rw[U];rfl
    rw[ei,uR];exact iL (.str h) eg rfl (gI (by rw[HY _ rfl rfl rfl rfl,U];rfl) rfl)
   |true=>
    have ei:cI (aj rows G) hk hv p d x.2 o=[⟨o,h,d,none,x.2⟩]:=by unfold cI tI;rw[O];dsimp only;rw[U];rfl
    rw[ei,uX];exact iL (.str h) eg rfl (jX (by rw[HY _ rfl rfl rfl rfl,U];rfl) (iq (ds:=l.map aB) (d:=aB ⟨o,h,d,none,x.2⟩) (b:=false) rfl (aY [.str o,.str h,.int d,.non,.int x.2] rfl (cO _ (by simp))) rfl (bp (by simp;omega))))
 obtain⟨ρ',el,v8,T,rfl⟩:=du (tg:=dC 8) (g:=eW) (λj ρ=>∃v8 T:OB,ρ=[sT rows,sI G,sL (M.map aB),sF (.dt hk hv),sI x.2,sS p,sI d,lT ((((cq M p d).take j).flatMap (cI (aj rows G) hk hv p d x.2)).map aB),v8,T]) ((cq M p d).map .str)
  [sT rows,sI G,sL (M.map aB),sF (.dt hk hv),sI x.2,sS p,sI d,lT [],none,none] ⟨none,none,rfl⟩ (by
   rintro j dd ρ hd ⟨v8,T,rfl⟩;rw[vB]at hd;obtain⟨o,ho,rfl⟩:=oY hd;have hl:(((cq M p d).take j).flatMap (cI (aj rows G) hk hv p d x.2)).length<=60:=vR (om _ (j4 _ _ _ _ _ _) _) (by rw[List.length_take];omega);refine⟨_,_,rfl,.inl (HX o _ T hl),sS o,some ((aV hk hv [.inr o,.inr p]).getD .non,false),?_⟩;rw[List.take_add_one,ho,Option.toList_some,List.flatMap_append,List.flatMap_cons,List.flatMap_nil,uR])
 have e':dX (dC 8) eW ((cq M p d).map .str) [sT rows,sI G,sL (M.map aB),sF (.dt hk hv),sI x.2,sS p,sI d,lT [],none,none]=some (.nx [sT rows,sI G,sL (M.map aB),sF (.dt hk hv),sI x.2,sS p,sI d,lT ((oj (aj rows G) M hk hv p d x.2).map aB),v8,T]):=by
  rw[el];have:(cq M p d).take ((cq M p d).map D.str).length=cq M p d:=by rw[vI,List.take_length]
  rw[this];rfl
 have AO:∀ρ:DL.Env,ρ[2]? = some (sL (M.map aB))->ρ[5]? = some (sS p)->ρ[6]? = some (sI d)->cz (f1 cS (bR (cz (af 2)) 1 [5,6] (dC 0) (cu (be (f2 dF (bP 0 1) (af 1))) (be (fA bQ (fV 0 (fV 2 ag))))) (bP 0 0))) ρ=some ((cq M p d).map .str):=λρ q2 q5 q6=>by
  have hc:=kc (fi:=cz (af 2)) (nT:=1) (cap:=[5,6]) (tg:=dC 0) (c:=cu (be (f2 dF (bP 0 1) (af 1))) (be (fA bQ (fV 0 (fV 2 ag))))) (fe:=bP 0 0) (ρ:=ρ) M aB (λc=>decide (c.p=p) && dz c d) (λc=>.str c.o) (by simp[q2]) (by omega) λc hc=>
   ⟨_,rfl,bS (eD (bd (.str c.p) (.str p) (bd (aB c) (.int 1) (by simp[cL]) rfl (EZ c)) (by simp[cL,q5]) (by simp))) λ_=>eD (aY [aB c,.int d] (by simp[cL,q6]) (nS c d)),λ_=>⟨false,bd (aB c) (.int 0) (by simp[cL]) rfl (FF c)⟩⟩
  have e2:(M.filter λc=>decide (c.p=p) && dz c d).map (λc=>D.str c.o)=((M.filter λc=>decide (c.p=p) && dz c d).map (·.o)).map .str:=by rw[List.map_map];rfl
  rw[e2]at hc;show(f1 cS _ ρ).bind _=_;unfold f1;rw[hc,vJ];have K9:((M.filter λc=>decide (c.p=p) && dz c d).map (·.o)).length<64:=by rw[vI];exact Nat.lt_of_le_of_lt (vM _ _) (by omega)
  show((dZ _).bind _).bind _=_;rw[nZ,vJ,if_pos K9];rfl
 refine au rfl (iL (.str p) (aY [x.1,.str "person"] (by simp[ha]) HW) rfl (iL (.int d) (aY [x.1] (by simp[ha]) AN) rfl (cN (ds:=[]) (by simp[sizeLine]) rfl (cb (ρ':=[sT rows,sI G,sL (M.map aB),sF (.dt hk hv),sI x.2,sS p,sI d,lT ((oj (aj rows G) M hk hv p d x.2).map aB),v8,T]) ?_ (lZ rfl)))));exact fO (ρ:=[sT rows,sI G,sL (M.map aB),sF (.dt hk hv),sI x.2,sS p,sI d,lT [],none,none]) (AO _ rfl rfl rfl) e'
theorem A7 (g:eB rows)(G:Int)(M:List Cl)(O:M.length<=60)(hk:List (List bu))(hv:List D)(K8:∀v∈hv,∃s,v=.str s)(hx:x∈aj rows G)(e:x.1=row a ("death" : Str) [.int d,.str p]):
  fZ [.tup rows,.int G,.lst (M.map aB),.dt hk hv,.int x.2]=lT ((bq M (M.map Cl.o) p d++oj (aj rows G) M hk hv p d x.2).map aB):=by
 have ha:=(cx g hx).1;have T:ak [x.1,.str "person"]=sS p:=by rw[e];exact bc (i:=1) dm rfl
 have U:aX [x.1]=sI d:=by rw[e];exact gp (.inl (by decide +kernel)) rfl
 have h1:=pJ (fi:=cz (af 2)) (nT:=1) (cap:=[]) (tg:=dC 0) (fe:=bP 0 0) (ρ:=[sT rows,sI G,sL (M.map aB),sF (.dt hk hv),sI x.2,none,none]) M aB (λc=>.str c.o) (by simp) (by omega) λc hc=>⟨_,rfl,false,bd (aB c) (.int 0) (by simp[cL]) rfl (FF c)⟩;have e2:M.map (λc=>D.str c.o)=(M.map Cl.o).map .str:=by rw[List.map_map];rfl
 rw[e2]at h1;have AJ:=dL (M.map Cl.o) p d M;have D5:(oj (aj rows G) M hk hv p d x.2).length<=60:=vR (om _ (j4 _ _ _ _ _ _) _) (vR (tJ M p d) O);refine au rfl (cN (ds:=(M.map Cl.o).map .str) h1 (fP _) (cN (ds:=(bq M (M.map Cl.o) p d).map aB) (aY [.lst (M.map aB),.lst ((M.map Cl.o).map .str),.str p,.int d] (ee rfl (ee rfl (ee (aY [x.1,.str "person"] (by simp[ha]) T) (ee (aY [x.1] (by simp[ha]) U) rfl)))) (tH M O _ p d)) (fD _) (a9 ?_)));refine eF (x:=.lst ((bq M (M.map Cl.o) p d).map aB)) (y:=.lst ((oj (aj rows G) M hk hv p d x.2).map aB)) (b1:=false) (b2:=true) rfl (aY [.tup rows,.int G,.lst (M.map aB),.dt hk hv,.int x.2] rfl (ri g G M O hk hv K8 hx e)) ?_;rw[uX];exact if_pos (bY (by rw[vI,vI];omega))
abbrev FH:=List Cl×List (List bu)×List D
def cU (K:KL)(st:FH)(x:D×Nat):FH :=
 if bM K st.1 x=true then
  if kindOf x.1 = "named" then (st.1++[⟨am 1 x.1,am 2 x.1,aG x.1,none,x.2⟩],st.2)
  else if kindOf x.1 = "chosen" then (bq st.1 [am 2 x.1] (am 1 x.1) (tF 4 x.1)++[⟨am 2 x.1,am 3 x.1,tF 4 x.1,none,x.2⟩],st.2)
  else if kindOf x.1 = "heir" then (st.1,bK st.2.1 [.inr (am 2 x.1),.inr (am 1 x.1)],bE st.2.1 st.2.2 [.inr (am 2 x.1),.inr (am 1 x.1)] (.str (am 3 x.1)))
  else (bq st.1 (st.1.map Cl.o) (am 1 x.1) (aG x.1)++oj K st.1 st.2.1 st.2.2 (am 1 x.1) (aG x.1) x.2,st.2)
 else st
def eC (K:KL):KL:=eO (λx=>bJ (kA x)) (K.filter λx=>!bC x.1)
noncomputable def kr (K:KL)(l:KL):FH:=l.foldl (cU K) ([],[],[])
noncomputable def kC (c:Cl):List At:=[.s c.o,.i c.s,.i c.n]
def cM (K:KL):List Cl:=eO (λc=>bJ (kC c)) (kr K (eC K)).1
noncomputable def vv:List bu->Str
 |[_,.inr p]=>p
 |_=>("" : Str)
noncomputable def C7 (dd:List Str)(ks:List (List bu)):Nat:=(ks.filter λk=>decide (vv k∉dd)).length
structure tT (K l:KL)(dd:List Str)(st:FH):Prop where
 len:st.1.length+C7 dd st.2.1<=l.length
 ded:∀q∈dd,∃y∈l,fF K q (aG y.1) y.2=true
 nod:(st.1.map λc=>(c.o,c.n)).Nodup
 num:∀c∈st.1,c.n∈l.map (·.2)
 hs:∀v∈st.2.2,∃s,v=D.str s
 hk:st.2.1.length<=l.length
theorem xA (h:told ws p d r=true):aG r<=d/\∀d',aG r<=d'->told ws p d' r=true:=by
 unfold told at h;split at h
 ·rename_i k az;rw[vD]at h;obtain⟨h1,h2⟩:=h;unfold pU at h2;split at h2
  ·rename_i dd q;rw[vD]at h2;refine⟨of_decide_eq_true h2.2,λd' hd=>?_⟩;unfold told;rw[vD];refine⟨h1,?_⟩;unfold pU;rw[vD];exact⟨h2.1,decide_eq_true hd⟩
  ·cases h2
 ·cases h
theorem oq:∀(r:KL)(b:D×Nat),lP b r∈b::r/\∀y∈b::r,gq y (lP b r)=false
 |[],b=>⟨by simp[lP],λy hy=>by rw[uU hy];simp[lP,gq]⟩
 |x::r,b=>by
  rw[lP,vj];by_cases h:gq x b=true
  ·rw[if_pos (by rw[h])];obtain⟨h1,h2⟩:=oq r x;refine⟨mZ _ h1,λy hy=>?_⟩;rcases vP hy with rfl|hy
   ·have:=h2 x mX;unfold gq at *;simp at *;omega
   ·exact h2 y hy
  ·rw[if_neg (by simpa using h)];obtain⟨h1,h2⟩:=oq r b;refine⟨?_,λy hy=>?_⟩
   ·rcases vP h1 with e|e
    ·rw[e];exact mX
    ·exact mZ _ (mZ _ e)
   ·rcases vP hy with rfl|hy
    ·exact h2 _ mX
    ·rcases vP hy with rfl|hy
     ·have:=h2 b mX;unfold gq at *;simp at *;omega
     ·exact h2 y (mZ _ hy)
theorem ot (h:fF K p d i=true):∃m∈K,told cH p d m.1=true/\m.2=i/\∀y∈K,told cH p d y.1=true->gq y m=false:=by
 unfold fF at h;split at h
 ·cases h
 ·rename_i b r e;obtain⟨h1,h2⟩:=oq r b;rw[←e]at h1 h2;obtain⟨h3,h4⟩:=vN h1;exact⟨_,h3,h4,of_decide_eq_true h,λy hy g=>h2 y (List.mem_filter.mpr ⟨hy,g⟩)⟩
theorem vw (h1:fF K p d1 i1=true)(h2:fF K p d2 i2=true):i1=i2:=by
 obtain⟨M,k1,t1,e1,T⟩:=ot h1;obtain⟨O,k2,t2,e2,U⟩:=ot h2;have a1:=xA t1;have a2:=xA t2;by_cases hd:d1<=d2
 ·have g:=U M k1 (a1.2 d2 (by omega));have hm:aG O.1<=aG M.1:=by unfold gq at g;simp at g;omega
  have G:=T O k2 (a2.2 d1 (by omega));unfold gq at g G;simp at g G;omega
 ·have g:=T O k2 (a2.2 d1 (by omega));have hm:aG M.1<=aG O.1:=by unfold gq at g;simp at g;omega
  have G:=U M k1 (a1.2 d2 (by omega));unfold gq at g G;simp at g G;omega
theorem tK {κ:Type}[DecidableEq κ]:∀ {ks:List κ}{vs:List D}{k:κ}{v:D},aV ks vs k=some v->k∈ks
 |k'::ks,d::ds,k,v,h=>by
  unfold aV at h;split at h
  ·rename_i e;rw[←e];exact mX
  ·exact mZ _ (tK h)
 |[],_,_,_,h=>by simp[aV]at h
 |_::_,[],_,_,h=>by simp[aV]at h
theorem ou (p:Str)(dd:List Str)(hp:p∉dd):∀ks:List (List bu),C7 dd ks=C7 (p::dd) ks+(ks.filter λk=>decide (vv k=p)).length
 |[]=>rfl
 |k::ks=>by
  have g:=ou p dd hp ks;unfold C7 at g ⊢;by_cases e:vv k=p
  ·rw[List.filter_cons_of_pos (by simpa [e]using hp),List.filter_cons_of_neg (by simp[e]),List.filter_cons_of_pos (by simp[e]),vE,vE];omega
  ·by_cases h:vv k∈dd
   ·rw[List.filter_cons_of_neg (by simp[h]),List.filter_cons_of_neg (by simp[h]),List.filter_cons_of_neg (by simp[e])];exact g
   ·rw[List.filter_cons_of_pos (by simp[h]),List.filter_cons_of_pos (by simp[h,e]),List.filter_cons_of_neg (by simp[e]),vE,vE];omega
theorem iT (g:List Str)(p:Str)(day:Int):∀G:List Cl,((bq G g p day).map λc=>(c.o,c.n)).Sublist (G.map λc=>(c.o,c.n))
 |[]=>List.Sublist.slnil
 |c::G=>by
  have M:=iT g p day G;unfold bq at M ⊢;rw[List.flatMap_cons,uX,uZ];have:((dJ g p day c).map λc=>(c.o,c.n))=[(c.o,c.n)]∨((dJ g p day c).map λc=>(c.o,c.n))=[]:=by
   unfold dJ;split
   ·exact .inl rfl
   ·split
    ·exact .inl rfl
    ·exact .inr rfl
  rcases this with h|h
  ·rw[h];exact M.cons₂ _
  ·rw[h];exact M.cons _
theorem iU (h:c∈bq so offs p day):∃g∈so,g.o=c.o/\g.n=c.n:=by
 have:=(iT offs p day so).subset (uT ⟨c,h,rfl⟩);obtain⟨g,h1,h2⟩:=vO this;injection h2 with h3 h4;exact⟨g,h1,h3,h4⟩
theorem dM:∀(g G:List Str),G.Nodup->(g.foldl gF G).Nodup
 |[],_,h=>h
 |s::g,G,h=>dM g _ (u5 h s)
theorem iC:∀(g G:List Str)(x:Str),x∈g.foldl gF G->x∈G∨x∈g
 |[],_,_,h=>.inl h
 |s::g,G,x,h=>by
  rcases iC g _ x h with h|h
  ·rcases mH.mp h with h|h
   ·exact .inl h
   ·exact .inr (by rw[h];exact mX)
  ·exact .inr (mZ _ h)
theorem oy (g:List Cl)(p:Str)(day:Int):(cq g p day).Nodup:=(cf _).nodup_iff.mpr (dM _ [] List.nodup_nil)
theorem tL (K:KL)(hk:List (List bu))(hv:List D)(p:Str)(day:Int)(n:Nat):∀os:List Str,((os.flatMap (cI K hk hv p day n)).map λc=>(c.o,c.n)).Sublist (os.map λo=>(o,n))
 |[]=>List.Sublist.slnil
 |o::os=>by
  have g:=tL K hk hv p day n os;rw[List.flatMap_cons,uX,uZ];have:((cI K hk hv p day n o).map λc=>(c.o,c.n))=[(o,n)]∨((cI K hk hv p day n o).map λc=>(c.o,c.n))=[]:=by
   unfold cI;split
   ·split
    ·exact .inl rfl
    ·exact .inr rfl
   ·exact .inr rfl
  rcases this with h|h
  ·rw[h];exact g.cons₂ _
  ·rw[h];exact g.cons _
theorem lm {α:Type}[DecidableEq α]:∀(l m:List α),l.Nodup->(∀x∈l,x∈m)->l.length<=m.length
 |[],_,_,_=>uO _
 |x::l,m,h,s=>by
  rw[List.nodup_cons]at h;have hx:=s x mX;have:=lm l (m.erase x) h.2 λy hy=>(List.mem_erase_of_ne (a:=y) (b:=x) (λe=>h.1 (by rw[←e];exact hy))).mpr (s y (mZ _ hy));rw[List.length_erase_of_mem hx]at this;have:0<m.length:=List.length_pos_of_mem hx;rw[vE];omega
theorem qc {α g:Type}(f:α->List g)(q:α->Bool)(h:∀a,(f a).length<=1/\(q a=false->f a=[])):∀l:List α,(l.flatMap f).length<=(l.filter q).length
 |[]=>vT _
 |a::l=>by
  have G:=qc f q h l;rw[List.flatMap_cons,vA];cases hq:q a with
  |true=>rw[List.filter_cons_of_pos hq,vE];have:=(h a).1;omega
  |false=>rw[List.filter_cons_of_neg (by rw[hq];decide),(h a).2 hq];simpa using G
theorem C8 (K:KL)(g:List Cl)(hk:List (List bu))(hv:List D)(p:Str)(day:Int)(n:Nat):(oj K g hk hv p day n).length<=(hk.filter λk=>decide (vv k=p)).length:=by
 refine vR (qc _ (λo=>(aV hk hv [.inr o,.inr p]).isSome) (λo=>⟨j4 _ _ _ _ _ _ _,λh=>?_⟩) _) ?_
 ·have hl:aV hk hv [.inr o,.inr p]=none:=by simpa using h
  unfold cI tI;rw[hl]
 ·have G:(((cq g p day).filter λo=>(aV hk hv [.inr o,.inr p]).isSome).map λo=>([.inr o,.inr p]:List bu)).Nodup:=List.Pairwise.map _ (λa b M e=>M (by injection e with e _;injection e)) ((oy g p day).filter _);have:=lm _ (hk.filter λk=>decide (vv k=p)) G λk hm=>by
   obtain⟨o,O,rfl⟩:=vO hm;obtain⟨v,hv⟩:=uV (vN O).2;exact List.mem_filter.mpr ⟨tK hv,decide_eq_true rfl⟩
  rwa [vI]at this
theorem tT.step {K l:KL}{dd:List Str}{st:FH}(h:tT K l dd st){x:D×Nat}(hx:x.2∉l.map (·.2)):∃OP,tT K (l++[x]) OP (cU K st x):=by
 have up:∀ {n:Nat},n∈l.map (·.2)->n∈(l++[x]).map (·.2):=λh=>by rw[uX];exact List.mem_append_left _ h
 have me:x.2∈(l++[x]).map (·.2):=by simp
 have O:(l++[x]).length=l.length+1:=by simp
 have G:∀q∈dd,∃y∈l++[x],fF K q (aG y.1) y.2=true:=λq hq=>by
  obtain⟨y,h1,h2⟩:=h.ded q hq;exact⟨y,List.mem_append_left _ h1,h2⟩
 have wk:tT K (l++[x]) dd st:=⟨by have:=h.len;omega,G,h.nod,λc hc=>up (h.num c hc),h.hs,by have:=h.hk;omega⟩;have iD:=h.len;unfold cU;split
 ·rename_i g;split
  ·refine⟨dd,by simp;omega,G,?_,λc hc=>?_,h.hs,by rw[O];exact Nat.le_succ_of_le h.hk⟩
   ·rw[uX,List.nodup_append];refine⟨h.nod,by simp,λa ha b hb e=>?_⟩;obtain⟨c,hc,rfl⟩:=vO ha;simp at hb;subst hb;injection e with _ e2;exact hx (e2 ▸ h.num c hc)
   ·rcases List.mem_append.mp hc with hc|hc
    ·exact up (h.num c hc)
    ·rw[uU hc];exact me
  ·split
   ·have hl:=dL [am 2 x.1] (am 1 x.1) (tF 4 x.1) st.1;refine⟨dd,by simp;omega,G,?_,λc hc=>?_,h.hs,by rw[O];exact Nat.le_succ_of_le h.hk⟩
    ·rw[uX,List.nodup_append];refine⟨h.nod.sublist (iT _ _ _ _),by simp,λa ha b hb e=>?_⟩;obtain⟨c,hc,rfl⟩:=vO ha;simp at hb;subst hb;injection e with _ e2;obtain⟨M,h1,_,h3⟩:=iU hc;exact hx (e2 ▸ h3 ▸ h.num M h1)
    ·rcases List.mem_append.mp hc with hc|hc
     ·obtain⟨M,h1,_,h3⟩:=iU hc;rw[←h3];exact up (h.num M h1)
     ·rw[uU hc];exact me
   ·split
    ·have hp:∀k:List bu,C7 dd (bK st.2.1 k)<=C7 dd st.2.1+1/\(bK st.2.1 k).length<=st.2.1.length+1:=λk=>by
      unfold bK;split
      ·omega
      ·have:([k].filter λk=>decide (vv k∉dd)).length<=1:=vM _ _;unfold C7;rw[List.filter_append,vA,vA,List.length_singleton];omega
     refine⟨dd,?_,G,wk.nod,wk.num,λv hv=>?_,?_⟩
     ·have:=(hp [.inr (am 2 x.1),.inr (am 1 x.1)]).1;rw[O];show st.1.length+C7 dd (bK st.2.1 [.inr (am 2 x.1),.inr (am 1 x.1)])<=_;omega
     ·rcases pX hv with hv|hv
      ·exact⟨_,hv⟩
      ·exact h.hs v hv
     ·have:=(hp [.inr (am 2 x.1),.inr (am 1 x.1)]).2;have:=h.hk;rw[O];show(bK _ _).length<=_;omega
    ·rename_i n1 n2 n3;have hd:kindOf x.1 = "death":=by
      unfold bM at g;by_cases hd:kindOf x.1 = "death"
      ·exact hd
      ·rw[if_neg hd,if_neg (by simp[rh,n1,n2,n3])]at g;cases g
     have hf:fF K (am 1 x.1) (aG x.1) x.2=true:=by unfold bM at g;rwa [if_pos hd]at g
     have Kd:am 1 x.1∉dd:=λhm=>by
      obtain⟨y,h1,h2⟩:=h.ded _ hm;exact hx (by rw[←vw h2 hf];exact uT ⟨y,h1,rfl⟩)
     have hl:=dL (st.1.map Cl.o) (am 1 x.1) (aG x.1) st.1;have Px:=C8 K st.1 st.2.1 st.2.2 (am 1 x.1) (aG x.1) x.2;have Kt:=ou (am 1 x.1) dd Kd st.2.1;have T:=tL K st.2.1 st.2.2 (am 1 x.1) (aG x.1) x.2 (cq st.1 (am 1 x.1) (aG x.1));have U:∀c∈oj K st.1 st.2.1 st.2.2 (am 1 x.1) (aG x.1) x.2,c.o∈cq st.1 (am 1 x.1) (aG x.1)/\c.n=x.2:=λc hc=>by
      have:=T.subset (uT ⟨c,hc,rfl⟩);obtain⟨o,h1,h2⟩:=vO this;injection h2 with h3 h4;exact⟨h3 ▸ h1,h4.symm⟩
     refine⟨am 1 x.1::dd,?_,λq hq=>?_,?_,λc hc=>?_,h.hs,by rw[O];exact Nat.le_succ_of_le h.hk⟩
     ·rw[O];show(bq st.1 (st.1.map Cl.o) (am 1 x.1) (aG x.1)++oj K st.1 st.2.1 st.2.2 (am 1 x.1) (aG x.1) x.2).length+C7 _ st.2.1<=_;rw[vA];omega
     ·rcases vP hq with rfl|hq
      ·exact⟨x,by simp,hf⟩
      ·exact G q hq
     ·rw[uX,List.nodup_append];refine⟨h.nod.sublist (iT _ _ _ _),List.Nodup.sublist T (List.Pairwise.map _ (λa b hab e=>hab (by injection e)) (oy _ _ _)),λa ha b hb e=>?_⟩;obtain⟨c,hc,rfl⟩:=vO ha;obtain⟨c2,D7,rfl⟩:=vO hb;injection e with _ e2;obtain⟨M,h1,_,h3⟩:=iU hc;exact hx ((U c2 D7).2 ▸ e2 ▸ h3 ▸ h.num M h1)
     ·rcases List.mem_append.mp hc with hc|hc
      ·obtain⟨M,h1,_,h3⟩:=iU hc;rw[←h3];exact up (h.num M h1)
      ·rw[(U c hc).2];exact me
 ·exact⟨dd,wk⟩
theorem C9 (e:ρ[i]? = some (some (.dt ks vs,true)))(g:fv ρ=some (d,b))(ek:fk ρ=some kd)(hk:fN kd=some kk)(hf:aT d=true)(h1:ks.length<=1000)(h2:kd.length<=1000):pF i fk fv ρ=some (.nx (ρ.set i (some (.dt (bK ks kk) (bE ks vs kk d),true)))):=by
 unfold pF;rw[e];dsimp only;rw[g,vJ,ek,vJ,hk,vJ,if_pos ⟨hf,bp (by omega),bY (by omega)⟩]
theorem JB (a b:Cl):(aL (kC a) (kC b)).isSome=true:=by
 unfold kC;rw[aL];split
 ·rw[aL];split
  ·rw[aL];split
   ·rw[aL];rfl
   ·rfl
  ·rfl
 ·rfl
theorem rj (cs:List Cl):cA (cs.map kC)=true:=by
 unfold cA;simp[List.all_eq_true,JB]
theorem qd {α M:Type}(f:α->M):∀ {l:List α},(l.map f).Nodup->∀ {a b:α},a∈l->b∈l->f a=f b->a=b
 |[],_,_,_,ha,_,_=>by cases ha
 |c::l,h,a,b,ha,hb,e=>by
  rw[uZ,List.nodup_cons]at h;rcases vP ha with G|ha1
  ·rcases vP hb with g|hb1
   ·rw[G,g]
   ·exact absurd (uT ⟨b,hb1,by rw[←e,G]⟩) h.1
  ·rcases vP hb with g|hb1
   ·exact absurd (uT ⟨a,ha1,by rw[e,g]⟩) h.1
   ·exact qd f h.2 ha1 hb1 e
theorem A8 {cs:List Cl}{a b:Cl}(ha:a∈cs)(hb:b∈cs)(e:bJ (kC a)=bJ (kC b)):(a.o,a.n)=(b.o,b.n):=by
 have h:=iJ (rj cs) (uT ⟨a,ha,rfl⟩) (uT ⟨b,hb,rfl⟩) e;unfold kC at h;injection h with h1 h2;injection h1 with h1;injection h2 with _ h3;injection h3 with h3 _;injection h3 with h3;rw[h1,show a.n=b.n by omega]
theorem CA (g:eB rows)(G:Int)(h:tT (aj rows G) l dd st)(hj:l.length<=60)(hx:x∈aj rows G)(Mv:bC x.1=false)(v5:OB):
  ∃w5,(iN [sT rows,sI G,lT (st.1.map aB),some (.dt st.2.1 st.2.2,true),sI x.2,v5]=some (.nx [sT rows,sI G,lT ((cU (aj rows G) st x).1.map aB),some (.dt (cU (aj rows G) st x).2.1 (cU (aj rows G) st x).2.2,true),sI x.2,w5])
   ∨ iN [sT rows,sI G,lT (st.1.map aB),some (.dt st.2.1 st.2.2,true),sI x.2,v5]=some (.ct [sT rows,sI G,lT ((cU (aj rows G) st x).1.map aB),some (.dt (cU (aj rows G) st x).2.1 (cU (aj rows G) st x).2.2,true),sI x.2,w5])):=by
 obtain⟨ha,U⟩:=cx g hx;have AM:st.1.length<=60:=by have:=h.len;omega
 have hf:aT x.1=true:=U.rp.flat;have ec:=yC g G st.1 AM hx Mv;have O:fJ (be (fA ki (fV 0 (fV 1 (fV 2 (fV 4 ag)))))) [sT rows,sI G,lT (st.1.map aB),some (.dt st.2.1 st.2.2,true),sI x.2,some (x.1,false)]=some (!bM (aj rows G) st.1 x) :=
  jZ (eD (aY [.tup rows,.int G,.lst (st.1.map aB),.int x.2] (by simp) ec))
 have hw:fA aK (fV 5 ag) [sT rows,sI G,lT (st.1.map aB),some (.dt st.2.1 st.2.2,true),sI x.2,some (x.1,false)]=sS (kindOf x.1):=aY [x.1] rfl (vq U);refine⟨some (x.1,false),?_⟩;cases hc:bM (aj rows G) st.1 x with
 |false=>
  rw[hc]at O;have es:cU (aj rows G) st x=st:=by unfold cU;rw[hc];rfl
  rw[es];exact .inr (iL x.1 (by simp[ha]) hf (J9 (jX O rfl)))
 |true=>
  rw[hc]at O;left;refine iL x.1 (by simp[ha]) hf (cb (gI O rfl) ?_);by_cases hn:kindOf x.1 = "named"
  ·have es:cU (aj rows G) st x=(st.1++[⟨am 1 x.1,am 2 x.1,aG x.1,none,x.2⟩],st.2):=by unfold cU;rw[hc,if_pos rfl,if_pos hn]
   rw[es];refine jX (aW (bb:=false) hw (decide_eq_true hn)) ?_;have T:ak [x.1,.str "office"]=sS (am 1 x.1)/\ak [x.1,.str "person"]=sS (am 2 x.1):=by
    obtain⟨a,k,az,e,d⟩:=U;rw[e]at hn ⊢;replace hn:k = "named":=hn;cases d with
    |named d o p=>exact⟨bc (i:=1) dm rfl,bc (i:=2) dm rfl⟩
    |root=>exact iS hn
    |chosen=>exact iS hn
    |heir=>exact iS hn
    |three _ hk=>rcases hk with rfl|rfl|rfl<;>exact iS hn
    |other _ hk=>rcases hk with rfl|rfl|rfl|rfl|rfl<;>exact iS hn
   have AN:aX [x.1]=sI (aG x.1):=by rw[xz U];unfold vp;rw[Mv];rfl
   have e2:f2 dj (af 2) (fA bD (ab (fA eA (fV 5 (ab (fA aX (fV 5 ag)) (fV 4 ag)))) ag)) [sT rows,sI G,lT (st.1.map aB),some (.dt st.2.1 st.2.2,true),sI x.2,some (x.1,false)]=lT (st.1.map aB++[aB ⟨am 1 x.1,am 2 x.1,aG x.1,none,x.2⟩]):=by
    refine eF (x:=.lst (st.1.map aB)) (y:=.lst [aB ⟨am 1 x.1,am 2 x.1,aG x.1,none,x.2⟩]) (b1:=false) (b2:=true) rfl ?_ (if_pos (bY (by rw[vI,List.length_singleton];omega)));exact aY [aB ⟨am 1 x.1,am 2 x.1,aG x.1,none,x.2⟩] (aR (aY [x.1,.int (aG x.1),.int x.2] (ee rfl (ee (aY [x.1] rfl AN) rfl)) (D2 T.1 T.2 _ _)) rfl) (lg _ (by simp))
   have:=qX (i:=2) e2 (by have hq:=fD (st.1++[(⟨am 1 x.1,am 2 x.1,aG x.1,none,x.2⟩:Cl)]);rwa [uX]at hq);rw[uX];exact this
  ·refine gI (aW (bb:=false) hw (decide_eq_false hn)) ?_;by_cases M:kindOf x.1 = "chosen"
   ·have es:cU (aj rows G) st x=(bq st.1 [am 2 x.1] (am 1 x.1) (tF 4 x.1)++[⟨am 2 x.1,am 3 x.1,tF 4 x.1,none,x.2⟩],st.2):=by unfold cU;rw[hc,if_pos rfl,if_neg hn,if_pos M]
    rw[es];refine jX (aW (bb:=false) hw (decide_eq_true M)) (qX (i:=2) (aY [.lst (st.1.map aB),x.1,.int x.2] rfl ?_) (fD _));obtain⟨a,k,az,e,d⟩:=U;rw[e]at M ⊢;replace M:k = "chosen":=M;cases d with
    |chosen d b o p s=>exact yD st.1 AM x.2
    |root=>exact iS M
    |named=>exact iS M
    |heir=>exact iS M
    |three _ hk=>rcases hk with rfl|rfl|rfl<;>exact iS M
    |other _ hk=>rcases hk with rfl|rfl|rfl|rfl|rfl<;>exact iS M
   ·refine gI (aW (bb:=false) hw (decide_eq_false M)) ?_;by_cases hh:kindOf x.1 = "heir"
    ·have es:cU (aj rows G) st x=(st.1,bK st.2.1 [.inr (am 2 x.1),.inr (am 1 x.1)],bE st.2.1 st.2.2 [.inr (am 2 x.1),.inr (am 1 x.1)] (.str (am 3 x.1))):=by unfold cU;rw[hc,if_pos rfl,if_neg hn,if_neg M,if_pos hh]
     rw[es];have T:ak [x.1,.str "office"]=sS (am 2 x.1)/\ak [x.1,.str "by"]=sS (am 1 x.1)/\ak [x.1,.str "person"]=sS (am 3 x.1):=by
      obtain⟨a,k,az,e,d⟩:=U;rw[e]at hh ⊢;replace hh:k = "heir":=hh;cases d with
      |heir d b o p=>exact⟨bc (i:=2) dm rfl,bc (i:=1) dm rfl,bc (i:=3) dm rfl⟩
      |root=>exact iS hh
      |named=>exact iS hh
      |chosen=>exact iS hh
      |three _ hk=>rcases hk with rfl|rfl|rfl<;>exact iS hh
      |other _ hk=>rcases hk with rfl|rfl|rfl|rfl|rfl<;>exact iS hh
     exact jX (aW (bb:=false) hw (decide_eq_true hh)) (C9 (ks:=st.2.1) (vs:=st.2.2) (kd:=[.str (am 2 x.1),.str (am 1 x.1)]) (b:=false) rfl (aY [x.1,.str "person"] rfl T.2.2) (aR (aY [x.1,.str "office"] rfl T.1) (aR (aY [x.1,.str "by"] rfl T.2.1) rfl)) rfl rfl (by have:=h.hk;omega) (by simp))
    ·refine gI (aW (bb:=false) hw (decide_eq_false hh)) ?_;have es:cU (aj rows G) st x=(bq st.1 (st.1.map Cl.o) (am 1 x.1) (aG x.1)++oj (aj rows G) st.1 st.2.1 st.2.2 (am 1 x.1) (aG x.1) x.2,st.2):=by unfold cU;rw[hc,if_pos rfl,if_neg hn,if_neg M,if_neg hh]
     rw[es];have hd:kindOf x.1 = "death":=by
      unfold bM at hc;by_cases hd:kindOf x.1 = "death"
      ·exact hd
      ·rw[if_neg hd,if_neg (by simp[rh,hn,M,hh])]at hc;cases hc
     refine qX (i:=2) (aY [.tup rows,.int G,.lst (st.1.map aB),.dt st.2.1 st.2.2,.int x.2] (by simp) ?_) (fD _);obtain⟨a,k,az,e,d⟩:=U;have hk:k = "death":=by rw[e]at hd;exact hd
     subst hk;obtain⟨dd,p,rfl⟩:=d.deed.three (by decide +kernel);have:=A7 g G st.1 AM st.2.1 st.2.2 h.hs hx e;rw[this,e];rfl
theorem xB (K:KL):∀(l g:KL)(st:FH)(dd:List Str),tT K g dd st->((g++l).map (·.2)).Nodup->∃G,tT K (g++l) G (l.foldl (cU K) st)
 |[],g,st,dd,h,_=>⟨dd,by rw[uR];exact h⟩
 |x::l,g,st,dd,h,hn=>by
  have hx:x.2∉g.map (·.2):=λhm=>by
   rw[uX,List.nodup_append]at hn;exact hn.2.2 _ hm x.2 (by simp) rfl
  obtain⟨G,h'⟩:=h.step hx;have e:g++x::l=(g++[x])++l:=by simp
  rw[e]at hn ⊢;exact xB K l _ _ _ h' hn
theorem rm (K l:KL)(h:(l.map (·.2)).Nodup):∃dd,tT K l dd (kr K l):=by
 have:=xB K l [] ([],[],[]) [] ⟨uO _,by simp,by simp,by simp,by simp,uO _⟩ h;exact this
theorem qe (h:(K.map (·.2)).Nodup):((eC K).map (·.2)).Nodup:=((bN _ _).map _).nodup_iff.mpr (List.Nodup.sublist (List.Sublist.map _ List.filter_sublist) h)
theorem qg {M:List D}(g:eB M)(G:Int)(iD:(eC (aj M G)).length<=60):gm [.tup M,.int G]=lT ((cM (aj M G)).map aB)/\(cM (aj M G)).length<=60:=by
 have eL:fz [.tup M,.int G]=lT ((eC (aj M G)).map λx=>.int x.2):=t8 g G;generalize hK:aj M G=K at iD eL ⊢;have KA:∀x∈eC K,x∈K/\bC x.1=false:=λx hx=>by
  obtain⟨h1,h2⟩:=vN ((bN _ _).mem_iff.mp hx);exact⟨h1,by simpa using h2⟩
 have IP:((eC K).map (·.2)).Nodup:=qe (by rw[←hK];exact gN M G);obtain⟨ρ',e,v4,v5,rfl⟩:=du (tg:=dC 4) (g:=iN) (λj ρ=>∃v4 v5:OB,ρ=[sT M,sI G,lT ((kr K ((eC K).take j)).1.map aB),some (.dt (kr K ((eC K).take j)).2.1 (kr K ((eC K).take j)).2.2,true),v4,v5]) ((eC K).map λx=>.int x.2)
  [sT M,sI G,lT [],some (.dt [] [],true),none,none] ⟨none,none,rfl⟩ (by
   rintro j d ρ hd ⟨v4,v5,rfl⟩;rw[vB]at hd;obtain⟨x,hx,rfl⟩:=oY hd;have Py:j<(eC K).length:=(vV hx).1;have et:(eC K).take (j+1)=(eC K).take j++[x]:=by rw[List.take_add_one,hx];rfl
   have ef:kr K ((eC K).take (j+1))=cU K (kr K ((eC K).take j)) x:=by rw[et];unfold kr;rw[List.foldl_append];rfl
   obtain⟨OQ,OR⟩:=KA x (vL hx);obtain⟨dd,h⟩:=rm K ((eC K).take j) (List.Nodup.sublist (List.Sublist.map _ (List.take_sublist _ _)) IP);rw[←hK]at h;have O:=CA g G h (by rw[hK,List.length_take];omega) (x:=x) (by rw[hK];exact OQ) OR v5;rw[hK]at O;obtain⟨w5,O⟩:=O;exact⟨_,_,rfl,O,sI x.2,w5,by rw[ef]⟩)
 have AL:(eC K).take ((eC K).map λx=>D.int x.2).length=eC K:=by rw[vI,List.take_length]
 rw[AL]at e;obtain⟨dd,T⟩:=rm K (eC K) IP;generalize Mw:(kr K (eC K))=st at e T;have yM:st.1.length<=60:=by have:=T.len;omega
 have Mx:cM K=eO (λc=>bJ (kC c)) st.1:=by unfold cM;rw[Mw]
 have hm:∀ρ:DL.Env,gG (oD ew ρ) (st.1.map aB)=some (st.1.map λc=>.tup [.str c.o,.int c.s,.int c.n]):=λρ=>gs st.1 λc _=>by
  show(ew [aB c]).map _=_;rw[re];rfl
 have hk:ca (st.1.map λc=>D.tup [.str c.o,.int c.s,.int c.n])=some (st.1.map kC):=dI st.1 λc _=>rfl;have U:(st.1.map kC).length<64/\cA (st.1.map kC)=true/\bX (st.1.map kC)=true/\((st.1.map kC).map bJ).Nodup:=by
  refine⟨by rw[vI];omega,rj _,?_,?_⟩
  ·unfold bX;rw[Bool.or_eq_true];right;simp[List.all_eq_true,kC]
  ·rw[List.map_map];have h1:st.1.Pairwise λa b=>(a.o,a.n)≠(b.o,b.n):=List.pairwise_map.mp T.nod;have h2:st.1.Pairwise λa b=>bJ (kC a)≠bJ (kC b):=by
    refine List.Pairwise.imp_of_mem ?_ h1;intro a b ha hb AZ e;exact AZ (A8 ha hb e)
   exact List.pairwise_map.mpr h2
 have hz:(st.1.map kC).zip (st.1.map aB)=st.1.map λc=>(kC c,aB c):=by rw[List.zip_map']
 have key:((cM K).map λc=>(kC c,aB c))=eO (λp:List At×D=>bJ p.1) (st.1.map λc=>(kC c,aB c)):=by
  rw[Mx];refine gg _ (λx hx y hy e=>?_) ((bN _ _).map _) ?_
  ·obtain⟨a,ha,rfl⟩:=vO hx;obtain⟨b,hb,rfl⟩:=vO hy;rw[qd (λc:Cl=>(c.o,c.n)) T.nod ha hb (A8 ha hb e)]
  ·exact List.pairwise_map.mpr (fu _ _)
 refine⟨au rfl (cN (ds:=[]) (by simp[sizeLine]) rfl (cb (ρ':=[sT M,sI G,lT [],some (.dt [] [],true),none,none]) rfl (cb (fO (ds:=(eC K).map λx=>.int x.2) ?_ e) (a9 ?_)))),by rw[Mx,(bN _ _).length_eq];exact yM⟩
 ·show(fA fz (fV 0 (fV 1 ag)) _).bind _=_;rw[aY [.tup M,.int G] rfl eL];rfl
 ·unfold mU;show((some (D.lst (st.1.map aB),false)).bind _)=_;simp only[vJ];rw[hm];simp only[vJ];rw[hk];simp only[vJ];rw[if_pos U];unfold im;rw[hz,←key,List.map_map];rfl
noncomputable def gV:D->D
 |.tup [_,d]=>d
 |_=>.non
theorem Fc {r:D}(g:kn r):cw (gV r) (.int 0)=some (.str (kindOf r),false):=by
 obtain⟨h,k,az,rfl,d⟩:=g;simp[row,qZ,gV,kindOf]
def fG (a b:Cl):Prop:=a.s<b.s∨(a.s=b.s/\a.n<b.n)
noncomputable def kT (c:Cl):List At:=[.i c.s,.i c.n,.s c.p]
theorem xC (cs:List Cl):cA (cs.map kT)=true:=by
 have h:∀a b:Cl,(aL (kT a) (kT b)).isSome=true:=λa b=>by
  unfold kT;rw[aL];split
  ·rw[aL];split
   ·rw[aL];split
    ·rw[aL];rfl
    ·rfl
   ·rfl
  ·rfl
 unfold cA;simp[List.all_eq_true,h]
theorem rG {α:Type}(xs:List α):iX xs (-1)=xs.getLast?:=by
 rw[List.getLast?_eq_getElem?];unfold iX wh;cases xs with
 |nil=>rfl
 |cons a l=>
  rw[if_neg (by decide),if_pos (by simp;omega),vJ];congr 1;simp;omega
theorem yE {κ α g:Type}[DecidableEq κ](f:α->g)(ks:List κ)(k:κ)(x:α)(xs:List α):bE ks (xs.map f) k (f x)=(bE ks xs k x).map f:=by
 unfold bE;split
 ·rw[List.map_zipWith,List.zipWith_map_right];congr 1;funext a b;split<;>rfl
 ·rw[uX];rfl
theorem tM (f:D->D)(k:bu):∀(ks:List bu)(vs:List D),aV ks (vs.map f) k=(aV ks vs k).map f
 |[],_=>by simp[aV]
 |a::ks,[]=>by simp[aV]
 |a::ks,v::vs=>by
  rw[uZ,aV,aV];split
  ·rfl
  ·exact tM f k ks vs
def dA (v:D):bu:=.inr (am 0 v)
def cr (K:KL):List D:=(aU (ce K)).2
theorem tN {vs:List D}{x:D}:bK (vs.map dA) (dA x)=(bE (vs.map dA) vs (dA x) x).map dA:=by
 unfold bK bE;split
 ·rw[List.zipWith_map_left,List.zipWith_self,List.map_map];refine List.map_congr_left λv _=>?_;show dA v=dA (if dA v=dA x then x else v);split
  ·assumption
  ·rfl
 ·rw[uX];rfl
theorem yF {ks:List bu}{k:bu}(h:ks.Nodup):(bK ks k).Nodup:=by
 unfold bK;split
 ·exact h
 ·rename_i hk;exact List.nodup_append.mpr ⟨h,by simp,λa ha b hb e=>hk (by rw[←uU hb,←e];exact ha)⟩
theorem qh:∀(l:List D)(a:List bu×List D),a.1=a.2.map dA->a.1.Nodup->((l.map λv=>(dA v,v)).foldl jT a).1=((l.map λv=>(dA v,v)).foldl jT a).2.map dA/\((l.map λv=>(dA v,v)).foldl jT a).1.Nodup
 |[],a,h,h'=>⟨h,h'⟩
 |x::l,a,h,h'=>by
  rw[uZ,List.foldl_cons];refine qh l _ ?_ (yF h');show bK a.1 (dA x)=(bE a.1 a.2 (dA x) x).map dA;rw[h];exact tN
theorem j5 (K:KL):(aU (ce K)).1=(cr K).map dA/\((cr K).map dA).Nodup:=by
 have e:ce K=((K.filter λx=>bC x.1).map (·.1)).map λv=>(dA v,v):=by unfold ce;rw[List.map_map];rfl
 have:=qh ((K.filter λx=>bC x.1).map (·.1)) ([],[]) rfl List.nodup_nil;unfold cr aU;rw[e];exact⟨this.1,by rw[←this.1];exact this.2⟩
theorem tO {k:bu}{v:D}:∀ {vs:List D},aV (vs.map dA) vs k=some v->dA v=k
 |[],h=>by simp[aV]at h
 |a::vs,h=>by
  rw[uZ,aV]at h;split at h
  ·rename_i e;rw[←vK h];exact e
  ·exact tO h
theorem tP (K:KL)(o:Str):iB K o=aV ((cr K).map dA) (cr K) (.inr o):=by unfold iB;rw[(j5 K).1];rfl
theorem yG {K:KL}{o:Str}{v:D}(h:iB K o=some v):am 0 v=o:=by
 rw[tP]at h;exact Sum.inr.inj (tO h)
def A9 (v:D):D:=.str (am 3 v)
theorem yH (K:KL)(o:Str):aV ((cr K).map dA) ((cr K).map A9) (.inr o)=((iB K o).map (am 3)).map .str:=by
 rw[tM,tP,Option.map_map];rfl
theorem jU:∀(l:List (bu×D))(a:List bu×List D),(l.foldl jT a).1.length<=a.1.length+l.length
 |[],a=>vT _
 |x::l,a=>by
  rw[List.foldl_cons];have h1:=jU l (jT a x);have h2:(jT a x).1.length<=a.1.length+1:=by
   show(bK a.1 x.1).length<=_;unfold bK;split
   ·omega
   ·simp
  rw[vE];omega
theorem yI (K:KL):(cr K).length<=K.length:=by
 have h1:=jU (ce K) ([],[]);have h2:(aU (ce K)).1.length=(cr K).length:=by rw[(j5 K).1,vI]
 have h3:(ce K).length<=K.length:=by unfold ce;rw[vI];exact vM _ _
 have h4:(aU (ce K)).1.length<=0+(ce K).length:=h1;omega
theorem vx (K:KL)(r:D)(n:Nat)(h:bC r=true):cr (K++[(r,n)])=bE ((cr K).map dA) (cr K) (dA r) r:=by
 have e:ce (K++[(r,n)])=ce K++[(dA r,r)]:=by
  unfold ce;rw[List.filter_append,List.filter_cons_of_pos (p:=λx:D×Nat=>bC x.1) h,uX];rfl
 unfold cr;rw[e,js];show bE (aU (ce K)).1 (aU (ce K)).2 (dA r) r=_;rw[(j5 K).1];rfl
theorem vy (K:KL)(x:D×Nat)(h:bC x.1=false):cr (K++[x])=cr K:=by
 have e:ce (K++[x])=ce K:=by
  unfold ce;rw[List.filter_append,List.filter_cons_of_neg (p:=λx:D×Nat=>bC x.1) (by rw[h];decide),List.filter_nil,uR]
 unfold cr;rw[e]
def dN (K:KL):D:=.dk ((cr K).map dA) ((cr K).map A9)
theorem lq:∀(r:List Cl)(b:Cl),(b::r).Pairwise fG->i7 b r=b
 |[],b,_=>rfl
 |x::r,b,h=>by
  obtain⟨h1,h2⟩:=List.pairwise_cons.mp h;have hx:fG b x:=h1 x mX;unfold fG at hx;rw[i7,if_neg]
  ·exact lq r b (List.pairwise_cons.mpr ⟨λy hy=>h1 y (mZ _ hy),(List.pairwise_cons.mp h2).2⟩)
  ·unfold kS;rw[Ay];simp only[Option.some.injEq,decide_eq_true_eq];omega
theorem qi:∀(r:List Cl)(b:Cl),(b::r).Pairwise fG->(b::r).getLast? = some (iA b r)
 |[],b,_=>rfl
 |x::r,b,h=>by
  obtain⟨h1,h2⟩:=List.pairwise_cons.mp h;have hx:fG b x:=h1 x mX;unfold fG at hx;rw[iA,if_pos]
  ·rw[List.getLast?_cons_cons];exact qi r x h2
  ·unfold kS;rw[Ay];simp only[Option.some.injEq,decide_eq_true_eq];omega
noncomputable def tD (c:Cl):D:=.tup [.int c.s,.int c.n,.str c.p]
theorem CB (cs:List Cl):bj (cs.map tD)=true:=cn λd hd=>by obtain⟨c,_,rfl⟩:=vO hd;rfl
theorem Fd {a b:Cl}(h:fG a b):aL (kT a) (kT b)=some true:=by
 unfold fG at h;unfold kT;by_cases e:a.s=b.s
 ·rw[aL,if_pos e,aL,if_neg (by omega)];exact congrArg some (decide_eq_true (by omega))
 ·rw[aL,if_neg e];exact congrArg some (decide_eq_true (by omega))
theorem ro {g:List Cl}(h:g.Pairwise fG)(hl:g.length<=60):fM [.lst (g.map tD)]=some (.lst (g.map tD),true):=by
 cases g with
 |nil=>rfl
 |cons b r=>
  have hk:ca ((b::r).map tD)=some ((b::r).map kT):=dI _ λc _=>rfl;have hs:eO yu ((b::r).map tD)=(b::r).map tD:=by
   symm;refine gg _ (λx hx y hy e=>?_) (List.Perm.refl _) (List.pairwise_map.mpr (h.imp λ{a c} q=>?_))
   ·obtain⟨a,ha,rfl⟩:=vO hx;obtain⟨c,hc,rfl⟩:=vO hy;have z:kT a=kT c:=iJ (xC (b::r)) (uT ⟨a,ha,rfl⟩) (uT ⟨c,hc,rfl⟩) e;exact sM (k:=kT a) rfl (by rw[z];rfl)
   ·show ¬bJ (kT c)<bJ (kT a);have e:=lV _ _ _ (Fd q);exact λz=>List.lt_irrefl _ (gf z (of_decide_eq_true e.symm))
  unfold fM;dsimp only;rw[show dZ ((b::r).map tD)=none from rfl];dsimp only;rw[show lx ((b::r).map tD)=none from rfl];dsimp only;rw[hk];dsimp only;rw[if_pos ⟨by rw[vI];omega,xC _,by simp[bX,kT]⟩,hs]
theorem tQ {b:Cl}{r:List Cl}(h:(b::r).Pairwise fG)(q:Cl->Bool){c:Cl}{l:List Cl}(e:(b::r).filter q=c::l):Fb ((b::r).filter q)=c.n:=by
 have hp:((b::r).filter q).Pairwise fG:=h.filter _;rw[e]at hp ⊢;show(i7 c l).n=c.n;rw[lq l c hp]
theorem AA {ns:List Int}{i:Int}(h1:0<=i)(h2:i<ns.length):∃m∈ns,cw (.lst (ns.map .int)) (.int i)=some (.int m,false):=by
 have h:i.toNat<ns.length:=by omega
 refine⟨ns.getD i.toNat 0,?_,xl h1 h⟩;rw[vF,vU h];exact List.getElem_mem h
theorem AB {x n:Int}(h:0<n):cy (.int x) (.int n)=some (.int (x % n),false):=by
 show(if decide ((0:Int)<n)=true then _ else _)=_;rw[if_pos (decide_eq_true h)]
theorem CC {cs:List Cl}(hs:cs.Pairwise λa b=>¬bJ (kC b)<bJ (kC a))(g:(cs.map λc=>(c.o,c.n)).Nodup)(o:Str)(day:Int):(oE cs o day).Pairwise fG:=by
 refine List.Pairwise.imp_of_mem ?_ ((hs.and (List.pairwise_map.mp g)).filter _);rintro a b ha hb ⟨h3,h4⟩;obtain⟨M,h5⟩:=vN ha;obtain⟨mb,G⟩:=vN hb;simp only[vD,decide_eq_true_eq]at h5 G;have e:=eY (rj cs) (uT ⟨b,mb,rfl⟩) (uT ⟨a,M,rfl⟩);rw[decide_eq_false h3]at e;unfold kC at e;rw[aL,if_pos (by rw[h5.1,G.1]),Ay]at e;injection e with e;have e:=of_decide_eq_false e;have O:a.n≠b.n:=λz=>h4 (by rw[h5.1,G.1,z]);unfold fG;omega
theorem tR {K:KL}(g:(K.map (·.2)).Nodup)(o:Str)(day:Int):(oE (cM K) o day).Pairwise fG:=by
 obtain⟨dd,h⟩:=rm K (eC K) (qe g);exact CC (fu _ _) (((bN _ _).map _).nodup_iff.mpr h.nod) o day
def AD (rl:Option Str)(g:List Cl):D:=match rl with
 |none=>.tup [.str "none"]
 |some z=>gU z g
theorem AE (G:List Cl)(AM:G.length<=60)(o:Str)(day:Int)(O:D):∃T:OB,dX (dC 5) nJ (G.map aB) [sL (G.map aB),sF O,sS o,sI day,lT [],none,none,none]=some (.nx [sL (G.map aB),sF O,sS o,sI day,lT ((oE G o day).map tD),T,none,none]):=by
 obtain⟨ρ',e,T,rfl⟩:=du (tg:=dC 5) (g:=nJ) (λj ρ=>∃T:OB,ρ=[sL (G.map aB),sF O,sS o,sI day,lT ((oE (G.take j) o day).map tD),T,none,none]) (G.map aB)
  [sL (G.map aB),sF O,sS o,sI day,lT [],none,none,none] ⟨none,rfl⟩ (by
   rintro j d ρ hd ⟨T,rfl⟩;rw[vB]at hd;obtain⟨c,hc,rfl⟩:=oY hd;have et:oE (G.take (j+1)) o day=oE (G.take j) o day++[c].filter λc=>decide (c.o=o) && dz c day:=by
    unfold oE;rw[List.take_add_one,hc,Option.toList_some,List.filter_append]
   have iD:(oE (G.take j) o day).length<=60:=vR (vM _ _) (by rw[List.length_take];omega);let M:DL.Env:=[sL (G.map aB),sF O,sS o,sI day,lT ((oE (G.take j) o day).map tD),sF (aB c),none,none];have q0:bP 5 0 M=sS c.o:=bd (aB c) (.int 0) rfl rfl (FF c);have q1:bP 5 1 M=sS c.p:=bd (aB c) (.int 1) rfl rfl (EZ c);have q2:bP 5 2 M=sI c.s:=bd (aB c) (.int 2) rfl rfl (Hm c);have U:bP 5 3 M=some (uD c.u,false):=bd (aB c) (.int 3) rfl rfl (Lx c);have q4:bP 5 4 M=sI c.n:=bd (aB c) (.int 4) rfl rfl (Hn c);have cd:cu (be (f2 dF (bP 5 0) (af 2))) (cu (be (f2 tV (bP 5 2) (af 3))) (gX (be (f2 E4 (bP 5 3) (fC .non))) (be (f2 zA (af 3) (bP 5 3))))) M=some (decide (c.o=o) && dz c day):=by
    refine bS (eD (bd (.str c.o) (.str o) q0 rfl (by simp))) λ_=>bS (eD (bd (.int c.s) (.int day) q2 rfl (by simp))) λ_=>?_;cases hu:c.u with
    |none=>
     rw[hu]at U;exact ir (p:=true) (q:=true) (eD (bd .non .non U rfl (by simp))) (by simp)
    |some x=>
     rw[hu]at U;exact ir (p:=false) (q:=decide (day<x)) (eD (bd (.int x) .non U rfl (by simp))) λ_=>eD (bd (.int day) (.int x) rfl U (by simp))
   refine⟨M,[sL (G.map aB),sF O,sS o,sI day,lT ((oE (G.take (j+1)) o day).map tD),sF (aB c),none,none],rfl,.inl ?_,_,rfl⟩;cases hb:(decide (c.o=o) && dz c day) with
   |false=>
    rw[hb]at cd;rw[et,List.filter_cons_of_neg (by rw[hb];decide),List.filter_nil,uR];exact gI cd rfl
   |true=>
    rw[hb]at cd;rw[et,List.filter_cons_of_pos (by rw[hb]),List.filter_nil,uX];exact jX cd (iq (ds:=(oE (G.take j) o day).map tD) (d:=tD c) (b:=false) rfl (aY [.int c.s,.int c.n,.str c.p] (ee q2 (ee q4 (ee q1 rfl))) (cO _ (by simp))) rfl (bp (by rw[vI];omega))))
 refine⟨T,e.trans ?_⟩;rw[vI,List.take_of_length_le (vT _)]
theorem Fe (g:List Cl)(AM:g.length<=60)(o:Str)(day:Int)(hp:(oE g o day).Pairwise fG){rk:List bu}{O:List D}{rl:Option Str}(KE:aV rk O (.inr o)=rl.map .str):
  iQ [.lst (g.map aB),.dk rk O,.str o,.int day]=some (AD rl (oE g o day),false):=by
 obtain⟨v5,e⟩:=AE g AM o day (.dk rk O);have My:(oE g o day).length<=60:=vR (vM _ _) AM;generalize oE g o day=al at e hp My;have e4:=ro hp My;let G:DL.Env:=[sL (g.map aB),sF (.dk rk O),sS o,sI day,lT (al.map tD),v5,none,none];have yL:ay 40 (.lst (al.map tD))=true:=by
  show(al.map tD).all (ay 39)=true;rw[List.all_map,List.all_eq_true];exact λc _=>rfl
 have c1:be (f2 dF (af 4) (fA bD ag)) G=some al.isEmpty:=kQ (b:=false) (eF (x:=.lst (al.map tD)) (y:=.lst []) (b1:=false) (b2:=true) rfl rfl (by
  unfold dF;rw[if_pos ⟨yL,rfl⟩];cases al<;>simp[cB,g9]))
 have c2:be (f2 kP (af 2) (af 1)) G=some (!rl.isSome):=eD (bd (.str o) (.dk rk O) rfl rfl (by
  simp only[kP,gT,Option.map_some];rw[KE];cases rl<;>rfl))
 have c3:=ir c1 λ_=>c2;refine au rfl (cN (ds:=[]) (by simp[sizeLine]) rfl (cb (fO (ds:=g.map aB) rfl e) (cN (ds:=al.map tD) (aY [.lst (al.map tD)] rfl e4) (CB _) ?_)));show a0 _ _ G=_;cases al with
 |nil=>
  rw[show AD rl []=.tup [.str "none"]from by cases rl<;>rfl]
  exact cP c3 (a9 (aY [.str "none"] rfl (cO _ (by simp))))
 |cons b r=>
  cases rl with
  |none=>exact cP c3 (a9 (aY [.str "none"] rfl (cO _ (by simp))))
  |some z=>
   have ek:∀ρ:DL.Env,ρ[1]? = some (sF (.dk rk O))->ρ[2]? = some (sS o)->f2 AV (af 1) (af 2) ρ=sS z:=λρ h1 h2=>bd (.dk rk O) (.str o) (by simp[h1]) (by simp[h2]) (by
    simp only[AV,gT,vJ];rw[KE];rfl)
   have h5:f1 cS (bR (cz (af 4)) 1 [] (dC 0) gR (bP 0 2)) G=lT ((fE (b::r)).map .str):=by
    have hc:=pJ (fi:=cz (af 4)) (nT:=1) (cap:=[]) (tg:=dC 0) (fe:=bP 0 2) (ρ:=G) (b::r) tD (λc=>.str c.p) rfl (by omega) λc hc=>⟨_,rfl,false,bd (tD c) (.int 2) (by simp[cL]) rfl (by simp[tD,FD])⟩;have e2:(b::r).map (λc=>D.str c.p)=((b::r).map (·.p)).map .str:=by rw[List.map_map];rfl
    rw[e2]at hc;unfold f1;rw[hc,vJ];show(dZ (((b::r).map (·.p)).map .str)).bind _=_;rw[nZ,vJ,if_pos (by rw[vI];omega)];rfl
   let M:DL.Env:=[sL (g.map aB),sF (.dk rk O),sS o,sI day,lT ((b::r).map tD),v5,lT ((fE (b::r)).map .str),none];refine bx c3 (cN (ds:=(fE (b::r)).map .str) h5 (fP _) ?_);show a0 _ _ M=some (.rt (gU z (b::r)) false);by_cases hq:1<(fE (b::r)).length/\z = "open"
   ·rw[gU,if_pos hq];exact cP (bS (p:=true) (q:=true) (eD (by simp[M];omega)) λ_=>aW (bb:=false) (ek _ rfl rfl) (decide_eq_true hq.2)) (a9 (aY [.str "parted",.lst ((fE (b::r)).map .str)] rfl (cO _ (by simp))))
   ·rw[gU,if_neg hq];have U:cu (be (f2 Ez (fA eQ (fV 6 ag)) (fI 1))) (be (f2 dF (f2 AV (af 1) (af 2)) (fS "open"))) M=some false:=by
     by_cases h5:1<(fE (b::r)).length
     ·exact bS (p:=true) (q:=false) (eD (by simp[M];omega)) λ_=>aW (bb:=false) (ek _ rfl rfl) (decide_eq_false λe=>hq ⟨h5,e⟩)
     ·exact bS (p:=false) (q:=false) (eD (by simp[M];omega)) (by simp)
    obtain⟨ch,KG⟩:∃ch,eJ z b r=ch:=⟨_,rfl⟩;have T:=pV z b r;rw[KG]at T ⊢;have i0:∀ρ:DL.Env,ρ[4]? = some (lT ((b::r).map tD))->bP 4 0 ρ=some (tD b,false):=λρ q=>by simp[q,qZ]
    have il:∀ρ:DL.Env,ρ[4]? = some (lT ((b::r).map tD))->f2 cw (f2 cw (af 4) (f1 yc (fI 1))) (fI 2) ρ=sS (iA b r).p:=λρ q=>by
     refine bd (tD (iA b r)) (.int 2) (bd (.lst ((b::r).map tD)) (.int (-1)) (by simp[q]) (by simp) ?_) rfl (by simp[tD,FD]);have:iX ((b::r).map tD) (-1)=some (tD (iA b r)):=by rw[rG,List.getLast?_map,qi r b hp];rfl
     show(iX ((b::r).map tD) (-1)).map _=_;rw[this];rfl
    obtain⟨c2,r2,II⟩:∃c2 r2,(b::r).filter (λc=>decide (c.p=ch.p))=c2::r2:=by
     cases hz:(b::r).filter (λc=>decide (c.p=ch.p)) with
     |nil=>
      have:=List.filter_eq_nil_iff.mp hz _ T;simp at this
     |cons b2 r2=>exact⟨b2,r2,rfl⟩
    rw[tQ hp _ II];refine bx U (iL (.str b.p) (bd (tD b) (.int 2) (i0 _ rfl) rfl (by simp[tD,FD])) rfl (cb (ρ':=[sL (g.map aB),sF (.dk rk O),sS o,sI day,lT ((b::r).map tD),v5,lT ((fE (b::r)).map .str),sS ch.p]) ?_ (a9 (aY [.str "one",.str ch.p,.int c2.n] (ee rfl (ee rfl (ee ?_ rfl))) (cO _ (by simp))))))
    ·by_cases hl:z = "last"
     ·have:ch=iA b r:=by rw[←KG];unfold eJ;rw[if_pos hl]
      rw[this];exact jX (aW (bb:=false) (ek _ rfl rfl) (decide_eq_true hl)) (jY (d:=.str (iA b r).p) (b:=false) (il _ rfl) rfl)
     ·have:ch=b:=by rw[←KG];unfold eJ;rw[if_neg hl];exact lq r b hp
      rw[this];exact gI (aW (bb:=false) (ek _ rfl rfl) (decide_eq_false hl)) rfl
    ·refine eF (x:=.lst ((c2::r2).map λc=>.int c.n)) (y:=.int 0) (b1:=true) (b2:=false) ?_ rfl (by simp[qZ]);have hc:=kc (fi:=cz (af 4)) (nT:=1) (cap:=[7]) (tg:=dC 0) (c:=be (f2 dF (bP 0 2) (af 1))) (fe:=bP 0 1) (ρ:=[sL (g.map aB),sF (.dk rk O),sS o,sI day,lT ((b::r).map tD),v5,lT ((fE (b::r)).map .str),sS ch.p]) (b::r) tD (λc=>decide (c.p=ch.p)) (λc=>.int c.n) rfl (by omega) λc _=>
      ⟨[sF (tD c),sS ch.p],rfl,eD (bd (.str c.p) (.str ch.p) (bd (tD c) (.int 2) rfl rfl (by simp[tD,FD])) rfl (by simp)),λ_=>⟨false,bd (tD c) (.int 1) rfl rfl (by simp[tD,Au])⟩⟩
     rw[II]at hc;exact hc
theorem lr {zs:List Str}{i:Int}(h1 : -(zs.length:Int)<=i)(h2:i<zs.length):∃z,cw (.lst (zs.map .str)) (.int i)=sS z:=by
 obtain⟨j,hj,hl⟩:∃j,wh (zs.map D.str).length i=some j/\j<zs.length:=by
  unfold wh;rw[vI];by_cases h0:0<=i
  ·rw[if_pos h0,if_pos h2];exact⟨_,rfl,by omega⟩
  ·rw[if_neg h0,if_pos (by omega)];exact⟨_,rfl,by omega⟩
 refine⟨zs[j],?_⟩;have:iX (zs.map D.str) i=some (.str zs[j]):=by unfold iX;rw[hj,vJ,vB,vU hl];rfl
 simp[this]
theorem j6 (x y:Int)(h : -1000<=y/\y<=1000):iY (.int x) (.int y)=some (.int (x*y),false):=by
 have : -18446744073709551616<y/\y<18446744073709551616:=by omega
 simp[this]
theorem oz:∀(os g:List Str),os.length=g.length->∀o∈os,∃rl:Str,aV (os.map Sum.inr:List bu) (g.map .str) (.inr o)=some (.str rl)
 |[],_,_,o,h=>by cases h
 |a::os,[],hl,o,h=>by simp at hl
 |a::os,b::g,hl,o,h=>by
  rw[uZ,uZ,aV];split
  ·exact⟨b,rfl⟩
  ·rename_i G;rcases vP h with h|h
   ·exact absurd (by rw[h]) G
   ·exact oz os g (by simpa using hl) o h
theorem yJ (ns:List Int):∃os M:List Str,iP [.lst (ns.map .int)]=some (.dk (os.map Sum.inr) (M.map .str),false)/\os.length=M.length/\os.length<=2:=by
 obtain⟨c,hc⟩:∃c,ns.getD 1 0=c:=⟨_,rfl⟩;have e1:=kj ns 1;rw[hc]at e1;have st:∀(i:Nat),i<2->∀(ks:List bu)(vs:List D),ks.length<=10->∃rl:Str,cm [sL (ns.map .int),sI c,some (.dk ks vs,true),sI i]=some (.nx [sL (ns.map .int),sI c,some (.dk (bK ks (.inr ([("crown" : Str),("abbey" : Str)].getD i ""))) (bE ks vs (.inr ([("crown" : Str),("abbey" : Str)].getD i "")) (.str rl)),true),sI i]):=by
  intro i hi ks vs hk;have T:∃g:Int,0<g/\g<100/\cw (.lst [.int 2,.int 6]) (.int i)=sI g:=by
   rcases (show i=0∨i=1 by omega)with rfl|rfl
   ·exact⟨2,by decide,by decide,by simp[qZ]⟩
   ·exact⟨6,by decide,by decide,by simp[Au]⟩
  obtain⟨g,Pz,P0,ed⟩:=T;have h3:=mod_lt (x:=c / g) (m:=3) (by decide);obtain⟨rl,U⟩:=lr (zs:=[("open" : Str),("first" : Str),("last" : Str)]) (i:=c / g % 3) (by simp;omega) (by simp;omega);have b1:(0:Int)<g/\g<1073741824:=by omega
  have ek:f2 cw (fA bD (ab (fS "crown") (ab (fS "abbey") ag))) (af 3) [sL (ns.map .int),sI c,some (.dk ks vs,true),sI i]=sS ([("crown" : Str),("abbey" : Str)].getD i ""):=by
   refine eF (x:=.lst [.str "crown",.str "abbey"]) (y:=.int i) (b1:=true) (b2:=false) (by simp[sizeLine]) rfl ?_;rcases (show i=0∨i=1 by omega)with rfl|rfl
   ·simp[qZ]
   ·simp[Au]
  have ev:f2 cw (fA bD (ab (fS "open") (ab (fS "first") (ab (fS "last") ag)))) (f2 cy (f2 fU (af 1) (f2 cw (fA bD (ab (fI 2) (ab (fI 6) ag))) (af 3))) (fI 3)) [sL (ns.map .int),sI c,some (.dk ks vs,true),sI i]=sS rl :=
   eF (x:=.lst (([("open" : Str),("first" : Str),("last" : Str)]:List Str).map .str)) (y:=.int (c / g % 3)) (b1:=true) (b2:=false) (by simp[sizeLine]) (bd (.int (c / g)) (.int 3) (bd (.int c) (.int g) rfl (eF (x:=.lst [.int 2,.int 6]) (y:=.int i) (b1:=true) (b2:=false) (by simp[sizeLine]) rfl ed) (by simp[b1])) rfl (by simp)) U
  refine⟨rl,?_⟩;show(_:OB).bind _=_;rw[ev,vJ,ek,vJ];show(if _ then _ else _)=_;rw[if_pos ⟨rfl,bp (by omega)⟩];rfl
 have h2:=mod_lt (x:=c) (m:=2) (by decide);obtain⟨G,f0⟩:=st 0 (by decide) [] [] (by decide);obtain⟨O,f1⟩:=st 1 (by decide) [.inr "crown"] [.str G] (by decide);have hn:(Sum.inr ("abbey" : Str):bu)∉[(Sum.inr ("crown" : Str):bu)]:=λh=>by
  have e:("abbey" : Str) = "crown":=Sum.inr.inj (uU h);exact absurd e (by decide +kernel)
 have run:∀(n:Nat)(ks:List bu)(vs:List D),1+c % 2=(n:Int)->n<=2->(∃v3,dX (dC 3) cm (fm 0 n) [sL (ns.map .int),sI c,some (.dk [] [],true),none]=some (.nx [sL (ns.map .int),sI c,some (.dk ks vs,true),v3]))->iP [.lst (ns.map .int)]=some (.dk ks vs,false):=λn ks vs h hn ⟨v3,e⟩=>
  au rfl (iL (.int c) (aY [.lst (ns.map .int),.int ((1:Nat):Int)] rfl e1) rfl (cb (ρ':=[sL (ns.map .int),sI c,some (.dk [] [],true),none]) rfl (cb (tp (pH (j:=n) (b:=false) (by simp[h]) (by omega)) e) rfl)))
 rcases (show c % 2=0∨c % 2=1 by omega)with h|h
 ·refine⟨["crown"],[G],run 1 _ _ (by omega) (by decide) ⟨sI ((0:Nat):Int),?_⟩,rfl,by decide⟩
  ·show dX (dC 3) cm [D.int ((0:Nat):Int)] _=_;rw[iF];show(match cm [sL (ns.map .int),sI c,some (.dk [] [],true),sI ((0:Nat):Int)] with|some (.nx ρ')=>_|some (.ct ρ')=>_|some (.bk ρ')=>_|r=>r)=_;rw[f0];rfl
 ·refine⟨["crown","abbey"],[G,O],run 2 _ _ (by omega) (by decide) ⟨sI ((1:Nat):Int),?_⟩,rfl,by decide⟩
  ·show dX (dC 3) cm [D.int ((0:Nat):Int),D.int ((1:Nat):Int)] _=_;rw[iF];show(match cm [sL (ns.map .int),sI c,some (.dk [] [],true),sI ((0:Nat):Int)] with|some (.nx ρ')=>_|some (.ct ρ')=>_|some (.bk ρ')=>_|r=>r)=_;rw[f0];show dX (dC 3) cm [D.int ((1:Nat):Int)] [sL (ns.map .int),sI c,some (.dk [.inr "crown"] [.str G],true),sI ((0:Nat):Int)]=_;rw[iF];show(match cm [sL (ns.map .int),sI c,some (.dk [.inr "crown"] [.str G],true),sI ((1:Nat):Int)] with|some (.nx ρ')=>_|some (.ct ρ')=>_|some (.bk ρ')=>_|r=>r)=_;rw[f1];have k1:bK [(Sum.inr ("crown" : Str):bu)] (.inr ("abbey" : Str))=[.inr "crown",.inr "abbey"]:=by unfold bK;rw[if_neg hn];rfl
   have k2:bE [(Sum.inr ("crown" : Str):bu)] [D.str G] (.inr ("abbey" : Str)) (.str O)=[.str G,.str O]:=by unfold bE;rw[if_neg hn];rfl
   show some (Res.nx [_,_,some (D.dk (bK [(Sum.inr ("crown" : Str):bu)] (.inr ("abbey" : Str))) (bE [(Sum.inr ("crown" : Str):bu)] [D.str G] (.inr ("abbey" : Str)) (.str O)),true),_])=_;rw[k1,k2];rfl
theorem Hq (x:Int):BO (.int x) (.tup [.int 1,.int 2,.int 3])=sO (decide (x=1∨x=2∨x=3)):=by
 have h:zB (.int x) [.int 1,.int 2,.int 3]=decide (x=1∨x=2∨x=3):=by
  unfold zB;simp only[List.any_cons,List.any_nil,cB,Bool.or_false,Bool.decide_or];rw[decide_eq_decide.mpr (eq_comm (a:=(1:Int)) (b:=x)),decide_eq_decide.mpr (eq_comm (a:=(2:Int)) (b:=x)),decide_eq_decide.mpr (eq_comm (a:=(3:Int)) (b:=x))]
 show some (D.bl (zB (.int x) [.int 1,.int 2,.int 3]),false)=_;rw[h]
theorem Hr (c O T:Int)(D8 : -1000<=O/\O<=1000)(k:Nat)(hk:k<60)(ns:List Int)(zs G:List Str)(ks:List bu)(vs:List D)(Kt:ks.length<=2)(hz:0<zs.length)(M:List D)(hr:M.length<=100)(hh:G≠[])(P1:G.length<=100)(v9 HZ yR qj tX:OB):
  ∃r g w9 D9 tY FN IQ,kn r/\g≠[]/\g.length<=G.length+1/\kX [sL (ns.map .int),sL (zs.map .str),sI O,sF (.dk ks vs),sI T,lT M,lT (G.map .str),sI k,sI c,v9,HZ,yR,qj,tX]=some (.nx [sL (ns.map .int),sL (zs.map .str),sI O,sF (.dk ks vs),sI T,lT (M++[r]),lT (g.map .str),sI k,sI c,w9,D9,tY,FN,IQ]):=by
 obtain⟨day,AN⟩:∃day:Int,((k:Int) / 3+c / 400 % 3)*O=day:=⟨_,rfl⟩;have AJ:(0:Int)<2+ks.length:=by omega
 have D5:(0:Int)<zs.length:=by omega
 have P2:=mod_lt (x:=c / 1200) (m:=2+ks.length) AJ;obtain⟨o,eo⟩:=lr (zs:=[("crown" : Str),("abbey" : Str),("crown" : Str),("mill" : Str)]) (i:=c / 1200 % (2+ks.length)) (by simp;omega) (by simp;omega);have P4:=mod_lt (x:=c / 30000) (m:=zs.length) D5;obtain⟨p,ep⟩:=lr (zs:=zs) (i:=c / 30000 % zs.length) (by omega) (by omega);obtain⟨n,hn,Mz,P5⟩:∃n:Int,(if(G.length:Int)<3 then (G.length:Int)else 3)=n/\0<n/\n<=G.length:=by
  have:0<G.length:=List.length_pos_iff.mpr hh;split
  ·exact⟨_,rfl,by omega,by omega⟩
  ·exact⟨_,rfl,by omega,by omega⟩
 have P6:=mod_lt (x:=c / 10000) (m:=n) Mz;obtain⟨b,eb⟩:=lr (zs:=G) (i:=-1 - c / 10000 % n) (by omega) (by omega);have M0:=mod_lt (x:=c / 7) (m:=6) (by decide);obtain⟨jv,_,OS⟩:=AA (ns:=[0,0,0,0,1,6]) (i:=c / 7 % 6) M0.1 M0.2;have P7:=mod_lt (x:=c) (m:=8) (by decide);have h5:=mod_lt (x:=c / 8) (m:=5) (by decide);have h2:=mod_lt (x:=c / 8) (m:=2) (by decide);obtain⟨q,eq⟩:=lr (zs:=[b,p]) (i:=c / 8 % 2) (by simp;omega) (by simp;omega);let U:D->DL.Env:=λd=>[sL (ns.map .int),sL (zs.map .str),sI O,sF (.dk ks vs),sI T,lT M,lT (G.map .str),sI k,sI c,sI day,sS o,sS b,sS p,sF d];have hA:∀d,be (f2 BO (f2 cy (af 8) (fI 8)) (fA ba (ab (fI 1) (ab (fI 2) (ab (fI 3) ag))))) (U d)=some (decide (c % 8=1∨c % 8=2∨c % 8=3)):=λd=>eD (bd (.int (c % 8)) (.tup [.int 1,.int 2,.int 3]) (by simp[U]) (by simp[sizeLine]) (Hq _));have hB:∀d,be (f2 dF (f2 cy (af 8) (fI 8)) (fI 4)) (U d)=some (decide (c % 8=4)):=λd=>eD (bd (.int (c % 8)) (.int 4) (by simp[U]) rfl (by simp));obtain⟨k2,r2,Fk,e2⟩:∃k2 r2,Cd k2 r2/\∀(h:FS)(rr:Option Res),h (U (.tup (.str k2::r2)))=rr ->
   a0 (gb (be (f2 BO (f2 cy (af 8) (fI 8)) (fA ba (ab (fI 1) (ab (fI 2) (ab (fI 3) ag)))))) (aM 13 (fA ba (ab (fS "chosen") (fV 9 (fV 11 (fV 10 (fV 12 (ab (f2 dj (af 9) (f2 iY (f2 cy (f2 fU (af 8) (fI 8)) (fI 5)) (af 2))) ag)))))))) bA)
   (a0 (gb (be (f2 dF (f2 cy (af 8) (fI 8)) (fI 4))) (aM 13 (fA ba (ab (fS "death") (fV 9 (ab (f2 cw (fA bD (fV 11 (fV 12 ag))) (f2 cy (f2 fU (af 8) (fI 8)) (fI 2))) ag))))) bA) h) (U (.tup [.str "named",.int day,.str o,.str p]))=rr:=by
  by_cases h1:c % 8=1∨c % 8=2∨c % 8=3
  ·refine⟨"chosen",[.int day,.str b,.str o,.str p,.int (day+c / 8 % 5*O)],.chosen _ _ _ _ _,λh rr hr=>cb (ρ':=U (.tup [.str "chosen",.int day,.str b,.str o,.str p,.int (day+c / 8 % 5*O)])) (jX ((hA _).trans (by rw[decide_eq_true h1])) (jY (b:=false) (aY [.str "chosen",.int day,.str b,.str o,.str p,.int (day+c / 8 % 5*O)] (ee rfl (ee rfl (ee rfl (ee rfl (ee rfl (ee ?_ rfl)))))) (cO _ (by simp))) rfl)) (bx ((hB _).trans (by rw[decide_eq_false (by omega)])) hr)⟩;exact bd (.int day) (.int (c / 8 % 5*O)) rfl (bd (.int (c / 8 % 5)) (.int O) (by simp[U]) rfl (j6 _ _ D8)) (by simp)
  ·by_cases h4:c % 8=4
   ·refine⟨"death",[.int day,.str q],.three _ (.inl rfl) _ _,λh rr hr=>bx ((hA _).trans (by rw[decide_eq_false h1])) (cb (ρ':=U (.tup [.str "death",.int day,.str q])) (jX ((hB _).trans (by rw[decide_eq_true h4])) (jY (b:=false) (aY [.str "death",.int day,.str q] (ee rfl (ee rfl (ee ?_ rfl))) (cO _ (by simp))) rfl)) hr)⟩;exact eF (x:=.lst (([b,p]:List Str).map .str)) (y:=.int (c / 8 % 2)) (b1:=true) (b2:=false) (by simp[U,sizeLine]) (by simp[U]) eq
   ·exact⟨"named",[.int day,.str o,.str p],.named _ _ _,λh rr hr=>bx ((hA _).trans (by rw[decide_eq_false h1])) (bx ((hB _).trans (by rw[decide_eq_false h4])) hr)⟩
 let g:List Str:=if k2 = "death" then G else G++[p];have AZ:g≠[]:=by simp only[g];split<;>simp[hh]
 have K9:g.length<=G.length+1:=by simp only[g];split<;>simp
 have M2:kn (row (day+jv*O) k2 r2):=⟨_,_,_,rfl,Fk⟩;refine⟨row (day+jv*O) k2 r2,g,sI day,sS o,sS b,sS p,sT (.str k2::r2),M2,AZ,K9,?_⟩;refine iL (.int day) (bd (.int ((k:Int) / 3+c / 400 % 3)) (.int O) (by simp) rfl (by rw[←AN];exact j6 _ _ D8)) rfl (iL (.str o) (eF (x:=.lst (([("crown" : Str),("abbey" : Str),("crown" : Str),("mill" : Str)]:List Str).map .str)) (y:=.int (c / 1200 % (2+ks.length))) (b1:=true) (b2:=false) (by simp[sizeLine]) (bd (.int (c / 1200)) (.int (2+ks.length)) (by simp) (by simp) (AB AJ)) eo) rfl (iL (.str b) ?_ rfl (iL (.str p) (bd (.lst (zs.map .str)) (.int (c / 30000 % zs.length)) rfl (bd (.int (c / 30000)) (.int zs.length) (by simp) (by simp) (AB D5)) ep) rfl (iL (.tup [.str "named",.int day,.str o,.str p]) (aY [.str "named",.int day,.str o,.str p] rfl (cO _ (by simp))) rfl (e2 _ _ (cb (ρ':=[sL (ns.map .int),sL (zs.map .str),sI O,sF (.dk ks vs),sI T,lT M,lT (g.map .str),sI k,sI c,sI day,sS o,sS b,sS p,sT (.str k2::r2)]) ?_ (iq (ds:=M) (d:=row (day+jv*O) k2 r2) (b:=false) rfl ?_ M2.rp.flat (bp (by omega)))))))))
 ·refine bd (.lst (G.map .str)) (.int (-1 - c / 10000 % n)) rfl (bd (.int (-1)) (.int (c / 10000 % n)) rfl (bd (.int (c / 10000)) (.int n) (by simp) (by simp[hn]) (AB Mz)) rfl) eb
 ·have e4:∀z,be (f2 yP (bP 13 0) (fS "death")) (U (.tup (.str k2::r2)))=some z↔(!decide (k2 = "death"))=z:=λz=>by
   have:be (f2 yP (bP 13 0) (fS "death")) (U (.tup (.str k2::r2)))=some (!decide (k2 = "death")):=eD (bd (.str k2) (.str "death") (bd (.tup (.str k2::r2)) (.int 0) rfl rfl (by simp[qZ])) rfl (by simp));rw[this];exact⟨λh=>vK h,λh=>by rw[h]⟩
  by_cases hx:k2 = "death"
  ·have eh:g=G:=by simp only[g];rw[if_pos hx]
   rw[eh];exact gI ((e4 false).mpr (by rw[decide_eq_true hx];rfl)) rfl
  ·have eh:g=G++[p]:=by simp only[g];rw[if_neg hx]
   rw[eh,uX];exact jX ((e4 true).mpr (by rw[decide_eq_false hx];rfl)) (iq (ds:=G.map .str) (d:=.str p) (b:=false) rfl rfl rfl (bp (by simp;omega)))
 ·exact aY [.int (day+jv*O),.tup (.str k2::r2)] (ee (bd (.int day) (.int (jv*O)) rfl (bd (.int jv) (.int O) (eF (x:=.lst (([0,0,0,0,1,6]:List Int).map .int)) (y:=.int (c / 7 % 6)) (b1:=true) (b2:=false) (aY (([0,0,0,0,1,6]:List Int).map .int) (by simp) (lg _ (by simp))) (by simp) OS) rfl (j6 _ _ D8)) (by simp)) rfl) (cO _ (by simp))
theorem CD (ns:List Int)(U:Int)(D8 : -1000<=U/\U<=1000)(zs:List Str)(hz:0<zs.length):∃M:List D,nI [.lst (ns.map .int),.lst (zs.map .str),.int U]=sT M/\(∀r∈M,kn r)/\M.length<=22:=by
 obtain⟨os,O,hd,hl,h2⟩:=yJ ns;obtain⟨c,hc⟩:∃c,ns.getD 1 0=c:=⟨_,rfl⟩;have e1:=kj ns 1;rw[hc]at e1;obtain⟨cs,OT,Mw⟩:=y8 ns 20 (by decide);obtain⟨z0,OU⟩:=lr (zs:=zs) (i:=0) (by omega) (by omega);let dk:D:=.dk (os.map Sum.inr) (O.map .str);obtain⟨G,el⟩:∃G:Int,f2 iY (f2 iY (fA sg (ab (f2 dF (f2 cy (f2 fU (fA aI (fV 0 (ab (fI 1) ag))) (fI 18)) (fI 8)) (fI 1)) ag)) (fI 4)) (af 2) [sL (ns.map .int),sL (zs.map .str),sI U,sF dk,none,none,none,none,none,none,none,none,none,none]=sI G :=
  ⟨_,bd (.int ((if decide (c / 18 % 8=1)=true then 1 else 0)*4)) (.int U) (bd (.int (if decide (c / 18 % 8=1)=true then 1 else 0)) (.int 4) (aY [.bl (decide (c / 18 % 8=1))] (ee (bd (.int (c / 18 % 8)) (.int 1) (bd (.int (c / 18)) (.int 8) (bd (.int c) (.int 18) (aY [.lst (ns.map .int),.int ((1:Nat):Int)] rfl e1) rfl (by simp)) rfl (by simp)) rfl (by simp)) rfl) rfl) rfl (j6 _ _ (by decide))) rfl (j6 _ _ D8)⟩
 let hR:Str->D:=λo=>row G ("root" : Str) [.str o,.int 7,.int 1,(aV (os.map Sum.inr:List bu) (O.map .str) (.inr o)).getD .non];have M3:∀o∈os,kn (hR o):=λo ho=>by
  obtain⟨rl,e⟩:=oz os O hl o ho;simp only[hR];rw[e];exact⟨_,_,_,rfl,.root _ _ _ _⟩
 have e5:=pJ (fi:=ve (af 3)) (nT:=1) (cap:=[4,3]) (tg:=dC 0) (fe:=fA ba (fV 1 (ab (fA ba (ab (fS "root") (fV 0 (ab (fI 7) (ab (fI 1) (ab (f2 AV (af 2) (af 0)) ag)))))) ag))) (ρ:=[sL (ns.map .int),sL (zs.map .str),sI U,sF dk,sI G,none,none,none,none,none,none,none,none,none]) os .str hR (by
   show some ((os.map Sum.inr).map kD)=_;rw[List.map_map];rfl) (by omega) λo ho=>by
  obtain⟨rl,e⟩:=oz os O hl o ho;have:hR o=.tup [.int G,.tup [.str "root",.str o,.int 7,.int 1,.str rl]]:=by simp only[hR];rw[e];rfl
  rw[this];exact⟨[sS o,sI G,sF dk],rfl,false,aY [.int G,.tup [.str "root",.str o,.int 7,.int 1,.str rl]] (ee rfl (ee (aY [.str "root",.str o,.int 7,.int 1,.str rl] (ee rfl (ee rfl (ee rfl (ee rfl (ee (bd dk (.str o) rfl rfl (by
   show(aV (os.map Sum.inr:List bu) (O.map .str) (.inr o)).map _=_;rw[e];rfl)) rfl))))) (cO _ (by simp))) rfl)) (cO _ (by simp))⟩
 obtain⟨ρ2,OV,Ia,OW,u7,u8,w9,D9,tY,FN,IQ,rfl,g2,l2,q2,q3⟩:=du (tg:=AU [7,8]) (g:=kX) (λi ρ=>∃(M:List D)(T:List Str)(u7 u8 v9 HZ yR qj tX:OB),ρ=[sL (ns.map .int),sL (zs.map .str),sI U,sF dk,sI G,lT M,lT (T.map .str),u7,u8,v9,HZ,yR,qj,tX]/\(∀r∈M,kn r)/\M.length=os.length+i/\T≠[]/\T.length<=i+1) (jM (cs.map .int))
  [sL (ns.map .int),sL (zs.map .str),sI U,sF dk,sI G,lT (os.map hR),lT ([z0].map .str),none,none,none,none,none,none,none] ⟨os.map hR,[z0],none,none,none,none,none,none,none,rfl,λr hr=>by
   obtain⟨o,ho,rfl⟩:=vO hr;exact M3 o ho,by simp,by simp,by simp⟩ (by
   rintro i d ρ hd ⟨M,T,u7,u8,v9,HZ,yR,qj,tX,rfl,g,l,q,q'⟩;rw[nN,vB]at hd;obtain⟨x,hx,rfl⟩:=oY hd;rw[List.getElem?_zipIdx]at hx;obtain⟨dv,M4,rfl⟩:=oY hx;rw[vB]at M4;obtain⟨cc,Iz,rfl⟩:=oY M4;have hi:i<cs.length:=(vV Iz).1;obtain⟨r,KH,w9,D9,tY,FN,IQ,q1,q2,q3,e⟩:=Hr cc U G D8 i (by omega) ns zs T (os.map Sum.inr) (O.map .str) (by simpa using h2) hz M (by omega) q (by omega) v9 HZ yR qj tX;refine⟨_,_,by simp[dq,dk],.inl e,M++[r],KH,_,_,w9,D9,tY,FN,IQ,rfl,?_,by simp;omega,q2,by omega⟩;intro r' hr;simp only[List.mem_append,List.mem_singleton]at hr;rcases hr with hr|rfl
   ·exact g r' hr
   ·exact q1)
 have Kj:(jM (cs.map D.int)).length=cs.length:=by rw[nN];simp
 rw[Kj]at l2 q3;refine⟨Ia,au rfl (J7 (d:=dk) (b:=false) (aY [.lst (ns.map .int)] rfl hd) rfl (.inl rfl) (iL (.int G) el rfl (cN (ds:=os.map hR) e5 (cn λd hd=>by
   obtain⟨o,ho,rfl⟩:=vO hd;exact(M3 o ho).rp.flat) (cN (ds:=[z0].map .str) (aY [.str z0] (ee (bd (.lst (zs.map .str)) (.int 0) rfl rfl OU) rfl) (lg _ (by simp))) rfl (cb (fO (ds:=jM (cs.map .int)) ?_ OV) (a9 (by simp))))))),g2,by omega⟩
 show(fA iO (fV 0 (ab (fI 5) (ab (fI 20) ag))) _).bind _=_;rw[aY [.lst (ns.map .int),.int 5,.int ((20:Nat):Int)] rfl OT];rfl
theorem AF {G:List D}(g:eB G)(M:Int)(n0 n1 n2:OB):∃U v7:OB,dX (AU [6,7]) vg G [n0,n1,n2,sT G,sI M,some (.dk [] [],true),none,none,none,none,none,none,none,none]=some (.nx [n0,n1,n2,sT G,sI M,some (dN (aj G M),true),U,v7,none,none,none,none,none,none]):=by
 let T:Nat->KL:=λj=>(G.zipIdx.take j).filter λx=>decide (bL x.1<=M);obtain⟨ρ',e,U,v7,rfl⟩:=du (tg:=AU [6,7]) (g:=vg) (λj ρ=>∃U v7:OB,ρ=[n0,n1,n2,sT G,sI M,some (dN (T j),true),U,v7,none,none,none,none,none,none]) G
  [n0,n1,n2,sT G,sI M,some (.dk [] [],true),none,none,none,none,none,none,none,none] ⟨none,none,rfl⟩ (by
   rintro j r ρ hr ⟨U,v7,rfl⟩;have gr:=g.2 r (vL hr);have hj:j<G.length:=(vV hr).1;have hl:=g.1;have ez:G.zipIdx[j]? = some (r,j):=by rw[List.getElem?_zipIdx,hr];simp
   have et:T (j+1)=T j++[(r,j)].filter λx=>decide (bL x.1<=M):=by
    show((G.zipIdx.take (j+1)).filter _)=_;rw[List.take_add_one,ez,Option.toList_some,List.filter_append]
   have P9:(cr (T j)).length<=60:=vR (yI _) (vR (vM _ _) (by rw[List.length_take];omega));let O:DL.Env:=[n0,n1,n2,sT G,sI M,some (dN (T j),true),sI (bL r),sF (gV r),none,none,none,none,none,none];have eg:AU [6,7] r [n0,n1,n2,sT G,sI M,some (dN (T j),true),U,v7,none,none,none,none,none,none]=some O:=by
    obtain⟨h,k,az,rfl,d⟩:=gr;simp[row,dq,bL,gV,O]
   have ec:cu (be (f2 tV (af 6) (af 4))) (be (f2 dF (bP 7 0) (fS "root"))) O=some (decide (bL r<=M) && bC r):=bS (eD (bd (.int (bL r)) (.int M) rfl rfl (by simp))) λ_=>aW (bb:=false) (bd (gV r) (.int 0) rfl rfl (Fc gr)) rfl;refine⟨O,[n0,n1,n2,sT G,sI M,some (dN (T (j+1)),true),sI (bL r),sF (gV r),none,none,none,none,none,none],eg,.inl ?_,_,_,rfl⟩;cases hh:decide (bL r<=M) with
   |false=>
    rw[hh]at ec;have e2:T (j+1)=T j:=by rw[et,List.filter_cons_of_neg (by rw[hh];decide),List.filter_nil,uR]
    rw[e2];exact gI ec rfl
   |true=>
    rw[hh]at ec;have e2:T (j+1)=T j++[(r,j)]:=by rw[et,List.filter_cons_of_pos (by rw[hh]),List.filter_nil]
    rw[e2];cases hi:bC r with
    |false=>
     rw[hi]at ec;unfold dN;rw[vy _ (r,j) hi];exact gI ec rfl
    |true=>
     rw[hi]at ec;unfold dN;rw[vx _ r j hi,←yE A9,←tN];obtain⟨a,o,rl,m,f,er⟩:=j3 gr hi;have k1:cw (gV r) (.int 1)=sS (am 0 r):=by rw[er];simp[row,gV,Au,am]
     have k4:cw (gV r) (.int 4)=sS (am 3 r):=by rw[er];simp[row,gV,Lv,am]
     refine jX ec ?_;show ng 5 _ _ O=_;unfold ng;show((bP 7 4 O).bind _)=_;rw[show bP 7 4 O=sS (am 3 r)from bd (gV r) (.int 4) rfl rfl k4,vJ,show bP 7 1 O=sS (am 0 r)from bd (gV r) (.int 1) rfl rfl k1,vJ];show(if _ then _ else _)=_;rw[if_pos ⟨rfl,bp (by rw[vI];omega)⟩];rfl)
 refine⟨U,v7,e.trans ?_⟩;have:T G.length=aj G M:=by
  show((G.zipIdx.take G.length).filter _)=_;rw[List.take_of_length_le (by rw[List.length_zipIdx];exact vT _)];rfl
 rw[this]
inductive Hd:D->Prop
 |no:Hd (.tup [.str "none"])
 |pt (zs:List Str) (h:zs.length<=60):Hd (.tup [.str "parted",.lst (zs.map .str)])
 |one (p:Str) (n:Int):Hd (.tup [.str "one",.str p,.int n])
theorem CF (cs:List Cl):(fE cs).length<=cs.length:=by
 have:=lm (fE cs) (cs.map (·.p)) ((cf _).nodup_iff.mpr (dM _ [] List.nodup_nil)) λx hx=>by
  rcases iC _ _ _ ((cf _).mem_iff.mp hx)with h|h
  ·cases h
  ·exact h
 rwa [vI]at this
theorem Ff {f:FE}{ρ:DL.Env}{p b1:Bool}(e:f ρ=some (.bl p,b1)):z4 f ρ=sO (!p):=by
 unfold z4;rw[e]
theorem Hs (rl:Option Str)(g:List Cl)(hl:g.length<=60):Hd (AD rl g):=by
 unfold AD;split
 ·exact .no
 ·cases g with
  |nil=>exact .no
  |cons b r=>
   rw[gU];split
   ·exact .pt _ (vR (CF _) hl)
   ·exact .one _ _
theorem Hd.plain {d:D}(h:Hd d):ay 40 d=true:=by
 cases h with
 |no=>rfl
 |pt zs=>exact lh (by simp only[List.all_cons,List.all_nil,ay,Bool.and_true,Bool.true_and];exact oe _ _)
 |one=>rfl
theorem Hd.ne {d:D}(h:Hd d):yP d d=sO false:=by
 unfold yP;rw[if_pos ⟨h.plain,h.plain⟩,nL 40 _ h.plain];rfl
theorem Hd.right {d:D}(h:Hd d):iR [d,d]=sO true:=by
 have g:gX (fJ (be (fA dh (fV 0 (ab (fC (.ty "tuple")) ag))))) (be (f2 yP (af 0) (af 1))) [sF d,sF d]=some false:=by
  refine ir (p:=false) (q:=false) (jZ (p:=true) (eD (aY [d,.ty "tuple"] rfl ?_))) λ_=>eD (bd d d rfl rfl h.ne);cases h<;>exact nu rfl
 refine au rfl (cb (gI g rfl) ?_);cases h with
 |no=>exact cb (gI (aW (a:="none") (bb:=false) (bd (.tup [.str "none"]) (.int 0) rfl rfl (by simp[qZ])) (decide_eq_false (by decide +kernel))) rfl) (a9 (xj (p:=true) (q:=true) (b1:=false) (bd (.str "none") (.str "none") (bd (.tup [.str "none"]) (.int 0) rfl rfl (by simp[qZ])) rfl (by simp)) (by simp)))
 |pt zs=>exact cb (gI (aW (a:="parted") (bb:=false) (bd (.tup [.str "parted",.lst (zs.map .str)]) (.int 0) rfl rfl (by simp[qZ])) (decide_eq_false (by decide +kernel))) rfl) (a9 (xj (p:=false) (q:=true) (b1:=false) (bd (.str "parted") (.str "none") (bd (.tup [.str "parted",.lst (zs.map .str)]) (.int 0) rfl rfl (by simp[qZ])) rfl (nu (by decide +kernel))) λ_=>aY [.lst (zs.map .str),.ty "list"] (ee (bd (.tup [.str "parted",.lst (zs.map .str)]) (.int 1) rfl rfl (by simp[Au])) rfl) (nu rfl)))
 |one p n=>exact cP (aW (a:="one") (bb:=false) (bd (.tup [.str "one",.str p,.int n]) (.int 0) rfl rfl (by simp[qZ])) (decide_eq_true rfl)) (a9 (Ff (p:=false) (b1:=false) (aY [.int n,.ty "bool"] (ee (bd (.tup [.str "one",.str p,.int n]) (.int 2) rfl rfl (by simp[FD])) rfl) (nu rfl))))
theorem D3 {f:FE}{ρ:DL.Env}{i j:Nat}{d:D}{b:Bool}{g G:FT}{g1 h2:FS}{fe:FE}(e:f (k9 ρ)=some (d,b))(M:g (ρ.set i (sF d))=some false)(e2:G (ρ.set i (sF d))=some false):EU i f g g1 G j fe h2 ρ=some (.nx (ρ.set i (sF d))):=by
 unfold EU;rw[e,vJ];dsimp only;rw[M];dsimp only;rw[e2]
theorem Fg {f:FE}{ρ:DL.Env}{i:Nat}{a:D}{es:List D}{g G:FT}{g1 h2:FS}{fe:FE}{y:D×Bool}{r:Option Res}(e:f (k9 ρ)=some (.tup [a,.lst es],true))(M:g (ρ.set i (sT [a,.lst es]))=some false)(e2:G (ρ.set i (sT [a,.lst es]))=some true)(O:fe (ρ.set i (sT [a,.lst es]))=some y)(hi:i<ρ.length/\es.length<sizeLine)(k:h2 (ρ.set i none)=r):EU i f g g1 G 1 fe h2 ρ=r:=by
 unfold EU;rw[e,vJ];dsimp only;rw[M];dsimp only;rw[e2];dsimp only;rw[show J5 1 (D.tup [a,.lst es],true)=some es from rfl,vJ,O,vJ,if_pos hi];exact k
noncomputable def Ev (ns:List Int)(zs:D)(ms:Int)(G:List D)(g:Int)(ru cl da:D)(b1 b5 b8 b9:Bool)(v6 v7 M O T U:OB):DL.Env:=[sL (ns.map .int),some (zs,b1),sI ms,sT G,sI g,some (ru,b5),v6,v7,some (cl,b8),some (da,b9),M,O,T,U]
theorem CG (ns:List Int)(zs:D)(ms:Int)(G:List D)(g:Int)(ru cl da:D)(b1 b5 b8 b9:Bool)(v6 v7 qj M:OB)(o:Str)(day:Int){d:D}(hd:Hd d)(e1:iQ [cl,ru,.str o,.int day]=sF d)(e2:gn [.tup G,.int g,.str o,.int day]=some (d,D0 d)):
  ∃T U c8 c9 w6 w7 FN O,nK (Ev ns zs ms G g ru cl da b1 b5 b8 b9 v6 v7 (sS o) (sI day) qj M)=some (.nx (Ev ns zs ms G g ru cl da T U c8 c9 w6 w7 (sS o) (sI day) FN O)):=by
 obtain⟨T,U,c8,c9,w6,w7,O,eS⟩:∃T U c8 c9 w6 w7 O,aM 12 (fA iQ (fV 8 (fV 5 (fV 10 (fV 11 ag))))) (Ev ns zs ms G g ru cl da b1 b5 b8 b9 v6 v7 (sS o) (sI day) qj M)=some (.nx (Ev ns zs ms G g ru cl da T U c8 c9 w6 w7 (sS o) (sI day) (sF d) O)):=by
  have e:fA iQ (fV 8 (fV 5 (fV 10 (fV 11 ag)))) (Ev ns zs ms G g ru cl da b1 b5 b8 b9 v6 v7 (sS o) (sI day) qj M)=sF d:=aY [cl,ru,.str o,.int day] rfl e1;by_cases hn:aT d=true
  ·exact⟨b1,b5,b8,b9,v6,v7,M,jY e hn⟩
  ·refine⟨false,false,false,false,v6.map λy=>(y.1,false),v7.map λy=>(y.1,false),M.map λy=>(y.1,false),?_⟩;unfold aM;rw[e];show some (Res.nx (setE _ 12 d false))=_;unfold setE;rw[if_neg hn,if_neg (by simp)];rfl
 have hr:=hd.right;have AZ:=hd.ne;have eh:fA gn (fV 3 (fV 4 (fV 10 (fV 11 ag)))) (k9 (Ev ns zs ms G g ru cl da T U c8 c9 w6 w7 (sS o) (sI day) (sF d) O))=some (d,D0 d):=aY [.tup G,.int g,.str o,.int day] rfl e2;have er:fJ (be (fA iR (fV 13 (fV 12 ag)))) (Ev ns zs ms G g ru cl da T U c8 c9 w6 w7 (sS o) (sI day) (sF d) (sF d))=some false:=jZ (p:=true) (eD (aY [d,d] rfl hr));cases hd with
 |no=>exact⟨T,U,c8,c9,w6,w7,_,_,cb eS (D3 eh er (aW (a:="none") (bb:=false) (bd (.tup [.str "none"]) (.int 0) rfl rfl (by simp[qZ])) (decide_eq_false (by decide +kernel))))⟩
 |one p n=>exact⟨T,U,c8,c9,w6,w7,_,_,cb eS (D3 eh er (aW (a:="one") (bb:=false) (bd (.tup [.str "one",.str p,.int n]) (.int 0) rfl rfl (by simp[qZ])) (decide_eq_false (by decide +kernel))))⟩
 |pt ps h=>
  refine⟨T,U,c8,c9,w6,w7,_,none,cb eS (Fg eh er (aW (a:="parted") (bb:=false) (bd (.tup [.str "parted",.lst (ps.map .str)]) (.int 0) rfl rfl (by simp[qZ])) (decide_eq_true rfl)) rfl ⟨(by decide:13<14),bp (by rw[vI];omega)⟩ (gI (kQ (b:=false) (eF (b1:=true) (b2:=false) (aY [.tup G,.int g,.str o,.int day] rfl e2) rfl AZ)) rfl))⟩
theorem yK {M:List D}(g:eB M)(G:Int)(O:(eC (aj M G)).length<=60)(o:Str)(day:Int){d:D}(hd:AD ((iB (aj M G) o).map (am 3)) (oE (cM (aj M G)) o day)=d):gn [.tup M,.int G,.str o,.int day]=some (d,D0 d):=by
 obtain⟨ec,yM⟩:=qg g G O;have U:f2 uN (fA iM (fV 0 (fV 1 ag))) (af 2) [sT M,sI G,sS o,sI day,none]=sF ((iB (aj M G) o).getD .non) :=
  bd (.dk (aU (ce (aj M G))).1 (aU (ce (aj M G))).2) (.str o) (aY [.tup M,.int G] rfl (tG g G)) rfl rfl
 subst hd;cases hr:iB (aj M G) o with
 |none=>
  rw[hr]at U;exact au rfl (iL .non U rfl (cP (eD (by simp)) (a9 (aY [.str "none"] rfl (cO _ (by simp))))))
 |some v=>
  rw[hr]at U;have ho:=yG hr;obtain⟨va,vo,T,vm,vf,ev⟩:=lG g hr;subst ev;have ho:vo=o:=ho;subst ho;exact au rfl (iL (row va ("root" : Str) [.str vo,.int vm,.int vf,.str T]) U rfl (bx (eD (by simp[row])) (a9 (aY [.lst ((cM (aj M G)).map aB),row va ("root" : Str) [.str vo,.int vm,.int vf,.str T],.int day] (aR (aY [.tup M,.int G] rfl ec) rfl) (kq _ yM day)))))
theorem law_true (ns:List Int)(hn:ns.length<=63):∃b,F_law [.lst (ns.map .int)]=some (.bl true,b):=by
 have m4:=mod_lt (x:=ns.getD 0 0) (m:=4) (by decide);obtain⟨CQ,Ib⟩:∃CQ:Nat,2+ns.getD 0 0 % 4=CQ:=⟨(2+ns.getD 0 0 % 4).toNat,by omega⟩;obtain⟨zs,hz,PB,_⟩:=iI (ns.getD 2 0) CQ (by omega);have m3:=mod_lt (x:=ns.getD 0 0 / 4) (m:=3) (by decide);obtain⟨O,D8,OX⟩:=AA (ns:=[1,1,500]) (i:=ns.getD 0 0 / 4 % 3) m3.1 m3.2;have KI : -1000<=O/\O<=1000:=by simp only[List.mem_cons,List.not_mem_nil,or_false]at D8;omega
 obtain⟨M,Ic,hR,KE⟩:=CD ns O KI zs (by omega);have m2:=mod_lt (x:=ns.getD 4 0) (m:=2) (by decide);obtain⟨G,_,OY⟩:=AA (ns:=[9999,ns.getD 3 0 % 12*O]) (i:=ns.getD 4 0 % 2) m2.1 m2.2;have g:eB M:=⟨by omega,hR⟩;have iD:(eC (aj M G)).length<=60:=by
  rw[show(eC (aj M G)).length=_ from(bN _ _).length_eq];exact vR (vM _ _) (vR (j0 M G) g.1)
 obtain⟨yM,Ie⟩:=qg g G iD;have HI:aT (.tup M)=true:=by simp[cn λr hr=>(hR r hr).rp.flat]
 obtain⟨v6,v7,M5⟩:=AF g G (sL (ns.map .int)) (lT (zs.map .str)) (sI O);have FP:∀(k:Nat)(ρ:DL.Env)(i:Nat)(f:FE),ρ[i]? = some (sL (ns.map .int))->f ρ=sI k->fA aI (fV i (ab f ag)) ρ=sI (ns.getD k 0):=λk ρ i f h1 h2=>aY [.lst (ns.map .int),.int k] (ee (by simp[h1]) (ee h2 rfl)) (kj ns k);obtain⟨dl,Ba⟩:∃dl:List Int,[0,9999]++(List.range 6).map (λk=>ns.getD (25+k) 0 % 13*O)=dl:=⟨_,rfl⟩;let da:D:=.lst (dl.map .int);have AG:∀(o:Str)(day:Int)(b1 b5 b8 b9:Bool)(v6 v7 qj tX:OB),∃c1 c5 c8 c9 w6 w7 T U,nK (Ev ns (.lst (zs.map .str)) O M G (dN (aj M G)) (.lst ((cM (aj M G)).map aB)) da b1 b5 b8 b9 v6 v7 (sS o) (sI day) qj tX)=some (.nx (Ev ns (.lst (zs.map .str)) O M G (dN (aj M G)) (.lst ((cM (aj M G)).map aB)) da c1 c5 c8 c9 w6 w7 (sS o) (sI day) T U)):=λo day b1 b5 b8 b9 v6 v7 qj tX=>
  CG ns _ O M G _ _ da b1 b5 b8 b9 v6 v7 qj tX o day (Hs _ _ (vR (vM _ _) Ie)) (Fe _ Ie o day (tR (gN M G) o day) (yH _ o)) (yK g G iD o day rfl)
 have AO:aM 8 (fA gm (fV 3 (fV 4 ag))) [sL (ns.map .int),lT (zs.map .str),sI O,sT M,sI G,some (dN (aj M G),true),v6,v7,none,none,none,none,none,none]=some (.nx [sL (ns.map .int),lT (zs.map .str),sI O,sT M,sI G,some (dN (aj M G),true),v6,v7,some (.lst ((cM (aj M G)).map aB),true),none,none,none,none,none]):=by
  unfold aM;rw[show fA gm (fV 3 (fV 4 ag)) [sL (ns.map .int),lT (zs.map .str),sI O,sT M,sI G,some (dN (aj M G),true),v6,v7,none,none,none,none,none,none]=lT ((cM (aj M G)).map aB)from aY [.tup M,.int G] rfl yM];show some (Res.nx (setE _ 8 _ true))=_;rw[nv (fD _)];rfl
 generalize dN (aj M G)=ru at M5 AG AO;generalize (D.lst ((cM (aj M G)).map aB))=cl at AG AO;have Ig:∀(o:Str)(b1 b5 b8 b9:Bool)(v6 v7 yR qj tX:OB),∃c1 c5 c8 c9 w6 w7 tY T U,vh (Ev ns (.lst (zs.map .str)) O M G ru cl da b1 b5 b8 b9 v6 v7 (sS o) yR qj tX)=some (.nx (Ev ns (.lst (zs.map .str)) O M G ru cl da c1 c5 c8 c9 w6 w7 (sS o) tY T U)):=λo b1 b5 b8 b9 v6 v7 yR qj tX=>by
  have eu:unown1 (Ev ns (.lst (zs.map .str)) O M G ru cl da b1 b5 b8 b9 v6 v7 (sS o) yR qj tX) 9=Ev ns (.lst (zs.map .str)) O M G ru cl da b1 b5 b8 false v6 v7 (sS o) yR qj tX:=by cases b9<;>rfl
  obtain⟨ρ',e,c1,c5,c8,c9,w6,w7,tY,T,U,rfl⟩:=du (tg:=dC 11) (g:=nK) (λ_ ρ=>∃(c1 c5 c8 c9:Bool)(w6 w7 tY T U:OB),ρ=Ev ns (.lst (zs.map .str)) O M G ru cl da c1 c5 c8 c9 w6 w7 (sS o) tY T U) (dl.map .int) (Ev ns (.lst (zs.map .str)) O M G ru cl da b1 b5 b8 false v6 v7 (sS o) yR qj tX) ⟨b1,b5,b8,false,v6,v7,yR,qj,tX,rfl⟩ (by
   rintro i d ρ hd ⟨c1,c5,c8,c9,w6,w7,tY,T,U,rfl⟩;rw[vB]at hd;obtain⟨day,_,rfl⟩:=oY hd;obtain⟨x1,x5,x8,x9,y6,y7,KJ,KN,e⟩:=AG o day c1 c5 c8 c9 w6 w7 T U;exact⟨_,_,rfl,.inl e,x1,x5,x8,x9,y6,y7,_,KJ,KN,rfl⟩)
  refine⟨c1,c5,c8,c9,w6,w7,tY,T,U,?_⟩;show jF (cz (af 9)) (dC 11) nK (unown1 _ 9)=_;rw[eu];exact fO (ds:=dl.map .int) rfl e
 obtain⟨ρ',e,c1,c5,c8,c9,w6,w7,D9,tY,T,U,rfl⟩:=du (tg:=dC 10) (g:=vh) (λ_ ρ=>∃(c1 c5 c8 c9:Bool)(w6 w7 D9 tY T U:OB),ρ=Ev ns (.lst (zs.map .str)) O M G ru cl da c1 c5 c8 c9 w6 w7 D9 tY T U) (([("crown" : Str),("abbey" : Str),("mill" : Str)]:List Str).map .str) (Ev ns (.lst (zs.map .str)) O M G ru cl da true true true true v6 v7 none none none none) ⟨true,true,true,true,v6,v7,none,none,none,none,rfl⟩ (by
   rintro i d ρ hd ⟨c1,c5,c8,c9,w6,w7,D9,tY,T,U,rfl⟩;rw[vB]at hd;obtain⟨o,_,rfl⟩:=oY hd;obtain⟨x1,x5,x8,x9,y6,y7,OZ,KJ,KN,e⟩:=Ig o c1 c5 c8 c9 w6 w7 tY T U;exact⟨_,_,rfl,.inl e,x1,x5,x8,x9,y6,y7,_,OZ,KJ,KN,rfl⟩)
 have e9:f2 dj (fA bD (ab (fI 0) (ab (fI 9999) ag))) (bR (fW (fI 6)) 1 [2,0] (dC 0) gR (f2 iY (f2 cy (fA aI (fV 2 (ab (f2 dj (fI 25) (af 0)) ag))) (fI 13)) (af 1))) [sL (ns.map .int),lT (zs.map .str),sI O,sT M,sI G,some (ru,true),v6,v7,some (cl,true),none,none,none,none,none]=lT (dl.map .int):=by
  have hc:=pJ (fi:=fW (fI 6)) (nT:=1) (cap:=[2,0]) (tg:=dC 0) (fe:=f2 iY (f2 cy (fA aI (fV 2 (ab (f2 dj (fI 25) (af 0)) ag))) (fI 13)) (af 1)) (ρ:=[sL (ns.map .int),lT (zs.map .str),sI O,sT M,sI G,some (ru,true),v6,v7,some (cl,true),none,none,none,none,none]) (List.range 6) (λ(k:Nat)=>.int (0+(k:Int))) (λk=>.int (ns.getD (25+k) 0 % 13*O)) rfl (by decide) λk _=>
   ⟨[sI (0+(k:Int)),sI O,sL (ns.map .int)],rfl,false,bd (.int (ns.getD (25+k) 0 % 13)) (.int O) (bd (.int (ns.getD (25+k) 0)) (.int 13) (FP (25+k) _ 2 _ rfl (by
    show some (D.int (25+(0+(k:Int))),false)=some (D.int ((25+k:Nat):Int),false);congr 3;omega)) rfl (by simp)) rfl (j6 _ _ KI)⟩
  refine eF (x:=.lst [.int 0,.int 9999]) (y:=.lst ((List.range 6).map λk=>.int (ns.getD (25+k) 0 % 13*O))) (b1:=true) (b2:=true) (by simp[sizeLine]) hc ?_;rw[←Ba,uX,List.map_map];exact if_pos (c:=8<=sizeLine) (e:=none) (bY (by decide))
 refine⟨false,au rfl (cN (ds:=zs.map .str) (aY [.int (ns.getD 2 0),.int CQ] (ee (FP 2 _ 0 _ rfl rfl) (ee (bd (.int 2) (.int (ns.getD 0 0 % 4)) rfl (bd (.int (ns.getD 0 0)) (.int 4) (FP 0 _ 0 _ rfl rfl) rfl (by simp)) (by show some (D.int (2+ns.getD 0 0 % 4),false)=_;rw[Ib])) rfl)) hz) (fP _) (iL (.int O) ?_ rfl (iL (.tup M) (aY [.lst (ns.map .int),.lst (zs.map .str),.int O] rfl Ic) HI (iL (.int G) ?_ rfl (cb (ρ':=[sL (ns.map .int),lT (zs.map .str),sI O,sT M,sI G,some (.dk [] [],true),none,none,none,none,none,none,none,none]) rfl (cb (ρ':=[sL (ns.map .int),lT (zs.map .str),sI O,sT M,sI G,some (ru,true),v6,v7,none,none,none,none,none,none]) (fO (ds:=M) rfl M5) (cb (ρ':=[sL (ns.map .int),lT (zs.map .str),sI O,sT M,sI G,some (ru,true),v6,v7,some (cl,true),none,none,none,none,none]) ?_ (cN (ds:=dl.map .int) e9 ?_ (cb (fO (ds:=([("crown" : Str),("abbey" : Str),("mill" : Str)]:List Str).map .str) rfl e) (a9 rfl))))))))))⟩
 ·exact eF (x:=.lst (([1,1,500]:List Int).map .int)) (y:=.int (ns.getD 0 0 / 4 % 3)) (b1:=true) (b2:=false) (by simp[sizeLine]) (bd (.int (ns.getD 0 0 / 4)) (.int 3) (bd (.int (ns.getD 0 0)) (.int 4) (FP 0 _ 0 _ rfl rfl) rfl (by simp)) rfl (by simp)) OX
 ·exact eF (x:=.lst (([9999,ns.getD 3 0 % 12*O]:List Int).map .int)) (y:=.int (ns.getD 4 0 % 2)) (b1:=true) (b2:=false) (aY (([9999,ns.getD 3 0 % 12*O]:List Int).map .int) (ee rfl (ee (bd (.int (ns.getD 3 0 % 12)) (.int O) (bd (.int (ns.getD 3 0)) (.int 12) (FP 3 _ 0 _ rfl rfl) rfl (by simp)) rfl (j6 _ _ KI)) rfl)) (lg _ (by simp))) (bd (.int (ns.getD 4 0)) (.int 2) (FP 4 _ 0 _ rfl rfl) rfl (by simp)) OY
 ·exact AO
 ·exact cn λd hd=>by obtain⟨c,_,rfl⟩:=vO hd;rfl
end Lw
namespace Lw
open PySem PySem.Spec PyProof.Rows L2 DL
noncomputable def gW (i:Nat):Stmt:=PySem.Challenge.pw_sealchain_k18_who_holds.main.body.getD i (.Pass ⟨0,0,0,0⟩)
structure Tx (w:World)(K:Frag)(mg:Str->Option Value):Prop where
 hX:∃h,K.In h/\h.Ns mainGlobals mg
 d0:eU K "word_of" (gW 4)
 d1:eU K "part_of" (gW 5)
 d2:eU K "day_of" (gW 6)
 d3:eU K "heard" (gW 8)
 d4:eU K "rank" (gW 10)
 d5:eU K "in_order" (gW 11)
 d6:eU K "by_office" (gW 23)
 d7:eU K "roots" (gW 12)
 d8:eU K "is_known" (gW 9)
 d9:eU K "tells" (gW 15)
 d10:eU K "told_of" (gW 16)
 d11:eU K "lives" (gW 17)
 d12:eU K "has_seal" (gW 18)
 d13:eU K "is_sound" (gW 19)
 d14:eU K "lies_in" (gW 1)
 d15:eU K "is_alive" (gW 21)
 d16:eU K "by_since" (gW 22)
 d17:eU K "chief_of" (gW 24)
 d18:eU K "holder_by" (gW 25)
 d19:eU K "is_held_by" (gW 26)
 d20:eU K "is_first_death" (gW 27)
 d21:eU K "counts" (gW 28)
 d22:eU K "new_claim" (gW 29)
 d23:eU K "ended" (gW 30)
 d24:eU K "after_choice" (gW 31)
 d25:eU K "inherited" (gW 32)
 d26:eU K "after_death" (gW 33)
 d27:eU K "claims" (gW 34)
 d28:eU K "holder" (gW 35)
 d29:eU K "_law_cell_at" (gW 37)
 d30:eU K "_law_names" (gW 39)
 d31:eU K "_law_cells" (gW 38)
 d32:eU K "_law_rules" (gW 40)
 d33:eU K "_law_rows" (gW 41)
 d34:eU K "_law_due" (gW 42)
 d35:eU K "_law_right" (gW 43)
 d36:eU K "law" (gW 44)
 n0:mg "bool" = none
 n1:mg "dict" = none
 n2:mg "enumerate" = none
 n3:mg "int" = none
 n4:mg "isinstance" = none
 n5:mg "len" = none
 n6:mg "list" = none
 n7:mg "max" = none
 n8:mg "min" = none
 n9:mg "range" = none
 n10:mg "set" = none
 n11:mg "sorted" = none
 n12:mg "tuple" = none
 k0:KD w K mg "PARTS" gJ
 k1:KC K mg "SEALINGS" fy
 l5:yw K "in_order"
 l12:yw K "has_seal"
 l20:yw K "is_first_death"
section
variable {P:Program}{w:World}{K:Frag}{mg:Str->Option Value}{base:Heap}(T:Tx w K mg)
include T
theorem f0:Fn P w K mg base 1 "word_of" aK:=T.d0.fq T.hX pK ["row"] 1 λnd g hu=>
  (b7 (bf (aQ 0) ao))
theorem f1:Fn P w K mg base 2 "part_of" ak:=T.d1.fq T.hX pL ["row","part"] 2 λnd g hu=>
  (b7 (bf (aQ 0) (a8 bW ao (Ce T.k0 (aF (f0 T) g) (ac 1)))))
theorem f2:Fn P w K mg base 3 "day_of" aX:=T.d2.fq T.hX tu ["row"] 1 λnd g hu=>
  (ah (eP (aE (dc hu) (aF (f0 T) g) aw) gy)
   (b7 (aF (f1 T) g)))
theorem f3:Fn P w K mg base 1 "heard" cX:=T.d3.fq T.hX xn ["book","known"] 2 λnd g hu=>
  (b7 (jV ["number","row","known"] (wH T.n2 (ac 0)) (hJ (aE mB (aQ 1) (ac 2))) (ac 0)))
theorem f4:Fn P w K mg base 4 "rank" eG:=T.d4.fq T.hX As ["book","number"] 2 λnd g hu=>
  (b7 (bo (ae (bz (f2 T) g (ae (bf (ac 0) (ac 1)) ai)) (aJ 1 ai))))
theorem f5:Fn P w K mg base 8 "in_order" fz:=T.d5.fqL T.hX nw ["book","known","dated"] 2 λnd g hu G=>
  (ah (tm ["number","book"] nd (c6 (aF (f3 T) g)) (hJ (aE wA (bz (f2 T) g (ae (bf (ac 1) (ac 0)) ai)) gy)) (ac 0))
   (b7 (Ds Ab T.n11 (ac 2) (uI (cap:=[0]) (N':=["number","book"]) (by decide +kernel) T.l5 G rfl rfl (Aa (by decide +kernel) rfl rfl rfl rfl rfl) rfl (.cons rfl rfl (Or.inl rfl) rfl (lS (by decide +kernel) rfl) (.nil rfl)) rfl g.in1.in1 (λ_ _ _ _=>rfl) λ_ _ _ _ g=>have hu:=z8 g;(aF (f4 T) g)))))
theorem f6:Fn P w K mg base 1 "by_office" ew:=T.d6.fq T.hX lz ["claim"] 1 λnd g hu=>
  (b7 (bo (ae (aQ 0) (ae (aQ 0) (ae (aQ 0) ai)))))
theorem f7:Fn P w K mg base 3 "roots" iM:=T.d7.fq T.hX xo ["book","known","known_rows"] 2 λnd g hu=>
  (ah (tm ["number","book"] nd (c6 (aF (f3 T) g)) kB (bf (ac 1) (ac 0)))
   (b7 (kH (EQ rfl) T.n1 EO (ae (jV ["row"] (c6 (ac 2)) (hJ (aE (dc hu) (aF (f0 T) g) aw)) (bo (ae (aF (f1 T) g) (aJ 0 ai)))) ai))))
theorem f8:Fn P w K mg base 1 "is_known" gK:=T.d8.fq T.hX ny ["book","known","number"] 3 λnd g hu=>
  (b7 (kG (zy mB pd ao (ac 2) (bv hZ T.n5 gS (aJ 0 ai))) (jj (dE mB (bf (bf (ac 0) (ac 2)) ao) (ac 1)))))
theorem f9:Fn P w K mg base 4 "tells" md:=T.d9.fq T.hX xp ["row","words","person","day"] 4 λnd g hu=>
  (b7 (kG (dE Dl (aF (f0 T) g) (ac 1)) (kG (dE (dc hu) (aF (f1 T) g) (ac 2)) (jj (dE mB (aF (f2 T) g) (ac 3))))))
theorem f10:Fn P w K mg base 5 "told_of" eZ:=T.d10.fq T.hX pM ["book","known","words","person","day"] 5 λnd g hu=>
  (b7 (jV ["number","words","person","day","book"] (c6 (aF (f3 T) g)) (hJ (gz (bz (f9 T) g (ae (bf (ac 4) (ac 0)) (aJ 1 (aJ 2 (aJ 3 ai))))))) (ac 0)))
theorem f11:Fn P w K mg base 6 "lives" kg:=T.d11.fq T.hX xq ["book","known","person","day"] 4 λnd g hu=>
  (b7 (dE (dc hu) (bv hZ T.n5 gS (ae (bz (f10 T) g (aJ 0 (aJ 1 (ae (bo (ae aw ai)) (aJ 2 (aJ 3 ai)))))) ai)) ao))
theorem Nb:Fn P w K mg base 8 "has_seal" ju:=T.d12.fqL T.hX nz ["book","known","person","day","told"] 4 λnd g hu G=>
  (ah (ax nd (bz (f10 T) g (aJ 0 (aJ 1 (ae (bo (ae aw (ae aw ai))) (aJ 2 (aJ 3 ai)))))))
   (ah (eP (aE (dc hu) (bv hZ T.n5 gS (aJ 4 ai)) ao) jI)
   (b7 (dE (dc hu) (bz (f0 T) g (ae (bf (ac 0) (sY Lm T.n7 (ac 4) (uI (cap:=[0]) (N':=["number","book"]) (by decide +kernel) T.l12 G rfl rfl (Aa (by decide +kernel) rfl rfl rfl rfl rfl) rfl (.cons rfl rfl (Or.inl rfl) rfl (lS (by decide +kernel) rfl) (.nil rfl)) rfl g.in1 (λ_ _ _ _=>rfl) λ_ _ _ _ g=>have hu:=z8 g;(aF (f4 T) g)) g)) ai)) aw))))
theorem Nc:Fn P w K mg base 9 "is_sound" jw:=T.d13.fq T.hX nA ["book","known","number","sealer","day"] 3 λnd g hu=>
  (ah (eP (jJ (m6 (m7 (gz (aF (f8 T) g))) (kF (aE mD (bz (f0 T) g (ae (bf (ac 0) (ac 2)) ai)) (z9 T.k1))))) jI)
   (ah (ax nd (bz (f1 T) g (ae (bf (ac 0) (ac 2)) (ae aw ai))))
   (ah (ax nd (bz (f2 T) g (ae (bf (ac 0) (ac 2)) ai)))
   (b7 (kG (aF (f11 T) g) (jj (aF (Nb T) g)))))))
theorem Nd:Fn P w K mg base 1 "lies_in" kU:=T.d14.fq T.hX pN ["day","stretch"] 2 λnd g hu=>
  (b7 (kG (dE mB (aQ 1) (ac 0)) (jj (Dh (dE BN (aQ 1) gy) (jj (dE pd (ac 0) (aQ 1)))))))
theorem JD:Fn P w K mg base 2 "is_alive" bQ:=T.d15.fq T.hX nB ["claim","day"] 2 λnd g hu=>
  (b7 (bz (Nd T) g (aJ 1 (ae (bo (ae (aQ 0) (ae (aQ 0) ai))) ai))))
theorem JF:Fn P w K mg base 1 "by_since" cj:=T.d16.fq T.hX nD ["claim"] 1 λnd g hu=>
  (b7 (bo (ae (aQ 0) (ae (aQ 0) ai))))
theorem Nf:Fn P w K mg base 5 "chief_of" jx:=T.d17.fq T.hX nE ["alive","rule"] 2 λnd g hu=>
  (ah (eP (aE (dc hu) (ac 1) aw) (bf (sY Lm T.n7 (ac 0) (wV (JF T) (g.in1.mono (by decide)) rfl) g) ao))
   (b7 (bf (sY Ju T.n8 (ac 0) (wV (JF T) (g.in1.mono (by decide)) rfl) g) ao)))
theorem Ly:Fn P w K mg base 6 "holder_by" di:=T.d18.fq T.hX l7 ["claimed","root","day","alive","people","person","oldest"] 3 λnd g hu=>
  (ah (tm ["claim","day","root"] nd (c6 (ac 0)) (hJ (jJ (g7 (aE (dc hu) (aQ 0) (aF (f1 T) g)) (fK (gz (aF (JD T) g)))))) (ac 0))
   (ah (ax nd (jo rfl T.n11 T.n10 (jV ["claim"] (c6 (ac 3)) kB (aQ 0))))
   (ah (eP (aE (dc hu) (bv hZ T.n5 gS (aJ 4 ai)) ao) (bo (ae aw ai)))
   (ah (fh (jJ (g7 (aE E1 (bv hZ T.n5 gS (aJ 4 ai)) ao) (fK (aE (dc hu) (aF (f1 T) g) aw)))) (aO (Cs 4 aw)) fg)
   (ah (ax nd (bz (Nf T) g (aJ 3 (ae (aF (f1 T) g) ai))))
   (ah (ax nd (sY Ju T.n8 (jV ["claim","person"] (c6 (ac 3)) (hJ (aE (dc hu) (aQ 0) (ac 1))) (ac 0)) (wV (JF T) (g.in1.mono (by decide)) rfl) g))
   (b7 (bo (ae aw (aJ 5 (ae (aQ 6) ai)))))))))))
theorem Ng:Fn P w K mg base 7 "is_held_by" eV:=T.d19.fq T.hX kh ["claimed","root","person","day"] 4 λnd g hu=>
  (b7 (dE (dc hu) (ie (aF (Ly T) g) lU (iG ao)) (bo (ae aw (aJ 2 ai)))))
theorem Nh:Fn P w K mg base 8 "is_first_death" dH:=T.d20.fqL T.hX gl ["book","known","number","row","deaths"] 3 λnd g hu G=>
  (ah (ax nd (bf (ac 0) (ac 2)))
   (ah (ax nd (bz (f10 T) g (aJ 0 (aJ 1 (ae (bo (ae aw ai)) (ae (aF (f1 T) g) (ae (aF (f2 T) g) ai)))))))
   (b7 (dE (dc hu) (sY Ju T.n8 (ac 4) (uI (cap:=[0]) (N':=["each","book"]) (by decide +kernel) T.l20 G rfl rfl (Aa (by decide +kernel) rfl rfl rfl rfl rfl) rfl (.cons rfl rfl (Or.inl rfl) rfl (lS (by decide +kernel) rfl) (.nil rfl)) rfl g.in1 (λ_ _ _ _=>rfl) λ_ _ _ _ g=>have hu:=z8 g;(aF (f4 T) g)) g) (ac 2)))))
theorem Ni:Fn P w K mg base 10 "counts" ki:=T.d21.fq T.hX tw ["book","known","so_far","number","row","root"] 4 λnd g hu=>
  (ah (ax nd (bf (ac 0) (ac 3)))
   (ah (eP (aE (dc hu) (aF (f0 T) g) aw) (aF (Nh T) g))
   (ah (eP (aE mD (aF (f0 T) g) (bo (ae aw (ae aw (ae aw ai))))) jI)
   (ah (ax nd (sZ (AW hu) (aF (f7 T) g) (aF (f1 T) g) ⟨rfl,rfl,rfl,rfl⟩))
   (ah (eP (aE BN (ac 5) gy) jI)
   (ah (eP (aE (dc hu) (aF (f0 T) g) aw) jI)
   (b7 (kG (aF (Nc T) g) (jj (bz (Ng T) g (aJ 2 (aJ 5 (ae (aF (f1 T) g) (ae (aF (f2 T) g) ai))))))))))))))
theorem Lz:Fn P w K mg base 3 "new_claim" eA:=T.d22.fq T.hX l8 ["row","since","number"] 3 λnd g hu=>
  (b7 (bo (ae (aF (f1 T) g) (ae (aF (f1 T) g) (aJ 1 (ae gy (aJ 2 ai)))))))
theorem L0:Fn P w K mg base 3 "ended" mf:=T.d23.fq T.hX xr ["so_far","offices","person","day","left","claim"] 4 λnd g hu=>
  (ah (ax nd (bV ai))
   (ah (ly (c6 (ac 0)) (yQ 5 nd) dW (aO (fh (jJ (m6 (aE mD (aQ 5) (ac 1)) (m6 (aE (BL hu) (aQ 5) (ac 2)) (kF (m7 (jJ (m6 (gz (aF (JD T) g)) (kF (aE E1 (aQ 5) (ac 3)))))))))) (aO (hV (i:=4) (ac 5))) (aO (fh (aE pd (aQ 5) (ac 3)) (aO (hV (i:=4) (bo (ae (aQ 5) (aJ 2 (ae (aQ 5) (aJ 3 (ae (aQ 5) ai)))))))) fg)))))
   (aO (jK 4))))
theorem Nj:Fn P w K mg base 4 "after_choice" fB:=T.d24.fq T.hX iw ["so_far","row","number","since","left"] 3 λnd g hu=>
  (ah (ax nd (aF (f1 T) g))
   (ah (ax nd (bz (L0 T) g (aJ 0 (ae (bV (ae (aF (f1 T) g) ai)) (ae (aF (f1 T) g) (aJ 3 ai))))))
   (b7 (a8 bW (ac 4) (bV (ae (aF (Lz T) g) ai))))))
theorem Nk:Fn P w K mg base 7 "inherited" iz:=T.d25.fq T.hX lA ["book","known","so_far","heirs","number","person","day","told","office","heir"] 5 λnd g hu=>
  (ah (ax nd (bz (f1 T) g (ae (bf (ac 0) (ac 4)) (ae aw ai))))
   (ah (ax nd (bz (f2 T) g (ae (bf (ac 0) (ac 4)) ai)))
   (ah (ax nd (bV ai))
   (ah (zL [5,6] (ly (c6 (jo rfl T.n11 T.n10 (jV ["claim","person","day"] (c6 (ac 2)) (hJ (jJ (g7 (aE (dc hu) (aQ 0) (ac 1)) (fK (gz (aF (JD T) g)))))) (aQ 0)))) (yQ 8 nd) dW (ah (ax nd (Ak (AW hu) (ac 3) (aJ 8 (aJ 5 ai)) ⟨rfl,rfl,rfl,rfl⟩))
   (aO (fh (jJ (g7 (aE wA (ac 9) gy) (fK (gz (aF (f11 T) g))))) (aO (hV (i:=7) (bo (aJ 8 (aJ 9 (aJ 6 (ae gy (aJ 4 ai)))))))) fg)))))
   (aO (jK 7))))))
theorem Nl:Fn P w K mg base 8 "after_death" fZ:=T.d26.fq T.hX jf ["book","known","so_far","heirs","number","offices","left"] 5 λnd g hu=>
  (ah (tm ["claim"] nd (c6 (ac 2)) kB (aQ 0))
   (ah (ax nd (bz (L0 T) g (aJ 2 (aJ 5 (ae (bz (f1 T) g (ae (bf (ac 0) (ac 4)) (ae aw ai))) (ae (bz (f2 T) g (ae (bf (ac 0) (ac 4)) ai)) ai))))))
   (b7 (a8 bW (ac 6) (aF (Nk T) g)))))
theorem L1:Fn P w K mg base 11 "claims" gm:=T.d27.fq T.hX tz ["book","known","so_far","heirs","number","row"] 2 λnd g hu=>
  (ah (ax nd (bV ai))
   (ah (Cm (i:=3) nd)
   (ah (ly (c6 (aF (f5 T) g)) (yQ 4 nd) dW (ah (ax nd (bf (ac 0) (ac 4)))
   (ah (fh (m7 (gz (aF (Ni T) g))) (aO BW) fg)
   (aO (fh (aE (dc hu) (aF (f0 T) g) aw) (aO (ax nd (a8 bW (ac 2) (bV (ae (bz (Lz T) g (aJ 5 (ae (aF (f2 T) g) (aJ 4 ai)))) ai))))) (aO (fh (aE (dc hu) (aF (f0 T) g) aw) (aO (ax nd (aF (Nj T) g))) (aO (fh (aE (dc hu) (aF (f0 T) g) aw) (aO (Cn (i:=3) (AW hu) (aF (f1 T) g) (ae (aF (f1 T) g) (ae (aF (f1 T) g) ai)))) (aO (ax nd (aF (Nl T) g))))))))))))
   (b7 (Ds Ab T.n11 (ac 2) (wV (f6 T) (g.in1.in1.mono (by decide)) rfl))))))
theorem L3:Fn P w K mg base 12 "holder" gn:=T.d28.fq T.hX t0 ["book","known","office","day","root"] 4 λnd g hu=>
  (ah (ax nd (sZ (AW hu) (aF (f7 T) g) (ac 2) ⟨rfl,rfl,rfl,rfl⟩))
   (ah (eP (aE BN (ac 4) gy) (bo (ae aw ai)))
   (b7 (bz (Ly T) g (ae (aF (L1 T) g) (aJ 4 (aJ 3 ai)))))))
theorem AY:Fn P w K mg base 1 "_law_cell_at" aI:=T.d29.fq T.hX lB ["_law_script","_law_k"] 2 λnd g hu=>
  (ah (eP (aE pd (ac 1) (bv hZ T.n5 gS (aJ 0 ai))) (bf (ac 0) (ac 1)))
   (b7 ao))
theorem Nm:Fn P w K mg base 1 "_law_names" kW:=T.d30.fq T.hX pO ["_law_cell","_law_many","_law_size","_law_base","_law_at","_law_names_here","_law_k","_law_letter"] 2 λnd g hu=>
  (ah (ax nd (a8 bW ao (a8 cF (ac 0) ao)))
   (ah (ax nd (ie aw lU (iG (ac 2))))
   (ah (ax nd (a8 cF (a8 dn (ac 0) ao) (ac 2)))
   (ah (ax nd (bV ai))
   (ah (Dv (mE T.n9 (ac 1)) (yQ 6 nd) dW (ah (ax nd (bf aw (a8 cF (a8 bW (a8 dn (ac 0) ao) (a8 gA ao (ac 6))) ao)))
   (aO (hV (i:=5) (a8 bW (a8 bW (ie (ac 3) lU (iG (ac 4))) (ac 7)) (ie (ac 3) (iG (a8 bW (ac 4) ao)) lU))))))
   (aO (jK 5)))))))
theorem Nn:Fn P w K mg base 2 "_law_cells" iO:=T.d31.fq T.hX pP ["_law_script","_law_first","_law_most","_law_cells_here","_law_number"] 3 λnd g hu=>
  (ah (ax nd (ie (ac 0) (iG (ac 1)) (iG (a8 bW (ac 1) (ac 2)))))
   (ah (ax nd (a8 cF (bz (AY T) g (aJ 0 (de ai))) ao))
   (ah (z6 1000 PassesOwn.never (jJ (g7 (aE (dc hu) (a8 cF (a8 dn (bz (AY T) g (aJ 0 (de ai))) ao) ao) ao) (fK (aE pd (bv hZ T.n5 gS (aJ 3 ai)) (ac 2))))) (ah (ax nd (a8 cF (a8 bW (a8 bW (a8 gA (ac 4) ao) (bv hZ T.n5 gS (aJ 3 ai))) ao) ao))
   (aO (hV (i:=3) (ac 4)))))
   (aO (jK 3)))))
theorem No:Fn P w K mg base 2 "_law_rules" iP:=T.d32.fq T.hX pQ ["_law_script","_law_cell","_law_rules_here","_law_k"] 1 λnd g hu=>
  (ah (ax nd (bz (AY T) g (aJ 0 (de ai))))
   (ah (xf (i:=2) nd)
   (ah (Dv (mE T.n9 (a8 bW ao (a8 cF (ac 1) ao))) (yQ 3 nd) dW (aO (xg (i:=2) (AW hu) (bf (bV (ae aw (ae aw (ae aw ai)))) (a8 cF (a8 dn (ac 1) (bf (bV (de (de ai))) (ac 3))) ao)) (bf (bV (ae aw (ae aw ai))) (ac 3)))))
   (aO (jK 2)))))
theorem Np:Fn P w K mg base 3 "_law_rows" nI:=T.d33.fq T.hX t4 ["_law_script","_law_names_here","_law_measure","_law_rules_here","_law_late","_law_rows_here","_law_had","_law_k","_law_cell","_law_day","_law_office","_law_by","_law_person","_law_deed"] 3 λnd g hu=>
  (ah (ax nd (aF (No T) g))
   (ah (ax nd (a8 gA (a8 gA (kH GS T.n3 GG (ae (dE (dc hu) (a8 cF (a8 dn (bz (AY T) g (aJ 0 (de ai))) ao) ao) ao) ai)) ao) (ac 2)))
   (ah (tm ["_law_office","_law_late","_law_rules_here"] nd (Cr (ac 3)) kB (bo (aJ 1 (ae (bo (ae aw (aJ 0 (de (de (ae (uP (AW hu) (ac 2) (ac 0) (by intro _ _;rfl)) ai)))))) ai))))
   (ah (ax nd (bV (ae (aQ 1) ai)))
   (ah (ly (wH T.n2 (bz (Nn T) g (aJ 0 (de (de ai))))) (qm rfl (dU (yQ 7 nd) (dU (yQ 8 nd) lQ))) Dm (ah (ax nd (a8 gA (a8 bW (a8 dn (ac 7) ao) (a8 cF (a8 dn (ac 8) ao) ao)) (ac 2)))
   (ah (ax nd (bf (bV (ae aw (ae aw (ae aw (ae aw ai))))) (a8 cF (a8 dn (ac 8) ao) (a8 bW ao (bv EW T.n5 gS (aJ 3 ai))))))
   (ah (ax nd (bf (ac 6) (a8 GA (Dg Dk ao) (a8 cF (a8 dn (ac 8) ao) (bv GH T.n8 GF (de (ae (bv hZ T.n5 gS (aJ 6 ai)) ai)))))))
   (ah (ax nd (bf (ac 1) (a8 cF (a8 dn (ac 8) ao) (bv hZ T.n5 gS (aJ 1 ai)))))
   (ah (ax nd (bo (ae aw (aJ 9 (aJ 10 (aJ 12 ai))))))
   (ah (fh (aE Dl (a8 cF (ac 8) ao) (bo (de (de (de ai))))) (aO (ax nd (bo (ae aw (aJ 9 (aJ 11 (aJ 10 (aJ 12 (ae (a8 bW (ac 9) (a8 gA (a8 cF (a8 dn (ac 8) ao) ao) (ac 2))) ai))))))))) fg)
   (ah (fh (aE (dc hu) (a8 cF (ac 8) ao) ao) (aO (ax nd (bo (ae aw (aJ 9 (ae (bf (bV (aJ 11 (aJ 12 ai))) (a8 cF (a8 dn (ac 8) ao) ao)) ai)))))) fg)
   (ah (fh (aE (BL hu) (aQ 13) aw) (aO (hV (i:=6) (ac 12))) fg)
   (aO (hV (i:=5) (bo (ae (a8 bW (ac 9) (a8 gA (by refine bf (hs:=?_) ?_ ?_;refine bV ?_;refine de ?_;refine de ?_;refine de ?_;refine de ?_;refine de ?_;refine de ?_;exact ai;exact(a8 cF (a8 dn (ac 8) ao) ao);intro _ _;rfl) (ac 2))) (aJ 13 ai))))))))))))))
   (b7 (kH BX T.n12 wB (aJ 5 ai))))))))
theorem Nq:Fn P w K mg base 1 "_law_due" iQ:=T.d34.fq T.hX xu ["_law_some","_law_rules_here","_law_office","_law_day","_law_there","_law_claim","_law_persons","_law_person"] 4 λnd g hu=>
  (ah (ax nd (bV ai))
   (ah (ly (c6 (ac 0)) (yQ 5 nd) dW (aO (fh (jJ (g7 (aE (dc hu) (aQ 5) (ac 2)) (g7 (aE mB (aQ 5) (ac 3)) (fK (jJ (m6 (aE BN (aQ 5) gy) (kF (aE pd (ac 3) (aQ 5))))))))) (aO (hV (i:=4) (bo (ae (aQ 5) (ae (aQ 5) (ae (aQ 5) ai)))))) fg)))
   (ah (ax nd (bv zW T.n11 sA (aJ 4 ai)))
   (ah (eP (jJ (m6 (aE (dc hu) (ac 4) (bV ai)) (kF (yy (AW hu) (ac 2) (ac 1))))) (bo (ae aw ai)))
   (ah (ax nd (jo rfl T.n11 T.n10 (jV ["_law_one"] (c6 (ac 4)) kB (aQ 0))))
   (ah (eP (jJ (g7 (aE E1 (bv hZ T.n5 gS (aJ 6 ai)) ao) (fK (aE (dc hu) (uP (AW hu) (ac 1) (ac 2) (by intro _ _;rfl)) aw)))) (bo (ae aw (aJ 6 ai))))
   (ah (ax nd (bf (aQ 4) ao))
   (ah (fh (aE (dc hu) (uP (AW hu) (ac 1) (ac 2) (by intro _ _;rfl)) aw) (aO (ax nd (bf (bf (ac 4) (Dg Dk ao)) ao))) fg)
   (b7 (bo (ae aw (aJ 7 (ae (bf (jV ["_law_one","_law_person"] (c6 (ac 4)) (hJ (aE (dc hu) (aQ 0) (ac 1))) (aQ 0)) ao) ai)))))))))))))
theorem Nr:Fn P w K mg base 1 "_law_right" iR:=T.d35.fq T.hX pR ["_law_found","_law_due_here"] 2 λnd g hu=>
  (ah (eP (jJ (m6 (m7 (gz (bv gC T.n4 gB (aJ 0 (ae (z7 T.n12 wB) ai))))) (kF (aE (BL hu) (ac 0) (ac 1))))) jI)
   (ah (eP (aE (dc hu) (aQ 0) aw) (Ex (bv gC T.n4 gB (ae (aQ 0) (ae (z7 T.n0 E5) ai)))))
   (b7 (Dh (dE (dc hu) (aQ 0) aw) (jj (bv gC T.n4 gB (ae (aQ 0) (ae (z7 T.n6 E6) ai))))))))
theorem head {fa:Addr}(M:mg "law" = some (.ref fa)):∃fd:FuncData,(∀(s:Shared)(u:Value),BindsTo s fd ⟨[u],[]⟩ [("_law_script",u)])/\∀base:Heap,K.In base->base.Ns mainGlobals mg->oF P w K mg base tU 13 fa fd ["_law_script"] (BK K F_law):=by
 have S:FnScope ["_law_script","_law_names_here","_law_measure","_law_rows_here","_law_known","_law_rules_here","_law_heard_on","_law_deed","_law_some","_law_days","_law_office","_law_day","_law_due_here","_law_found"] ["_law_script"] (a7 (gW 44)):=by refine⟨rfl,rfl,rfl,?_,rfl,?_,?_⟩<;>decide +kernel
 have ⟨h,X,G⟩:=T.hX;exact eU.law T.d36 X G M S (λ_ _ _ _ _ _ u=>rfl) λbase O U f cQ A outer s H E g=>have hu:=z8 g;have nd:=S.nd;(show o0 _ _ Dy from
  (ah (ax nd (bz (Nm T) g (ae (bz (AY T) g (aJ 0 (de ai))) (ae (a8 bW ao (a8 cF (bz (AY T) g (aJ 0 (de ai))) ao)) ai))))
   (ah (ax nd (bf (bV (de (de (de ai)))) (a8 cF (a8 dn (bz (AY T) g (aJ 0 (de ai))) ao) ao)))
   (ah (ax nd (aF (Np T) g))
   (ah (ax nd (bf (bV (de (ae (a8 gA (a8 cF (bz (AY T) g (aJ 0 (de ai))) ao) (ac 2)) ai))) (a8 cF (bz (AY T) g (aJ 0 (de ai))) ao)))
   (ah (xf (i:=5) nd)
   (ah (zL [3] (ly (c6 (ac 3)) (qm rfl (dU (yQ 6 nd) (dU (yQ 7 nd) lQ))) Dm (aO (fh (jJ (g7 (aE mB (ac 6) (ac 4)) (fK (aE (dc hu) (aQ 7) aw)))) (aO (xg (i:=5) (AW hu) (aQ 7) (aQ 7))) fg))))
   (ah (ax nd (aF (L1 T) g))
   (ah (ax nd (a8 bW (bV (de (de ai))) (jV ["_law_k","_law_measure","_law_script"] (zG T.n9 ao) kB (a8 gA (a8 cF (bz (AY T) g (aJ 2 (ae (a8 bW ao (ac 0)) ai))) ao) (ac 1)))))
   (ah (ly (c6 (bV (ae aw (ae aw (ae aw ai))))) (yQ 10 nd) dW (aO (zL [9] (ly (c6 (ac 9)) (yQ 11 nd) dW (ah (ax nd (aF (Nq T) g))
   (Hi 13 1 nd (aF (L3 T) g) (m7 (gz (aF (Nr T) g))) (b7 jI) (aE (dc hu) (aQ 13) aw) aw (aO (eP (aE (BL hu) (aF (L3 T) g) (ac 12)) jI))))))))
   (b7 jI)))))))))))
end
end Lw
end
namespace PySem.W.Fast
def tw11877191440097999899:=()
def tw17595607830252309159:=()
def tw12607263090493904950:=()
def tw10516632563794169605:=()
def tw43230246348933824:=()
def tw1849406362697819555:=()
def tw13648665268587217526:=()
def tw5296004742068120190:=()
def tw15869927050587850778:=()
def tw12180283096716085628:=()
def tw7201836097381862566:=()
def tw5748888260936215148:=()
def tw8921138405938236208:=()
def tw9323970867195220358:=()
def tw3244214278241266909:=()
def tw3407216681533947186:=()
def tw17699791564382658992:=()
def tw12283470034572357920:=()
def tw4771619087559616325:=()
def tw15378033011416751709:=()
def tw4601481397060478967:=()
def tw5717003464018000293:=()
def tw700883145863057401:=()
def tw12787287668143288633:=()
def tw1297843786699125766:=()
def tw4910402728356674344:=()
def tw393763075202247258:=()
def tw4330126266637519966:=()
def tw4308498139918327855:=()
def tw8269317984427153715:=()
def tw10865327034994097261:=()
def tw132587862199196980:=()
def tw14341301758201123894:=()
def tw17530697766174122866:=()
def tw15608437437427440253:=()
def tw11929574376601629838:=()
def tw2356734883091152287:=()
def tw4563045742998984238:=()
def tw16811782011896937987:=()
def tw3525820657082046909:=()
def tw7995362710322675652:=()
def tw13263561594112114126:=()
def tw2931033528692036863:=()
def tw14881510588721358267:=()
def tw8318018077846127678:=()
def tw10243260126275898866:=()
def tw13502529134348355933:=()
def tw13850693612818940236:=()
def tw14739942094238320319:=()
def tw13112898289191473301:=()
def tw17645672519720285490:=()
def tw9733992949064525771:=()
def tw9796335167249161574:=()
def tw3205447239179349571:=()
def tw9806985664403196396:=()
def tw1336501971123065577:=()
def tw15869581049944839381:=()
def tw10654595465768050071:=()
def tw8334709921508554859:=()
def tw17205787558430884388:=()
def tw5858344602825054418:=()
def tw11952934282140485759:=()
def tw779229226168126502:=()
def tw8174966705077106386:=()
def tw227235587815447155:=()
def tw13877340144230993127:=()
def tw13443717280200098849:=()
def tw7154659893428694577:=()
def tw8299254591353803184:=()
def tw11147421472236281011:=()
def tw4693951600789965467:=()
def tw13746801514449420680:=()
def tw15691263735761537871:=()
def tw11881592155726141279:=()
def tw17285407651745605992:=()
def tw11527805939904728513:=()
def tw2821577401723084504:=()
end PySem.W.Fast
open PySem PySem.W PyProof.Rows
set_option maxRecDepth 100000 in
set_option maxHeartbeats 0 in
theorem PySem.Challenge.cw_sealchain_k18_who_holds_holds : PySem.Challenge.rw_sealchain_k18_who_holds.Holds := by
 w_on; o_law; k_head; (case hw => w_witness2)
 k_fill
 refine' DL.walkD (l := PySem.Challenge.rw_sealchain_k18_who_holds) (k := 13) (x := ("_law_script" : PySem.Str)) (f := Lw.F_law) (L := [(("in_order" : PySem.Str), ?t0), (("has_seal" : PySem.Str), ?t1), (("is_first_death" : PySem.Str), ?t2), (("bases_by" : PySem.Str), ?t3)]) rfl rfl ⟨rfl, by decide, by decide⟩ (fun w h Y => PySem.W.km_in_of Y) ?T ?D ?F Lw.law_true
 case T =>
  intro w
  refine' DL.tabs_fit ?h0 ?h1 ?h2 ?h3 ?ap ?nt
  iterate 3 (refine' DL.tab_yes ?a ?l ?c ?m ?v; (case a => k_is); (case l => k_is); (case c => exact rfl); (case m => k_is); (case v => exact rfl))
  (case h3 => refine' DL.tab_no ?a; (case a => k_is))
  (case ap => decide)
  (case nt => kernel_rfl)
 case D => kernel_rfl
 case F =>
  intro w mg fa h KX G hmg
  refine' Lw.head ⟨⟨h, KX, G⟩, ?d0, ?d1, ?d2, ?d3, ?d4, ?d5, ?d6, ?d7, ?d8, ?d9, ?d10, ?d11, ?d12, ?d13, ?d14, ?d15, ?d16, ?d17, ?d18, ?d19, ?d20, ?d21, ?d22, ?d23, ?d24, ?d25, ?d26, ?d27, ?d28, ?d29, ?d30, ?d31, ?d32, ?d33, ?d34, ?d35, ?d36, PySem.W.mg_none_of KX G ?z0, PySem.W.mg_none_of KX G ?z1, PySem.W.mg_none_of KX G ?z2, PySem.W.mg_none_of KX G ?z3, PySem.W.mg_none_of KX G ?z4, PySem.W.mg_none_of KX G ?z5, PySem.W.mg_none_of KX G ?z6, PySem.W.mg_none_of KX G ?z7, PySem.W.mg_none_of KX G ?z8, PySem.W.mg_none_of KX G ?z9, PySem.W.mg_none_of KX G ?z10, PySem.W.mg_none_of KX G ?z11, PySem.W.mg_none_of KX G ?z12, DL.kd_of KX G ?k0, DL.kc_of KX G ?k1, ?q0, ?q1, ?q2⟩ hmg
  iterate 37 (refine' DL.def_mk ?a ?l ?c ?k; (case a => k_is); (case l => k_is); (case c => k_is); (case k => k_is))
  (case z0 => k_is)
  (case z1 => k_is)
  (case z2 => k_is)
  (case z3 => k_is)
  (case z4 => k_is)
  (case z5 => k_is)
  (case z6 => k_is)
  (case z7 => k_is)
  (case z8 => k_is)
  (case z9 => k_is)
  (case z10 => k_is)
  (case z11 => k_is)
  (case z12 => k_is)
  (case k0 => refine' DL.const_dict ?e ?l ?r ?s; (case e => k_is); (case l => k_is); (case r => refine' (DL.CRows.tup rfl ?l0 ?f0 (DL.CRows.tup rfl ?l1 ?f1 (DL.CRows.tup rfl ?l2 ?f2 (DL.CRows.tup rfl ?l3 ?f3 (DL.CRows.tup rfl ?l4 ?f4 (DL.CRows.tup rfl ?l5 ?f5 (DL.CRows.tup rfl ?l6 ?f6 (DL.CRows.tup rfl ?l7 ?f7 (DL.CRows.tup rfl ?l8 ?f8 (DL.CRows.tup rfl ?l9 ?f9 (DL.CRows.tup rfl ?l10 ?f10 (DL.CRows.tup rfl ?l11 ?f11 DL.CRows.nil)))))))))))); (case l0 => k_is); (case f0 => decide +kernel); (case l1 => k_is); (case f1 => decide +kernel); (case l2 => k_is); (case f2 => decide +kernel); (case l3 => k_is); (case f3 => decide +kernel); (case l4 => k_is); (case f4 => decide +kernel); (case l5 => k_is); (case f5 => decide +kernel); (case l6 => k_is); (case f6 => decide +kernel); (case l7 => k_is); (case f7 => decide +kernel); (case l8 => k_is); (case f8 => decide +kernel); (case l9 => k_is); (case f9 => decide +kernel); (case l10 => k_is); (case f10 => decide +kernel); (case l11 => k_is); (case f11 => decide +kernel)); (case s => decide +kernel))
  (case k1 => refine' DL.const_tup ?e ?l ?v; (case e => k_is); (case l => k_is); (case v => decide +kernel))
  iterate 3 (refine' DL.lam_mk ?a ?l ?c ?m ?v1 ?v2 ?v3 ?v4 ?v5 ?v6 ?v7; (case a => k_is); (case l => k_is); (case c => exact rfl); (case m => k_is); (case v1 => exact rfl); (case v2 => exact rfl); (case v3 => exact rfl); (case v4 => exact rfl); (case v5 => exact rfl); (case v6 => exact rfl); (case v7 => decide))

