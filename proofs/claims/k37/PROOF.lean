import PyProof.Rows.All
import Wide.All
import OpenK.AllK
import Wide.FinOn
import Lean
import PyProof.EqAt
import PyProof.EqKinds
import PyProof.TupleCall
import PyProof.AttrMissHeap
import PySem.Challenge.RW_sealchain_k37_whole_faults_and_bases
set_option Elab.async false
set_option linter.all false
set_option maxRecDepth 100000
set_option bootstrap.genMatcherCode false
set_option compiler.extract_closed false
set_option maxHeartbeats 40000000
def mY {α:Type _}{a:α}(l:List α){k:List α}(h:a∈k):a∈l++k:=List.mem_append_right l h
def mZ {α:Type _}(b:α){a:α}{l:List α}(h:a∈l):a∈b::l:=List.mem_cons_of_mem b h
def mX {α:Type _}{a:α}{l:List α}:a∈a::l:=List.mem_cons_self
def oX {α g:Type _}{o:Option α}{f:α->Option g}{b:g}(h:o.bind f=some b):∃a,o=some a/\f a=some b:=Option.bind_eq_some_iff.mp h
def oY {α g:Type _}{f:α->g}{o:Option α}{b:g}(h:o.map f=some b):∃a,o=some a/\f a=b:=Option.map_eq_some_iff.mp h
def wX:=@PySem.wpAny_bind
def wY:=@PySem.wpAny_pure
def vZ:=@PySem.Heap.get?_push_of_some
def vY:=@PySem.Heap.get?_push_size
def vX:=@PySem.Heap.lt_size
def vW:=@PySem.Heap.SameBut.update
def vV {α:Type _}{l:List α}{i:Nat}{a:α}(h:l[i]? = some a):∃h:i<l.length,l[i]=a:=List.getElem?_eq_some_iff.mp h
def vU {α:Type _}{l:List α}{i:Nat}(h:i<l.length):l[i]? = some l[i]:=List.getElem?_eq_getElem h
def vT (n:Nat):n<=n:=Nat.le_refl n
def vS {a b:Nat}(h:a<b):a≠b:=Nat.ne_of_lt h
def vR {n m k:Nat}:n<=m->m<=k->n<=k:=Nat.le_trans
def vQ {n m k:Nat}:n<m->m<=k->n<k:=Nat.lt_of_lt_of_le
def vP {α:Type _}{a b:α}{l:List α}(h:b∈a::l):b=a∨b∈l:=List.mem_cons.mp h
def vO {α g:Type _}{b:g}{f:α->g}{l:List α}(h:b∈l.map f):∃a,a∈l/\f a=b:=List.mem_map.mp h
def vN {α:Type _}{a:α}{p:α->Bool}{l:List α}(h:a∈l.filter p):a∈l/\p a=true:=List.mem_filter.mp h
def vM {α:Type _}(p:α->Bool)(l:List α):(l.filter p).length<=l.length:=List.length_filter_le p l
def vL {α:Type _}{l:List α}{i:Nat}{a:α}(h:l[i]? = some a):a∈l:=List.mem_of_getElem? h
def vK {α:Type _}{a b:α}(h:some a=some b):a=b:=Option.some.inj h
def vJ {α g:Type _}(a:α)(f:α->Option g):(some a).bind f=f a:=rfl
def vI {α G:Type _}{g:List α}(f:α->G):(g.map f).length=g.length:=List.length_map f
def vH {α:Type _}{l:List α}:l.toArray.size=l.length:=rfl
def vG {α:Type _}{xs:Array α}:xs.toList.length=xs.size:=rfl
def vF {α:Type _}{l:List α}{i:Nat}{a:α}:l.getD i a=l[i]?.getD a:=List.getD_eq_getElem?_getD
def vE {α:Type _}{a:α}{g:List α}:(a::g).length=g.length+1:=rfl
def vC (a b:Bool):((a && b)=true)=(a=true/\b=true):=Bool.and_eq_true a b
def vB {α:Type _}{i j:Nat}{a:α}{l:List α}(h:i≠j):(l.set i a)[j]? = l[j]?:=List.getElem?_set_ne h
def vA {α g:Type _}{f:α->g}{l:List α}{i:Nat}:(l.map f)[i]? = Option.map f l[i]?:=List.getElem?_map
def uZ {α:Type _}{g bs:List α}:(g++bs).length=g.length+bs.length:=List.length_append
def uY {α g:Type _}{f:α->g}{a:α}{l:List α}:(a::l).map f=f a::l.map f:=rfl
def uX:false≠true:=Bool.false_ne_true
def uW {α G:Type _}{f:α->G}{l g:List α}:(l++g).map f=l.map f++g.map f:=List.map_append
def uV:(false=true)=False:=Bool.false_eq_true
def uU {α:Type _}{x:Option α}(h:x.isSome=true):∃a,x=some a:=Option.isSome_iff_exists.mp h
def uT {α:Type _}{a b:α}(h:a∈[b]):a=b:=List.mem_singleton.mp h
def uS {α g:Type _}{b:g}{f:α->g}{l:List α}(h:∃a,a∈l/\f a=b):b∈l.map f:=List.mem_map.mpr h
def uR {α:Type _}{l:List α}{p:α->Bool}(h:l.all p=true):∀x∈l,p x=true:=List.all_eq_true.mp h
def uQ {α:Type _}(g:List α):g++[]=g:=List.append_nil g
def uP {α G M:Type _}{g:G->M}{f:α->G}{l:List α}:(l.map f).map g=l.map (g ∘ f):=List.map_map
def uO {α g:Type _}{x:α}{xs:List α}{f:α->List g}:(x::xs).flatMap f=f x++xs.flatMap f:=List.flatMap_cons
def uN (n:Nat):0<=n:=Nat.zero_le n
noncomputable section
open PySem.W (Frag fnOf nsIn mg_of)
namespace L2
open PySem PySem.Spec PyProof.Rows
abbrev cF:=Sum Int Str
noncomputable def sn:cF->Value->Bool
 |.inl k,v=>Value.isInt k v
 |.inr x,v=>Value.isStrOf x v
noncomputable def P1 (w:World):cF->Int
 |.inl k=>hashInt k
 |.inr x=>hashStr w x
theorem cK:∀ {k:cF}{v:Value},sn k v=true->(∃i t,k=Sum.inl i/\v=Value.int i t)∨(∃x t,k=Sum.inr x/\v=Value.str x t)
 |.inl i,v,h=>by
  obtain⟨t,e⟩:=Value.isInt_shape (k:=i) (v:=v) h;exact .inl ⟨i,t,rfl,e⟩
 |.inr x,v,h=>by
  obtain⟨t,e⟩:=Value.isStrOf_shape (x:=x) (v:=v) h;exact .inr ⟨x,t,rfl,e⟩
def BK (i:Int)(t:Tok):sn (.inl i) (.int i t)=true:=by simp[sn,Value.isInt]
def BL (x:Str)(t:Tok):sn (.inr x) (.str x t)=true:=by simp[sn,Value.isStrOf]
def JD (a b:Int):decide ((Sum.inl a:cF)=Sum.inl b)=(a == b):=by
 by_cases e:a=b
 ·subst e;simp
 ·have h:¬(Sum.inl a:cF)=Sum.inl b:=λq=>e (Sum.inl.inj q);rw[decide_eq_false h];exact(beq_eq_false_iff_ne.mpr e).symm
def JF (a b:Str):decide ((Sum.inr a:cF)=Sum.inr b)=decide (a=b):=by
 by_cases e:a=b
 ·subst e;simp
 ·have h:¬(Sum.inr a:cF)=Sum.inr b:=λq=>e (Sum.inr.inj q);rw[decide_eq_false h,decide_eq_false e]
def JG (a:Int)(b:Str):decide ((Sum.inl a:cF)=Sum.inr b)=false:=decide_eq_false (λq=>nomatch q)
def JH (a:Str)(b:Int):decide ((Sum.inr a:cF)=Sum.inl b)=false:=decide_eq_false (λq=>nomatch q)
def c8 (prog:Program)(w:World):PySem.KeyKind prog w cF where
 is:=sn
 hash:=P1 w
 inj:=λv a b ha hb=>by
  rcases cK ha with⟨i,t,rfl,rfl⟩|⟨x,t,rfl,rfl⟩
  ·rcases cK hb with⟨j,u,rfl,e⟩|⟨y,u,rfl,e⟩
   ·injection e with g _;rw[g]
   ·exact nomatch e
  ·rcases cK hb with⟨j,u,rfl,e⟩|⟨y,u,rfl,e⟩
   ·exact nomatch e
   ·injection e with g _;rw[g]
 byValue:=λk v h=>by
  rcases cK h with⟨i,t,rfl,rfl⟩|⟨x,t,rfl,rfl⟩<;>rfl
 pyHash:=λhv h=>by
  rcases cK hv with⟨i,t,rfl,rfl⟩|⟨x,t,rfl,rfl⟩
  ·exact wpAny_pyHash_int h
  ·exact wpAny_pyHash_str h
 eqBool:=λhu hv h=>by
  rcases cK hu with⟨i,t,rfl,rfl⟩|⟨x,t,rfl,rfl⟩
  ·rcases cK hv with⟨j,u,rfl,rfl⟩|⟨y,u,rfl,rfl⟩
   ·rw[JD]at h;exact wpAny_eqBool_int h
   ·rw[JG]at h;exact SeqAt.EqAt.int_str i t y u _ _ _ _ h
  ·rcases cK hv with⟨j,u,rfl,rfl⟩|⟨y,u,rfl,rfl⟩
   ·rw[JH]at h;exact SeqAt.EqAt.str_int x t j u _ _ _ _ h
   ·rw[JF]at h;exact wpAny_eqBool_str h
 «strs»:=λk x t v h=>by
  rcases cK h with⟨i,u,rfl,e⟩|⟨y,u,rfl,e⟩
  ·exact nomatch e
  ·injection e with g _;subst g;cases v<;>rfl
def wB (prog:Program)(w:World)(i:Int)(t:Tok):(c8 prog w).is (.inl i) (.int i t)=true:=BK i t
def wC (prog:Program)(w:World)(x:Str)(t:Tok):(c8 prog w).is (.inr x) (.str x t)=true:=BL x t
inductive V where
 |non|bl (b:Bool)|int (i:Int)|str (x:Str)|byt (b:Array UInt8)|flt (b:UInt64)|ref (a:Addr)|ty (n:String)
 deriving DecidableEq
def bd:V->Value->Prop
 |.non,u=>u=Value.none
 |.bl b,u=>u=Value.bool b
 |.int i,u=>∃t,u=Value.int i t
 |.str x,u=>∃t,u=Value.str x t
 |.byt b,u=>∃t,u=Value.bytes b t
 |.flt b,u=>∃t,u=Value.float b t
 |.ref a,u=>u=Value.ref a
 |.ty n,u=>u=Value.type n
abbrev be:List V->List Value->Prop:=Paired bd
def be.length (r:be xs us):xs.length=us.length:=Paired.length r
theorem be.get:∀ {xs:List V}{us:List Value}{i:Nat}{x:V},be xs us->xs[i]? = some x->∃u,us[i]? = some u/\bd x u
 |_,_,_,_,.nil,e=>by simp at e
 |_,_,0,_,.cons r _,e=>by simp at e;subst e;exact⟨_,rfl,r⟩
 |_,_,i+1,x,.cons _ t,e=>by
  obtain⟨u,h1,h2⟩:=be.get (i:=i) (x:=x) t (by simpa using e);exact⟨u,by simpa using h1,h2⟩
theorem be.set (r:bd x u):∀ {xs:List V}{us:List Value}(i:Nat),be xs us->be (xs.set i x) (us.set i u)
 |_,_,_,.nil=>.nil
 |_,_,0,.cons _ t=>.cons r t
 |_,_,i+1,.cons q t=>.cons q (be.set r i t)
theorem be.append:∀ {xs ys:List V}{us g:List Value},be xs us->be ys g->be (xs++ys) (us++g)
 |_,_,_,_,.nil,s=>s
 |_,_,_,_,.cons r t,s=>.cons r (be.append t s)
theorem be.take:∀ {xs:List V}{us:List Value}(n:Nat),be xs us->be (xs.take n) (us.take n)
 |_,_,0,_=>.nil
 |_,_,_+1,.nil=>.nil
 |_,_,n+1,.cons r t=>.cons r (be.take n t)
theorem be.drop:∀ {xs:List V}{us:List Value}(n:Nat),be xs us->be (xs.drop n) (us.drop n)
 |_,_,0,r=>r
 |_,_,_+1,.nil=>.nil
 |_,_,n+1,.cons _ t=>be.drop n t
def be.none_of:∀ {xs:List V}{us:List Value}{i:Nat},be xs us->xs[i]? = none->us[i]? = none:=λ{xs us i} r e=>by
 have h1:=r.length;have h2:xs.length<=i:=List.getElem?_eq_none_iff.mp e;exact List.getElem?_eq_none_iff.mpr (by omega)
def ln:Option V->Option Value->Prop
 |some v,some u=>bd v u
 |none,none=>True
 |_,_=>False
def KV {κ:Type}:List (κ×V)->List (κ×Value)->Prop:=Paired λ(p:κ×V) (q:κ×Value)=>p.1=q.1/\bd p.2 q.2
noncomputable def kV:cF->V
 |.inl i=>.int i
 |.inr x=>.str x
inductive HO where
  |lst (xs:List V)
  |tup (xs:List V)
  |dK (aQ:List (cF×V)) (ob:Obj)|dT (aQ:List (List cF×V))
  |set (S:Int->Bool) (n:Nat)
  |ins (C dx:Addr) (fs:List (Str×V))
  |own (x:Addr)
  |xd (fs:List (Str×V))
  |met (f x:Addr)
  |rng (lo hi:Int)
  |frz (o:Obj) (u:HO)
  |tbl (q:Str)
  |ext (φ:Heap->Prop)
abbrev Hp:=Addr->Option HO
noncomputable def upd (H:Hp)(a:Addr)(o:HO):Hp:=λb=>if b=a then some o else H b
def aH:upd H a o a=some o:=by unfold upd;rw[if_pos rfl]
def aM (h:b≠a):upd H a o b=H b:=by unfold upd;rw[if_neg h]
def Gf:upd (upd H a o) a u=upd H a u:=by
 funext b;unfold upd;split<;>rfl
def Mm {H:Hp}{a b:Addr}{o u:HO}(h:H a=some o)(h':H b=some u)(d:o≠u):a≠b:=by
 intro e;subst e;rw[h]at h';exact d (vK h')
def bg {H:Hp}{a b:Addr}{o:HO}(h:H a=some o)(h':H b=none):a≠b:=by
 intro e;subst e;rw[h]at h';cases h'
section
variable (P:Program) (w:World)
def cw (H:Hp)(h:Heap)(a:Addr):HO->Prop
 |.lst xs=>xs.length<=sizeLine/\∃(its:List Value)(n:Nat),be xs its/\h.get? a=some { cls:=.type "list",data:=.seq its.toArray n }
 |.tup xs=>xs.length<=sizeLine/\∃its:List Value,be xs its/\IsTup h a its.toArray
 |.dK aQ ob=>h.get? a=some ob/\aQ.length<=sizeLine/\(a == sysModules)=false/\∃vs,KV aQ vs/\h.DictOf (c8 P w) a vs
 |.dT aQ=>aQ.length<=sizeLine/\(a == sysModules)=false/\∃xs:List (List cF×Addr×Value),
   Paired (λ(p:List cF×V) (q:List cF×Addr×Value)=>p.1=q.1/\H q.2.1=some (.tup (p.1.map kV))/\bd p.2 q.2.2) aQ xs /\
   ∃o es M,h.get? a=some o/\o.ExactDict/\o.data=.dict es M/\es.toList=xs.map (entryOfKey (tupleKind (c8 P w)))/\(xs.map (·.1)).Nodup
 |.set S n=>h.SetOf (intKind P w) a S n
 |.ins C dx fs=>H dx=some (.own a)/\fs.length<=1000/\dx≠a/\h.get? a=some (PySem.W.instObj C dx) /\
   ∃mA,h.Ns1 dx mA/\(∀f,ln (fs.lookup f) (mA f))/\PySem.Within mA (fs.map (·.1))
 |.own _=>∃o,h.get? a=some o
 |.xd fs=>∃mA,h.Ns1 a mA/\∀f,ln (fs.lookup f) (mA f)
 |.rng lo hi=>∃t u v,h.get? a=some { cls:=.type "range",data:=.fields #[.int lo t,.int hi u,.int 1 v] }
 |.frz o u=>h.get? a=some o/\cw H h a u
 |.tbl q=>∃ps:Array Value,h.get? a=some { cls:=.none,data:=.fields ps }/\TriplesOk ps.toList/\∀g G,codeAmong g ps.toList=some G->∃(c:Addr)(oc:Obj)(u:HO)(vs:Array Value)(t:Tok),G=.ref c/\H c=some (.frz oc u)/\oc.data=.fields vs/\vs[1]? = some (.str q t)
 |.met f x=>h.get? a=some (PySem.W.methodObj (.ref f) (.ref x))
 |.ext φ=>φ h/\(∃o,h.get? a=some o)/\∀h1 h2:Heap,φ h1->(∀o,h1.get? a=some o->h2.get? a=some o)->φ h2
def lq (H:Hp)(h:Heap):Prop:=∀a o,H a=some o->cw P w H h a o
end
section
variable {P:Program}{w:World}{H H':Hp}{h h':Heap}{a:Addr}{o:HO}
def cw.lt (x:cw P w H h a o):a<h.objs.size:=by
 cases o with
 |lst xs=>obtain⟨_,_,_,_,e⟩:=x;exact vX e
 |tup xs=>obtain⟨_,_,_,p⟩:=x;exact p.lt
 |dK aQ ob=>exact vX (And.left x)
 |dT aQ=>obtain⟨_,_,_,_,o,_,_,e,_⟩:=x;exact vX e
 |set S n=>obtain⟨o,_,_,_,e,_⟩:=x;exact vX e
 |ins C dx fs=>obtain⟨_,_,_,e,_⟩:=x;exact vX e
 |own y=>obtain⟨_,e⟩:=x;exact vX e
 |xd fs=>obtain⟨_,⟨_,_,_,e,_⟩,_⟩:=x;exact vX e
 |rng lo hi=>obtain⟨_,_,_,e⟩:=x;exact vX e
 |frz ob u=>obtain⟨e,_⟩:=x;exact vX e
 |tbl q=>obtain⟨_,e,_⟩:=x;exact vX e
 |met f y=>exact vX (show h.get? a=some _ from x)
 |ext φ=>obtain⟨_,⟨_,e⟩,_⟩:=x;exact vX e
theorem Paired.mapP {α O:Type}{F G:α->O->Prop}:∀ {g:List α}{M:List O},Paired F g M->(∀a b,F a b->G a b)->Paired G g M
 |_,_,.nil,_=>.nil
 |_,_,.cons r t,f=>.cons (f _ _ r) (Paired.mapP t f)
def cw.stay (x:cw P w H h a o)(k:∀b u,(b=a∨H b=some (.own a))->h.get? b=some u->h'.get? b=some u)
  (ho:∀b,H b=some (.own a)->H' b=some (.own a)) (O:∀b xs,H b=some (.tup xs)->H' b=some (.tup xs)) (hf:∀b o u,H b=some (.frz o u)->H' b=some (.frz o u)):cw P w H' h' a o:=by
 induction o with
 |lst xs=>obtain⟨z,its,n,r,e⟩:=x;exact⟨z,its,n,r,k _ _ (.inl rfl) e⟩
 |tup xs=>obtain⟨z,its,r,ob,e,c⟩:=x;exact⟨z,its,r,ob,k _ _ (.inl rfl) e,c⟩
 |dK aQ T=>obtain⟨g,z,y,vs,r,ob,es,G,e,c⟩:=x;exact⟨k _ _ (.inl rfl) g,z,y,vs,r,ob,es,G,k _ _ (.inl rfl) e,c⟩
 |dT aQ=>
  obtain⟨z,y,xs,r,ob,es,G,e,c⟩:=x;exact⟨z,y,xs,Paired.mapP r λp q z=>⟨z.1,O _ _ z.2.1,z.2.2⟩,ob,es,G,k _ _ (.inl rfl) e,c⟩
 |set S n=>obtain⟨ob,es,G,t,e,c⟩:=x;exact⟨ob,es,G,t,k _ _ (.inl rfl) e,c⟩
 |ins C dx fs=>
  obtain⟨d,z,ne,e,mA,⟨od,es,G,e2,c⟩,r⟩:=x;exact⟨ho _ d,z,ne,k _ _ (.inl rfl) e,mA,⟨od,es,G,k _ _ (.inr d) e2,c⟩,r⟩
 |own y=>obtain⟨ob,e⟩:=x;exact⟨ob,k _ _ (.inl rfl) e⟩
 |xd fs=>obtain⟨mA,⟨od,es,G,e,c⟩,r⟩:=x;exact⟨mA,⟨od,es,G,k _ _ (.inl rfl) e,c⟩,r⟩
 |rng lo hi=>obtain⟨t,u,v,e⟩:=x;exact⟨t,u,v,k _ _ (.inl rfl) e⟩
 |frz ob u U=>obtain⟨e,q⟩:=x;exact⟨k _ _ (.inl rfl) e,U q⟩
 |tbl q=>obtain⟨ps,e,t,c⟩:=x;exact⟨ps,k a _ (.inl rfl) e,t,λM cv z=>let ⟨d,oc,u,vs,tk,z1,z2,z3⟩:=c M cv z;⟨d,oc,u,vs,tk,z1,hf _ _ _ z2,z3⟩⟩
 |met f y=>
  have e:h.get? a=some (PySem.W.methodObj (.ref f) (.ref y)):=x;show h'.get? a=some (PySem.W.methodObj (.ref f) (.ref y));exact k a _ (.inl rfl) e
 |ext φ=>obtain⟨p,⟨o,e⟩,st⟩:=x;exact⟨st _ _ p λo q=>k _ _ (.inl rfl) q,⟨o,k _ _ (.inl rfl) e⟩,st⟩
def lq.lt (x:lq P w H h)(e:H a=some o):a<h.objs.size:=(x a o e).lt
def lq.fresh (x:lq P w H h)(e:h.objs.size<=a):H a=none:=by
 cases q:H a with
 |none=>rfl
 |some u=>exact absurd (vQ (x.lt q) e) (Nat.lt_irrefl _)
def lq.kept (x:lq P w H h)(k:∀b u,h.get? b=some u->h'.get? b=some u):lq P w H h':=λa o e=>
 (x a o e).stay (λb u _ q=>k b u q) (λ_ q=>q) (λ_ _ q=>q) λ_ _ _ q=>q
def lq.laid (x:lq P w H h)(k:∀b u,h.get? b=some u->h'.get? b=some u)(hp:h.objs.size<=a)(new:cw P w (upd H a o) h' a o):lq P w (upd H a o) h':=λb u e=>by
 have hn:=x.fresh hp;by_cases hb:b=a
 ·subst hb;rw[aH]at e;cases e;exact new
 ·rw[aM hb]at e;exact(x b u e).stay (λc v _ q=>k c v q) (λc q=>by rw[aM (bg q hn)];exact q) (λc xs q=>by rw[aM (bg q hn)];exact q) λc o xs q=>by rw[aM (bg q hn)];exact q
end
def Rd (H:Hp)(a:Addr)(u:HO):Prop:=H a=some u∨∃o,H a=some (.frz o u)
def Rd.of (h:H a=some u):Rd H a u:=.inl h
def Rd.ok (r:Rd H a u)(x:lq P w H h):cw P w H h a u:=by
 rcases r with r|⟨o,r⟩
 ·exact x a u r
 ·obtain⟨_,q⟩:=x a _ r;exact q
def Mn:Option HO->Prop
 |some (.lst _)=>True
 |some (.dK _ _)=>True
 |some (.dT _)=>True
 |some (.set _ _)=>True
 |some (.ins _ _ _)=>True
 |some (.ext _)=>True
 |_=>False
section
variable {P:Program}{w:World}{H:Hp}{h h':Heap}{x e:Addr}{o':HO}
def lq.write (ok:lq P w H h)(M:Mn (H x))(he:e=x∨H e=some (.own x))(k:∀b u,b≠e->h.get? b=some u->h'.get? b=some u)(T:∃u,h'.get? e=some u)
  (new:cw P w (upd H x o') h' x o'):lq P w (upd H x o') h':=λb u q=>by
 have G:∀c y,H c=some (.own y)->c≠x:=λc y r z=>by subst z;rw[r]at M;exact M
 have O:∀c xs,H c=some (.tup xs)->c≠x:=λc xs r z=>by subst z;rw[r]at M;exact M
 by_cases hb:b=x
 ·subst hb;rw[aH]at q;cases q;exact new
 ·rw[aM hb]at q;by_cases g:b=e
  ·have U:H b=some (.own x):=by
    rcases he with z|z
    ·exact absurd (g.trans z) hb
    ·rw[g];exact z
   rw[q]at U;cases U;obtain⟨v,hv⟩:=T;exact⟨v,by rw[g];exact hv⟩
  ·refine(ok b u q).stay (λc v hc r=>k c v ?_ r) (λc r=>by rw[aM (G c b r)];exact r) (λc xs r=>by rw[aM (O c xs r)];exact r) λc o xs r=>by rw[aM (λz=>by subst z;rw[r]at M;exact M)];exact r
   rcases hc with rfl|hc
   ·exact g
   ·rintro rfl;rcases he with z|z
    ·exact G c b hc z
    ·rw[hc]at z;cases z;exact hb rfl
end
structure Un (fs ex:List Addr)(H H':Hp)(h h':Heap):Prop where
 keep:∀b o,h.get? b=some o->H b=none->b∉fs->b∉ex->h'.get? b=some o
 slot:∀b o,h.get? b=some o->H b=none->b∈fs->b∉ex->∃sl,h'.get? b=some { o with slots:=sl }
 free:∀b o,h.get? b=some o->H b=none->b∉ex->H' b=none
 there:∀b o,h.get? b=some o->b∉ex->∃o',h'.get? b=some o'
 tups:∀b xs,H b=some (.tup xs)->H' b=some (.tup xs)
 frzs:∀b o u,H b=some (.frz o u)->H' b=some (.frz o u)
 tbls:∀b q,H b=some (.tbl q)->H' b=some (.tbl q)
section
variable {fs UN ex WU:List Addr}{H H1 H2:Hp}{h h1 h2 h':Heap}{a x e:Addr}{o:HO}
def Un.any (u:Un fs ex H H1 h h1)(q:h.get? b=some ob)(n:H b=none)(hx:b∉ex):∃sl,h1.get? b=some { ob with slots:=sl }:=by
 by_cases hb:b∈fs
 ·exact u.slot b ob q n hb hx
 ·exact⟨ob.slots,u.keep b ob q n hb hx⟩
def Un.trans (a:Un fs ex H H1 h h1)(b:Un fs ex H1 H2 h1 h2):Un fs ex H H2 h h2 where
 keep:=λc ob q n hc hx=>b.keep c ob (a.keep c ob q n hc hx) (a.free c ob q n hx) hc hx
 slot:=λc ob q n hc hx=>by
  obtain⟨sl,g⟩:=a.slot c ob q n hc hx;obtain⟨G,e2⟩:=b.slot c _ g (a.free c ob q n hx) hc hx;exact⟨G,e2⟩
 free:=λc ob q n hx=>by
  obtain⟨o',g⟩:=a.there c ob q hx;exact b.free c o' g (a.free c ob q n hx) hx
 there:=λc ob q hx=>by
  obtain⟨o',g⟩:=a.there c ob q hx;exact b.there c o' g hx
 tups:=λc xs q=>b.tups c xs (a.tups c xs q)
 frzs:=λc ob xs q=>b.frzs c ob xs (a.frzs c ob xs q)
 tbls:=λc ps q=>b.tbls c ps (a.tbls c ps q)
def Un.kept (k:∀b u,h.get? b=some u->h'.get? b=some u):Un fs ex H H h h' :=
 ⟨λb ob q _ _ _=>k b ob q,λb ob q _ _ _=>⟨ob.slots,k b ob q⟩,λ_ _ _ n _=>n,λb ob q _=>⟨ob,k b ob q⟩,λ_ _ q=>q,λ_ _ _ q=>q,λ_ _ q=>q⟩
def Un.refl:Un fs ex H H h h:=Un.kept λ_ _ q=>q
def Un.laid (k:∀b u,h.get? b=some u->h'.get? b=some u)(hp:h.objs.size<=a)(hn:H a=none):Un fs ex H (upd H a o) h h' where
 keep:=λb u q _ _ _=>k b u q
 slot:=λb u q _ _ _=>⟨u.slots,k b u q⟩
 free:=λb u q n _=>by rw[aM (vS (vQ (vX q) hp))];exact n
 there:=λb u q _=>⟨u,k b u q⟩
 tups:=λb xs q=>by rw[aM (bg q hn)];exact q
 frzs:=λb u xs q=>by rw[aM (bg q hn)];exact q
 tbls:=λb ps q=>by rw[aM (bg q hn)];exact q
def Un.write (G:Mn (H x))(he:e=x∨H e=some (.own x))(k:∀b u,b≠e->h.get? b=some u->h'.get? b=some u)(M:∃u,h'.get? e=some u):Un fs ex H (upd H x o) h h':=by
 have hx:∀b,H b=none->b≠x:=λb n z=>by subst z;rw[n]at G;exact G
 have hb:∀b,H b=none->b≠e:=λb n z=>by
  subst z;rcases he with r|r
  ·exact hx b n r
  ·rw[n]at r;cases r
 have hm:∀b u,H b=some u->¬Mn (some u)->b≠x:=λb u q nm z=>by subst z;rw[q]at G;exact nm G
 refine⟨λb u q n _ _=>k b u (hb b n) q,λb u q n _ _=>⟨u.slots,k b u (hb b n) q⟩,λb u q n _=>by rw[aM (hx b n)];exact n,λb u q _=>?_,
  λb xs q=>by rw[aM (hm b _ q λz=>z)];exact q,λb u xs q=>by rw[aM (hm b _ q λz=>z)];exact q,λb ps q=>by rw[aM (hm b _ q λz=>z)];exact q⟩
 by_cases g:b=e
 ·subst g;exact M
 ·exact⟨u,k b u g q⟩
end
noncomputable def OJ (h:Heap)(H:Hp):List Addr:=(List.range h.objs.size).filter λa=>(H a).isSome
def wD (h:Heap)(H:Hp):Heap:=PySem.W.hideAll h (OJ h H)
def BM (h:Heap)(H:Hp):(wD h H).objs.size=h.objs.size:=PySem.W.hideAll_size _ _
def pC (e:h.get? b=some o)(n:H b=none):(wD h H).get? b=some o :=
 PySem.W.hideAll_get _ e λhm=>by
  have q:(H b).isSome=true:=(vN hm).2;rw[n]at q;simp at q
def Gg (e:(wD h H).get? b=some o):h.get? b=some o/\H b=none:=by
 have g:h.get? b=some o:=PySem.W.of_hideAll (OJ h H) e;refine⟨g,?_⟩;cases q:H b with
 |none=>rfl
 |some x=>
  have hm:b∈OJ h H:=List.mem_filter.mpr ⟨List.mem_range.mpr (vX g),by simp[q]⟩;have z:(wD h H).get? b=none:=PySem.W.hideAll_none (OJ h H) hm;rw[z]at e;cases e
noncomputable def Gh (g h:Heap)(L:Addr):List (Addr×Obj):=(List.range h.objs.size).filterMap λa=>if a=L∨(g.get? a).isSome=true then none else (h.get? a).map λo=>(a,o)
def aF (g h:Heap)(L d:Addr):List (Addr×Obj):=(Gh g h L).filter λp=>decide (p.1≠d)
structure Mod (K:Frag)(mg:Str->Option Value)(base:Heap):Prop where
 kin:K.In base
 glob:base.Ns mainGlobals mg
 blt:∃mb,base.Ns builtinsNs mb/\∀x:Str,x ≠ "__name__"->mb x=bootBuiltins x
 nolimit:base.NoLimit
 bmain:∃bm ob,mg "__builtins__" = some (.ref bm)/\bm≠builtinsNs/\base.get? bm=some ob/\ob.cls=.type "module"/\ob.dict=some builtinsNs/\ob.data=.plain
structure Cx where
 prog:Program
 w:World
 K:Frag
 mg:Str->Option Value
 base:Heap
 A:Around
 N:List Str
 s₀:Shared
 H₀:Hp
 env:Env
 outer:List Env
 stack:List Env
 ex:List Addr
 fn:Str->Bool
 calm:Bool
 pn:List (Addr×Obj)
 xe:Value->Shared->Prop
noncomputable def CZ (l:List Env):List Addr:=l.filterMap (·.frame)
abbrev Cx.fs (X:Cx):List Addr:=CZ X.outer
def Dh (sc:Scope)(x:Str):Prop:=sc.names.lookup x=some .local∨sc.names.lookup x=some .cell∨sc.names.lookup x=some .free
def FU (sc:Scope)(x:Str):Prop:=sc.names.lookup x=some .local∨sc.names.lookup x=some .cell
def P2 (env:Env)(h:Heap)(m:Str->Option Value)(x:Str)(u:Value):Prop :=
 (env.kindOf x=some .local/\m x=some u)∨((env.kindOf x=some .cell∨env.kindOf x=some .free)/\∃c,env.cells.lookup x=some c/\h.IsCell c (some u))
abbrev wq {α:Type}(X:Cx):Sem α->(α->Shared->Prop)->(Value->Shared->Prop)->Shared->Prop:=wpAny (model X.prog X.w) X.A
structure Cx.Ok (X:Cx):Prop where
 mod:Mod X.K X.mg X.base
 kind:X.env.scope.kind=.function
 glob:X.env.globals=mainGlobals
 blt:X.env.builtins=builtinsNs
 above:X.s₀.heap.objs.size<=X.env.locals
 inj:∀x y c,X.env.cells.lookup x=some c->X.env.cells.lookup y=some c->x=y
 has:∀x,(X.env.kindOf x=some .cell∨X.env.kindOf x=some .free)->∃c,X.env.cells.lookup x=some c
 cab:∀x c,X.fn x=true->X.env.cells.lookup x=some c->X.s₀.heap.objs.size<=c
 hd:X.calm=true->X.A.handled=none
 frames:X.A.frames=some X.stack
 stk:X.stack=X.outer∨(X.stack=X.env::X.outer/\X.env.frame=some X.env.locals)
 exf:∀b∈X.ex,b≠X.env.locals/\∀x c,X.env.cells.lookup x=some c->c≠b
 bs:∀b o,X.base.get? b=some o->X.s₀.heap.get? b=some o/\X.H₀ b=none
 bsz:X.base.objs.size<=X.s₀.heap.objs.size
 noex:∀b o,X.base.get? b=some o->b∉X.ex
 exfs:∀b∈X.ex,b∉X.fs
 funs:X.s₀.heap.FunFrames X.base X.outer
 frf:∀b∈X.fs,X.H₀ b=none
structure Inv (X:Cx)(af:List (Addr×Obj))(σ:List (Option V))(H:Hp)(s:Shared):Prop where
 ok:X.Ok
 os:s.os=X.s₀.os
 bare:AllBare s.gens
 base:Un X.fs X.ex X.H₀ H X.s₀.heap s.heap
 loc:∃m,s.heap.Ns X.env.locals m/\∀(i:Nat)(x:Str)(v:V),X.N[i]? = some x->σ[i]? = some (some v)->Dh X.env.scope x->∃u,bd v u/\P2 X.env s.heap m x u
 cell:∀x c,X.env.cells.lookup x=some c->∃v,s.heap.IsCell c v
 free:H X.env.locals=none
 freeC:∀x c,X.env.cells.lookup x=some c->H c=none
 pin:∀p∈X.pn++af,s.heap.get? p.1=some p.2/\H p.1=none/\p.1≠X.env.locals/\p.1∉X.fs/\∀v,p.2.data≠.cell v
 hok:lq X.prog X.w H s.heap
 len:σ.length=X.N.length
section
variable {X:Cx}{af:List (Addr×Obj)}{σ:List (Option V)}{H H':Hp}{s:Shared}{h':Heap}
def Cx.Ok.nofr (ok:X.Ok)(e:X.base.get? b=some o):b∉X.fs:=λhb=>by
 have:=(ok.funs.mem hb).1;rw[e]at this;cases this
def Inv.bs (I:Inv X af σ H s):∀b o,X.base.get? b=some o->s.heap.get? b=some o/\H b=none:=λb o e=>
 ⟨I.base.keep b o (I.ok.bs b o e).1 (I.ok.bs b o e).2 (I.ok.nofr e) (I.ok.noex b o e),I.base.free b o (I.ok.bs b o e).1 (I.ok.bs b o e).2 (I.ok.noex b o e)⟩
def Inv.bk (I:Inv X af σ H s):∀b o,X.base.get? b=some o->s.heap.get? b=some o:=λb o e=>(I.bs b o e).1
def Inv.mod (I:Inv X af σ H s):Mod X.K X.mg X.base:=I.ok.mod
def Inv.kIn (I:Inv X af σ H s):X.K.In s.heap:=I.ok.mod.kin.keeps I.bk
def Inv.nolimit (I:Inv X af σ H s):s.heap.NoLimit:=I.ok.mod.nolimit.keeps I.bk
def Inv.lt (I:Inv X af σ H s):X.env.locals<s.heap.objs.size:=let ⟨_,hn,_⟩:=I.loc;hn.lt
def Inv.sz (I:Inv X af σ H s):X.s₀.heap.objs.size<=s.heap.objs.size:=vR I.ok.above (Nat.le_of_lt I.lt)
def Inv.nofs (I:Inv X af σ H s)(h:s.heap.objs.size<=a):a∉X.fs:=λhb=>by
 obtain⟨_,o,ho,_⟩:=I.ok.funs.mem hb;exact absurd (vQ (vX ho) (vR I.sz h)) (Nat.lt_irrefl _)
def Inv.cne (I:Inv X af σ H s):∀x c,X.env.cells.lookup x=some c->c≠X.env.locals:=λx c e z=>by
 obtain⟨v,o,ho,hd⟩:=I.cell x c e;obtain⟨m,⟨o',es,M,g,G,_⟩,_⟩:=I.loc;rw[z,g]at ho;cases ho;rw[G]at hd;cases hd
def Inv.funs (I:Inv X af σ H s):s.heap.FunFrames X.base X.outer:=by
 have all:∀(l:List Env),(∀b∈CZ l,b∈X.fs)->X.s₀.heap.FunFrames X.base l->s.heap.FunFrames X.base l:=by
  intro l;induction l with
  |nil=>intro _ _;trivial
  |cons env r G=>
   intro hs hl;obtain⟨hk,⟨L,o,hf,hn,ho,hd⟩,M⟩:=hl;have g:L∈X.fs:=hs L (by unfold CZ;rw[List.filterMap_cons,hf];exact mX);obtain⟨sl,e⟩:=I.base.slot L o ho (I.ok.frf L g) g λz=>I.ok.exfs L z g;exact⟨hk,⟨L,_,hf,hn,e,hd⟩,G (λb hb=>hs b (by unfold CZ;rw[List.filterMap_cons,hf];exact mZ _ hb)) M⟩
 exact all X.outer (λ_ hb=>hb) I.ok.funs
def Inv.stack (I:Inv X af σ H s):s.heap.FunFrames X.base X.stack:=by
 rcases I.ok.stk with e|⟨e,hf⟩
 ·rw[e];exact I.funs
 ·rw[e];obtain⟨m,hn,_⟩:=I.loc;refine .cons (by rw[I.ok.kind];decide) hf hn ?_ I.funs;exact Heap.get?_none_of_le (vR I.ok.bsz I.ok.above)
def Inv.stkSub (I:Inv X af σ H s):∀b∈CZ X.stack,b∈X.env.locals::X.fs:=λb hb=>by
 rcases I.ok.stk with e|⟨e,hf⟩
 ·rw[e]at hb;exact mZ _ hb
 ·rw[e]at hb;unfold CZ at hb;rw[List.filterMap_cons,hf]at hb;exact hb
def Inv.stkFree (I:Inv X af σ H s):∀b∈CZ X.stack,H b=none:=λb hb=>by
 rcases vP (I.stkSub b hb)with e|hb
 ·rw[e];exact I.free
 ·obtain⟨_,o,ho,_⟩:=I.ok.funs.mem hb;exact I.base.free b o ho (I.ok.frf b hb) λz=>I.ok.exfs b z hb
def Inv.step {g':Array GenState}{t':Nat}{d':Drawn}{ch:List Addr}(I:Inv X af σ H s)
  (g:∀b∈ch,(b∈X.ex∨X.s₀.heap.objs.size<=b)/\b≠X.env.locals/\(∀x c,X.env.cells.lookup x=some c->c≠b)/\∀p∈X.pn++af,p.1≠b)
  (keep:∀b o,b≠X.env.locals->b∉X.fs->b∉ch->s.heap.get? b=some o->H b=none->h'.get? b=some o)
  (slot:∀b o,b≠X.env.locals->b∈X.fs->b∉ch->s.heap.get? b=some o->H b=none->∃sl,h'.get? b=some { o with slots:=sl }) (free:∀b o,b∉ch->s.heap.get? b=some o->H b=none->H' b=none)
  (there:∀b o,b∉ch->s.heap.get? b=some o->∃o',h'.get? b=some o')
  (tups:∀b xs,H b=some (.tup xs)->H' b=some (.tup xs)) (frzs:∀b o u,H b=some (.frz o u)->H' b=some (.frz o u)) (tbls:∀b q,H b=some (.tbl q)->H' b=some (.tbl q))
  (ns:∀m,s.heap.Ns X.env.locals m->h'.Ns X.env.locals m) (hok:lq X.prog X.w H' h') (hg:AllBare g'):
  Inv X af σ H' { s with heap:=h',gens:=g',drawn:=d',toks:=t' }:=by
 have U:∀b o,X.s₀.heap.get? b=some o->b≠X.env.locals:=λb o e=>vS (vQ (vX e) I.ok.above);have O:∀b o,X.s₀.heap.get? b=some o->b∉X.ex->b∉ch:=λb o e hx hb=>by
  rcases (g b hb).1 with z|z
  ·exact hx z
  ·exact absurd (vQ (vX e) z) (Nat.lt_irrefl _)
 have G:∀x c,X.env.cells.lookup x=some c->∀v,s.heap.IsCell c v->h'.IsCell c v:=λx c e v ⟨o,ho,hd⟩=>by
  have M:c∉ch:=λz=>(g c z).2.2.1 x c e rfl;by_cases hc:c∈X.fs
  ·obtain⟨sl,q⟩:=slot c o (I.cne x c e) hc M ho (I.freeC x c e);exact⟨_,q,hd⟩
  ·exact⟨o,keep c o (I.cne x c e) hc M ho (I.freeC x c e),hd⟩
 refine⟨I.ok,I.os,hg,⟨λb o e n hb hx=>?_,λb o e n hb hx=>?_,λb o e n hx=>?_,λb o e hx=>?_,λb xs e=>tups b xs (I.base.tups b xs e),λb o xs e=>frzs b o xs (I.base.frzs b o xs e),λb ps e=>?_⟩,?_,λx c e=>?_,?_,λx c e=>?_,λp hp=>?_,hok,I.len⟩
 ·exact keep b o (U b o e) hb (O b o e hx) (I.base.keep b o e n hb hx) (I.base.free b o e n hx)
 ·obtain⟨sl,T⟩:=I.base.slot b o e n hb hx;obtain⟨UO,e2⟩:=slot b _ (U b o e) hb (O b o e hx) T (I.base.free b o e n hx);exact⟨UO,e2⟩
 ·obtain⟨o',T⟩:=I.base.there b o e hx;exact free b o' (O b o e hx) T (I.base.free b o e n hx)
 ·obtain⟨o',T⟩:=I.base.there b o e hx;exact there b o' (O b o e hx) T
 ·exact tbls b _ (I.base.tbls b ps e)
 ·obtain⟨m,hn,hl⟩:=I.loc;refine⟨m,ns m hn,λi x v T e2 e3=>?_⟩;obtain⟨u,r,l⟩:=hl i x v T e2 e3;refine⟨u,r,?_⟩;rcases l with l|⟨k,c,e,z⟩
  ·exact .inl l
  ·exact .inr ⟨k,c,e,G x c e _ z⟩
 ·obtain⟨v,z⟩:=I.cell x c e;exact⟨v,G x c e v z⟩
 ·obtain⟨m,⟨o,_,_,ho,_⟩,_⟩:=I.loc;exact free _ o (λz=>(g _ z).2.1 rfl) ho I.free
 ·obtain⟨v,o,ho,hd⟩:=I.cell x c e;exact free c o (λz=>(g c z).2.2.1 x c e rfl) ho (I.freeC x c e)
 ·obtain⟨e,n,ne,nf,d⟩:=I.pin p hp;have M:p.1∉ch:=λz=>(g p.1 z).2.2.2 p hp rfl;exact⟨keep p.1 p.2 ne nf M e n,free p.1 p.2 M e n,ne,nf,d⟩
def Inv.un {t':Nat}(I:Inv X af σ H s)(u:Un X.fs [] H H' s.heap h')(hok:lq X.prog X.w H' h'):Inv X af σ H' { s with heap:=h',toks:=t' }:=by
 obtain⟨m,⟨o,es,U,ho,r⟩,_⟩:=id I.loc;obtain⟨sl,O⟩:=u.any ho I.free (by simp);exact I.step (g':=s.gens) (d':=s.drawn) (ch:=[]) (λ_ z=>nomatch z) (λb o _ hb _ e n=>u.keep b o e n hb (by simp)) (λb o _ hb _ e n=>u.slot b o e n hb (by simp)) (λb o _ e n=>u.free b o e n (by simp)) (λb o _ e=>u.there b o e (by simp)) u.tups u.frzs u.tbls (λm' hm=>by
  obtain⟨o',G,M,g,T⟩:=hm;rw[ho]at g;cases g;exact⟨_,G,M,O,T⟩) hok I.bare
def Inv.call {g':Array GenState}{t':Nat}{d':Drawn}{ch:List Addr}(I:Inv X af σ H s)(u:Un (CZ X.stack) ch H H' s.heap h')(hok:lq X.prog X.w H' h')(U:AllBare g')
  (g:∀b∈ch,(b∈X.ex∨X.s₀.heap.objs.size<=b)/\b≠X.env.locals/\(∀x c,X.env.cells.lookup x=some c->c≠b)/\∀p∈X.pn++af,p.1≠b):
  Inv X af σ H' { s with heap:=h',gens:=g',drawn:=d',toks:=t' }:=by
 obtain⟨m,⟨o,es,ep,ho,r⟩,_⟩:=id I.loc;obtain⟨sl,M⟩:=u.any ho I.free λz=>(g _ z).2.1 rfl;exact I.step (ch:=ch) g (λb o M hb hc e n=>u.keep b o e n (λz=>(vP (I.stkSub b z)).elim M hb) hc) (λb o _ _ hc e n=>u.any e n hc) (λb o hc e n=>u.free b o e n hc) (λb o hc e=>u.there b o e hc) u.tups u.frzs u.tbls (λm' hm=>by
  obtain⟨o',O,T,G,r'⟩:=hm;rw[ho]at G;cases G;exact⟨_,O,T,M,r'⟩) hok U
def Inv.turned {t':Nat}{it:Addr}(I:Inv X af σ H s)(k:∀b o,b≠it->s.heap.get? b=some o->h'.get? b=some o)(hn:H it=none)(G:it≠X.env.locals)
  (h1:it∈X.ex∨X.s₀.heap.objs.size<=it) (h2:∀x c,X.env.cells.lookup x=some c->c≠it) (h3:∀p∈X.pn++af,p.1≠it):Inv X af σ H { s with heap:=h',toks:=t' }:=by
 have g:∀b u,H b=some u->b≠it:=λb u e z=>by rw[z,hn]at e;cases e
 refine I.step (g':=s.gens) (d':=s.drawn) (ch:=[it]) (λb hb=>?_) (λb o _ _ hc e _=>k b o (λz=>hc (by simp[z])) e) (λb o _ _ hc e _=>⟨o.slots,k b o (λz=>hc (by simp[z])) e⟩) (λ_ _ _ _ n=>n)
  (λb o hc e=>⟨o,k b o (λz=>hc (by simp[z])) e⟩) (λ_ _ e=>e) (λ_ _ _ e=>e) (λ_ _ e=>e) (λm hm=>?_) (λb u e=>?_) I.bare
 ·have e:b=it:=by simpa using hb
  subst e;exact⟨h1,G,h2,h3⟩
 ·obtain⟨o,es,M,ho,r⟩:=hm;exact⟨o,es,M,k _ o (Ne.symm G) ho,r⟩
 ·refine(I.hok b u e).stay (λc v hc q=>k c v ?_ q) (λ_ q=>q) (λ_ _ q=>q) λ_ _ _ q=>q;rcases hc with z|z
  ·rw[z];exact g b u e
  ·exact g c _ z
def Inv.tok (I:Inv X af σ H s)(t:Nat):Inv X af σ H { s with toks:=t }:=I.un (h':=s.heap) (t':=t) Un.refl I.hok
def Inv.kept (I:Inv X af σ H s)(k:∀b u,s.heap.get? b=some u->h'.get? b=some u):Inv X af σ H { s with heap:=h',toks:=t' }:=I.un (Un.kept k) (I.hok.kept k)
def Inv.laid (I:Inv X af σ H s)(k:∀b u,s.heap.get? b=some u->h'.get? b=some u)(hp:s.heap.objs.size<=a)(new:cw X.prog X.w (upd H a o) h' a o):
  Inv X af σ (upd H a o) { s with heap:=h',toks:=t' }:=I.un (Un.laid k hp (I.hok.fresh hp)) (I.hok.laid k hp new)
def Inv.write (I:Inv X af σ H s)(G:Mn (H x))(he:e=x∨H e=some (.own x))(k:∀b u,b≠e->s.heap.get? b=some u->h'.get? b=some u)(g:∃u,h'.get? e=some u)
  (new:cw X.prog X.w (upd H x o) h' x o):Inv X af σ (upd H x o) { s with heap:=h',toks:=t' }:=I.un (Un.write G he k g) (I.hok.write G he k g new)
def Inv.pins_of (I:Inv X af σ H s)(h:∀p∈pins',s.heap.get? p.1=some p.2/\H p.1=none/\p.1≠X.env.locals/\p.1∉X.fs/\∀v,p.2.data≠.cell v):Inv X pins' σ H s :=
 ⟨I.ok,I.os,I.bare,I.base,I.loc,I.cell,I.free,I.freeC,λp hp=>(List.mem_append.mp hp).elim (λz=>I.pin p (List.mem_append_left _ z)) (h p),I.hok,I.len⟩
def wE {N:List Str}(g:N.Nodup){i j:Nat}{x:Str}(a:N[i]? = some x)(b:N[j]? = some x):i=j:=by
 obtain⟨h1,G⟩:=vV a;obtain⟨h2,e2⟩:=vV b;exact(List.getElem_inj g).mp (G.trans e2.symm)
def sq {M:Model}{A:Around}{E:Value->Shared->Prop}{i:Nat}{x:Str}{v:V}{u:Value}{Q:Unit->Shared->Prop}(I:Inv X af σ H s)(hN:X.N.Nodup)(hi:X.N[i]? = some x)(hx:FU X.env.scope x)(r:bd v u)
  (h:∀s',Inv X af (σ.set i (some v)) H s'->(∃a,Heap.SameBut a s.heap s'.heap/\(a=X.env.locals∨X.env.cells.lookup x=some a))->Q () s') (hf:X.fn x=true∨X.env.scope.names.lookup x=some .local:=by first|exact .inl rfl|exact .inr rfl|assumption):wpAny M A (storeName X.env x u) Q E s:=by
 obtain⟨m,hn,hl⟩:=id I.loc;have Q3:(X.env.scope.kind == .class || (X.env.scope.kind == .module && X.env.locals != X.env.globals))=false:=by rw[I.ok.kind];rfl
 have T:i<σ.length:=by rw[I.len];exact(vV hi).1
 have cne:=I.cne;have g:∀ {a:Addr}{h':Heap},(∃o,s.heap.get? a=some o/\H a=none)->Heap.SameBut a s.heap h'->lq X.prog X.w H h':=λ{a h'} ha hs b ob e=>by
  obtain⟨_,_,O⟩:=ha;refine(I.hok b ob e).stay (λc w' hc q=>(hs.2 c ?_).trans q) (λ_ q=>q) (λ_ _ q=>q) λ_ _ _ q=>q;rintro rfl;rcases hc with rfl|hc
  ·rw[O]at e;cases e
  ·rw[O]at hc;cases hc
 rcases hx with hk|hk
 ·refine wpAny_storeName_local hk hn (λh' NW hs=>?_) Q3;obtain⟨oL,_,_,UP,_⟩:=id hn;refine h _ ⟨I.ok,I.os,I.bare,⟨λb o e n hb hx=>?_,λb o e n hb hx=>?_,I.base.free,λb o e hx=>?_,I.base.tups,I.base.frzs,I.base.tbls⟩,⟨_,NW,λj y v' G e2 e3=>?_⟩,λy c e=>?_,I.free,I.freeC,λp hp=>?_,g ⟨oL,UP,I.free⟩ hs,by simpa using I.len⟩ ⟨_,hs,.inl rfl⟩
  ·exact(hs.2 b (vS (vQ (vX e) I.ok.above))).trans (I.base.keep b o e n hb hx)
  ·obtain⟨sl,G⟩:=I.base.slot b o e n hb hx;exact⟨sl,(hs.2 b (vS (vQ (vX e) I.ok.above))).trans G⟩
  ·obtain⟨o',G⟩:=I.base.there b o e hx;exact⟨o',(hs.2 b (vS (vQ (vX e) I.ok.above))).trans G⟩
  ·by_cases hj:j=i
   ·subst hj;rw[hi]at G;cases G;rw[List.getElem?_set_self T]at e2;cases e2
    exact⟨u,r,.inl ⟨hk,by simp⟩⟩
   ·rw[vB (Ne.symm hj)]at e2;obtain⟨u',r',q⟩:=hl j y v' G e2 e3;refine⟨u',r',?_⟩;rcases q with⟨k,e⟩|⟨k,c,e,z⟩
    ·refine .inl ⟨k,?_⟩;have:y≠x:=λe=>hj (wE hN G (e ▸ hi));simp[this,e]
    ·exact .inr ⟨k,c,e,z.sameBut hs (cne y c e)⟩
  ·obtain⟨w',z⟩:=I.cell y c e;exact⟨w',z.sameBut hs (cne y c e)⟩
  ·obtain⟨e,n,ne,nf,d⟩:=I.pin p hp;exact⟨(hs.2 p.1 ne).trans e,n,ne,nf,d⟩
 ·have U:X.fn x=true:=by
   rcases hf with z|z
   ·exact z
   ·rw[z]at hk;cases hk
  obtain⟨c,hc⟩:=I.ok.has x (.inl hk);obtain⟨w',z⟩:=I.cell x c hc;refine wpAny_storeName_cell I.ok.kind hk hc z (λh' NX hs=>?_);obtain⟨oc,IA,Q4⟩:=id z;refine h { s with heap:=h' } ⟨I.ok,I.os,I.bare,⟨λb o e n hb hx=>?_,λb o e n hb hx=>?_,I.base.free,λb o e hx=>?_,I.base.tups,I.base.frzs,I.base.tbls⟩,⟨m,hn.sameBut hs (Ne.symm (cne x c hc)),λj y v' G e2 e3=>?_⟩,λy c' e=>?_,I.free,I.freeC,λp hp=>?_,g ⟨oc,IA,I.freeC x c hc⟩ hs,by simpa using I.len⟩ ⟨c,hs,.inr hc⟩
  ·exact(hs.2 b (vS (vQ (vX e) (I.ok.cab x c U hc)))).trans (I.base.keep b o e n hb hx)
  ·obtain⟨sl,G⟩:=I.base.slot b o e n hb hx;exact⟨sl,(hs.2 b (vS (vQ (vX e) (I.ok.cab x c U hc)))).trans G⟩
  ·obtain⟨o',G⟩:=I.base.there b o e hx;exact⟨o',(hs.2 b (vS (vQ (vX e) (I.ok.cab x c U hc)))).trans G⟩
  ·by_cases hj:j=i
   ·subst hj;rw[hi]at G;cases G;rw[List.getElem?_set_self T]at e2;cases e2
    exact⟨u,r,.inr ⟨.inl hk,c,hc,NX⟩⟩
   ·rw[vB (Ne.symm hj)]at e2;obtain⟨u',r',q⟩:=hl j y v' G e2 e3;refine⟨u',r',?_⟩;rcases q with q|⟨k,c',e,z'⟩
    ·exact .inl q
    ·refine .inr ⟨k,c',e,z'.sameBut hs ?_⟩;rintro rfl;exact hj (wE hN G (I.ok.inj _ _ _ e hc ▸ hi))
  ·by_cases hcc:c'=c
   ·subst hcc;exact⟨_,NX⟩
   ·obtain⟨w2,z2⟩:=I.cell y c' e;exact⟨w2,z2.sameBut hs hcc⟩
  ·obtain⟨e,n,ne,nf,d⟩:=I.pin p hp;refine⟨(hs.2 p.1 ?_).trans e,n,ne,nf,d⟩;intro q;rw[q,IA]at e;have q':oc=p.2:=vK e;exact d w' (by rw[←q'];exact Q4)
def wF {M:Model}{A:Around}{E:Value->Shared->Prop}{i:Nat}{x:Str}{v:V}{u:Value}{Q:Unit->Shared->Prop}(I:Inv X af σ H s)(g:X.N.Nodup)(hi:X.N[i]? = some x)(hx:FU X.env.scope x)(r:bd v u)
  (h:∀s',Inv X af (σ.set i (some v)) H s'->Q () s') (hf:X.fn x=true∨X.env.scope.names.lookup x=some .local:=by first|exact .inl rfl|exact .inr rfl|assumption):wpAny M A (storeName X.env x u) Q E s :=
 sq I g hi hx r (λs' G _=>h s' G) hf
def Inv.call' (I:Inv X af σ H s)(ho:s'.os=s.os)(u:Un (CZ X.stack) ch H H' s.heap s'.heap)(hok:lq X.prog X.w H' s'.heap)(G:AllBare s'.gens)
  (g:∀b∈ch,(b∈X.ex∨X.s₀.heap.objs.size<=b)/\b≠X.env.locals/\(∀x c,X.env.cells.lookup x=some c->c≠b)/\∀p∈X.pn++af,p.1≠b):Inv X af σ H' s':=by
 obtain⟨h',g',d',t',o'⟩:=s';have e:o'=s.os:=ho;subst e;exact I.call (g':=g') (t':=t') (d':=d') u hok G g
end
abbrev XK:=Value->Option Addr->Hp->Prop
abbrev St:=List (Option V)
abbrev VK:=V->Hp->Prop
abbrev TE:=St->Hp->VK->Prop
abbrev TT:=St->Hp->(Bool->Hp->Prop)->Prop
abbrev TA:=St->Hp->(List V->Hp->Prop)->Prop
structure Ends where
 nx:St->Hp->Prop
 rt:VK
 bk:St->Hp->Prop:=λ_ _=>False
 ct:St->Hp->Prop:=λ_ _=>False
abbrev TS:=Ends->St->Hp->Prop
def EP (X:Cx)(af:List (Addr×Obj))(σ:St)(Q:VK)(u:Value)(s':Shared):Prop:=∃v H',Inv X af σ H' s'/\bd v u/\Q v H'
def TP (X:Cx)(af:List (Addr×Obj))(σ:St)(Q:Bool->Hp->Prop)(b:Bool)(s':Shared):Prop:=∃H',Inv X af σ H' s'/\Q b H'
def AP (X:Cx)(af:List (Addr×Obj))(σ:St)(Q:List V->Hp->Prop)(us:List Value)(s':Shared):Prop:=∃vs H',Inv X af σ H' s'/\be vs us/\Q vs H'
def SP (X:Cx)(af:List (Addr×Obj))(D:Ends)(f:Flow)(s':Shared):Prop :=
 match f with
 |.next=>∃g H',Inv X af g H' s'/\D.nx g H'
 |.brk=>∃g H',Inv X af g H' s'/\D.bk g H'
 |.cont=>∃g H',Inv X af g H' s'/\D.ct g H'
 |.ret u=>∃v g H',Inv X af g H' s'/\bd v u/\D.rt v H'
def PE (X:Cx)(e:Expr)(t:TE):Prop :=
 ∀(af:List (Addr×Obj))(s:Shared)(σ:St)(H:Hp)(Q:VK),Inv X af σ H s->t σ H Q->wq X (eval e X.env) (EP X af σ Q) X.xe s
def PT (X:Cx)(e:Expr)(t:TT):Prop :=
 ∀(af:List (Addr×Obj))(s:Shared)(σ:St)(H:Hp)(Q:Bool->Hp->Prop),Inv X af σ H s->t σ H Q->wq X (isTrue e X.env (eval e X.env)) (TP X af σ Q) X.xe s
def PW (X:Cx)(e:Expr)(t:TT):Prop :=
 ∀(g:Sem Value)(af:List (Addr×Obj))(s:Shared)(σ:St)(H:Hp)(Q:Bool->Hp->Prop),Inv X af σ H s->t σ H Q->wq X (isTrue e X.env g) (TP X af σ Q) X.xe s
def PW.pt (h:PW X e t):PT X e t:=h _
def PA (X:Cx)(es:List Expr)(t:TA):Prop :=
 ∀(g:Pos)(af:List (Addr×Obj))(s:Shared)(σ:St)(H:Hp)(Q:List V->Hp->Prop),Inv X af σ H s->t σ H Q->wq X (spliced (backTo g (starEach es X.env))) (AP X af σ Q) X.xe s
def PS (X:Cx)(st:Stmt)(t:TS):Prop :=
 ∀(af:List (Addr×Obj))(s:Shared)(σ:St)(H:Hp)(D:Ends),Inv X af σ H s->t D σ H->wq X (exec st X.env) (SP X af D) X.xe s
def sr (X:Cx)(st:List Stmt)(t:TS):Prop :=
 ∀(af:List (Addr×Obj))(s:Shared)(σ:St)(H:Hp)(D:Ends),Inv X af σ H s->t D σ H->wq X (execs st X.env) (SP X af D) X.xe s
def c7 {α:Type}{t:Sem α}{Q g:α->Shared->Prop}{M:Model}{A:Around}{E:Value->Shared->Prop}{s:Shared}(h:wpAny M A t Q E s)(G:∀a s,Q a s->g a s):wpAny M A t g E s:=wpAny_mono h G λ_ _ x=>x
section
variable {X:Cx}
def WP {a b:Expr}{O tb:TE}(ha:PE X a O)(hb:PE X b tb){af:List (Addr×Obj)}{s:Shared}{σ:St}{H:Hp}{R:V->V->Hp->Prop}(I:Inv X af σ H s)(h:O σ H λx M=>tb σ M λy H2=>R x y H2)
  {α:Type}{Q:α->Shared->Prop}{f:Value->Value->Sem α}
  (hf:∀v u s2 x y H2,Inv X af σ H2 s2->bd x v->bd y u->R x y H2->wq X (f v u) Q X.xe s2):
  wq X (eval a X.env) (λv g=>wq X (eval b X.env) (λu G=>wq X (f v u) Q X.xe G) X.xe g) X.xe s:=by
 refine c7 (ha af s σ H _ I h) λv s1 ⟨x,M,T,U,q1⟩=>?_;refine c7 (hb af s1 σ M _ T q1) λu s2 ⟨y,H2,I2,r2,q2⟩=>?_;exact hf v u s2 x y H2 I2 U r2 q2
def Di (i:Nat):TE:=λσ H Q=>∃v,σ[i]? = some (some v)/\Q v H
def tC (v:V):TE:=λ_ H Q=>Q v H
def lF (M:X.N[i]? = some x)(hv:Dh X.env.scope x)(hd:(x == ("__debug__" : Str))=false:=by decide)(G:(x == ("__classdict__" : Str))=false:=by decide):PE X (.Name x pos) (Di i):=by
 intro af s σ H Q I h;obtain⟨v,e,h⟩:=h;obtain⟨m,hn,hl⟩:=I.loc;obtain⟨u,r,l⟩:=hl i x v M e hv;have jb:EP X af σ Q u s:=⟨v,H,I,r,h⟩;rcases l with⟨hk,hm⟩|⟨hk,c,hc,g⟩
 ·exact wpAny_Name (wpAny_loadName_local I.ok.kind hk hn hm jb) hd
 ·rcases hk with hk|hk
  ·exact wpAny_Name (wpAny_loadName_cell I.ok.kind hk hc g jb) hd
  ·exact wpAny_Name (wpAny_loadName_free I.ok.kind hk hc g jb G) hd
def JJ {i j pos}:PE X (.Constant (.int i) j pos) (tC (.int i)):=λ_ _ _ H _ I h=>wpAny_Constant_int ⟨.int i,H,I.tok _,⟨_,rfl⟩,h⟩
def Mo {b j pos}:PE X (.Constant (.bool b) j pos) (tC (.bl b)):=λ_ _ _ H _ I h=>Constant_bool ⟨.bl b,H,I,rfl,h⟩
def JL {j pos}:PE X (.Constant .none j pos) (tC .non):=λ_ _ _ H _ I h=>Constant_none ⟨.non,H,I,rfl,h⟩
def JM {x j pos}:PE X (.Constant (.str x) j pos) (tC (.str x)):=λ_ _ _ H _ I h=>Calls.Constant_str ⟨.str x,H,I.tok _,⟨_,rfl⟩,h⟩
def Gl (X:Cx)(x:Str):Prop:=X.env.kindOf x=some .globalImplicit
def uq {E:Value->Shared->Prop}{af:List (Addr×Obj)}{s:Shared}{σ:St}{H:Hp}{x:Str}{u:Value}{g:Pos}{Q:Value->Shared->Prop}(I:Inv X af σ H s)(G:Gl X x)(hm:X.mg x=some u)(h:Q u s)
  (hd:(x == ("__debug__" : Str))=false:=by decide):wq X (eval (.Name x g) X.env) Q E s :=
 Calls.Name_function_global I.ok.kind G (Calls.loadGlobal_global (by rw[I.ok.glob];exact I.mod.glob.keeps I.bk) hm h) hd
def jv {E:Value->Shared->Prop}{af:List (Addr×Obj)}{s:Shared}{σ:St}{H:Hp}{x:Str}{u:Value}{g:Pos}{Q:Value->Shared->Prop}(I:Inv X af σ H s)(G:Gl X x)(hm:X.mg x=none)(hv:bootBuiltins x=some u)(h:Q u s)
  (hn:x ≠ "__name__":=by decide) (hd:(x == ("__debug__" : Str))=false:=by decide):wq X (eval (.Name x g) X.env) Q E s:=by
 obtain⟨mb,h1,h2⟩:=I.mod.blt;exact Calls.Name_function_global I.ok.kind G (Calls.loadGlobal_builtin (by rw[I.ok.glob];exact I.mod.glob.keeps I.bk) hm (by rw[I.ok.blt];exact h1.keeps I.bk) ((h2 x hn).trans hv) h) hd
def Ao (g:Gl X x)(hm:X.mg x=some u)(r:bd v u)(hd:(x == ("__debug__" : Str))=false:=by decide):PE X (.Name x pos) (tC v) :=
 λ_ _ _ H _ I h=>uq I g hm ⟨v,H,I,r,h⟩ hd
def TV (g tb:TE)(k:Int->Int->Hp->Prop):St->Hp->Prop:=λσ H=>g σ H λx G=>tb σ G λy H2=>∃i j,x=.int i/\y=.int j/\k i j H2
variable {a b:Expr}{ta tb:TE}{pos:Pos}
def PC (X:Cx)(op:CmpOp)(a b:Expr)(t:TE):Prop :=
 ∀(af:List (Addr×Obj))(s:Shared)(σ:St)(H:Hp)(Q:VK),Inv X af σ H s->t σ H Q ->
  wq X (eval a X.env) (λv g=>wq X (eval b X.env) (λu G=>wq X (compareOp op v u) (EP X af σ Q) X.xe G) X.xe g) X.xe s
def gZ (b:Expr){op:CmpOp}(h:op≠.In)(h2:op≠.NotIn):behindInMarks op b=false:=by
 have g:(op == CmpOp.In)=false:=by cases op<;>first|rfl|exact absurd rfl h
 have e2:(op == CmpOp.NotIn)=false:=by cases op<;>first|rfl|exact absurd rfl h2
 cases b<;>simp[behindInMarks,g,e2]
def JN (p:Int->Int->Bool)(ta tb:TE):TE:=λσ H Q=>TV ta tb (λi j H2=>Q (.bl (p i j)) H2) σ H
abbrev JP:TE->TE->TE:=JN λi j=>decide (i<j)
abbrev TW:TE->TE->TE:=JN λi j=>decide (j<i)
abbrev IM:TE->TE->TE:=JN λi j=>decide (j<=i)
def tB (t:TE):TT:=λσ H Q=>t σ H λx g=>∃c,x=.bl c/\Q c g
def JQ (h:PC X op a b t)(h1:behindInMarks op b=false:=by first|exact gZ _ (by decide) (by decide)|rfl):PE X (.Compare a [op] [b] pos) t:=λaf s σ H Q I hw=>wpAny_Compare1 (h af s σ H Q I hw) h1
def Dj {op:CmpOp}{t:TE}(h:PC X op a b t)(h1:behindInMarks op b=false:=by first|exact gZ _ (by decide) (by decide)|rfl):PT X (.Compare a [op] [b] pos) (tB t):=by
 intro af s σ H Q I hw;refine wpAny_isTrue_Compare1 (c7 (h af s σ H _ I hw) λv s1 h1=>c7 h1 λu s2 h2=>c7 h2 λc T ⟨x,g,G,M,O⟩=>?_) h1;obtain⟨d,rfl,q⟩:=O;cases M
 exact wpAny_truthy_bool ⟨g,G,q⟩
def JR {e:Expr}{t:TE}(h:PE X e t)(he:∀g,isTrue e X.env g=(do let v ←g;standAt e.pos;holding [v] (truthy v)):=by intro _;rfl):PT X e (tB t):=by
 intro af s σ H Q I hw;refine isTrue_plain (c7 (h af s σ H _ I hw) λv s1 ⟨x,G,M,O,T⟩=>?_) (he _);obtain⟨d,rfl,q⟩:=T;cases O
 exact wpAny_truthy_bool ⟨G,M,q⟩
variable {tA Pd:TT}{aF:List Expr}
def Mp (t u:TT):TT:=λσ H Q=>t σ H λc g=>if c=true then u σ g Q else Q false g
def RF (t u:TT):TT:=λσ H Q=>t σ H λc g=>if c=true then Q true g else u σ g Q
def Mq (t:TT):TT:=λσ H Q=>t σ H λc g=>Q (!c) g
def Gi (ha:PT X a tA):PW X (.BoolOp .And [a] pos) tA:=by
 intro g af s σ H Q I h;refine isTrue_and (c7 (ha af s σ H Q I h) λc s1 e=>?_);cases c with
 |true=>exact isTrue_and_nil e
 |false=>exact e
def JU (ha:PT X a tA):PW X (.BoolOp .Or [a] pos) tA:=by
 intro g af s σ H Q I h;refine isTrue_or (c7 (ha af s σ H Q I h) λc s1 e=>?_);cases c with
 |false=>exact isTrue_or_nil e
 |true=>exact e
def JV (ha:PT X a tA)(hb:PW X (.BoolOp .And (b::aF) pos) Pd):PW X (.BoolOp .And (a::b::aF) pos) (Mp tA Pd):=by
 intro O af s σ H Q I h;refine isTrue_and (c7 (ha af s σ H _ I h) λc s1 ⟨g,G,M⟩=>?_);cases c with
 |true=>exact hb O af s1 σ g Q G M
 |false=>exact⟨g,G,M⟩
def Mr (ha:PT X a tA)(hb:PW X (.BoolOp .Or (b::aF) pos) Pd):PW X (.BoolOp .Or (a::b::aF) pos) (RF tA Pd):=by
 intro O af s σ H Q I h;refine isTrue_or (c7 (ha af s σ H _ I h) λc s1 ⟨g,G,M⟩=>?_);cases c with
 |true=>exact⟨g,G,M⟩
 |false=>exact hb O af s1 σ g Q G M
def JX (ha:PT X a tA):PT X (.UnaryOp .Not a pos) (Mq tA):=by
 intro af s σ H Q I h;exact isTrue_not (ha af s σ H (λc g=>Q (!c) g) I h)
def Ms (ta tb:TE):TE:=λσ H Q=>ta σ H λx g=>∃c,x=.bl c/\if c=true then tb σ g Q else Q (.bl false) g
def P4 (ta tb:TE):TE:=λσ H Q=>ta σ H λx g=>∃c,x=.bl c/\if c=true then Q (.bl true) g else tb σ g Q
def JY {op}(h:PE X a t):PE X (.BoolOp op [a] pos) t:=λaf s σ H Q I hw=>BoolOp_one (h af s σ H Q I hw)
def JZ (ha:PE X a ta)(hb:PE X (.BoolOp .And (b::aF) pos) tb):PE X (.BoolOp .And (a::b::aF) pos) (Ms ta tb):=by
 intro af s σ H Q I h;refine BoolOp_and (c7 (ha af s σ H _ I h) λv s1 ⟨x,G,M,O,g⟩=>?_);obtain⟨c,rfl,g⟩:=g;cases O
 refine wpAny_truthy_bool ?_;cases c with
 |true=>exact hb af s1 σ G Q M g
 |false=>exact⟨.bl false,G,M,rfl,g⟩
def Mt (ha:PE X a ta)(hb:PE X (.BoolOp .Or (b::aF) pos) tb):PE X (.BoolOp .Or (a::b::aF) pos) (P4 ta tb):=by
 intro af s σ H Q I h;refine BoolOp_or (c7 (ha af s σ H _ I h) λv s1 ⟨x,G,M,O,g⟩=>?_);obtain⟨c,rfl,g⟩:=g;cases O
 refine wpAny_truthy_bool ?_;cases c with
 |false=>exact hb af s1 σ G Q M g
 |true=>exact⟨.bl true,G,M,rfl,g⟩
def TX (t:TT)(ta tb:TE):TE:=λσ H Q=>t σ H λc g=>if c=true then ta σ g Q else tb σ g Q
def Dk {c:Expr}(hc:PT X c tA)(ha:PE X a ta)(hb:PE X b tb):PE X (.IfExp c a b pos) (TX tA ta tb):=by
 intro af s σ H Q I h;refine wpAny_IfExp (c7 (hc af s σ H _ I h) λd s1 ⟨g,G,M⟩=>?_);cases d with
 |true=>exact ha af s1 σ g Q G M
 |false=>exact hb af s1 σ g Q G M
end
def gn (K:Frag)(H:Hp)(a:Addr)(xs:List V):Prop :=
 Rd H a (.lst xs) ∨
  ∃(o:Obj)(its:Array Value)(n:Nat),K.lookup a=some o/\o.cls=.type "list"/\o.dict=none/\o.data=.seq its n/\its.size<=sizeLine/\be xs its.toList
def ja (K:Frag)(H:Hp)(a:Addr)(xs:List V):Prop :=
 Rd H a (.tup xs) ∨
  ∃(o:Obj)(its:Array Value)(n:Nat),K.lookup a=some o/\o.cls=.type "tuple"/\o.data=.seq its n/\its.size<=sizeLine/\be xs its.toList
noncomputable def P5:Value->Option V
 |.none=>some .non
 |.bool b=>some (.bl b)
 |.int i _=>some (.int i)
 |.str x _=>some (.str x)
 |.bytes b _=>some (.byt b)
 |.float b _=>some (.flt b)
 |.ref a=>some (.ref a)
 |.type n=>some (.ty n)
 |_=>none
def bd.abs (r:bd x u):P5 u=some x:=by
 cases x with
 |non=>cases r;rfl
 |bl _=>cases r;rfl
 |int _=>obtain⟨t,rfl⟩:=r;rfl
 |str _=>obtain⟨t,rfl⟩:=r;rfl
 |byt _=>obtain⟨t,rfl⟩:=r;rfl
 |flt _=>obtain⟨t,rfl⟩:=r;rfl
 |ref _=>cases r;rfl
 |ty _=>cases r;rfl
def bd.inj (r:bd x u)(q:bd y u):x=y:=vK (r.abs.symm.trans q.abs)
theorem be.inj:∀ {xs ys:List V}{us:List Value},be xs us->be ys us->xs=ys
 |_,_,_,.nil,.nil=>rfl
 |_,_,_,.cons r t,.cons g t'=>by rw[r.inj g,be.inj t t']
section
variable {X:Cx}{af:List (Addr×Obj)}{σ:St}{H:Hp}{s:Shared}{a:Addr}{xs ys:List V}
def gn.of {K:Frag}(h:H a=some (.lst xs)):gn K H a xs:=.inl (.inl h)
def ja.of {K:Frag}(h:H a=some (.tup xs)):ja K H a xs:=.inl (.inl h)
def Inv.list (I:Inv X af σ H s)(h:gn X.K H a xs):∃its:List Value,be xs its/\PlainL s.heap a its.toArray/\xs.length<=sizeLine:=by
 rcases h with h|⟨o,its,n,hk,hc,hd,hs,hz,r⟩
 ·obtain⟨z,its,n,r,e⟩:=h.ok I.hok;exact⟨its,r,⟨_,n,e,rfl,rfl,rfl⟩,z⟩
 ·refine⟨its.toList,r,⟨o,n,I.kIn a o hk,hc,hd,by simpa using hs⟩,?_⟩;have e:=r.length;simp only[vG]at e;omega
def Inv.tuple (I:Inv X af σ H s)(h:ja X.K H a xs):∃its:List Value,be xs its/\IsTup s.heap a its.toArray/\xs.length<=sizeLine:=by
 rcases h with h|⟨o,its,n,hk,hc,hs,hz,r⟩
 ·obtain⟨z,its,r,p⟩:=h.ok I.hok;exact⟨its,r,p,z⟩
 ·refine⟨its.toList,r,⟨o,I.kIn a o hk,hc,n,by simpa using hs⟩,?_⟩;have e:=r.length;simp only[vG]at e;omega
def Inv.list_inj (I:Inv X af σ H s)(h:gn X.K H a xs)(h':gn X.K H a ys):xs=ys:=by
 obtain⟨its,r,⟨o,n,e,_,_,d⟩,_⟩:=I.list h;obtain⟨its',G,⟨o',M,g,_,_,d'⟩,_⟩:=I.list h';rw[e]at g;cases g;rw[d]at d';injection d' with d1 _;have:its=its':=by simpa using congrArg Array.toList d1
 subst this;exact r.inj G
def Inv.tuple_inj (I:Inv X af σ H s)(h:ja X.K H a xs)(h':ja X.K H a ys):xs=ys:=by
 obtain⟨its,r,⟨o,e,_,n,d⟩,_⟩:=I.tuple h;obtain⟨its',G,⟨o',g,_,M,d'⟩,_⟩:=I.tuple h';rw[e]at g;cases g;rw[d]at d';injection d' with d1 _;have:its=its':=by simpa using congrArg Array.toList d1
 subst this;exact r.inj G
end
noncomputable abbrev Cx.wish (X:Cx)(E:Value->Shared->Prop):Cx:={ X with xe:=E }
noncomputable abbrev Cx.nox (X:Cx):Cx:=X.wish λ_ _=>False
def Cx.Ok.wish {X:Cx}(ok:X.Ok)(E:Value->Shared->Prop):(X.wish E).Ok :=
 ⟨ok.mod,ok.kind,ok.glob,ok.blt,ok.above,ok.inj,ok.has,ok.cab,ok.hd,ok.frames,ok.stk,ok.exf,ok.bs,ok.bsz,ok.noex,ok.exfs,ok.funs,ok.frf⟩
def Cx.Ok.unwish {X:Cx}{E:Value->Shared->Prop}(ok:(X.wish E).Ok):X.Ok :=
 ⟨ok.mod,ok.kind,ok.glob,ok.blt,ok.above,ok.inj,ok.has,ok.cab,ok.hd,ok.frames,ok.stk,ok.exf,ok.bs,ok.bsz,ok.noex,ok.exfs,ok.funs,ok.frf⟩
section
variable {X:Cx}{af:List (Addr×Obj)}{σ:St}{H:Hp}{s:Shared}{E:Value->Shared->Prop}
def Inv.wish (I:Inv X af σ H s)(E:Value->Shared->Prop):Inv (X.wish E) af σ H s:=⟨I.ok.wish E,I.os,I.bare,I.base,I.loc,I.cell,I.free,I.freeC,I.pin,I.hok,I.len⟩
def Inv.unwish (I:Inv (X.wish E) af σ H s):Inv X af σ H s:=⟨I.ok.unwish,I.os,I.bare,I.base,I.loc,I.cell,I.free,I.freeC,I.pin,I.hok,I.len⟩
def SP.unwish (h:SP (X.wish E) af D f s'):SP X af D f s':=by
 cases f with
 |next=>obtain⟨g,H',I,q⟩:=h;exact⟨g,H',I.unwish,q⟩
 |brk=>obtain⟨g,H',I,q⟩:=h;exact⟨g,H',I.unwish,q⟩
 |cont=>obtain⟨g,H',I,q⟩:=h;exact⟨g,H',I.unwish,q⟩
 |ret u=>obtain⟨v,g,H',I,r,q⟩:=h;exact⟨v,g,H',I.unwish,r,q⟩
def PE.nox (h:PE X.nox e t):PE X e t:=λaf s σ H Q I hw=>
 wpAny_mono (h af s σ H Q (I.wish _) hw) (λ_ _ ⟨v,H',g,r,q⟩=>⟨v,H',g.unwish,r,q⟩) λ_ _ z=>False.elim z
def PT.nox (h:PT X.nox e t):PT X e t:=λaf s σ H Q I hw=>
 wpAny_mono (h af s σ H Q (I.wish _) hw) (λ_ _ ⟨H',g,q⟩=>⟨H',g.unwish,q⟩) λ_ _ z=>False.elim z
def sr.nox {st:List Stmt}{t:TS}(h:sr X.nox st t):sr X st t:=λaf s σ H D I hw=>
 wpAny_mono (h af s σ H D (I.wish _) hw) (λ_ _ q=>q.unwish) λ_ _ z=>False.elim z
end
section
variable {X:Cx}{st:Stmt}{aF:List Stmt}{t u:TS}{e:Expr}{te:TE}{pos:Pos}
def IN:TS:=λD σ H=>D.nx σ H
def Mu (t u:TS):TS:=λD σ H=>t { D with nx:=u D } σ H
def Gj:sr X [] IN:=λ_ _ σ H _ I h=>wpAny_execs_nil ⟨σ,H,I,h⟩
def Dl (h1:PS X st t)(h2:sr X aF u):sr X (st::aF) (Mu t u):=by
 intro af s σ H D I h;refine wpAny_execs_cons (c7 (h1 af s σ H { D with nx:=u D } I h) λf s1 q=>?_);cases f with
 |next=>
  obtain⟨g,H',G,q⟩:=q;exact h2 af s1 g H' D G q
 |ret v=>exact q
 |brk=>exact q
 |cont=>exact q
def Gk (h1:PS X st t):sr X [st] t:=by
 intro af s σ H D I h;refine wpAny_execs_cons (c7 (h1 af s σ H D I h) λf s1 q=>?_);cases f with
 |next=>exact wpAny_execs_nil q
 |ret v=>exact q
 |brk=>exact q
 |cont=>exact q
def Mv:TS:=λD σ H=>D.ct σ H
def wG:PS X (.Continue pos) Mv:=λ_ _ σ H _ I h=>wpAny_Continue ⟨σ,H,I,h⟩
def Inv.quiet (I:Inv X af σ H s):interactive X.env=false:=by simp[interactive,I.ok.kind]
def Mw (te:TE):TS:=λD σ H=>te σ H λ_ g=>D.nx σ g
def Gm (he:PE X e te)(hs:swapsWith e none pos.line X.env=pure false:=by rfl):PS X (.Expr e pos) (Mw te):=by
 intro af s σ H D I h;exact wpAny_Expr_any (c7 (he af s σ H _ I h) λv s1 ⟨x,g,G,O,M⟩=>⟨σ,g,G,M⟩) I.quiet hs
def Ka (te:TE):TS:=λD σ H=>te σ H D.rt
def Dm (he:PE X e te):PS X (.Return (some e) pos) (Ka te):=by
 intro af s σ H D I h;exact wpAny_Return_some (c7 (he af s σ H _ I h) λv s1 ⟨x,g,G,M,O⟩=>⟨x,σ,g,G,M,O⟩)
def Mx (c:TT)(t u:TS):TS:=λD σ H=>c σ H λb g=>if b=true then t D σ g else u D σ g
def My {c:Expr}{a b:List Stmt}{g:TT}(hc:PT X c g)(ha:sr X a t)(hb:sr X b u):PS X (.If c a b pos) (Mx g t u):=by
 intro af s σ H D I h;refine wpAny_If (c7 (hc af s σ H _ I h) λd s1 ⟨G,M,O⟩=>?_);cases d with
 |true=>exact ha af s1 σ G D M O
 |false=>exact hb af s1 σ G D M O
end
abbrev TG:=V->St->Hp->(St->Hp->Prop)->Prop
abbrev Kb:=List V->St->Hp->(St->Hp->Prop)->Prop
def PG (X:Cx)(g:Expr)(t:TG):Prop :=
 ∀(af:List (Addr×Obj))(s:Shared)(σ:St)(H:Hp)(v:V)(u:Value)(Q:St->Hp->Prop),Inv X af σ H s->bd v u->t v σ H Q ->
  wq X (assign g X.env u) (λ_ s'=>∃G H',Inv X af G H' s'/\Q G H') X.xe s
def OK (X:Cx)(G:List Expr)(t:Kb):Prop :=
 ∀(af:List (Addr×Obj))(s:Shared)(σ:St)(H:Hp)(vs:List V)(us:List Value)(Q:St->Hp->Prop),Inv X af σ H s->be vs us->t vs σ H Q ->
  wq X (assignInOrder ((assignEach G X.env).map (·.2)) us) (λ_ s'=>∃g H',Inv X af g H' s'/\Q g H') X.xe s
abbrev Kc:=V->V->V->Hp->(Hp->Prop)->Prop
def Mz (X:Cx)(t:Kc):Prop :=
 ∀(af:List (Addr×Obj))(s:Shared)(σ:St)(H:Hp)(o i v:V)(g iv u:Value)(Q:Hp->Prop),Inv X af σ H s->bd o g->bd i iv->bd v u->t o i v H Q ->
  wq X (setItem g iv u) (λ_ s'=>∃H',Inv X af σ H' s'/\Q H') X.xe s
section
variable {X:Cx}{pos:Pos}
def jN (i:Nat):TG:=λv σ H Q=>Q (σ.set i (some v)) H
def Ap (g:X.N.Nodup)(hi:X.N[i]? = some x)(hx:FU X.env.scope x)(hf:X.fn x=true∨X.env.scope.names.lookup x=some .local:=by first|exact .inl rfl|exact .inr rfl|assumption):PG X (.Name x pos) (jN i):=by
 intro af s σ H v u Q I r h;exact wpAny_assign_Name (wF I g hi hx r (λs' G=>⟨_,H,G,h⟩) hf)
def M0:Kb:=λvs σ H Q=>vs=[]/\Q σ H
def IP (t:TG)(u:Kb):Kb:=λvs σ H Q=>∃v r,vs=v::r/\t v σ H λg H'=>u r g H' Q
def ur:OK X [] M0:=by
 intro af s σ H vs us Q I r h;obtain⟨e,h⟩:=h;subst e;cases r
 exact assignInOrder_nil ⟨σ,H,I,h⟩
def jc {e:Expr}{es:List Expr}{t:TG}{u:Kb}(h1:PG X e t)(h2:OK X es u)
  (hs:(assignEach (e::es) X.env).map (·.2)=assign e X.env::(assignEach es X.env).map (·.2):=by rfl):OK X (e::es) (IP t u):=by
 intro af s σ H vs us Q I r h;obtain⟨v,vr,G,h⟩:=h;subst G;cases r with
 |cons r M=>
  rw[hs];refine assignInOrder_cons (c7 (h1 af s σ H _ _ _ I r h) λ_ s1 ⟨g,O,T,U⟩=>?_);exact h2 af s1 g O _ _ Q T M U
def Kd (K:Frag)(n:Nat)(t:Kb):TG:=λv σ H Q=>∃a xs,v=.ref a/\ja K H a xs/\xs.length=n/\t xs σ H Q
def zb (hc:X.calm=true)(h:OK X es t)
  (hn:(assignEach es X.env).length=n:=by rfl) (g:(assignEach es X.env).findIdx? (·.1)=none:=by rfl):PG X (.Tuple es k pos) (Kd X.K n t):=by
 intro af s σ H v u Q I r hw;obtain⟨a,xs,M,hq,hl,hw⟩:=hw;subst M;cases r
 obtain⟨its,G,O,hz⟩:=I.tuple hq;refine assign_Tuple_tuple (I.ok.hd hc) O (by simp[hn,←hl,G.length]) g λh' hx=>?_;have T:Inv X af σ H { s with heap:=h' }:=I.kept (t':=s.toks) λb o e=>hx b o (vS (vX e)) e;exact h af _ σ H xs _ Q T (by simpa using G) hw
def P6 (to ti:TE)(t:Kc):TG:=λv σ H Q=>to σ H λo g=>ti σ g λi H2=>t o i v H2 λG=>Q σ G
def Ke {o i:Expr}{to ti:TE}{t:Kc}(ho:PE X o to)(hi:PE X i ti)(hs:Mz X t)
  (ha:∀v,assign (.Subscript o i pos) X.env v=(do
   let g ←holding [v] (eval o X.env)
   let iv ←holding [v,g] (eval i X.env)
   standAt pos
   holding [v,g,iv] (setItem g iv v)
   release [v,g,iv] []):=by intro _;rfl):PG X (.Subscript o i pos) (P6 to ti t):=by
 intro af s σ H v u Q I r h;rw[ha];refine wX (wpAny_holding (c7 (ho af s σ H _ I h) λg s1 ⟨x,G,M,O,T⟩=>?_));refine wX (wpAny_holding (c7 (hi af s1 σ G _ M T) λiv s2 ⟨y,H2,U,r2,q2⟩=>?_));refine wX (wpAny_standAt (wX (wpAny_holding (c7 (hs af s2 σ H2 x y v g iv u _ U O r2 r q2) λ_ s3 ⟨H3,I3,q3⟩=>?_))));exact wpAny_release ⟨σ,H3,I3,q3⟩
def zc (G:TE)(g:TG):TS:=λD σ H=>G σ H λx M=>g x σ M D.nx
def Kf {tg e:Expr}{G:TE}{g:TG}(he:PE X e G)(M:PG X tg g)(hs:swapsWithSole [tg] e pos.line X.env=pure false:=by rfl)(hw:swappedStores [tg] e X.env=pure none:=by rfl)
  (h1:(assignEach [tg] X.env).map (·.2)=[assign tg X.env]:=by rfl):PS X (.Assign [tg] e pos) (zc G g):=by
 intro af s σ H D I h;refine wpAny_Assign_stores (c7 (he af s σ H _ I h) λv s1 ⟨x,O,T,U,q1⟩=>?_) hs hw;rw[h1];exact c7 (M af s1 σ O x v _ T U q1) λ_ s2 q=>q
def ut {i:Nat}{x:Str}{e:Expr}{G:TE}{g:Pos}(M:X.N.Nodup)(hi:X.N[i]? = some x)(hx:FU X.env.scope x)(he:PE X e G)(hs:swapsWith e (some (.Name x g)) pos.line X.env=pure false:=by rfl)(hf:X.fn x=true∨X.env.scope.names.lookup x=some .local:=by first|exact .inl rfl|exact .inr rfl|assumption):
  PS X (.Assign [.Name x g] e pos) (zc G (jN i)):=by
 intro af s σ H D I h;refine wpAny_Assign_Name (c7 (he af s σ H _ I h) λv s1 ⟨y,O,T,U,q1⟩=>?_) hs;exact wF T M hi hx U (λs2 I2=>⟨_,O,I2,q1⟩) hf
end
section
variable {X:Cx}{pos:Pos}
def Dn (c:TT)(tb:TS):TS:=λD σ H=>∃W:Nat->St->Hp->Prop,(∃m,W m σ H)/\∀m σ H,W m σ H ->
 c σ H λb G=>if b=true then ∃N:St->Hp->Prop,(∀g H',N g H'->∃M,M<m/\W M g H')/\tb { D with nx:=N,ct:=N,bk:=D.nx } σ G else D.nx σ G
def Dp {c:Expr}{M:List Stmt}{tc:TT}{tb:TS}(hp:PassesOwn (model X.prog X.w) X.A X.env X.xe)(hc:PT X c tc)(hb:sr X M tb):PS X (.While c M [] pos) (Dn tc tb):=by
 intro af s σ H D I h;obtain⟨W,⟨m0,w0⟩,O⟩:=h;refine wpAny_While (codeAny_whileLoop (λn s'=>∃T H',Inv X af T H' s'/\W n T H') ?_ m0 ⟨σ,H,I,w0⟩);rintro n s1 ⟨G,H1,I1,w1⟩;refine wpAny_passesOwn hp (c7 (hc af s1 G H1 _ I1 (O n G H1 w1)) λb s2 ⟨H2,I2,q2⟩=>?_);cases b with
 |true=>
  obtain⟨N,hN,q2⟩:=q2;rw[if_pos rfl];refine wpAny_passesOwn hp (c7 (hb af s2 G H2 _ I2 q2) λf s3 q3=>?_);cases f with
  |next=>
   obtain⟨g,U,I3,n3⟩:=q3;obtain⟨m',hm,w3⟩:=hN g U n3;exact⟨m',hm,g,U,I3,w3⟩
  |cont=>
   obtain⟨g,U,I3,n3⟩:=q3;obtain⟨m',hm,w3⟩:=hN g U n3;exact⟨m',hm,g,U,I3,w3⟩
  |brk=>exact q3
  |ret v=>exact q3
 |false=>
  rw[if_neg uX];exact wpAny_execs_nil ⟨G,H2,I2,q2⟩
end
structure It where
 go:Nat->Hp->Prop
 yld:Nat->Hp->V->Hp->Prop
 stop:Nat->Hp->Prop
def nv (X:Cx)(af:List (Addr×Obj))(H:Hp)(b:Addr):Prop :=
 H b=none/\b≠X.env.locals/\b∉X.fs/\(b∈X.ex∨X.s₀.heap.objs.size<=b)/\(∀x c,X.env.cells.lookup x=some c->c≠b)/\∀p∈X.pn++af,p.1≠b
def Inv.fpOk (I:Inv X af σ H s)(hb:s.heap.objs.size<=b)(hn:H' b=none):nv X af H' b:=by
 refine⟨hn,Nat.ne_of_gt (vQ I.lt hb),I.nofs hb,.inr (vR I.sz hb),λx c e z=>?_,λp hp z=>?_⟩
 ·obtain⟨v,q⟩:=I.cell x c e;exact absurd (vQ q.lt (by rw[z];exact hb)) (Nat.lt_irrefl _)
 ·exact absurd (vQ (vX (I.pin p hp).1) (by rw[z];exact hb)) (Nat.lt_irrefl _)
structure Turn (P:Program)(w:World)(K:Frag)(tg:Expr)(J:It)(fp:List Addr)(it:Addr)(tn:Nat->Heap->Prop):Prop where
 mem:it∈fp
 obj:∀i h,tn i h->∀b∈fp,∃o,h.get? b=some o/\∀v,o.data≠.cell v
 keep:∀i h h',tn i h->(∀b∈fp,∀o,h.get? b=some o->h'.get? b=some o)->tn i h'
 item:∀(X:Cx),X.prog=P->X.w=w->X.K=K->X.calm=true->∀(i:Nat)(af:List (Addr×Obj))(s:Shared)(σ:St)(H:Hp)(E:Value->Shared->Prop),Inv X af σ H s->(∀b∈fp,nv X af H b)->tn i s.heap->J.go i H ->
  wpAny (model P w) X.A (pyNext (.ref it)) (λr s1=>∃u,r=some u /\
   wpAny (model P w) X.A (letOwnedTupleGo tg (.ref it) u) (λ_ s2=>∃x H',Inv X af σ H' s2/\bd x u/\J.yld i H x H'/\tn (i+1) s2.heap/\∀b∈fp,H' b=none) E s1) E s
 done:∀(X:Cx),X.prog=P->X.w=w->X.K=K->X.calm=true->∀(i:Nat)(af:List (Addr×Obj))(s:Shared)(σ:St)(H:Hp)(E:Value->Shared->Prop),Inv X af σ H s->(∀b∈fp,nv X af H b)->tn i s.heap->J.stop i H ->
  wpAny (model P w) X.A (pyNext (.ref it)) (λr s1=>r=none/\Inv X af σ H s1) E s
 self:∀(A:Around)(i:Nat)(s:Shared)(Q:Value->Shared->Prop)(E:Value->Shared->Prop),tn i s.heap->Q (.ref it) s->wpAny (model P w) A (pyIter (.ref it)) Q E s
abbrev TI:=St->Hp->(It->Hp->Prop)->Prop
def RG (X:Cx)(af:List (Addr×Obj))(σ:St)(tg:Expr)(R:It->Hp->Prop)(g:Value)(s2:Shared):Prop :=
 ∃(it:Addr)(fp:List Addr)(tn:Nat->Heap->Prop)(J:It)(H':Hp),g=.ref it/\Inv X af σ H' s2/\Turn X.prog X.w X.K tg J fp it tn/\tn 0 s2.heap/\(∀b∈fp,nv X af H' b)/\R J H'
def PI (X:Cx)(tg g:Expr)(G:TI):Prop :=
 ∀(af:List (Addr×Obj))(s:Shared)(σ:St)(H:Hp)(R:It->Hp->Prop),Inv X af σ H s->G σ H R ->
  wq X (eval g X.env) (λv s1=>wq X (pyIter v) (RG X af σ tg R) X.xe s1) X.xe s
def su (ho:s.heap.get? it=some o)(hc:o.cls=.type n)(hd:o.data=.fields vs)
    (hn:["enumerate","zip","dict_itemiterator","dict_reverseitemiterator","odict_iterator","itertools.zip_longest","itertools.pairwise"].contains n=false) (g:Q () s):wpAny M A (letOwnedTupleGo tg (.ref it) u) Q E s:=by
  unfold letOwnedTupleGo;cases tg<;>first
    |exact wY g
    | (cases u<;>first
        |exact wY g
        | (refine wX (wpAny_load ho ?_)
           rw[hc,hd]
           show wpAny M A (if(["enumerate","zip","dict_itemiterator","dict_reverseitemiterator","odict_iterator","itertools.zip_longest","itertools.pairwise"].contains n && vs[0]? == some (rawInt _))=true then _ else _) Q E s
           rw[if_neg (by intro h;rw[hn,Bool.false_and]at h;cases h)]
           exact wY g))
noncomputable def M2 (K:Frag)(a:Addr):It :=
 ⟨λi H=>∃xs x,gn K H a xs/\xs[i]? = some x,λi H x H'=>H'=H/\∀xs,gn K H a xs->xs[i]? = some x,λi H=>∃xs,gn K H a xs/\xs.length<=i⟩
noncomputable def RH (K:Frag)(a:Addr):It :=
 ⟨λi H=>∃xs x,ja K H a xs/\xs[i]? = some x,λi H x H'=>H'=H/\∀xs,ja K H a xs->xs[i]? = some x,λi H=>∃xs,ja K H a xs/\xs.length<=i⟩
noncomputable def OL (lo:Int)(n:Nat):It:=⟨λi _=>i<n,λi H x H'=>H'=H/\x=.int (lo+i),λi _=>n<=i⟩
def BN {P:Program}{w:World}{K:Frag}{tg:Expr}(a it:Addr):Turn P w K tg (M2 K a) [it] it (λi h=>h.IsListIter it a i) where
 mem:=by simp
 obj:=λi h st b hb=>by
  have e:b=it:=by simpa using hb
  subst e;obtain⟨o,e,c,d⟩:=st;exact⟨o,e,λv z=>by rw[d]at z;cases z⟩
 keep:=λi h h' st k=>st.at λo e=>k it (by simp) o e
 item:=by
  intro X G hw M hc i af s σ H E I hf st O;subst G hw M;obtain⟨xs,x,hq,hx⟩:=O;obtain⟨its,T,p,hz⟩:=I.list hq;obtain⟨u,hu,ru⟩:=T.get hx;obtain⟨f0,f1,f2,f3,f4,f5⟩:=hf it (by simp);refine wpAny_pyNext_list_item st p.isList (x:=u) (by simpa using hu) λh' g U=>?_;have I1:Inv X af σ H { s with heap:=h' }:=I.turned (t':=s.toks) (λb o hb e=>(U.2 b hb).trans e) f0 f1 f3 f4 f5;obtain⟨o,e,c,d⟩:=id g;exact⟨u,rfl,su (s:={ s with heap:=h' }) e c d (by decide) ⟨x,H,I1,ru,⟨rfl,λys hy=>by rw[I.list_inj hy hq];exact hx⟩,g,λb hb=>(hf b hb).1⟩⟩
 done:=by
  intro X G hw M hc i af s σ H E I hf st O;subst G hw M;obtain⟨xs,hq,hx⟩:=O;obtain⟨its,T,p,hz⟩:=I.list hq;obtain⟨f0,f1,f2,f3,f4,f5⟩:=hf it (by simp);have hl:=T.length;exact wpAny_pyNext_list_end (I.ok.hd hc) st p.isList (by simp;omega) λh' eb=>⟨rfl,I.turned (t':=s.toks) (λb o hb e=>eb b o hb e) f0 f1 f3 f4 f5⟩
 self:=λ_ _ _ _ _ st h=>wpAny_pyIter_listiter st h
def zd {P:Program}{w:World}{K:Frag}{tg:Expr}(a it:Addr):Turn P w K tg (RH K a) [it] it (λi h=>h.IsTupleIter it a i) where
 mem:=by simp
 obj:=λi h st b hb=>by
  have e:b=it:=by simpa using hb
  subst e;obtain⟨o,e,c,d⟩:=st;exact⟨o,e,λv z=>by rw[d]at z;cases z⟩
 keep:=λi h h' st k=>st.at λo e=>k it (by simp) o e
 item:=by
  intro X G hw M hc i af s σ H E I hf st O;subst G hw M;obtain⟨xs,x,hq,hx⟩:=O;obtain⟨its,T,p,hz⟩:=I.tuple hq;obtain⟨u,hu,ru⟩:=T.get hx;obtain⟨f0,f1,f2,f3,f4,f5⟩:=hf it (by simp);refine wpAny_pyNext_tuple_item st (show s.heap.IsTuple a its.toArray from p) (x:=u) (by simpa using hu) λh' g U=>?_;have I1:Inv X af σ H { s with heap:=h' }:=I.turned (t':=s.toks) (λb o hb e=>(U.2 b hb).trans e) f0 f1 f3 f4 f5;obtain⟨o,e,c,d⟩:=id g;exact⟨u,rfl,su (s:={ s with heap:=h' }) e c d (by decide) ⟨x,H,I1,ru,⟨rfl,λys hy=>by rw[I.tuple_inj hy hq];exact hx⟩,g,λb hb=>(hf b hb).1⟩⟩
 done:=by
  intro X G hw M hc i af s σ H E I hf st O;subst G hw M;obtain⟨xs,hq,hx⟩:=O;obtain⟨its,T,p,hz⟩:=I.tuple hq;obtain⟨f0,f1,f2,f3,f4,f5⟩:=hf it (by simp);have hl:=T.length;exact wpAny_pyNext_tuple_end (I.ok.hd hc) st (show s.heap.IsTuple a its.toArray from p) (by simp;omega) λh' eb=>⟨rfl,I.turned (t':=s.toks) (λb o hb e=>eb b o hb e) f0 f1 f3 f4 f5⟩
 self:=λ_ _ _ _ _ st h=>wpAny_pyIter_tupleiter st h
def ze {P:Program}{w:World}{K:Frag}{tg:Expr}(it:Addr)(lo:Int)(n:Nat):Turn P w K tg (OL lo n) [it] it (λi h=>IsRangeIter h it (lo+(i:Nat)*1) ((n:Int) - (i:Nat)) 1) where
 mem:=by simp
 obj:=λi h st b hb=>by
  have e:b=it:=by simpa using hb
  subst e;exact⟨_,st,λv z=>by
   have T:Data.fields _=Data.cell v:=z;cases T⟩
 keep:=λi h h' st k=>k it (by simp) _ st
 item:=by
  intro X G hw M hc i af s σ H E I hf st O;subst G hw M;obtain⟨f0,f1,f2,f3,f4,f5⟩:=hf it (by simp);have W:=Walks.range (prog:=X.prog) (w:=X.w) (I.ok.hd hc) it lo 1 n;refine W.item i s _ _ O st λv h' tk hv g U=>?_;obtain⟨t,rfl⟩:=hv;have I1:Inv X af σ H { s with heap:=h',toks:=tk }:=I.turned (λb o hb e=>U b o (by simpa using hb) e) f0 f1 f3 f4 f5;refine⟨_,rfl,su (s:={ s with heap:=h',toks:=tk }) (n:="range_iterator") g rfl rfl (by decide) ⟨.int (lo+i),H,I1,⟨t,?_⟩,⟨rfl,rfl⟩,g,λb hb=>(hf b hb).1⟩⟩;rw[Int.mul_one]
 done:=by
  intro X G hw M hc i af s σ H E I hf st O;subst G hw M;obtain⟨f0,f1,f2,f3,f4,f5⟩:=hf it (by simp);exact wpAny_pyNext_range_end (I.ok.hd hc) st (by have:n<=i:=O;omega) λh' eb=>⟨rfl,I.turned (t':=s.toks) (λb o hb e=>eb b o hb e) f0 f1 f3 f4 f5⟩
 self:=λ_ _ _ _ _ st h=>wpAny_pyIter_rangeiter st h
section
variable {X:Cx}{tg:Expr}
def M3 (K:Frag)(tl:TE):TI:=λσ H R=>tl σ H λx g=>∃a,x=.ref a/\(∃xs,gn K g a xs)/\R (M2 K a) g
def P7 (K:Frag)(tl:TE):TI:=λσ H R=>tl σ H λx g=>∃a,x=.ref a/\(∃xs,ja K g a xs)/\R (RH K a) g
def Gn {l:Expr}{tl:TE}(hl:PE X l tl):PI X tg l (M3 X.K tl):=by
 intro af s σ H R I h;refine c7 (hl af s σ H _ I h) λv s1 ⟨x,G,g,M,O⟩=>?_;obtain⟨a,e,⟨xs,hq⟩,q⟩:=O;subst e;cases M
 obtain⟨its,T,p,hz⟩:=g.list hq;refine wpAny_pyIter_list p.isList ?_;refine⟨s1.heap.objs.size,[s1.heap.objs.size],_,_,G,rfl,g.kept (t':=s1.toks) λb o e=>vZ _ e,BN a _,⟨_,vY _ rfl,rfl,rfl⟩,λb hb=>?_,q⟩;have e:b=s1.heap.objs.size:=by simpa using hb
 subst e;exact g.fpOk (vT _) (g.hok.fresh (vT _))
def Kg {l:Expr}{tl:TE}(hl:PE X l tl):PI X tg l (P7 X.K tl):=by
 intro af s σ H R I h;refine c7 (hl af s σ H _ I h) λv s1 ⟨x,G,g,M,O⟩=>?_;obtain⟨a,e,⟨xs,hq⟩,q⟩:=O;subst e;cases M
 obtain⟨its,T,p,hz⟩:=g.tuple hq;refine wpAny_pyIter_tuple (show s1.heap.IsTuple a its.toArray from p) ?_;refine⟨s1.heap.objs.size,[s1.heap.objs.size],_,_,G,rfl,g.kept (t':=s1.toks) λb o e=>vZ _ e,zd a _,⟨_,vY _ rfl,rfl,rfl⟩,λb hb=>?_,q⟩;have e:b=s1.heap.objs.size:=by simpa using hb
 subst e;exact g.fpOk (vT _) (g.hok.fresh (vT _))
def Dq {af:List (Addr×Obj)}{σ:St}{H:Hp}{s:Shared}{R:It->Hp->Prop}{E:Value->Shared->Prop}{lo hi:Int}{t u v:Tok}{tk:Nat}(I:Inv X af σ H s)(h1 : -(2 ^ 62)<=lo)(h2:lo<2 ^ 62)(h3 : -(2 ^ 62)<=hi)(h4:hi<2 ^ 62)
  (q:R (OL lo (hi - lo).toNat) H):wq X (pyIter (.ref s.heap.objs.size)) (RG X af σ tg R) E { s with heap:=s.heap.push { cls:=.type "range",data:=.fields #[.int lo t,.int hi u,.int 1 v] },toks:=tk }:=by
 refine wpAny_pyIter_range (IsRange.new ..) (small_one h1 h2 h3 h4) ?_;have g:Inv X af σ H { s with heap:=s.heap.push { cls:=.type "range",data:=.fields #[.int lo t,.int hi u,.int 1 v] },toks:=tk }:=I.kept λb o e=>vZ _ e;refine⟨(s.heap.push { cls:=.type "range",data:=.fields #[.int lo t,.int hi u,.int 1 v] }).objs.size,[(s.heap.push { cls:=.type "range",data:=.fields #[.int lo t,.int hi u,.int 1 v] }).objs.size],_,_,H,rfl,
  g.kept (t':=tk) λb o e=>vZ _ e,ze _ lo (hi - lo).toNat,?_,λb hb=>?_,q⟩
 ·have G:lo+((0:Nat):Int)*1=lo:=by simp
  have e2:(((hi - lo).toNat:Nat):Int) - ((0:Nat):Int)=Builtin.Range.rangeSize lo hi 1:=by rw[rangeSize_one];split<;>omega
  show IsRangeIter _ _ (lo+((0:Nat):Int)*1) ((((hi - lo).toNat:Nat):Int) - ((0:Nat):Int)) 1;rw[G,e2];exact vY _ rfl
 ·have e:b=(s.heap.push { cls:=.type "range",data:=.fields #[.int lo t,.int hi u,.int 1 v] }).objs.size:=by simpa using hb
  subst e;exact g.fpOk (vT _) (g.hok.fresh (vT _))
def M4 (g:TA):TI:=λσ H R=>g σ H λvs G=>∃j:Int,vs=[.int j]/\-(2 ^ 62)<=j/\j<2 ^ 62/\R (OL 0 j.toNat) G
def BO {a:Expr}{M:TA}{p g:Pos}(O:Gl X "range")(hm:X.mg "range" = none)(ha:PA X [a] M)(hs:starEach [a] X.env=[(false,eval a X.env)]:=by rfl):PI X tg (.Call (.Name "range" p) [a] [] g) (M4 M):=by
 intro af s σ H R I h;refine Call_ (jv I O hm boot_range (PyProof.Rows.callWith_type1 (c7 (ha g af s σ H _ I h) λus s1 ⟨vs,H1,T,U,G⟩=>?_) hs rfl));obtain⟨j,e,G,q2,q⟩:=G;subst e;cases U with
 |cons r rr=>
  cases rr
  obtain⟨t,rfl⟩:=r;exact call_range_1 (Dq T (by omega) (by omega) G q2 (by simpa using q))
def Kh (T:TI)(g:TG)(tb:TS):TS:=λD σ H=>T σ H λJ U=>∃W:Nat->Nat->St->Hp->Prop,(∃m,W 0 m σ U)/\∀i m σ H,W i m σ H ->
 (J.stop i H/\D.nx σ H)∨(J.go i H/\∃N:St->Hp->Prop,(∀G H',N G H'->∃O,O<m/\W (i+1) O G H')/\∀x H',J.yld i H x H'->g x σ H' λM H2=>tb { D with nx:=N,ct:=N,bk:=D.nx } M H2)
def nw (fp:List Addr)(h:Heap):List (Addr×Obj):=fp.filterMap λb=>(h.get? b).map λo=>(b,o)
def jw {fp:List Addr}{h:Heap}{b:Addr}{o:Obj}(hb:b∈fp)(e:h.get? b=some o):(b,o)∈nw fp h:=List.mem_filterMap.mpr ⟨b,hb,by rw[e];rfl⟩
def BP (hp:p∈nw fp h):p.1∈fp/\h.get? p.1=some p.2:=by
 obtain⟨b,hb,e⟩:=List.mem_filterMap.mp hp;cases q:h.get? b with
 |none=>rw[q]at e;cases e
 |some o=>
  rw[q]at e;have g:(b,o)=p:=vK e;subst g;exact⟨hb,q⟩
def Inv.pinned (I:Inv X af σ H s)(hf:∀b∈fp,nv X af H b)(ho:∀b∈fp,∃o,s.heap.get? b=some o/\∀v,o.data≠.cell v):Inv X (af++nw fp s.heap) σ H s :=
 I.pins_of λp hp=>(List.mem_append.mp hp).elim (λz=>I.pin p (mY _ z)) λz=>by
  obtain⟨hb,e⟩:=BP z;obtain⟨f0,f1,f2,_⟩:=hf p.1 hb;obtain⟨o,g,d⟩:=ho p.1 hb;rw[e]at g;cases g;exact⟨e,f0,f1,f2,d⟩
def Inv.unpinned (I:Inv X (af++pl) σ H s):Inv X af σ H s:=I.pins_of λp hp=>I.pin p (mY _ (List.mem_append_left _ hp))
def Dr {M:Expr}{body:List Stmt}{wi:TI}{g:TG}{tb:TS}{pos:Pos}(hp:PassesOwn (model X.prog X.w) X.A X.env X.xe)(hc:X.calm=true)(hi:PI X tg M wi)(hg:PG X tg g)(hb:sr X body tb)
  (hs:∀x,foldedSetIterable M X.env x=pure x:=by intro _;rfl):PS X (.For tg M body [] pos) (Kh wi g tb):=by
 intro af s σ H D I h;refine wpAny_For (c7 (hi af s σ H _ I h) λv s1 h1=>c7 h1 λS6 s2 h2=>?_) hs;obtain⟨it,fp,tn,J,H2,e,I2,T,IB,f2,W,⟨m0,w0⟩,Q5⟩:=h2;subst e
 -- what stays true of the iterator's objects through the loop
 have O:∀ {H':Hp},(∀b∈fp,H' b=none)->∀b∈fp,nv X af H' b:=λhn b hb=>⟨hn b hb,(f2 b hb).2⟩;refine codeAny_forLoop_any (λn s'=>∃i U H',Inv X af U H' s'/\tn i s'.heap/\(∀b∈fp,H' b=none)/\W i n U H') ?_ m0 ⟨0,σ,H2,I2,IB,λb hb=>(f2 b hb).1,w0⟩;rintro n s3 ⟨i,σ3,H3,I3,S7,S8,w3⟩;rcases Q5 i n σ3 H3 w3 with⟨stop,qn⟩|⟨go,N,hN,step⟩
 ·refine wpAny_passesOwn hp (c7 (T.done X rfl rfl rfl hc i af s3 σ3 H3 X.xe I3 (O S8) S7 stop) λr s4 ⟨hr,I4⟩=>?_);subst hr;exact wpAny_execs_nil ⟨σ3,H3,I4,qn⟩
 ·refine wpAny_passesOwn hp (c7 (T.item X rfl rfl rfl hc i af s3 σ3 H3 X.xe I3 (O S8) S7 go) λr s4 ⟨u,hr,h4⟩=>?_);subst hr;refine wpAny_passesOwn hp (c7 h4 λ_ s5 ⟨x,H5,I5,r5,y5,Q6,Q7⟩=>?_);have UQ:=I5.pinned (O Q7) (T.obj _ _ Q6);refine wpAny_passesOwn hp (c7 (hg _ s5 σ3 H5 x u _ UQ r5 (step x H5 y5)) λ_ s6 ⟨σ6,H6,I6,q6⟩=>?_);refine wpAny_passesOwn hp (c7 (hb _ s6 σ6 H6 _ I6 q6) λf s7 q7=>?_);have again:∀ {G:St}{H7:Hp},Inv X (af++nw fp s5.heap) G H7 s7->N G H7->∃m,m<n/\∃i U H',Inv X af U H' s7/\tn i s7.heap/\(∀b∈fp,H' b=none)/\W i m U H':=λ{G H7} I7 n7=>by
   obtain⟨m',hm,w7⟩:=hN G H7 n7;refine⟨m',hm,i+1,G,H7,I7.unpinned,T.keep _ _ _ Q6 λb hb o e=>(I7.pin (b,o) (mY _ (mY _ (jw hb e)))).1,λb hb=>?_,w7⟩;obtain⟨o,e,d⟩:=T.obj _ _ Q6 b hb;exact(I7.pin (b,o) (mY _ (mY _ (jw hb e)))).2.1
  cases f with
  |next=>obtain⟨G,H7,I7,n7⟩:=q7;exact again I7 n7
  |cont=>obtain⟨G,H7,I7,n7⟩:=q7;exact again I7 n7
  |brk=>obtain⟨G,H7,I7,q7⟩:=q7;exact⟨G,H7,I7.unpinned,q7⟩
  |ret v=>obtain⟨x7,G,H7,I7,r7,q7⟩:=q7;exact⟨x7,G,H7,I7.unpinned,r7,q7⟩
end
abbrev R2:=V->V->Hp->VK->Prop
def dP (X:Cx)(f:Value->Value->Sem Value)(r:R2):Prop :=
 ∀(af:List (Addr×Obj))(s:Shared)(σ:St)(H:Hp)(x y:V)(v u:Value)(Q:VK),Inv X af σ H s->bd x v->bd y u->r x y H Q ->
  wq X (f v u) (EP X af σ Q) X.xe s
def M5 (X:Cx)(f:Value->Sem Value)(r:V->Hp->VK->Prop):Prop :=
 ∀(af:List (Addr×Obj))(s:Shared)(σ:St)(H:Hp)(x:V)(v:Value)(Q:VK),Inv X af σ H s->bd x v->r x H Q ->
  wq X (f v) (EP X af σ Q) X.xe s
def cq (X:Cx)(f:Value)(r:List V->Hp->VK->Prop):Prop :=
 ∀(af:List (Addr×Obj))(s:Shared)(σ:St)(H:Hp)(xs:List V)(us:List Value)(Q:VK),Inv X af σ H s->be xs us->r xs H Q ->
  wq X (call f us) (EP X af σ Q) X.xe s
def OM (r:R2)(g tb:TE):TE:=λσ H Q=>g σ H λx G=>tb σ G λy H2=>r x y H2 Q
def TY (r:V->Hp->VK->Prop)(g:TE):TE:=λσ H Q=>g σ H λx G=>r x G Q
def rI (C:Int->Int->Prop)(g:Int->Int->V):R2:=λx y H Q=>∃i j,x=.int i/\y=.int j/\C i j/\Q (g i j) H
def FV (g:Int->Int->V):R2:=λx y H Q=>∃i j,x=.int i/\y=.int j/\Q (g i j) H
def rU (g:Int->V):V->Hp->VK->Prop:=λx H Q=>∃i,x=.int i/\Q (g i) H
section
variable {X:Cx}{a b c:Expr}{ta tb tc:TE}{pos:Pos}
def Ki (ha:PE X a ta)(hb:PE X b tb){af:List (Addr×Obj)}{s:Shared}{σ:St}{H:Hp}{R:V->V->Hp->Prop}(I:Inv X af σ H s)
  (h:ta σ H λx M=>tb σ M λy H2=>R x y H2) {Q:Value->Shared->Prop}{f:Value->Value->Sem Value}
  (hf:∀v u s2 x y H2,Inv X af σ H2 s2->bd x v->bd y u->R x y H2->wq X (f v u) Q X.xe s2):
  wq X (eval a X.env) (λv g=>wq X (eval b X.env) (λu G=>wq X (f v u) Q X.xe G) X.xe g) X.xe s:=by
 refine c7 (ha af s σ H _ I h) λv s1 ⟨x,M,O,T,U⟩=>?_;refine c7 (hb af s1 σ M _ O U) λu s2 ⟨y,H2,I2,r2,q2⟩=>?_;exact hf v u s2 x y H2 I2 T r2 q2
def IQ {op:Operator}{r:R2}(ho:dP X (binaryOp op) r)(ha:PE X a ta)(hb:PE X b tb):PE X (.BinOp a op b pos) (OM r ta tb):=by
 intro af s σ H Q I h;exact wpAny_BinOp (Ki ha hb I h λv u s2 x y H2 g G M q=>ho af s2 σ H2 x y v u Q g G M q)
def M6 {op:UnaryOp}{r:V->Hp->VK->Prop}(ho:M5 X (unaryOp op) r)(ha:PE X a ta):PE X (.UnaryOp op a pos) (TY r ta):=by
 intro af s σ H Q I h;exact UnaryOp_ (c7 (ha af s σ H _ I h) λv s1 ⟨x,g,G,M,O⟩=>ho af s1 σ g x v Q G M O)
def P8 {f:Value->Value->Sem Value}{C:Int->Int->Prop}{g:Int->Int->Int}
  (rule:∀(i j:Int)(t u:Tok)(s:Shared)(Q:Value->Shared->Prop)(E:Value->Shared->Prop),C i j->Q (.int (g i j) s.toks) { s with toks:=s.toks+1 }->wq X (f (.int i t) (.int j u)) Q E s):
  dP X f (rI C λi j=>.int (g i j)):=by
 intro af s σ H x y v u Q I G M h;obtain⟨i,j,rfl,rfl,hc,q⟩:=h;obtain⟨t,rfl⟩:=G;obtain⟨t',rfl⟩:=M;exact rule i j t t' s _ _ hc ⟨.int (g i j),H,I.tok _,⟨_,rfl⟩,q⟩
def Kj {f:Value->Value->Sem Value}{g:Int->Int->Int}
  (rule:∀(i j:Int)(t u:Tok)(s:Shared)(Q:Value->Shared->Prop)(E:Value->Shared->Prop),Q (.int (g i j) s.toks) { s with toks:=s.toks+1 }->wq X (f (.int i t) (.int j u)) Q E s):
  dP X f (FV λi j=>.int (g i j)):=by
 intro af s σ H x y v u Q I G M h;obtain⟨i,j,rfl,rfl,q⟩:=h;obtain⟨t,rfl⟩:=G;obtain⟨t',rfl⟩:=M;exact rule i j t t' s _ _ ⟨.int (g i j),H,I.tok _,⟨_,rfl⟩,q⟩
def Go {f:Value->Value->Sem Value}{g:Int->Int->Bool}
  (rule:∀(i j:Int)(t u:Tok)(s:Shared)(Q:Value->Shared->Prop)(E:Value->Shared->Prop),Q (.bool (g i j)) s->wq X (f (.int i t) (.int j u)) Q E s):
  dP X f (FV λi j=>.bl (g i j)):=by
 intro af s σ H x y v u Q I G M h;obtain⟨i,j,rfl,rfl,q⟩:=h;obtain⟨t,rfl⟩:=G;obtain⟨t',rfl⟩:=M;exact rule i j t t' s _ _ ⟨.bl (g i j),H,I,rfl,q⟩
def M7 (i j:Int):Prop:=0<j/\j<1073741824
def Gp (i j:Int):Prop:=(-(2 ^ 64)<i/\i<2 ^ 64)∨(-(2 ^ 64)<j/\j<2 ^ 64)
def Gp.ok (h:Gp i j):IntMulOk i j:=by
 rcases h with⟨h1,h2⟩|⟨h1,h2⟩
 ·exact .of_left (intBits_le_64 h1 h2)
 ·exact .of_right (intBits_le_64 h1 h2)
def Kk:dP X (binaryOp .Add) (FV λi j=>.int (i+j)):=Kj λ_ _ _ _ _ _ _ q=>add_int q
def Kl:dP X (binaryOp .Sub) (FV λi j=>.int (i - j)):=Kj λ_ _ _ _ _ _ _ q=>sub_int q
def Km:dP X (binaryOp .Mult) (rI Gp λi j=>.int (i*j)):=P8 λ_ _ _ _ _ _ _ hc q=>mul_int q hc.ok
def Gq:dP X (binaryOp .FloorDiv) (rI M7 λi j=>.int (i / j)):=P8 λi j _ _ _ _ _ hc q=>by
 have h1:(0:Int)<j:=hc.1;have h2:j<1073741824:=hc.2;exact floordiv_int (by omega) (by rw[Int.fdiv_eq_ediv_of_nonneg i (by omega)];exact q) (.inl (PyProof.noPylong_small (by omega)))
def Kn:dP X (binaryOp .Mod) (rI (λ_ j=>0<j) λi j=>.int (i % j)):=P8 λi j _ _ _ _ _ hc q=>by
 have h1:(0:Int)<j:=hc;exact mod_int' (by omega) (by rw[Int.fmod_eq_emod_of_nonneg i (by omega)];exact q)
def Ko:dP X (binaryOp .BitAnd) (FV λi j=>.int (Builtin.bitAnd i j)):=Kj λ_ _ _ _ _ _ _ q=>and_int q
def TZ {f:Value->Sem Value}{g:Int->Int}
  (rule:∀(i:Int)(t:Tok)(s:Shared)(Q:Value->Shared->Prop)(E:Value->Shared->Prop),Q (.int (g i) s.toks) { s with toks:=s.toks+1 }->wq X (f (.int i t)) Q E s):
  M5 X f (rU λi=>.int (g i)):=by
 intro af s σ H x v Q I G h;obtain⟨i,rfl,q⟩:=h;obtain⟨t,rfl⟩:=G;exact rule i t s _ _ ⟨.int (g i),H,I.tok _,⟨_,rfl⟩,q⟩
def Kp:M5 X (unaryOp .USub) (rU λi=>.int (-i)):=TZ λ_ _ _ _ _ q=>neg_int q
def BQ:dP X (binaryOp .Add) (λx y H Q=>∃i k,x=.int i/\y=.bl k/\Q (.int (i+b2i k)) H):=by
 intro af s σ H x y v u Q I g G h;obtain⟨i,k,rfl,rfl,q⟩:=h;obtain⟨t,rfl⟩:=g;cases G
 exact add_int_bool ⟨.int (i+b2i k),H,I.tok _,⟨_,rfl⟩,q⟩
end
section
variable {X:Cx}{a b c:Expr}{ta tb tc:TE}{pos:Pos}
def M8:dP X (compareOp .Lt) (FV λi j=>.bl (decide (i<j))):=Go λ_ _ _ _ _ _ _ q=>lt_int q
def M9:dP X (compareOp .LtE) (FV λi j=>.bl (decide (i<=j))):=Go λ_ _ _ _ _ _ _ q=>le_int q
def MA:dP X (compareOp .Gt) (FV λi j=>.bl (decide (j<i))):=Go λ_ _ _ _ _ _ _ q=>gt_int q
def MB:dP X (compareOp .GtE) (FV λi j=>.bl (decide (j<=i))):=Go λ_ _ _ _ _ _ _ q=>ge_int q
def dP.or (h:dP X f r)(h':dP X f r'):dP X f (λx y H Q=>r x y H Q∨r' x y H Q):=by
 intro af s σ H x y v u Q I g G q;rcases q with q|q
 ·exact h af s σ H x y v u Q I g G q
 ·exact h' af s σ H x y v u Q I g G q
def P9 (b:Expr)(h:op≠.In:=by decide)(h2:op≠.NotIn:=by decide):behindInMarks op b=false:=by
 have g:(op == CmpOp.In)=false:=by cases op<;>first|rfl|exact absurd rfl h
 have e2:(op == CmpOp.NotIn)=false:=by cases op<;>first|rfl|exact absurd rfl h2
 cases b<;>simp[behindInMarks,g,e2]
def Gr (ho:dP X (compareOp op) r)(ha:PE X a ta)(hb:PE X b tb)(hm:behindInMarks op b=false):PE X (.Compare a [op] [b] pos) (OM r ta tb):=by
 intro af s σ H Q I h;exact wpAny_Compare1 (Ki ha hb I h λv u s2 x y H2 g G M q=>ho af s2 σ H2 x y v u Q g G M q) hm
def MC (t:TE):TT:=λσ H Q=>t σ H λx H'=>∃k,x=.bl k/\Q k H'
def Gs {op:CmpOp}{r:R2}(ho:dP X (compareOp op) r)(ha:PE X a ta)(hb:PE X b tb)(hm:behindInMarks op b=false):PT X (.Compare a [op] [b] pos) (MC (OM r ta tb)):=by
 intro af s σ H Q I h;refine wpAny_isTrue_Compare1 (c7 (ha af s σ H _ I h) λv s1 ⟨x,g,G,M,O⟩=>c7 (hb af s1 σ g _ G O) λu s2 ⟨y,H2,T,U,q2⟩=>
  c7 (ho af s2 σ H2 x y v u _ T M U q2) λc s3 ⟨z,H3,I3,r3,k,e,q3⟩=>?_) hm
 subst e;cases r3
 exact wpAny_truthy_bool ⟨H3,I3,q3⟩
def Ds (r G:R2)(ta tb tc:TE):TE:=λσ H Q=>ta σ H λx M=>tb σ M λy H2=>r x y H2 λz g=>∃k,z=.bl k /\
 (if k=true then tc σ g λO T=>G y O T Q else Q (.bl false) g)
def Dt {op g:CmpOp}{r M:R2}(ho:dP X (compareOp op) r)(G:dP X (compareOp g) M)(ha:PE X a ta)(hb:PE X b tb)(hc:PE X c tc)
  (hm:lastMarks [op,g] [b,c]=false:=by with_unfolding_all rfl):PE X (.Compare a [op,g] [b,c] pos) (Ds r M ta tb tc):=by
 intro af s σ H Q I h;refine Compare_chain (c7 (ha af s σ H _ I h) λv s1 ⟨x,H1,I1,r1,q1⟩=>chain_link (c7 (hb af s1 σ H1 _ I1 q1) λu s2 ⟨y,H2,I2,O,q2⟩=>
  c7 (ho af s2 σ H2 x y v u _ I2 r1 O q2) λd s3 ⟨z,T,U,r3,k,e,q3⟩=>?_)) hm
 subst e;cases r3
 refine wpAny_truthy_bool ?_;cases k with
 |false=>exact ite_ff ⟨.bl false,T,U,rfl,q3⟩
 |true=>exact ite_tt (chain_last (c7 (hc af s3 σ T _ U q3) λw' s4 ⟨z',H4,I4,r4,q4⟩=>G af s4 σ H4 y z' u w' Q I4 O r4 q4))
def ny:(sizeLine:Nat)<2 ^ 63:=by rw[sizeLine_eq];decide
def zf:dP X (binaryOp .Add) (λx y H Q=>∃i j,x=.str i/\y=.str j/\i.length+j.length<=sizeLine/\Q (.str (i++j)) H):=by
 intro af s σ H x y v u Q I g G h;obtain⟨i,j,rfl,rfl,hz,q⟩:=h;obtain⟨t,rfl⟩:=g;obtain⟨t',rfl⟩:=G;exact add_str (λt' tk=>⟨.str (i++j),H,I.tok _,⟨_,rfl⟩,q⟩) hz
def hG (r:be [x] us):∃u,us=[u]/\bd x u:=by
 cases r with
 |cons g G=>cases G;exact⟨_,rfl,g⟩
def IS (r:be [x,y] us):∃u g,us=[u,g]/\bd x u/\bd y g:=by
 cases r with
 |cons G M=>
  cases M with
  |cons O T=>cases T;exact⟨_,_,rfl,G,O⟩
def BR (hc:X.calm=true):cq X (.builtin "max") (λxs H Q=>∃i j,xs=[.int i,.int j]/\Q (.int (if j > i then j else i)) H):=by
 intro af s σ H xs us Q I r h;obtain⟨i,j,rfl,q⟩:=h;obtain⟨u,g,rfl,⟨t,rfl⟩,⟨t',rfl⟩⟩:=IS r;refine max_two_ints (I.ok.hd hc) λh' tk k=>⟨_,H,I.kept k,?_,q⟩;by_cases hj:j > i
 ·rw[if_pos hj,if_pos hj];exact⟨_,rfl⟩
 ·rw[if_neg hj,if_neg hj];exact⟨_,rfl⟩
def BS (hc:X.calm=true):cq X (.builtin "min") (λxs H Q=>∃i j,xs=[.int i,.int j]/\Q (.int (if j<i then j else i)) H):=by
 intro af s σ H xs us Q I r h;obtain⟨i,j,rfl,q⟩:=h;obtain⟨u,g,rfl,⟨t,rfl⟩,⟨t',rfl⟩⟩:=IS r;refine min_two_ints (I.ok.hd hc) λh' tk k=>⟨_,H,I.kept k,?_,q⟩;by_cases hj:j<i
 ·rw[if_pos hj,if_pos hj];exact⟨_,rfl⟩
 ·rw[if_neg hj,if_neg hj];exact⟨_,rfl⟩
def BU:cq X (.type "int") (λxs H Q=>(∃i,xs=[.int i]/\Q (.int i) H)∨∃k,xs=[.bl k]/\Q (.int (if k then 1 else 0)) H):=by
 intro af s σ H xs us Q I r h;rcases h with⟨i,rfl,q⟩|⟨k,rfl,q⟩
 ·obtain⟨u,rfl,t,rfl⟩:=hG r;exact call_int_int ⟨.int i,H,I,⟨_,rfl⟩,q⟩
 ·obtain⟨u,rfl,g⟩:=hG r;cases g
  exact call_int_bool ⟨.int (if k then 1 else 0),H,I.tok _,⟨_,rfl⟩,q⟩
end
structure IC (h:Heap)(x dx C:Addr)(mA:Str->Option Value):Prop where
 obj:h.get? x=some (PySem.W.instObj C dx)
 ns:h.Ns1 dx mA
 ne:dx≠x
def BV {h:Heap}{dx:Addr}{mA:Str->Option Value}(n:h.Ns1 dx mA):∃od,h.get? dx=some od/\∀name,PySem.W.lookIn name od=some (mA name):=by
 obtain⟨o,es,M,ho,hd,hk,_,hm⟩:=n;refine⟨o,ho,λname=>?_⟩;have e:=hm name;unfold nsFind findBy at e;rw[←Array.find?_toList]at e;unfold PySem.W.lookIn;rw[hd];dsimp only;split
 ·rename_i y q;rw[q]at e;exact congrArg some e
 ·rename_i q;rw[q]at e;have a:es.toList.any (·.refKey)=false:=by
   rw[List.any_eq_false];intro y hy;obtain⟨z,t,g⟩:=hk y (Array.mem_toList_iff.mp hy);simp[DictEntry.refKey,g]
  have G:¬es.toList.any (·.refKey)=true:=by rw[a];exact uX
  rw[if_neg G];exact congrArg some e
def IC.look (I:IC h x dx C mA):∃od,PySem.W.InstAt h x (PySem.W.instObj C dx) C (some od)/\∀name,PySem.W.lookIn name od=some (mA name) :=
 let ⟨od,ho,hl⟩:=BV I.ns
 ⟨od,⟨I.obj,rfl,rfl,ho⟩,hl⟩
section
variable {prog:Program}{w:World}{A:Around}{E:Value->Shared->Prop}{s:Shared}{K:Frag}{x dx C f:Addr}{mA:Str->Option Value}{name:Str}{v:Value}
def Du (X:K.In s.heap)(I:IC s.heap x dx C mA)(g:PySem.W.plainGet K C name=true)
  (hf:PySem.W.findIn K (.ref C) name=some (some (.ref f))) (G:PySem.W.isFn K (.ref f)=true) (hv:mA name=none) (h:Q (.ref f,[.ref x]) s):
  wpAny (model prog w) A (getMethod (.ref x) name pl) Q E s:=by
 obtain⟨od,J,hl⟩:=I.look;exact PySem.W.method_fn X J (PySem.W.plainGet_of g).1 (PySem.W.plainGet_of g).2 hf (beq_iff_eq.mp G) (by show(PySem.W.lookIn name od).map (·.isSome)=some false;rw[hl,hv];rfl) h
def MD (X:K.In s.heap)(hm:PySem.W.makesIn K C=true)
  (hi:PySem.W.findIn K (.ref C) "__init__" = some (some (.ref f))) (hf:PySem.W.typeIn K (.ref f)=some (.type "function"))
  (h:codeAny (model prog w) (A.under (.builtin "type.__call__" ⟨.ref C::vs,kw⟩)) (.call (.ref f) ⟨.ref (s.heap.objs.size+1)::vs,kw⟩) (PySem.W.InitBack (s.heap.objs.size+1) R)
   { s with heap:=(s.heap.push PySem.W.emptyDict).push (PySem.W.instObj C s.heap.objs.size) }):
  codeAny (model prog w) A (.call (.ref C) ⟨vs,kw⟩) R s:=by
 obtain⟨hh,g,d,t,os⟩:=s;exact PySem.W.make_core (PySem.W.makes_of X hm) (PySem.W.looks_findIn X hi) (λself=>PySem.W.bind_fn X self hf) (.inl rfl) h
end
def ln.some_of (r:ln (some v) o):∃u,o=some u/\bd v u:=by
 cases o with
 |none=>exact(show False from r).elim
 |some u=>exact⟨u,rfl,r⟩
def ln.none_of (r:ln none o):o=none:=by
 cases o with
 |none=>rfl
 |some u=>exact(show False from r).elim
section
variable {P:Program}{w:World}{H H':Hp}{h h':Heap}{a C dx:Addr}{fs UN:List (Str×V)}
def Gu (hok:lq P w H h)(e:H a=some (.ins C dx fs)):∃mA,IC h a dx C mA/\(∀f,ln (fs.lookup f) (mA f))/\PySem.Within mA (fs.map (·.1))/\fs.length<=1000/\H dx=some (.own a):=by
 obtain⟨d,z,ne,ob,mA,n,r,q⟩:=(show cw P w H h a (.ins C dx fs)from hok a _ e);exact⟨mA,⟨ob,n,ne⟩,r,q,z,d⟩
end
structure Cls (K:Frag)(C:Addr):Prop where
 pg:PySem.W.plainGet K C Str.empty=true
 hd:PySem.W.hasDictIn K C=true
 po:PySem.W.plainOver K C=true
 sa:PySem.W.findIn K (.ref C) "__setattr__" = some (some (.builtin "object.__setattr__"))
def Cls.get {K:Frag}{C:Addr}(c:Cls K C)(f:Str):PySem.W.plainGet K C f=true:=c.pg
def Kq (K:Frag)(C:Addr)(f:Str):Prop:=PySem.W.findIn K (.ref C) f=some none
structure Meth (K:Frag)(C:Addr)(m:Str)(f:Addr):Prop where
 at_:PySem.W.findIn K (.ref C) m=some (some (.ref f))
 fn:PySem.W.isFn K (.ref f)=true
 kp:PySem.W.keepIn K (.ref f)=true
section
variable {X:Cx}{af:List (Addr×Obj)}{σ:St}{H:Hp}{s:Shared}{a C dx:Addr}{fs:List (Str×V)}{f:Str}{v:V}{A:Around}{E:Value->Shared->Prop}
def zg {m:Str}{g:Addr}{pl:Sem Bool}{Q:Value×List Value->Shared->Prop}(I:Inv X af σ H s)(e:H a=some (.ins C dx fs))(c:Cls X.K C)(k:Meth X.K C m g)(l:fs.lookup m=none)
  (h:Q (.ref g,[.ref a]) s):wpAny (model X.prog X.w) A (getMethod (.ref a) m pl) Q E s:=by
 obtain⟨mA,O,r,_,_,_⟩:=Gu I.hok e;have hn:mA m=none:=ln.none_of (by rw[←l];exact r m);exact Du I.kIn O (c.get m) k.at_ k.fn hn h
def Inv.made (I:Inv X af σ H s):Inv X af σ (upd (upd H s.heap.objs.size (.own (s.heap.objs.size+1))) (s.heap.objs.size+1) (.ins C s.heap.objs.size []))
  { s with heap:=(s.heap.push PySem.W.emptyDict).push (PySem.W.instObj C s.heap.objs.size) }:=by
 have g:(s.heap.push PySem.W.emptyDict).get? s.heap.objs.size=some PySem.W.emptyDict:=vY s.heap rfl;have e2:((s.heap.push PySem.W.emptyDict).push (PySem.W.instObj C s.heap.objs.size)).get? (s.heap.objs.size+1)=some (PySem.W.instObj C s.heap.objs.size):=by
  have:=vY (s.heap.push PySem.W.emptyDict) (o:=PySem.W.instObj C s.heap.objs.size) rfl;rwa [Heap.size_push]at this
 have G:(s.heap.push PySem.W.emptyDict).Ns s.heap.objs.size (λ_=>none):=⟨PySem.W.emptyDict,#[],_,g,rfl,(λe he=>absurd he (by simp)),λ_=>rfl⟩;have M:=I.laid (a:=s.heap.objs.size) (o:=.own (s.heap.objs.size+1)) (h':=s.heap.push PySem.W.emptyDict) (t':=s.toks) (λb u q=>vZ _ q) (vT _) ⟨_,g⟩;refine M.laid (a:=s.heap.objs.size+1) (o:=.ins C s.heap.objs.size []) (t':=s.toks) (λb u q=>vZ _ q) (Nat.le_of_eq (Heap.size_push _ _)) ?_;have ne:s.heap.objs.size≠s.heap.objs.size+1:=vS (Nat.lt_succ_self _);refine⟨by rw[aM ne,aH],uN _,ne,e2,λ_=>none,(Heap.Ns1.of_empty G).at λo q=>vZ _ q,λ_=>True.intro,λy hy=>absurd rfl hy⟩
end
def Ua (K:Frag)(G:TE)(f:Str):TE:=λσ H Q=>G σ H λx g=>∃a C dx fs v,x=.ref a/\g a=some (.ins C dx fs)/\Cls K C/\Kq K C f/\fs.lookup f=some v/\Q v g
section
variable {X:Cx}{o e value:Expr}{f:Str}{pos FN L8:Pos}{ta tv:TE}
def IT {pl:Sem Bool}{m:Str}{dG:Pos}{args:List Expr}{af:List (Addr×Obj)}{s:Shared}{σ:St}{H:Hp}{Q:Value->Shared->Prop}{M:TE}(he:PE X e M)(I:Inv X af σ H s)
  (h:M σ H λx G=>∃a C dx fs g,x=.ref a/\G a=some (.ins C dx fs)/\Cls X.K C/\Meth X.K C m g/\fs.lookup m=none /\
   ∀s1,Inv X af σ G s1->wq X (callWith pos (.ref g) [.ref a] (backTo pos (starEach args X.env)) (backToKw pos (keywordEach [] X.env))) Q X.xe s1)
  (T:eval (.Call (.Attribute e m dG) args [] pos) X.env=(do
   let ov ←eval e X.env
   standAt dG.atName
   let (f,first) ←holding [ov] (getMethod ov m pl)
   callWith pos f first (backTo pos (starEach args X.env)) (backToKw pos (keywordEach [] X.env)))):
  wq X (eval (.Call (.Attribute e m dG) args [] pos) X.env) Q X.xe s:=by
 refine PySem.W.methodCall_KW (pl:=pl) (c7 (he af s σ H _ I h) λu s1 ⟨x,G,O,U,a,C,dx,fs,g,ex,ea,c,k,l,q⟩=>?_) T;subst ex;obtain rfl:u=Value.ref a:=U;exact zg O ea c k l (q s1 O)
end
section
variable {X:Cx}{af:List (Addr×Obj)}{σ:St}{H:Hp}{s:Shared}{A:Around}{E:Value->Shared->Prop}{Q:Value->Shared->Prop}{c:Value}{b:Bool}
inductive TyOf (K:Frag)(H:Hp):V->Value->Prop where
 |non:TyOf K H .non (.type "NoneType")
 |bl (x:Bool):TyOf K H (.bl x) (.type "bool")
 |int (i:Int):TyOf K H (.int i) (.type "int")
 |str (x:Str):TyOf K H (.str x) (.type "str")
 |flt (x:UInt64):TyOf K H (.flt x) (.type "float")
 |lst {a:Addr}{xs:List V}(e:H a=some (.lst xs)):TyOf K H (.ref a) (.type "list")
 |frz {a:Addr}{o:Obj}{xs:List V}(e:H a=some (.frz o (.lst xs))):TyOf K H (.ref a) (.type "list")
 |tup {a:Addr}{xs:List V}(e:H a=some (.tup xs)):TyOf K H (.ref a) (.type "tuple")
 |dK {a:Addr}{aQ:List (cF×V)}{ob:Obj}(e:H a=some (.dK aQ ob)):TyOf K H (.ref a) (.type "dict")
 |dT {a:Addr}{aQ:List (List cF×V)}(e:H a=some (.dT aQ)):TyOf K H (.ref a) (.type "dict")
 |ins {a C dx:Addr}{fs:List (Str×V)}(e:H a=some (.ins C dx fs)) (cl:Cls K C) (ha:PySem.W.findIn K (.ref C) "__class__" = some (some (.builtin "object.__class__")))
   (hn:PySem.W.specialIn K (.builtin "object.__class__") "__get__" = some (some (.builtin "getset_descriptor.__get__"))) (WV:PySem.W.takesIn K (.builtin "object.__class__")=some true)
   (hm:PySem.W.mroIn K C (.type "object")=some true):TyOf K H (.ref a) (.ref C)
end
structure eV (k:Nat)(A:Around):Prop where
 hd:A.handled=none
 dp:A.depth+3*k+5<recursionLimit
 un:A.units+16*k+200<cLine
def eV.mono (r:eV k A)(h:j<=k):eV j A:=⟨r.hd,by have:=r.dp;omega,by have:=r.un;omega⟩
def eV.deeper (r:eV (k+1) A)(env:Env):eV k (A.deeper env) :=
 ⟨r.hd,by have:=r.dp;show A.depth+1+3*k+5<_;omega,by have:=r.un;show A.units+3+16*k+200<_;omega⟩
def eV.in1 (r:eV (k+1) A):eV k A.in1 :=
 ⟨r.hd,by have:=r.dp;show A.depth+3*k+5<_;omega,by have:=r.un;show A.units+1+16*k+200<_;omega⟩
def eV.depth (r:eV k A):A.depth<recursionLimit:=by have:=r.dp;omega
def ME:TA:=λ_ H Q=>Q [] H
def IU (g:TE)(G:TA):TA:=λσ H Q=>g σ H λx M=>G σ M λxs H2=>Q (x::xs) H2
section
variable {X:Cx}{e:Expr}{es:List Expr}{te:TE}{t:TA}{pos:Pos}
def jX:PA X [] ME:=λ_ _ _ _ H Q I h=>Calls.spliced_nil ⟨[],H,I,.nil,h⟩
def iI (ha:PE X e te)(g:PA X es t)(hs:starEach (e::es) X.env=(false,eval e X.env)::starEach es X.env:=by rfl):PA X (e::es) (IU te t):=by
 intro pos af s σ H Q I h;rw[hs];show wpAny _ _ (spliced ((false,eval e X.env)::backTo pos (starEach es X.env))) _ _ s;refine Calls.spliced_cons (c7 (ha af s σ H _ I h) λu s1 ⟨x,G,M,O,T⟩=>?_);exact c7 (g pos af s1 σ G _ M T) λus s2 ⟨xs,H2,U,r2,q2⟩=>⟨x::xs,H2,U,.cons O r2,q2⟩
def MF (t:TA):TE:=λσ H Q=>t σ H λxs g=>xs.length<=sizeLine/\∀p,g p=none->Q (.ref p) (upd g p (.tup xs))
def PB (t:TA):TE:=λσ H Q=>t σ H λxs g=>xs.length<=sizeLine/\∀p,g p=none->Q (.ref p) (upd g p (.lst xs))
def zh {x1}(h:PA X es t):PE X (.Tuple es x1 pos) (MF t):=by
 intro af s σ H Q I hq;refine wpAny_Tuple_spliced (c7 (h pos af s σ H _ I hq) λus s1 ⟨xs,g,G,r,z,q⟩=>⟨by rw[←r.length];exact z,?_⟩);have hf:g s1.heap.objs.size=none:=G.hok.fresh (vT _);refine⟨.ref s1.heap.objs.size,upd g s1.heap.objs.size (.tup xs),G.laid (t':=s1.toks) (λb u e=>vZ _ e) (vT _) ?_,rfl,q _ hf⟩;exact⟨z,us,r,⟨_,vY _ rfl,rfl,_,rfl⟩⟩
def Kr (h:PA X es t):PE X (.List es pos) (PB t):=by
 intro af s σ H Q I hq;refine wpAny_List_spliced (c7 (h pos af s σ H _ I hq) λus s1 ⟨xs,g,G,r,z,q⟩=>⟨by rw[←r.length];exact z,?_⟩);have hf:g s1.heap.objs.size=none:=G.hok.fresh (vT _);refine⟨.ref s1.heap.objs.size,upd g s1.heap.objs.size (.lst xs),G.laid (t':=s1.toks) (λb u e=>vZ _ e) (vT _) ?_,rfl,q _ hf⟩;exact⟨z,us,0,r,vY _ rfl⟩
end
abbrev Sp:=List V->Hp->VK->XK->Prop
abbrev IV:=List Env->Hp->Shared->XK->Value->Shared->Prop
structure Env0 (P:Program)(w:World)(K:Frag)(mg:Str->Option Value)(base:Heap)(A:Around)(outer:List Env)(s:Shared)(H:Hp):Prop where
 frames:A.frames=some outer
 mod:Mod K mg base
 bs:∀b o,base.get? b=some o->s.heap.get? b=some o/\H b=none
 bsz:base.objs.size<=s.heap.objs.size
 funs:s.heap.FunFrames base outer
 frf:∀b∈CZ outer,H b=none
 hok:lq P w H s.heap
 bare:AllBare s.gens
def CE (outer:List Env)(P:Program)(w:World)(H:Hp)(s:Shared)(Q:VK)(u:Value)(s':Shared):Prop :=
 ∃v H',s'.os=s.os/\AllBare s'.gens/\Un (CZ outer) [] H H' s.heap s'.heap/\lq P w H' s'.heap/\bd v u/\Q v H'
def CR (CX:IV)(outer:List Env)(P:Program)(w:World)(H:Hp)(s:Shared)(Q:VK)(E:XK)(r:Result)(s':Shared):Prop :=
 match r with
 |.ok (.ret u)=>CE outer P w H s Q u s'
 |.ok _=>False
 |.error e=>CX outer H s E e s'
structure sj (P:Program)(w:World)(K:Frag)(mg:Str->Option Value)(base:Heap)(CX:IV)(k:Nat)(f:Addr)(fd:FuncData)(ps:List Str)(sp:Sp):Prop where
 len:∀vs H Q E,sp vs H Q E->vs.length=ps.length
 run:∀(A:Around)(outer:List Env)(s:Shared)(H:Hp)(args:Args)(us:List Value)(vs:List V)(Q:VK)(E:XK),eV k A->Env0 P w K mg base A outer s H->BindsTo s fd args (ps.zip us)->be vs us->sp vs H Q E ->
  codeAny (model P w) A (.call (.ref f) args) (CR CX outer P w H s Q E) s
section
variable {X:Cx}{af:List (Addr×Obj)}{σ:St}{H:Hp}{s s':Shared}
def Inv.env0 (I:Inv X af σ H s):Env0 X.prog X.w X.K X.mg X.base X.A X.stack s H :=
 ⟨I.ok.frames,I.ok.mod,I.bs,vR I.ok.bsz I.sz,I.stack,I.stkFree,I.hok,I.bare⟩
def Inv.after (I:Inv X af σ H s)(h:CE X.stack X.prog X.w H s Q u s'):EP X af σ Q u s':=by
 obtain⟨v,H',os,bare,un,hok,r,q⟩:=h;obtain⟨hh,g,d,t,G⟩:=s';obtain rfl:G=s.os:=os;exact⟨v,H',I.call (h':=hh) (g':=g) (d':=d) (t':=t) (ch:=[]) un hok bare (λb z=>absurd z (by simp)),r,q⟩
end
def MG (sp:Sp)(g:List V)(E:XK)(t:TA):TE:=λσ H Q=>t σ H λvs G=>sp (vs++g) G Q E
def RI (C:Addr)(m:Str)(sp:Sp)(g:List V)(E:XK)(M:TE)(t:TA):TE:=λσ H Q=>M σ H λx G=>∃a dx fs,x=.ref a/\G a=some (.ins C dx fs)/\fs.lookup m=none /\
 t σ G λvs H2=>sp (x::(vs++g)) H2 Q E
def RJ (C:Addr)(sp:Sp)(g:List V)(E:XK)(t:TA):TE:=λσ H Q=>t σ H λvs G=>∀x dx,G x=none->G dx=none->dx≠x ->
 sp (.ref x::(vs++g)) (upd (upd G dx (.own x)) x (.ins C dx [])) (λv H2=>v=.non/\Q (.ref x) H2) E
def sv (K:Frag)(fd:FuncData)(ps:List Str)(ds:List Value):Prop :=
 ∀(s:Shared)(us:List Value),K.In s.heap->(us++ds).length=ps.length->BindsTo s fd ⟨us,[]⟩ (ps.zip (us++ds))
def sv.all {K:Frag}{fd:FuncData}{ps:List Str}(h:∀us:List Value,us.length=ps.length->bindArgs fd ⟨us,[]⟩=pure (ps.zip us)):sv K fd ps []:=λs us _ hl=>by
 rw[uQ]at hl ⊢;exact .of_eq (h us hl)
def zi (CX:IV)(X:Cx)(E:XK):Prop:=∀(af:List (Addr×Obj))(σ:St)(H:Hp)(s:Shared)(e:Value)(s':Shared),Inv X af σ H s->CX X.stack H s E e s'->X.xe e s'
section
variable {X:Cx}{CX:IV}{k:Nat}{f C:Addr}{fd:FuncData}{ps:List Str}{sp:Sp}{L9:List V}{ds:List Value}{E:XK}{x m:Str}{p pos dG:Pos}{e o:Expr}{es:List Expr}{ta:TE}{t:TA}
def Ks {af:List (Addr×Obj)}{σ:St}{H:Hp}{s:Shared}{Q:VK}{us:List Value}{vs:List V}(F:sj X.prog X.w X.K X.mg X.base CX k f fd ps sp)(G:eV k X.A)(hb:sv X.K fd ps ds)(hd:be L9 ds)(hx:zi CX X E)
  (I:Inv X af σ H s) (r:be vs us) (h:sp (vs++L9) H Q E):wq X (call (.ref f) us) (EP X af σ Q) X.xe s:=by
 have g:be (vs++L9) (us++ds):=r.append hd;have hl:(us++ds).length=ps.length:=by rw[←g.length];exact F.len _ _ _ _ h
 refine wpAny_call (codeAny_mono (F.run X.A X.stack s H ⟨us,[]⟩ (us++ds) (vs++L9) Q E G I.env0 (hb s us I.kIn hl) g h) λr s' hq=>?_);cases r with
 |error e=>exact hx af σ H s e s' I hq
 |ok fl=>
  cases fl with
  |ret u=>exact I.after hq
  |next=>exact False.elim hq
  |brk=>exact False.elim hq
  |cont=>exact False.elim hq
def Gv (F:sj X.prog X.w X.K X.mg X.base CX k f fd ps sp)(O:eV k X.A)(T:Gl X x)(hm:X.mg x=some (.ref f))(hk:PySem.W.keepIn X.K (.ref f)=true)(hb:sv X.K fd ps ds)(hd:be L9 ds)(hx:zi CX X E)
  (ha:PA X (e::es) t) (g:(x == ("__debug__" : Str))=false:=by decide) (he:starEach (e::es) X.env=(false,eval e X.env)::starEach es X.env:=by rfl) (G:(backTo pos (starEach es X.env)).any (·.1)=false:=by rfl):
  PE X (.Call (.Name x p) (e::es) [] pos) (MG sp L9 E t):=by
 intro af s σ H Q I h;refine wpAny_Call_Name_kw (uq I T hm ?_ g);refine PySem.W.callWith_K (h₀:=X.base) I.ok.mod.kin hk (c7 (ha pos af s σ H _ I h) λus s1 ⟨vs,U,M,r,q⟩=>⟨M.kIn,?_⟩) he G;exact Ks F O hb hd hx M r q
end
structure FnScope (N P:List Str)(sc:Scope):Prop where
 kind:sc.kind=.function
 co:sc.isCoroutine=false
 gen:sc.isGenerator=false
 nd:N.Nodup
 pre:N.take P.length=P
 par:∀x∈P,sc.names.lookup x=some .local∨sc.names.lookup x=some .cell
 nofree:∀y∈sc.names,y.2≠.free
theorem sw {kindOf:Str->Option NameKind}{x:Str}:∀ {binds:List (Str×Value)}{m:Str->Option Value},(∀v,(x,v)∉binds)->bindL kindOf binds m x=m x
 |[],_,_=>rfl
 | (n,v)::r,m,h=>by
  unfold bindL;rw[sw λw hw=>h w (mZ _ hw)];split
  ·have:x≠n:=by rintro rfl;exact h v mX
   simp[this]
  ·rfl
theorem sx {kindOf:Str->Option NameKind}{x:Str}:∀ {binds:List (Str×Value)}{m:Str->Option Value},(∀v,(x,v)∉binds)->bindC kindOf binds m x=m x
 |[],_,_=>rfl
 | (n,v)::r,m,h=>by
  unfold bindC;rw[sx λw hw=>h w (mZ _ hw)];split
  ·rfl
  ·have:x≠n:=by rintro rfl;exact h v mX
   simp[this]
theorem sy {kindOf:Str->Option NameKind}{x:Str}{v:Value}:∀ {P:List Str}{vs:List Value}{i:Nat}{m:Str->Option Value},P.Nodup->P[i]? = some x->vs[i]? = some v->kindOf x=some .local ->
  bindL kindOf (P.zip vs) m x=some v
 |[],_,_,_,_,h,_,_=>by simp at h
 |_::_,[],_,_,_,_,h,_=>by simp at h
 |p::P,w::vs,0,m,nd,h1,h2,hk=>by
  simp at h1 h2;subst h1;subst h2;show bindL kindOf ((p,w)::P.zip vs) m p=_;unfold bindL;rw[sw λv hv=>(List.nodup_cons.mp nd).1 (List.of_mem_zip hv).1,if_pos hk];simp
 |p::P,w::vs,i+1,m,nd,h1,h2,hk=>by
  show bindL kindOf ((p,w)::P.zip vs) m x=_;unfold bindL;exact sy (i:=i) (List.nodup_cons.mp nd).2 (by simpa using h1) (by simpa using h2) hk
theorem sA {kindOf:Str->Option NameKind}{x:Str}{v:Value}:∀ {P:List Str}{vs:List Value}{i:Nat}{m:Str->Option Value},P.Nodup->P[i]? = some x->vs[i]? = some v->kindOf x≠some .local ->
  bindC kindOf (P.zip vs) m x=some v
 |[],_,_,_,_,h,_,_=>by simp at h
 |_::_,[],_,_,_,_,h,_=>by simp at h
 |p::P,w::vs,0,m,nd,h1,h2,hk=>by
  simp at h1 h2;subst h1;subst h2;show bindC kindOf ((p,w)::P.zip vs) m p=_;unfold bindC;rw[sx λv hv=>(List.nodup_cons.mp nd).1 (List.of_mem_zip hv).1,if_neg hk];simp
 |p::P,w::vs,i+1,m,nd,h1,h2,hk=>by
  show bindC kindOf ((p,w)::P.zip vs) m x=_;unfold bindC;exact sA (i:=i) (List.nodup_cons.mp nd).2 (by simpa using h1) (by simpa using h2) hk
noncomputable def hJ (N:List Str)(vs:List V):St:=vs.map some++List.replicate (N.length - vs.length) none
noncomputable def oS (CX:IV)(P:Program)(w:World)(K:Frag)(mg:Str->Option Value)(base:Heap)(N:List Str)(qual:Str)(scope:Scope)(f:Addr)(cd:Value)(A:Around)(outer:List Env)(s:Shared)(H:Hp)(E:XK):Cx where
 prog:=P
 w:=w
 K:=K
 mg:=mg
 base:=base
 A:=A.deeper (envOfC qual scope s.heap.objs.size f cd)
 N:=N
 s₀:=s
 H₀:=H
 env:=envOfC qual scope s.heap.objs.size f cd
 outer:=outer
 stack:=envOfC qual scope s.heap.objs.size f cd::outer
 ex:=[]
 calm:=true
 fn:=λ_=>true
 pn:=[]
 xe:=λe s'=>wpAny (model P w) (A.deeper (envOfC qual scope s.heap.objs.size f cd)) (leaving (envOfC qual scope s.heap.objs.size f cd) e) (λ_ g=>CX outer H s E e g) (λG g=>CX outer H s E G g) s'
def wH {sc:Scope}{n:Nat}{x:Str}(h:sc.names.lookup x=some .cell):∃c,(cellsFrom n sc.names []).lookup x=some c:=by
 have q:=PySem.W.cellsFrom_some sc.names n [] (.inl h);exact uU q
def BW {CX:IV}{P:Program}{w:World}{K:Frag}{mg:Str->Option Value}{base:Heap}{N ps:List Str}{qual:Str}{scope:Scope}{f:Addr}{cd:Value}{A:Around}{outer:List Env}{s s1:Shared}{H:Hp}{E:XK}{us:List Value}{vs:List V}
  (S:FnScope N ps scope) (hd:A.handled=none) (g:Env0 P w K mg base A outer s H) (hl:vs.length=ps.length) (r:be vs us)
  (x:InCallC s s.heap.objs.size (bindL (envOfC qual scope s.heap.objs.size f cd).kindOf (ps.zip us) λ_=>none) (cellsFrom (s.heap.objs.size+1) scope.names []) (bindC (envOfC qual scope s.heap.objs.size f cd).kindOf (ps.zip us) λ_=>none) s1):
  Inv (oS CX P w K mg base N qual scope f cd A outer s H E) [] (hJ N vs) H s1:=by
 have O:ps.length<=N.length:=by have:=congrArg List.length S.pre;rw[List.length_take]at this;omega
 obtain⟨h1,tk,rfl,hk⟩:=x.done;have G:∀b:Addr,b∉(oS CX P w K mg base N qual scope f cd A outer s H E).ex:=λb z=>absurd (show b∈([]:List Addr)from z) (by simp);refine⟨⟨g.mod,S.kind,rfl,rfl,vT _,λy z c h1 h2=>?_,λy hy=>?_,λy c _ h=>?_,λ_=>hd,Around.frames_deeper g.frames,.inr ⟨rfl,rfl⟩,λb z=>absurd z (G b),g.bs,g.bsz,λb _ _=>G b,λb z=>absurd z (G b),g.funs,g.frf⟩,
  rfl,g.bare,Un.kept hk,⟨_,x.toInCall.ns,λi y v h1 h2 h3=>?_⟩,λy c h=>⟨_,x.cell y c h⟩,g.hok.fresh (vT _),λy c h=>?_,λp hp=>absurd (show p∈([]:List (Addr×Obj))from hp) (by simp),g.hok.kept hk,?_⟩
 ·exact name_of_addr x.apart (PySem.mem_of_lookup h1) (PySem.mem_of_lookup h2)
 ·have hy:scope.names.lookup y=some .cell∨scope.names.lookup y=some .free:=hy;rcases hy with hy|hy
  ·exact wH hy
  ·exact absurd rfl (S.nofree _ (PySem.mem_of_lookup hy))
 ·exact Nat.le_of_lt (x.above y c (PySem.mem_of_lookup h))
 ·have hi:i<vs.length:=by
   unfold hJ at h2;by_cases hi:i<vs.length
   ·exact hi
   ·rw[List.getElem?_append_right (by simpa using hi)]at h2;rw[List.getElem?_replicate]at h2;split at h2<;>cases h2
  have ha:vs[i]? = some v:=by
   unfold hJ at h2;rw[List.getElem?_append_left (by simpa using hi),vA]at h2;cases e:vs[i]? with
   |none=>rw[e]at h2;cases h2
   |some a=>rw[e]at h2;cases h2;rfl
  obtain⟨u,hu,T⟩:=r.get ha;have hp:ps[i]? = some y:=by
   rw[←S.pre,List.getElem?_take_of_lt (by omega)];exact h1
  have M:ps.Nodup:=by rw[←S.pre];exact S.nd.sublist (List.take_sublist _ _)
  refine⟨u,T,?_⟩;rcases S.par y (vL hp)with k|k
  ·exact .inl ⟨k,sy M hp hu k⟩
  ·obtain⟨c,e⟩:=wH (n:=s.heap.objs.size+1) k;refine .inr ⟨.inl k,c,e,?_⟩;have q:=x.cell y c e;rw[sA M hp hu (by show scope.names.lookup y≠_;rw[k];decide)]at q;exact q
 ·exact g.hok.fresh (Nat.le_of_lt (x.above y c (PySem.mem_of_lookup h)))
 ·unfold hJ;show _=N.length;rw[uZ,vI,List.length_replicate];omega
def IW {CX:IV}{P:Program}{w:World}{K:Frag}{mg:Str->Option Value}{base:Heap}{k:Nat}{f:Addr}{name qual:Str}{params:Arguments}{g:List Stmt}{scope:Scope}{dV kV doc pm eQ ct oc:Value}{an od:Option Addr}
  {oR:Array (Option Value)}{N ps:List Str}{sp:Sp}(lk:K.lookup f=some ⟨oc,od,.func (fnOf name qual params g scope dV kV doc pm an eQ ct),oR⟩) (LA:PySem.W.codeIn K eQ qual=true) (S:FnScope N ps scope)
  (len:∀vs H Q E,sp vs H Q E->vs.length=ps.length)
  (M:∀(A:Around)(outer:List Env)(s:Shared)(H:Hp)(vs:List V)(Q:VK)(E:XK),eV k (A.deeper (envOfC qual scope s.heap.objs.size f eQ))->sp vs H Q E ->
   ∃t,sr (oS CX P w K mg base N qual scope f eQ A outer s H E) g t/\t { nx:=λ_ H'=>Q .non H',rt:=Q } (hJ N vs) H):
  sj P w K mg base CX (k+1) f (fnOf name qual params g scope dV kV doc pm an eQ ct) ps sp:=by
 refine⟨len,λA outer s H args us vs Q E hr T hb r U=>?_⟩;have hl:=len _ _ _ _ U;have KX:K.In s.heap:=T.mod.kin.keeps λb o e=>(T.bs b o e).1;have US:s.heap.NoLimit:=T.mod.nolimit.keeps λb o e=>(T.bs b o e).1;have O:∀y∈ps.zip us,scope.names.lookup y.1=some .local∨(scope.names.lookup y.1=some .cell/\((cellsFrom (s.heap.objs.size+1) scope.names []).lookup y.1).isSome=true):=λ⟨n,v⟩ hy=>by
  rcases S.par n (List.of_mem_zip hy).1 with q|q
  ·exact .inl q
  ·exact .inr ⟨q,PySem.W.cellsFrom_some _ _ _ (.inl q)⟩
 refine codeAny_call_function hr.depth (KX _ _ lk) rfl S.co S.gen rfl (PySem.W.codeRec_of KX LA) (hb _ _ _ _ ?_);refine wpAny_newFunctionEnv_cells S.kind O λenv he s1 x=>?_;subst he;refine⟨US.keeps x.toInCall.keep,codeAny_func ?_⟩;obtain⟨t,ht,hq⟩:=M A outer s H vs Q E (hr.deeper _) U;have I:Inv (oS CX P w K mg base N qual scope f eQ A outer s H E) [] (hJ N vs) H s1:=BW S hr.hd T hl r x;refine wpAny_mono (ht [] s1 (hJ N vs) H _ I hq) (λfl s' hs=>?_) λe s' hs=>hs;have jb:∀ {G:St}{H':Hp}{v:V}{u:Value},Inv (oS CX P w K mg base N qual scope f eQ A outer s H E) [] G H' s'->bd v u->Q v H'->CE outer P w H s Q u s' :=
  λ{G H' v u} J rv q=>⟨v,H',J.os,J.bare,J.base,J.hok,rv,q⟩
 cases fl with
 |ret u=>
  obtain⟨v,G,H',J,rv,q⟩:=hs;exact jb J rv q
 |next=>
  obtain⟨G,H',J,q⟩:=hs;exact jb (v:=V.non) (u:=Value.none) J rfl q
 |brk=>
  obtain⟨_,_,_,q⟩:=hs;exact False.elim q
 |cont=>
  obtain⟨_,_,_,q⟩:=hs;exact False.elim q
section
variable {X:Cx}{x:Str}{p pos:Pos}{e:Expr}{es:List Expr}{t:TA}{id T:String}{r:List V->Hp->VK->Prop}
def RK (r:List V->Hp->VK->Prop)(t:TA):TE:=λσ H Q=>t σ H λvs g=>r vs g Q
def wI (hc:cq X (.builtin id) r)(M:Gl X x)(hm:X.mg x=none)(hv:bootBuiltins x=some (.builtin id))(ha:PA X (e::es) t)(hn:x ≠ "__name__":=by decide)(g:(x == ("__debug__" : Str))=false:=by decide)
  (he:starEach (e::es) X.env=(false,eval e X.env)::starEach es X.env:=by rfl) (G:(backTo pos (starEach es X.env)).any (·.1)=false:=by rfl):PE X (.Call (.Name x p) (e::es) [] pos) (RK r t):=by
 intro af s σ H Q I h;refine wpAny_Call_Name_kw (jv I M hm hv ?_ hn g);exact PyProof.Rows.callWith_builtin1 (c7 (ha pos af s σ H _ I h) λus s1 ⟨vs,O,U,r1,q1⟩=>hc af s1 σ O vs us Q U r1 q1) he G
def sC (hc:cq X (.type T) r)(M:Gl X x)(hm:X.mg x=none)(hv:bootBuiltins x=some (.type T))(ha:PA X (e::es) t)(hn:x ≠ "__name__":=by decide)(g:(x == ("__debug__" : Str))=false:=by decide)
  (he:starEach (e::es) X.env=(false,eval e X.env)::starEach es X.env:=by rfl) (G:(backTo pos (starEach es X.env)).any (·.1)=false:=by rfl):PE X (.Call (.Name x p) (e::es) [] pos) (RK r t):=by
 intro af s σ H Q I h;refine wpAny_Call_Name_kw (jv I M hm hv ?_ hn g);exact PyProof.Rows.callWith_type1 (c7 (ha pos af s σ H _ I h) λus s1 ⟨vs,O,U,r1,q1⟩=>hc af s1 σ O vs us Q U r1 q1) he G
end
end L2
namespace HT
open PySem PyProof.Rows
section
open PySem.SeqAt
open PySem.AutoSeq1 (wpAny_loadPart')
open PySem.MeetsSeq PySem.MeetsSeq2 PySem.MeetsSeq3
end
section
variable {prog:Program}{w:World}{A:Around}{E:Value->Shared->Prop}{s:Shared}
def Gw (ht:IsTup s.heap t vs.toArray)(hb:IsTup s.heap b ws.toArray)(hv:vs≠[])
  (h1:ws=[]->Q (.ref t) s) (h2:ws≠[]->Q (.ref s.heap.objs.size) { s with heap:=s.heap.push { cls:=.type "tuple",data:=.seq (vs++ws).toArray } })
  (hsz:vs.length+ws.length<=sizeLine):wpAny (model prog w) A (binaryOp .Add (.ref t) (.ref b)) Q E s:=by
 obtain⟨⟨cls,dd,data,sl⟩,ho,hc,n,hd⟩:=id ht;obtain⟨⟨U,G,data2,M⟩,g,O,n2,T⟩:=id hb;simp only at hc hd O T;subst hc hd O T;have e:vs.toArray++ws.toArray=(vs++ws).toArray:=by simp
 by_cases hw:ws=[]
 ·exact concat_meets ⟨_,ho,rfl⟩ ⟨_,g,rfl⟩ noFill_tuple_add seq_tuple_add PySem.F.slot_tuple_add PySem.F.entry_tuple_add (PySem.F.args_tuple_add_2 _ _)
   (tuple_addW1 t b vs.toArray ws.toArray n n2 dd G sl M (by simpa using hv) (by simp[hw])) ⟨ho,g,h1 hw⟩
 ·refine concat_meets ⟨_,ho,rfl⟩ ⟨_,g,rfl⟩ noFill_tuple_add seq_tuple_add PySem.F.slot_tuple_add PySem.F.entry_tuple_add (PySem.F.args_tuple_add_2 _ _)
   (tuple_addW2 t b vs.toArray ws.toArray n n2 dd G sl M (by simpa using hv) (by simpa using hw) (by rw[vH,vH];exact hsz)) ⟨ho,g,?_⟩
  rw[e];exact h2 hw
noncomputable def dQ (n d:Nat):Option Int->Nat
 |none=>d
 |some v=>if v<0 then (v+(n:Int)).toNat else min v.toNat n
def Kt (n d:Nat)(hd:d<=n)(o:Option Int):dQ n d o<=n:=by
 cases o with
 |none=>exact hd
 |some v=>
  show(if v<0 then (v+(n:Int)).toNat else min v.toNat n)<=n;by_cases hv:v<0
  ·rw[if_pos hv];omega
  ·rw[if_neg hv];exact Nat.min_le_right _ _
def Aq (v:Int)(n d:Nat):(if v<0 then max (v+(n:Int)) 0 else min v (n:Int))=((dQ n d (some v):Nat):Int):=by
 show(if v<0 then max (v+(n:Int)) 0 else min v (n:Int))=(((if v<0 then (v+(n:Int)).toNat else min v.toNat n):Nat):Int);by_cases hv:v<0
 ·simp only[if_pos hv];omega
 ·simp only[if_neg hv];omega
def zj (lo hi:Option Int)(n:Nat):Builtin.Slice.sliceAdjust lo hi 1 (n:Int)=(((dQ n 0 lo:Nat):Int),((dQ n n hi:Nat):Int)):=by
 have h1:¬((1:Int)<0):=by omega
 unfold Builtin.Slice.sliceAdjust;simp only[h1,if_false];refine Prod.ext ?_ ?_
 ·cases lo with
  |none=>rfl
  |some v=>exact Aq v n 0
 ·cases hi with
  |none=>rfl
  |some v=>exact Aq v n n
def zk (i j:Nat):Builtin.Slice.slicePlaces (i:Int) (j:Int) 1=j - i:=by
 unfold Builtin.Slice.slicePlaces;have h1:(1:Int) > 0:=by omega
 simp only[h1,if_true,Int.ediv_one];split<;>omega
def pD (p:IsPart v o)(h:Q o s):wpAny (model prog w) A (Builtin.Slice.slicePartIndex v) Q E s:=by
 cases p with
 |none=>exact slicePart_none h
 |int i t=>exact slicePart_int h
def jd {sl:Addr}{vl M:Value}{lo hi:Option Int}{n:Nat}{Q:Int×Int×Nat->Shared->Prop}(hs:s.heap.IsSliceOf sl vl M .none)(pl:IsPart vl lo)(O:IsPart M hi)
  (h:Q (((dQ n 0 lo:Nat):Int),1,dQ n n hi - dQ n 0 lo) s):wpAny (model prog w) A (Builtin.Slice.sliceApplied (.ref sl) (pure (n:Int))) Q E s:=by
 obtain⟨os,g,T,G⟩:=id hs;unfold Builtin.Slice.sliceApplied Builtin.Slice.sliceFields;refine wX (wX (wpAny_field g G (x:=vl) rfl (wX (wpAny_field g G (x:=M) rfl (wX (wpAny_field g G (x:=.none) rfl (wY ?_)))))));refine wX (slicePart_none ?_);show wpAny _ _ (if((1:Int) == 0)=true then _ else _) _ _ s;rw[if_neg (by decide)];refine wX (pD pl (wX (pD O (wX (wY ?_)))));show wpAny _ _ (match Builtin.Slice.sliceAdjust lo hi 1 (n:Int) with|(lo,hi)=>pure (lo,(1:Int),Builtin.Slice.slicePlaces lo hi 1)) _ _ s;rw[zj lo hi n];show wpAny _ _ (pure (((dQ n 0 lo:Nat):Int),(1:Int),Builtin.Slice.slicePlaces ((dQ n 0 lo:Nat):Int) ((dQ n n hi:Nat):Int) 1)) _ _ s;rw[zk];exact wY h
def Dv (xs:Array Value)(i k:Nat):((List.range k).filterMap λ(m:Nat)=>xs[((i:Int)+(m:Int)*1).toNat]?).toArray=((xs.toList.drop i).take k).toArray:=by
 have e:(λ(m:Nat)=>xs[((i:Int)+(m:Int)*1).toNat]?)=λm=>xs[i+m]?:=by
  funext m;have:((i:Int)+(m:Int)*1).toNat=i+m:=by omega
  rw[this]
 rw[e];have:=pick_run xs i k;rw[List.filterMap_map]at this;have e2:((λx=>xs[x]?) ∘ λx=>i+x)=λm=>xs[i+m]?:=rfl;rw[e2]at this;rw[this]
def md {t sl:Addr}{items:Array Value}{vl vu:Value}{lo hi:Option Int}{Q:Value->Shared->Prop}(G:IsTup s.heap t items)(hs:s.heap.IsSliceOf sl vl vu .none)(pl:IsPart vl lo)(pu:IsPart vu hi)
  (hw:¬(dQ items.size 0 lo=0/\dQ items.size items.size hi=items.size))
  (h:Q (.ref s.heap.objs.size) { s with heap:=s.heap.push { cls:=.type "tuple",data:=.seq ((items.toList.drop (dQ items.size 0 lo)).take (dQ items.size items.size hi - dQ items.size 0 lo)).toArray } })
  (hsz:items.size<=sizeLine):wpAny (model prog w) A (getItem (.ref t) (.ref sl)) Q E s:=by
 have g:sizeOk (.seq ((items.toList.drop (dQ items.size 0 lo)).take (dQ items.size items.size hi - dQ items.size 0 lo)).toArray):=by
  show((items.toList.drop (dQ items.size 0 lo)).take (dQ items.size items.size hi - dQ items.size 0 lo)).toArray.size<=sizeLine
  rw[vH,List.length_take,List.length_drop,vG]
  omega
 have hj:dQ items.size items.size hi<=items.size:=Kt _ _ (vT _) hi
 obtain⟨os,M,O,Q8⟩:=id hs
 have T:s.TypeIs (.ref sl) "slice":=⟨os,M,O⟩
 unfold getItem
 try with_reducible refine wpAny_holding ?_
 first|refine wX (wY ?_)|skip
 refine wX (wpAny_sequenceKey G.typeIs (by decide) ?_)
 refine wX (wpAny_callSpecial?_slot (name:=Str.ofString "__getitem__") G.typeIs PyProof.Rows.slot_tuple_getitem
  (wpAny_call_entry PyProof.Rows.slot_tuple_getitem G.typeIs entry_tuple_getitem ?_ (args_tuple_getitem _ _)))
 show wpAny _ _ (Builtin.Tuple.tupleItemsOf (.ref t)>>=_) _ _ s
 refine wX (tupleItemsOf_ G ?_)
 refine wX (wpAny_typeOf T ?_)
 rw[if_pos (by decide)]
 refine wX (jd hs pl pu ?_)
 have U:¬((((dQ items.size 0 lo:Nat):Int) == 0 && (1:Int) == 1 && (dQ items.size items.size hi - dQ items.size 0 lo) == items.size)=true):=by
  intro q
  rw[vC,vC]at q
  have q1:((dQ items.size 0 lo:Nat):Int)=0:=eq_of_beq q.1.1
  have q2:dQ items.size items.size hi - dQ items.size 0 lo=items.size:=eq_of_beq q.2
  exact hw ⟨by omega,by omega⟩
 show wpAny _ _ (if(((dQ items.size 0 lo:Nat):Int) == 0 && (1:Int) == 1 && (dQ items.size items.size hi - dQ items.size 0 lo) == items.size)=true then _ else _) _ _ s
 rw[if_neg U,Dv]
 first
  |exact wX (m:=Builtin.Tuple.tupleExact _) (wpAny_newObj_type (wY ⟨_,rfl,wY h⟩) g)
  |exact wX (m:=Builtin.Tuple.tupleExact _) (wpAny_newObj_type (wX (wY (wY ⟨_,rfl,wY h⟩))) g)
  |exact wX (wX (m:=Builtin.Tuple.tupleExact _) (wpAny_newObj_type (wY (wY ⟨_,rfl,wY h⟩)) g))
  |exact wX (wX (m:=Builtin.Tuple.tupleExact _) (wpAny_newObj_type (wY ⟨_,rfl,wY h⟩) g))
end
end HT
namespace L2
open PySem PySem.Spec PyProof.Rows
abbrev TO:=St->Hp->(Option Int->Hp->Prop)->Prop
def PO (X:Cx)(e:Option Expr)(t:TO):Prop :=
 ∀(af:List (Addr×Obj))(s:Shared)(σ:St)(H:Hp)(Q:Option Int->Hp->Prop),Inv X af σ H s->t σ H Q ->
  wq X (evalPart e X.env) (λu s'=>∃o H',Inv X af σ H' s'/\IsPart u o/\Q o H') X.xe s
def Gx:TO:=λ_ H Q=>Q none H
def MH (t:TE):TO:=λσ H Q=>t σ H λx g=>∃i,x=.int i/\Q (some i) g
section
variable {X:Cx}{e:Expr}{te:TE}{lo hi:Option Expr}{tl th:TO}{pos p2:Pos}
def Gy:PO X none Gx:=by
 intro af s σ H Q I h;rw[evalPart_none];exact wY ⟨none,H,I,.none,h⟩
def Gz (h:PE X e te):PO X (some e) (MH te):=by
 intro af s σ H Q I hw;rw[evalPart_some];refine c7 (h af s σ H _ I hw) λu s1 ⟨x,g,G,M,O⟩=>?_;obtain⟨i,rfl,q⟩:=O;obtain⟨t,rfl⟩:=M;exact⟨some i,g,G,.int i t,q⟩
def Db (X:Cx)(r:V->Option Int->Option Int->Hp->VK->Prop):Prop :=
 ∀(af:List (Addr×Obj))(s:Shared)(σ:St)(H:Hp)(x:V)(v vl g:Value)(lo hi:Option Int)(sl:Addr)(Q:VK),Inv X af σ H s->bd x v->s.heap.IsSliceOf sl vl g .none->IsPart vl lo->IsPart g hi->r x lo hi H Q ->
  ∃T id,typeLookup (.type T) "__getitem__" = pure (some (.builtin id))/\s.TypeIs v T/\wq X (getItem v (.ref sl)) (EP X af σ Q) X.xe s
def Db.or (h:Db X r)(h':Db X r'):Db X (λx lo hi H Q=>r x lo hi H Q∨r' x lo hi H Q):=by
 intro af s σ H x v vl g lo hi sl Q I G hs pl M q;rcases q with q|q
 ·exact h af s σ H x v vl g lo hi sl Q I G hs pl M q
 ·exact h' af s σ H x v vl g lo hi sl Q I G hs pl M q
def Ub (r:V->Option Int->Option Int->Hp->VK->Prop)(te:TE)(tl th:TO):TE:=λσ H Q=>te σ H λx g=>tl σ g λl H2=>th σ H2 λu G=>r x l u G Q
def Dw (O:Db X r)(he:PE X e te)(hl:PO X lo tl)(hu:PO X hi th):PE X (.Subscript e (.Slice lo hi none p2) pos) (Ub r te tl th):=by
 intro af s σ H Q I h;refine Subscript_ (c7 (he af s σ H _ I h) λv s1 ⟨x,U,I1,r1,q1⟩=>?_);refine wpAny_Slice (c7 (hl af s1 σ U _ I1 q1) λvl s2 ⟨l,H2,I2,pl,q2⟩=>c7 (hu af s2 σ H2 _ I2 q2) λG g ⟨u,M,I3,pu,q3⟩=>?_);rw[evalPart_none];refine wY ?_;have I4:Inv X af σ M { g with heap:=g.heap.push { cls:=.type "slice",data:=.fields #[vl,G,.none] } }:=I3.kept (t':=g.toks) λb ob q=>vZ _ q;obtain⟨T,id,hT,ht,hg⟩:=O af { g with heap:=g.heap.push { cls:=.type "slice",data:=.fields #[vl,G,.none] } } σ M x v vl G l u g.heap.objs.size Q I4 r1 (Heap.IsSliceOf.new ..) pl pu q3;show wq X (subscriptTail e (.Slice lo hi none p2) v (.ref g.heap.objs.size)) (EP X af σ Q) X.xe { g with heap:=g.heap.push { cls:=.type "slice",data:=.fields #[vl,G,.none] } };exact tail_any (ops:=[.ref g.heap.objs.size,v]) ht hT hg (by with_unfolding_all rfl)
def rO (xs:List V)(lo hi:Option Int):List V:=(xs.drop (HT.dQ xs.length 0 lo)).take (HT.dQ xs.length xs.length hi - HT.dQ xs.length 0 lo)
def om (xs:List V)(lo hi:Option Int):(rO xs lo hi).length<=xs.length:=by
 unfold rO;rw[List.length_take,List.length_drop];omega
def PD (K:Frag):V->Option Int->Option Int->Hp->VK->Prop:=λx lo hi H Q=>∃a xs,x=.ref a/\ja K H a xs /\
 ¬(HT.dQ xs.length 0 lo=0/\HT.dQ xs.length xs.length hi=xs.length)/\∀p,H p=none->Q (.ref p) (upd H p (.tup (rO xs lo hi)))
def Ku:Db X (PD X.K):=by
 intro af s σ H x v vl T lo hi sl Q I M hs pl O h;obtain⟨a,xs,rfl,hx,hw,q⟩:=h;cases M
 obtain⟨its,r,G,hz⟩:=I.tuple hx;have g:its.toArray.size=xs.length:=by rw[vH];exact r.length.symm
 refine⟨"tuple",_,PyProof.Rows.slot_tuple_getitem.lookup,G.typeIs,?_⟩;refine HT.md G hs pl O (by rw[g];exact hw) ?_ (by rw[g];exact hz);rw[g];refine⟨.ref s.heap.objs.size,_,I.laid (t':=s.toks) (o:=.tup (rO xs lo hi)) (λb ob q=>vZ _ q) (vT _) ?_,rfl,q _ (I.hok.fresh (vT _))⟩;exact⟨vR (om xs lo hi) hz,_,(r.drop (HT.dQ xs.length 0 lo)).take (HT.dQ xs.length xs.length hi - HT.dQ xs.length 0 lo),IsTup.new _ _⟩
def MI (K:Frag):R2:=λx y H Q=>∃a b xs ys,x=.ref a/\y=.ref b/\ja K H a xs/\ja K H b ys/\xs≠[]/\xs.length+ys.length<=sizeLine /\
 (ys=[]->Q (.ref a) H)/\(ys≠[]->∀p,H p=none->Q (.ref p) (upd H p (.tup (xs++ys))))
def be.nil_iff (r:be xs us):us=[]↔xs=[]:=by
 cases r with
 |nil=>simp
 |cons _ _=>simp
def G0:dP X (binaryOp .Add) (MI X.K):=by
 intro af s σ H x y v u Q I O T h;obtain⟨a,b,xs,ys,rfl,rfl,ha,hb,hx,hz,U,q2⟩:=h;cases O
 cases T
 obtain⟨its,G,p1,_⟩:=I.tuple ha;obtain⟨M,g,p2,_⟩:=I.tuple hb;refine HT.Gw p1 p2 (λz=>hx (G.nil_iff.mp z)) (λz=>⟨.ref a,H,I,rfl,U (g.nil_iff.mp z)⟩) (λz=>?_) (by rw[←G.length,←g.length];exact hz);refine⟨.ref s.heap.objs.size,_,I.laid (t':=s.toks) (o:=.tup (xs++ys)) (λb ob q=>vZ _ q) (vT _) ?_,rfl,q2 (λw=>z (g.nil_iff.mpr w)) _ (I.hok.fresh (vT _))⟩;exact⟨by rw[uZ];exact hz,_,G.append g,IsTup.new _ _⟩
end
def yS (n:Nat)(i:Int):Option Nat:=if 0<=i then (if i<n then some i.toNat else none)else if -(n:Int)<=i then some (i+n).toNat else none
def lG {α:Type}(xs:List α)(i:Int):Option α:=(yS xs.length i).bind λj=>xs[j]?
def Ar (h:yS n i=some j):seqIndex? i n=some j/\j<n/\-(n:Int)<=i/\i<n:=by
 unfold yS at h;by_cases h0:0<=i
 ·rw[if_pos h0]at h;by_cases h1:i<n
  ·rw[if_pos h1]at h;have e:i.toNat=j:=vK h;exact⟨by rw[seqIndex_of h0 h1,e],by omega,by omega,h1⟩
  ·rw[if_neg h1]at h;cases h
 ·rw[if_neg h0]at h;by_cases h1 : -(n:Int)<=i
  ·rw[if_pos h1]at h;have e:(i+n).toNat=j:=vK h;exact⟨by rw[seqIndex_neg (by omega) h1,e],by omega,h1,by omega⟩
  ·rw[if_neg h1]at h;cases h
def uu {α:Type}{xs:List α}{i:Int}{v:α}(h:lG xs i=some v):∃j,seqIndex? i xs.length=some j/\xs[j]? = some v/\j<xs.length/\-(xs.length:Int)<=i/\i<xs.length:=by
 unfold lG at h;cases e:yS xs.length i with
 |none=>rw[e]at h;cases h
 |some j=>
  rw[e]at h;obtain⟨h1,h2,h3,h4⟩:=Ar e;exact⟨j,h1,h,h2,h3,h4⟩
def G1 {α:Type}{xs:List α}{j:Nat}{v:α}(h:xs[j]? = some v):lG xs (j:Int)=some v:=by
 have hj:j<xs.length:=(vV h).1;have e:yS xs.length (j:Int)=some j:=by
  unfold yS;rw[if_pos (by omega),if_pos (by omega)];simp
 unfold lG;rw[e];exact h
def wJ {α:Type}(xs:List α)(v:α):lG (xs++[v]) (-1)=some v:=by
 have hl:(xs++[v]).length=xs.length+1:=by simp
 have e:yS (xs++[v]).length (-1)=some xs.length:=by
  unfold yS;rw[hl,if_neg (by decide),if_pos (by omega)];congr 1;omega
 unfold lG;rw[e];show(xs++[v])[xs.length]? = some v;simp
def uw (b:Expr):Prop:=∀o i,subscripted b false o i=operate [o,i] (getItem o i)
def FW (X:Cx)(r:R2):Prop :=
 ∀(G g:Expr)(af:List (Addr×Obj))(s:Shared)(σ:St)(H:Hp)(x y:V)(v u:Value)(Q:VK),Inv X af σ H s->bd x v->bd y u->r x y H Q ->
  subscripted g false v u=operate [v,u] (getItem v u)->wq X (subscriptTail G g v u) (EP X af σ Q) X.xe s
def G2 (X:Cx)(id:String)(r:V->List V->Hp->VK->Prop):Prop :=
 ∀(af:List (Addr×Obj))(s:Shared)(σ:St)(H:Hp)(x:V)(xs:List V)(v:Value)(us:List Value)(Q:VK),Inv X af σ H s->bd x v->be xs us->r x xs H Q ->
  wq X (call (.builtin id) (v::us)) (EP X af σ Q) X.xe s
section
variable {X:Cx}{a b:Expr}{ta tb:TE}{pos:Pos}
def FW.or (h:FW X r)(h':FW X r'):FW X (λx y H Q=>r x y H Q∨r' x y H Q):=by
 intro g G af s σ H x y v u Q I M O q hs;rcases q with q|q
 ·exact h g G af s σ H x y v u Q I M O q hs
 ·exact h' g G af s σ H x y v u Q I M O q hs
def G2.or {id:String}{r g:V->List V->Hp->VK->Prop}(h:G2 X id r)(h':G2 X id g):G2 X id (λx xs H Q=>r x xs H Q∨g x xs H Q):=by
 intro af s σ H x xs v us Q I G rs q;rcases q with q|q
 ·exact h af s σ H x xs v us Q I G rs q
 ·exact h' af s σ H x xs v us Q I G rs q
def IX (g:FW X r)(ha:PE X a ta)(hb:PE X b tb)(hs:uw b):PE X (.Subscript a b pos) (OM r ta tb):=by
 intro af s σ H Q I h;exact Subscript_ (Ki ha hb I h λv u s2 x y H2 G M O q=>g a b af s2 σ H2 x y v u Q G M O q (hs _ _))
def PF (K:Frag):R2:=λx y H Q=>∃p xs i v,x=.ref p/\y=.int i/\gn K H p xs/\lG xs i=some v/\Q v H
def PH (K:Frag):R2:=λx y H Q=>∃p xs i v,x=.ref p/\y=.int i/\ja K H p xs/\lG xs i=some v/\Q v H
def PJ:R2:=λx y H Q=>∃z i c,x=.str z/\y=.int i/\z.length<=sizeLine/\lG z.cps.toList i=some c/\Q (.str ⟨#[c]⟩) H
def G3:FW X (PF X.K):=by
 intro g G af s σ H x y v u Q I T U h hs;obtain⟨p,xs,i,z,rfl,rfl,hq,he,q⟩:=h;cases T
 obtain⟨t,rfl⟩:=U;obtain⟨its,r,pl,hz⟩:=I.list hq;obtain⟨j,h1,h2,h3,h4,h5⟩:=uu he;obtain⟨w,O,M⟩:=r.get h2;have hl:=r.length;have hn:=ny;have jb:EP X af σ Q w s:=⟨z,H,I,M,q⟩;by_cases h0:0<=i
 ·have hj:i.toNat=j:=by
   rw[seqIndex_of h0 h5]at h1;exact vK h1
  exact item_listR pl.isList h0 (by omega) (by rw[hj];simpa using O) jb hs
 ·have hj:(i+(its.toArray.size:Int)).toNat=j:=by
   rw[seqIndex_neg (by omega) h4]at h1;rw[vH,←hl];exact vK h1
  exact subscriptTail_builtinR (x:=w) pl.isList.typeIs slot_list_getitem.lookup
   (wpAny_getItem_list_neg (Q:=λr s'=>r=w/\EP X af σ Q r s') pl.isList (by omega) (by rw[vH]<;>omega) (by omega) (by rw[hj];simpa using O) ⟨rfl,jb⟩) hs
def pE:FW X (PH X.K):=by
 intro g G af s σ H x y v u Q I O T h hs;obtain⟨p,xs,i,z,rfl,rfl,hq,he,q⟩:=h;cases O
 obtain⟨t,rfl⟩:=T;obtain⟨its,r,pl,hz⟩:=I.tuple hq;obtain⟨j,h1,h2,h3,h4,h5⟩:=uu he;obtain⟨w,U,M⟩:=r.get h2;have hl:=r.length;have hn:=ny;have jb:EP X af σ Q w s:=⟨z,H,I,M,q⟩;exact subscriptTail_builtinR (x:=w) pl.typeIs slot_tuple_getitem.lookup
  (getItem_tuple (j:=j) (Q:=λr s'=>r=w/\EP X af σ Q r s') pl (by omega) (by omega) (by rw[vH,←hl];exact h1) (by simpa using U) ⟨rfl,jb⟩) hs
def zl:FW X PJ:=by
 intro g G af s σ H x y v u Q I M O h hs;obtain⟨z,i,c,rfl,rfl,hz,he,q⟩:=h;obtain⟨t,rfl⟩:=M;obtain⟨t',rfl⟩:=O;obtain⟨j,h1,h2,h3,h4,h5⟩:=uu he;have hl:z.cps.toList.length=z.length:=by simp[Str.length]
 rw[hl]at h1 h4 h5;have hn:=ny;exact tail_any (typeIs_str s z t) slot_str_getitem.lookup (getItem_str (c:=c) (by
  have T:decide (i < -(2 ^ 63:Int))=false:=decide_eq_false (by omega);have e2:decide (i ≥ 2 ^ 63)=false:=decide_eq_false (by omega);rw[T,e2,Bool.or_false]) (by rw[h1];simpa using h2) ⟨.str ⟨#[c]⟩,H,I.tok _,⟨_,rfl⟩,q⟩) hs
def zm (its:List Value)(n j:Nat)(u:Value):Obj.mapSeq (·.setIfInBounds j u) { cls:=.type "list",data:=.seq its.toArray n }={ cls:=.type "list",data:=.seq (its.set j u).toArray n }:=by
 simp[Obj.mapSeq]
def Inv.lst (I:Inv X af σ H s)(h:H p=some (.lst xs)):
  ∃(its:List Value)(n:Nat),be xs its/\s.heap.get? p=some { cls:=.type "list",data:=.seq its.toArray n }/\xs.length<=sizeLine:=by
 obtain⟨z,its,n,r,e⟩:=I.hok p _ h;exact⟨its,n,r,e,z⟩
def Inv.lstUpd {af:List (Addr×Obj)}{σ:St}{H:Hp}{s:Shared}{p:Addr}{xs ys:List V}{its its':List Value}{n g:Nat}{f:Obj->Obj}(I:Inv X af σ H s)(h:H p=some (.lst xs))
  (ho:s.heap.get? p=some { cls:=.type "list",data:=.seq its.toArray n }) (hf:f { cls:=.type "list",data:=.seq its.toArray n }={ cls:=.type "list",data:=.seq its'.toArray g }) (r:be ys its') (hz:ys.length<=sizeLine) (t:Nat):
  Inv X af σ (upd H p (.lst ys)) { s with heap:=s.heap.update p f,toks:=t }:=by
 have e:(s.heap.update p f).get? p=some { cls:=.type "list",data:=.seq its'.toArray g }:=by
  rw[Heap.get?_update_self f ho (by rw[hf]<;>rfl),hf]
 refine I.write (x:=p) (e:=p) (by rw[h];trivial) (.inl rfl) (λb u hb q=>(Heap.get?_update_other _ _ (Ne.symm hb)).trans q) ⟨_,e⟩ ?_;exact⟨hz,its',g,r,e⟩
def MJ:V->V->V->Hp->(Hp->Prop)->Prop:=λo i v H Q=>∃p xs k j,o=.ref p/\i=.int k/\H p=some (.lst xs)/\yS xs.length k=some j/\Q (upd H p (.lst (xs.set j v)))
def Dx:Mz X MJ:=by
 intro af s σ H o i v T iv u Q I G M O h;obtain⟨p,xs,k,j,rfl,rfl,hp,hj,q⟩:=h;cases G
 obtain⟨t,rfl⟩:=M;obtain⟨its,n,r,ho,hz⟩:=I.lst hp;obtain⟨h1,h2,h3,h4⟩:=Ar hj;have hl:=r.length;have hn:=ny;have g:Inv X af σ (upd H p (.lst (xs.set j v))) { s with heap:=s.heap.update p (Obj.mapSeq (·.setIfInBounds j u)) } :=
  I.lstUpd hp ho (zm its n j u) (r.set O j) (by rw[List.length_set];exact hz) s.toks
 by_cases h0:0<=k
 ·have hk:k.toNat=j:=by
   rw[seqIndex_of h0 h4]at h1;exact vK h1
  exact PySem.W.ki_setAt ho h0 (by omega) (by rw[vH,←hl];exact h4) (by rw[hk];exact⟨_,g,q⟩)
 ·have hk:(k+(its.toArray.size:Int)).toNat=j:=by
   rw[seqIndex_neg (by omega) h3]at h1;rw[vH,←hl];exact vK h1
  exact PySem.W.ki_setBack ho (by omega) (by rw[vH,←hl];exact h3) (by omega) (by rw[hk];exact⟨_,g,q⟩)
def ux (lo hi:Option Int)(n:Nat):(sliceBounds lo hi none n).1=((HT.dQ n 0 lo:Nat):Int)/\(sliceBounds lo hi none n).2.1=((HT.dQ n n hi:Nat):Int)/\(sliceBounds lo hi none n).2.2=1:=by
 refine⟨?_,?_,rfl⟩
 ·cases lo with
  |none=>simp[sliceBounds,HT.dQ]
  |some i=>
   simp only[sliceBounds,HT.dQ,Option.getD_none,show(1:Int) > 0 by decide,if_true];by_cases h:i<0
   ·simp only[h,if_true]<;>omega
   ·simp only[h,if_false]<;>omega
 ·cases hi with
  |none=>simp[sliceBounds,HT.dQ]
  |some i=>
   simp only[sliceBounds,HT.dQ,Option.getD_none,show(1:Int) > 0 by decide,if_true];by_cases h:i<0
   ·simp only[h,if_true]<;>omega
   ·simp only[h,if_false]<;>omega
def rP (its:List Value)(lo hi:Option Int):slicePick its.toArray lo hi none=((its.drop (HT.dQ its.length 0 lo)).take (HT.dQ its.length its.length hi - HT.dQ its.length 0 lo)).toArray:=by
 obtain⟨h1,h2,h3⟩:=ux lo hi its.toArray.size;unfold slicePick;rw[h1,h2,h3];simp only[sliceRange_one,pick_run,vH]<;>rfl
def PK (K:Frag):V->Option Int->Option Int->Hp->VK->Prop:=λx lo hi H Q=>∃a xs,x=.ref a/\gn K H a xs/\∀p,H p=none->Q (.ref p) (upd H p (.lst (rO xs lo hi)))
def G4:Db X (PK X.K):=by
 intro af s σ H x v vl T lo hi sl Q I M hs pl O h;obtain⟨a,xs,rfl,hx,q⟩:=h;cases M
 obtain⟨its,r,G,hz⟩:=I.list hx;have g:=r.length;refine⟨"list",_,slot_list_getitem.lookup,G.isList.typeIs,?_⟩;refine wpAny_getItem_list_slice G.isList hs pl O .none (by simp) ?_ (by rw[vH]<;>omega)
 rw[rP,←g];refine⟨.ref s.heap.objs.size,_,I.laid (t':=s.toks) (o:=.lst (rO xs lo hi)) (λb ob q=>vZ _ q) (vT _) ?_,rfl,q _ (I.hok.fresh (vT _))⟩;exact⟨vR (om xs lo hi) hz,_,0,(r.drop (HT.dQ xs.length 0 lo)).take (HT.dQ xs.length xs.length hi - HT.dQ xs.length 0 lo),vY _ rfl⟩
noncomputable def lr:V->Bool
 |.non=>true
 |.bl _=>true
 |.int _=>true
 |.str _=>true
 |_=>false
def FX:V->V->Bool
 |.non,.non=>true
 |.bl a,.bl b=>a == b
 |.bl a,.int b=>(if a then 1 else 0) == b
 |.int a,.bl b=>a == (if b then 1 else 0)
 |.int a,.int b=>a == b
 |.str a,.str b=>a == b
 |_,_=>false
def Kv (G:bd y u)(g:bd x v)(O:lr y=true)(M:lr x=true):SeqAt.EqAt A s u v (FX y x):=by
 cases y with
 |non=>
  cases G
  cases x with
  |non=>cases g;exact SeqAt.EqAt.same _
  |bl b=>cases g;exact SeqAt.EqAt.none_bool b
  |int b=>obtain⟨t,rfl⟩:=g;exact SeqAt.EqAt.none_int b t
  |str b=>obtain⟨t,rfl⟩:=g;exact SeqAt.EqAt.none_str b t
  |_=>exact absurd (show false=true from M) uX
 |bl a=>
  cases G
  cases x with
  |non=>cases g;exact SeqAt.EqAt.bool_none a
  |bl b=>cases g;exact SeqAt.EqAt.bool_bool a b
  |int b=>obtain⟨t,rfl⟩:=g;exact SeqAt.EqAt.bool_int a b t
  |str b=>obtain⟨t,rfl⟩:=g;exact SeqAt.EqAt.bool_str a b t
  |_=>exact absurd (show false=true from M) uX
 |int a=>
  obtain⟨t',rfl⟩:=G;cases x with
  |non=>cases g;exact SeqAt.EqAt.int_none a t'
  |bl b=>cases g;exact SeqAt.EqAt.int_bool a t' b
  |int b=>obtain⟨t,rfl⟩:=g;exact SeqAt.EqAt.int_int a t' b t
  |str b=>obtain⟨t,rfl⟩:=g;exact SeqAt.EqAt.int_str a t' b t
  |_=>exact absurd (show false=true from M) uX
 |str a=>
  obtain⟨t',rfl⟩:=G;cases x with
  |non=>cases g;exact SeqAt.EqAt.str_none a t'
  |bl b=>cases g;exact SeqAt.EqAt.str_bool a t' b
  |int b=>obtain⟨t,rfl⟩:=g;exact SeqAt.EqAt.str_int a t' b t
  |str b=>obtain⟨t,rfl⟩:=g;exact SeqAt.EqAt.str_str a t' b t
  |_=>exact absurd (show false=true from M) uX
 |_=>exact absurd (show false=true from O) uX
def zn (x:V)(u:Value):Bool:=match u with
 |.none=>FX .non x
 |.bool b=>FX (.bl b) x
 |.int i _=>FX (.int i) x
 |.str z _=>FX (.str z) x
 |_=>false
def Dy (r:bd y u)(f:lr y=true):zn x u=FX y x:=by
 cases y with
 |non=>cases r;rfl
 |bl b=>cases r;rfl
 |int i=>obtain⟨t,rfl⟩:=r;rfl
 |str z=>obtain⟨t,rfl⟩:=r;rfl
 |_=>exact absurd (show false=true from f) uX
theorem mf:∀ {xs:List V}{us:List Value},be xs us->xs.all lr=true->us.any (zn x)=xs.any λy=>FX y x
 |_,_,.nil,_=>rfl
 |y::xs,u::us,.cons r t,f=>by
  rw[List.all_cons,vC]at f;rw[List.any_cons,List.any_cons,Dy r f.1,mf t f.2]
theorem jY (g:bd x v)(G:lr x=true):∀ {xs:List V}{us:List Value},be xs us->xs.all lr=true->∀u∈us,SeqAt.EqAt A s u v (zn x u)
 |_,_,.nil,_=>λu hu=>by cases hu
 |y::xs,u::us,.cons r t,f=>λM hu=>by
  rw[List.all_cons,vC]at f;rcases vP hu with rfl|hu
  ·rw[Dy r f.1];exact Kv r g f.1 G
  ·exact jY g G t f.2 M hu
noncomputable def ON (x:V)(xs:List V):Bool:=xs.any λy=>FX y x
def RL (K:Frag)(g:Bool):R2:=λx y H Q=>∃p xs,y=.ref p/\(gn K H p xs∨ja K H p xs)/\lr x=true/\xs.all lr=true/\Q (.bl (if g then !ON x xs else ON x xs)) H
def BX:dP X (compareOp .In) (RL X.K false):=by
 intro af s σ H x y v u Q I g M h;obtain⟨p,xs,rfl,hq,G,fs,q⟩:=h;cases M
 rcases hq with hq|hq
 ·obtain⟨its,r,pl,hz⟩:=I.list hq;refine SeqAt.in_listAt (zn x) pl.isList (λw hw=>jY g G r fs w (by simpa using hw)) ⟨.bl _,H,I,rfl,?_⟩;rw[show its.toArray.any (zn x)=its.any (zn x) by simp,mf r fs];exact q
 ·obtain⟨its,r,pl,hz⟩:=I.tuple hq;refine SeqAt.in_tupleAt (zn x) pl (λw hw=>jY g G r fs w (by simpa using hw)) ⟨.bl _,H,I,rfl,?_⟩;rw[show its.toArray.any (zn x)=its.any (zn x) by simp,mf r fs];exact q
def uy:dP X (compareOp .NotIn) (RL X.K true):=by
 intro af s σ H x y v u Q I g M h;obtain⟨p,xs,rfl,hq,G,fs,q⟩:=h;cases M
 rcases hq with hq|hq
 ·obtain⟨its,r,pl,hz⟩:=I.list hq;refine SeqAt.notIn_listAt (zn x) pl.isList (λw hw=>jY g G r fs w (by simpa using hw)) ⟨.bl _,H,I,rfl,?_⟩;rw[show its.toArray.any (zn x)=its.any (zn x) by simp,mf r fs];exact q
 ·obtain⟨its,r,pl,hz⟩:=I.tuple hq;refine SeqAt.notIn_tupleAt (zn x) pl (λw hw=>jY g G r fs w (by simpa using hw)) ⟨.bl _,H,I,rfl,?_⟩;rw[show its.toArray.any (zn x)=its.any (zn x) by simp,mf r fs];exact q
def uz:cq X (.builtin "len") (λxs H Q=>∃p ys,xs=[.ref p]/\(gn X.K H p ys∨ja X.K H p ys)/\Q (.int ys.length) H):=by
 intro af s σ H xs us Q I r h;obtain⟨p,ys,rfl,hq,q⟩:=h;obtain⟨u,rfl,M⟩:=hG r;cases M
 have hn:=ny;rcases hq with hq|hq
 ·obtain⟨its,G,pl,hz⟩:=I.list hq;have g:=G.length;exact Calls.call_len_list pl.isList (by simp only[vH]<;>omega) ⟨.int ys.length,H,I.tok _,⟨s.toks+1,by rw[vH,g]⟩,q⟩
 ·obtain⟨its,G,pl,hz⟩:=I.tuple hq;have g:=G.length;exact len_tuple pl (by simp only[vH]<;>omega) ⟨.int ys.length,H,I.tok _,⟨s.toks+1,by rw[vH,g]⟩,q⟩
def u0:cq X (.builtin "len") (λxs H Q=>∃z,xs=[.str z]/\z.length<=sizeLine/\Q (.int z.length) H):=by
 intro af s σ H xs us Q I r h;obtain⟨z,rfl,hz,q⟩:=h;obtain⟨u,rfl,t,rfl⟩:=hG r;have hn:=ny;exact len_str (by omega) ⟨.int z.length,H,I.tok _,⟨_,rfl⟩,q⟩
def cq.or (h:cq X f r)(h':cq X f r'):cq X f (λxs H Q=>r xs H Q∨r' xs H Q):=by
 intro af s σ H xs us Q I rs q;rcases q with q|q
 ·exact h af s σ H xs us Q I rs q
 ·exact h' af s σ H xs us Q I rs q
def u5:cq X (.type "list") (λxs H Q=>∃p ys,xs=[.ref p]/\(gn X.K H p ys∨ja X.K H p ys)/\∀l,H l=none->Q (.ref l) (upd H l (.lst ys))):=by
 intro af s σ H xs us Q I r h;obtain⟨p,ys,rfl,hq,q⟩:=h;obtain⟨u,rfl,O⟩:=hG r;cases O
 have jb:∀(its:List Value),be ys its->ys.length<=sizeLine->∀(h':Heap)(g:Nat),(∀b o',s.heap.get? b=some o'->h'.get? b=some o') ->
   h'.get? s.heap.objs.size=some { cls:=.type "list",dict:=none,data:=.seq its.toArray g,slots:=#[] }->EP X af σ Q (.ref s.heap.objs.size) { s with heap:=h' }:=λits G hz h' g kp e=>
  ⟨.ref s.heap.objs.size,_,I.laid (t':=s.toks) kp (vT _) (show cw X.prog X.w _ h' _ (.lst ys)from ⟨hz,its,g,G,e⟩),rfl,q _ (I.hok.fresh (vT _))⟩
 rcases hq with hq|hq
 ·obtain⟨its,G,pl,hz⟩:=I.list hq;have M:=G.length;obtain⟨o,ho,hc,n,hd⟩:=pl.isList;exact call_list_seq p (.inl rfl) ho hc hd (λh' g kp e=>jb its G hz h' g kp e) (by simp only[vH]<;>omega)
 ·obtain⟨its,G,pl,hz⟩:=I.tuple hq;have M:=G.length;obtain⟨o,ho,hc,n,hd⟩:=pl;exact call_list_seq p (.inr rfl) ho hc hd (λh' g kp e=>jb its G hz h' g kp e) (by simp only[vH]<;>omega)
def rQ:cq X (.type "tuple") (λxs H Q=>∃p ys,xs=[.ref p]/\((gn X.K H p ys/\∀l,H l=none->Q (.ref l) (upd H l (.tup ys)))∨(ja X.K H p ys/\Q (.ref p) H))):=by
 intro af s σ H xs us Q I r h;obtain⟨p,ys,rfl,h⟩:=h;obtain⟨u,rfl,O⟩:=hG r;cases O
 rcases h with⟨hq,q⟩|⟨hq,q⟩
 ·obtain⟨its,g,pl,hz⟩:=I.list hq;have G:=g.length;refine call_tuple_list pl.isList (λh' kp=>?_) (by simp only[vH]<;>omega)
  have M:Inv X af σ H { s with heap:=h' }:=I.kept (t':=s.toks) kp;have T:Inv X af σ (upd H h'.objs.size (.tup ys)) { s with heap:=h'.push { cls:=.type "tuple",data:=.seq its.toArray } } :=
   M.laid (t':=s.toks) (λb o e=>vZ _ e) (vT _) (show cw X.prog X.w _ _ _ (.tup ys)from ⟨hz,its,g,IsTup.new _ _⟩)
  exact⟨.ref h'.objs.size,_,T,rfl,q _ (M.hok.fresh (vT _))⟩
 ·obtain⟨its,g,pl,hz⟩:=I.tuple hq;exact call_tuple_same pl ⟨.ref p,H,I,rfl,q⟩
def RM (K:Frag)(T:String)(x:V)(H:Hp):Prop:=match x with
 |.str _=>T = "str"
 |.int _=>T = "int"
 |.ref p=>(T = "list"/\∃xs,gn K H p xs)∨(T = "tuple"/\∃o,K.lookup p=some o/\o.cls=.type "tuple"/\o.dict=none) ∨
   (T = "dict"/\((∃aQ ob,H p=some (.dK aQ ob))∨∃aQ,H p=some (.dT aQ)))∨(T = "set"/\∃S n,H p=some (.set S n))
 |_=>False
def zo (I:Inv X af σ H s)(r:bd x v)(ty:RM X.K T x H):
  s.TypeIs v T/\∀a,v=.ref a->∃ob,s.heap.get? a=some ob/\ob.dict=none:=by
 cases x with
 |str z=>
  obtain⟨t,rfl⟩:=r;cases (show T = "str" from ty)
  exact⟨typeIs_str s z t,λ_ e=>nomatch e⟩
 |int i=>
  obtain⟨t,rfl⟩:=r;cases (show T = "int" from ty)
  exact⟨typeIs_int s i t,λ_ e=>nomatch e⟩
 |ref p=>
  cases r
  rcases ty with⟨rfl,xs,hq⟩|⟨rfl,o,hk,hc,hd⟩|⟨rfl,hk⟩|⟨rfl,S,n,hk⟩
  ·obtain⟨its,_,pl,_⟩:=I.list hq;refine⟨pl.isList.typeIs,λa e=>?_⟩;cases e
   obtain⟨o,n,e,c,hd,_⟩:=pl;exact⟨o,e,hd⟩
  ·refine⟨⟨o,I.kIn p o hk,hc⟩,λa e=>?_⟩;cases e
   exact⟨o,I.kIn _ o hk,hd⟩
  ·have z:∃o,s.heap.get? p=some o/\o.ExactDict:=by
    rcases hk with⟨aQ,g,hk⟩|⟨aQ,hk⟩
    ·obtain⟨_,_,_,_,_,o,_,_,e,ex,_⟩:=I.hok p _ hk;exact⟨o,e,ex⟩
    ·obtain⟨_,_,_,_,o,_,_,e,ex,_⟩:=I.hok p _ hk;exact⟨o,e,ex⟩
   obtain⟨o,e,ex⟩:=z;refine⟨⟨o,e,ex.1⟩,λa e2=>?_⟩;cases e2
   exact⟨o,e,ex.2.1⟩
  ·obtain⟨o,_,_,_,e,ex,_⟩:=I.hok p _ hk;refine⟨⟨o,e,ex.1⟩,λa e2=>?_⟩;cases e2
   exact⟨o,e,ex.2.1⟩
 |_=>exact False.elim ty
def Uc (K:Frag)(T:String)(r:V->List V->Hp->VK->Prop)(to:TE)(t:TA):TE:=λσ H Q=>to σ H λx g=>RM K T x g/\t σ g λxs H2=>r x xs H2 Q
variable {o e:Expr}{es:List Expr}{to:TE}{t:TA}{name:Str}{dG cI:Pos}{T id:String}{r:V->List V->Hp->VK->Prop}
def Dz (pa:PlainAttrs T)(slot:Slot T name id)(U:typeOf (.builtin id)=pure (.type "method_descriptor"))(hm:G2 X id r)(ho:PE X o to)(ha:PA X (e::es) t)
  (G:attributeBase o name X.env (eval o X.env)=eval o X.env:=by rfl)
  (O:((backTo cI (starEach (e::es) X.env)).all (λx=>!x.1) && (backToKw cI (keywordEach [] X.env)).all (λx=>x.1.isSome)
   && decide ((e::es).length+([]:List Keyword).length+(if([]:List Keyword).isEmpty then 0 else 1)<30))=true:=by rfl)
  (M:(dG.endLine == cI.line)=true:=by rfl) (hs:starEach (e::es) X.env=(false,eval e X.env)::starEach es X.env:=by rfl) (g:(backTo cI (starEach es X.env)).any (·.1)=false:=by rfl):
  PE X (.Call (.Attribute o name dG) (e::es) [] cI) (Uc X.K T r to t):=by
 intro af s σ H Q I h;refine wpAny_Call_method_late G O M rfl (c7 (ho af s σ H _ I h) λv s1 ⟨x,H1,I1,r1,ty,q1⟩=>?_);obtain⟨h1,h2⟩:=zo I1 r1 ty;refine⟨T,id,pa,slot,U,h1,h2,?_⟩;have hA:=ha cI af s1 σ H1 _ I1 q1;rw[hs]at hA ⊢;refine Calls.callWith_builtin (by show(false || (backTo cI (starEach es X.env)).any (·.1))=false;rw[g]<;>rfl) (Calls.evalArgs_plain ?_)
 exact c7 hA λus s2 ⟨vs,H2,I2,r2,q2⟩=>hm af s2 σ H2 x vs v us Q I2 r1 r2 q2
/- xs.append(e),list.index on a module's tuple .. are G2 facts of 06m -/
end
def Ud (X:Cx)(id:String)(r:V->List V->Hp->VK->Prop):Prop :=
 ∀(af:List (Addr×Obj))(s:Shared)(σ:St)(H:Hp)(x:V)(xs:List V)(v:Value)(us:List Value)(Q:VK),Inv X af σ H s->bd x v->be xs us->r x xs H Q ->
  wq X (call (.builtin id) (v::us)) (EP X af σ Q) X.xe s
theorem be.one:∀ {x:V}{us:List Value},be [x] us->∃u,us=[u]/\bd x u
 |_,_,.cons r .nil=>⟨_,rfl,r⟩
theorem be.two:∀ {x y:V}{us:List Value},be [x,y] us->∃u v,us=[u,v]/\bd x u/\bd y v
 |_,_,_,.cons r (.cons q .nil)=>⟨_,_,rfl,r,q⟩
theorem be.eraseIdx:∀ {xs:List V}{us:List Value}(i:Nat),be xs us->be (xs.eraseIdx i) (us.eraseIdx i)
 |_,_,_,.nil=>.nil
 |_,_,0,.cons _ t=>t
 |_,_,i+1,.cons r t=>.cons r (be.eraseIdx i t)
theorem be.rep (h:be xs us):∀k:Nat,be (List.replicate k xs).flatten (List.replicate k us).flatten
 |0=>.nil
 |k+1=>by
  rw[List.replicate_succ,List.replicate_succ,List.flatten_cons,List.flatten_cons];exact be.append h (be.rep h k)
theorem sD (its:List Value):∀(k:Nat)(g:List Value),
  List.foldl (λG M=>G++M) g.toArray (List.replicate k its.toArray)=(g++(List.replicate k its).flatten).toArray
 |0,g=>by simp
 |k+1,g=>by
  have e:g.toArray++its.toArray=(g++its).toArray:=by simp
  have e2:(g++its)++(List.replicate k its).flatten=g++(List.replicate (k+1) its).flatten:=by
   rw[List.replicate_succ,List.flatten_cons,List.append_assoc]
  rw[←e2,←sD its k (g++its),←e,List.replicate_succ,List.foldl_cons]
section
variable {X:Cx}{af:List (Addr×Obj)}{σ:St}{H:Hp}{s:Shared}{l b:Addr}{xs ys zs:List V}
def Inv.lset {its its':List Value}{n:Nat}{f:Array Value->Array Value}{t':Nat}(I:Inv X af σ H s)(g:H l=some (.lst xs))
  (e:s.heap.get? l=some { cls:=.type "list",data:=.seq its.toArray n }) (hf:f its.toArray=its'.toArray) (hv:be ys its') (hz:ys.length<=sizeLine):
  Inv X af σ (upd H l (.lst ys)) { s with heap:=s.heap.update l (Obj.mapSeq f),toks:=t' }:=by
 have q:=PySem.IsL.update e f;rw[hf]at q;refine I.write (x:=l) (e:=l) (by rw[g];exact trivial) (.inl rfl) (λb' u hb hu=>(Heap.get?_update_other s.heap (Obj.mapSeq f) (Ne.symm hb)).trans hu) ⟨_,q⟩ ?_;exact⟨hz,its',_,hv,q⟩
def Inv.lnew (I:Inv X af σ H s)(hv:be ys its)(hz:ys.length<=sizeLine):
  Inv X af σ (upd H s.heap.objs.size (.lst ys)) { s with heap:=s.heap.push { cls:=.type "list",data:=.seq its.toArray },toks:=t' } :=
 I.laid (λ_ _ q=>vZ _ q) (vT _) ⟨hz,its,0,hv,vY _ rfl⟩
def Inv.fresh (I:Inv X af σ H s):H s.heap.objs.size=none:=I.hok.fresh (vT _)
def Inv.lstM (I:Inv X af σ H s)(g:H l=some (.lst xs)):xs.length<=sizeLine/\∃(its:List Value)(n:Nat),be xs its/\xs.length=its.length/\s.heap.get? l=some { cls:=.type "list",data:=.seq its.toArray n }:=by
 obtain⟨z,its,n,r,e⟩:=I.hok l _ g;exact⟨z,its,n,r,r.length,e⟩
def D0 (h:n<=sizeLine):Builtin.List.listTooLong n=false:=by
 unfold Builtin.List.listTooLong;exact decide_eq_false (by omega)
end
section
variable {X:Cx}
def As:V->List V->Hp->VK->Prop:=λx vs H Q=>∃l xs y,x=.ref l/\vs=[y]/\H l=some (.lst xs)/\xs.length<sizeLine/\Q .non (upd H l (.lst (xs++[y])))
def sE:Ud X "list.append" As:=by
 intro af s σ H x vs v us Q I G M h;obtain⟨l,xs,y,rfl,rfl,g,hz,q⟩:=h;cases G
 obtain⟨u,rfl,ru⟩:=M.one;obtain⟨z,its,n,r,hl,e⟩:=I.lstM g;refine call_meets F.slot_list_append ⟨_,e,rfl⟩ F.entry_list_append (F.args_list_append_2 _ _) (PySem.list_append l its.toArray n u (by rw[vH];omega)) ⟨e,?_⟩;refine⟨.non,_,I.lset (its':=its++[u]) g e (by simp) (r.append (.cons ru .nil)) ?_,rfl,q⟩;rw[uZ,List.length_singleton];omega
def PL:R2:=λx y H Q=>∃l k xs,x=.ref l/\y=.int k/\H l=some (.lst xs)/\-(2 ^ 63)<=k/\k<2 ^ 63/\xs.length*k.toNat<=sizeLine /\
 ∀p,H p=none->Q (.ref p) (upd H p (.lst (List.replicate k.toNat xs).flatten))
def G5 {α:Type}(xs:List α)(k:Nat):(List.replicate k xs).flatten.length=k*xs.length:=by
 induction k with
 |zero=>simp
 |succ k g=>rw[List.replicate_succ,List.flatten_cons,uZ,g,Nat.succ_mul,Nat.add_comm]
def Kw:dP X (binaryOp .Mult) PL:=by
 intro af s σ H x y v u Q I rx ry h;obtain⟨l,k,xs,rfl,rfl,hH,h1,h2,hz,q⟩:=h;cases rx
 obtain⟨t,rfl⟩:=ry;obtain⟨z,its,n,r,hl,e⟩:=I.lstM hH;have G:its.toArray.size*k.toNat<=sizeLine:=by rw[vH,←hl];exact hz
 have M:¬its.toArray.size*k.toNat > (2 ^ 63 - 1) / 8:=by
  have:(sizeLine:Nat)<=(2 ^ 63 - 1) / 8:=by decide
  omega
 have O:¬(!Builtin.List.listFitsIndex k)=true:=by
  rw[fitsIndex_both h1 h2];exact uX
 have g:¬Builtin.List.listTooLong (its.toArray.size*k.toNat)=true:=by
  rw[D0 G];exact uX
 have Q9:List.foldl (λx1 x2=>x1++x2) #[] (List.replicate (if its.toArray.isEmpty=true then 0 else k.toNat) its.toArray)=(List.replicate k.toNat its).flatten.toArray:=by
  have f0:∀m:Nat,List.foldl (λx1 x2=>x1++x2) #[] (List.replicate m its.toArray)=(List.replicate m its).flatten.toArray:=λm=>by
   have:=sD its m [];rw[List.nil_append]at this;exact this
  rw[f0];cases its with
  |nil=>simp
  |cons a r'=>rw[if_neg (by simp)]
 refine wpAny_binaryOp_repeat_ref (T:="list") (U:="int") (by decide) ⟨_,e,rfl⟩ (λs'=>typeIs_int s' k t) noFill_list_mul F.fills_int_mul F.slot_int_rmul repeat_list F.slot_int_index.lookup
  (call_meets F.slot_int_rmul (typeIs_int s k t) F.entry_int_rmul (F.args_int_rmul_2 _ _) (int___rmul___int_list k t l its.toArray n)
   ⟨e,rfl,⟨_,e,rfl⟩,call_meets F.slot_list_mul ⟨_,e,rfl⟩ F.entry_list_mul (F.args_list_mul_2 _ _) (AutoListH.list___mul___list_int_3 l its.toArray n k t O M g) ⟨e,?_⟩⟩)
 rw[Q9];exact⟨.ref _,_,I.lnew (t':=s.toks) (r.rep k.toNat) (by rw[G5,Nat.mul_comm];exact hz),rfl,q _ I.fresh⟩
end
end L2
namespace Att
open PySem PySem.W PySem.Calls PyProof.Rows
def oU:∀(ns:List Int)(vs:List Value),WellAll P h vs (ns.map WData.int)->IntsAre vs ns:=by
 intro ns;induction ns with
 |nil=>
  intro vs w;rw[List.map_nil]at w;cases w
  exact .nil
 |cons n ns g=>
  intro vs w;rw[uY]at w;cases w with
  |cons a b=>
   cases a
   exact .cons _ _ (g _ b)
def BY {l:OpenLaw}{n:Nat}(hn:l.most=some n){P:Params}{h:Heap}{args:List WData}{vals:List Value}
  (g:l.row.toRowW.claim.pre args=true) (O:WellAll P h vals args):
  ∃a vs ns,vals=[Value.ref a]/\args=[WData.list (ns.map WData.int)]/\h.get? a=some { cls:=.type "list",data:=.seq vs.toArray }/\IntsAre vs ns/\ns.length<=n:=by
 have T:WShape.hasAll [] args [.list .int]=true:=(pre_splitW g).1;have hc:l.pre.holds [] { args:=args }=true:=(pre_splitW g).2;obtain⟨d,r,rfl,h1,h2⟩:=hasAllW_cons T;obtain rfl:=hasAllW_nil h2;obtain⟨xs,rfl,h3⟩:=hasW_list h1;obtain⟨ns,rfl⟩:=items_int h3;have G:ns.length<=n:=by
  unfold OpenLaw.pre at hc;have h4:(WTm.not (.lt (.lit (.int (n:Int))) (.len (.arg 0)))).holds [] { args:=[.list (ns.map .int)] }=true:=by
   have h4:=(holds_andW hc).1;rw[hn]at h4;exact h4
  have h5:=condW_of h4 (w_not (w_lt w_lit (w_len_list (w_arg rfl))));rw[vI]at h5;refine Nat.le_of_not_lt λq=>?_;have U:(n:Int)<((ns.length:Nat):Int):=by omega
  first
   | (rw[decide_eq_true U]at h5;exact absurd h5 (by decide))
   | (simp at h5;omega)
 cases O with
 |cons w1 w2=>
  cases w2
  cases w1 with
  |list ho M=>exact⟨_,_,ns,rfl,rfl,ho,oU ns _ M,G⟩
def BZ (l:OpenLaw)(args:List WData):l.row.toRowW.claim.post args (.bool true) args=true :=
 postW_of (r:=l.row.toRowW) (X:=(true == true))
  (show WShape.has [] (.bool true) .bool=true by first|rfl|decide|simp[WShape.has,WShape.arms,WShape.armsAll])
  (show(WTm.eq .res (.lit (.bool true))).value [] { args:=args,res:=some (.bool true),after:=args }=some (.bool (true == true))from w_eq_bool (w_res rfl) w_lit) rfl
def wK {l:OpenLaw}{n:Nat}{q:Program}{M:List Str}{XP:(Str->Option Value)->Heap->Prop}{YP:World->Heap->Prop}{d:DefRec}
  (hn:l.most=some n) (NZ:d.params.defaults=[])
  (call:∀(w:World)(s₀ g:Shared)(mg mb:Str->Option Value)(fa:Addr)(o:Obj)(pm cd doc:Value)(a:Addr)(vs:List Value)(ns:List Int),
   Ground q M [] XP w s₀ mg mb g.heap->YP w g.heap ->
   g.heap.get? fa=some o->o.data=.func (docDef d.name d.params d.body d.scope pm cd doc)->g.heap.CodeRec cd d.name->mg d.name=some (.ref fa) ->
   g.heap.get? a=some { cls:=.type "list",data:=.seq vs.toArray }->IntsAre vs ns->ns.length<=n->g.gens=#[] ->
   codeAny (model l.prog w) callerA (.call (.ref fa) ⟨[.ref a],[]⟩) (λr s'=>r=.ok (.ret (.bool true))/\OldK g.heap s'.heap/\s'.os=g.os/\AllBare s'.gens) g):
  WalkO q M XP YP l.row.toRowW d [] (λf vs=>PySem.call f vs):=by
 intro w s₀ g mg mb G Y fa o pm cd doc dV kV ho hd LA hD hmg hg args vals as T hlay hrd hwl hlo;obtain rfl:dV=.none:=Dflts.none hD NZ;obtain rfl:kV=.none:=Dflts.noKw hD;obtain⟨a,vs,ns,rfl,rfl,U,O,jW⟩:=BY hn T hwl;refine enter_call (codeAny_mono (call w s₀ g mg mb fa o pm cd doc a vs ns G Y ho (fd_plain hd) LA hmg U O jW hg) λr s' hq=>?_);obtain⟨rfl,h2,h3,h4⟩:=hq;exact⟨.inl ⟨.bool true,.bool true,[],rfl,λ_=>rfl,.bool true,BZ l _,λ_=>⟨List.Pairwise.nil,λ_ hm=>(nomatch hm)⟩⟩,h2,h3,h4⟩
section
variable {prog:Program}{w:World}{A:Around}{E:Value->Shared->Prop}{s:Shared}{K:Frag}
def ML 
  (X:K.In s.heap) (hm:makesIn K C=true) (hi:findIn K (.ref C) "__init__" = some (some (.ref fI))) (hf:isFn K (.ref fI)=true)
  (h:codeAny (model prog w) (A.under (.builtin "type.__call__" ⟨.ref C::aF,kw⟩)) (.call (.ref fI) ⟨.ref (s.heap.objs.size+1)::aF,kw⟩) (InitBack (s.heap.objs.size+1) R)
   { s with heap:=(s.heap.push emptyDict).push (instObj C s.heap.objs.size) }):codeAny (model prog w) A (.call (.ref C) ⟨aF,kw⟩) R s:=by
 obtain⟨hh,g,d,t,os⟩:=s;exact make_core (makes_of X hm) (looks_findIn X hi) (λself=>bind_fn X self (beq_iff_eq.mp hf)) (.inl rfl) h
def LN 
  (X:K.In s.heap) (I:PySem.W.InstAt s.heap x ox C (some (dictOf es n))) (g:plainGet K C name=true) (hh:hasDictIn K C=true) (ha:findIn K (.ref C) name=some none)
  (hl:getL name es=some (some v)) (hv:handedIn v=true) (h:Q v { s with toks:=s.toks+1 }):wpAny (model prog w) A (getAttr (.ref x) name expr) Q E s :=
 get_value X I (plainGet_of g).1 (findObj_own hh ha rfl hl) hv h
def PM (h:Heap)(L d:Addr):List (Addr×Obj):=(List.range h.objs.size).filterMap λa=>if a=L∨a=d then none else (h.get? a).map λo=>(a,o)
end
end Att
namespace L2
open PySem PySem.Spec PyProof.Rows
theorem kP:∀ {vs:List Value}{ns:List Int},IntsAre vs ns->be (ns.map V.int) vs
 |_,_,.nil=>.nil
 |_,_,.cons n t h=>.cons ⟨t,rfl⟩ (kP h)
noncomputable def gp (s:Stmt):Arguments:=match s with
 |.FunctionDef _ a _ _ _ _ _ _ _ _=>a
 |_=>{ posonlyargs:=[],args:=[],vararg:=none,kwonlyargs:=[],kw_defaults:=[],kwarg:=none,defaults:=[] }
noncomputable def cL (s:Stmt):List Stmt:=match s with
 |.FunctionDef _ _ b _ _ _ _ _ _ _=>b
 |_=>[]
noncomputable def aW (s:Stmt):Scope:=match s with
 |.FunctionDef _ _ _ _ _ _ sc _ _ _=>sc
 |_=>{ kind:=.function,names:=[],isGenerator:=false,isCoroutine:=false }
abbrev yT:IV:=λ_ _ _ _ _ _=>False
abbrev E0:XK:=λ_ _ _=>False
def MN:zi yT X E0:=λ_ _ _ _ _ _ _ h=>h.elim
structure LB (K:Frag)(x qual:Str)(st:Stmt)(f:Addr)(fd:FuncData):Prop where
 ex:∃(oc:Value)(od:Option Addr)(kV doc pm:Value)(an:Option Addr)(eQ ct:Value)(oR:Array (Option Value)),
  fd=fnOf x qual (gp st) (cL st) (aW st) .none kV doc pm an eQ ct/\K.lookup f=some ⟨oc,od,.func fd,oR⟩/\PySem.W.codeIn K eQ qual=true
 kp:PySem.W.keepIn K (.ref f)=true
section
variable {P:Program}{w:World}{K:Frag}{mg:Str->Option Value}{base:Heap}
def LB.ok {x qual:Str}{st:Stmt}{f:Addr}{fd:FuncData}{N ps:List Str}{k:Nat}{sp:Sp}(F:LB K x qual st f fd)(S:FnScope N ps (aW st))(len:∀vs H Q E,sp vs H Q E->vs.length=ps.length)
  (g:∀(eQ:Value)(A:Around)(outer:List Env)(s:Shared)(H:Hp)(vs:List V)(Q:VK)(E:XK),eV k (A.deeper (envOfC qual (aW st) s.heap.objs.size f eQ))->sp vs H Q E ->
   ∃t,sr (oS yT P w K mg base N qual (aW st) f eQ A outer s H E).nox (cL st) t/\t { nx:=λ_ H'=>Q .non H',rt:=Q } (hJ N vs) H):sj P w K mg base yT (k+1) f fd ps sp:=by
 obtain⟨oc,od,kV,doc,pm,an,eQ,ct,oR,rfl,O,G⟩:=F.ex;refine IW O G S len λA outer s H vs Q E T M=>?_;obtain⟨t,h,q⟩:=g eQ A outer s H vs Q E T M;exact⟨t,h.nox,q⟩
def LB.binds {x qual:Str}{st:Stmt}{f:Addr}{fd:FuncData}{ps:List Str}(F:LB K x qual st f fd)
  (h:∀(kV doc pm:Value)(an:Option Addr)(eQ ct:Value)(us:List Value),us.length=ps.length->bindArgs (fnOf x qual (gp st) (cL st) (aW st) .none kV doc pm an eQ ct) ⟨us,[]⟩=pure (ps.zip us)):sv K fd ps []:=by
 obtain⟨oc,od,kV,doc,pm,an,eQ,ct,oR,rfl,G,g⟩:=F.ex;exact .all (h kV doc pm an eQ ct)
def Kx {x qual:Str}{st:Stmt}{f:Addr}{oc:Value}{od an:Option Addr}{oR:Array (Option Value)}{kV doc pm eQ ct:Value}(l:K.lookup f=some ⟨oc,od,.func (fnOf x qual (gp st) (cL st) (aW st) .none kV doc pm an eQ ct),oR⟩)
  (c:PySem.W.codeIn K eQ qual=true) (k:PySem.W.keepIn K (.ref f)=true):LB K x qual st f (fnOf x qual (gp st) (cL st) (aW st) .none kV doc pm an eQ ct):=⟨⟨oc,od,kV,doc,pm,an,eQ,ct,oR,rfl,l,c⟩,k⟩
end
def bf (H H':Hp):Prop:=∀b o,H b=some o->H' b=some o
def bf.refl (H:Hp):bf H H:=λ_ _ h=>h
def bf.trans (a:bf H H1)(b:bf H1 H2):bf H H2:=λc o h=>b c o (a c o h)
def bf.free (e:bf H H')(h:H' l=Option.none):H l=Option.none:=by
 cases q:H l with
 |none=>rfl
 |some o=>
  rw[e l o q]at h;cases h
def bf.seq {K:Frag}{H H':Hp}{a:Addr}{xs:List V}(e:bf H H')(h:gn K H a xs):gn K H' a xs:=by
 rcases h with (h|⟨o,h⟩)|h
 ·exact .inl (.inl (e _ _ h))
 ·exact .inl (.inr ⟨o,e _ _ h⟩)
 ·exact .inr h
section
variable {κ:Type}[DecidableEq κ]
noncomputable def jx (aQ:List (κ×V))(k:κ):Option V:=(aQ.find? λkv=>decide (kv.1=k)).map (·.2)
def mh (aQ:List (κ×V))(k:κ)(v:V):List (κ×V) :=
 if(aQ.any λkv=>decide (kv.1=k))=true then aQ.map (λkv=>if kv.1=k then (kv.1,v)else kv)else aQ++[(k,v)]
def mi {p:κ×V}{r:List (κ×V)}{k:κ}(e:p.1=k):jx (p::r) k=some p.2:=by simp[jx,List.find?_cons,e]
def ml {p:κ×V}{r:List (κ×V)}{k:κ}(e:¬p.1=k):jx (p::r) k=jx r k:=by simp[jx,List.find?_cons,e]
theorem wL (k:κ):∀aQ:List (κ×V),(aQ.any λkv=>decide (kv.1=k))=(jx aQ k).isSome
 |[]=>rfl
 |p::r=>by
  rw[List.any_cons];by_cases e:p.1=k
  ·simp only[mi e,decide_eq_true e,Bool.true_or,Option.isSome_some]
  ·rw[ml e,decide_eq_false e,Bool.false_or];exact wL k r
def jZ (aQ:List (κ×V))(k:κ)(v:V):(mh aQ k v).length<=aQ.length+1:=by
 unfold mh;split
 ·rw[vI];omega
 ·rw[uZ,vE,List.length_nil];omega
def ln.isSome_eq (r:ln o u):o.isSome=u.isSome:=by
 cases o with
 |none=>cases u with
  |none=>rfl
  |some _=>exact(show False from r).elim
 |some _=>cases u with
  |none=>exact(show False from r).elim
  |some _=>rfl
def ln.getD (r:ln o u)(g:bd d d'):bd (o.getD d) (u.getD d'):=by
 cases o with
 |none=>cases u with
  |none=>exact g
  |some _=>exact(show False from r).elim
 |some _=>cases u with
  |none=>exact(show False from r).elim
  |some _=>exact r
def KV.val {aQ:List (κ×V)}{vs:List (κ×Value)}(r:KV aQ vs)(k:κ):ln (jx aQ k) (valueAt vs k):=by
 unfold KV at r;induction r with
 |nil=>exact True.intro
 |@cons p q ps g h t M=>
  obtain⟨h1,h2⟩:=h;by_cases e:p.1=k
  ·have G:q.1=k:=h1.symm.trans e;have b:valueAt (q::g) k=some q.2:=by simp[valueAt,List.find?_cons,G]
   rw[mi e,b];exact h2
  ·have G:¬q.1=k:=λz=>e (h1.trans z);have b:valueAt (q::g) k=valueAt g k:=by simp[valueAt,List.find?_cons,G]
   rw[ml e,b];exact M
def KV.any (r:KV aQ vs)(k:κ):(aQ.any λkv=>decide (kv.1=k))=vs.any λkv=>decide (kv.1=k):=by
 unfold KV at r;induction r with
 |nil=>rfl
 |cons h t g=>rw[List.any_cons,List.any_cons,g,h.1]
def KV.repl (r:KV aQ vs)(k:κ)(g:bd y u):
  KV (aQ.map λkv=>if kv.1=k then (kv.1,y)else kv) (vs.map λkv=>if kv.1=k then (kv.1,u)else kv):=by
 unfold KV at r ⊢;induction r with
 |nil=>exact .nil
 |@cons p q ps M h t G=>
  rw[uY,uY];refine .cons ?_ G;obtain⟨h1,h2⟩:=h;by_cases e:p.1=k
  ·rw[if_pos e,if_pos (h1.symm.trans e)];exact⟨h1,g⟩
  ·rw[if_neg e,if_neg (λz=>e (h1.trans z))];exact⟨h1,h2⟩
def KV.put (r:KV aQ vs)(k:κ)(g:bd y u):KV (mh aQ k y) (stored vs k u):=by
 unfold mh stored;rw[r.any k];by_cases e:(vs.any λkv=>decide (kv.1=k))=true
 ·rw[if_pos e,if_pos e];exact r.repl k g
 ·rw[if_neg e,if_neg e];exact Paired.snoc r ⟨rfl,g⟩
def KV.length (r:KV aQ vs):aQ.length=vs.length:=Paired.length r
end
def pF (r:bd (kV k) u):(c8 P w).is k u=true:=by
 cases k with
 |inl i=>obtain⟨t,e⟩:=(show ∃t,u=Value.int i t from r);subst e;exact wB P w i t
 |inr x=>obtain⟨t,e⟩:=(show ∃t,u=Value.str x t from r);subst e;exact wC P w x t
theorem sG:∀ {ks:List cF}{us:List Value},be (ks.map kV) us->ItemsAre (c8 P w) ks us
 |[],_,r=>by rw[List.map_nil]at r;cases r;exact .nil
 |k::ks,_,r=>by
  rw[uY]at r;cases r with
  |cons h t=>exact .cons (pF h) (sG t)
abbrev KT (H:Hp):List (List cF×V)->List (List cF×Addr×Value)->Prop:=Paired λp q=>p.1=q.1/\H q.2.1=some (.tup (p.1.map kV))/\bd p.2 q.2.2
def KT.val {H:Hp}{aQ:List (List cF×V)}{xs:List (List cF×Addr×Value)}(r:KT H aQ xs)(k:List cF):ln (jx aQ k) ((atKey xs k).map (·.2)):=by
 induction r with
 |nil=>exact True.intro
 |@cons p q ps g h t M=>
  obtain⟨h1,_,h2⟩:=h;by_cases e:p.1=k
  ·have G:q.1=k:=h1.symm.trans e;have b:atKey (q::g) k=some q.2:=by simp[atKey,List.find?_cons,G]
   rw[mi e,b];exact h2
  ·have G:¬q.1=k:=λz=>e (h1.trans z);have b:atKey (q::g) k=atKey g k:=by simp[atKey,List.find?_cons,G]
   rw[ml e,b];exact M
def KT.repl (r:KT H aQ xs)(k:List cF)(g:bd y u):
  KT H (aQ.map λkv=>if kv.1=k then (kv.1,y)else kv) (xs.map (putAt k u)):=by
 induction r with
 |nil=>exact .nil
 |@cons p q ps M h t G=>
  rw[uY,uY];refine .cons ?_ G;obtain⟨h1,h2,h3⟩:=h;unfold putAt;by_cases e:p.1=k
  ·rw[if_pos e,if_pos (h1.symm.trans e)];exact⟨h1,h2,g⟩
  ·rw[if_neg e,if_neg (λz=>e (h1.trans z))];exact⟨h1,h2,h3⟩
def KT.put (r:KT H aQ xs)(k:List cF)(hb:H b=some (.tup (k.map kV)))(g:bd y u):
  KT H (mh aQ k y) (storedH xs k b u):=by
 have e:(aQ.any λkv=>decide (kv.1=k))=(atKey xs k).isSome:=by
  rw[wL,(r.val k).isSome_eq,Option.isSome_map]
 unfold mh storedH;rw[e];by_cases q:(atKey xs k).isSome=true
 ·rw[if_pos q,if_pos q];exact r.repl k g
 ·rw[if_neg q,if_neg q];exact Paired.snoc r ⟨rfl,hb,g⟩
def KT.keeps (r:KT H aQ xs)(g:∀b ys,H b=some (.tup ys)->H' b=some (.tup ys)):KT H' aQ xs :=
 Paired.mapP r λ_ _ z=>⟨z.1,g _ _ z.2.1,z.2.2⟩
section
variable {P:Program}{w:World}{H:Hp}{h:Heap}{a:Addr}
def IY (ok:lq P w H h)(e:Rd H a u):cw P w H h a u:=e.ok ok
def zp (ok:lq P w H h)(e:H a=some (.dK aQ ob)):h.get? a=some ob:=And.left (show cw P w H h a (.dK aQ ob)from ok a _ e)
def pG (ok:lq P w H h)(e:Rd H a (.dK aQ ob)):aQ.length<=sizeLine/\(a == sysModules)=false/\∃vs,KV aQ vs/\h.DictOf (c8 P w) a vs :=
 And.right (show cw P w H h a (.dK aQ ob)from IY ok e)
def sJ (ok:lq P w H h)(e:H a=some (.dK aQ ob)):aQ.length<=sizeLine/\(a == sysModules)=false/\∃vs,KV aQ vs/\h.DictOf (c8 P w) a vs:=pG ok (.inl e)
def nz (ok:lq P w H h)(e:H a=some (.tup (ks.map kV))):(tupleKind (c8 P w)).is h ks a:=by
 obtain⟨_,its,r,o,h1,h2,n,h3⟩:=(show cw P w H h a (.tup (ks.map kV))from ok a _ e);exact⟨o,its.toArray,n,h1,h2,h3,by simpa using sG r⟩
def pH (ok:lq P w H h)(e:Rd H a (.dT aQ)):aQ.length<=sizeLine/\(a == sysModules)=false /\
  ∃xs,KT H aQ xs/\h.DictOfH (tupleKind (c8 P w)) a xs:=by
 obtain⟨z,y,xs,r,o,es,g,h1,h2,h3,h4,h5⟩:=(show cw P w H h a (.dT aQ)from IY ok e);refine⟨z,y,xs,r,o,es,g,h1,h2,h3,h4,λx hx=>?_,h5⟩;have all:∀ {l:List (List cF×V)}{m:List (List cF×Addr×Value)},KT H l m->∀x∈m,(tupleKind (c8 P w)).is h x.1 x.2.1:=by
  intro l m q;induction q with
  |nil=>intro x hx;exact nomatch hx
  |@cons p q ps M hq t G=>
   intro x hx;rcases vP hx with e|hx
   ·subst e;exact nz ok (by rw[←hq.1];exact hq.2.1)
   ·exact G x hx
 exact all r x hx
def MO (ok:lq P w H h)(e:H a=some (.dT aQ)):aQ.length<=sizeLine/\(a == sysModules)=false /\
  ∃xs,KT H aQ xs/\h.DictOfH (tupleKind (c8 P w)) a xs:=pH ok (.inl e)
end
def pJ (H:Hp)(a:Addr)(y:V)(r:Option V):Prop :=
 (∃aQ k ob,Rd H a (.dK aQ ob)/\y=kV k/\r=jx aQ k)∨∃aQ k b,Rd H a (.dT aQ)/\y=.ref b/\H b=some (.tup (k.map kV))/\r=jx aQ k
def MP (H:Hp)(a:Addr)(y v:V)(Q:Hp->Prop):Prop :=
 (∃aQ k ob,H a=some (.dK aQ ob)/\y=kV k/\aQ.length<sizeLine/\∀g,Q (upd H a (.dK (mh aQ k v) g))) ∨
 ∃aQ k b,H a=some (.dT aQ)/\y=.ref b/\H b=some (.tup (k.map kV))/\aQ.length<sizeLine/\Q (upd H a (.dT (mh aQ k v)))
def pJ.t (e:H a=some (.dT aQ))(g:H b=some (.tup (k.map kV))):pJ H a (.ref b) (jx aQ k):=.inr ⟨aQ,k,b,.inl e,rfl,g,rfl⟩
section
variable {X:Cx}{af:List (Addr×Obj)}{σ:St}{H:Hp}{s:Shared}{a:Addr}{y v:V}{u r:Value}{o:Option V}{A:Around}{E:Value->Shared->Prop}
def Inv.big (I:Inv X af σ H s):sysModules<s.heap.objs.size:=by
 have h:mainGlobals<s.heap.objs.size:=(I.mod.glob.keeps I.bk).lt;exact Nat.lt_trans (by decide) h
def Ca (hu:A.units+1<cLine)(I:Inv X af σ H s)(g:pJ H a y (some v))(ry:bd y u)(h:∀O s',Inv X af σ H s'->bd v O->Q O s'):
  wpAny (model X.prog X.w) A (getItem (.ref a) u) Q E s:=by
 rcases g with⟨aQ,k,ob,e,T,l⟩|⟨aQ,k,b,e,T,eb,l⟩
 ·subst T;obtain⟨z,hd,vs,G,dd⟩:=pG I.hok e;obtain⟨O,hw,M⟩:=ln.some_of (v:=v) (o:=valueAt vs k) (by rw[l];exact G.val k);exact wpAny_getItem_of (pF ry) dd.mapOf hw (h O _ (I.tok _) M)
 ·subst T;cases (show u=Value.ref b from ry)
  obtain⟨z,hd,xs,G,dd⟩:=pH I.hok e;obtain⟨O,hw,M⟩:=ln.some_of (v:=v) (o:=(atKey xs k).map (·.2)) (by rw[l];exact G.val k);obtain⟨p,hp,U⟩:=oY hw;refine wpAny_getItem_heap (tupleKind_room_in1 hu) (nz I.hok eb) dd hp ?_;rw[U];exact h O _ (I.tok _) M
def PN (hu:A.units+1<cLine)(I:Inv X af σ H s)(g:pJ H a y o)(O:bd y u)(h:∀s',Inv X af σ H s'->Q (.bool o.isSome) s'):
  wpAny (model X.prog X.w) A (compareOp .In u (.ref a)) Q E s:=by
 rcases g with⟨aQ,k,ob,e,M,l⟩|⟨aQ,k,b,e,M,T,l⟩
 ·subst M;obtain⟨z,hd,vs,G,dd⟩:=pG I.hok e;refine wpAny_in_of (pF O) hd dd.mapOf ?_;rw[←(G.val k).isSome_eq,←l];exact h _ (I.tok _)
 ·subst M;cases (show u=Value.ref b from O)
  obtain⟨z,hd,xs,G,dd⟩:=pH I.hok e;refine wpAny_in_heap (tupleKind_room_in1 hu) (nz I.hok T) hd dd ?_;have q:=(G.val k).isSome_eq;rw[Option.isSome_map]at q;rw[←q,←l];exact h _ (I.tok _)
def G6 (hu:A.units+1<cLine)(I:Inv X af σ H s)(g:pJ H a y o)(O:bd y u)(h:∀s',Inv X af σ H s'->Q (.bool (!o.isSome)) s'):
  wpAny (model X.prog X.w) A (compareOp .NotIn u (.ref a)) Q E s:=by
 rcases g with⟨aQ,k,ob,e,M,l⟩|⟨aQ,k,b,e,M,T,l⟩
 ·subst M;obtain⟨z,hd,vs,G,dd⟩:=pG I.hok e;refine wpAny_notIn_of (pF O) hd dd.mapOf ?_;rw[←(G.val k).isSome_eq,←l];exact h _ (I.tok _)
 ·subst M;cases (show u=Value.ref b from O)
  obtain⟨z,hd,xs,G,dd⟩:=pH I.hok e;refine wpAny_notIn_heap (tupleKind_room_in1 hu) (nz I.hok T) hd dd ?_;have q:=(G.val k).isSome_eq;rw[Option.isSome_map]at q;rw[←q,←l];exact h _ (I.tok _)
def u6 (I:Inv X af σ H s)(g:Mn (H a))(hs:Heap.SameBut a s.heap h')(he:∃q,h'.get? a=some q)(new:cw X.prog X.w (upd H a ob) h' a ob):
  Inv X af σ (upd H a ob) { s with heap:=h',toks:=t' } :=
 I.write (x:=a) (e:=a) g (.inl rfl) (λb q hb z=>(hs.2 b hb).trans z) he new
def D1 (z:aQ.length<=sizeLine)(hd:(a == sysModules)=false)(g:KV aQ vs)(dd:h'.DictOf (c8 P w) a vs)(G:h'.get? a=some ob):
  cw P w H' h' a (.dK aQ ob):=⟨G,z,hd,vs,g,dd⟩
def Cb (hu:A.units+1<cLine)(I:Inv X af σ H s)(g:MP H a y v R)(U:bd y u)(rv:bd v r)(h:∀H' s',R H'->Inv X af σ H' s'->Q () s'):
  wpAny (model X.prog X.w) A (setItem (.ref a) u r) Q E s:=by
 rcases g with⟨aQ,k,ob,e,O,l,T⟩|⟨aQ,k,b,e,O,eb,l,T⟩
 ·subst O;obtain⟨z,hd,vs,G,dd⟩:=sJ I.hok e;have hz:vs.length<=sizeLine:=by rw[←G.length];exact z
  have hl:(mh aQ k v).length<=sizeLine:=by have:=jZ aQ k v;omega
  refine wpAny_setItem_pairs (hsz:=hz) (pF U) dd λh' M hs=>?_;obtain⟨q,hq⟩:∃q,h'.get? a=some q:=let ⟨q,_,_,hq,_⟩:=M;⟨q,hq⟩;exact h _ _ (T q) (u6 I (by rw[e];exact True.intro) hs ⟨q,hq⟩ (D1 hl hd (G.put k rv) M hq))
 ·subst O;cases (show u=Value.ref b from U)
  obtain⟨z,hd,xs,G,dd⟩:=MO I.hok e;have hz:xs.length<=sizeLine:=by rw[←Paired.length G];exact z
  have hl:(mh aQ k v).length<=sizeLine:=by have:=jZ aQ k v;omega
  refine wpAny_setItem_heap (hsz:=hz) (tupleKind_room_in1 hu) (nz I.hok eb) dd λh' M hs=>h _ _ T ?_;obtain⟨q,es,ep,hq,h2,h3,h4,_,h5⟩:=M;refine u6 I (by rw[e];exact True.intro) hs ⟨q,hq⟩ ⟨hl,hd,_,(G.put k eb rv).keeps λc ys ec=>?_,q,es,ep,hq,h2,h3,h4,h5⟩;rw[aM (Mm ec e (λz=>nomatch z))];exact ec
end
def Ky (i:Expr):Prop:=∀g iv,subscripted i false g iv=operate [g,iv] (getItem g iv)
def G7 {prog:Program}{w:World}{A:Around}{E:Value->Shared->Prop}{s:Shared}{env:Env}{G g:Expr}{pos:Pos}{T id:String}{Q:Value->Shared->Prop}
  (hl:typeLookup (.type T) "__getitem__" = pure (some (.builtin id))) (hs:Ky g)
  (h:wpAny (model prog w) A (eval G env) (λo U=>wpAny (model prog w) A (eval g env) (λi M=>M.TypeIs o T/\wpAny (model prog w) A (getItem o i) Q E M) E U) E s):
  wpAny (model prog w) A (eval (.Subscript G g pos) env) Q E s:=by
 refine Subscript_ (wpAny_mono h (λo U h₁=>wpAny_mono h₁ (λi M O=>?_) λ_ _ x=>x) λ_ _ x=>x);obtain⟨hT,O⟩:=O;unfold subscriptTail;refine wX ?_;rw[getitemInPython_of_ne hT.not_modules];refine wX (wpAny_specialOf hT hl ?_);have jb:wpAny (model prog w) A (subscripted g false o i) (λr s₃=>wpAny (model prog w) A (letTemporaryGo G o r>>=λ_=>pure r) Q E s₃) E M:=by
  rw[hs o i];exact wpAny_operating (wpAny_mono O (λr s₃ h₃=>wX (wpAny_letTemporaryGo (wY h₃))) λ_ _ x=>x)
 first
  |exact wY (wX jb)
  |exact wX (wY (wX jb))
  |exact wX jb
def wM (I:Inv X af σ H s)(g:pJ H a y o):s.TypeIs (.ref a) "dict":=by
 rcases g with⟨aQ,k,G,e,_,_⟩|⟨aQ,k,b,e,_,_,_⟩
 ·obtain⟨_,_,vs,_,dd⟩:=pG I.hok e;exact dd.typeIs
 ·obtain⟨_,_,xs,_,dd⟩:=pH I.hok e;exact dd.typeIs
def MQ (g ty:TE):TE:=λσ H Q=>g σ H λx G=>ty σ G λy H2=>∃a v,x=.ref a/\pJ H2 a y (some v)/\Q v H2
def PP (ty g:TE):TE:=λσ H Q=>ty σ H λy G=>g σ G λx H2=>∃a o,x=.ref a/\pJ H2 a y o/\Q (.bl o.isSome) H2
def G8 (ty g:TE):TE:=λσ H Q=>ty σ H λy G=>g σ G λx H2=>∃a o,x=.ref a/\pJ H2 a y o/\Q (.bl (!o.isSome)) H2
def Au (g ty G:TE):TS:=λD σ H=>G σ H λv M=>g σ M λx H2=>ty σ H2 λy O=>∃a,x=.ref a/\MP O a y v (D.nx σ)
section
variable {X:Cx}{o i e value:Expr}{pos FN L8:Pos}{td ty tv:TE}
def G9 (hu:X.A.units+1<cLine)(ho:PE X o td)(hi:PE X i ty)(hs:Ky i):PE X (.Subscript o i pos) (MQ td ty):=by
 intro af s σ H Q I h;refine G7 PySem.F.slot_dict_getitem.lookup hs (c7 (ho af s σ H _ I h) λu s1 ⟨x,O,T,U,q1⟩=>c7 (hi af s1 σ O _ T q1) λiv s2 ⟨y,H2,M,ry,a,v,ex,g,q2⟩=>?_);subst ex;obtain rfl:u=Value.ref a:=U;exact⟨wM M g,Ca hu M g ry λw' s3 I3 G=>⟨v,H2,I3,G,q2⟩⟩
def D2 (hu:X.A.units+1<cLine)(hi:PE X i ty)(ho:PE X o td):PC X .In i o (PP ty td):=by
 intro af s σ H Q I h;refine c7 (hi af s σ H _ I h) λiv s1 ⟨y,G,M,O,T⟩=>c7 (ho af s1 σ G _ M T) λu s2 ⟨x,H2,U,rx,a,ov,ex,g,q2⟩=>?_;subst ex;obtain rfl:u=Value.ref a:=rx;exact PN hu U g O λs3 I3=>⟨.bl ov.isSome,H2,I3,rfl,q2⟩
def Cc (hu:X.A.units+1<cLine)(hi:PE X i ty)(ho:PE X o td):PC X .NotIn i o (G8 ty td):=by
 intro af s σ H Q I h;refine c7 (hi af s σ H _ I h) λiv s1 ⟨y,G,M,O,T⟩=>c7 (ho af s1 σ G _ M T) λu s2 ⟨x,H2,U,rx,a,ov,ex,g,q2⟩=>?_;subst ex;obtain rfl:u=Value.ref a:=rx;exact G6 hu U g O λs3 I3=>⟨.bl (!ov.isSome),H2,I3,rfl,q2⟩
def uA (hu:X.A.units+1<cLine)(ho:PE X o td)(hi:PE X i ty)(hv:PE X value tv)(hs:swapsWith value (some (.Subscript o i FN)) pos.line X.env=pure false):
  PS X (.Assign [.Subscript o i FN] value pos) (Au td ty tv):=by
 intro af s σ H D I h;refine wpAny_Assign_Subscript (c7 (hv af s σ H _ I h) λr s1 ⟨v,G,M,O,T⟩=>c7 (ho af s1 σ G _ M T) λu s2 ⟨x,H2,U,rx,q2⟩=>c7 (hi af s2 σ H2 _ U q2) λiv s3 ⟨y,H3,I3,ry,a,ex,g⟩=>?_) hs;subst ex;obtain rfl:u=Value.ref a:=rx;exact Cb hu I3 g ry O λH4 s4 q3 I4=>⟨σ,H4,I4,q3⟩
end
def wN (h:Heap)(hb:sysModules<h.objs.size):cw P w H (h.push { cls:=.type "dict",data:=.dict #[] }) h.objs.size (.dK [] { cls:=.type "dict",data:=.dict #[] }) :=
 ⟨vY _ rfl,uN _,beq_eq_false_iff_ne.mpr (Ne.symm (vS hb)),[],.nil,Heap.DictOf.new h⟩
def D3 (h:Heap)(hb:sysModules<h.objs.size):cw P w H (h.push { cls:=.type "dict",data:=.dict #[] }) h.objs.size (.dT []) :=
 ⟨uN _,beq_eq_false_iff_ne.mpr (Ne.symm (vS hb)),[],.nil,_,#[],0,vY _ rfl,⟨rfl,rfl,rfl⟩,rfl,rfl,List.nodup_nil⟩
def D4:TE:=λ_ H Q=>∀p ob,H p=none->Q (.ref p) (upd H p (.dK [] ob))
def D5:TE:=λ_ H Q=>∀p,H p=none->Q (.ref p) (upd H p (.dT []))
section
variable {X:Cx}{pos:Pos}
def D6:PE X (.Dict [] [] pos) D4:=λaf s σ H Q I h=>
 wpAny_Dict_empty ⟨.ref s.heap.objs.size,_,I.laid (a:=s.heap.objs.size) (o:=.dK [] { cls:=.type "dict",data:=.dict #[] }) (t':=s.toks) (λ_ _ q=>vZ _ q) (vT _) (wN s.heap I.big),rfl,h _ _ (I.hok.fresh (vT _))⟩
def D7:PE X (.Dict [] [] pos) D5:=λaf s σ H Q I h=>
 wpAny_Dict_empty ⟨.ref s.heap.objs.size,_,I.laid (a:=s.heap.objs.size) (o:=.dT []) (t':=s.toks) (λ_ _ q=>vZ _ q) (vT _) (D3 s.heap I.big),rfl,h _ (I.hok.fresh (vT _))⟩
end
structure M1 (X:Cx)(o:Expr)(m:Str)(dG:Pos)(e:Expr)(cI:Pos):Prop where
 base:attributeBase o m X.env (eval o X.env)=eval o X.env
 few:((backTo cI (starEach [e] X.env)).all (λx=>!x.1) && (backToKw cI (keywordEach [] X.env)).all (λx=>x.1.isSome)
  && decide (([e]:List Expr).length+([]:List Keyword).length+(if([]:List Keyword).isEmpty then 0 else 1)<30))=true
 line:(dG.endLine == cI.line)=true
 trees:backTo cI (starEach [e] X.env)=[(false,eval e X.env)]
def RN (H:Hp)(a:Addr):Prop:=(∃aQ ob,Rd H a (.dK aQ ob))∨∃aQ,Rd H a (.dT aQ)
def Kz (I:Inv X af σ H s)(d:RN H a):
  s.TypeIs (.ref a) "dict"/\(∀b,Value.ref a=.ref b->∃ob,s.heap.get? b=some ob/\ob.dict=none)/\(a == sysModules)=false:=by
 rcases d with⟨aQ,g,e⟩|⟨aQ,e⟩
 ·obtain⟨_,hd,vs,_,dd⟩:=pG I.hok e;refine⟨dd.typeIs,λb q=>?_,hd⟩;cases q
  obtain⟨ob,_,_,h1,h2,_⟩:=dd;exact⟨ob,h1,h2.2.1⟩
 ·obtain⟨_,hd,xs,_,dd⟩:=pH I.hok e;refine⟨dd.typeIs,λb q=>?_,hd⟩;cases q
  obtain⟨ob,_,_,h1,h2,_⟩:=dd;exact⟨ob,h1,h2.2.1⟩
section
variable {X:Cx}{af:List (Addr×Obj)}{σ:St}{H:Hp}{s:Shared}{a:Addr}{y d:V}{u r:Value}{o:Option V}{A:Around}{E:Value->Shared->Prop}
def K0 (hu:A.units+1<cLine)(I:Inv X af σ H s)(g:pJ H a y o)(O:bd y u)(h:∀T s',Inv X af σ H s'->bd (o.getD .non) T->Q T s'):
  wpAny (model X.prog X.w) A (call (.builtin "dict.get") [.ref a,u]) Q E s:=by
 rcases g with⟨aQ,k,ob,e,M,l⟩|⟨aQ,k,b,e,M,U,l⟩
 ·subst M;obtain⟨z,hd,vs,G,dd⟩:=pG I.hok e;refine call_meetsIn PySem.F.slot_dict_get dd.typeIs PySem.F.entry_dict_get (PySem.F.args_dict_get_2 _ _) (meets_dict_get (c8 X.prog X.w) a (pF O) hd) ⟨_,dd.mapOf,h _ _ (I.tok _) ?_⟩;rw[l];exact(G.val k).getD rfl
 ·subst M;cases (show u=Value.ref b from O)
  obtain⟨z,hd,xs,G,dd⟩:=pH I.hok e;refine call_meetsIn PySem.F.slot_dict_get dd.typeIs PySem.F.entry_dict_get (PySem.F.args_dict_get_2 _ _) (meetsH_dict_get (tupleKind (c8 X.prog X.w)) a b hd) ⟨tupleKind_room_in1 hu,k,xs,nz I.hok U,dd,h _ _ (I.tok _) ?_⟩;rw[l];exact(G.val k).getD rfl
end
def K1 (G ty:TE):TE:=λσ H Q=>G σ H λx g=>∃a,x=.ref a/\RN g a/\ty σ g λy H2=>∃o,pJ H2 a y o/\Q (o.getD .non) H2
section
variable {X:Cx}{o e f:Expr}{dG cI:Pos}{td ty tx:TE}
def wO (hu:X.A.units+1<cLine)(ho:PE X o td)(he:PE X e ty)(m:M1 X o "get" dG e cI):PE X (.Call (.Attribute o "get" dG) [e] [] cI) (K1 td ty):=by
 intro af s σ H Q I h;refine wpAny_Call_method m.base m.few m.line PySem.F.plainAttrs_dict PySem.F.slot_dict_get PySem.F.type_dict_get (c7 (ho af s σ H _ I h) λu s1 ⟨x,O,M,T,a,ex,d,U⟩=>?_);subst ex;obtain rfl:u=Value.ref a:=T;obtain⟨t1,t2,_⟩:=Kz M d;refine⟨t1,t2,?_⟩;rw[m.trees];refine Calls.callWith_builtin rfl (Calls.evalArgs_plain (Calls.spliced_cons (c7 (he af s1 σ O _ M U) λiv s2 ⟨y,H2,I2,ry,ov,g,q2⟩=>Calls.spliced_nil ?_)));exact K0 hu I2 g ry λw' s3 I3 G=>⟨_,H2,I3,G,q2⟩
end
end L2
namespace DL
open PySem L2
set_option linter.all false
abbrev St:=L2.St
inductive D where
 |non|bl (b:Bool)|int (i:Int)|str (x:Str)|ty (n:String)|tup (ds:List D)|lst (ds:List D)
  |dk (ks:List cF) (vs:List D)|dt (ks:List (List cF)) (vs:List D)
abbrev OB:=Option (D×Bool)
mutual
inductive Is (K:Frag)(H:Hp):V->D->Prop where
 |non:Is K H .non .non
 |bl (b:Bool):Is K H (.bl b) (.bl b)
 |int (i:Int):Is K H (.int i) (.int i)
 |str (x:Str):Is K H (.str x) (.str x)
 |ty (n:String):Is K H (.ty n) (.ty n)
 |tup {a:Addr}{vs:List V}{ds:List D}(h:ja K H a vs) (hs:IsL K H vs ds):Is K H (.ref a) (.tup ds)
 |lst {a:Addr}{vs:List V}{ds:List D}(h:gn K H a vs) (hs:IsL K H vs ds):Is K H (.ref a) (.lst ds)
 |dk {a:Addr}{ks:List cF}{vs:List V}{ds:List D}{ob:Obj}(h:H a=some (.dK (ks.zip vs) ob)) (hl:ks.length=vs.length) (hs:IsL K H vs ds):Is K H (.ref a) (.dk ks ds)
 |dt {a:Addr}{ks:List (List cF)}{vs:List V}{ds:List D}(h:H a=some (.dT (ks.zip vs))) (hl:ks.length=vs.length) (hs:IsL K H vs ds):Is K H (.ref a) (.dt ks ds)
inductive IsL (K:Frag)(H:Hp):List V->List D->Prop where
 |nil:IsL K H [] []
 |cons {v:V}{d:D}{vs:List V}{ds:List D}(h:Is K H v d) (hs:IsL K H vs ds):IsL K H (v::vs) (d::ds)
end
mutual
def bj:D->Bool
 |.lst _=>false
 |.dk _ _=>false
 |.dt _ _=>false
 |.tup ds=>bF ds
 |_=>true
def bF:List D->Bool
 |[]=>true
 |d::ds=>bj d && bF ds
end
@[simp] def LO:bj .non=true:=by simp only[bj]
@[simp] def MT (b:Bool):bj (.bl b)=true:=by simp only[bj]
@[simp] def LP (i:Int):bj (.int i)=true:=by simp only[bj]
@[simp] def LQ (x:Str):bj (.str x)=true:=by simp only[bj]
@[simp] def MU (x:String):bj (.ty x)=true:=by simp only[bj]
@[simp] def LR (ds:List D):bj (.tup ds)=bF ds:=by rw[bj]
@[simp] def LS (ds:List D):bj (.lst ds)=false:=by rw[bj]
@[simp] def MV (ks:List cF)(ds:List D):bj (.dk ks ds)=false:=by rw[bj]
@[simp] def MW (ks:List (List cF))(ds:List D):bj (.dt ks ds)=false:=by rw[bj]
@[simp] def K2:bF []=true:=by rw[bF]
@[simp] def IZ (d:D)(ds:List D):bF (d::ds)=(bj d && bF ds):=by rw[bF]
section
variable {K:Frag}{H H':Hp}
mutual
theorem Is.keep (g:∀a vs,ja K H a vs->ja K H' a vs)(G:∀a vs,gn K H a vs->gn K H' a vs)(M:∀a aQ ob,H a=some (.dK aQ ob)->H' a=some (.dK aQ ob))(O:∀a aQ,H a=some (.dT aQ)->H' a=some (.dT aQ)):∀ {v:V}{d:D},Is K H v d->Is K H' v d
 |_,_,.non=>.non
 |_,_,.bl b=>.bl b
 |_,_,.int i=>.int i
 |_,_,.str x=>.str x
 |_,_,.ty x=>.ty x
 |_,_,.tup h hs=>.tup (g _ _ h) (IsL.keep g G M O hs)
 |_,_,.lst h hs=>.lst (G _ _ h) (IsL.keep g G M O hs)
 |_,_,.dk h hl hs=>.dk (M _ _ _ h) hl (IsL.keep g G M O hs)
 |_,_,.dt h hl hs=>.dt (O _ _ h) hl (IsL.keep g G M O hs)
theorem IsL.keep (g:∀a vs,ja K H a vs->ja K H' a vs)(G:∀a vs,gn K H a vs->gn K H' a vs)(M:∀a aQ ob,H a=some (.dK aQ ob)->H' a=some (.dK aQ ob))(O:∀a aQ,H a=some (.dT aQ)->H' a=some (.dT aQ)):∀ {vs:List V}{ds:List D},IsL K H vs ds->IsL K H' vs ds
 |_,_,.nil=>.nil
 |_,_,.cons h hs=>.cons (Is.keep g G M O h) (IsL.keep g G M O hs)
end
mutual
theorem Is.keepT (g:∀a vs,ja K H a vs->ja K H' a vs):∀ {v:V}{d:D},Is K H v d->bj d=true->Is K H' v d
 |_,_,.non,_=>.non
 |_,_,.bl b,_=>.bl b
 |_,_,.int i,_=>.int i
 |_,_,.str x,_=>.str x
 |_,_,.ty x,_=>.ty x
 |_,_,.tup h hs,n=>.tup (g _ _ h) (IsL.keepT g hs (by simpa using n))
 |_,_,.lst h hs,n=>by simp at n
 |_,_,.dk h hl hs,n=>by simp at n
 |_,_,.dt h hl hs,n=>by simp at n
theorem IsL.keepT (g:∀a vs,ja K H a vs->ja K H' a vs):∀ {vs:List V}{ds:List D},IsL K H vs ds->bF ds=true->IsL K H' vs ds
 |_,_,.nil,_=>.nil
 |_,_,.cons h hs,n=>by
  simp at n;exact .cons (Is.keepT g h n.1) (IsL.keepT g hs n.2)
end
def bz (e:bf H H')(h:ja K H a xs):ja K H' a xs:=by
 rcases h with (h|⟨o,h⟩)|h
 ·exact .inl (.inl (e _ _ h))
 ·exact .inl (.inr ⟨o,e _ _ h⟩)
 ·exact .inr h
def Is.mono (h:Is K H v d)(e:bf H H'):Is K H' v d:=h.keep (λ_ _=>bz e) (λ_ _=>e.seq) (λ_ _ _ q=>e _ _ q) λ_ _ q=>e _ _ q
def IsL.mono (h:IsL K H v d)(e:bf H H'):IsL K H' v d:=h.keep (λ_ _=>bz e) (λ_ _=>e.seq) (λ_ _ _ q=>e _ _ q) λ_ _ q=>e _ _ q
theorem IsL.length:∀ {vs:List V}{ds:List D},IsL K H vs ds->vs.length=ds.length
 |_,_,.nil=>rfl
 |_,_,.cons _ t=>congrArg (· + 1) t.length
theorem IsL.get:∀ {vs:List V}{ds:List D}{i:Nat}{d:D},IsL K H vs ds->ds[i]? = some d->∃v,vs[i]? = some v/\Is K H v d
 |_,_,_,_,.nil,e=>by simp at e
 |_,_,0,_,.cons h _,e=>by simp at e;subst e;exact⟨_,rfl,h⟩
 |_,_,i+1,d,.cons _ t,e=>by
  obtain⟨u,h1,h2⟩:=t.get (i:=i) (d:=d) (by simpa using e);exact⟨u,by simpa using h1,h2⟩
theorem IsL.append:∀ {vs g:List V}{ds es:List D},IsL K H vs ds->IsL K H g es->IsL K H (vs++g) (ds++es)
 |_,_,_,_,.nil,s=>s
 |_,_,_,_,.cons r t,s=>.cons r (t.append s)
theorem IsL.take:∀ {vs:List V}{ds:List D}(n:Nat),IsL K H vs ds->IsL K H (vs.take n) (ds.take n)
 |_,_,0,_=>by simpa using IsL.nil
 |_,_,_+1,.nil=>.nil
 |_,_,n+1,.cons r t=>.cons r (t.take n)
theorem IsL.drop:∀ {vs:List V}{ds:List D}(n:Nat),IsL K H vs ds->IsL K H (vs.drop n) (ds.drop n)
 |_,_,0,r=>r
 |_,_,_+1,.nil=>.nil
 |_,_,n+1,.cons _ t=>t.drop n
theorem IsL.set (h:Is K H v d):∀ {vs:List V}{ds:List D}(i:Nat),IsL K H vs ds->IsL K H (vs.set i v) (ds.set i d)
 |_,_,_,.nil=>.nil
 |_,_,0,.cons _ t=>.cons h t
 |_,_,i+1,.cons r t=>.cons r (IsL.set h i t)
theorem IsL.eraseIdx:∀ {vs:List V}{ds:List D}(i:Nat),IsL K H vs ds->IsL K H (vs.eraseIdx i) (ds.eraseIdx i)
 |_,_,_,.nil=>.nil
 |_,_,0,.cons _ t=>t
 |_,_,i+1,.cons r t=>.cons r (t.eraseIdx i)
def IsL.flat {vs:List V}{ns:List Int}(h:vs=ns.map V.int):IsL K H vs (ns.map D.int):=by
 subst h;induction ns with
 |nil=>exact .nil
 |cons n ns g=>exact .cons (.int n) g
end
structure Ext (B N H H':Hp):Prop where
 hh:bf H H'
 bn:bf B N
 nh:bf N H'
 new:∀a o,N a=some o->B a=some o∨H a=none
def Ext.refl (h:bf B H):Ext B B H H:=⟨.refl _,.refl _,h,λ_ _ e=>.inl e⟩
def Ext.trans (x:Ext B N H H1)(y:Ext N N2 H1 H2):Ext B N2 H H2 :=
 ⟨x.hh.trans y.hh,x.bn.trans y.bn,y.nh,λa o e=>(y.new a o e).elim (λq=>x.new a o q) λq=>.inr (x.hh.free q)⟩
def Ext.laid (h:bf B H)(hp:H p=none):Ext B (upd B p o) H (upd H p o):=by
 have g:B p=none:=h.free hp;refine⟨λa u e=>?_,λa u e=>?_,λa u e=>?_,λa u e=>?_⟩
 ·rw[aM (λq=>by subst q;rw[hp]at e;cases e)];exact e
 ·rw[aM (λq=>by subst q;rw[g]at e;cases e)];exact e
 ·by_cases q:a=p
  ·subst q;rw[aH]at e ⊢;exact e
  ·rw[aM q]at e ⊢;exact h _ _ e
 ·by_cases q:a=p
  ·subst q;exact .inr hp
  ·rw[aM q]at e;exact .inl e
def Ext.grow (h:bf B H)(hh:bf H H'):Ext B B H H':=⟨hh,.refl _,h.trans hh,λ_ _ e=>.inl e⟩
abbrev Env:=List OB
abbrev FE:=Env->OB
abbrev FA:=Env->Option (List D)
abbrev FT:=Env->Option Bool
def LU (K:Frag)(H N:Hp)(v:V)(d:D):Prop:=∃(a:Addr)(vs:List V)(ds:List D),v=.ref a/\d=.lst ds/\H a=none/\N a=some (.lst vs)/\IsL K N vs ds
def LU.back (h:LU K H' N v d)(e:bf H H'):LU K H N v d:=let ⟨a,vs,ds,q,y,z,r⟩:=h;⟨a,vs,ds,q,y,e.free z,r⟩
noncomputable def mm:List Str:=["in_order","has_seal","is_first_death","bases_by"]
noncomputable def pK (x:Str):Str:=x ++ ".<locals>." ++ "<lambda>"
def Tb (K:Frag)(B:Hp):Prop:=∀x∈mm,∀c P,PySem.W.tabIn K x=some (c,P)->B P=some (.tbl (pK x))
def Tb.mono (h:Tb K B)(e:bf B B'):Tb K B':=λx hx c P q=>e _ _ (h x hx c P q)
structure fP (K:Frag)(B:Hp)(σ:St)(ρ:Env):Prop where
 tb:Tb K B
 at':∀(i:Nat)(d:D)(b:Bool),ρ[i]? = some (some (d,b))->∃v,σ[i]? = some (some v)/\Is K B v d
def fP.mono (h:fP K B σ ρ)(e:bf B B'):fP K B' σ ρ:=⟨h.tb.mono e,λi d b q=>let ⟨v,h1,h2⟩:=h.at' i d b q;⟨v,h1,h2.mono e⟩⟩
def Fin (K:Frag)(B H:Hp)(d:D)(b:Bool)(Q:VK):Prop:=∀(v:V)(H' N:Hp),Ext B N H H'->Is K N v d->(b=true->LU K H N v d)->Q v H'
def tD (K:Frag)(f:FE):TE:=λσ H Q=>∃(B:Hp)(ρ:Env)(d:D)(b:Bool),bf B H/\fP K B σ ρ/\f ρ=some (d,b)/\Fin K B H d b Q
def Av (K:Frag)(f:FT):TT:=λσ H Q=>∃(B:Hp)(ρ:Env)(c:Bool),bf B H/\fP K B σ ρ/\f ρ=some c/\∀H',bf H H'->Q c H'
def LV (K:Frag)(f:FA):TA:=λσ H Q=>∃(B:Hp)(ρ:Env)(ds:List D),bf B H/\fP K B σ ρ/\f ρ=some ds/\∀(vs:List V)(H' N:Hp),Ext B N H H'->IsL K N vs ds->Q vs H'
def rD (K:Frag)(op:D->D->OB):R2:=λx y H Q=>∃(B:Hp)(dx g d:D)(b:Bool),bf B H/\Is K B x dx/\Is K B y g/\op dx g=some (d,b)/\Fin K B H d b Q
def PQ (K:Frag)(op:D->OB):V->Hp->VK->Prop:=λx H Q=>∃(B:Hp)(dx d:D)(b:Bool),bf B H/\Is K B x dx/\op dx=some (d,b)/\Fin K B H d b Q
def Dc (K:Frag)(op:List D->OB):List V->Hp->VK->Prop:=λxs H Q=>∃(B:Hp)(ds:List D)(d:D)(b:Bool),bf B H/\IsL K B xs ds/\op ds=some (d,b)/\Fin K B H d b Q
def Fin.one (h:Fin K B H d false Q)(s:bf B H)(i:Is K B v d):Q v H:=h v H B (.refl s) i (by simp)
def Fin.into (h:Fin K B H d b Q)(x:Ext B N H H1):Fin K N H1 d b Q:=λv H' N' y i g=>h v H' N' (x.trans y) i λe=>(g e).back x.hh
@[simp] noncomputable def fC (d:D):FE:=λ_=>some (d,false)
@[simp] noncomputable def aj (i:Nat):FE:=λρ=>match ρ[i]? with|some (some (d,_))=>some (d,false)|_=>none
@[simp] noncomputable def f2 (op:D->D->OB)(fa g:FE):FE:=λρ=>(fa ρ).bind λx=>(g ρ).bind λy=>op x.1 y.1
@[simp] noncomputable def f1 (op:D->OB)(fa:FE):FE:=λρ=>(fa ρ).bind λx=>op x.1
@[simp] noncomputable def ai:FA:=λ_=>some []
@[simp] noncomputable def ae (fa:FE)(g:FA):FA:=λρ=>(fa ρ).bind λx=>(g ρ).bind λxs=>some (x.1::xs)
@[simp] noncomputable def fA (op:List D->OB)(fa:FA):FE:=λρ=>(fa ρ).bind op
def K3 (h:tD K (aj i) σ H Q):∃v,σ[i]? = some (some v)/\Q v H:=by
 obtain⟨B,ρ,d,b,s,r,e,q⟩:=h;unfold aj at e;split at e
 ·rename_i d' b' g;cases e
  obtain⟨v,h1,h2⟩:=r.at' i _ _ g;exact⟨v,h1,q.one s h2⟩
 ·cases e
def GA (h:tD K (f2 op fa fb) σ H Q):tD K fa σ H λx M=>tD K fb σ M λy H2=>rD K op x y H2 Q:=by
 obtain⟨B,ρ,d,b,s,r,e,q⟩:=h;obtain⟨x,ex,e⟩:=oX e;obtain⟨y,O,e⟩:=oX e;refine⟨B,ρ,x.1,x.2,s,r,ex,λv M N g T _=>⟨N,ρ,y.1,y.2,g.nh,r.mono g.bn,O,λv2 H2 N2 G U _=>⟨N2,x.1,y.1,d,b,G.nh,T.mono G.bn,U,e,?_⟩⟩⟩;exact q.into (g.trans G)
def PR (h:tD K (f1 op fa) σ H Q):tD K fa σ H λx g=>PQ K op x g Q:=by
 obtain⟨B,ρ,d,b,s,r,e,q⟩:=h;obtain⟨x,ex,e⟩:=oX e;exact⟨B,ρ,x.1,x.2,s,r,ex,λv g N G M _=>⟨N,x.1,d,b,G.nh,M,e,q.into G⟩⟩
def GB (h:tD K (fA op fa) σ H Q):LV K fa σ H λxs g=>Dc K op xs g Q:=by
 obtain⟨B,ρ,d,b,s,r,e,q⟩:=h;obtain⟨x,ex,e⟩:=oX e;exact⟨B,ρ,x,s,r,ex,λv g N G M=>⟨N,x,d,b,G.nh,M,e,q.into G⟩⟩
def GC (h:LV K ai σ H Q):Q [] H:=by
 obtain⟨B,ρ,ds,s,r,e,q⟩:=h;cases e
 exact q [] H B (.refl s) .nil
def D8 (h:LV K (ae fa fr) σ H Q):tD K fa σ H λx G=>LV K fr σ G λxs H2=>Q (x::xs) H2:=by
 obtain⟨B,ρ,ds,s,r,e,q⟩:=h;obtain⟨x,ex,e⟩:=oX e;obtain⟨y,O,e⟩:=oX e;cases e
 exact⟨B,ρ,x.1,x.2,s,r,ex,λv G N g T _=>⟨N,ρ,y,g.nh,r.mono g.bn,O,λvs H2 N2 M U=>q _ H2 N2 (g.trans M) (.cons (T.mono M.bn) U)⟩⟩
@[simp] noncomputable def ba (f:FE):FT:=λρ=>match f ρ with|some (.bl c,_)=>some c|_=>none
@[simp] noncomputable def eK (f g:FT):FT:=λρ=>match f ρ with|some true=>g ρ|some false=>some false|none=>none
@[simp] noncomputable def je (f g:FT):FT:=λρ=>match f ρ with|some true=>some true|some false=>g ρ|none=>none
@[simp] noncomputable def eM (f:FT):FT:=λρ=>(f ρ).map (!·)
@[simp] noncomputable def GD (c:FT)(f g:FE):FE:=λρ=>match c ρ with|some true=>f ρ|some false=>g ρ|none=>none
open Classical in
noncomputable def eG (H:Hp)(P:Addr->Prop):Hp:=λa=>if P a then none else H a
def dc (h:¬P a):eG H P a=H a:=by unfold eG;rw[if_neg h]
def zq (h:P a):eG H P a=none:=by unfold eG;rw[if_pos h]
def pL (h:eG H P a=some o):¬P a/\H a=some o:=by
 by_cases q:P a
 ·rw[zq q]at h;cases h
 ·rw[dc q]at h;exact⟨q,h⟩
def bY:bf (eG H P) H:=λ_ _ e=>(pL e).2
def eS (e:∀a o,H a=some o->¬P a->H' a=some o/\¬P' a):bf (eG H P) (eG H' P'):=λa o q=>by
 obtain⟨h1,h2⟩:=pL q;obtain⟨h3,h4⟩:=e a o h2 h1;rw[dc h4];exact h3
noncomputable def join (N N':Hp):Hp:=λa=>match N a with|some o=>some o|none=>N' a
def eY:bf N (join N N'):=λa o e=>by unfold join;rw[e]
def eI (e:N a=none):join N N' a=N' a:=by unfold join;rw[e]
def own (σ:St)(ρ:Env)(a:Addr):Prop:=∃(i:Nat)(d:D),ρ[i]? = some (some (d,true))/\σ[i]? = some (some (V.ref a))
inductive Bx (K:Frag)(C:Hp):HO->D->Prop where
 |lst {vs:List V}{ds:List D}(h:IsL K C vs ds):Bx K C (.lst vs) (.lst ds)
 |dk {ks:List cF}{vs:List V}{ds:List D}(hl:ks.length=vs.length) (h:IsL K C vs ds) {ob:Obj}:Bx K C (.dK (ks.zip vs) ob) (.dk ks ds)
 |dt {ks:List (List cF)}{vs:List V}{ds:List D}(hl:ks.length=vs.length) (h:IsL K C vs ds):Bx K C (.dT (ks.zip vs)) (.dt ks ds)
def Bx.mono (h:Bx K C o d)(e:bf C C'):Bx K C' o d:=by
 cases h with
 |lst h=>exact .lst (h.mono e)
 |dk hl h=>exact .dk hl (h.mono e)
 |dt hl h=>exact .dt hl (h.mono e)
def Bx.is (h:Bx K C o d)(e:C a=some o):Is K C (.ref a) d:=by
 cases h with
 |lst h=>exact .lst (gn.of e) h
 |dk hl h=>exact .dk e hl h
 |dt hl h=>exact .dt e hl h
structure eP (K:Frag)(B0 H0 N H:Hp)(σ:St)(ρ:Env):Prop where
 bh:bf B0 H0
 tb:Tb K B0
 ext:Ext B0 N H0 H
 len:ρ.length=σ.length
 sh:∀(i:Nat)(d:D),ρ[i]? = some (some (d,false))->∃v,σ[i]? = some (some v)/\Is K (eG N (own σ ρ)) v d
 ow:∀(i:Nat)(d:D),ρ[i]? = some (some (d,true))->∃(a:Addr)(o:HO),σ[i]? = some (some (V.ref a))/\N a=some o/\H0 a=none/\Bx K (eG N (own σ ρ)) o d
 inj:∀(i j:Nat)(a:Addr)(d e:D),ρ[i]? = some (some (d,true))->ρ[j]? = some (some (e,true))->σ[i]? = some (some (V.ref a))->σ[j]? = some (some (V.ref a))->i=j
def uB (K:Frag)(B0 H0 H:Hp)(σ:St)(ρ:Env):Prop:=∃N,eP K B0 H0 N H σ ρ
section
variable {K:Frag}{B0 H0 N H H':Hp}{σ:St}{ρ:Env}
def eP.owL (s:eP K B0 H0 N H σ ρ)(i:Nat)(d:D)(q:ρ[i]? = some (some (.lst es,true)))(hd:d=.lst es:=by rfl):∃(a:Addr)(vs:List V)(ds:List D),d=.lst ds/\σ[i]? = some (some (V.ref a))/\N a=some (.lst vs)/\H0 a=none/\IsL K (eG N (own σ ρ)) vs ds:=by
 obtain⟨a,o,h1,h2,h3,h4⟩:=s.ow i _ q;cases h4 with
 |lst h4=>exact⟨a,_,es,hd,h1,h2,h3,h4⟩
def boxed:HO->Prop
 |.lst _|.dK _ _|.dT _=>True
 |_=>False
def Bx.boxed (h:Bx K C o d):boxed o:=by cases h<;>exact trivial
def eP.owned (s:eP K B0 H0 N H σ ρ)(h:own σ ρ a):∃o,(N a=some o/\boxed o)/\H0 a=none:=by
 obtain⟨i,d,h1,h2⟩:=h;obtain⟨G,o,h3,h4,h5,g⟩:=s.ow i d h1;rw[h2]at h3;cases h3;exact⟨o,⟨h4,g.boxed⟩,h5⟩
def eP.rep (s:eP K B0 H0 N H σ ρ):fP K N σ ρ:=⟨s.tb.mono s.ext.bn,λi d b q=>by
 cases b with
 |false=>obtain⟨v,h1,h2⟩:=s.sh i d q;exact⟨v,h1,h2.mono bY⟩
 |true=>
  obtain⟨a,o,h2,h3,_,h4⟩:=s.ow i d q;exact⟨_,h2,(h4.mono bY).is h3⟩⟩
noncomputable def mn (ρ:Env):Env:=ρ.map λx=>match x with|some (d,false)=>some (d,false)|_=>none
def D9 {i:Nat}{d:D}{b:Bool}(h:(mn ρ)[i]? = some (some (d,b))):b=false/\ρ[i]? = some (some (d,false)):=by
 unfold mn at h;rw[vA]at h;cases e:ρ[i]? with
 |none=>rw[e]at h;cases h
 |some x=>
  rw[e]at h;match x,h with
  |some (d',false),h=>cases h;exact⟨rfl,rfl⟩
  |some (d',true),h=>cases h
  |none,h=>cases h
def eP.tbC (s:eP K B0 H0 N H σ ρ):Tb K (eG N (own σ ρ)):=λx hx c P q=>by
 have z:=s.tb.mono s.ext.bn x hx c P q;rw[dc]
 ·exact z
 ·intro y;obtain⟨o,⟨y,g⟩,_⟩:=s.owned y;rw[z]at y;cases y;exact g
def eP.repH (s:eP K B0 H0 N H σ ρ):fP K (eG N (own σ ρ)) σ (mn ρ):=⟨s.tbC,λi d b q=>by
 obtain⟨rfl,g⟩:=D9 q;exact s.sh i d g⟩
def eP.grow (s:eP K B0 H0 N H σ ρ)(x:Ext N N' H H'):eP K B0 H0 N' H' σ ρ:=by
 have c:bf (eG N (own σ ρ)) (eG N' (own σ ρ)):=eS λa o e q=>⟨x.bn a o e,q⟩;refine⟨s.bh,s.tb,s.ext.trans x,s.len,λi d q=>?_,λi d q=>?_,s.inj⟩
 ·obtain⟨v,h1,h2⟩:=s.sh i d q;exact⟨v,h1,h2.mono c⟩
 ·obtain⟨a,o,h2,h3,h4,h5⟩:=s.ow i d q;exact⟨a,o,h2,x.bn _ _ h3,h4,h5.mono c⟩
def eP.growH (s:eP K B0 H0 N H σ ρ)(x:Ext (eG N (own σ ρ)) N' H H'):eP K B0 H0 (join N N') H' σ ρ/\bf N' (eG (join N N') (own σ ρ)):=by
 have G:Ext N (join N N') H H':=by
  refine⟨x.hh,eY,λa o e=>?_,λa o e=>?_⟩
  ·cases q:N a with
   |some u=>
    have:join N N' a=some u:=eY _ _ q;rw[this]at e;cases e;exact x.hh _ _ (s.ext.nh _ _ q)
   |none=>rw[eI q]at e;exact x.nh _ _ e
  ·cases q:N a with
   |some u=>
    have:join N N' a=some u:=eY _ _ q;rw[this]at e;cases e;exact .inl rfl
   |none=>
    rw[eI q]at e;rcases x.new a o e with z|z
    ·have:=bY _ _ z;rw[q]at this;cases this
    ·exact .inr z
 refine⟨s.grow G,λa o e=>?_⟩;rcases x.new a o e with z|z
 ·obtain⟨M,O⟩:=pL z;rw[dc M];exact eY _ _ O
 ·have g:N a=none:=s.ext.nh.free z;have:¬own σ ρ a:=λq=>by obtain⟨vs,⟨q,_⟩,_⟩:=s.owned q;rw[g]at q;cases q
  rw[dc this,eI g];exact e
noncomputable def unown (ρ:Env):Env:=ρ.map λx=>x.map λy=>(y.1,false)
def kQ {i:Nat}{d:D}{b:Bool}(h:(unown ρ)[i]? = some (some (d,b))):b=false/\∃c,ρ[i]? = some (some (d,c)):=by
 unfold unown at h;rw[vA]at h;cases e:ρ[i]? with
 |none=>rw[e]at h;cases h
 |some x=>
  rw[e]at h;match x,h with
  |some (d',c),h=>cases h;exact⟨rfl,c,rfl⟩
  |none,h=>cases h
def sK {a:Addr}:¬own σ (unown ρ) a:=λ⟨i,d,h,_⟩=>by
 obtain⟨z,_⟩:=kQ h;cases z
def eP.unown (s:eP K B0 H0 N H σ ρ):eP K B0 H0 N H σ (unown ρ):=by
 refine⟨s.bh,s.tb,s.ext,by unfold DL.unown;rw[vI];exact s.len,λi d q=>?_,λi d q=>?_,λi j a d e q=>?_⟩
 ·obtain⟨_,c,q⟩:=kQ q;obtain⟨v,h1,h2⟩:=s.rep.at' i d c q;exact⟨v,h1,h2.mono λa o e=>by rw[dc sK];exact e⟩
 ·obtain⟨z,_⟩:=kQ q;cases z
 ·obtain⟨z,_⟩:=kQ q;cases z
def cr {α:Type}{l:List α}{i j:Nat}{x y:α}(h:(l.set i x)[j]? = some y):(i=j/\x=y)∨(i≠j/\l[j]? = some y):=by
 by_cases e:i=j
 ·subst e;rw[List.getElem?_set]at h;split at h
  ·split at h
   ·exact .inl ⟨rfl,vK h⟩
   ·cases h
  ·contradiction
 ·rw[vB e]at h;exact .inr ⟨e,h⟩
def sM {α g:Type}{l:List α}{m:List g}{i:Nat}{x y:α}(h:(l.set i x)[i]? = some y)(e:l.length=m.length):i<m.length:=by
 obtain⟨h,_⟩:=vV h;rw[List.length_set]at h;omega
def uC {i:Nat}{v:V}{x:OB}{a:Addr}(h:own (σ.set i (some v)) (ρ.set i x) a):(v=.ref a/\∃d,x=some (d,true))∨∃j,j≠i/\∃d,ρ[j]? = some (some (d,true))/\σ[j]? = some (some (V.ref a)):=by
 obtain⟨j,d,h1,h2⟩:=h;rcases cr h1 with⟨e,q⟩|⟨e,q⟩
 ·rcases cr h2 with⟨e2,g⟩|⟨e2,g⟩
  ·cases g;exact .inl ⟨rfl,d,q⟩
  ·exact absurd e e2
 ·rcases cr h2 with⟨e2,g⟩|⟨e2,g⟩
  ·exact absurd e2 e
  ·exact .inr ⟨j,λz=>e z.symm,d,q,g⟩
def eP.bind (s:eP K B0 H0 N H σ ρ){i:Nat}{v:V}{d:D}(h:Is K (eG N (own σ ρ)) v d):eP K B0 H0 N H (σ.set i (some v)) (ρ.set i (some (d,false))):=by
 have o:∀a,own (σ.set i (some v)) (ρ.set i (some (d,false))) a->own σ ρ a:=λa q=>by
  rcases uC q with⟨_,d',p⟩|⟨j,_,d',M,O⟩
  ·cases p
  ·exact⟨j,d',M,O⟩
 have c:bf (eG N (own σ ρ)) (eG N (own (σ.set i (some v)) (ρ.set i (some (d,false))))):=eS λa u e q=>⟨e,λz=>q (o a z)⟩;refine⟨s.bh,s.tb,s.ext,by simp[s.len],λj e q=>?_,λj e q=>?_,λj k a e f q T h1 h2=>?_⟩
 ·rcases cr q with⟨rfl,p⟩|⟨ne,p⟩
  ·cases p
   have hi:=sM q s.len;exact⟨v,by simp[hi],h.mono c⟩
  ·obtain⟨w,h1,h2⟩:=s.sh j e p;exact⟨w,by rw[vB ne];exact h1,h2.mono c⟩
 ·rcases cr q with⟨rfl,p⟩|⟨ne,p⟩
  ·cases p
  ·obtain⟨a,o,h1,h2,h3,h4⟩:=s.ow j e p;exact⟨a,o,by rw[vB ne];exact h1,h2,h3,h4.mono c⟩
 ·rcases cr q with⟨rfl,p⟩|⟨ne,p⟩
  ·cases p
  ·rcases cr T with⟨rfl,g⟩|⟨G,g⟩
   ·cases g
   ·rw[vB ne]at h1;rw[vB G]at h2;exact s.inj j k a e f p g h1 h2
def eP.bindOwn (s:eP K B0 H0 N H σ ρ){i:Nat}{a:Addr}{ob:HO}{dd:D}(hN:N a=some ob)(h0:H0 a=none)(G:∀(j:Nat)(d:D),ρ[j]? = some (some (d,true))->σ[j]? ≠ some (some (V.ref a)))
  (T:∀(j:Nat)(d:D),j≠i->ρ[j]? = some (some (d,false))->∃v,σ[j]? = some (some v)/\Is K (eG N (λb=>own σ ρ b∨b=a)) v d) (U:∀(j:Nat)(d:D),j≠i->ρ[j]? = some (some (d,true))->∃(M:Addr)(o:HO),σ[j]? = some (some (V.ref M))/\N M=some o/\Bx K (eG N (λb=>own σ ρ b∨b=a)) o d)
  (Q8:Bx K (eG N (λb=>own σ ρ b∨b=a)) ob dd):eP K B0 H0 N H (σ.set i (some (.ref a))) (ρ.set i (some (dd,true))):=by
 have o:∀b,own (σ.set i (some (V.ref a))) (ρ.set i (some (dd,true))) b->own σ ρ b∨b=a:=λb q=>by
  rcases uC q with⟨p,_⟩|⟨j,_,d',q1,q2⟩
  ·cases p;exact .inr rfl
  ·exact .inl ⟨j,d',q1,q2⟩
 have c:bf (eG N (λb=>own σ ρ b∨b=a)) (eG N (own (σ.set i (some (V.ref a))) (ρ.set i (some (dd,true))))):=eS λb u e q=>⟨e,λz=>q (o b z)⟩;refine⟨s.bh,s.tb,s.ext,by simp[s.len],λj e q=>?_,λj e q=>?_,λj k b e f q q' h1 h2=>?_⟩
 ·rcases cr q with⟨rfl,p⟩|⟨ne,p⟩
  ·cases p
  ·obtain⟨w,h1,h2⟩:=T j e (Ne.symm ne) p;exact⟨w,by rw[vB ne];exact h1,h2.mono c⟩
 ·rcases cr q with⟨rfl,p⟩|⟨ne,p⟩
  ·cases p
   have hi:=sM q s.len;exact⟨a,ob,by simp[hi],hN,h0,Q8.mono c⟩
  ·obtain⟨M,o',h1,h2,h4⟩:=U j e (Ne.symm ne) p;have h3:H0 M=none:=by
    obtain⟨a2,_,k1,_,k3,_⟩:=s.ow j e p;rw[h1]at k1;cases k1;exact k3
   exact⟨M,o',by rw[vB ne];exact h1,h2,h3,h4.mono c⟩
 ·rcases cr q with⟨rfl,p⟩|⟨ne,p⟩
  ·rcases cr q' with⟨rfl,O⟩|⟨g,O⟩
   ·rfl
   ·rw[vB g]at h2;have UT:V.ref a=V.ref b:=by
     rcases cr h1 with⟨_,z⟩|⟨z,_⟩
     ·exact vK z
     ·exact absurd rfl z
    cases UT
    exact absurd h2 (G k f O)
  ·rcases cr q' with⟨rfl,O⟩|⟨g,O⟩
   ·rw[vB ne]at h1;have Pe:V.ref a=V.ref b:=by
     rcases cr h2 with⟨_,z⟩|⟨z,_⟩
     ·exact vK z
     ·exact absurd rfl z
    cases Pe
    exact absurd h1 (G j e p)
   ·rw[vB ne]at h1;rw[vB g]at h2;exact s.inj j k b e f p O h1 h2
end
inductive Res where
 |nx (ρ:Env)|rt (d:D) (b:Bool)|bk (ρ:Env)|ct (ρ:Env)
abbrev FS:=Env->Option Res
def MX (K:Frag)(B0 H0:Hp)(E:Ends):Res->Prop
 |.nx ρ=>∀σ H,uB K B0 H0 H σ ρ->E.nx σ H
 |.rt d b=>∀v H N,Ext B0 N H0 H->Is K N v d->(b=true->LU K H0 N v d)->E.rt v H
 |.bk ρ=>∀σ H,uB K B0 H0 H σ ρ->E.bk σ H
 |.ct ρ=>∀σ H,uB K B0 H0 H σ ρ->E.ct σ H
def nq (K:Frag)(g:FS):TS:=λE σ H=>∃(B0 H0:Hp)(ρ:Env)(r:Res),uB K B0 H0 H σ ρ/\g ρ=some r/\MX K B0 H0 E r
section
variable {K:Frag}{B0 H0 N H H':Hp}{σ:St}{ρ:Env}{E:Ends}
def eP.writeB (s:eP K B0 H0 N H σ ρ)(hi:ρ[i]? = some (some (d,true)))(g:σ[i]? = some (some (V.ref a)))(h:Bx K (eG N (own σ ρ)) ob dd):
  eP K B0 H0 (upd N a ob) (upd H a ob) σ (ρ.set i (some (dd,true))):=by
 have T:own σ ρ a:=⟨i,d,hi,g⟩;obtain⟨ws,hw,h0⟩:=s.owned T;have b0:B0 a=none:=s.bh.free h0;have o:∀b,own σ (ρ.set i (some (dd,true))) b↔own σ ρ b:=λb=>by
  constructor
  ·rintro⟨j,e,M,G⟩;rcases cr M with⟨rfl,p⟩|⟨_,p⟩
   ·exact⟨i,d,hi,G⟩
   ·exact⟨j,e,p,G⟩
  ·rintro⟨j,e,M,G⟩;by_cases z:i=j
   ·subst z;exact⟨i,dd,by rw[List.getElem?_set_self (vV hi).1],G⟩
   ·exact⟨j,e,by rw[vB z];exact M,G⟩
 have c:bf (eG N (own σ ρ)) (eG (upd N a ob) (own σ (ρ.set i (some (dd,true))))):=eS λb u e q=>by
  have ne:b≠a:=λz=>q (z ▸ T);exact⟨by rw[aM ne];exact e,λz=>q ((o b).mp z)⟩
 refine⟨s.bh,s.tb,⟨λb u e=>?_,λb u e=>?_,λb u e=>?_,λb u e=>?_⟩,by rw[List.length_set];exact s.len,λj e q=>?_,λj e q=>?_,λj k b e f q q' h1 h2=>?_⟩
 ·rw[aM (λz=>by subst z;rw[h0]at e;cases e)];exact s.ext.hh _ _ e
 ·rw[aM (λz=>by subst z;rw[b0]at e;cases e)];exact s.ext.bn _ _ e
 ·by_cases z:b=a
  ·subst z;rw[aH]at e ⊢;exact e
  ·rw[aM z]at e ⊢;exact s.ext.nh _ _ e
 ·by_cases z:b=a
  ·subst z;exact .inr h0
  ·rw[aM z]at e;exact s.ext.new _ _ e
 ·rcases cr q with⟨rfl,p⟩|⟨ne,p⟩
  ·cases p
  ·obtain⟨v,h1,h2⟩:=s.sh j e p;exact⟨v,h1,h2.mono c⟩
 ·rcases cr q with⟨rfl,p⟩|⟨ne,p⟩
  ·cases p
   exact⟨a,ob,g,aH,h0,h.mono c⟩
  ·obtain⟨U,o',h1,h2,h3,h4⟩:=s.ow j e p;have na:U≠a:=λz=>by subst z;exact ne (s.inj i j _ d e hi p g h1)
   exact⟨U,o',h1,by rw[aM na];exact h2,h3,h4.mono c⟩
 ·have get:∀ {j:Nat}{e:D},(ρ.set i (some (dd,true)))[j]? = some (some (e,true))->∃O,ρ[j]? = some (some (O,true)):=λ{j e} q=>by
   rcases cr q with⟨rfl,p⟩|⟨ne,p⟩
   ·exact⟨d,hi⟩
   ·exact⟨e,p⟩
  obtain⟨O,M⟩:=get q;obtain⟨f',G⟩:=get q';exact s.inj j k b O f' M G h1 h2
def eP.write (s:eP K B0 H0 N H σ ρ)(hi:ρ[i]? = some (some (d,true)))(g:σ[i]? = some (some (V.ref a)))(h:IsL K (eG N (own σ ρ)) vs ds):
  eP K B0 H0 (upd N a (.lst vs)) (upd H a (.lst vs)) σ (ρ.set i (some (.lst ds,true))):=s.writeB hi g (.lst h)
def eP.tups (s:eP K B0 H0 N H σ ρ):∀a vs,ja K N a vs->ja K (eG N (own σ ρ)) a vs:=λa vs h=>by
 have g:∀u,N a=some u->¬boxed u->eG N (own σ ρ) a=some u:=λu e hu=>by
  rw[dc λz=>?_];exact e;obtain⟨M,⟨q,G⟩,_⟩:=s.owned z;rw[e]at q;cases q;exact hu G
 rcases h with (h|⟨o,h⟩)|h
 ·exact .inl (.inl (g _ h (λq=>q)))
 ·exact .inl (.inr ⟨o,g _ h (λq=>q)⟩)
 ·exact .inr h
def eP.flat (s:eP K B0 H0 N H σ ρ)(h:Is K N v d)(n:bj d=true):Is K (eG N (own σ ρ)) v d:=h.keepT s.tups n
def eP.rebase (s:eP K B0 H0 N H σ ρ):eP K (eG N (own σ ρ)) (eG H (own σ ρ)) N H σ ρ :=
 ⟨eS λa o e q=>⟨s.ext.nh _ _ e,q⟩,s.tbC,⟨bY,bY,s.ext.nh,λa o e=>by
  by_cases q:own σ ρ a
  ·exact .inr (zq q)
  ·exact .inl (by rw[dc q];exact e)⟩,s.len,s.sh,λi d q=>by
   obtain⟨a,o,h1,h2,_,h4⟩:=s.ow i d q;exact⟨a,o,h1,h2,zq ⟨i,d,q,h1⟩,h4⟩,s.inj⟩
def eP.unbase (s:eP K B0 H0 N H σ ρ)(t:eP K (eG N (own σ ρ)) (eG H (own σ ρ)) N' H' σ' ρ'):eP K B0 H0 N' H' σ' ρ':=by
 have h0:bf H0 (eG H (own σ ρ)):=λa o e=>by
  rw[dc λz=>?_];exact s.ext.hh _ _ e;obtain⟨_,_,q⟩:=s.owned z;rw[q]at e;cases e
 have g:bf B0 (eG N (own σ ρ)):=λa o e=>by
  rw[dc λz=>?_];exact s.ext.bn _ _ e;obtain⟨_,_,q⟩:=s.owned z;rw[s.bh _ _ e]at q;cases q
 refine⟨s.bh,s.tb,⟨h0.trans t.ext.hh,g.trans t.ext.bn,t.ext.nh,λa o e=>?_⟩,t.len,t.sh,λi d q=>?_,t.inj⟩
 ·rcases t.ext.new a o e with z|z
  ·exact s.ext.new a o (bY _ _ z)
  ·exact .inr (h0.free z)
 ·obtain⟨a,o,h1,h2,h3,h4⟩:=t.ow i d q;exact⟨a,o,h1,h2,h0.free h3,h4⟩
def eP.based (t:eP K B0 H0 N H σ ρ):bf B0 (eG N (own σ ρ)):=λa o e=>by
 rw[dc λz=>?_];exact t.ext.bn _ _ e;obtain⟨_,_,q⟩:=t.owned z;rw[t.bh _ _ e]at q;cases q
@[simp] noncomputable def az (g h:FS):FS:=λρ=>match g ρ with|some (.nx ρ')=>h ρ'|r=>r
@[simp] noncomputable def aY:FS:=λρ=>some (.nx ρ)
@[simp] noncomputable def du (c:FT)(g h:FS):FS:=λρ=>match c ρ with|some true=>g ρ|some false=>h ρ|none=>none
@[simp] noncomputable def aN (f:FE):FS:=λρ=>(f ρ).map λx=>.rt x.1 x.2
@[simp] noncomputable def RO:FS:=λ_=>some (.rt .non false)
@[simp] noncomputable def RP (f:FE):FS:=λρ=>(f ρ).map λ_=>.nx ρ
@[simp] noncomputable def Ja:D->Bool
 |.dk _ _=>true
 |.dt _ _=>true
 |_=>false
@[simp] def jf (i:Nat):FS:=λρ=>match ρ[i]? with|some (some (d,b))=>some (.rt d (b && !Ja d))|_=>none
@[simp] def wP:D->Bool
 |.lst ds=>bF ds
 |_=>false
@[simp] def setE (ρ:Env)(i:Nat)(d:D)(b:Bool):Env :=
 if bj d=true then ρ.set i (some (d,false))else if b=true/\wP d=true then ρ.set i (some (d,true))else (unown ρ).set i (some (d,false))
@[simp] def aO (i:Nat)(f:FE):FS:=λρ=>(f ρ).map λx=>.nx (setE ρ i x.1 x.2)
@[simp] def wQ (i:Nat)(f:FE):FS:=λρ=>(f (mn ρ)).map λx=>.nx (ρ.set i (some (x.1,false)))
@[simp] def iP (i:Nat)(f:FE):FS:=λρ=>match ρ[i]? with
 |some (some (.lst ds,true))=>(f ρ).bind λx=>if bj x.1=true/\ds.length<sizeLine then some (.nx (ρ.set i (some (.lst (ds++[x.1]),true))))else none
 |_=>none
def GF (q:nq K (az g h) E σ H):Mu (nq K g) (nq K h) E σ H:=by
 obtain⟨B0,H0,ρ,r,s,e,p⟩:=q;unfold az at e;cases G:g ρ with
 |none=>rw[G]at e;cases e
 |some M=>
  rw[G]at e;cases M with
  |nx ρ'=>exact⟨B0,H0,ρ,.nx ρ',s,G,λO H' s'=>⟨B0,H0,ρ',r,s',e,p⟩⟩
  |rt d b=>cases e;exact⟨B0,H0,ρ,_,s,G,p⟩
  |bk ρ'=>cases e;exact⟨B0,H0,ρ,_,s,G,p⟩
  |ct ρ'=>cases e;exact⟨B0,H0,ρ,_,s,G,p⟩
def DA (q:nq K aY E σ H):IN E σ H:=by
 obtain⟨B0,H0,ρ,r,s,e,p⟩:=q;cases e
 exact p σ H s
def uB.grown (s:eP K B0 H0 N H σ ρ)(h:bf H H'):uB K B0 H0 H' σ ρ:=⟨N,s.grow (.grow s.ext.nh h)⟩
def K4 (q:nq K (du c g h) E σ H):Mx (Av K c) (nq K g) (nq K h) E σ H:=by
 obtain⟨B0,H0,ρ,r,⟨N,s⟩,e,p⟩:=q;unfold du at e;cases G:c ρ with
 |none=>rw[G]at e;cases e
 |some b=>
  rw[G]at e;refine⟨N,ρ,b,s.ext.nh,s.rep,G,λM h1=>?_⟩;cases b with
  |true=>rw[if_pos rfl];exact⟨B0,H0,ρ,r,.grown s h1,e,p⟩
  |false=>rw[if_neg (by decide)];exact⟨B0,H0,ρ,r,.grown s h1,e,p⟩
def GG (q:nq K (aN f) E σ H):Ka (tD K f) E σ H:=by
 obtain⟨B0,H0,ρ,r,⟨N,s⟩,e,p⟩:=q;obtain⟨x,ex,e⟩:=oY e;subst e;exact⟨N,ρ,x.1,x.2,s.ext.nh,s.rep,ex,λv g N1 G M f1=>p v g N1 (s.ext.trans G) M λb=>(f1 b).back s.ext.hh⟩
def DB (q:nq K (jf i) E σ H):Ka (Di i) E σ H:=by
 obtain⟨B0,H0,ρ,r,⟨N,s⟩,e,p⟩:=q;unfold jf at e;split at e
 ·rename_i d b ei;cases e
  cases b with
  |false=>
   obtain⟨v,h1,h2⟩:=s.sh i d ei;exact⟨v,h1,p v H N s.ext (h2.mono bY) (by simp)⟩
  |true=>
   obtain⟨a,o,h1,h2,h3,h4⟩:=s.ow i d ei;cases h4 with
   |lst h4=>exact⟨_,h1,p _ H N s.ext (.lst (gn.of h2) (h4.mono bY)) λ_=>⟨a,_,_,rfl,rfl,h3,h2,h4.mono bY⟩⟩
   |dk hl h4=>exact⟨_,h1,p _ H N s.ext (.dk h2 hl (h4.mono bY)) (by simp)⟩
   |dt hl h4=>exact⟨_,h1,p _ H N s.ext (.dt h2 hl (h4.mono bY)) (by simp)⟩
 ·cases e
def eP.setE (s:eP K B0 H0 N H σ ρ)(x:Ext N N1 H H1)(h:Is K N1 v d)(f:b=true->LU K H N1 v d):eP K B0 H0 N1 H1 (σ.set i (some v)) (setE ρ i d b):=by
 have s1:=s.grow x;unfold DL.setE;by_cases hn:bj d=true
 ·rw[if_pos hn];exact s1.bind (s1.flat h hn)
 ·rw[if_neg hn];by_cases hb:b=true/\wP d=true
  ·rw[if_pos hb];obtain⟨a,vs,ds,rfl,rfl,ha,M,hs⟩:=f hb.1;have g:N a=none:=s.ext.nh.free ha;have O:¬own σ ρ a:=λz=>by obtain⟨T,⟨q,_⟩,_⟩:=s.owned z;rw[g]at q;cases q
   have c:bf (eG N (own σ ρ)) (eG N1 (λb=>own σ ρ b∨b=a)):=eS λb u e q=>⟨x.bn _ _ e,λz=>z.elim q λz=>by subst z;rw[g]at e;cases e⟩;refine s1.bindOwn M (s.ext.hh.free ha) (λj e q z=>O ⟨j,e,q,z⟩) (λj e _ q=>?_) (λj e _ q=>?_) (.lst (hs.keepT (λt ts st=>?_) hb.2))
   ·obtain⟨w,h1,h2⟩:=s.sh j e q;exact⟨w,h1,h2.mono c⟩
   ·obtain⟨U,o',h1,h2,_,h4⟩:=s.ow j e q;exact⟨U,o',h1,x.bn _ _ h2,h4.mono c⟩
   ·have G:∀u,N1 t=some u->¬boxed u->eG N1 (λb=>own σ ρ b∨b=a) t=some u:=λu e hu=>by
     rw[dc λz=>?_];exact e;rcases z with z|z
     ·obtain⟨T,⟨q,qb⟩,_⟩:=s1.owned z;rw[e]at q;cases q;exact hu qb
     ·subst z;rw[e]at M;cases M;exact hu trivial
    rcases st with (st|⟨o,st⟩)|st
    ·exact .inl (.inl (G _ st (λq=>q)))
    ·exact .inl (.inr ⟨o,G _ st (λq=>q)⟩)
    ·exact .inr st
  ·rw[if_neg hb];exact s1.unown.bind (h.mono λa o e=>by rw[dc sK];exact e)
def Aw (q:nq K (aO i f) E σ H):zc (tD K f) (jN i) E σ H:=by
 obtain⟨B0,H0,ρ,r,⟨N,s⟩,e,p⟩:=q;obtain⟨x,ex,e⟩:=oY e;subst e;exact⟨N,ρ,x.1,x.2,s.ext.nh,s.rep,ex,λv g N1 G M f1=>p _ g ⟨N1,s.setE G M f1⟩⟩
def DC (q:nq K (wQ i f) E σ H):zc (tD K f) (jN i) E σ H:=by
 obtain⟨B0,H0,ρ,r,⟨N,s⟩,e,p⟩:=q;obtain⟨x,ex,e⟩:=oY e;subst e;refine⟨eG N (own σ ρ),mn ρ,x.1,x.2,bY.trans s.ext.nh,s.repH,ex,λv g N1 G M f1=>?_⟩;obtain⟨s1,c⟩:=s.growH G;exact p _ g ⟨_,s1.bind (M.mono c)⟩
def GH (q:nq K (iP i f) E σ H):∃(a:Addr)(us:List V),σ[i]? = some (some (V.ref a))/\H a=some (.lst us)/\IU (tD K f) ME σ H λxs H2=>As (.ref a) xs H2 λ_ G=>E.nx σ G:=by
 obtain⟨B0,H0,ρ,r,⟨N,s⟩,e,p⟩:=q;unfold iP at e;split at e
 ·rename_i ds ei;obtain⟨x,ex,e⟩:=oX e;split at e
  ·rename_i hx;cases e
   obtain⟨a,vs,p9,z,h1,h2,h3,h4⟩:=s.owL i _ ei;cases z
   refine⟨a,vs,h1,s.ext.nh _ _ h2,N,ρ,x.1,x.2,s.ext.nh,s.rep,ex,λv U N1 g M f1=>⟨a,vs,v,rfl,rfl,g.hh _ _ (s.ext.nh _ _ h2),by rw[h4.length];exact hx.2,?_⟩⟩;have s1:=s.grow g;obtain⟨a',O,p9,z,k1,k2,_,T⟩:=s1.owL i _ ei;cases z
   rw[h1]at k1;cases k1;rw[g.bn _ _ h2]at k2;cases k2;exact p σ _ ⟨_,s1.write ei h1 (T.append (.cons (s1.flat M hx.1) .nil))⟩
  ·cases e
 ·cases e
end
noncomputable def fX (c:FT)(g:FS):Nat->Env->Option Res
 |0,_=>none
 |n+1,ρ=>match c ρ with
  |some true=>match g ρ with
   |some (.nx ρ')=>fX c g n ρ'
   |some (.ct ρ')=>fX c g n ρ'
   |some (.bk ρ')=>some (.nx ρ')
   |r=>r
  |some false=>some (.nx ρ)
  |none=>none
def Ce (q:nq K (fX c g n) E σ H):Dn (Av K c) (nq K g) E σ H:=by
 obtain⟨B0,H0,ρ,r,s,e,p⟩:=q;refine⟨λm σ H=>∃ρ,uB K B0 H0 H σ ρ/\fX c g m ρ=some r,⟨n,ρ,s,e⟩,?_⟩;rintro m σ H ⟨ρ,⟨N,s⟩,e⟩;cases m with
 |zero=>cases e
 |succ m=>
  unfold fX at e;cases M:c ρ with
  |none=>rw[M]at e;cases e
  |some b=>
   rw[M]at e;refine⟨N,ρ,b,s.ext.nh,s.rep,M,λU h1=>?_⟩;cases b with
   |false=>rw[if_neg (by decide)];cases e;exact p σ U (.grown s h1)
   |true=>
    rw[if_pos rfl];refine⟨λσ H=>∃ρ,uB K B0 H0 H σ ρ/\fX c g m ρ=some r,λG H' w=>⟨m,Nat.lt_succ_self m,w⟩,?_⟩;cases O:g ρ with
    |none=>rw[O]at e;cases e
    |some T=>
     rw[O]at e;refine⟨B0,H0,ρ,T,.grown s h1,O,?_⟩;cases T with
     |nx ρ'=>exact λG H' s'=>⟨ρ',s',e⟩
     |ct ρ'=>exact λG H' s'=>⟨ρ',s',e⟩
     |bk ρ'=>cases e;exact λG H' s'=>p G H' s'
     |rt d b=>cases e;exact p
def nA (K:Frag)(J:It)(B:Hp)(ds:List D):Prop:=∀(i:Nat)(H:Hp),bf B H ->
 (∀d,ds[i]? = some d->J.go i H/\∀x H',J.yld i H x H'->∃N,Ext B N H H'/\Is K N x d)/\(ds.length<=i->J.stop i H)
def RQ (K:Frag)(f:FA):TI:=λσ H R=>∃(B:Hp)(ρ:Env)(ds:List D),bf B H/\fP K B σ ρ/\f ρ=some ds/\∀(J:It)(H' N:Hp),Ext B N H H'->nA K J N ds->R J H'
abbrev FG:=D->Env->Option Env
def GI (K:Frag)(tg:FG)(g:TG):Prop:=∀(B0 H0 N H:Hp)(σ:St)(ρ ρ':Env)(v:V)(d:D)(Q:St->Hp->Prop),eP K B0 H0 N H σ ρ->Is K (eG N (own σ ρ)) v d->tg d ρ=some ρ' ->
 (∀G H',uB K B0 H0 H' G ρ'->Q G H')->g v σ H Q
@[simp] noncomputable def cQ (i:Nat):FG:=λd ρ=>some (ρ.set i (some (d,false)))
def fy:GI K (cQ i) (jN i):=by
 intro B0 H0 N H σ ρ ρ' v d Q s h e k;cases e
 exact k _ H ⟨N,s.bind h⟩
noncomputable def iG (tg:FG)(g:FS):List D->Env->Option Res
 |[],ρ=>some (.nx ρ)
 |d::ds,ρ=>(tg d ρ).bind λG=>match g G with
  |some (.nx ρ')=>iG tg g ds ρ'
  |some (.ct ρ')=>iG tg g ds ρ'
  |some (.bk ρ')=>some (.nx ρ')
  |r=>r
@[simp] def DD (tg:FG)(g:FS)(ρ:Env):iG tg g [] ρ=some (.nx ρ):=by rw[iG]
@[simp] theorem sP (tg:FG)(g:FS)(d:D)(ds:List D)(ρ:Env):iG tg g (d::ds) ρ=(tg d ρ).bind λG=>match g G with
  |some (.nx ρ')=>iG tg g ds ρ'
  |some (.ct ρ')=>iG tg g ds ρ'
  |some (.bk ρ')=>some (.nx ρ')
  |r=>r:=by rw[iG]
@[simp] def rR (f:FA)(tg:FG)(g:FS):FS:=λρ=>(f (mn ρ)).bind λds=>iG tg g ds ρ
def wR (ht:GI K tg t)(s1:eP K B0 H0 N H1 σ ρ)(c:bf N1 (eG N (own σ ρ)))(J1:nA K J N1 ds)(e:iG tg g ds ρ=some r)(p:MX K B0 H0 E r):
  ∃W:Nat->Nat->St->Hp->Prop,(∃m,W 0 m σ H1)/\∀i m σ H,W i m σ H->(J.stop i H/\E.nx σ H)∨(J.go i H/\∃N:St->Hp->Prop,(∀G H',N G H'->∃m',m'<m/\W (i+1) m' G H')/\∀x H',J.yld i H x H'->t x σ H' λT H2=>nq K g { E with nx:=N,ct:=N,bk:=E.nx } T H2):=by
 refine⟨λi m σ H=>∃(N:Hp)(ρ:Env),eP K B0 H0 N H σ ρ/\bf N1 (eG N (own σ ρ))/\m=ds.length - i/\i<=ds.length/\iG tg g (ds.drop i) ρ=some r,⟨ds.length,_,ρ,s1,c,rfl,uN _,e⟩,?_⟩;clear e s1 c;rintro i m σ H ⟨N,ρ,s,c,rfl,hi,e⟩;have hs:bf N1 H:=c.trans (bY.trans s.ext.nh);obtain⟨j1,j2⟩:=J1 i H hs;by_cases M:i<ds.length
 ·obtain⟨go,yl⟩:=j1 ds[i] (by simp[M]);rw[List.drop_eq_getElem_cons M]at e;obtain⟨U,e1,e⟩:=oX e;refine .inr ⟨go,λG H'=>∃(N:Hp)(ρ:Env),eP K B0 H0 N H' G ρ/\bf N1 (eG N (own G ρ))/\iG tg g (ds.drop (i+1)) ρ=some r,λG H' ⟨N',ρ',s',c',e'⟩=>⟨_,by omega,N',ρ',s',c',rfl,M,e'⟩,λx H' y=>?_⟩;obtain⟨N2,O,i2⟩:=yl x H' y;have x3:Ext (eG N (own σ ρ)) (join (eG N (own σ ρ)) N2) H H':=by
   refine⟨O.hh,eY,λa o e=>?_,λa o e=>?_⟩
   ·cases q:eG N (own σ ρ) a with
    |some u=>rw[eY _ _ q]at e;cases e;exact O.hh _ _ (s.ext.nh _ _ (bY _ _ q))
    |none=>rw[eI q]at e;exact O.nh _ _ e
   ·cases q:eG N (own σ ρ) a with
    |some u=>rw[eY _ _ q]at e;cases e;exact .inl rfl
    |none=>
     rw[eI q]at e;rcases O.new a o e with z|z
     ·rw[c _ _ z]at q;cases q
     ·exact .inr z
  obtain⟨s2,c2⟩:=s.growH x3;have c3:bf N2 (join (eG N (own σ ρ)) N2):=λa o e=>by
   rcases O.new a o e with z|z
   ·exact eY _ _ (c _ _ z)
   ·rw[eI ((bY.trans s.ext.nh).free z)];exact e
  have i3:=i2.mono (c3.trans c2);have c4:bf N1 (eG (join N (join (eG N (own σ ρ)) N2)) (own σ ρ)):=(O.bn.trans c3).trans c2;refine ht _ _ _ _ _ _ _ _ _ _ s2.rebase i3 e1 λT H2 ⟨N4,s4⟩=>?_;cases eg:g U with
  |none=>rw[eg]at e;cases e
  |some r1=>
   rw[eg]at e;refine⟨_,_,U,r1,⟨N4,s4⟩,eg,?_⟩;have back:∀ {G:St}{H':Hp}{ρ':Env}{N':Hp},eP K _ _ N' H' G ρ'->eP K B0 H0 N' H' G ρ'/\bf N1 (eG N' (own G ρ')):=λt=>⟨s2.unbase t,c4.trans t.based⟩;cases r1 with
   |nx ρ'=>exact λG H' ⟨N',t⟩=>⟨N',ρ',(back t).1,(back t).2,e⟩
   |ct ρ'=>exact λG H' ⟨N',t⟩=>⟨N',ρ',(back t).1,(back t).2,e⟩
   |bk ρ'=>cases e;exact λG H' ⟨N',t⟩=>p G H' ⟨N',(back t).1⟩
   |rt d b=>
    cases e
    intro v H' N' x' i' f';have y:=s2.rebase.ext;have h0:bf H0 (eG H' (λ_=>False)):=λa o e=>by rw[dc (λz=>z)];exact x'.hh _ _ (by
     rw[dc λz=>?_];exact s2.ext.hh _ _ e;obtain⟨_,_,q⟩:=s2.owned z;rw[q]at e;cases e)
    have WW:bf H0 (eG H' (λ_=>False)):=h0;have hH:bf H0 (eG H' (λ_=>False)):=h0;have hc:∀a,eG H' (λ_=>False) a=H' a:=λa=>dc (λz=>z);have hb:bf H0 (eG _ (own σ ρ)):=λa o e=>by
     rw[dc λz=>?_];exact s2.ext.hh _ _ e;obtain⟨_,_,q⟩:=s2.owned z;rw[q]at e;cases e
    have bb:bf B0 (eG _ (own σ ρ)):=λa o e=>by
     rw[dc λz=>?_];exact s2.ext.bn _ _ e;obtain⟨_,_,q⟩:=s2.owned z;rw[s2.bh _ _ e]at q;cases q
    refine p v H' N' ⟨hb.trans x'.hh,bb.trans x'.bn,x'.nh,λa o e=>?_⟩ i' λz=>(f' z).back hb;rcases x'.new a o e with z|z
    ·exact s2.ext.new a o (bY _ _ z)
    ·exact .inr (hb.free z)
 ·have ei:i=ds.length:=by omega
  subst ei;rw[List.drop_eq_nil_of_le (vT _)]at e;cases e
  exact .inl ⟨j2 (vT _),p σ H ⟨N,s⟩⟩
def GJ (G:GI K tg t)(q:nq K (rR f tg g) E σ H):Kh (RQ K f) t (nq K g) E σ H:=by
 obtain⟨B0,H0,ρ,r,⟨N,s⟩,e,p⟩:=q;obtain⟨ds,M,e⟩:=oX e;refine⟨eG N (own σ ρ),mn ρ,ds,bY.trans s.ext.nh,s.repH,M,λJ U N1 O T=>?_⟩;obtain⟨s1,c⟩:=s.growH O;exact wR G s1 c T e p
def OO (K:Frag)(f:FA):TI:=λσ H R=>∃(B:Hp)(ρ:Env)(ds:List D),bf B H/\fP K B σ ρ/\f ρ=some ds/\∀(J:It)(H' N:Hp),Ext B N H H'->(∀g,nA K J g ds)->R J H'
@[simp] def jO (f:FA)(tg:FG)(g:FS):FS:=λρ=>(f ρ).bind λds=>iG tg g ds ρ
def DE (G:GI K tg t)(q:nq K (jO f tg g) E σ H):Kh (OO K f) t (nq K g) E σ H:=by
 obtain⟨B0,H0,ρ,r,⟨N,s⟩,e,p⟩:=q;obtain⟨ds,M,e⟩:=oX e;refine⟨N,ρ,ds,s.ext.nh,s.rep,M,λJ U N1 O T=>?_⟩;exact wR G (s.grow O) (bf.refl _) (T _) e p
end DL
namespace DL
open PySem PySem.Spec PyProof.Rows L2
abbrev JE (X:Cx)(e:Expr)(f:FE):Prop:=PE X e (tD X.K f)
abbrev JT (X:Cx)(e:Expr)(f:FT):Prop:=PT X e (Av X.K f)
abbrev JW (X:Cx)(e:Expr)(f:FT):Prop:=PW X e (Av X.K f)
abbrev JA (X:Cx)(es:List Expr)(f:FA):Prop:=PA X es (LV X.K f)
abbrev JS (X:Cx)(st:Stmt)(g:FS):Prop:=PS X st (nq X.K g)
abbrev uE (X:Cx)(st:List Stmt)(g:FS):Prop:=sr X st (nq X.K g)
abbrev JI (X:Cx)(tg g:Expr)(f:FA):Prop:=PI X tg g (RQ X.K f)
def K5 (M:Model)(A:Around)(G:List Expr)(O:Expr)(env:PySem.Env)(T:Value)(E:Value->Shared->Prop)(P:Shared->Prop):Shared->Prop :=
 wpAny M A (forIn G true λc r=>if r=true then do let ok ←isTrue c env (eval c env);pure (ForInStep.yield ok)else pure (ForInStep.yield r))
  (λok g=>if ok=true then wpAny M A (eval O env) (λx=>wpAny M A (call (.builtin "list.append") [T,x]) (λ_=>P) E) E g else P g) E
def uF {E:Value->Shared->Prop}(hE:∀x s,¬E x s)(I:Nat->Shared->Prop)
  (O:∀n s,I n s->wpAny (model prog w) A (pyNext it) (λr g=>match r with
   |none=>R (.ok .next) g
   |some v=>wpAny (model prog w) A (letOwnedTupleGo Am it v) (λ_=>wpAny (model prog w) A (assign Am env v) (λ_=>K5 (model prog w) A An w6 env BI E λs=>∃m,m<n/\I m s) E) E g) E s)
  (n:Nat) (h:I n s):codeAny (model prog w) A (.compLoop (.ListComp w6 [⟨Am,gm,An,0⟩] scope pos) 0 it BI env) R s:=by
 refine codeAny_loop rfl I (λn s hI=>?_) n h;show wpAny _ A ((compTurn (.ListComp w6 [⟨Am,gm,An,0⟩] scope pos) 0 it BI env).onRaise (λx=>do noteFrame x env;theTreesLotGoes x)) _ _ s;refine wpAny_noted (wpAny_mono (E:=E) ?_ (λ_ _ q=>q) λ_ _ z=>(hE _ _ z).elim);rw[compTurn_list];refine wX (wpAny_standAt (wX (c7 (O n s hI) λr g G=>?_)));cases r with
 |none=>exact wY G
 |some v=>
  refine wX (c7 G λ_ g G=>wX (c7 G λ_ s₂ T=>wX (c7 T λok s₃ M=>?_)));cases ok with
  |false=>exact wY ⟨rfl,M⟩
  |true=>exact wX (wX (c7 M λx s₄ U=>wX (c7 U λ_ s₅ h₅=>wY (wY ⟨rfl,h₅⟩))))
def Ext.upd (x:Ext B N H H')(h:H a=none)(g:N a=none):Ext B N H (upd H' a o) :=
 ⟨λb u e=>by rw[aM (λz=>by subst z;rw[h]at e;cases e)];exact x.hh _ _ e,x.bn,λb u e=>by rw[aM (λz=>by subst z;rw[g]at e;cases e)];exact x.nh _ _ e,x.new⟩
noncomputable abbrev iQ (X:Cx)(N':List Str)(scope:Scope)(cl:List (Str×Addr))(C:Addr)(g:Shared)(G:Hp)(fp:List Addr):Cx :=
 { X with N:=N',s₀:=g,H₀:=G,env:=compEnvC scope cl C X.env,outer:=X.stack,stack:=X.stack,ex:=fp,fn:=λ_=>false,pn:=[],xe:=λ_ _=>False }
inductive np (X:Cx)(N':List Str)(scope:Scope)(cl:List (Str×Addr)):Nat->List Nat->Prop where
 |nil {j:Nat}(h:N'.length=j):np X N' scope cl j []
 |cons {j i:Nat}{r:List Nat}{x:Str}(h1:N'[j]? = some x) (h2:X.N[i]? = some x) (h3:X.env.kindOf x=some .cell∨X.env.kindOf x=some .free)
   (h4:(relabel scope X.env).names.lookup x=some .cell∨(relabel scope X.env).names.lookup x=some .free) (h5:cl.lookup x=X.env.cells.lookup x) (t:np X N' scope cl (j+1) r):np X N' scope cl j (i::r)
theorem np.len:∀ {j:Nat}{cap:List Nat},np X N' scope cl j cap->N'.length=j+cap.length
 |_,_,.nil h=>by rw[h];rfl
 |j,i::r,.cons _ _ _ _ _ t=>by rw[t.len,vE];omega
theorem np.get:∀ {j:Nat}{cap:List Nat}{k i:Nat},np X N' scope cl j cap->cap[k]? = some i->∃x,N'[j+k]? = some x/\X.N[i]? = some x/\(X.env.kindOf x=some .cell∨X.env.kindOf x=some .free) /\
  ((relabel scope X.env).names.lookup x=some .cell∨(relabel scope X.env).names.lookup x=some .free)/\cl.lookup x=X.env.cells.lookup x
 |_,_,_,_,.nil _,e=>by simp at e
 |j,_,0,_,.cons h1 h2 h3 h4 h5 _,e=>by simp at e;subst e;exact⟨_,h1,h2,h3,h4,h5⟩
 |j,_,k+1,i,.cons _ _ _ _ _ t,e=>by
  obtain⟨x,q,r⟩:=t.get (k:=k) (i:=i) (by simpa using e);exact⟨x,by rw[show j+(k+1)=j+1+k by omega];exact q,r⟩
structure CompSc (X:Cx)(scope:Scope)(cl:List (Str×Addr)):Prop where
 clos:closureFor scope X.env=pure cl
 nocell:∀y∈scope.names,y.2≠.cell
 kind:scope.kind=.function
 names:∀y∈scope.names,y.2=.local->scope.names.lookup y.1=some .local
 sub:∀x c,cl.lookup x=some c->X.env.cells.lookup x=some c
 has:∀x,((relabel scope X.env).names.lookup x=some .cell∨(relabel scope X.env).names.lookup x=some .free)->∃c,cl.lookup x=some c
noncomputable def dR:List (Str×NameKind)->List (Str×Addr)->List (Str×Addr)->List (Str×Addr)
 |[],_,cs=>cs
 | (n,k)::r,cells,cs=>dR r cells (if k == .free then (match cells.lookup n with|some c=>(n,c)::cs|none=>cs)else cs)
def sQ:∀(names:List (Str×NameKind))(cs:List (Str×Addr)),(∀y∈names,y.2=.free->(env.cells.lookup y.1).isSome=true) ->
    (do let mut cs:=cs
        for (name,kind)in names do
          if kind == .free then cs:=(name,←cellOf env name)::cs
        return cs:Sem (List (Str×Addr)))=pure (dR names env.cells cs):=by
  intro names;induction names with
  |nil=>intro cs _;rfl
  |cons y r M=>
    intro cs h;obtain⟨n,k⟩:=y;have g:=λcs=>M cs λy hy=>h y (mZ _ hy);by_cases hk:k=.free
    . subst hk;have hc:=h (n,.free) mX rfl;cases q:env.cells.lookup n with
      |none=>rw[q]at hc;cases hc
      |some c=>
        have G:dR ((n,.free)::r) env.cells cs=dR r env.cells ((n,c)::cs):=by
          rw[dR,q];rfl
        rw[G,←g ((n,c)::cs)];have e2:cellOf env n=pure c:=by unfold cellOf;rw[q]
        simp only[List.forIn_cons,beq_self_eq_true,if_true,e2];rfl
    . have hb:(k == NameKind.free)=false:=by simpa using hk
      have G:dR ((n,k)::r) env.cells cs=dR r env.cells cs:=by rw[dR,hb];rfl
      rw[G,←g cs];simp only[List.forIn_cons,hb,uV,if_false];rfl
theorem mo:∀(names:List (Str×NameKind))(cs:List (Str×Addr)),(∀y d,cs.lookup y=some d->cells.lookup y=some d)->(dR names cells cs).lookup x=some c->cells.lookup x=some c
 |[],cs,h,e=>h x c e
 | (n,k)::r,cs,h,e=>by
  rw[dR]at e;refine mo r _ (λy d q=>?_) e;split at q
  ·split at q
   ·rename_i G g;rw[List.lookup_cons]at q;split at q
    ·rename_i hy;cases q
     rw[eq_of_beq hy];exact g
    ·exact h y d q
   ·exact h y d q
  ·exact h y d q
theorem sR:∀(names:List (Str×NameKind))(cs:List (Str×Addr)),(cs.lookup x).isSome=true->((dR names cells cs).lookup x).isSome=true
 |[],cs,h=>h
 | (n,k)::r,cs,h=>by
  rw[dR];refine sR r _ ?_;split
  ·split
   ·rw[List.lookup_cons];split
    ·rfl
    ·exact h
   ·exact h
  ·exact h
theorem mq:∀(names:List (Str×NameKind))(cs:List (Str×Addr)),(x,NameKind.free)∈names->(cells.lookup x).isSome=true->((dR names cells cs).lookup x).isSome=true
 | (n,k)::r,cs,hm,hc=>by
  rw[dR];rcases vP hm with e|e
  ·cases e
   refine sR r _ ?_;cases q:cells.lookup x with
   |none=>rw[q]at hc;cases hc
   |some c=>simp
  ·exact mq r _ e hc
theorem fY {α:Type}{x:Str}{k:α}:∀ {l:List (Str×α)},l.lookup x=some k->(x,k)∈l
 | (n,j)::r,h=>by
  rw[List.lookup_cons]at h;split at h
  ·rename_i e;cases h
   rw[eq_of_beq e];exact mX
  ·exact mZ _ (fY h)
def K6 {X:Cx}{scope:Scope}(h1:∀y∈scope.names,y.2≠.cell)(h2:scope.kind=.function)(h3:∀y∈scope.names,y.2=.local->scope.names.lookup y.1=some .local)(g:(scope.names.all λy=>!(y.2 == NameKind.free) || (X.env.cells.lookup y.1).isSome)=true):
  CompSc X scope (dR scope.names X.env.cells []):=by
 have h4:∀y∈scope.names,y.2=.free->(X.env.cells.lookup y.1).isSome=true:=λy hy e=>by
  have:=uR g y hy;rw[e]at this;simpa using this
 have frees:∀x,((relabel scope X.env).names.lookup x=some .cell∨(relabel scope X.env).names.lookup x=some .free)->(x,NameKind.free)∈scope.names:=λx h=>by
  have:∃k,(x,k)∈(relabel scope X.env).names/\(k=.cell∨k=.free):=by
   rcases h with h|h
   ·exact⟨_,fY h,.inl rfl⟩
   ·exact⟨_,fY h,.inr rfl⟩
  obtain⟨k,hm,hk⟩:=this;obtain⟨⟨n,j⟩,hj,e⟩:=vO hm;dsimp only at e;split at e
  ·rename_i hc;rw[vC,vC]at hc;cases e
   rw[←eq_of_beq hc.1.1];exact hj
  ·cases e
   rcases hk with rfl|rfl
   ·exact absurd rfl (h1 _ hj)
   ·exact hj
 exact⟨sQ scope.names [] h4,h1,h2,h3,λx c e=>mo scope.names [] (λy d q=>by cases q) e,λx h=>by
  have:=mq (x:=x) scope.names [] (frees x h) (h4 _ (frees x h) rfl);exact uU this⟩
def pq {scope:Scope}{cells:List (Str×Addr)}{x:Str}(h:(x,NameKind.free)∈scope.names)(hc:(cells.lookup x).isSome=true):(dR scope.names cells []).lookup x=cells.lookup x:=by
 obtain⟨c,e⟩:=uU (mq (x:=x) scope.names [] h hc);rw[e,mo scope.names [] (λy d q=>by cases q) e]
noncomputable def rS (nT:Nat)(cap:List Nat)(σ:St):St:=List.replicate nT none++cap.map λi=>(σ[i]?).join
noncomputable def dS (nT:Nat)(cap:List Nat)(ρ:Env):Env:=List.replicate nT none++cap.map λi=>match ρ[i]? with|some (some (d,_))=>some (d,false)|_=>none
def uG {α:Type}{nT:Nat}{cap:List Nat}{f:Nat->Option α}{j:Nat}{v:α}(h:(List.replicate nT none++cap.map f)[j]? = some (some v)):∃k i,j=nT+k/\cap[k]? = some i/\f i=some v:=by
 by_cases hj:j<nT
 ·rw[List.getElem?_append_left (by simpa using hj),List.getElem?_replicate,if_pos hj]at h;cases h
 ·rw[List.getElem?_append_right (by simpa using Nat.not_lt.mp hj),List.length_replicate,vA]at h;obtain⟨i,h1,h2⟩:=oY h;exact⟨j - nT,i,by omega,h1,h2⟩
def GK {α:Type}{nT:Nat}{cap:List Nat}{f:Nat->Option α}{k i:Nat}{v:α}(h1:cap[k]? = some i)(h2:f i=some v):(List.replicate nT none++cap.map f)[nT+k]? = some (some v):=by
 rw[List.getElem?_append_right (by simp),List.length_replicate,vA,Nat.add_sub_cancel_left,h1];simp[h2]
def fP.caps {K:Frag}{B:Hp}{σ:St}{ρ:Env}{nT:Nat}{cap:List Nat}(h:fP K B σ ρ):fP K B (rS nT cap σ) (dS nT cap ρ):=⟨h.tb,λj d b q=>by
 obtain⟨k,i,rfl,h1,h2⟩:=uG q;split at h2
 ·rename_i d' b' e;cases h2
  obtain⟨v,g1,g⟩:=h.at' i _ _ e;exact⟨v,GK h1 (by rw[g1];rfl),g⟩
 ·cases h2⟩
noncomputable def gN (tg:FG)(c:FT)(fe:FE)(ρ:Env):List D->Option (List D)
 |[]=>some []
 |d::r=>(tg d ρ).bind λg=>(c g).bind λb=>if b=true then (fe g).bind λx=>(gN tg c fe ρ r).map (x.1 :: ·)else gN tg c fe ρ r
@[simp] def LW (tg:FG)(c:FT)(fe:FE)(ρ:Env):gN tg c fe ρ []=some []:=by rw[gN]
@[simp] def zt (tg:FG)(c:FT)(fe:FE)(ρ:Env)(d:D)(r:List D):gN tg c fe ρ (d::r)=(tg d ρ).bind λg=>(c g).bind λb=>if b=true then (fe g).bind λx=>(gN tg c fe ρ r).map (x.1 :: ·)else gN tg c fe ρ r:=by rw[gN]
@[simp] def bI (fi:FA)(nT:Nat)(cap:List Nat)(tg:FG)(c:FT)(fe:FE):FE:=λρ=>(fi ρ).bind λitems=>if items.length<=sizeLine then (gN tg c fe (dS nT cap ρ) items).map λds=>(.lst ds,true)else none
def Jb (K:Frag)(n:Nat)(tg:FG)(g:TG):Prop:=∀(B H:Hp)(σ:St)(ρ M:Env)(v:V)(d:D)(Q:St->Hp->Prop),(∀i,i<n->ρ[i]? = some none)->fP K B σ ρ->bf B H->Is K B v d->tg d ρ=some M ->
 ρ.length=σ.length->(∀G,fP K B G M->(∀O,fP K O σ ρ->fP K O G ρ)->ρ.length=G.length->Q G H)->g v σ H Q
def wS {K:Frag}{n i:Nat}(hi:i<n):Jb K n (cQ i) (jN i):=by
 intro B H σ ρ M v d Q cl rep s h e hl k;cases e
 have G:i<σ.length:=by
  have:=(vV (cl i hi)).1;omega
 refine k _ ⟨rep.tb,λj e b q=>?_⟩ ?_ (by simpa using hl)
 ·rcases cr q with⟨rfl,p⟩|⟨ne,p⟩
  ·cases p
   exact⟨v,by simp[G],h⟩
  ·obtain⟨w,h1,h2⟩:=rep.at' j e b p;exact⟨w,by rw[vB ne];exact h1,h2⟩
 ·intro O g;refine⟨g.tb,λj e b q=>?_⟩;obtain⟨w,h1,h2⟩:=g.at' j e b q;have ne:i≠j:=λz=>by subst z;rw[cl i hi]at q;cases q
  exact⟨w,by rw[vB ne];exact h1,h2⟩
def JC (X:Cx)(g:List Expr)(c:FT):Prop:=∀(af:List (Addr×Obj))(s:Shared)(σ:St)(H:Hp)(Q:Bool->Hp->Prop),Inv X af σ H s->Av X.K c σ H Q ->
 wq X (forIn g true λc r=>if r=true then do let ok ←isTrue c X.env (eval c X.env);pure (ForInStep.yield ok)else pure (ForInStep.yield r)) (TP X af σ Q) X.xe s
@[simp] noncomputable def fu:FT:=λ_=>some true
def gG:JC X [] fu:=by
 intro af s σ H Q I h;obtain⟨B,ρ,c,g,rep,e,q⟩:=h;cases e
 exact wpAny_tests_nil ⟨H,I,q H (.refl H)⟩
def dD (h:JT X e f):JC X [e] f:=λaf s σ H Q I q=>wpAny_tests_one (h af s σ H Q I q)
inductive CI (Y:Cx)(tn:Nat->Heap->Prop)(fp:List Addr)(N1 H2:Hp)(κ:Env)(a:Addr)(l:List D->Option (List D))(items ds:List D)(s:Shared):Nat->Prop
 |mk (i:Nat) (N:Hp) (vs:List V) (es r:List D) (σ:St) (H:Hp) (I:Inv Y [] σ H s) (ti:tn i s.heap) (hn:∀b∈fp,H b=none) (hi:i<=items.length) (rp:fP Y.K N1 σ κ) (hl:κ.length=σ.length)
   (x:Ext N1 N H2 H) (n0:N a=none) (h0:H a=some (.lst vs)) (vl:vs.length<=i) (iv:IsL Y.K N vs es) (er:l (items.drop i)=some r) (ed:es++r=ds):CI Y tn fp N1 H2 κ a l items ds s (items.length - i)
def Ext.both (x:Ext N1 N H2 H)(y:Ext N1 N' H H'):Ext N (join N N') H H'/\bf N' (join N N'):=by
 refine⟨⟨y.hh,eY,λa o e=>?_,λa o e=>?_⟩,λa o e=>?_⟩
 ·cases z:N a with
  |some g=>rw[eY _ _ z]at e;cases e;exact y.hh _ _ (x.nh _ _ z)
  |none=>rw[eI z]at e;exact y.nh _ _ e
 ·cases z:N a with
  |some g=>rw[eY _ _ z]at e;cases e;exact .inl rfl
  |none=>
   rw[eI z]at e;exact(y.new a o e).elim (λG=>by rw[x.bn _ _ G]at z;cases z) .inr
 ·exact(y.new a o e).elim (λz=>eY _ _ (x.bn _ _ z)) λz=>by rw[eI (x.nh.free z)];exact e
def Ext.off (x:Ext B N H H')(h:B a=none)(h':H a=some o):N a=none:=by
 cases z:N a with
 |none=>rfl
 |some u=>
  rcases x.new _ _ z with z|z
  ·rw[h]at z;cases z
  ·rw[h']at z;cases z
def Cf {Y:Cx}(O:Y.calm=true)(hE:∀x s,¬Y.xe x s)(hg:PG Y tg g)(Oa:Jb Y.K nT pA g)(hc:JC Y An fc)(he:JE Y w6 fe)(T:Turn Y.prog Y.w Y.K tg J fp it tn)(Ob:∀i,i<nT->κ[i]? = some none)
  (J1:nA Y.K J N1 items) (hsz:items.length<=sizeLine) (hD:H2 a=none) (QB:∀H',(∀b∈fp,H' b=none)->∀b∈fp,nv Y [] H' b)
  (hR:∀s4 M H' N vs,Inv Y [] M H' s4->Ext N1 N H2 H'->N a=none->H' a=some (.lst vs)->IsL Y.K N vs ds->R (.ok .next) s4) (h:CI Y tn fp N1 H2 κ a (gN pA fc fe κ) items ds s items.length):
  codeAny (model Y.prog Y.w) Y.A (.compLoop (.ListComp w6 [⟨tg,gm,An,0⟩] scope pos) 0 (.ref it) (.ref a) Y.env) R s:=by
 refine uF hE (λn s=>CI Y tn fp N1 H2 κ a (gN pA fc fe κ) items ds s n) (λn s' h=>?_) _ h;obtain⟨i,N,vs,es,r,M,H',I',ti,hn,hi,rp,jW,x,Pg,Oc,LC,Od,er,Ph⟩:=h;have sH:bf N1 H':=x.bn.trans x.nh;by_cases wA:i<items.length
 ·obtain⟨go,yl⟩:=(J1 i H' sH).1 items[i] (by simp[wA]);refine c7 (T.item Y rfl rfl rfl O i [] s' M H' Y.xe I' (QB _ hn) ti go) λq s4 ⟨u,eu,hq⟩=>?_;subst eu;refine c7 hq λ_ s5 ⟨xv,H5,I5,rx,y5,t5,Q7⟩=>?_;obtain⟨N5,x5,i5⟩:=yl xv H5 y5;obtain⟨x6,c5⟩:=x.both x5;have S9:(join N N5) a=none:=x6.off Pg Oc;have Pj:bf (join N N5) H5:=x6.nh;rw[List.drop_eq_getElem_cons wA]at er;unfold gN at er;obtain⟨ρ1,e1,er⟩:=oX er;obtain⟨b,e2,er⟩:=oX er;have jb:∀(s9:Shared)(U:St)(H9 N9:Hp)(Of:List V)(Pk r9:List D),Inv Y (nw fp s5.heap) U H9 s9->fP Y.K N1 U κ->κ.length=U.length->Ext N1 N9 H2 H9->N9 a=none->H9 a=some (.lst Of) ->
    Of.length<=i+1->IsL Y.K N9 Of Pk->gN pA fc fe κ (items.drop (i+1))=some r9->Pk++r9=ds->∃m,m<items.length - i/\CI Y tn fp N1 H2 κ a (gN pA fc fe κ) items ds s9 m:=λs9 U H9 N9 Of Pk r9 I9 UU l9 x9 n9 h9 v9 i9 UV UW=>
   ⟨_,by omega,i+1,N9,Of,Pk,r9,U,H9,I9.pins_of λp hp=>by simp at hp,T.keep _ _ _ t5 λb hb o e=>(I9.pin (b,o) (mY _ (jw hb e))).1,λb hb=>by
    obtain⟨o,e,d⟩:=T.obj _ _ t5 b hb;exact(I9.pin (b,o) (mY _ (jw hb e))).2.1,wA,UU,l9,x9,n9,h9,v9,i9,UV,UW⟩
  refine c7 (hg (nw fp s5.heap) s5 M H5 xv u (λG H6=>H6=H5/\fP Y.K (join N N5) G ρ1/\fP Y.K N1 G κ/\κ.length=G.length) (I5.pinned (QB _ Q7) (T.obj _ _ t5)) rx
   (Oa (join N N5) H5 M κ ρ1 xv items[i] _ Ob (rp.mono (x.bn.trans eY)) Pj (i5.mono c5) e1 jW λσ1 r1 r2 l1=>⟨rfl,r1,r2 N1 rp,l1⟩)) λ_ s6 ⟨G,H6,I6,eH,SA,SD,l6⟩=>?_
  subst eH;have QC:H6 a=some (.lst vs):=x5.hh _ _ Oc;refine c7 (hc _ s6 G H6 (λc H7=>c=b/\bf H6 H7) I6 ⟨join N N5,ρ1,b,Pj,SA,e2,λH7 h7=>⟨rfl,h7⟩⟩) λok s7 ⟨H7,I7,eb,h7⟩=>?_;subst eb;have x7:Ext N1 (join N N5) H2 H7:=(x.trans x6).trans (.grow Pj h7);cases ok with
  |false=>
   rw[if_neg (by decide)]at er ⊢;exact jb s7 G H7 (join N N5) vs es r I7 SD l6 x7 S9 (h7 _ _ QC) (Nat.le_succ_of_le LC) (Od.mono eY) er Ph
  |true=>
   rw[if_pos rfl]at er ⊢;obtain⟨y,e3,er⟩:=oX er;obtain⟨r',e4,er⟩:=oY er;subst er;refine c7 (he _ s7 G H7 (λv H8=>∃N8,Ext (join N N5) N8 H7 H8/\Is Y.K N8 v y.1) I7 ⟨join N N5,ρ1,y.1,y.2,Pj.trans h7,SA,e3,λv H8 N8 x8 i8 _=>⟨N8,x8,i8⟩⟩) λw8 s8 ⟨v8,H8,I8,r8,N8,x8,i8⟩=>?_;refine c7 (sE _ s8 G H8 (.ref a) [v8] (.ref a) [w8] (λ_ H9=>H9=upd H8 a (.lst (vs++[v8]))) I8 rfl (.cons r8 .nil) ⟨_,vs,v8,rfl,rfl,x8.hh _ _ (h7 _ _ QC),by omega,rfl⟩) λ_ s9 ⟨_,H9,I9,_,e9⟩=>?_;subst e9;have SE:=x8.off S9 (h7 _ _ QC);exact jb s9 G _ N8 (vs++[v8]) (es++[y.1]) r' I9 SD l6 ((x7.trans x8).upd hD SE) SE aH (by rw[uZ,List.length_singleton];omega) ((Od.mono (eY.trans x8.bn)).append (.cons i8 .nil)) e4 (by rw[List.append_assoc];exact Ph)
 ·obtain rfl:i=items.length:=by omega
  rw[List.drop_eq_nil_of_le (vT _)]at er;cases er
  rw[uQ]at Ph;subst Ph;refine c7 (T.done Y rfl rfl rfl O items.length [] s' M H' Y.xe I' (QB _ hn) ti ((J1 _ H' sH).2 (vT _))) λq s4 ⟨hq,I9⟩=>?_;subst hq;exact hR s4 M H' N vs I9 x Pg Oc Od
def pM {X:Cx}(Og:X.calm=true){tg gm w6:Expr}{An:List Expr}{scope:Scope}{pos:Pos}{cl:List (Str×Addr)}{N':List Str}{nT:Nat}{cap:List Nat}{pA:FG}{g:TG}{fc:FT}{fe:FE}
  (S:CompSc X scope cl) (cp:np X N' scope cl nT cap)
  (hg:∀C s H fp,PG (iQ X N' scope cl C s H fp) tg g) (Oa:Jb X.K nT pA g) (hc:∀C s H fp,JC (iQ X N' scope cl C s H fp) An fc) (he:∀C s H fp,JE (iQ X N' scope cl C s H fp) w6 fe)
  {af:List (Addr×Obj)}{σ:St}{H2:Hp}{s2:Shared}{it:Addr}{fp:List Addr}{tn:Nat->Heap->Prop}{J:It}{N1:Hp}{ρ:Env}{items ds:List D}{E:Value->Shared->Prop}
  (I2:Inv X af σ H2 s2) (T:Turn X.prog X.w X.K tg J fp it tn) (IB:tn 0 s2.heap) (f2:∀b∈fp,nv X af H2 b)
  (rep:fP X.K N1 σ ρ) (sN:bf N1 H2) (J1:nA X.K J N1 items) (hsz:items.length<=sizeLine) (ec:gN pA fc fe (dS nT cap ρ) items=some ds) {RR:Value->Addr->Result->Shared->Prop}
  (UX:∀(Dd C:Addr)(s':Shared)(H' N:Hp)(vs:List V)(m:Str->Option Value),H2 Dd=none->Inv X af σ H' s'->s'.heap.Ns C m->nv X af H' C->Ext N1 N H2 H'->N Dd=some (.lst vs)->IsL X.K N vs ds->RR (.ref Dd) C (.ok .next) s'):
  wq X (newList []) (λBI U=>wq X (newFunctionEnv scope X.env.globals cl [] X.env.qual none .none (some X.env)) (λOh s₄=>
   codeAny (model X.prog X.w) X.A (.compStart (.ListComp w6 [⟨tg,gm,An,0⟩] scope pos) 0 (.ref it) BI { Oh with scope:=relabel scope X.env }) (RR BI Oh.locals) s₄) E U) E s2:=by
 refine wpAny_newObj_type (wpAny_newFunctionEnv S.nocell (by intro y hy;simp at hy) (λh₁ M O=>?_) S.kind);dsimp only at M O ⊢;have hD:H2 s2.heap.objs.size=none:=I2.fresh;have I3:Inv X af σ (upd H2 s2.heap.objs.size (.lst [])) { s2 with heap:=s2.heap.push { cls:=.type "list",dict:=none,data:=.seq ([]:List Value).toArray } }:=I2.lnew (t':=s2.toks) (ys:=[]) (its:=[]) .nil (uN _);generalize hH3:s2.heap.push { cls:=.type "list",dict:=none,data:=.seq ([]:List Value).toArray }=g3 at M O I3 ⊢;have hC:g3.objs.size=s2.heap.objs.size+1:=by rw[←hH3,Heap.size_push]
 have ID:∀b o,s2.heap.get? b=some o->g3.get? b=some o:=λb o e=>hH3 ▸ vZ _ e;have G:∀b o,g3.get? b=some o->h₁.get? b=some o:=λb o e=>O.extBut b o (vS (vX e)) (vZ _ e);have UY:∀b o,g3.get? b=some o->b≠g3.objs.size:=λb o e=>vS (vX e);have SF:∀b∈fp,∃o,s2.heap.get? b=some o:=λb hb=>let ⟨o,e,_⟩:=T.obj 0 s2.heap IB b hb;⟨o,e⟩;have UZ:∀b∈fp,b≠s2.heap.objs.size:=λb hb=>let ⟨o,e⟩:=SF b hb;vS (vX e);have SG:∀b∈fp,b≠g3.objs.size:=λb hb=>let ⟨o,e⟩:=SF b hb;UY b o (ID b o e);have SH:∀x c,X.env.cells.lookup x=some c->c≠g3.objs.size:=λx c e=>by
  obtain⟨v,z⟩:=I3.cell x c e;exact vS z.lt
 have Va:(upd H2 s2.heap.objs.size (HO.lst [])) g3.objs.size=none:=I3.hok.fresh (vT _);have stk:∀b∈CZ X.stack,∃o,s2.heap.get? b=some o:=λb hb=>by
  obtain⟨_,o,ho,_⟩:=(I2.stack).mem hb;exact⟨o,ho⟩
 -- the block's context
 let Y:Cx:=iQ X N' scope cl g3.objs.size { s2 with heap:=g3 } (upd H2 s2.heap.objs.size (.lst [])) fp;have ok:Y.Ok:=by
  refine⟨I2.ok.mod,?_,I2.ok.glob,I2.ok.blt,vT _,λx y c e1 e2=>I2.ok.inj x y c (S.sub x c e1) (S.sub y c e2),λx h=>S.has x h,λx c h=>absurd h uX,I2.ok.hd,I2.ok.frames,.inl rfl,λb hb=>⟨SG b hb,λx c e=>(f2 b hb).2.2.2.2.1 x c (S.sub x c e)⟩,λb o e=>?_,?_,λb o e hb=>?_,λb hb hz=>?_,I3.stack,λb hb=>I3.stkFree b hb⟩
  ·show(relabel scope X.env).kind=.function;exact S.kind
  ·exact I3.bs b o e
  ·exact vR I3.ok.bsz I3.sz
  ·have h1:=(f2 b hb).2.2.2.1;rcases h1 with z|z
   ·exact I2.ok.noex b o e z
   ·exact absurd (vQ (vX e) (vR I2.ok.bsz z)) (Nat.lt_irrefl _)
  ·rcases vP (I2.stkSub b hz)with z|z
   ·exact(f2 b hb).2.1 z
   ·exact(f2 b hb).2.2.1 z
 have I4:Inv Y [] (rS nT cap σ) (upd H2 s2.heap.objs.size (.lst [])) { s2 with heap:=h₁,toks:=s2.toks+([]:List (Str×Value)).length }:=by
  refine⟨ok,rfl,I2.bare,Un.kept G,⟨_,M,λj x v e1 e2 e3=>?_⟩,λx c e=>?_,Va,λx c e=>I3.freeC x c (S.sub x c e),λp hp=>absurd (show p∈[]from hp) List.not_mem_nil,I3.hok.kept G,?_⟩
  ·obtain⟨k,i,rfl,h1,h2⟩:=uG e2;obtain⟨y,g1,g2,SI,g4,g5⟩:=cp.get h1;have SJ:N'[nT+k]? = some x:=e1;rw[g1]at SJ;cases SJ;have Pe:σ[i]? = some (some v):=by
    cases q:σ[i]? with
    |none=>rw[q]at h2;cases h2
    |some z=>rw[q]at h2;have:z=some v:=h2;rw[this]
   obtain⟨m,_,hl⟩:=I3.loc;obtain⟨u,r,l⟩:=hl i _ v g2 Pe (SI.elim (λz=>.inr (.inl z)) λz=>.inr (.inr z));refine⟨u,r,?_⟩;rcases l with⟨l,_⟩|⟨_,c,lc,ic⟩
   ·rcases SI with z|z<;>(rw[z]at l;cases l)
   ·refine .inr ⟨g4,c,by show cl.lookup _=some c;rw[g5];exact lc,?_⟩;obtain⟨o,ho,hd⟩:=ic;exact⟨o,G _ _ ho,hd⟩
  ·obtain⟨v,o,ho,hd⟩:=I3.cell x c (S.sub x c e);exact⟨v,o,G _ _ ho,hd⟩
  ·show(rS nT cap σ).length=N'.length;unfold rS;rw[cp.len];simp
 have loop:∀U:Shared,U={ s2 with heap:=h₁,toks:=s2.toks+([]:List (Str×Value)).length }->codeAny (model Y.prog Y.w) Y.A (.compLoop (.ListComp w6 [⟨tg,gm,An,0⟩] scope pos) 0 (.ref it) (.ref s2.heap.objs.size) Y.env) (RR (.ref s2.heap.objs.size) g3.objs.size) U:=by
  rintro U rfl;refine Cf (Y:=Y) Og (λ_ _ z=>z) (hg _ _ _ _) Oa (hc _ _ _ _) (he _ _ _ _) T (λi hi=>?_) J1 hsz hD (λH' hn b hb=>⟨hn b hb,SG b hb,ok.exfs b hb,.inl hb,λx c e=>(f2 b hb).2.2.2.2.1 x c (S.sub x c e),λp hp=>absurd (show p∈[]from hp) List.not_mem_nil⟩) (λs4 σ' H' N vs I9 x Pg Oc Od=>?_)
   ⟨0,N1,[],[],ds,rS nT cap σ,_,I4,T.keep _ _ _ IB λb hb o e=>G _ _ (ID _ _ e),λb hb=>?_,uN _,rep.caps,?_,(Ext.refl sN).upd hD (sN.free hD),sN.free hD,aH,uN _,.nil,by simpa using ec,rfl⟩
  ·unfold dS;rw[List.getElem?_append_left (by simpa using hi),List.getElem?_replicate,if_pos hi]
  ·obtain⟨m,hm,_⟩:=I9.loc;have k:bf N (upd N s2.heap.objs.size (.lst vs)):=λa o e=>by rw[aM (λz=>by subst z;rw[Pg]at e;cases e)];exact e
   refine UX s2.heap.objs.size g3.objs.size s4 H' (upd N s2.heap.objs.size (.lst vs)) vs m hD (I2.call' (ch:=fp) I9.os ((Un.laid ID (vT _) hD).trans I9.base) I9.hok I9.bare λb hb=>⟨(f2 b hb).2.2.2.1,(f2 b hb).2.1,(f2 b hb).2.2.2.2.1,(f2 b hb).2.2.2.2.2⟩) hm (I2.fpOk (by rw[hC];exact Nat.le_succ _) I9.free) ⟨x.hh,x.bn.trans k,λa o e=>?_,λa o e=>?_⟩ aH (Od.mono k)
   ·by_cases z:a=s2.heap.objs.size
    ·subst z;rw[aH]at e;cases e;exact Oc
    ·rw[aM z]at e;exact x.nh _ _ e
   ·by_cases z:a=s2.heap.objs.size
    ·subst z;exact .inr hD
    ·rw[aM z]at e;exact x.new _ _ e
  ·rw[aM (UZ b hb)];exact(f2 b hb).1
  ·unfold dS rS;simp
 exact codeAny_compStart_list (loop _ rfl) (T.self _ 0 _ _ _ (T.keep _ _ _ IB λb hb o e=>G _ _ (ID _ _ e)) (loop _ rfl))
def GL (G:X.calm=true) 
  (S:CompSc X scope cl) (cp:np X N' scope cl nT cap) (hi:JI X tg gm fi)
  (hg:∀C s H fp,PG (iQ X N' scope cl C s H fp) tg g) (O:Jb X.K nT pA g) (hc:∀C s H fp,JC (iQ X N' scope cl C s H fp) An fc) (he:∀C s H fp,JE (iQ X N' scope cl C s H fp) w6 fe)
  (hs:∀x,foldedSetIterable gm X.env x=pure x:=by intro _;rfl):
  JE X (.ListComp w6 [⟨tg,gm,An,0⟩] scope pos) (bI fi nT cap pA fc fe):=by
 intro af s σ H Q I h;obtain⟨B,ρ,d,b,sB,rep,e,q⟩:=h;obtain⟨items,ei,e⟩:=oX e;have hsz:items.length<=sizeLine:=Decidable.byContradiction λz=>by rw[if_neg z]at e;cases e
 rw[if_pos hsz]at e;obtain⟨ds,ec,e⟩:=oY e;cases e
 rw[eval_ListComp];refine wpAny_comprehension_free (use:=none) rfl hs S.clos S.kind S.names (c7 (hi af s σ H (λJ H2=>∃N1,Ext B N1 H H2/\nA X.K J N1 items) I ⟨B,ρ,items,sB,rep,ei,λJ H2 N1 M U=>⟨N1,M,U⟩⟩) λv s1 h1=>c7 h1 λS6 s2 h2=>?_);obtain⟨it,fp,tn,J,H2,e,I2,T,IB,f2,N1,M,U⟩:=h2;subst e;refine pM G S cp hg O hc he I2 T IB f2 (rep.mono M.bn) M.nh U hsz ec (RR:=λBI C=>compPost (model X.prog X.w) X.A X.xe none (EP X af σ Q) BI C) ?_;intro Dd C s' H' N vs m hD I' hm fC x hN hl;refine⟨m,hm,λh' hs'=>⟨.ref Dd,H',?_,rfl,q _ H' N (M.trans x) (.lst (gn.of hN) hl) λ_=>⟨Dd,vs,ds,rfl,rfl,M.hh.free hD,hN,hl⟩⟩⟩;obtain⟨c0,c1,c2,c3,c4,c5⟩:=fC;exact I'.turned (t':=s'.toks) (λb o hb e=>(hs'.2 b hb).trans e) c0 c1 c3 c4 c5
def GN (M:X.calm=true) 
  (hN:X.N.Nodup) (QD:X.N[i]? = some y) (hy:X.env.kindOf y=some .local)
  (Vb:swapsWith (.ListComp w6 [⟨tg,G,O,0⟩] scope pos) (some (.Name y py)) spos.line X.env=pure true)
  (S:CompSc X scope cl) (cp:np X N' scope cl nT cap) (hi:JI X tg G fi)
  (hg:∀C s H fp,PG (iQ X N' scope cl C s H fp) tg g) (Oa:Jb X.K nT pA g) (hc:∀C s H fp,JC (iQ X N' scope cl C s H fp) O fc) (he:∀C s H fp,JE (iQ X N' scope cl C s H fp) w6 fe)
  (hs:∀x,foldedSetIterable G X.env x=pure x:=by intro _;rfl):
  JS X (.Assign [.Name y py] (.ListComp w6 [⟨tg,G,O,0⟩] scope pos) spos) (aO i (bI fi nT cap pA fc fe)):=by
 intro af s σ H E I h;have h2:zc (tD X.K (bI fi nT cap pA fc fe)) (jN i) E σ H:=Aw h;obtain⟨B,ρ,d,b,sB,rep,e,q⟩:=h2;obtain⟨items,ei,e⟩:=oX e;have hsz:items.length<=sizeLine:=Decidable.byContradiction λz=>by rw[if_neg z]at e;cases e
 rw[if_pos hsz]at e;obtain⟨ds,ec,e⟩:=oY e;cases e
 rw[exec_Assign_Name_used _ _ _ _ Vb];refine wX (wpAny_standAt (wX ?_));show wpAny _ _ (do let _ ←comprehension (.ListComp w6 [⟨tg,G,O,0⟩] scope pos) scope X.env _ (newList []) false (eval G X.env) (some (assign (.Name y py) X.env))) _ _ s;refine wX (wpAny_mono (wpAny_comprehension_free (use:=some (assign (.Name y py) X.env)) (Q:=λ_ s'=>SP X af E .next s') rfl hs S.clos S.kind S.names
  (c7 (hi af s σ H (λJ H2=>∃N1,Ext B N1 H H2/\nA X.K J N1 items) I ⟨B,ρ,items,sB,rep,ei,λJ H2 N1 U j1=>⟨N1,U,j1⟩⟩) λv s1 h1=>c7 h1 λS6 s2 h2=>?_)) (λ_ s' hq=>wY (wY hq)) λ_ _ e=>e)
 obtain⟨it,fp,tn,J,H2,e,I2,T,IB,f2,N1,U,j1⟩:=h2;subst e;refine pM M S cp hg Oa hc he I2 T IB f2 (rep.mono U.bn) U.nh j1 hsz ec (RR:=λBI C=>compPost (model X.prog X.w) X.A X.xe (some (assign (.Name y py) X.env)) (λ_ s'=>SP X af E .next s') BI C) ?_;intro Dd C s' H' N vs m hD I' hm fC x SK hl;show wpAny _ _ (assign (.Name y py) X.env (.ref Dd)) _ _ s';obtain⟨c0,c1,c2,c3,c4,c5⟩:=fC;refine wpAny_assign_Name (sq I' hN QD (.inl hy) (r:=show bd (.ref Dd) (.ref Dd)from rfl) (λs9 I9 ⟨a,sb,ha⟩=>?_) (.inr hy));have nC:C≠a:=by
  rcases ha with z|z
  ·rw[z];exact c1
  ·exact λw=>c4 y a z w.symm
 refine⟨m,hm.sameBut sb nC,λh' hs'=>⟨_,H',?_,q _ H' N (U.trans x) (.lst (gn.of SK) hl) λ_=>⟨Dd,vs,ds,rfl,rfl,U.hh.free hD,SK,hl⟩⟩⟩;exact I9.turned (t':=s9.toks) (λb o hb e=>(hs'.2 b hb).trans e) c0 c1 c3 c4 c5
section
variable {X:Cx}{a b c e:Expr}{pos:Pos}
def PE.to (h:PE X e t)(k:∀σ H Q,t' σ H Q->t σ H Q):PE X e t':=λaf s σ H Q I q=>h af s σ H Q I (k σ H Q q)
def PT.to (h:PT X e t)(k:∀σ H Q,t' σ H Q->t σ H Q):PT X e t':=λaf s σ H Q I q=>h af s σ H Q I (k σ H Q q)
def PW.to (h:PW X e t)(k:∀σ H Q,t' σ H Q->t σ H Q):PW X e t':=λg af s σ H Q I q=>h g af s σ H Q I (k σ H Q q)
def PA.to (h:PA X es t)(k:∀σ H Q,t' σ H Q->t σ H Q):PA X es t':=λpos af s σ H Q I q=>h pos af s σ H Q I (k σ H Q q)
def PS.to {st:Stmt}{t t':TS}(h:PS X st t)(k:∀E σ H,t' E σ H->t E σ H):PS X st t':=λaf s σ H E I q=>h af s σ H E I (k E σ H q)
def sr.to {st:List Stmt}{t t':TS}(h:sr X st t)(k:∀E σ H,t' E σ H->t E σ H):sr X st t':=λaf s σ H E I q=>h af s σ H E I (k E σ H q)
def PI.to (h:PI X tg it t)(k:∀σ H Q,t' σ H Q->t σ H Q):PI X tg it t':=λaf s σ H Q I q=>h af s σ H Q I (k σ H Q q)
def DF {K:Frag}{d:D}{v:V}(i:∀B,Is K B v d){σ:St}{H:Hp}{Q:VK}(h:tD K (fC d) σ H Q):tC v σ H Q:=by
 obtain⟨B,ρ,d',b,s,r,e,q⟩:=h;cases e
 exact q.one s (i B)
def ag (i:Nat)(G:X.N[i]? = some x:=by rfl)(hv:Dh X.env.scope x:=by first|exact Or.inl rfl|exact Or.inr (Or.inl rfl)|exact Or.inr (Or.inr rfl))(hd:(x == ("__debug__" : Str))=false:=by decide)
  (g:(x == ("__classdict__" : Str))=false:=by decide):JE X (.Name x pos) (aj i):=PE.to (lF G hv hd g) λ_ _ _ h=>K3 h
def av:JE X (.Constant (.int i) j pos) (fC (.int i)):=PE.to JJ λ_ _ _ h=>DF (λ_=>.int i) h
def fz:JE X (.Constant (.bool i) j pos) (fC (.bl i)):=PE.to Mo λ_ _ _ h=>DF (λ_=>.bl i) h
def de:JE X (.Constant .none j pos) (fC .non):=PE.to JL λ_ _ _ h=>DF (λ_=>.non) h
def a7:JE X (.Constant (.str x) j pos) (fC (.str x)):=PE.to JM λ_ _ _ h=>DF (λ_=>.str x) h
def GO (g:Gl X x)(hm:X.mg x=some u)(r:bd v u)(i:∀B,Is X.K B v d)(hd:(x == ("__debug__" : Str))=false:=by decide):JE X (.Name x pos) (fC d):=PE.to (Ao g hm r hd) λ_ _ _ h=>DF i h
def ax (ho:dP X (binaryOp op) (rD X.K f))(ha:JE X a fa)(hb:JE X b fb):JE X (.BinOp a op b pos) (f2 f fa fb):=PE.to (IQ ho ha hb) λ_ _ _ h=>GA h
def wT (ho:M5 X (unaryOp op) (PQ X.K f))(ha:JE X a fa):JE X (.UnaryOp op a pos) (f1 f fa):=PE.to (M6 ho ha) λ_ _ _ h=>PR h
def cx (ho:dP X (compareOp op) (rD X.K f))(ha:JE X a fa)(hb:JE X b g)(hm:behindInMarks op b=false:=by first|exact gZ _ (by decide) (by decide)|rfl):JE X (.Compare a [op] [b] pos) (f2 f fa g):=PE.to (Gr ho ha hb hm) λ_ _ _ h=>GA h
def uH {K:Frag}{f:FE}{σ:St}{H:Hp}{Q:Bool->Hp->Prop}(h:Av K (ba f) σ H Q):tD K f σ H λx H'=>∃k,x=.bl k/\Q k H':=by
 obtain⟨B,ρ,c,s,r,e,q⟩:=h;unfold ba at e;split at e
 ·rename_i G b' g;cases e
  refine⟨B,ρ,.bl c,b',s,r,g,λv H' N x i _=>?_⟩;cases i
  exact⟨c,rfl,q H' x.hh⟩
 ·cases e
def aG (ho:dP X (compareOp op) (rD X.K f))(ha:JE X a fa)(hb:JE X b fb)(hm:behindInMarks op b=false:=by first|exact gZ _ (by decide) (by decide)|rfl):JT X (.Compare a [op] [b] pos) (ba (f2 f fa fb)) :=
 PT.to (Gs ho ha hb hm) λ_ _ _ h=>GA (uH h)
def cf (h:JE X e f)(he:∀g,isTrue e X.env g=(do let v ←g;standAt e.pos;holding [v] (truthy v)):=by intro _;rfl):JT X e (ba f):=PT.to (JR h he) λ_ _ _ q=>uH q
@[simp] noncomputable def nB (f g:D->D->OB)(fa G M:FE):FE:=λρ=>(fa ρ).bind λx=>(G ρ).bind λy=>match f x.1 y.1 with
 |some (.bl true,_)=>(M ρ).bind λz=>g y.1 z.1
 |some (.bl false,_)=>some (.bl false,false)
 |_=>none
def DG {K:Frag}{f g:D->D->OB}{fa fb fc:FE}{σ:St}{H:Hp}{Q:VK}(h:tD K (nB f g fa fb fc) σ H Q):Ds (rD K f) (rD K g) (tD K fa) (tD K fb) (tD K fc) σ H Q:=by
 obtain⟨B,ρ,d,b,s,r,e,q⟩:=h;obtain⟨x,ex,e⟩:=oX e;obtain⟨y,ey,e⟩:=oX e;refine⟨B,ρ,x.1,x.2,s,r,ex,λv H1 N1 O i1 _=>⟨N1,ρ,y.1,y.2,O.nh,r.mono O.bn,ey,λv2 H2 N2 G T _=>?_⟩⟩;split at e
 ·rename_i b' U;obtain⟨z,ez,e⟩:=oX e;refine⟨N2,x.1,y.1,.bl true,b',G.nh,i1.mono G.bn,T,U,λv3 H3 N3 M i3 _=>?_⟩;cases i3
  refine⟨true,rfl,?_⟩;rw[if_pos rfl];refine⟨N3,ρ,z.1,z.2,M.nh,r.mono (O.bn.trans (G.bn.trans M.bn)),ez,λv4 H4 N4 x4 i4 _=>⟨N4,y.1,z.1,d,b,x4.nh,T.mono (M.bn.trans x4.bn),i4,e,?_⟩⟩;exact q.into ((O.trans G).trans (M.trans x4))
 ·rename_i b' U;cases e
  refine⟨N2,x.1,y.1,.bl false,b',G.nh,i1.mono G.bn,T,U,λv3 H3 N3 M i3 _=>?_⟩;cases i3
  refine⟨false,rfl,?_⟩;rw[if_neg (by decide)];exact(q.into ((O.trans G).trans M)).one M.nh (.bl false)
 ·cases e
def DH (ho:dP X (compareOp op) (rD X.K f))(G:dP X (compareOp SM) (rD X.K g))(ha:JE X a fa)(hb:JE X b fb)(hc:JE X c fc)
  (hm:lastMarks [op,SM] [b,c]=false:=by with_unfolding_all rfl):JE X (.Compare a [op,SM] [b,c] pos) (nB f g fa fb fc):=PE.to (Dt ho G ha hb hc hm) λ_ _ _ h=>DG h
def GP {K:Frag}{f g:FT}{σ:St}{H:Hp}{Q:Bool->Hp->Prop}(h:Av K (eK f g) σ H Q):Mp (Av K f) (Av K g) σ H Q:=by
 obtain⟨B,ρ,c,s,r,e,q⟩:=h;unfold eK at e;cases G:f ρ with
 |none=>rw[G]at e;cases e
 |some k=>
  rw[G]at e;refine⟨B,ρ,k,s,r,G,λM h1=>?_⟩;cases k with
  |true=>rw[if_pos rfl];exact⟨B,ρ,c,s.trans h1,r,e,λH2 h2=>q H2 (h1.trans h2)⟩
  |false=>rw[if_neg (by decide)];cases e;exact q M h1
def K7 {K:Frag}{f g:FT}{σ:St}{H:Hp}{Q:Bool->Hp->Prop}(h:Av K (je f g) σ H Q):RF (Av K f) (Av K g) σ H Q:=by
 obtain⟨B,ρ,c,s,r,e,q⟩:=h;unfold je at e;cases G:f ρ with
 |none=>rw[G]at e;cases e
 |some k=>
  rw[G]at e;refine⟨B,ρ,k,s,r,G,λM h1=>?_⟩;cases k with
  |false=>rw[if_neg (by decide)];exact⟨B,ρ,c,s.trans h1,r,e,λH2 h2=>q H2 (h1.trans h2)⟩
  |true=>rw[if_pos rfl];cases e;exact q M h1
def GQ {K:Frag}{f:FT}{σ:St}{H:Hp}{Q:Bool->Hp->Prop}(h:Av K (eM f) σ H Q):Mq (Av K f) σ H Q:=by
 obtain⟨B,ρ,c,s,r,e,q⟩:=h;obtain⟨k,ek,e⟩:=oY e;subst e;exact⟨B,ρ,k,s,r,ek,λg h1=>q g h1⟩
variable {aF:List Expr}
def gP (ha:JT X a f):JW X (.BoolOp .And [a] pos) f:=Gi ha
def jy (ha:JT X a f):JW X (.BoolOp .Or [a] pos) f:=JU ha
def jz (ha:JT X a f)(hb:JW X (.BoolOp .And (b::aF) pos) g):JW X (.BoolOp .And (a::b::aF) pos) (eK f g):=PW.to (JV ha hb) λ_ _ _ h=>GP h
def kg (ha:JT X a f)(hb:JW X (.BoolOp .Or (b::aF) pos) g):JW X (.BoolOp .Or (a::b::aF) pos) (je f g):=PW.to (Mr ha hb) λ_ _ _ h=>K7 h
def jT (h:JW X e f):JT X e f:=h.pt
def eZ (ha:JT X a f):JT X (.UnaryOp .Not a pos) (eM f):=PT.to (JX ha) λ_ _ _ h=>GQ h
@[simp] noncomputable def jU (f g:FE):FE:=λρ=>match f ρ with|some (.bl true,_)=>g ρ|some (.bl false,_)=>some (.bl false,false)|_=>none
@[simp] noncomputable def K8 (f g:FE):FE:=λρ=>match f ρ with|some (.bl true,_)=>some (.bl true,false)|some (.bl false,_)=>g ρ|_=>none
@[simp] noncomputable def Ue (f:FE):FE:=λρ=>match f ρ with|some (.bl c,_)=>some (.bl (!c),false)|_=>none
def gH (ha:JE X a f)(hb:JE X (.BoolOp .And (b::aF) pos) g):JE X (.BoolOp .And (a::b::aF) pos) (jU f g):=PE.to (JZ ha hb) λσ H Q h=>by
 obtain⟨B,ρ,d,k,s,r,e,q⟩:=h;unfold jU at e;split at e
 ·rename_i b' M;refine⟨B,ρ,_,_,s,r,M,λv T N1 G O _=>?_⟩;cases O
  refine⟨true,rfl,?_⟩;rw[if_pos rfl];exact⟨N1,ρ,d,k,G.nh,r.mono G.bn,e,q.into G⟩
 ·rename_i b' M;cases e
  refine⟨B,ρ,_,_,s,r,M,λv T N1 G O _=>?_⟩;cases O
  refine⟨false,rfl,?_⟩;rw[if_neg (by decide)];exact(q.into G).one G.nh (.bl false)
 ·cases e
def DI (ha:JE X a f)(hb:JE X (.BoolOp .Or (b::aF) pos) g):JE X (.BoolOp .Or (a::b::aF) pos) (K8 f g):=PE.to (Mt ha hb) λσ H Q h=>by
 obtain⟨B,ρ,d,k,s,r,e,q⟩:=h;unfold K8 at e;split at e
 ·rename_i b' M;cases e
  refine⟨B,ρ,_,_,s,r,M,λv T N1 G O _=>?_⟩;cases O
  refine⟨true,rfl,?_⟩;rw[if_pos rfl];exact(q.into G).one G.nh (.bl true)
 ·rename_i b' M;refine⟨B,ρ,_,_,s,r,M,λv T N1 G O _=>?_⟩;cases O
  refine⟨false,rfl,?_⟩;rw[if_neg (by decide)];exact⟨N1,ρ,d,k,G.nh,r.mono G.bn,e,q.into G⟩
 ·cases e
def fB (h:JE X a f):JE X (.BoolOp op [a] pos) f:=JY h
def Jc (hc:JT X c fc)(ha:JE X a f)(hb:JE X b g):JE X (.IfExp c a b pos) (GD fc f g):=PE.to (Dk hc ha hb) λσ H Q h=>by
 obtain⟨B,ρ,d,k,s,r,e,q⟩:=h;unfold GD at e;cases G:fc ρ with
 |none=>rw[G]at e;cases e
 |some t=>
  rw[G]at e;refine⟨B,ρ,t,s,r,G,λM h1=>?_⟩;cases t with
  |true=>rw[if_pos rfl];exact⟨B,ρ,d,k,s.trans h1,r,e,q.into (.grow s h1)⟩
  |false=>rw[if_neg (by decide)];exact⟨B,ρ,d,k,s.trans h1,r,e,q.into (.grow s h1)⟩
variable {es:List Expr}
def am:JA X [] ai:=PA.to jX λ_ _ _ h=>GC h
def ah (ha:JE X e f)(G:JA X es g)(hs:starEach (e::es) X.env=(false,eval e X.env)::starEach es X.env:=by rfl):JA X (e::es) (ae f g):=PA.to (iI ha G hs) λ_ _ _ h=>D8 h
@[simp] noncomputable def aP:List D->OB:=λds=>if ds.length<=sizeLine then some (.tup ds,false)else none
@[simp] noncomputable def bw:List D->OB:=λds=>if ds.length<=sizeLine then some (.lst ds,true)else none
def aR {g}(h:JA X es f):JE X (.Tuple es g pos) (fA aP f):=PE.to (zh h) λσ H Q q=>by
 obtain⟨B,ρ,ds,s,r,e,k⟩:=GB q;refine⟨B,ρ,ds,s,r,e,λvs M N1 g O=>?_⟩;obtain⟨T,U,d,b,s2,G,e2,k2⟩:=k vs M N1 g O;unfold aP at e2;split at e2
 ·rename_i hz;cases e2
  refine⟨by rw[G.length];exact hz,λp hp=>k2 _ _ (upd T p (.tup vs)) (.laid s2 hp) (.tup (ja.of aH) (G.mono (Ext.laid s2 hp).bn)) (by simp)⟩
 ·cases e2
def b8 (h:JA X es f):JE X (.List es pos) (fA bw f):=PE.to (Kr h) λσ H Q q=>by
 obtain⟨B,ρ,ds,s,r,e,k⟩:=GB q;refine⟨B,ρ,ds,s,r,e,λvs M N1 O T=>?_⟩;obtain⟨U,g,d,b,s2,G,e2,k2⟩:=k vs M N1 O T;unfold bw at e2;split at e2
 ·rename_i hz;cases e2
  refine⟨by rw[G.length];exact hz,λp hp=>k2 _ _ (upd U p (.lst vs)) (.laid s2 hp) (.lst (gn.of aH) (G.mono (Ext.laid s2 hp).bn)) λ_=>⟨p,vs,g,rfl,rfl,hp,aH,G.mono (Ext.laid s2 hp).bn⟩⟩
 ·cases e2
end
section
variable {X:Cx}
def iR (h:dP X f r)(k:∀x y H Q,r' x y H Q->r x y H Q):dP X f r':=λaf s σ H x y v u Q I g G q=>h af s σ H x y v u Q I g G (k x y H Q q)
noncomputable def De (f g:D->D->OB):D->D->OB:=λx y=>match f x y with|some r=>some r|none=>g x y
def nD (h:dP X s (rD X.K f))(h':dP X s (rD X.K g)):dP X s (rD X.K (De f g)):=by
 intro af st σ H x y v u Q I G M q;obtain⟨B,dx,O,d,b,T,U,iy,e,q⟩:=q;unfold De at e;split at e
 ·rename_i r ef;cases e
  exact h af st σ H x y v u Q I G M ⟨B,dx,O,_,_,T,U,iy,ef,q⟩
 ·exact h' af st σ H x y v u Q I G M ⟨B,dx,O,_,_,T,U,iy,e,q⟩
@[simp] noncomputable def yU (C:Int->Int->Bool)(g:Int->Int->D):D->D->OB
 |.int i,.int j=>if C i j=true then some (g i j,false)else none
 |_,_=>none
def uI (h:dP X s (rI C g))(G:∀i j,C' i j=true->C i j)(M:∀i j B,Is X.K B (g i j) (g' i j)):dP X s (rD X.K (yU C' g')):=by
 refine iR h λx y H Q q=>?_;obtain⟨B,dx,dy,d,b,O,T,U,e,q⟩:=q;cases T<;>try (cases e;done)
 cases U<;>try (cases e;done)
 rename_i i j;simp only[yU]at e;split at e
 ·rename_i hc;cases e
  exact⟨i,j,rfl,rfl,G i j hc,q.one O (M i j B)⟩
 ·cases e
def hU (h:dP X s (FV g))(G:∀i j B,Is X.K B (g i j) (g' i j)):dP X s (rD X.K (yU (λ_ _=>true) g')):=by
 refine iR h λx y H Q q=>?_;obtain⟨B,dx,U,d,b,M,O,T,e,q⟩:=q;cases O<;>try (cases e;done)
 cases T<;>try (cases e;done)
 rename_i i j;simp only[yU,if_true]at e;cases e
 exact⟨i,j,rfl,rfl,q.one M (G i j B)⟩
abbrev K9:D->D->OB:=yU (λ_ _=>true) λi j=>.int (i+j)
abbrev zu:D->D->OB:=yU (λ_ _=>true) λi j=>.int (i - j)
abbrev KA:D->D->OB:=yU (λi j=>decide ((-18446744073709551616<i/\i<18446744073709551616)∨(-18446744073709551616<j/\j<18446744073709551616))) λi j=>.int (i*j)
abbrev cV:D->D->OB:=yU (λ_ j=>decide (0<j/\j<1073741824)) λi j=>.int (i / j)
abbrev bP:D->D->OB:=yU (λ_ j=>decide (0<j)) λi j=>.int (i % j)
abbrev MY:D->D->OB:=yU (λ_ _=>true) λi j=>.int (Builtin.bitAnd i j)
abbrev RS:D->D->OB:=yU (λ_ _=>true) λi j=>.bl (decide (i<j))
abbrev PU:D->D->OB:=yU (λ_ _=>true) λi j=>.bl (decide (i<=j))
abbrev Ax:D->D->OB:=yU (λ_ _=>true) λi j=>.bl (decide (j<i))
abbrev PV:D->D->OB:=yU (λ_ _=>true) λi j=>.bl (decide (j<=i))
def MZ:dP X (binaryOp .Add) (rD X.K K9):=hU Kk λ_ _ _=>.int _
def DJ:dP X (binaryOp .Sub) (rD X.K zu):=hU Kl λ_ _ _=>.int _
def Na:dP X (binaryOp .Mult) (rD X.K KA):=uI Km (λi j h=>by have h:=of_decide_eq_true h;unfold Gp;omega) λ_ _ _=>.int _
def bV:dP X (binaryOp .FloorDiv) (rD X.K cV):=uI Gq (λi j h=>by have h:=of_decide_eq_true h;unfold M7;omega) λ_ _ _=>.int _
def bN:dP X (binaryOp .Mod) (rD X.K bP):=uI Kn (λ_ _ h=>of_decide_eq_true h) λ_ _ _=>.int _
def Nb:dP X (binaryOp .BitAnd) (rD X.K MY):=hU Ko λ_ _ _=>.int _
def PX:dP X (compareOp .Lt) (rD X.K RS):=hU M8 λ_ _ _=>.bl _
def PY:dP X (compareOp .LtE) (rD X.K PU):=hU M9 λ_ _ _=>.bl _
def zv:dP X (compareOp .Gt) (rD X.K Ax):=hU MA λ_ _ _=>.bl _
def PZ:dP X (compareOp .GtE) (rD X.K PV):=hU MB λ_ _ _=>.bl _
@[simp] noncomputable def LX (C:Str->Str->Bool)(g:Str->Str->D):D->D->OB
 |.str i,.str j=>if C i j=true then some (g i j,false)else none
 |_,_=>none
abbrev GR:D->D->OB:=LX (λi j=>decide (i.length+j.length<=sizeLine)) λi j=>.str (i++j)
abbrev OP:D->D->OB:=LX (λ_ _=>true) λi j=>.bl (!decide (j.cps.toList<i.cps.toList))
def KE:dP X (binaryOp .Add) (rD X.K GR):=by
 refine iR zf λx y H Q q=>?_;obtain⟨B,dx,O,d,b,g,G,M,e,q⟩:=q;cases G<;>try (cases e;done)
 cases M<;>try (cases e;done)
 rename_i i j;simp only[GR,LX]at e;split at e
 ·rename_i hc;cases e
  exact⟨i,j,rfl,rfl,of_decide_eq_true hc,q.one g (.str _)⟩
 ·cases e
def Nc:dP X (compareOp .LtE) (rD X.K OP):=by
 intro af s σ H x y v u Q I g G q;obtain⟨B,dx,U,d,b,M,O,T,e,q⟩:=q;cases O<;>try (cases e;done)
 cases T<;>try (cases e;done)
 rename_i i j;simp only[OP,LX,if_true]at e;cases e
 obtain⟨t,rfl⟩:=g;obtain⟨t',rfl⟩:=G;exact PySem.P.le_str ⟨.bl _,H,I,rfl,q.one M (.bl _)⟩
end
section
variable {X:Cx}{a b c e:Expr}{pos:Pos}{st:Stmt}{aF:List Stmt}
def fg:uE X [] aY:=sr.to Gj λ_ _ _ h=>DA h
def ao (h1:JS X st g)(h2:uE X aF h):uE X (st::aF) (az g h):=sr.to (Dl h1 h2) λ_ _ _ q=>GF q
def bB (h1:JS X st g):uE X [st] g:=Gk h1
def fD {c:Expr}{a b:List Stmt}{G:FT}{g h:FS}(hc:JT X c G)(ha:uE X a g)(hb:uE X b h):JS X (.If c a b pos) (du G g h):=PS.to (My hc ha hb) λ_ _ _ q=>K4 q
def DK (he:JE X e f):JS X (.Return (some e) pos) (aN f):=PS.to (Dm he) λ_ _ _ q=>GG q
def kR (i:Nat)(G:X.N[i]? = some x:=by rfl)(hv:Dh X.env.scope x:=by first|exact Or.inl rfl|exact Or.inr (Or.inl rfl)|exact Or.inr (Or.inr rfl))(hd:(x == ("__debug__" : Str))=false:=by decide)
  (g:(x == ("__classdict__" : Str))=false:=by decide):JS X (.Return (some (.Name x p)) pos) (jf i):=PS.to (Dm (lF G hv hd g)) λ_ _ _ q=>DB q
def aA (g:X.N.Nodup)(he:JE X e f)(hi:X.N[i]? = some x:=by rfl)(hx:FU X.env.scope x:=by first|exact Or.inl rfl|exact Or.inr rfl)(hs:swapsWith e (some (.Name x p)) pos.line X.env=pure false:=by rfl)
  (hf:X.fn x=true∨X.env.scope.names.lookup x=some .local:=by first|exact .inl rfl|exact .inr rfl):JS X (.Assign [.Name x p] e pos) (aO i f):=PS.to (ut g hi hx he hs hf) λ_ _ _ q=>Aw q
def GS (g:X.N.Nodup)(he:JE X e f)(hi:X.N[i]? = some x:=by rfl)(hx:FU X.env.scope x:=by first|exact Or.inl rfl|exact Or.inr rfl)(hs:swapsWith e (some (.Name x p)) pos.line X.env=pure false:=by rfl)
  (hf:X.fn x=true∨X.env.scope.names.lookup x=some .local:=by first|exact .inl rfl|exact .inr rfl):JS X (.Assign [.Name x p] e pos) (wQ i f):=PS.to (ut g hi hx he hs hf) λ_ _ _ q=>DC q
def DM (n:Nat)(hp:PassesOwn (model X.prog X.w) X.A X.env X.xe)(hc:JT X c fc)(hb:uE X body g):JS X (.While c body [] pos) (fX fc g n):=PS.to (Dp hp hc hb) λ_ _ _ q=>Ce q
def KG (hp:PassesOwn (model X.prog X.w) X.A X.env X.xe)(hc:X.calm=true)(hi:JI X tg gm fi)(G:PG X tg t)(M:GI X.K pA t)(hb:uE X body g)
  (hs:∀x,foldedSetIterable gm X.env x=pure x:=by intro _;rfl):JS X (.For tg gm body [] pos) (rR fi pA g):=PS.to (Dr hp hc hi G hb hs) λ_ _ _ q=>GJ M q
def GU (hp:PassesOwn (model X.prog X.w) X.A X.env X.xe)(hc:X.calm=true)(hi:PI X tg gm (OO X.K fi))(G:PG X tg t)(M:GI X.K pA t)(hb:uE X body g)
  (hs:∀x,foldedSetIterable gm X.env x=pure x:=by intro _;rfl):JS X (.For tg gm body [] pos) (jO fi pA g):=PS.to (Dr hp hc hi G hb hs) λ_ _ _ q=>DE M q
def gI (he:JE X e f)(U:X.N[i]? = some x:=by rfl)(hv:Dh X.env.scope x:=by first|exact Or.inl rfl|exact Or.inr (Or.inl rfl)|exact Or.inr (Or.inr rfl))(hd:(x == ("__debug__" : Str))=false:=by decide)
  (O:(x == ("__classdict__" : Str))=false:=by decide)
  (g:attributeBase (.Name x p) "append" X.env (eval (.Name x p) X.env)=eval (.Name x p) X.env:=by rfl)
  (M:((backTo cI (starEach [e] X.env)).all (λx=>!x.1) && (backToKw cI (keywordEach [] X.env)).all (λx=>x.1.isSome)
   && decide ([e].length+([]:List Keyword).length+(if([]:List Keyword).isEmpty then 0 else 1)<30))=true:=by rfl)
  (G:(dG.endLine == cI.line)=true:=by rfl) (hs:starEach [e] X.env=[(false,eval e X.env)]:=by rfl) (T:swapsWith (.Call (.Attribute (.Name x p) "append" dG) [e] [] cI) none pos.line X.env=pure false:=by rfl):
  JS X (.Expr (.Call (.Attribute (.Name x p) "append" dG) [e] [] cI) pos) (iP i f):=by
 refine PS.to (Gm (Dz PySem.F.plainAttrs_list PySem.F.slot_list_append PySem.F.type_list_append sE (lF U hv hd O) (iI he jX hs) g M G hs rfl) T) λE σ H q=>?_;obtain⟨a,us,h1,h2,k⟩:=GH q;exact⟨_,h1,.inl ⟨rfl,us,gn.of h2⟩,k⟩
end
@[simp] noncomputable def aJ (g:FS)(n k:Nat):List D->OB:=λds=>if ds.length=n then
 match g (ds.map (λd=>some (d,false))++List.replicate k none) with
 |some (.rt d b)=>some (d,b)
 |some (.nx _)=>some (.non,false)
 |_=>none
 else none
def GV (K:Frag)(f:List D->OB):Sp:=λvs H Q _=>∃(B:Hp)(ds:List D)(d:D)(b:Bool),(bf B H/\Tb K B)/\IsL K B vs ds/\f ds=some (d,b)/\Fin K B H d b Q
def wU {K:Frag}{B H:Hp}{vs:List V}{ds:List D}{N:List Str}(G:bf B H)(tb:Tb K B)(i:IsL K B vs ds):eP K B H B H (L2.hJ N vs) (ds.map (λd=>some (d,false))++List.replicate (N.length - vs.length) none):=by
 have g:∀(j:Nat)(d:D)(b:Bool),(ds.map (λd=>some (d,false))++List.replicate (N.length - vs.length) none:Env)[j]? = some (some (d,b))->b=false/\ds[j]? = some d:=λj d b e=>by
  by_cases hj:j<ds.length
  ·rw[List.getElem?_append_left (by simpa using hj),vA]at e;obtain⟨d',h1,h2⟩:=oY e;cases h2
   exact⟨rfl,h1⟩
  ·rw[List.getElem?_append_right (by simpa using Nat.not_lt.mp hj),List.getElem?_replicate]at e;split at e<;>cases e
 have M:∀a,¬own (L2.hJ N vs) (ds.map (λd=>some (d,false))++List.replicate (N.length - vs.length) none) a:=λa ⟨j,d,h,_⟩=>by
  obtain⟨z,_⟩:=g j d true h;cases z
 refine⟨G,tb,.refl G,?_,λj d e=>?_,λj d e=>?_,λj k a d e h=>?_⟩
 ·unfold L2.hJ;rw[uZ,uZ,vI,vI,List.length_replicate,List.length_replicate,i.length]
 ·obtain⟨_,O⟩:=g j d false e;obtain⟨v,h1,h2⟩:=i.get O;refine⟨v,?_,h2.mono λa o e=>by rw[dc (M a)];exact e⟩;unfold L2.hJ;have hj:j<vs.length:=(vV h1).1;rw[List.getElem?_append_left (by simpa using hj),vA,h1]<;>rfl
 ·obtain⟨z,_⟩:=g j d true e;cases z
 ·obtain⟨z,_⟩:=g j d true h;cases z
section
variable {P:Program}{w:World}{K:Frag}{mg:Str->Option Value}{base:Heap}
def Nd {x qual:Str}{st:Stmt}{f:Addr}{fd:FuncData}{N ps:List Str}{k:Nat}{g:FS}(F:LB K x qual st f fd)(S:FnScope N ps (aW st))
  (hb:∀(eQ:Value)(A:Around)(outer:List PySem.Env)(s:Shared)(H:Hp)(E:XK),eV k (A.deeper (envOfC qual (aW st) s.heap.objs.size f eQ))->uE (oS yT P w K mg base N qual (aW st) f eQ A outer s H E).nox (cL st) g):
  sj P w K mg base yT (k+1) f fd ps (GV K (aJ g ps.length (N.length - ps.length))):=by
 have len:∀vs H Q E,GV K (aJ g ps.length (N.length - ps.length)) vs H Q E->vs.length=ps.length:=λvs H Q E h=>by
  obtain⟨B,ds,d,b,M,i,e,q⟩:=h;unfold aJ at e;split at e
  ·rename_i hl;rw[i.length];exact hl
  ·cases e
 refine F.ok S len λeQ A outer s H vs Q E U h=>⟨_,hb eQ A outer s H E U,?_⟩;have G:=len vs H Q E h;obtain⟨B,ds,d,b,M,i,e,q⟩:=h;unfold aJ at e;rw[if_pos (by rw[←i.length];exact G)]at e;have O:=wU (N:=N) M.1 M.2 i;rw[G]at O;split at e
 ·rename_i d' b' T;cases e
  exact⟨B,H,_,_,⟨B,O⟩,T,λv H' N' x' i' f'=>q v H' N' x' i' f'⟩
 ·rename_i ρ' T;cases e
  exact⟨B,H,_,_,⟨B,O⟩,T,λσ' H' ⟨N',s'⟩=>q .non H' N' s'.ext .non (by simp)⟩
 ·cases e
structure Fn (P:Program)(w:World)(K:Frag)(mg:Str->Option Value)(base:Heap)(k:Nat)(x:Str)(f:List D->OB):Prop where
 ex:∃(ad:Addr)(fd:FuncData)(ps:List Str),sj P w K mg base yT k ad fd ps (GV K f)/\mg x=some (.ref ad)/\PySem.W.keepIn K (.ref ad)=true/\sv K fd ps []
end
def Ay (F:Fn X.prog X.w X.K X.mg X.base k x f)(O:eV k X.A)(ha:JA X (e::es) fa)(T:Gl X x:=by rfl)
  (g:(x == ("__debug__" : Str))=false:=by decide) (he:starEach (e::es) X.env=(false,eval e X.env)::starEach es X.env:=by rfl) (G:(backTo pos (starEach es X.env)).any (·.1)=false:=by rfl):
  JE X (.Call (.Name x p) (e::es) [] pos) (fA f fa):=by
 obtain⟨ad,fd,ps,U,hm,hk,hb⟩:=F.ex;refine PE.to (Gv U O T hm hk hb .nil MN ha g he G) λσ H Q q=>?_;obtain⟨B,ρ,d,b,s,r,e,q⟩:=q;obtain⟨ds,ex,e⟩:=oX e;exact⟨B,ρ,ds,s,r,ex,λvs H1 N1 M i1=>by
  show GV X.K f (vs++[]) H1 Q _;rw[uQ];exact⟨N1,ds,d,b,⟨M.nh,r.tb.mono M.bn⟩,i1,e,q.into M⟩⟩
mutual
@[simp] def cW:D->D->Bool
 |.non,.non=>true
 |.bl a,.bl b=>a == b
 |.bl a,.int b=>decide ((if a then 1 else 0)=b)
 |.int a,.bl b=>decide (a=(if b then 1 else 0))
 |.int a,.int b=>decide (a=b)
 |.str a,.str b=>decide (a=b)
 |.tup xs,.tup ys=>fQ xs ys
 |.lst xs,.lst ys=>fQ xs ys
 |_,_=>false
@[simp] def fQ:List D->List D->Bool
 |[],[]=>true
 |x::xs,y::ys=>cW x y && fQ xs ys
 |_,_=>false
end
@[simp] def wV (a:Str)(b:Str):cW (.str a) (.str b)=decide (a=b):=by simp only[cW]
@[simp] noncomputable def aI:Nat->D->Bool
 |_,.non=>true
 |_,.bl _=>true
 |_,.int _=>true
 |_,.str _=>true
 |_,.ty _=>false
 |_,.dk _ _=>false
 |_,.dt _ _=>false
 |0,.tup _=>false
 |0,.lst _=>false
 |n+1,.tup ds=>ds.all (aI n)
 |n+1,.lst ds=>ds.all (aI n)
theorem wW:∀ {xs ys:List D},fQ xs ys=true->xs.length=ys.length
 |[],[],_=>rfl
 |x::xs,y::ys,h=>by
  simp only[fQ,vC]at h;rw[vE,vE,wW h.2]
 |[],_::_,h=>by simp[fQ]at h
 |_::_,[],h=>by simp[fQ]at h
def uJ (h:xs.length≠ys.length):fQ xs ys=false:=by
 cases e:fQ xs ys with
 |false=>rfl
 |true=>exact absurd (wW e) h
theorem j0 (f:Nat->Bool):∀ {xs ys:List D},xs.length=ys.length->(∀(j:Nat) x y,xs[j]? = some x->ys[j]? = some y->f j=cW x y)->(List.range xs.length).all f=fQ xs ys
 |[],[],_,_=>by simp[fQ]
 |x::xs,y::ys,hl,h=>by
  have e:=j0 (λj=>f (j+1)) (xs:=xs) (ys:=ys) (by simpa using hl) λj a b h1 h2=>h (j+1) a b (by simpa using h1) (by simpa using h2);rw[vE,List.range_succ_eq_map,List.all_cons,List.all_map,fQ,←h 0 x y rfl rfl,←e];rfl
 |[],_::_,hl,_=>by simp at hl
 |_::_,[],hl,_=>by simp at hl
section
variable {X:Cx}{af:List (Addr×Obj)}{σ:St}{H:Hp}{s:Shared}
def Az (I:Inv X af σ H s)(h1:ja X.K H a vs)(h2:gn X.K H a ws):False:=by
 obtain⟨its,_,⟨o,e,c,_⟩,_⟩:=I.tuple h1;obtain⟨its',_,⟨o',M,g,G,_⟩,_⟩:=I.list h2;rw[e]at g;cases g;rw[c]at G;injection G with z;exact absurd z (by decide)
def A0 (I:Inv X af σ H s)(e:s.heap.get? a=some o)(d:o.data=.seq its n):(∀aQ ob,H a≠some (.dK aQ ob))/\∀aQ,H a≠some (.dT aQ):=by
 refine⟨λaQ ob h=>?_,λaQ h=>?_⟩
 ·obtain⟨_,_,_,_,_,o',es,G,g,_,d',_⟩:=(show cw X.prog X.w H s.heap a (.dK aQ ob)from I.hok a _ h);rw[e]at g;cases g;rw[d]at d';cases d'
 ·obtain⟨_,_,_,_,o',es,G,g,_,d',_⟩:=(show cw X.prog X.w H s.heap a (.dT aQ)from I.hok a _ h);rw[e]at g;cases g;rw[d]at d';cases d'
def wZ (I:Inv X af σ H s)(h1:ja X.K H a vs):(∀aQ ob,H a≠some (.dK aQ ob))/\∀aQ,H a≠some (.dT aQ):=by
 obtain⟨its,_,⟨o,e,c,n,d⟩,_⟩:=I.tuple h1;exact A0 I e d
def xa (I:Inv X af σ H s)(h1:gn X.K H a vs):(∀aQ ob,H a≠some (.dK aQ ob))/\∀aQ,H a≠some (.dT aQ):=by
 obtain⟨its,_,p,_⟩:=I.list h1;obtain⟨o,e,c,n,d⟩:=p.isList;exact A0 I e d
def A1 (I:Inv X af σ H s):∀(n:Nat){v:V}{d d':D},Is X.K H v d->Is X.K H v d'->aI n d=true->cW d d'=true:=by
 have g:∀ {p:D->Bool}(G:∀ {v:V}{d d':D},Is X.K H v d->Is X.K H v d'->p d=true->cW d d'=true) {vs:List V}{ds p9:List D},IsL X.K H vs ds->IsL X.K H vs p9->ds.all p=true->fQ ds p9=true:=by
  intro p G vs;induction vs with
  |nil=>intro ds p9 h h' _;cases h;cases h';simp[fQ]
  |cons v vs M=>
   intro ds p9 h h' hp;cases h with
   |cons h1 h2=>
    cases h' with
    |cons h3 h4=>
     rw[List.all_cons,vC]at hp;rw[fQ,G h1 h3 hp.1,M h2 h4 hp.2];rfl
 intro n;induction n with
 |zero=>
  intro v d d' h h' hp;cases h<;>cases h'<;>first|(simp[aI]at hp;done)|simp[cW]
 |succ n G=>
  intro v d d' h h' hp;cases h with
  |tup h1 h2=>
   cases h' with
   |tup h3 h4=>
    rw[I.tuple_inj h3 h1]at h4;rw[cW];exact g G h2 h4 (by simpa [aI]using hp)
   |lst h3 h4=>exact(Az I h1 h3).elim
   |dk h3 _ _=>exact((wZ I h1).1 _ _ h3).elim
   |dt h3 _ _=>exact((wZ I h1).2 _ h3).elim
  |lst h1 h2=>
   cases h' with
   |lst h3 h4=>
    rw[I.list_inj h3 h1]at h4;rw[cW];exact g G h2 h4 (by simpa [aI]using hp)
   |tup h3 h4=>exact(Az I h3 h1).elim
   |dk h3 _ _=>exact((xa I h1).1 _ _ h3).elim
   |dt h3 _ _=>exact((xa I h1).2 _ h3).elim
  |ty=>simp[aI]at hp
  |dk=>simp[aI]at hp
  |dt=>simp[aI]at hp
  |_=>cases h'<;>simp[cW]
def Jd {α:Type}{p:α->Bool}{l:List α}{j:Nat}{x:α}(h:l.all p=true)(e:l[j]? = some x):p x=true:=uR h x (vL e)
def xc {A:Around}{p:D->Bool}(ih:∀ {M O:V}{d1 d2:D}{T U:Value},p d1=true->p d2=true->Is X.K H M d1->Is X.K H O d2->bd M T->bd O U->SeqAt.EqAt A s T U (cW d1 d2))
  {vs G:List V}{ds es:List D}{its g:List Value}(i1:IsL X.K H vs ds) (i2:IsL X.K H G es) (r1:be vs its) (r2:be G g) (p1:ds.all p=true) (p2:es.all p=true):
  ∀j (h1:j<its.toArray.size) (h2:j<g.toArray.size),SeqAt.EqAt A s its.toArray[j] g.toArray[j] (cW (ds.getD j .non) (es.getD j .non)):=by
 intro j h1 h2;rw[vH]at h1 h2;have l1:=r1.length;have l2:=r2.length;have l3:=i1.length;have l4:=i2.length;have hv:j<vs.length:=by omega
 have hw:j<G.length:=by omega
 have hd:j<ds.length:=by omega
 have he:j<es.length:=by omega
 obtain⟨u,e1,q1⟩:=r1.get (i:=j) (x:=vs[j]) (by simp[hv]);obtain⟨u',e2,q2⟩:=r2.get (i:=j) (x:=G[j]) (by simp[hw]);obtain⟨v,e3,q3⟩:=i1.get (i:=j) (d:=ds[j]) (by simp[hd]);obtain⟨w,e4,q4⟩:=i2.get (i:=j) (d:=es[j]) (by simp[he]);have a1:its.toArray[j]=u:=by have z:=(vV e1).2;simpa using z
 have a2:g.toArray[j]=u':=by have z:=(vV e2).2;simpa using z
 have a3:vs[j]=v:=by simpa [hv]using e3
 have a4:G[j]=w:=by simpa [hw]using e4
 have a5:ds.getD j .non=ds[j]:=by simp[List.getD,hd]
 have a6:es.getD j .non=es[j]:=by simp[List.getD,he]
 rw[a1,a2,a5,a6];exact ih (Jd p1 (j:=j) (by simp[hd])) (Jd p2 (j:=j) (by simp[he])) (a3 ▸ q3) (a4 ▸ q4) q1 q2
def uK {xs ys:List D}(j:Nat)(x y:D)(h1:xs[j]? = some x)(h2:ys[j]? = some y):cW (xs.getD j .non) (ys.getD j .non)=cW x y:=by
 simp[List.getD,h1,h2]
abbrev Qa (A:Around)(s:Shared)(g G:Value)(b:Bool):Prop:=SeqAt.RcAt A s g G b/\SeqAt.EqAt A s g G b/\SeqAt.RcNeAt A s g G (!b)
def A2 {g G:Addr}(rc:SeqAt.RcAt A s (.ref g) (.ref G) b)(M:SeqAt.RcNeAt A s (.ref g) (.ref G) (!b))(h:g=G->b=true):Qa A s (.ref g) (.ref G) b:=by
 refine⟨rc,?_,M⟩;by_cases ha:g=G
 ·subst ha;rw[h rfl];exact SeqAt.EqAt.same _
 ·exact SeqAt.EqAt.of_refs ha rc
def xf (O:aI 0 d1=true)(p2:aI 0 d2=true)(T:Is X.K H v1 d1)(G:Is X.K H v2 d2)(M:bd v1 u1)(g:bd v2 u2):Qa A s u1 u2 (cW d1 d2):=by
 cases T with
 |non=>
  cases M
  cases G with
  |non=>cases g;rw[cW];exact⟨.none_none,.same _,.none_none⟩
  |bl b=>cases g;simp only[cW];exact⟨.none_bool _,.none_bool _,.none_bool _⟩
  |int b=>obtain⟨t',rfl⟩:=g;simp only[cW];exact⟨.none_int _ _,.none_int _ _,.none_int _ _⟩
  |str b=>obtain⟨t',rfl⟩:=g;simp only[cW];exact⟨.none_str _ _,.none_str _ _,.none_str _ _⟩
  |_=>simp at p2
 |bl a=>
  cases M
  cases G with
  |non=>cases g;simp only[cW];exact⟨.bool_none _,.bool_none _,.bool_none _⟩
  |bl b=>cases g;rw[cW];exact⟨.bool_bool _ _,.bool_bool _ _,.bool_bool _ _⟩
  |int b=>obtain⟨t',rfl⟩:=g;rw[cW,←Bool.beq_eq_decide_eq];exact⟨.bool_int _ _ _,.bool_int _ _ _,.bool_int _ _ _⟩
  |str b=>obtain⟨t',rfl⟩:=g;simp only[cW];exact⟨.bool_str _ _ _,.bool_str _ _ _,.bool_str _ _ _⟩
  |_=>simp at p2
 |int a=>
  obtain⟨t,rfl⟩:=M;cases G with
  |non=>cases g;simp only[cW];exact⟨.int_none _ _,.int_none _ _,.int_none _ _⟩
  |bl b=>cases g;rw[cW,←Bool.beq_eq_decide_eq];exact⟨.int_bool _ _ _,.int_bool _ _ _,.int_bool _ _ _⟩
  |int b=>obtain⟨t',rfl⟩:=g;rw[cW,←Bool.beq_eq_decide_eq];exact⟨.int_int _ _ _ _,.int_int _ _ _ _,.int_int _ _ _ _⟩
  |str b=>obtain⟨t',rfl⟩:=g;simp only[cW];exact⟨.int_str _ _ _ _,.int_str _ _ _ _,.int_str _ _ _ _⟩
  |_=>simp at p2
 |str a=>
  obtain⟨t,rfl⟩:=M;cases G with
  |non=>cases g;simp only[cW];exact⟨.str_none _ _,.str_none _ _,.str_none _ _⟩
  |bl b=>cases g;simp only[cW];exact⟨.str_bool _ _ _,.str_bool _ _ _,.str_bool _ _ _⟩
  |int b=>obtain⟨t',rfl⟩:=g;simp only[cW];exact⟨.str_int _ _ _ _,.str_int _ _ _ _,.str_int _ _ _ _⟩
  |str b=>obtain⟨t',rfl⟩:=g;rw[cW,←Bool.beq_eq_decide_eq];exact⟨.str_str _ _ _ _,.str_str _ _ _ _,.str_str _ _ _ _⟩
  |_=>simp at p2
 |_=>simp at O
def Je (I:Inv X af σ H s):∀(n:Nat){A:Around}{v1 v2:V}{d1 d2:D}{u1 u2:Value},A.units+n<cLine->aI n d1=true->aI n d2=true->Is X.K H v1 d1->Is X.K H v2 d2->bd v1 u1->bd v2 u2->Qa A s u1 u2 (cW d1 d2):=by
 intro n;induction n with
 |zero=>exact λ_ p1 p2 i1 i2 O U=>xf p1 p2 i1 i2 O U
 |succ n ih=>
  intro A v1 v2 d1 d2 u1 u2 hu p1 p2 i1 i2 O U;have g:A.units<cLine:=by omega
  have SN:∀ {v1 v2:V}{d1 d2:D}{u1 u2:Value},aI n d1=true->aI n d2=true->Is X.K H v1 d1->Is X.K H v2 d2->bd v1 u1->bd v2 u2->SeqAt.EqAt A.in1 s u1 u2 (cW d1 d2):=λp1 p2 i1 i2 O U=>(ih (A:=A.in1) (by show A.units+1+n<cLine;omega) p1 p2 i1 i2 O U).2.1;by_cases f2:aI 0 d2=true
  ·by_cases f1:aI 0 d1=true
   ·exact xf f1 f2 i1 i2 O U
   ·cases i1 with
    |tup h1 k1=>
     cases O
     obtain⟨its,T,G,z1⟩:=I.tuple h1;cases i2 with
     |non=>cases U;simp only[cW];exact⟨.tuple_none G g,.tuple_none G g,.tuple_none G g⟩
     |bl=>cases U;simp only[cW];exact⟨.tuple_bool _ G g,.tuple_bool _ G g,.tuple_bool _ G g⟩
     |int=>obtain⟨t,rfl⟩:=U;simp only[cW];exact⟨.tuple_int _ _ G g,.tuple_int _ _ G g,.tuple_int _ _ G g⟩
     |str=>obtain⟨t,rfl⟩:=U;simp only[cW];exact⟨.tuple_str _ _ G g,.tuple_str _ _ G g,.tuple_str _ _ G g⟩
     |_=>simp at f2
    |lst h1 k1=>
     cases O
     obtain⟨its,T,G,z1⟩:=I.list h1;replace G:=G.isList;cases i2 with
     |non=>cases U;simp only[cW];exact⟨.list_none G g,.list_none G g,.list_none G g⟩
     |bl=>cases U;simp only[cW];exact⟨.list_bool _ G g,.list_bool _ G g,.list_bool _ G g⟩
     |int=>obtain⟨t,rfl⟩:=U;simp only[cW];exact⟨.list_int _ _ G g,.list_int _ _ G g,.list_int _ _ G g⟩
     |str=>obtain⟨t,rfl⟩:=U;simp only[cW];exact⟨.list_str _ _ G g,.list_str _ _ G g,.list_str _ _ G g⟩
     |_=>simp at f2
    |_=>simp at f1 p1
  ·cases i2 with
   |tup h2 k2=>
    cases U
    obtain⟨Dg,Oi,M,z2⟩:=I.tuple h2;cases i1 with
    |tup h1 k1=>
     cases O
     obtain⟨its,T,G,z1⟩:=I.tuple h1;rename_i a2 ws es a1 vs ds;have he:=xc (A:=A.in1) (p:=aI n) SN k1 k2 T Oi (by simpa using p1) (by simpa using p2);have Oj:((List.range (min its.toArray.size Dg.toArray.size)).all (λj=>cW (ds.getD j .non) (es.getD j .non)) && its.toArray.size == Dg.toArray.size)=cW (.tup ds) (.tup es):=by
      rw[cW,vH,vH,←T.length,←Oi.length,k1.length,k2.length];by_cases hl:ds.length=es.length
      ·rw[←hl,Nat.min_self,beq_self_eq_true,Bool.and_true];exact j0 _ hl λj x y e1 e2=>uK j x y e1 e2
      ·rw[uJ hl,beq_eq_false_iff_ne.mpr hl,Bool.and_false]
     have rc:=SeqAt.RcAt.tuples G M g he;have rn:=SeqAt.RcNeAt.tuples G M g he;rw[Oj]at rc rn;exact A2 rc rn λe=>by subst e;exact A1 I (n+1) (.tup h1 k1) (.tup h2 k2) p1
    |lst h1 k1=>cases O;obtain⟨its,T,G,z1⟩:=I.list h1;simp only[cW];exact⟨.list_tuple G.isList M g,.list_tuple G.isList M g,.list_tuple G.isList M g⟩
    |non=>cases O;simp only[cW];exact⟨.none_tuple M g,.none_tuple M g,.none_tuple M g⟩
    |bl=>cases O;simp only[cW];exact⟨.bool_tuple _ M g,.bool_tuple _ M g,.bool_tuple _ M g⟩
    |int=>obtain⟨t,rfl⟩:=O;simp only[cW];exact⟨.int_tuple _ _ M g,.int_tuple _ _ M g,.int_tuple _ _ M g⟩
    |str=>obtain⟨t,rfl⟩:=O;simp only[cW];exact⟨.str_tuple _ _ M g,.str_tuple _ _ M g,.str_tuple _ _ M g⟩
    |_=>simp at p1
   |lst h2 k2=>
    cases U
    obtain⟨Dg,Oi,M,z2⟩:=I.list h2;replace M:=M.isList;cases i1 with
    |lst h1 k1=>
     cases O
     obtain⟨its,T,G,z1⟩:=I.list h1;replace G:=G.isList;rename_i a2 ws es a1 vs ds;have he:=xc (A:=A.in1) (p:=aI n) SN k1 k2 T Oi (by simpa using p1) (by simpa using p2);have both:SeqAt.RcAt A s (.ref a1) (.ref a2) (cW (.lst ds) (.lst es))/\SeqAt.RcNeAt A s (.ref a1) (.ref a2) (!cW (.lst ds) (.lst es)):=by
      have hz:its.toArray.size=ds.length/\Dg.toArray.size=es.length:=by rw[vH,vH,←T.length,←Oi.length,k1.length,k2.length];exact⟨rfl,rfl⟩
      by_cases hl:ds.length=es.length
      ·have Oj:(List.range its.toArray.size).all (λj=>cW (ds.getD j .non) (es.getD j .non))=cW (.lst ds) (.lst es):=by
        rw[cW,hz.1];exact j0 _ hl λj x y e1 e2=>uK j x y e1 e2
       have hs:=(hz.1.trans hl).trans hz.2.symm;have rc:=SeqAt.RcAt.lists G M hs g he;have rn:=SeqAt.RcNeAt.lists G M hs g he;rw[Oj]at rc rn;exact⟨rc,rn⟩
      ·have hs:(its.toArray.size != Dg.toArray.size)=true:=by rw[hz.1,hz.2];exact bne_iff_ne.mpr hl
       rw[cW,uJ hl];exact⟨.lists_lengths G M hs g,.lists_lengths G M hs g⟩
     exact A2 both.1 both.2 λe=>by subst e;exact A1 I (n+1) (.lst h1 k1) (.lst h2 k2) p1
    |tup h1 k1=>cases O;obtain⟨its,T,G,z1⟩:=I.tuple h1;simp only[cW];exact⟨.tuple_list G M g,.tuple_list G M g,.tuple_list G M g⟩
    |non=>cases O;simp only[cW];exact⟨.none_list M g,.none_list M g,.none_list M g⟩
    |bl=>cases O;simp only[cW];exact⟨.bool_list _ M g,.bool_list _ M g,.bool_list _ M g⟩
    |int=>obtain⟨t,rfl⟩:=O;simp only[cW];exact⟨.int_list _ _ M g,.int_list _ _ M g,.int_list _ _ M g⟩
    |str=>obtain⟨t,rfl⟩:=O;simp only[cW];exact⟨.str_list _ _ M g,.str_list _ _ M g,.str_list _ _ M g⟩
    |_=>simp at p1
   |_=>simp at f2 p2
@[simp] def cP:D->D->OB:=λx y=>if aI 40 x=true/\aI 40 y=true then some (.bl (cW x y),false)else none
@[simp] def pv:D->D->OB:=λx y=>if aI 40 x=true/\aI 40 y=true then some (.bl (!cW x y),false)else none
def c9 (hu:X.A.units+40<cLine):dP X (compareOp .Eq) (rD X.K cP):=by
 intro af s σ H x y v u Q I G M q;obtain⟨B,dx,U,d,b,g,O,T,e,q⟩:=q;unfold cP at e;split at e
 ·rename_i hp;cases e
  exact(Je I 40 hu hp.1 hp.2 (O.mono g) (T.mono g) G M).1 _ _ _ _ ⟨.bl _,H,I,rfl,q.one g (.bl _)⟩
 ·cases e
def zw (hu:X.A.units+40<cLine):dP X (compareOp .NotEq) (rD X.K pv):=by
 intro af s σ H x y v u Q I G M q;obtain⟨B,dx,U,d,b,g,O,T,e,q⟩:=q;unfold pv at e;split at e
 ·rename_i hp;cases e
  exact(Je I 40 hu hp.1 hp.2 (O.mono g) (T.mono g) G M).2.2 _ _ _ _ ⟨.bl _,H,I,rfl,q.one g (.bl _)⟩
 ·cases e
end
section
variable {X:Cx}{a b e:Expr}{pos:Pos}
def A3 {K:Frag}{H:Hp}{vs:List V}{ds:List D}{i:Int}{d:D}(h:IsL K H vs ds)(e:lG ds i=some d):∃v,lG vs i=some v/\Is K H v d:=by
 unfold lG at e ⊢;rw[h.length];cases q:yS ds.length i with
 |none=>rw[q]at e;cases e
 |some j=>rw[q]at e;exact h.get e
@[simp] def bq:D->D->OB
 |.lst ds,.int i=>(lG ds i).map λd=>(d,false)
 |.tup ds,.int i=>(lG ds i).map λd=>(d,false)
 |.str z,.int i=>if z.length<=sizeLine then (lG z.cps.toList i).map λc=>(.str ⟨#[c]⟩,false)else none
 |_,_=>none
def Qb:FW X (rD X.K bq):=by
 intro g G af s σ H x y v u Q I T U q hs;obtain⟨B,dx,dy,d,b,M,ix,iy,e,q⟩:=q;cases ix<;>try (cases e;done)
 all_goals (cases iy<;>try (cases e;done))
 ·simp only[bq]at e;split at e
  ·rename_i hz;obtain⟨c,O,e2⟩:=oY e;cases e2
   exact zl g G af s σ H _ _ v u Q I T U ⟨_,_,c,rfl,rfl,hz,O,q.one M (.str _)⟩ hs
  ·cases e
 ·rename_i h hl i;simp only[bq]at e;obtain⟨c,O,e2⟩:=oY e;cases e2
  obtain⟨w,h1,h2⟩:=A3 hl O;exact pE g G af s σ H _ _ v u Q I T U ⟨_,_,_,w,rfl,rfl,bz M h,h1,q.one M h2⟩ hs
 ·rename_i h hl i;simp only[bq]at e;obtain⟨c,O,e2⟩:=oY e;cases e2
  obtain⟨w,h1,h2⟩:=A3 hl O;exact G3 g G af s σ H _ _ v u Q I T U ⟨_,_,_,w,rfl,rfl,M.seq h,h1,q.one M h2⟩ hs
def aK (ha:JE X a fa)(hb:JE X b fb)(hs:uw b:=by intro _ _;rfl):JE X (.Subscript a b pos) (f2 bq fa fb):=PE.to (IX Qb ha hb hs) λ_ _ _ h=>GA h
abbrev FO:=Env->Option (Option Int)
def Uf (K:Frag)(f:FO):TO:=λσ H Q=>∃(B:Hp)(ρ:Env)(o:Option Int),bf B H/\fP K B σ ρ/\f ρ=some o/\∀H',bf H H'->Q o H'
abbrev JO (X:Cx)(e:Option Expr)(f:FO):Prop:=PO X e (Uf X.K f)
@[simp] noncomputable def ls:FO:=λ_=>some none
@[simp] noncomputable def kh (f:FE):FO:=λρ=>match f ρ with|some (.int i,_)=>some (some i)|_=>none
def pw:JO X none ls:=λaf s σ H Q I h=>Gy af s σ H Q I (by
 obtain⟨B,ρ,o,g,r,e,q⟩:=h;cases e
 exact q H (.refl H))
def px (h:JE X e f):JO X (some e) (kh f):=λaf s σ H Q I q=>Gz h af s σ H Q I (by
 obtain⟨B,ρ,o,g,r,e,q⟩:=q;unfold kh at e;split at e
 ·rename_i i b' G;cases e
  refine⟨B,ρ,_,_,g,r,G,λv M N1 O T _=>?_⟩;cases T
  exact⟨i,rfl,q M O.hh⟩
 ·cases e)
def ki (ds:List D)(lo hi:Option Int):List D:=(ds.drop (HT.dQ ds.length 0 lo)).take (HT.dQ ds.length ds.length hi - HT.dQ ds.length 0 lo)
def uL {K:Frag}{H:Hp}{vs:List V}{ds:List D}{lo hi:Option Int}(h:IsL K H vs ds):IsL K H (rO vs lo hi) (ki ds lo hi):=by
 unfold rO ki;rw[h.length];exact(h.drop _).take _
@[simp] def Ug (fa:FE)(fl g:FO):FE:=λρ=>(fa ρ).bind λx=>(fl ρ).bind λl=>(g ρ).bind λh=>match x.1 with
 |.lst ds=>some (.lst (ki ds l h),true)
 |.tup ds=>if HT.dQ ds.length 0 l=0/\HT.dQ ds.length ds.length h=ds.length then none else some (.tup (ki ds l h),false)
 |_=>none
def cq.to (h:cq X f r)(k:∀xs H Q,r' xs H Q->r xs H Q):cq X f r':=λaf s σ H xs us Q I rs q=>h af s σ H xs us Q I rs (k xs H Q q)
variable {es:List Expr}{x:Str}{p:Pos}{id T:String}
def bD (hc:cq X (.builtin id) (Dc X.K f))(hm:X.mg x=none)(hv:bootBuiltins x=some (.builtin id))(ha:JA X (e::es) fa)(M:Gl X x:=by rfl)(hn:x ≠ "__name__":=by decide)(g:(x == ("__debug__" : Str))=false:=by decide)
  (he:starEach (e::es) X.env=(false,eval e X.env)::starEach es X.env:=by rfl) (G:(backTo pos (starEach es X.env)).any (·.1)=false:=by rfl):JE X (.Call (.Name x p) (e::es) [] pos) (fA f fa):=PE.to (wI hc M hm hv ha hn g he G) λ_ _ _ h=>GB h
def kT (hc:cq X (.type T) (Dc X.K f))(hm:X.mg x=none)(hv:bootBuiltins x=some (.type T))(ha:JA X (e::es) fa)(M:Gl X x:=by rfl)(hn:x ≠ "__name__":=by decide)(g:(x == ("__debug__" : Str))=false:=by decide)
  (he:starEach (e::es) X.env=(false,eval e X.env)::starEach es X.env:=by rfl) (G:(backTo pos (starEach es X.env)).any (·.1)=false:=by rfl):JE X (.Call (.Name x p) (e::es) [] pos) (fA f fa):=PE.to (sC hc M hm hv ha hn g he G) λ_ _ _ h=>GB h
@[simp] noncomputable def eJ:List D->OB
 |[.lst ds]=>some (.int ds.length,false)
 |[.tup ds]=>some (.int ds.length,false)
 |[.str z]=>if z.length<=sizeLine then some (.int z.length,false)else none
 |_=>none
def fR:cq X (.builtin "len") (Dc X.K eJ):=by
 refine cq.to (cq.or uz u0) λxs H Q q=>?_;obtain⟨B,ds,d,b,g,i,e,q⟩:=q;cases i with
 |nil=>simp[eJ]at e
 |cons G M=>
  cases M with
  |cons _ _=>cases G<;>simp[eJ]at e
  |nil=>
   cases G<;>try (simp[eJ]at e;done)
   ·simp only[eJ]at e;split at e
    ·rename_i hz;cases e
     exact .inr ⟨_,rfl,hz,q.one g (.int _)⟩
    ·cases e
   ·rename_i h hl;simp only[eJ]at e;cases e
    refine .inl ⟨_,_,rfl,.inr (bz g h),?_⟩;rw[hl.length];exact q.one g (.int _)
   ·rename_i h hl;simp only[eJ]at e;cases e
    refine .inl ⟨_,_,rfl,.inl (g.seq h),?_⟩;rw[hl.length];exact q.one g (.int _)
end
def Cg (g:eV k A):A.units+40<cLine:=by have:=g.un;omega
section
variable {X:Cx}{a b e:Expr}{pos:Pos}{x:Str}{p:Pos}
def xg (h:∃u v,X.mg x=some u/\bd v u/\∀B,Is X.K B v d)(g:Gl X x:=by rfl)(hd:(x == ("__debug__" : Str))=false:=by decide):JE X (.Name x pos) (fC d):=by
 obtain⟨u,v,hm,r,i⟩:=h;exact GO g hm r i hd
@[simp] noncomputable def A4:D->D->OB
 |.int i,.int j=>some (.int (i+j),false)
 |.str i,.str j=>if i.length+j.length<=sizeLine then some (.str (i++j),false)else none
 |_,_=>none
def GW:dP X (binaryOp .Add) (rD X.K A4):=by
 refine iR (r:=rD X.K (De K9 GR)) (nD MZ KE) λx y H Q q=>?_;obtain⟨B,dx,g,d,b,G,M,O,e,q⟩:=q;refine⟨B,dx,g,d,b,G,M,O,?_,q⟩;cases dx<;>try (cases e;done)
 all_goals (cases g<;>try (cases e;done))
 all_goals (simp[A4]at e;simp[De,K9,GR,yU,LX,e])
@[simp] def gu:D->D->OB:=KA
def df:dP X (binaryOp .Mult) (rD X.K gu):=Na
@[simp] def KH:D->D->OB:=RS
def A5:dP X (compareOp .Lt) (rD X.K KH):=PX
@[simp] noncomputable def yV:D->D->OB
 |.int i,.int j=>some (.bl (decide (i<=j)),false)
 |.str i,.str j=>some (.bl (!decide (j.cps.toList<i.cps.toList)),false)
 |_,_=>none
def oq:dP X (compareOp .LtE) (rD X.K yV):=by
 refine iR (r:=rD X.K (De PU OP)) (nD PY Nc) λx y H Q q=>?_;obtain⟨B,dx,g,d,b,G,M,O,e,q⟩:=q;refine⟨B,dx,g,d,b,G,M,O,?_,q⟩;cases dx<;>try (cases e;done)
 all_goals (cases g<;>try (cases e;done))
 all_goals (simp[yV]at e;simp[De,PU,OP,yU,LX,e])
@[simp] noncomputable def lH:D->OB
 |.int i=>some (.int (-i),false)
 |_=>none
def xi:M5 X (unaryOp .USub) (PQ X.K lH):=by
 intro af s σ H x v Q I g q;obtain⟨B,dx,d,b,G,M,e,q⟩:=q;cases M<;>try (simp[lH]at e;done)
 simp only[lH]at e;cases e
 exact Kp af s σ H _ v Q I g ⟨_,rfl,q.one G (.int _)⟩
@[simp] noncomputable def Ch:D->D->Option Bool
 |.non,.non=>some true
 |_,.non=>some false
 |.bl a,.bl b=>some (a == b)
 |_,.bl _=>some false
 |_,_=>none
@[simp] def A6:D->D->OB:=λx y=>(Ch x y).map λb=>(.bl b,false)
@[simp] def gJ:D->D->OB:=λx y=>(Ch x y).map λb=>(.bl (!b),false)
def A7 {K:Frag}{B:Hp}{x y:V}{v u:Value}{dx g:D}{k:Bool}(M:Is K B x dx)(O:Is K B y g)(G:bd x v)(T:bd y u)(e:Ch dx g=some k):plainIs v u=true/\(v == u)=k:=by
 cases O<;>(first|(cases dx<;>simp[Ch]at e;done)|skip)
 all_goals (cases M)
 all_goals (first|(obtain⟨t,rfl⟩:=G)|cases G)
 all_goals (cases T)
 all_goals (simp only[Ch,Option.some.injEq]at e;subst e)
 all_goals (first|exact⟨rfl,rfl⟩|skip)
 all_goals (rename_i c d;cases c<;>cases d<;>exact⟨rfl,rfl⟩)
def Ci:dP X (compareOp .Is) (rD X.K A6):=by
 intro af s σ H x y v u Q I g G q;obtain⟨B,dx,U,d,b,M,O,T,e,q⟩:=q;obtain⟨k,ek,e⟩:=oY e;cases e
 obtain⟨h1,h2⟩:=A7 O T g G ek;refine wpAny_is_plain h1 ⟨.bl k,H,I,by rw[h2];rfl,q.one M (.bl _)⟩
def mr:dP X (compareOp .IsNot) (rD X.K gJ):=by
 intro af s σ H x y v u Q I g G q;obtain⟨B,dx,U,d,b,M,O,T,e,q⟩:=q;obtain⟨k,ek,e⟩:=oY e;cases e
 obtain⟨h1,h2⟩:=A7 O T g G ek;refine wpAny_isNot_plain h1 ⟨.bl (!k),H,I,by rw[h2];rfl,q.one M (.bl _)⟩
@[simp] noncomputable def gw:D->Bool
 |.non=>true|.bl _=>true|.int _=>true|.str _=>true
 |_=>false
noncomputable def FY (x:D)(ds:List D):Bool:=ds.any λy=>cW y x
@[simp] noncomputable def hV:D->Option (List D)
 |.lst ds=>some ds
 |.tup ds=>some ds
 |_=>none
@[simp] def sU:D->D->OB:=λx y=>(hV y).bind λds=>if gw x=true/\ds.all gw=true then some (.bl (FY x ds),false)else none
@[simp] def hW:D->D->OB:=λx y=>(hV y).bind λds=>if gw x=true/\ds.all gw=true then some (.bl (!FY x ds),false)else none
def pN {K:Frag}{B:Hp}{v:V}{d:D}(i:Is K B v d)(h:gw d=true):lr v=true:=by
 cases i<;>first|rfl|(simp[gw]at h)
def Qc {K:Frag}{B:Hp}{v w:V}{d e:D}(i:Is K B v d)(j:Is K B w e)(h:gw d=true)(h':gw e=true):FX v w=cW d e:=by
 cases i<;>(first|(simp[gw]at h;done)|skip)
 all_goals (cases j<;>(first|(simp[gw]at h';done)|skip))
 all_goals (simp only[FX,cW,Bool.beq_eq_decide_eq])
theorem xj {K:Frag}{B:Hp}:∀ {vs:List V}{ds:List D},IsL K B vs ds->ds.all gw=true->vs.all lr=true
 |_,_,.nil,_=>rfl
 |_,_,.cons i t,h=>by
  rw[List.all_cons,vC]at h;rw[List.all_cons,pN i h.1,xj t h.2];rfl
theorem DN {K:Frag}{B:Hp}{v:V}{d:D}(j:Is K B v d)(hd:gw d=true):∀ {vs:List V}{ds:List D},IsL K B vs ds->ds.all gw=true->ON v vs=FY d ds
 |_,_,.nil,_=>rfl
 |_,_,.cons i t,h=>by
  rw[List.all_cons,vC]at h;have e:=DN j hd t h.2;unfold ON FY at *;rw[List.any_cons,List.any_cons,e,Qc i j h.1 hd]
def ot:dP X (compareOp .In) (rD X.K sU):=by
 refine iR BX λx y H Q q=>?_;obtain⟨B,dx,O,d,b,g,G,M,e,q⟩:=q;obtain⟨ds,es,e⟩:=oX e;split at e
 ·rename_i hf;cases e
  cases M<;>simp only[hV]at es<;>try (cases es;done)
  ·rename_i h hl;cases es
   exact⟨_,_,rfl,.inr (bz g h),pN G hf.1,xj hl hf.2,by rw[if_neg (by decide),DN G hf.1 hl hf.2];exact q.one g (.bl _)⟩
  ·rename_i h hl;cases es
   exact⟨_,_,rfl,.inl (g.seq h),pN G hf.1,xj hl hf.2,by rw[if_neg (by decide),DN G hf.1 hl hf.2];exact q.one g (.bl _)⟩
 ·cases e
def pO:dP X (compareOp .NotIn) (rD X.K hW):=by
 refine iR uy λx y H Q q=>?_;obtain⟨B,dx,O,d,b,g,G,M,e,q⟩:=q;obtain⟨ds,es,e⟩:=oX e;split at e
 ·rename_i hf;cases e
  cases M<;>simp only[hV]at es<;>try (cases es;done)
  ·rename_i h hl;cases es
   exact⟨_,_,rfl,.inr (bz g h),pN G hf.1,xj hl hf.2,by rw[if_pos rfl,DN G hf.1 hl hf.2];exact q.one g (.bl _)⟩
  ·rename_i h hl;cases es
   exact⟨_,_,rfl,.inl (g.seq h),pN G hf.1,xj hl hf.2,by rw[if_pos rfl,DN G hf.1 hl hf.2];exact q.one g (.bl _)⟩
 ·cases e
def fT:bootBuiltins "len" = some (.builtin "len"):=PySem.boot_len
def Nf:bootBuiltins "max" = some (.builtin "max"):=by decide +kernel
def Ng:bootBuiltins "min" = some (.builtin "min"):=by decide +kernel
def Jf:bootBuiltins "all" = some (.builtin "all"):=by decide +kernel
def Nh:bootBuiltins "int" = some (.type "int"):=by decide +kernel
def DO:bootBuiltins "list" = some (.type "list"):=by decide +kernel
def GX:bootBuiltins "tuple" = some (.type "tuple"):=by decide +kernel
@[simp] noncomputable def GY:List D->OB
 |[.int i,.int j]=>some (.int (if j > i then j else i),false)
 |_=>none
@[simp] noncomputable def GZ:List D->OB
 |[.int i,.int j]=>some (.int (if j<i then j else i),false)
 |_=>none
def xl {K:Frag}{B:Hp}{xs:List V}{i j:Int}(h:IsL K B xs [.int i,.int j]):xs=[.int i,.int j]:=by
 cases h with
 |cons h1 h2=>cases h1;cases h2 with|cons h3 h4=>cases h3;cases h4;rfl
def Ni (hc:X.calm=true:=by rfl):cq X (.builtin "max") (Dc X.K GY):=by
 refine cq.to (BR hc) λxs H Q q=>?_;obtain⟨B,ds,d,b,g,i,e,q⟩:=q;match ds,e with
 |[.int G,.int M],e=>simp only[GY]at e;cases e;exact⟨G,M,xl i,q.one g (.int _)⟩
def Nj (hc:X.calm=true:=by rfl):cq X (.builtin "min") (Dc X.K GZ):=by
 refine cq.to (BS hc) λxs H Q q=>?_;obtain⟨B,ds,d,b,g,i,e,q⟩:=q;match ds,e with
 |[.int G,.int M],e=>simp only[GZ]at e;cases e;exact⟨G,M,xl i,q.one g (.int _)⟩
@[simp] noncomputable def KI:D->String
 |.non=>"NoneType" | .bl _=>"bool" | .int _=>"int" | .str _=>"str" | .ty _=>"type" | .tup _=>"tuple" | .lst _=>"list" | .dk _ _=>"dict" | .dt _ _=>"dict"
@[simp] noncomputable def Nk:D->Bool
 |.ty _=>true
 |_=>false
@[simp] noncomputable def Ha (t n:String):OB :=
 if n = "int" then some (.bl (t == "int" || t == "bool"),false)else if n = "bool" then some (.bl (t == "bool"),false)else if n = "str" then some (.bl (t == "str"),false)
 else if n = "list" then some (.bl (t == "list"),false)else if n = "tuple" then some (.bl (t == "tuple"),false)else none
@[simp] def Jg:List D->OB
 |[d,.ty n]=>if Nk d=true then none else Ha (KI d) n
 |_=>none
@[simp] noncomputable def RT:D->OB
 |.int i=>some (.int (Builtin.Int.intBits i),false)
 |_=>none
@[simp] def DP (f:FE):FA:=λρ=>(f ρ).bind λx=>hV x.1
def A8 (h:JE X e f):JI X tg e (DP f):=by
 intro af s σ H R I q;obtain⟨B,ρ,ds,sB,r,e',q⟩:=q;obtain⟨x,ex,es⟩:=oX e';obtain⟨xd,xb⟩:=x;cases xd<;>simp only[hV]at es<;>try (cases es;done)
 ·cases es
  refine Kg h af s σ H R I ⟨B,ρ,_,_,sB,r,ex,λv T N1 M U _=>?_⟩;cases U with
  |@tup a vs _ G hl=>
   refine⟨a,rfl,⟨vs,bz M.nh G⟩,q _ T N1 M λi H2 s2=>⟨λd ed=>?_,λg=>⟨vs,bz s2 G,by rw[hl.length];exact g⟩⟩⟩;obtain⟨v,O,iv⟩:=hl.get ed;refine⟨⟨vs,v,bz s2 G,O⟩,λy H3 hy=>?_⟩;obtain⟨rfl,hy⟩:=hy;have:=hy vs (bz s2 G);rw[O]at this;cases this;exact⟨N1,.refl s2,iv⟩
 ·cases es
  refine Gn h af s σ H R I ⟨B,ρ,_,_,sB,r,ex,λv T N1 M U _=>?_⟩;cases U with
  |@lst a vs _ G hl=>
   refine⟨a,rfl,⟨vs,M.nh.seq G⟩,q _ T N1 M λi H2 s2=>⟨λd ed=>?_,λg=>⟨vs,s2.seq G,by rw[hl.length];exact g⟩⟩⟩;obtain⟨v,O,iv⟩:=hl.get ed;refine⟨⟨vs,v,s2.seq G,O⟩,λy H3 hy=>?_⟩;obtain⟨rfl,hy⟩:=hy;have:=hy vs (s2.seq G);rw[O]at this;cases this;exact⟨N1,.refl s2,iv⟩
noncomputable def dU (lo:Int)(n:Nat):List D:=(List.range n).map λ(k:Nat)=>.int (lo+(k:Int))
def DQ {K:Frag}{B:Hp}(lo:Int)(n:Nat):nA K (OL lo n) B (dU lo n):=by
 intro i H s;unfold dU;refine⟨λd ed=>?_,λhl=>by rw[vI,List.length_range]at hl;exact hl⟩;rw[vA]at ed;obtain⟨k,ek,ed⟩:=oY ed;have hk:=vV ek;obtain⟨g,hk⟩:=hk;rw[List.length_range]at g;rw[List.getElem_range]at hk;subst hk;subst ed;refine⟨g,λx H' hy=>?_⟩;obtain⟨rfl,rfl⟩:=hy;exact⟨B,.refl s,.int _⟩
@[simp] def fE (f:FE):FA:=λρ=>match f ρ with
 |some (.int j,_)=>if -1000<=j/\j<=1000 then some (dU 0 j.toNat)else none
 |_=>none
def jg (hm:X.mg "range" = none)(h:JE X a f)(M:Gl X "range":=by rfl)(hs:starEach [a] X.env=[(false,eval a X.env)]:=by rfl):PI X tg (.Call (.Name "range" p) [a] [] pos) (OO X.K (fE f)):=by
 refine PI.to (BO M hm (ah h am hs) hs) λσ H R q=>?_;obtain⟨B,ρ,ds,O,r,g,q⟩:=q;unfold fE at g;split at g
 ·rename_i j b' T;split at g
  ·rename_i hj;cases g
   refine⟨B,ρ,[.int j],O,r,by simp[ae,ai,T],λvs U N1 x1 G=>?_⟩;cases G with
   |cons G i2=>
    cases G;cases i2
    exact⟨j,rfl,by omega,by omega,q _ U N1 x1 λ_=>DQ 0 j.toNat⟩
  ·cases g
 ·cases g
def DR (hm:X.mg "range" = none)(h:JE X a f)(g:Gl X "range":=by rfl)(hs:starEach [a] X.env=[(false,eval a X.env)]:=by rfl):JI X tg (.Call (.Name "range" p) [a] [] pos) (fE f) :=
 PI.to (jg hm h g hs) λσ H R ⟨B,ρ,ds,G,r,M,q⟩=>⟨B,ρ,ds,G,r,M,λJ H' N x h=>q J H' N x (h _)⟩
end
def cX (K:Frag)(x:Str)(st:Stmt):Prop:=∃(f:Addr)(fd:FuncData),LB K x x st f fd/\nsIn K mainGlobals x=some (some (.ref f))
def def_mk {K:Frag}{x:Str}{st:Stmt}{f:Addr}{oc:Value}{od an:Option Addr}{oR:Array (Option Value)}{kV doc pm eQ ct:Value}(a:nsIn K mainGlobals x=some (some (.ref f)))
  (l:K.lookup f=some ⟨oc,od,.func (fnOf x x (gp st) (cL st) (aW st) .none kV doc pm an eQ ct),oR⟩) (c:PySem.W.codeIn K eQ x=true) (k:PySem.W.keepIn K (.ref f)=true):cX K x st:=⟨f,_,Kx l c k,a⟩
section
variable {P:Program}{w:World}{K:Frag}{mg:Str->Option Value}{base:Heap}
def cX.fn {x:Str}{st:Stmt}{N ps:List Str}{k:Nat}{g:FS}{h:Heap}(F:cX K x st)(X:K.In h)(G:h.Ns mainGlobals mg)(S:FnScope N ps (aW st))
  (M:∀(kV doc pm:Value)(an:Option Addr)(eQ ct:Value)(us:List Value),us.length=ps.length->bindArgs (fnOf x x (gp st) (cL st) (aW st) .none kV doc pm an eQ ct) ⟨us,[]⟩=pure (ps.zip us))
  (hb:∀(f:Addr)(eQ:Value)(A:Around)(outer:List PySem.Env)(s:Shared)(H:Hp)(E:XK),eV k (A.deeper (envOfC x (aW st) s.heap.objs.size f eQ))->uE (oS yT P w K mg base N x (aW st) f eQ A outer s H E).nox (cL st) g):
  Fn P w K mg base (k+1) x (aJ g ps.length (N.length - ps.length)):=by
 obtain⟨f,fd,O,a⟩:=F;exact⟨f,fd,ps,Nd O S (hb f),mg_of X G a,O.kp,O.binds M⟩
end
def Nl (H:Hp):Prop:=∀b,H b=none∨(∃o xs,H b=some (.frz o (.lst xs)))∨∃q,H b=some (.tbl q)
noncomputable def pP (g:List (Addr×Str))(G:Hp):Hp:=λb=>match g.lookup b with|some q=>some (.tbl q)|none=>G b
def gy (e:tabs.lookup b=some q):pP tabs G b=some (.tbl q):=by unfold pP;rw[e]
def jh (e:tabs.lookup b=none):pP tabs G b=G b:=by unfold pP;rw[e]
def Cj {P:Program}{w:World}{K:Frag}{mg mb:Str->Option Value}{k:Nat}{fa a:Addr}{fd:FuncData}{x:Str}{sp:Sp}{g:Shared}{vs:List Value}{ns:List Int}(M:List (Addr×Str))
  (ht:∀b q,M.lookup b=some q->g.heap.get? b=some (PySem.W.tabObj #[])/\isCodeTable g.heap b) (Vc:PySem.W.noTabs K=true)
  (KX:K.In g.heap) (LD:g.heap.Ns mainGlobals mg) (hb:g.heap.Ns builtinsNs mb) (Vd:∀x:Str,x ≠ "__name__"->mb x=bootBuiltins x) (QE:g.heap.NoLimit)
  (LF:∃bm ob,mg "__builtins__" = some (.ref bm)/\bm≠builtinsNs/\g.heap.get? bm=some ob/\ob.cls=.type "module"/\ob.dict=some builtinsNs/\ob.data=.plain) (hg:g.gens=#[])
  (ha:g.heap.get? a=some { cls:=.type "list",data:=.seq vs.toArray }) (hi:IntsAre vs ns) (hl:ns.length<=sizeLine) (hr:eV k callerA)
  (F:∀base:Heap,K.In base->base.Ns mainGlobals mg->sj P w K mg base yT k fa fd [x] sp) (Ol:∀(s:Shared)(u:Value),BindsTo s fd ⟨[u],[]⟩ [(x,u)])
  (Ve:∀H:Hp,(∀b q,M.lookup b=some q->H b=some (.tbl q))->gn K H a (ns.map V.int)->sp [.ref a] H (λv _=>v=.bl true) λ_ _ _=>False):
  codeAny (model P w) callerA (.call (.ref fa) ⟨[.ref a],[]⟩) (λr s'=>r=.ok (.ret (.bool true))/\OldK g.heap s'.heap/\s'.os=g.os/\AllBare s'.gens) g:=by
 have rv:=L2.kP hi;have QF:=hi.length;have Om:∀H:Hp,Nl H->(∀b q,M.lookup b=some q->H b=some (.tbl q))->gn K H a (ns.map V.int)->lq P w H g.heap->(∀b q,H b=some (.tbl q)->g.heap.get? b=some (PySem.W.tabObj #[])/\isCodeTable g.heap b) ->
   (∀b o u,H b=some (.frz o u)->b=a)->(∀b o u,H b=some (.frz o u)->K.lookup b=none) ->
   codeAny (model P w) callerA (.call (.ref fa) ⟨[.ref a],[]⟩) (λr s'=>r=.ok (.ret (.bool true))/\OldK g.heap s'.heap/\s'.os=g.os/\AllBare s'.gens) g:=by
  intro H hO hT hS hok hA hB hK;have Vf:∀ {b:Addr}{o:Obj},g.heap.get? b=some o->(o.cls≠.none)->(o.cls≠.type "list")->H b=none:=λ{b o} e d d'=>by
   rcases hO b with q|⟨ob,xs,q⟩|⟨u,q⟩
   ·exact q
   ·have e':b=a:=hB b _ _ q;subst e';rw[ha]at e;cases e;exact absurd rfl d'
   ·rw[(hA b u q).1]at e;cases e;exact absurd rfl d
  have Vg:∀ {b:Addr}{o:Obj}{es:Array DictEntry}{ep:Nat},g.heap.get? b=some o->o.data=.dict es ep->H b=none:=λ{b o es ep} e d=>by
   rcases hO b with q|⟨ob,xs,q⟩|⟨u,q⟩
   ·exact q
   ·have e':b=a:=hB b _ _ q;subst e';rw[ha]at e;cases e;cases d
   ·rw[(hA b u q).1]at e;cases e;cases d
  have U:∀ {b:Addr}{m:Str->Option Value},g.heap.Ns b m->(wD g.heap H).Ns b m:=λ{b m} ⟨o,es,ep,e,d,r⟩=>⟨o,es,ep,pC e (Vg e d),d,r⟩;have SO:K.In (wD g.heap H):=λb o e=>pC (KX b o e) (by
   rcases hO b with q|⟨ob,xs,q⟩|⟨u,q⟩
   ·exact q
   ·rw[hK b _ _ q]at e;cases e
   ·have z:=(hA b u q).1;rw[KX b o e]at z;cases z
    have:=uR Vc _ (PySem.W.mem_of_lookupK e);simp at this)
  have hM:Mod K mg (wD g.heap H):=⟨SO,U LD,⟨mb,U hb,Vd⟩,let ⟨mc,h1,h2⟩:=QE;⟨mc,U h1,h2⟩,by
   obtain⟨bm,ob,b1,b2,b3,b4,b5⟩:=LF;exact⟨bm,ob,b1,b2,pC b3 (Vf b3 (by rw[b4];exact λz=>nomatch z) (by rw[b4];intro z;injection z with z;exact absurd z (by decide))),b4,b5⟩⟩
  have e0:Env0 P w K mg (wD g.heap H) callerA [] g H:=⟨rfl,hM,λb o e=>Gg e,Nat.le_of_eq (BM _ _),trivial,λb hb=>absurd (show b∈([]:List Addr)from hb) (by simp),hok,.of_eq hg⟩;refine codeAny_mono ((F _ SO (U LD)).run callerA [] g H ⟨[.ref a],[]⟩ [.ref a] [.ref a] _ _ hr e0 (Ol g (.ref a)) (.cons rfl .nil) (Ve H hT hS)) λr s' h=>?_;cases r with
  |error e=>exact False.elim h
  |ok fl=>
   cases fl with
   |next=>exact False.elim h
   |brk=>exact False.elim h
   |cont=>exact False.elim h
   |ret u=>
    obtain⟨v,H',os,bare,un,Oo,r',q⟩:=h;have q':v=.bl true:=q;subst q';obtain rfl:u=Value.bool true:=r';have kp:∀b o,H b=none->g.heap.get? b=some o->s'.heap.get? b=some o:=λb o n e=>un.keep b o e n (by intro z;exact absurd (show b∈([]:List Addr)from z) (by simp)) (by simp);refine⟨rfl,⟨λb o e=>?_,λb o e=>un.there b o e (by simp)⟩,os,bare⟩;rcases hO b with z|⟨ob,xs,z⟩|⟨u,z⟩
    ·exact .inl (kp b o z e)
    ·have z2:=un.frzs b ob _ z;obtain⟨e1,_⟩:=hok b _ z;obtain⟨e2,_⟩:=Oo b _ z2;rw[e]at e1;cases e1;exact .inl e2
    ·obtain⟨e1,e2⟩:=hA b u z;rw[e]at e1;cases e1;obtain⟨ps,e3,_⟩:=Oo b _ (un.tbls b u z);exact .inr (.inl ⟨e2,rfl,#[],ps,rfl,by simpa using e3⟩)
 have LG:∀q,M.lookup a≠some q:=λq z=>by
  have:=(ht a q z).1;rw[ha]at this;cases this
 have ta:M.lookup a=none:=by
  cases z:M.lookup a with
  |none=>rfl
  |some q=>exact absurd z (LG q)
 have T:∀(G:Hp) b q,M.lookup b=some q->cw P w (pP M G) g.heap b (.tbl q):=λG b q z=>⟨#[],(ht b q z).1,trivial,λpos cv c=>by cases c⟩;cases hk:K.lookup a with
 |some o=>
  have e:=KX a o hk;rw[ha]at e;cases e
  refine Om (pP M λ_=>none) (λb=>?_) (λb q z=>gy z) (.inr ⟨_,vs.toArray,_,hk,rfl,rfl,rfl,by rw[vH,QF];exact hl,by simpa using rv⟩) (λb u z=>?_) (λb q z=>?_) (λb o u z=>?_) λb o u z=>?_
  all_goals cases O:M.lookup b with
   |none=>first|exact .inl (jh O)|(rw[jh O]at z;cases z)
   |some q'=>first|exact .inr (.inr ⟨q',gy O⟩)|(rw[gy O]at z;cases z;done)|(rw[gy O]at z;cases z;first|exact T _ b _ O|exact ht b _ O)
 |none=>
  refine Om (pP M λb=>if b=a then some (.frz { cls:=.type "list",data:=.seq vs.toArray } (.lst (ns.map V.int)))else none) (λb=>?_) (λb q z=>gy z) (.inl (.inr ⟨{ cls:=.type "list",data:=.seq vs.toArray },by rw[jh ta,if_pos rfl]⟩)) (λb u z=>?_) (λb q z=>?_) (λb o u z=>?_) λb o u z=>?_
  all_goals cases O:M.lookup b with
   |some q'=>first|exact .inr (.inr ⟨q',gy O⟩)|(rw[gy O]at z;cases z;done)|(rw[gy O]at z;cases z;first|exact T _ b _ O|exact ht b _ O)
   |none=>
    first
    |rw[jh O]at z
    |rw[jh O]
    by_cases hb:b=a
    ·first
     |rw[if_pos hb]at z
     |rw[if_pos hb]
     first
     |exact .inr (.inl ⟨_,_,rfl⟩)
     | (cases z;subst hb;exact⟨ha,by rw[vI];exact hl,vs,_,rv,ha⟩)
     |exact hb
     | (rw[hb];exact hk)
     |cases z
    ·first
     | (rw[if_neg hb]at z;cases z)
     |exact .inl (if_neg hb)
noncomputable def uM (L:List (Str×Option (Addr×Addr))):List (Addr×Str):=L.filterMap λp=>p.2.map λq=>(q.2,pK p.1)
structure pB (K:Frag)(L:List (Str×Option (Addr×Addr))):Prop where
 names:L=mm.map λx=>(x,PySem.W.tabIn K x)
 apart:((uM L).map (·.1)).Nodup
 none:PySem.W.noTabs K=true
theorem lu {α g:Type}[BEq α][LawfulBEq α]:∀ {l:List (α×g)}{a:α}{b:g},(l.map (·.1)).Nodup->(a,b)∈l->l.lookup a=some b
 | (c,d)::l,a,b,nd,h=>by
  rw[List.lookup_cons];rcases vP h with e|h
  ·cases e;simp
  ·have ne:a≠c:=λz=>(List.nodup_cons.mp nd).1 (by rw[←z];exact uS ⟨(a,b),h,rfl⟩);rw[show(a == c)=false by simpa using ne];exact lu (List.nodup_cons.mp nd).2 h
theorem kj {α g:Type}[BEq α][LawfulBEq α]:∀ {l:List (α×g)}{a:α}{b:g},l.lookup a=some b->(a,b)∈l
 | (c,d)::l,a,b,h=>by
  rw[List.lookup_cons]at h;cases e:a == c with
  |true=>rw[e]at h;cases h;rw[eq_of_beq e];exact mX
  |false=>rw[e]at h;exact mZ _ (kj h)
def pB.tb {K:Frag}{L:List (Str×Option (Addr×Addr))}(F:pB K L){H:Hp}(h:∀b q,(uM L).lookup b=some q->H b=some (.tbl q)):Tb K H:=λx hx c P e=>by
 refine h P (pK x) (lu F.apart ?_);rw[F.names];exact List.mem_filterMap.mpr ⟨(x,PySem.W.tabIn K x),uS ⟨x,hx,rfl⟩,by rw[e];rfl⟩
def tab_yes {K:Frag}{x:Str}{f c P:Addr}{oc G:Value}{od M:Option Addr}{oR g:Array (Option Value)}{fd:FuncData}{vs:Array Value}(O:nsIn K mainGlobals x=some (some (.ref f)))(e2:K.lookup f=some ⟨oc,od,.func fd,oR⟩)(T:fd.code=.ref c)
  (U:K.lookup c=some ⟨G,M,.fields vs,g⟩) (e5:vs[11]? = some (.ref P)):PySem.W.tabIn K x=some (c,P):=by unfold PySem.W.tabIn;simp only[O,e2,T,U,e5]
def tabs_fit {K:Frag}{g G M O:Option (Addr×Addr)}(h0:PySem.W.tabIn K "in_order" = g)(h1:PySem.W.tabIn K "has_seal" = G)(h2:PySem.W.tabIn K "is_first_death" = M)(h3:PySem.W.tabIn K "bases_by" = O)
  (T:((uM [("in_order",g),("has_seal",G),("is_first_death",M),("bases_by",O)]).map (·.1)).Nodup) (nt:PySem.W.noTabs K=true):pB K [("in_order",g),("has_seal",G),("is_first_death",M),("bases_by",O)] :=
 ⟨by subst h0;subst h1;subst h2;subst h3;rfl,T,nt⟩
def walkD {l:PySem.W.OpenLaw}{q:Program}{O:List Str}{XP:(Str->Option Value)->Heap->Prop}{YP:World->Heap->Prop}{d:DefRec}{K:Params->Frag}{k:Nat}{x:Str}{f:List D->OB}{L:List (Str×Option (Addr×Addr))}(hn:l.most=some 63)(NZ:d.params.defaults=[])(hr:eV k callerA)
  (hY:∀(w:World)(h:Heap),YP w h->(K w.params).In h) (hT:∀w:World,pB (K w.params) L) (hD:(L.all λp=>p.2.isNone || ((recsOf q).find? λe=>e.name == p.1).isSome)=true)
  (F:∀(w:World)(mg:Str->Option Value)(fa:Addr)(h:Heap),(K w.params).In h->h.Ns mainGlobals mg->mg d.name=some (.ref fa) ->
   ∃fd:FuncData,(∀(s:Shared)(u:Value),BindsTo s fd ⟨[u],[]⟩ [(x,u)])/\∀base:Heap,(K w.params).In base->base.Ns mainGlobals mg->sj l.prog w (K w.params) mg base yT k fa fd [x] (GV (K w.params) f))
  (ht:∀ns:List Int,ns.length<=63->∃b,f [.lst (ns.map .int)]=some (.bl true,b)):PySem.W.WalkO q O XP YP l.row.toRowW d [] (λf vs=>PySem.call f vs):=by
 refine Att.wK hn NZ λw s₀ s₁ mg mb fa o pm cd doc a vs ns G Y ho hd LA hmg hobj U M hg=>?_;have KX:=hY w _ Y;obtain⟨fd,hb,hF⟩:=F w mg fa _ KX G.T.g hmg;refine Cj (uM L) (λb u e=>?_) (hT w).none KX G.T.g G.T.b G.T.builtins G.T.nolimit G.T.bmain hg hobj U (vR M (by decide)) hr hF hb λH hH hS=>?_
 ·obtain⟨p,hp,e2⟩:=List.mem_filterMap.mp (kj e);obtain⟨⟨c,P⟩,e3,e4⟩:=oY e2;cases e4
  have QG:=uR hD p hp;rw[e3]at QG;rw[Option.isNone_some,Bool.false_or]at QG;obtain⟨r,Vh⟩:=uU QG;have Vi:PySem.W.tabIn (K w.params) p.1=some (c,P):=by
   rw[(hT w).names]at hp;obtain⟨y,_,rfl⟩:=vO hp;exact e3
  obtain⟨h1,h2⟩:=PySem.W.tab_of G.T KX Vh Vi;exact⟨h2,(h1.tab h2).isCodeTable⟩
 ·obtain⟨b,e⟩:=ht ns M;exact⟨H,_,_,b,⟨.refl H,(hT w).tb hH⟩,.cons (.lst hS (.flat rfl)) .nil,e,λv H' N x' i' _=>by cases i';rfl⟩
def cX.law {P:Program}{w:World}{K:Frag}{mg:Str->Option Value}{x y:Str}{st:Stmt}{N:List Str}{k:Nat}{g:FS}{h:Heap}{fa:Addr}(F:cX K x st)(X:K.In h)(G:h.Ns mainGlobals mg)(M:mg x=some (.ref fa))(S:FnScope N [y] (aW st))
  (O:∀(kV doc pm:Value)(an:Option Addr)(eQ ct:Value)(u:Value),bindArgs (fnOf x x (gp st) (cL st) (aW st) .none kV doc pm an eQ ct) ⟨[u],[]⟩=pure [(y,u)])
  (hb:∀(base:Heap),K.In base->base.Ns mainGlobals mg->∀(f:Addr)(eQ:Value)(A:Around)(outer:List PySem.Env)(s:Shared)(H:Hp)(E:XK),eV k (A.deeper (envOfC x (aW st) s.heap.objs.size f eQ))->uE (oS yT P w K mg base N x (aW st) f eQ A outer s H E).nox (cL st) g):
  ∃fd:FuncData,(∀(s:Shared)(u:Value),BindsTo s fd ⟨[u],[]⟩ [(y,u)])/\∀base:Heap,K.In base->base.Ns mainGlobals mg->sj P w K mg base yT (k+1) fa fd [y] (GV K (aJ g 1 (N.length - 1))):=by
 obtain⟨f,fd,T,a⟩:=F;have e:=M.symm.trans (mg_of X G a);cases e
 refine⟨fd,λs u=>?_,λbase U nb=>Nd T S (hb base U nb _)⟩;obtain⟨oc,od,kV,doc,pm,an,eQ,ct,oR,rfl,lk,LA⟩:=T.ex;exact .of_eq (O kV doc pm an eQ ct u)
section
variable {X:Cx}{a b e:Expr}{pos:Pos}{x:Str}{p:Pos}
@[simp] noncomputable def Hb:D->D->OB
 |.lst xs,.lst ys=>if xs.length+ys.length<=sizeLine then some (.lst (xs++ys),true)else none
 |_,_=>none
def KJ:dP X (binaryOp .Add) (rD X.K Hb):=by
 intro af s σ H x y v u Q I rx ry q;obtain⟨B,dx,dy,d,bb,O,ix,iy,M,q⟩:=q;cases ix<;>try (cases M;done)
 all_goals (cases iy<;>try (cases M;done))
 rename_i l vs ds h hl l' ws es h' G;simp only[Hb]at M;split at M
 ·rename_i hz;cases M
  cases rx
  cases ry
  obtain⟨its,T,p1,z1⟩:=I.list (O.seq h);obtain⟨g,U,p2,z2⟩:=I.list (O.seq h');obtain⟨⟨c1,d1,t1,s1⟩,o1,e1,n1,k1⟩:=p1.isList;obtain⟨⟨c2,d2,t2,s2⟩,o2,e2,n2,k2⟩:=p2.isList;dsimp only at e1 k1 e2 k2;subst e1;subst k1;subst e2;subst k2;have hsz:its.toArray.size+g.toArray.size<=sizeLine:=by
   rw[vH,vH,←T.length,←U.length,hl.length,G.length];exact hz
  have ea:its.toArray++g.toArray=(its++g).toArray:=by simp
  refine concat_meets ⟨_,o1,rfl⟩ ⟨_,o2,rfl⟩ noFill_list_add seq_list_add PySem.F.slot_list_add PySem.F.entry_list_add (PySem.F.args_list_add_2 _ _) (list_addW l l' its.toArray g.toArray n1 n2 d1 d2 s1 s2 hsz) ⟨o1,o2,?_⟩;rw[ea];have xt:=Ext.laid (o:=.lst (vs++ws)) O I.fresh;have il:=(hl.append G).mono xt.bn;exact⟨.ref s.heap.objs.size,_,I.lnew (t':=s.toks) (T.append U) (by rw[uZ,hl.length,G.length];exact hz),rfl,q _ _ _ xt (.lst (gn.of aH) il) λ_=>⟨_,_,_,rfl,rfl,I.fresh,aH,il⟩⟩
 ·cases M
@[simp] noncomputable def rT:D->D->OB
 |.tup xs,.tup ys=>if xs.length+ys.length<=sizeLine/\xs.isEmpty=false then some (.tup (xs++ys),false)else none
 |_,_=>none
def DS:dP X (binaryOp .Add) (rD X.K rT):=by
 refine iR G0 λx y H Q q=>?_;obtain⟨B,dx,dy,d,bb,M,U,iy,G,q⟩:=q;cases U<;>try (cases G;done)
 all_goals (cases iy<;>try (cases G;done))
 rename_i l vs ds h hl l' O es h' g;simp only[rT]at G;split at G
 ·rename_i hz;cases G
  have l1:=hl.length;have l2:=g.length;refine⟨l,l',vs,O,rfl,rfl,bz M h,bz M h',λz=>?_,by omega,λz=>?_,λ_ pp hp=>?_⟩
  ·subst z;cases hl
   simp at hz
  ·subst z;cases g
   rw[uQ]at q;exact q.one M (.tup h hl)
  ·have T:=Ext.laid (o:=.tup (vs++O)) M hp;exact q _ _ _ T (.tup (ja.of aH) ((hl.append g).mono T.bn)) (by simp)
 ·cases G
@[simp] noncomputable def DT:D->D->OB
 |.bl i,.int j=>some (.int ((if i=true then 1 else 0)+j),false)
 |.int i,.bl j=>some (.int (i+b2i j),false)
 |_,_=>none
def KN:dP X (binaryOp .Add) (rD X.K DT):=by
 intro af s σ H x y v u Q I G M q;obtain⟨B,dx,dy,d,bb,O,T,U,g,q⟩:=q;cases T<;>try (cases g;done)
 all_goals (cases U<;>try (cases g;done))
 ·simp only[DT]at g;cases g
  cases G
  obtain⟨t,rfl⟩:=M;exact IntBool.add_bool_int ⟨.int _,H,I.tok _,⟨_,rfl⟩,q.one O (.int _)⟩
 ·simp only[DT]at g;cases g
  exact BQ af s σ H _ _ v u Q I G M ⟨_,_,rfl,rfl,q.one O (.int _)⟩
@[simp] noncomputable def ci:D->D->OB
 |.int i,.int j=>some (.int (i+j),false)
 |.str i,.str j=>if i.length+j.length<=sizeLine then some (.str (i++j),false)else none
 |.lst xs,.lst ys=>if xs.length+ys.length<=sizeLine then some (.lst (xs++ys),true)else none
 |.tup xs,.tup ys=>if xs.length+ys.length<=sizeLine/\xs.isEmpty=false then some (.tup (xs++ys),false)else none
 |.bl i,.int j=>some (.int ((if i=true then 1 else 0)+j),false)
 |.int i,.bl j=>some (.int (i+b2i j),false)
 |_,_=>none
def b9:dP X (binaryOp .Add) (rD X.K ci):=by
 refine iR (r:=rD X.K (De A4 (De Hb (De rT DT)))) (nD GW (nD KJ (nD DS KN))) λx y H Q q=>?_;obtain⟨B,dx,G,d,bb,M,O,T,g,q⟩:=q;refine⟨B,dx,G,d,bb,M,O,T,?_,q⟩;cases dx<;>try (cases g;done)
 all_goals (cases G<;>try (cases g;done))
 all_goals (simp[ci]at g;simp[De,A4,Hb,rT,DT,g])
@[simp] noncomputable def Qd:D->Option Bool
 |.bl b=>some b
 |_=>none
def pQ:List D->Option (List Bool)
 |[]=>some []
 |d::ds=>(Qd d).bind λb=>(pQ ds).map (b :: ·)
@[simp] def Nm:pQ []=some []:=rfl
@[simp] def Ck (d:D)(ds:List D):pQ (d::ds)=(Qd d).bind λb=>(pQ ds).map (b :: ·):=rfl
theorem vc {K:Frag}{B:Hp}:∀ {vs:List V}{ds:List D}{bs:List Bool}{its:List Value},L2.be vs its->IsL K B vs ds->pQ ds=some bs->its=bs.map Value.bool
 |_,_,_,_,.nil,.nil,e=>by cases e;rfl
 |_,_,_,_,.cons r G,.cons i M,e=>by
  rw[Ck]at e;obtain⟨b,g,e⟩:=oX e;obtain⟨bs,e2,e⟩:=oY e;subst e;cases i<;>simp only[Qd]at g<;>try (cases g;done)
  cases g
  cases r
  rw[vc G M e2];rfl
@[simp] def DU:List D->OB
 |[.lst ds]=>(pQ ds).map λbs=>(.bl (bs.all id),false)
 |_=>none
@[simp] def DV:List D->OB
 |[.lst ds]=>(pQ ds).map λbs=>(.bl (bs.any id),false)
 |_=>none
def Jh (hc:X.calm=true:=by rfl):cq X (.builtin "all") (Dc X.K DU):=by
 intro af s σ H xs us Q I rs q;obtain⟨B,ds,d,bb,sB,i,g,q⟩:=q;match ds,i,g with
 |[.lst es],.cons i1 .nil,g=>
  obtain⟨bs,eb,g⟩:=oY g;cases g
  obtain⟨u1,rfl,r1⟩:=hG rs;cases i1 with
  |@lst l vs _ h hl=>
   cases r1
   obtain⟨its,rv,O,z1⟩:=I.list (sB.seq h);have ei:=vc rv hl eb;have T:l<s.heap.objs.size:=by obtain⟨_,G,_⟩:=O.isList;exact vX G
   refine call_all_walk (wpAny_pyIter_list O.isList ⟨_,_,_,_,_,_,λj=>(bs[j]?).getD true,rfl,Walks.list (A:=X.A.in1) (I.ok.hd hc) s.heap.objs.size l (vS T) its.toArray,⟨⟨_,vY _ rfl,rfl,rfl⟩,O.isList.push _⟩,λj v s' Q' E' hP U=>?_,λh' tk hk=>?_⟩)
   ·have M:its[j]? = some v:=by simpa using hP
    rw[ei,vA]at M;obtain⟨c,e1,e2⟩:=oY M;subst e2;dsimp only at U;rw[e1]at U;exact wpAny_truthy_bool U
   ·have ea:((List.range its.toArray.size).all λj=>(bs[j]?).getD true)=bs.all id:=by
     rw[vH,ei,vI];exact LSm.range_all bs
    rw[ea];refine⟨.bl _,H,I.kept λc o G=>?_,rfl,q.one sB (.bl _)⟩;exact hk c o (λhm=>by rw[uT hm]at G;exact Nat.lt_irrefl _ (vX G)) (vZ _ G)
def Ji (hc:X.calm=true:=by rfl):cq X (.builtin "any") (Dc X.K DV):=by
 intro af s σ H xs us Q I rs q;obtain⟨B,ds,d,bb,sB,i,g,q⟩:=q;match ds,i,g with
 |[.lst es],.cons i1 .nil,g=>
  obtain⟨bs,eb,g⟩:=oY g;cases g
  obtain⟨u1,rfl,r1⟩:=hG rs;cases i1 with
  |@lst l vs _ h hl=>
   cases r1
   obtain⟨its,rv,O,z1⟩:=I.list (sB.seq h);have ei:=vc rv hl eb;have T:l<s.heap.objs.size:=by obtain⟨_,G,_⟩:=O.isList;exact vX G
   refine call_any_walk (wpAny_pyIter_list O.isList ⟨_,_,_,_,_,_,λj=>(bs[j]?).getD false,rfl,Walks.list (A:=X.A.in1) (I.ok.hd hc) s.heap.objs.size l (vS T) its.toArray,⟨⟨_,vY _ rfl,rfl,rfl⟩,O.isList.push _⟩,λj v s' Q' E' hP U=>?_,λh' tk hk=>?_⟩)
   ·have M:its[j]? = some v:=by simpa using hP
    rw[ei,vA]at M;obtain⟨c,e1,e2⟩:=oY M;subst e2;dsimp only at U;rw[e1]at U;exact wpAny_truthy_bool U
   ·have ea:((List.range its.toArray.size).any λj=>(bs[j]?).getD false)=bs.any id:=by
     rw[vH,ei,vI];exact LSm.range_any bs
    rw[ea];refine⟨.bl _,H,I.kept λc o G=>?_,rfl,q.one sB (.bl _)⟩;exact hk c o (λhm=>by rw[uT hm]at G;exact Nat.lt_irrefl _ (vX G)) (vZ _ G)
def Jj:bootBuiltins "any" = some (.builtin "any"):=by decide +kernel
end
noncomputable def OQ (z:Str):It:=⟨λi _=>i<z.cps.size,λi H v H'=>H'=H/\∃c,z.cps[i]? = some c/\v=.str ⟨#[c]⟩,λi _=>z.cps.size<=i⟩
def xm {P:Program}{w:World}{K:Frag}{tg:Expr}(z:Str)(t:Tok)(it:Addr):Turn P w K tg (OQ z) [it] it (λi h=>h.IsStrIter it "str_ascii_iterator" z t i) where
 mem:=List.mem_singleton.mpr rfl
 obj:=λi h st b hb=>by
  have O:=uT hb;subst O;obtain⟨o,G,_,d1⟩:=st;exact⟨o,G,λv zz=>by rw[d1]at zz;cases zz⟩
 keep:=λi h h' st k=>let ⟨o,G,r⟩:=st;⟨o,k it (List.mem_singleton.mpr rfl) o G,r⟩
 item:=by
  intro X T hw U hc i af s σ H E I hf st hg;subst T hw U;have g:i<z.cps.size:=hg;obtain⟨f0,f1,f2,f3,f4,f5⟩:=hf it (List.mem_singleton.mpr rfl);refine wpAny_pyNext_ascii_item st (c:=z.cps[i]) (by simp[g]) λh' M sb=>?_;obtain⟨o,G,c1,d1⟩:=id M;exact⟨_,rfl,su (s:={ s with heap:=h',toks:=s.toks+1 }) G c1 d1 (by decide) ⟨.str ⟨#[z.cps[i]]⟩,H,I.turned (λb o hb e2=>(sb.2 b hb).trans e2) f0 f1 f3 f4 f5,⟨_,rfl⟩,⟨rfl,_,by simp[g],rfl⟩,M,λb hb=>(hf b hb).1⟩⟩
 done:=by
  intro X T hw U hc i af s σ H E I hf st hg;subst T hw U;have g:z.cps.size<=i:=hg;obtain⟨f0,f1,f2,f3,f4,f5⟩:=hf it (List.mem_singleton.mpr rfl);exact wpAny_pyNext_ascii_end (I.ok.hd hc) st (by simp;omega) λh' O=>⟨rfl,I.turned (t':=s.toks) (λb o hb e2=>O b o hb e2) f0 f1 f3 f4 f5⟩
 self:=λ_ _ _ _ _ st h=>wpAny_pyIter_striter_ascii st h
def xn {P:Program}{w:World}{K:Frag}{tg:Expr}(z:Str)(t:Tok)(it:Addr):Turn P w K tg (OQ z) [it] it (λi h=>h.IsStrIter it "str_iterator" z t i) where
 mem:=List.mem_singleton.mpr rfl
 obj:=λi h st b hb=>by
  have O:=uT hb;subst O;obtain⟨o,G,_,d1⟩:=st;exact⟨o,G,λv zz=>by rw[d1]at zz;cases zz⟩
 keep:=λi h h' st k=>let ⟨o,G,r⟩:=st;⟨o,k it (List.mem_singleton.mpr rfl) o G,r⟩
 item:=by
  intro X T hw U hc i af s σ H E I hf st hg;subst T hw U;have g:i<z.cps.size:=hg;obtain⟨f0,f1,f2,f3,f4,f5⟩:=hf it (List.mem_singleton.mpr rfl);refine wpAny_pyNext_wide_item st (c:=z.cps[i]) (by simp[g]) λh' M sb=>?_;obtain⟨o,G,c1,d1⟩:=id M;exact⟨_,rfl,su (s:={ s with heap:=h',toks:=s.toks+1 }) G c1 d1 (by decide) ⟨.str ⟨#[z.cps[i]]⟩,H,I.turned (λb o hb e2=>(sb.2 b hb).trans e2) f0 f1 f3 f4 f5,⟨_,rfl⟩,⟨rfl,_,by simp[g],rfl⟩,M,λb hb=>(hf b hb).1⟩⟩
 done:=by
  intro X T hw U hc i af s σ H E I hf st hg;subst T hw U;have g:z.cps.size<=i:=hg;obtain⟨f0,f1,f2,f3,f4,f5⟩:=hf it (List.mem_singleton.mpr rfl);exact wpAny_pyNext_wide_end (I.ok.hd hc) st (by simp;omega) λh' O=>⟨rfl,I.turned (t':=s.toks) (λb o hb e2=>O b o hb e2) f0 f1 f3 f4 f5⟩
 self:=λ_ _ _ _ _ st h=>wpAny_pyIter_striter_wide st h
section
variable {X:Cx}{a b e:Expr}{pos:Pos}{x:Str}{p:Pos}{tg:Expr}
def DW {l:Expr}{tl:TE}(hl:PE X l tl):PI X tg l (λσ H R=>tl σ H λx g=>∃z,x=.str z/\R (OQ z) g):=by
 intro af s σ H R I h;refine c7 (hl af s σ H _ I h) λv s1 ⟨x,g,G,M,O⟩=>?_;obtain⟨z,rfl,q⟩:=O;obtain⟨t,rfl⟩:=M;have fp:∀b∈[s1.heap.objs.size],nv X af g b:=λb hb=>by
  rw[uT hb];exact G.fpOk (vT _) (G.hok.fresh (vT _))
 cases ha:z.cps.all (· < 128) with
 |true=>exact wpAny_pyIter_ascii ha ⟨_,[s1.heap.objs.size],_,_,g,rfl,G.kept (t':=s1.toks) λb o e=>vZ _ e,xm z t _,⟨_,vY _ rfl,rfl,rfl⟩,fp,q⟩
 |false=>exact wpAny_pyIter_wide ha ⟨_,[s1.heap.objs.size],_,_,g,rfl,G.kept (t':=s1.toks) λb o e=>vZ _ e,xn z t _,⟨_,vY _ rfl,rfl,rfl⟩,fp,q⟩
noncomputable def A9 (z:Str):List D:=z.cps.toList.map λc=>.str ⟨#[c]⟩
def DX {K:Frag}{B:Hp}(z:Str):nA K (OQ z) B (A9 z):=by
 intro i H s;refine⟨λd ed=>?_,λhl=>by unfold A9 at hl;show z.cps.size<=i;simpa using hl⟩;unfold A9 at ed;rw[vA]at ed;obtain⟨c,M,rfl⟩:=oY ed;have g:z.cps[i]? = some c:=by simpa using M
 refine⟨(Array.getElem?_eq_some_iff.mp g).1,λv H' hy=>?_⟩;obtain⟨rfl,O,G,rfl⟩:=hy;rw[g]at G;cases G;exact⟨B,.refl s,.str _⟩
@[simp] def KO:D->Option (List D)
 |.lst ds=>some ds
 |.tup ds=>some ds
 |.str z=>some (A9 z)
 |_=>none
@[simp] def bQ (f:FE):FA:=λρ=>(f ρ).bind λx=>KO x.1
def bZ (h:JE X e f):JI X tg e (bQ f):=by
 intro af s σ H R I q;obtain⟨B,ρ,ds,g,r,G,q⟩:=q;obtain⟨M,ex,es⟩:=oX G;obtain⟨xd,xb⟩:=M;cases xd with
 |lst l=>exact A8 h af s σ H R I ⟨B,ρ,ds,g,r,by unfold DP;rw[ex];exact es,q⟩
 |tup l=>exact A8 h af s σ H R I ⟨B,ρ,ds,g,r,by unfold DP;rw[ex];exact es,q⟩
 |str z=>
  cases es
  refine DW h af s σ H R I ⟨B,ρ,_,_,g,r,ex,λv O N1 T U _=>?_⟩;cases U
  exact⟨z,rfl,q _ O N1 T (DX z)⟩
 |_=>cases es
def Hd:Db X (λx lo hi H Q=>∃z,x=.str z/\z.length<=sizeLine/\Q (.str (Txt.slice z lo hi)) H):=by
 intro af s σ H x v vl O lo hi sl Q I M hs pl G h;obtain⟨z,rfl,hz,q⟩:=h;obtain⟨t,rfl⟩:=M;have jb:∀lo hi,Q (.str (Txt.slice z lo hi)) H->(Txt.slice z lo hi).length<=sizeLine/\∀t' k,EP X af σ Q (.str (Txt.slice z lo hi) t') { s with toks:=k }:=λlo hi q=>
  ⟨vR (Txt.slice_le z _ _) hz,λt' k=>⟨.str _,H,I.tok k,⟨t',rfl⟩,q⟩⟩
 refine⟨"str",_,PySem.F.slot_str_getitem.lookup,typeIs_str _ _ _,?_⟩;cases pl with
 |none=>
  cases G with
  |none=>exact wpAny_getItem_str_slice (l:=none) (u:=none) (st:=none) hs rfl (post_val_or_str (jb _ _ q))
  |int j g=>exact wpAny_getItem_str_slice (l:=none) (u:=some (j,g)) (st:=none) hs rfl (post_val_or_str (jb _ _ q))
 |int i ti=>
  cases G with
  |none=>exact wpAny_getItem_str_slice (l:=some (i,ti)) (u:=none) (st:=none) hs rfl (post_val_or_str (jb _ _ q))
  |int j g=>exact wpAny_getItem_str_slice (l:=some (i,ti)) (u:=some (j,g)) (st:=none) hs rfl (post_val_or_str (jb _ _ q))
def Cm {A:Around}{E:Value->Shared->Prop}{s:Shared}{prog:Program}{w:World}{t sl:Addr}{items:Array Value}{vl T:Value}{lo hi:Option Int}{Q:Value->Shared->Prop}(g:IsTup s.heap t items)(hs:s.heap.IsSliceOf sl vl T .none)(pl:IsPart vl lo)(U:IsPart T hi)
  (h0:HT.dQ items.size 0 lo=0) (h1:HT.dQ items.size items.size hi=items.size) (h:Q (.ref t) s):wpAny (model prog w) A (getItem (.ref t) (.ref sl)) Q E s:=by
 obtain⟨os,G,M,Q8⟩:=id hs
 have hT:s.TypeIs (.ref sl) "slice":=⟨os,G,M⟩
 unfold getItem
 try with_reducible refine wpAny_holding ?_
 first|refine wX (wY ?_)|skip
 refine wX (wpAny_sequenceKey g.typeIs (by decide) ?_)
 refine wX (wpAny_callSpecial?_slot (name:=Str.ofString "__getitem__") g.typeIs PyProof.Rows.slot_tuple_getitem (wpAny_call_entry PyProof.Rows.slot_tuple_getitem g.typeIs entry_tuple_getitem ?_ (args_tuple_getitem _ _)))
 show wpAny _ _ (Builtin.Tuple.tupleItemsOf (.ref t)>>=_) _ _ s
 refine wX (tupleItemsOf_ g ?_)
 refine wX (wpAny_typeOf hT ?_)
 rw[if_pos (by decide)]
 refine wX (HT.jd hs pl U ?_)
 have O:(((HT.dQ items.size 0 lo:Nat):Int) == 0 && (1:Int) == 1 && (HT.dQ items.size items.size hi - HT.dQ items.size 0 lo) == items.size)=true:=by
  rw[h0,h1];simp
 show wpAny _ _ (if(((HT.dQ items.size 0 lo:Nat):Int) == 0 && (1:Int) == 1 && (HT.dQ items.size items.size hi - HT.dQ items.size 0 lo) == items.size)=true then _ else _) _ _ s
 rw[if_pos O]
 refine wX ?_
 unfold Builtin.Tuple.tupleIsExact
 refine wX (wpAny_typeOf g.typeIs (wY ?_))
 show wpAny _ _ (if((Value.type "tuple") == Value.type "tuple")=true then _ else _) _ _ s
 rw[if_pos (by decide)]
 refine wX (wpAny_rule ?_)
 exact wY ⟨_,rfl,wY h⟩
def He:Db X (λx lo hi H Q=>∃a xs,x=.ref a/\ja X.K H a xs/\HT.dQ xs.length 0 lo=0/\HT.dQ xs.length xs.length hi=xs.length/\Q (.ref a) H):=by
 intro af s σ H x v vl T lo hi sl Q I M hs pl O h;obtain⟨a,xs,rfl,hx,h0,h1,q⟩:=h;cases M
 obtain⟨its,r,G,hz⟩:=I.tuple hx;have g:its.toArray.size=xs.length:=by rw[vH];exact r.length.symm
 refine⟨"tuple",_,PyProof.Rows.slot_tuple_getitem.lookup,G.typeIs,?_⟩;exact Cm G hs pl O (by rw[g];exact h0) (by rw[g];exact h1) ⟨.ref a,H,I,rfl,q⟩
@[simp] def DY (fa:FE)(fl g:FO):FE:=λρ=>(fa ρ).bind λx=>(fl ρ).bind λl=>(g ρ).bind λh=>match x.1 with
 |.lst ds=>some (.lst (ki ds l h),true)
 |.tup ds=>some (.tup (ki ds l h),false)
 |.str z=>if z.length<=sizeLine then some (.str (Txt.slice z l h),false)else none
 |_=>none
def zx {ds:List D}{lo hi:Option Int}(h0:HT.dQ ds.length 0 lo=0)(h1:HT.dQ ds.length ds.length hi=ds.length):ki ds lo hi=ds:=by
 unfold ki;rw[h0,h1];simp
def mu {lo hi:Option Expr}{p2:Pos}{fa:FE}{fl U:FO}(ha:JE X e fa)(hl:JO X lo fl)(hh:JO X hi U):JE X (.Subscript e (.Slice lo hi none p2) pos) (DY fa fl U):=by
 refine PE.to (Dw (Db.or (Db.or G4 Ku) (Db.or Hd He)) ha hl hh) λσ H Q q=>?_;obtain⟨B,ρ,d,b,sB,r,e,q⟩:=q;obtain⟨x,ex,e⟩:=oX e;obtain⟨l,el,e⟩:=oX e;obtain⟨h,eh,e⟩:=oX e;refine⟨B,ρ,x.1,x.2,sB,r,ex,λv H1 N1 g i1 _=>⟨N1,ρ,l,g.nh,r.mono g.bn,el,λH2 h2=>⟨N1,ρ,h,g.nh.trans h2,r.mono g.bn,eh,λH3 h3=>?_⟩⟩⟩;have G:bf N1 H3:=g.nh.trans (h2.trans h3);have O:=q.into (g.trans (.grow g.nh (h2.trans h3)));obtain⟨xd,xb⟩:=x;dsimp only at e i1;cases i1 with
 |@tup T vs ds hs hv=>
  cases e
  by_cases hw:HT.dQ ds.length 0 l=0/\HT.dQ ds.length ds.length h=ds.length
  ·rw[zx hw.1 hw.2]at O;exact .inr (.inr ⟨T,vs,rfl,bz G hs,by rw[hv.length];exact hw.1,by rw[hv.length];exact hw.2,O.one G (.tup hs hv)⟩)
  ·refine .inl (.inr ⟨T,vs,rfl,bz G hs,by rw[hv.length];exact hw,λp hp=>?_⟩);have M:=Ext.laid (o:=.tup (rO vs l h)) G hp;exact O _ _ _ M (.tup (ja.of aH) ((uL hv).mono M.bn)) (by simp)
 |@lst T vs ds hs hv=>
  cases e
  refine .inl (.inl ⟨T,vs,rfl,G.seq hs,λp hp=>?_⟩);have M:=Ext.laid (o:=.lst (rO vs l h)) G hp;exact O _ _ _ M (.lst (gn.of aH) ((uL hv).mono M.bn)) λ_=>⟨p,_,_,rfl,rfl,hp,aH,(uL hv).mono M.bn⟩
 |str z=>
  dsimp only at e;split at e
  ·rename_i hz;cases e
   exact .inr (.inl ⟨z,rfl,hz,O.one G (.str _)⟩)
  ·cases e
 |_=>cases e
noncomputable def ve:Value->D->Bool
 |.none,.non=>true
 |.bool a,.bl b=>a == b
 |.int i _,.int j=>decide (i=j)
 |.str i _,.str j=>decide (i=j)
 |_,_=>false
def j4:List Value->List D->Bool
 |[],[]=>true
 |u::us,d::ds=>ve u d && j4 us ds
 |_,_=>false
theorem kU {K:Frag}{B:Hp}:∀ {u:Value}{d:D},ve u d=true->∃v,bd v u/\Is K B v d
 |.none,.non,_=>⟨.non,rfl,.non⟩
 |.bool a,.bl b,h=>by
  have:a=b:=eq_of_beq h;subst this;exact⟨.bl a,rfl,.bl a⟩
 |.int i t,.int j,h=>by
  have:i=j:=of_decide_eq_true h;subst this;exact⟨.int i,⟨t,rfl⟩,.int i⟩
 |.str i t,.str j,h=>by
  have:i=j:=of_decide_eq_true h;subst this;exact⟨.str i,⟨t,rfl⟩,.str i⟩
theorem j5 {K:Frag}:∀ {us:List Value}{ds:List D},j4 us ds=true->∃vs,L2.be vs us/\∀B,IsL K B vs ds
 |[],[],_=>⟨[],.nil,λ_=>.nil⟩
 |u::us,d::ds,h=>by
  rw[j4,vC]at h;obtain⟨vs,r,i⟩:=j5 (K:=K) h.2;obtain⟨v,G,_⟩:=kU (K:=K) (B:=λ_=>none) h.1;refine⟨v::vs,.cons G r,λB=>?_⟩;obtain⟨O,g,T⟩:=kU (K:=K) (B:=B) h.1;have:O=v:=by have M:=G.abs;rw[g.abs]at M;exact vK M
  subst this;exact .cons T (i B)
def const_tup {K:Frag}{y:Str}{a:Addr}{od:Option Addr}{its:Array Value}{n:Nat}{oR:Array (Option Value)}{ds:List D}(e:nsIn K mainGlobals y=some (some (.ref a)))
  (l:K.lookup a=some ⟨.type "tuple",od,.seq its n,oR⟩) (h:(decide (its.size<=1000) && j4 its.toList ds)=true):∃u v,nsIn K mainGlobals y=some (some u)/\bd v u/\∀B,Is K B v (.tup ds):=by
 rw[vC]at h;obtain⟨vs,r,i⟩:=j5 (K:=K) h.2;exact⟨_,.ref a,e,rfl,λB=>.tup (.inr ⟨_,its,n,l,rfl,rfl,Nat.le_of_lt (Nat.lt_of_le_of_lt (of_decide_eq_true h.1) (by decide)),r⟩) (i B)⟩
end
section
variable {X:Cx}{a b o e:Expr}{pos:Pos}{x:Str}{p:Pos}{tg:Expr}
def KP {name:Str}{id:String}{dG cI:Pos}{op:D->D->OB}{fo fe:FE}(slot:Slot "str" name id)(Vj:typeOf (.builtin id)=pure (.type "method_descriptor"))
  (hm:G2 X id (λx xs H Q=>∃y,xs=[y]/\rD X.K op x y H Q)) (T:∀dx dy r,op dx dy=some r->∃z,dx=.str z) (ho:JE X o fo) (he:JE X e fe)
  (g:attributeBase o name X.env (eval o X.env)=eval o X.env:=by rfl)
  (U:((backTo cI (starEach [e] X.env)).all (λx=>!x.1) && (backToKw cI (keywordEach [] X.env)).all (λx=>x.1.isSome)
   && decide ([e].length+([]:List Keyword).length+(if([]:List Keyword).isEmpty then 0 else 1)<30))=true:=by rfl)
  (G:(dG.endLine == cI.line)=true:=by rfl) (hs:starEach [e] X.env=[(false,eval e X.env)]:=by rfl):
  JE X (.Call (.Attribute o name dG) [e] [] cI) (f2 op fo fe):=by
 refine PE.to (Dz PySem.F.plainAttrs_str slot Vj hm ho (iI he jX hs) g U G hs rfl) λσ H Q q=>?_;obtain⟨B,ρ,d,bb,sB,r,O,q⟩:=q;obtain⟨x1,ex,O⟩:=oX O;obtain⟨y1,ey,O⟩:=oX O;obtain⟨z,hz⟩:=T _ _ _ O;refine⟨B,ρ,x1.1,x1.2,sB,r,ex,λv H1 N1 M i1 _=>?_⟩;rw[hz]at i1;cases i1
 refine⟨show "str" = "str" from rfl,N1,ρ,y1.1,y1.2,M.nh,r.mono M.bn,ey,λv2 H2 N2 Op i2 _=>⟨v2,rfl,N2,.str z,y1.1,d,bb,Op.nh,.str z,i2,by rw[←hz];exact O,q.into (M.trans Op)⟩⟩
@[simp] noncomputable def KQ:D->Option Str
 |.str z=>some z
 |_=>none
def gO:List D->Option (List Str)
 |[]=>some []
 |d::ds=>(KQ d).bind λz=>(gO ds).map (z :: ·)
@[simp] def LY:gO []=some []:=rfl
@[simp] def zy (d:D)(ds:List D):gO (d::ds)=(KQ d).bind λz=>(gO ds).map (z :: ·):=rfl
@[simp] def LZ (zs:List Str):gO (zs.map D.str)=some zs:=by
 induction zs with
 |nil=>rfl
 |cons z zs g=>simp[g]
theorem km {K:Frag}{B:Hp}:∀ {vs:List V}{ds:List D}{zs:List Str}{its:List Value},L2.be vs its->IsL K B vs ds->gO ds=some zs->StrsAre its zs
 |_,_,_,_,.nil,.nil,e=>by cases e;exact .nil
 |_,_,_,_,.cons r G,.cons i M,e=>by
  rw[zy]at e;obtain⟨z,g,e⟩:=oX e;obtain⟨zs,e2,e⟩:=oY e;subst e;cases i<;>simp only[KQ]at g<;>try (cases g;done)
  cases g
  obtain⟨t,rfl⟩:=r;exact .cons _ t (km G M e2)
@[simp] def ou:D->D->OB
 |.str g,.lst ds=>(gO ds).bind λzs=>if(zs.map (·.length)).sum+zs.length*g.length<=16777216 then some (.str (Txt.join g zs),false)else none
 |.str g,.tup ds=>(gO ds).bind λzs=>if(zs.map (·.length)).sum+zs.length*g.length<=16777216 then some (.str (Txt.join g zs),false)else none
 |_,_=>none
def KR:G2 X "str.join" (λx xs H Q=>∃y,xs=[y]/\rD X.K ou x y H Q):=by
 intro af s σ H x xs v us Q I rx rs h;obtain⟨y,rfl,B,dx,dy,d,bb,G,ix,iy,g,q⟩:=h;obtain⟨u1,rfl,U⟩:=hG rs;cases ix<;>(try (simp[ou]at g;done))
 obtain⟨t,rfl⟩:=rx;cases iy<;>(try (simp[ou]at g;done))
 ·rename_i h hl;simp only[ou]at g;obtain⟨zs,M,g⟩:=oX g;split at g
  ·rename_i hok;cases g
   cases U
   obtain⟨its,O,T,z1⟩:=I.tuple (bz G h);exact join_tuple T (by simpa using km O hl M) hok λt' k=>⟨.str _,H,I.tok k,⟨t',rfl⟩,q.one G (.str _)⟩
  ·cases g
 ·rename_i h hl;simp only[ou]at g;obtain⟨zs,M,g⟩:=oX g;split at g
  ·rename_i hok;cases g
   cases U
   obtain⟨its,O,T,z1⟩:=I.list (G.seq h);exact join_list T.isList (by simpa using km O hl M) hok λt' k=>⟨.str _,H,I.tok k,⟨t',rfl⟩,q.one G (.str _)⟩
  ·cases g
def DZ (dx g:D)(r:D×Bool)(h:ou dx g=some r):∃z,dx=.str z:=by
 cases dx<;>first|exact⟨_,rfl⟩|(cases g<;>simp[ou]at h)
noncomputable def gz:List Nat->List D->Env->Option Env
 |[],[],ρ=>some ρ
 |i::is,d::ds,ρ=>gz is ds (ρ.set i (some (d,false)))
 |_,_,_=>none
@[simp] def sV (ρ:Env):gz [] [] ρ=some ρ:=by rw[gz]
@[simp] def lI (i:Nat)(is:List Nat)(d:D)(ds:List D)(ρ:Env):gz (i::is) (d::ds) ρ=gz is ds (ρ.set i (some (d,false))):=by rw[gz]
@[simp] def Nn (d:D)(ds:List D)(ρ:Env):gz [] (d::ds) ρ=none:=by simp only[gz]
@[simp] def No (i:Nat)(is:List Nat)(ρ:Env):gz (i::is) [] ρ=none:=by simp only[gz]
@[simp] def Jk (is:List Nat):FG:=λd ρ=>match d with|.tup ds=>gz is ds ρ|_=>none
def pR:List Nat->Kb
 |[]=>M0
 |i::is=>IP (jN i) (pR is)
def Ea:bf (eG N (own σ ρ)) (eG N (own (σ.set i (some v)) (ρ.set i (some (d,false))))):=eS λa u e q=>⟨e,λz=>q (by
 rcases uC z with⟨_,d',p⟩|⟨j,_,d',g,G⟩
 ·cases p
 ·exact⟨j,d',g,G⟩)⟩
theorem sW {K:Frag}:∀ {is:List Nat}{vs:List V}{ds:List D}{B0 H0 N H:Hp}{σ:St}{ρ ρ':Env}{Q:St->Hp->Prop},eP K B0 H0 N H σ ρ->IsL K (eG N (own σ ρ)) vs ds->gz is ds ρ=some ρ'->(∀g,eP K B0 H0 N H g ρ'->Q g H)->pR is vs σ H Q
 |[],_,_,_,_,_,_,_,_,_,_,s,.nil,e,k=>by
  rw[sV]at e;cases e;exact⟨rfl,k _ s⟩
 |[],_,_,_,_,_,_,_,_,_,_,_,.cons _ _,e,_=>by simp at e
 |_::_,_,_,_,_,_,_,_,_,_,_,_,.nil,e,_=>by simp at e
 |i::is,_,_,_,_,_,_,_,_,_,_,s,.cons h hs,e,k=>by
  rw[lI]at e;exact⟨_,_,rfl,sW (s.bind h) (hs.mono Ea) e k⟩
theorem nE:∀ {is:List Nat}{ds:List D}{ρ ρ':Env},gz is ds ρ=some ρ'->ds.length=is.length
 |[],[],_,_,_=>rfl
 |_::_,_::_,_,_,e=>by rw[lI]at e;simp[nE e]
 |[],_::_,_,_,e=>by simp at e
 |_::_,[],_,_,e=>by simp at e
def Np {K:Frag}{is:List Nat}:GI K (Jk is) (Kd K is.length (pR is)):=by
 intro B0 H0 N H σ ρ ρ' v d Q s h e k;cases h with
 |@tup a vs ds M hl=>
  have G:gz is ds ρ=some ρ':=e;exact⟨a,vs,rfl,bz (bY.trans s.ext.nh) M,by rw[hl.length];exact nE G,sW s hl G λg s'=>k g H ⟨N,s'⟩⟩
 |_=>cases e
theorem sX {K:Frag}{n:Nat}{B H:Hp}{G:Env}{Q:St->Hp->Prop}(cl:∀i,i<n->G[i]? = some none):∀ {is:List Nat}{vs:List V}{ds:List D}{σ:St}{ρ M:Env},(∀i∈is,i<n)->fP K B σ ρ->IsL K B vs ds->gz is ds ρ=some M->ρ.length=σ.length->ρ.length=G.length ->
  (∀g,fP K B g M->(∀T,fP K T σ G->fP K T g G)->G.length=g.length->Q g H)->pR is vs σ H Q
 |[],_,_,_,_,_,_,rp,.nil,e,U,l2,k=>by
  rw[sV]at e;cases e;exact⟨rfl,k _ rp (λ_ z=>z) (by omega)⟩
 |[],_,_,_,_,_,_,_,.cons _ _,e,_,_,_=>by simp at e
 |_::_,_,_,_,_,_,_,_,.nil,e,_,_,_=>by simp at e
 |i::is,_,_,σ,ρ,_,hn,rp,.cons (v:=v) h hs,e,U,l2,k=>by
  rw[lI]at e;have hi:=hn i mX;have O:i<σ.length:=by
   have:=(vV (cl i hi)).1;omega
  refine⟨_,_,rfl,sX cl (λj hj=>hn j (mZ _ hj)) ⟨rp.tb,λj d b q=>?_⟩ hs e (by simpa using U) (by simpa using l2) λg r1 r2 l=>k g r1 (λT z=>r2 T ⟨z.tb,λj d b q=>?_⟩) l⟩
  ·rcases cr q with⟨rfl,pp⟩|⟨ne,pp⟩
   ·cases pp
    exact⟨v,by simp[O],h⟩
   ·obtain⟨w,h1,h2⟩:=rp.at' j d b pp;exact⟨w,by rw[vB ne];exact h1,h2⟩
  ·obtain⟨w,h1,h2⟩:=z.at' j d b q;have ne:i≠j:=λz=>by subst z;rw[cl i hi]at q;cases q
   exact⟨w,by rw[vB ne];exact h1,h2⟩
def Jl {K:Frag}{n:Nat}{is:List Nat}(hn:∀i∈is,i<n):Jb K n (Jk is) (Kd K is.length (pR is)):=by
 intro B H σ ρ g v d Q cl rep s h e hl k;cases h with
 |@tup a vs ds M hv=>
  have G:gz is ds ρ=some g:=e;exact⟨a,vs,rfl,bz s M,by rw[hv.length];exact nE G,sX cl hn rep hv G hl rfl k⟩
 |_=>cases e
end
section
variable {prog:Program}{w:World}{A:Around}{E:Value->Shared->Prop}{s:Shared}
def z4 (st:s.heap.IsTupleIter it l i)(g:s.heap.IsTuple l items)(hv:items[i]? = some v)
  (k:∀h',h'.IsTupleIter it l (i+1)->Heap.SameBut it s.heap h'->Q v { s with heap:=h' }):wpAny (model prog w) A (Builtin.SmallTypes.nextOf (.ref it)) Q E s:=by
 obtain⟨O,g1,G,d1⟩:=id st;obtain⟨T,M,_,n2,d2⟩:=g;unfold Builtin.SmallTypes.nextOf;refine wX (wpAny_callSpecial?_slot (name:=Str.ofString "__next__") st.typeIs PySem.F.slot_tuple_iterator_next (wpAny_call_entry PySem.F.slot_tuple_iterator_next st.typeIs PySem.F.entry_tuple_iterator_next ?_ (PySem.F.args_tuple_iterator_next_1 _)));show wpAny _ _ (field (.ref it) 0>>=_) _ _ _;refine wX (wpAny_field g1 d1 (x:=.ref l) rfl ?_);show wpAny _ _ (if(Value.ref l == Value.none)=true then _ else _) _ _ _;rw[if_neg (λz=>uX z:¬((Value.ref l == Value.none)=true))];show wpAny _ _ (field (.ref it) 1>>=_) _ _ _;refine wX (wpAny_field g1 d1 (x:=.int i 0) rfl ?_);show wpAny _ _ (seqItems? (.ref l)>>=_) _ _ _;refine wX (wpAny_seqItems M d2 ?_);simp only[hv,Int.toNat_natCast];refine wX (wpAny_setField g1 d1 (by simp) (wY ⟨v,rfl,wY (k _ ?_ (vW ..))⟩));exact⟨_,Heap.get?_update_self _ g1 (Obj.isFreed_of_fields (Obj.data_mapFields d1 _)),(Obj.cls_mapFields ..).trans G,by rw[Obj.data_mapFields d1];simp[rawInt]⟩
def Cn (g:A.handled=none)(st:s.heap.IsTupleIter it l i)(G:s.heap.IsTuple l items)(hv:items[i]? = none)
  (k:∀h' x,Heap.ExtBut it s.heap h'->(∃o,h'.get? x=some o/\o.cls=.type "StopIteration")->E (.ref x) { s with heap:=h' }):wpAny (model prog w) A (Builtin.SmallTypes.nextOf (.ref it)) Q E s:=by
 obtain⟨O,g1,T,d1⟩:=id st;obtain⟨U,M,_,n2,d2⟩:=G;unfold Builtin.SmallTypes.nextOf;refine wX (wpAny_callSpecial?_slot (name:=Str.ofString "__next__") st.typeIs PySem.F.slot_tuple_iterator_next (wpAny_call_entry PySem.F.slot_tuple_iterator_next st.typeIs PySem.F.entry_tuple_iterator_next ?_ (PySem.F.args_tuple_iterator_next_1 _)));show wpAny _ _ (field (.ref it) 0>>=_) _ _ _;refine wX (wpAny_field g1 d1 (x:=.ref l) rfl ?_);show wpAny _ _ (if(Value.ref l == Value.none)=true then _ else _) _ _ _;rw[if_neg (λz=>uX z:¬((Value.ref l == Value.none)=true))];show wpAny _ _ (field (.ref it) 1>>=_) _ _ _;refine wX (wpAny_field g1 d1 (x:=.int i 0) rfl ?_);show wpAny _ _ (seqItems? (.ref l)>>=_) _ _ _;refine wX (wpAny_seqItems M d2 ?_);simp only[hv,Int.toNat_natCast];refine wX (wpAny_rule (wX (wpAny_setField g1 d1 (by simp) ?_)));show wpAny _ _ (newExc (.type "StopIteration") []>>=_) _ _ _;refine wX ?_;simp only[newTuple,newExc];refine wX (wpAny_newObj_type ?_ (by size_fits));refine wX (m:=firstArgMember _ _) (wpAny_of_eq (a:=Value.none) (by first|(simp only[firstArgMember];rfl)|rfl) ?_);refine wpAny_newObj_type ?_ (by size_fits);simp only[raiseNew];refine wX (wpAny_handled ?_);first|rw[g]|rw[show A.in1.handled=none from g]
 exact wX (wY (wpAny_throw (k _ _ (((vW ..).extBut.push _).push _) ⟨_,vY _ rfl,rfl⟩)))
end
def AA:Bool->Heap->Addr->Addr->Nat->Prop
 |true,h,it,a,i=>h.IsListIter it a i
 |false,h,it,a,i=>h.IsTupleIter it a i
def yW:Bool->Heap->Addr->Array Value->Prop
 |true,h,a,items=>h.IsList a items
 |false,h,a,items=>h.IsTuple a items
def z5 (k:Bool)(K:Frag)(H:Hp)(a:Addr)(xs:List V):Prop:=match k with|true=>gn K H a xs|false=>ja K H a xs
def AA.ob (st:AA k h it a i):∃o,h.get? it=some o/\∀v,o.data≠.cell v:=by
 cases k<;>(obtain⟨o,g,_,d⟩:=st;exact⟨o,g,λv z=>by rw[d]at z;cases z⟩)
def AA.upon (st:AA k h it a i)(g:∀o,h.get? it=some o->h'.get? it=some o):AA k h' it a i:=by
 cases k<;>(obtain⟨o,e,r⟩:=st;exact⟨o,g o e,r⟩)
def yW.upon (st:yW k h a items)(g:∀o,h.get? a=some o->h'.get? a=some o):yW k h' a items:=by
 cases k<;>(obtain⟨o,e,r⟩:=st;exact⟨o,g o e,r⟩)
def yW.lt (st:yW k h a items):a<h.objs.size:=by
 cases k<;>(obtain⟨o,e,r⟩:=st;exact vX e)
def z5.same {k:Bool}{K:Frag}{H H':Hp}{a:Addr}{xs:List V}(h:z5 k K H a xs)(e:bf H H'):z5 k K H' a xs:=by
 cases k
 ·exact bz e h
 ·exact e.seq h
def z5.vals (I:Inv X af σ H s)(h:z5 k X.K H a xs):∃its:List Value,be xs its/\yW k s.heap a its.toArray/\xs.length<=sizeLine:=by
 cases k
 ·exact I.tuple h
 ·obtain⟨its,r,p,z⟩:=I.list h;exact⟨its,r,p.isList,z⟩
def z5.inj (I:Inv X af σ H s)(h:z5 k X.K H a xs)(h':z5 k X.K H a ys):xs=ys:=by
 cases k
 ·exact I.tuple_inj h h'
 ·exact I.list_inj h h'
section
variable {prog:Program}{w:World}{A:Around}{E:Value->Shared->Prop}{s:Shared}
def Co (st:AA k s.heap it l i)(g:yW k s.heap l items)(hv:items[i]? = some v)
  (q:∀h',AA k h' it l (i+1)->Heap.SameBut it s.heap h'->Q v { s with heap:=h' }):wpAny (model prog w) A (Builtin.SmallTypes.nextOf (.ref it)) Q E s:=by
 cases k
 ·exact z4 st g hv q
 ·exact wpAny_nextOf_list_item st g hv q
def xo (g:A.handled=none)(st:AA k s.heap it l i)(G:yW k s.heap l items)(hv:items[i]? = none)
  (q:∀h' x,Heap.ExtBut it s.heap h'->(∃o,h'.get? x=some o/\o.cls=.type "StopIteration")->E (.ref x) { s with heap:=h' }):wpAny (model prog w) A (Builtin.SmallTypes.nextOf (.ref it)) Q E s:=by
 cases k
 ·exact Cn g st G hv q
 ·exact wpAny_nextOf_list_end g st G hv q
end
noncomputable def KS (k:Bool)(l:Addr):Obj:={ cls:=.type (if k=true then "list_iterator" else "tuple_iterator"),data:=.fields #[.ref l,.int 0 0] }
def vg (g:yW k s.heap l items)
  (q:Q (.ref s.heap.objs.size) { s with heap:=s.heap.push (KS k l) }):wpAny (model prog w) A (pyIter (.ref l)) Q E s:=by
 cases k
 ·exact wpAny_pyIter_tuple g q
 ·exact wpAny_pyIter_list g q
def yW.push (st:yW k h a items)(o:Obj):yW k (h.push o) a items:=st.upon λ_ e=>vZ _ e
def mv {X:Cx}{af:List (Addr×Obj)}{σ:St}{H:Hp}{s:Shared}{h':Heap}{t':Nat}{ch:List Addr}(I:Inv X af σ H s)(f:∀b∈ch,nv X af H b)(k:∀b o,b∉ch->s.heap.get? b=some o->h'.get? b=some o):Inv X af σ H { s with heap:=h',toks:=t' }:=by
 have g:∀b u,H b=some u->b∉ch:=λb u e z=>by rw[(f b z).1]at e;cases e
 refine I.step (g':=s.gens) (d':=s.drawn) (ch:=ch) (λb hb=>?_) (λb o _ _ hc e _=>k b o hc e) (λb o _ _ hc e _=>⟨o.slots,k b o hc e⟩) (λ_ _ _ _ n=>n)
  (λb o hc e=>⟨o,k b o hc e⟩) (λ_ _ e=>e) (λ_ _ _ e=>e) (λ_ _ e=>e) (λm hm=>?_) (λb u e=>?_) I.bare
 ·obtain⟨_,f1,_,f3,f4,f5⟩:=f b hb;exact⟨f3,f1,f4,f5⟩
 ·obtain⟨o,es,G,ho,r⟩:=hm;exact⟨o,es,G,k _ o (λz=>(f _ z).2.1 rfl) ho,r⟩
 ·refine(I.hok b u e).stay (λc v hc q=>k c v ?_ q) (λ_ q=>q) (λ_ _ q=>q) λ_ _ _ q=>q;rcases hc with z|z
  ·rw[z];exact g b u e
  ·exact g c _ z
def Eb {X:Cx}{af:List (Addr×Obj)}{σ:St}{H:Hp}{s:Shared}{h':Heap}{t':Nat}{ch:List Addr}{a:Addr}{ob:HO}(I:Inv X af σ H s)(f:∀b∈ch,nv X af H b)(k:∀b o,b∉ch->s.heap.get? b=some o->h'.get? b=some o)(ha:s.heap.objs.size<=a)
  (new:cw X.prog X.w (upd H a ob) h' a ob):Inv X af σ (upd H a ob) { s with heap:=h',toks:=t' }:=by
 have hn:H a=none:=I.hok.fresh ha;have g:∀b u,H b=some u->b∉ch:=λb u e z=>by rw[(f b z).1]at e;cases e
 have G:∀b o,s.heap.get? b=some o->b≠a:=λb o e=>vS (vQ (vX e) ha);refine I.step (g':=s.gens) (d':=s.drawn) (ch:=ch) (λb hb=>?_) (λb o _ _ hc e _=>k b o hc e) (λb o _ _ hc e _=>⟨o.slots,k b o hc e⟩) (λb o _ e n=>by rw[aM (G b o e)];exact n)
  (λb o hc e=>⟨o,k b o hc e⟩) (λb xs e=>by rw[aM (bg e hn)];exact e) (λb o u e=>by rw[aM (bg e hn)];exact e) (λb ps e=>by rw[aM (bg e hn)];exact e) (λm hm=>?_) (λb u e=>?_) I.bare
 ·obtain⟨_,f1,_,f3,f4,f5⟩:=f b hb;exact⟨f3,f1,f4,f5⟩
 ·obtain⟨o,es,M,ho,r⟩:=hm;exact⟨o,es,M,k _ o (λz=>(f _ z).2.1 rfl) ho,r⟩
 ·by_cases hb:b=a
  ·subst hb;rw[aH]at e;cases e;exact new
  ·rw[aM hb]at e;refine(I.hok b u e).stay (λc v hc q=>k c v ?_ q) (λc q=>?_) (λc xs q=>?_) λc o xs q=>?_
   ·rcases hc with z|z
    ·rw[z];exact g b u e
    ·exact g c _ z
   ·rw[aM (bg q hn)];exact q
   ·rw[aM (bg q hn)];exact q
   ·rw[aM (bg q hn)];exact q
section
variable {X:Cx}{a b e:Expr}{pos:Pos}{p:Pos}
def Nq:bootBuiltins "zip" = some (.type "zip"):=by decide +kernel
noncomputable def z6 (xs ys:List D):List D:=List.zipWith (λx y=>.tup [x,y]) xs ys
@[simp] def Qe (fa g:FE):FA:=λρ=>(fa ρ).bind λx=>(g ρ).bind λy=>(hV x.1).bind λxs=>(hV y.1).map λys=>z6 xs ys
def Nr {K:Frag}{B:Hp}{v:V}{d:D}{ds:List D}(h:Is K B v d)(e:hV d=some ds):∃k a vs,v=.ref a/\z5 k K B a vs/\IsL K B vs ds:=by
 cases h with
 |tup g hl=>cases e;exact⟨false,_,_,rfl,g,hl⟩
 |lst g hl=>cases e;exact⟨true,_,_,rfl,g,hl⟩
 |_=>cases e
end
noncomputable def unown1 (ρ:Env)(i:Nat):Env:=match ρ[i]? with
 |some (some (d,true))=>ρ.set i (some (d,false))
 |_=>ρ
def eP.unown1 {K:Frag}{B0 H0 N H:Hp}{σ:St}{ρ:Env}(s:eP K B0 H0 N H σ ρ)(i:Nat):eP K B0 H0 N H σ (unown1 ρ i):=by
 unfold DL.unown1;split
 ·rename_i d hd;obtain⟨a,ob,h1,h2,h3,h4⟩:=s.ow i d hd;have get:∀ {j:Nat}{e:D}{b:Bool},(ρ.set i (some (d,false)))[j]? = some (some (e,b))->(i=j/\e=d/\b=false)∨(i≠j/\ρ[j]? = some (some (e,b))):=λq=>by
   rcases cr q with⟨z,p⟩|⟨z,p⟩
   ·cases p;exact .inl ⟨z,rfl,rfl⟩
   ·exact .inr ⟨z,p⟩
  have o:∀c,own σ (ρ.set i (some (d,false))) c->own σ ρ c/\c≠a:=λc ⟨j,e,M,G⟩=>by
   rcases get M with⟨_,_,z⟩|⟨ne,q⟩
   ·cases z
   ·exact⟨⟨j,e,q,G⟩,λz=>by subst z;exact ne (s.inj i j _ _ _ hd q h1 G)⟩
  have c:bf (eG N (own σ ρ)) (eG N (own σ (ρ.set i (some (d,false))))):=eS λb u e q=>⟨e,λz=>q (o b z).1⟩;have O:¬own σ (ρ.set i (some (d,false))) a:=λz=>(o a z).2 rfl;refine⟨s.bh,s.tb,s.ext,by rw[List.length_set];exact s.len,λj e q=>?_,λj e q=>?_,λj k b e f q g T U=>?_⟩
  ·rcases get q with⟨rfl,rfl,_⟩|⟨_,q⟩
   ·exact⟨_,h1,(h4.mono c).is (by rw[dc O];exact h2)⟩
   ·obtain⟨v,k1,k2⟩:=s.sh j e q;exact⟨v,k1,k2.mono c⟩
  ·rcases get q with⟨_,_,z⟩|⟨_,q⟩
   ·cases z
   ·obtain⟨a',o',k1,k2,k3,k4⟩:=s.ow j e q;exact⟨a',o',k1,k2,k3,k4.mono c⟩
  ·rcases get q with⟨_,_,z⟩|⟨_,q⟩
   ·cases z
   ·rcases get g with⟨_,_,z⟩|⟨_,g⟩
    ·cases z
    ·exact s.inj j k b e f q g T U
 ·exact s
@[simp] noncomputable def Qf (is:List Nat)(g:FS):FS:=λρ=>g (is.foldl unown1 ρ)
theorem eP.unowns {K:Frag}{B0 H0 N H:Hp}{σ:St}:∀(is:List Nat){ρ:Env},eP K B0 H0 N H σ ρ->eP K B0 H0 N H σ (is.foldl DL.unown1 ρ)
 |[],_,s=>s
 |i::is,_,s=>eP.unowns is (s.unown1 i)
def KU {K:Frag}{is:List Nat}{g:FS}{E:Ends}{σ:St}{H:Hp}(q:nq K (Qf is g) E σ H):nq K g E σ H:=by
 obtain⟨B0,H0,ρ,r,⟨N,s⟩,e,p⟩:=q;exact⟨B0,H0,_,r,⟨N,s.unowns is⟩,e,p⟩
def Nt {X:Cx}{st:Stmt}{g:FS}(is:List Nat)(h:JS X st g):JS X st (Qf is g):=PS.to h λ_ _ _ q=>KU q
@[simp] noncomputable def Jm:FS:=λρ=>some (.ct ρ)
@[simp] noncomputable def Qg:FS:=λρ=>some (.bk ρ)
@[simp] noncomputable def Qh:FS:=λ_=>none
section
variable {X:Cx}{pos:Pos}
def Hf:JS X (.Continue pos) Jm:=PS.to wG λE σ H q=>by
 obtain⟨B0,H0,ρ,r,s,e,p⟩:=q;cases e
 exact p σ H s
end
inductive CRows (K:Frag)(P:Params):List DictEntry->List (Str×D)->Prop where
 |nil:CRows K P [] []
 |tup {x:Str}{t:Tok}{h:Int}{a:Addr}{its:Array Value}{n:Nat}{oR:Array (Option Value)}{ds:List D}{r:List DictEntry}{aQ:List (Str×D)}(hh:h=PyData.keyHash P x)
   (l:K.lookup a=some ⟨.type "tuple",none,.seq its n,oR⟩) (f:(decide (its.size<=1000) && j4 its.toList ds)=true) (tl:CRows K P r aQ):CRows K P (⟨h,.str x t,.ref a⟩::r) ((x,.tup ds)::aQ)
 |flat {x:Str}{t:Tok}{h:Int}{u:Value}{d:D}{r:List DictEntry}{aQ:List (Str×D)}(hh:h=PyData.keyHash P x) (f:ve u d=true) (tl:CRows K P r aQ):CRows K P (⟨h,.str x t,u⟩::r) ((x,d)::aQ)
theorem CRows.lit {K:Frag}{P:Params}:∀ {es:List DictEntry}{aQ:List (Str×D)},CRows K P es aQ->PySem.W.KeysLit P es
 |_,_,.nil=>trivial
 |_,_,.tup hh _ _ tl=>⟨⟨_,_,rfl,hh⟩,tl.lit⟩
 |_,_,.flat hh _ tl=>⟨⟨_,_,rfl,hh⟩,tl.lit⟩
theorem CRows.find {K:Frag}{P:Params}(y:Str):∀ {es:List DictEntry}{aQ:List (Str×D)},CRows K P es aQ->match aQ.lookup y with
  |none=>es.find? (λe=>Value.isStrOf y e.key)=none
  |some d=>∃e v,es.find? (λe=>Value.isStrOf y e.key)=some e/\bd v e.val/\∀B,Is K B v d
 |_,_,.nil=>rfl
 |_,_,.tup (x:=x) (t:=t) (a:=a) (ds:=ds) hh l f tl=>by
  by_cases e:y=x
  ·subst e;rw[List.lookup_cons_self];rw[vC]at f;obtain⟨vs,r,i⟩:=j5 (K:=K) f.2;exact⟨_,.ref a,List.find?_cons_of_pos (by simp[Value.isStrOf]),rfl,λB=>.tup (.inr ⟨_,_,_,l,rfl,rfl,Nat.le_of_lt (Nat.lt_of_le_of_lt (of_decide_eq_true f.1) (by decide)),r⟩) (i B)⟩
  ·have g:=tl.find y;rw[List.lookup_cons,beq_eq_false_iff_ne.mpr e];have G:Value.isStrOf y (Value.str x t)=false:=by
    rw[Bool.eq_false_iff];intro z;obtain⟨t',q⟩:=Value.isStrOf_shape z;injection q with M;exact e M.symm
   simp only[List.find?_cons,G];exact g
 |_,_,.flat (x:=x) (t:=t) (u:=u) (d:=d) hh f tl=>by
  by_cases e:y=x
  ·subst e;rw[List.lookup_cons_self];obtain⟨v,T,_⟩:=kU (K:=K) (B:=λ_=>none) f;refine⟨_,v,List.find?_cons_of_pos (by simp[Value.isStrOf]),T,λB=>?_⟩;obtain⟨v',O,i'⟩:=kU (K:=K) (B:=B) f;have:v'=v:=by have U:=T.abs;rw[O.abs]at U;exact vK U
   subst this;exact i'
  ·have g:=tl.find y;rw[List.lookup_cons,beq_eq_false_iff_ne.mpr e];have G:Value.isStrOf y (Value.str x t)=false:=by
    rw[Bool.eq_false_iff];intro z;obtain⟨t',q⟩:=Value.isStrOf_shape z;injection q with M;exact e M.symm
   simp only[List.find?_cons,G];exact g
def sY (K:Frag)(P:Params)(a:Addr)(aQ:List (Str×D)):Prop:=∃es n,K.lookup a=some ⟨.type "dict",none,.dict es n,#[]⟩/\CRows K P es.toList aQ/\(a == sysModules)=false
def const_dict {K:Frag}{P:Params}{y:Str}{a:Addr}{es:Array DictEntry}{n:Nat}{aQ:List (Str×D)}(e:nsIn K mainGlobals y=some (some (.ref a)))(l:K.lookup a=some ⟨.type "dict",none,.dict es n,#[]⟩)(r:CRows K P es.toList aQ)(s:(a == sysModules)=false):
  ∃a,nsIn K mainGlobals y=some (some (.ref a))/\sY K P a aQ:=⟨a,e,es,n,l,r,s⟩
section
variable {X:Cx}{a b e:Expr}{pos:Pos}{x:Str}{p:Pos}
def sY.map {af:List (Addr×Obj)}{σ:St}{H:Hp}{s:Shared}{d:Addr}{aQ:List (Str×D)}(I:Inv X af σ H s)(h:sY X.K X.w.params d aQ):∃f:Str->Option Value,s.heap.MapOf (strKind X.prog X.w) d f/\(d == sysModules)=false /\
  ∀y,match aQ.lookup y with|none=>f y=none|some dd=>∃u v,f y=some u/\bd v u/\∀B,Is X.K B v dd:=by
 obtain⟨es,n,l,r,G⟩:=h;refine⟨_,PySem.W.mapOf_K I.kIn l r.lit,G,λy=>?_⟩;have:=r.find y;have g:findBy Value.isStrOf es y=(es.toList.find? λe=>Value.isStrOf y e.key).map (·.val):=by
  unfold findBy;obtain⟨es⟩:=es;rw[List.find?_toArray]
 cases hl:aQ.lookup y with
 |none=>rw[hl]at this;dsimp only at this ⊢;rw[g,this];rfl
 |some dd=>
  rw[hl]at this;obtain⟨en,v,M,e2,O⟩:=this;exact⟨en.val,v,by rw[g,M];rfl,e2,O⟩
@[simp] noncomputable def Uh (aQ:List (Str×D)):D->OB
 |.str y=>(aQ.lookup y).map λd=>(d,false)
 |_=>none
@[simp] noncomputable def WQ (aQ:List (Str×D)):D->OB
 |.str y=>some (.bl (aQ.lookup y).isSome,false)
 |_=>none
@[simp] noncomputable def Qi (aQ:List (Str×D)):D->OB
 |.str y=>some (.bl (!(aQ.lookup y).isSome),false)
 |_=>none
@[simp] noncomputable def j6:List D->OB
 |[.lst ds]=>some (.lst ds,true)
 |[.tup ds]=>some (.lst ds,true)
 |_=>none
@[simp] noncomputable def hZ:List D->OB
 |[.lst ds]=>some (.tup ds,false)
 |[.tup ds]=>some (.tup ds,false)
 |_=>none
def KW:cq X (.type "list") (Dc X.K j6):=by
 refine cq.to u5 λxs H Q q=>?_;obtain⟨B,ds,d,bb,M,i,g,q⟩:=q;cases i with
 |nil=>simp[j6]at g
 |cons O T=>
  cases T with
  |cons _ _=>cases O<;>simp[j6]at g
  |nil=>
   cases O<;>try (simp[j6]at g;done)
   ·rename_i U vs es h hl;simp only[j6]at g;cases g
    refine⟨_,_,rfl,.inr (bz M h),λl hp=>?_⟩;have G:=Ext.laid (o:=.lst vs) M hp;exact q _ _ _ G (.lst (gn.of aH) (hl.mono G.bn)) λ_=>⟨_,_,_,rfl,rfl,hp,aH,hl.mono G.bn⟩
   ·rename_i U vs es h hl;simp only[j6]at g;cases g
    refine⟨_,_,rfl,.inl (M.seq h),λl hp=>?_⟩;have G:=Ext.laid (o:=.lst vs) M hp;exact q _ _ _ G (.lst (gn.of aH) (hl.mono G.bn)) λ_=>⟨_,_,_,rfl,rfl,hp,aH,hl.mono G.bn⟩
def Hg:cq X (.type "tuple") (Dc X.K hZ):=by
 refine cq.to rQ λxs H Q q=>?_;obtain⟨B,ds,d,bb,G,i,g,q⟩:=q;cases i with
 |nil=>simp[hZ]at g
 |cons M T=>
  cases T with
  |cons _ _=>cases M<;>simp[hZ]at g
  |nil=>
   cases M<;>try (simp[hZ]at g;done)
   ·rename_i U vs es h hl;simp only[hZ]at g;cases g
    exact⟨_,_,rfl,.inr ⟨bz G h,q.one G (.tup h hl)⟩⟩
   ·rename_i U vs es h hl;simp only[hZ]at g;cases g
    refine⟨_,_,rfl,.inl ⟨G.seq h,λl hp=>?_⟩⟩;have O:=Ext.laid (o:=.tup vs) G hp;exact q _ _ _ O (.tup (ja.of aH) (hl.mono O.bn)) (by simp)
end
section
variable {X:Cx}{a b e:Expr}{pos:Pos}{x:Str}{p:Pos}
@[simp] def RU (is:List Nat)(f:FE):FS:=λρ=>(f ρ).bind λx=>(hV x.1).bind λds=>(gz is ds (if bF ds=true then ρ else unown ρ)).map .nx
@[simp] def Cp (i:Nat)(g G:FE):FS:=λρ=>match ρ[i]? with
 |some (some (.lst ds,true))=>(G ρ).bind λv=>(g ρ).bind λk=>match k.1 with
  |.int j=>(yS ds.length j).bind λn=>if bj v.1=true then some (.nx (ρ.set i (some (.lst (ds.set n v.1),true))))else none
  |_=>none
 |_=>none
def Ec (hv:JE X e fv)(hk:JE X k fk)(hN:X.N[i]? = some y:=by rfl)(G:Dh X.env.scope y:=by first|exact Or.inl rfl|exact Or.inr (Or.inl rfl)|exact Or.inr (Or.inr rfl))(hd:(y == ("__debug__" : Str))=false:=by decide)
  (O:(y == ("__classdict__" : Str))=false:=by decide)
  (ha:∀v,assign (.Subscript (.Name y py) k pt) X.env v=(do
   let M ←holding [v] (eval (.Name y py) X.env)
   let iv ←holding [v,M] (eval k X.env)
   standAt pt
   holding [v,M,iv] (setItem M iv v)
   release [v,M,iv] []):=by intro _;rfl)
  (hs:swapsWithSole [.Subscript (.Name y py) k pt] e pos.line X.env=pure false:=by rfl) (hw:swappedStores [.Subscript (.Name y py) k pt] e X.env=pure none:=by rfl)
  (h1:(assignEach [.Subscript (.Name y py) k pt] X.env).map (·.2)=[assign (.Subscript (.Name y py) k pt) X.env]:=by rfl):JS X (.Assign [.Subscript (.Name y py) k pt] e pos) (Cp i fk fv):=by
 refine PS.to (Kf hv (Ke (lF hN G hd O) hk Dx ha) hs hw h1) λE σ H q=>?_;obtain⟨B0,H0,ρ,r,⟨N,s⟩,g,p⟩:=q;unfold Cp at g;split at g
 ·rename_i ds ei;obtain⟨v,ev,g⟩:=oX g;obtain⟨kk,ek,g⟩:=oX g;obtain⟨kd,kb⟩:=kk;cases kd with
  |int j=>
   dsimp only at g;obtain⟨n,en,g⟩:=oX g;split at g
   ·rename_i hn;cases g
    refine⟨N,ρ,v.1,v.2,s.ext.nh,s.rep,ev,λv1 H1 N1 x1 i1 _=>?_⟩;have s1:=s.grow x1;obtain⟨l,vs,p9,z,h1,h2,h3,h4⟩:=s1.owL i _ ei;cases z
    refine⟨_,h1,N1,ρ,_,_,s1.ext.nh,s1.rep,ek,λkv H2 N2 U i2 _=>?_⟩;cases i2
    have s2:=s1.grow U;obtain⟨l',T,p9,z,k1,k2,k3,k4⟩:=s2.owL i _ ei;cases z
    rw[h1]at k1;cases k1;exact⟨l,T,j,n,rfl,rfl,s2.ext.nh _ _ k2,by rw[k4.length];exact en,p σ _ ⟨_,s2.write ei h1 (IsL.set (s2.flat (i1.mono U.bn) hn) n k4)⟩⟩
   ·cases g
  |_=>cases g
 ·cases g
@[simp] noncomputable def Ui (i:Nat)(g:List D->Option (List D)):FS:=λρ=>match ρ[i]? with
 |some (some (.lst ds,true))=>(g ds).map λes=>.nx (ρ.set i (some (.lst es,true)))
 |_=>none
@[simp] def Uj (i:Nat)(f:FE):FS:=λρ=>match ρ[i]? with
 |some (some (.lst ds,true))=>(f ρ).bind λx=>match x.1 with
  |.lst es=>if x.2=true/\bF es=true/\ds.length+es.length<=sizeLine then some (.nx (ρ.set i (some (.lst (ds++es),true))))else none
  |_=>none
 |_=>none
@[simp] noncomputable def z7:List D->OB
 |[.int i]=>some (.int i,false)
 |[.bl b]=>some (.int (if b then 1 else 0),false)
 |_=>none
def Nu:cq X (.type "int") (Dc X.K z7):=by
 refine cq.to BU λxs H Q q=>?_;obtain⟨B,ds,d,bb,G,i,g,q⟩:=q;cases i with
 |nil=>simp[z7]at g
 |cons M O=>
  cases O with
  |cons _ _=>cases M<;>simp[z7]at g
  |nil=>
   cases M<;>try (simp[z7]at g;done)
   ·simp only[z7]at g;cases g
    exact .inr ⟨_,rfl,q.one G (.int _)⟩
   ·simp only[z7]at g;cases g
    exact .inl ⟨_,rfl,q.one G (.int _)⟩
end
open AutoSeq1 (wpAny_loadPart')
set_option maxRecDepth 100000
noncomputable def RV (k:Bool):String:=if k=true then "list" else "tuple"
def xp (k:Bool)(l:Addr)(items:Array Value)(n:Nat)(G:Option Addr)(sl:Array (Option Value)):
  Meets (Builtin.«enumerate.__new__» ⟨[.type "enumerate",.ref l],[]⟩) (λ_ R s=>s.heap.get? l=some { cls:=.type (RV k),dict:=G,data:=.seq items n,slots:=sl } /\
   R (.ok (.ret (.ref (s.heap.push (KS k l)).objs.size))) { s with heap:=(s.heap.push (KS k l)).push { cls:=.type "enumerate",data:=.fields #[.none,.bool false,.ref s.heap.objs.size,rawInt 0,.none,.none] } }) :=
 .of_wp λprog w A R s hs=>by
  obtain⟨hp,g,d,tk,os⟩:=s;obtain⟨hl,hs⟩:=hs;have O:=sub_enumerate;have M:yW k (Shared.heap ⟨hp,g,d,tk,os⟩) l items:=by cases k<;>exact⟨_,hl,rfl,n,rfl⟩
  wp_walk using wpAny_loadPart' hl;refine wpAny_stack_any λst=>wY ?_;split
  ·rename_i c _ _ _ _ _;cases (c == Value.type "enumerate")
   ·wp_walk using wpAny_loadPart' hl,vg M;exact⟨_,rfl,hs⟩
   ·wp_walk using wpAny_loadPart' hl,vg M;exact⟨_,rfl,hs⟩
  ·wp_walk using wpAny_loadPart' hl,vg M;exact⟨_,rfl,hs⟩
section
variable {prog:Program}{w:World}{A:Around}{E:Value->Shared->Prop}{s:Shared}
def Ed (M:yW k s.heap l items)
  (q:∀h',IsEnum h' (s.heap.objs.size+1) s.heap.objs.size 0 .none->AA k h' s.heap.objs.size l 0->(∀b o,s.heap.get? b=some o->h'.get? b=some o)->Q (.ref (s.heap.objs.size+1)) { s with heap:=h' }):
  wpAny (model prog w) A (call (.type "enumerate") [.ref l]) Q E s:=by
 have hh:∃(g:Option Addr)(sl:Array (Option Value))(n:Nat),s.heap.get? l=some { cls:=.type (RV k),dict:=g,data:=.seq items n,slots:=sl }:=by
  cases k<;>(obtain⟨⟨c,g,dt,sl⟩,hl,hc,n,hd⟩:=M;dsimp only at hc hd;subst hc;subst hd;exact⟨g,sl,n,hl⟩)
 obtain⟨g,sl,n,hl⟩:=hh;refine callType_new PySem.F.called_enumerate (by decide) (PySem.F.typeCall_enumerate_1 _) (PySem.F.newCall_enumerate_1 _) (λobj=>PySem.F.args_object_init_2 obj _) PySem.F.entry_enumerate_new (xp k l items n g sl) ⟨hl,?_⟩;have n1:(s.heap.push (KS k l)).objs.size=s.heap.objs.size+1:=Heap.size_push ..;have G:((s.heap.push (KS k l)).push { cls:=.type "enumerate",data:=.fields #[.none,.bool false,.ref s.heap.objs.size,rawInt 0,.none,.none] }).get? (s.heap.push (KS k l)).objs.size=some _:=vY _ rfl;have g1:((s.heap.push (KS k l)).push { cls:=.type "enumerate",data:=.fields #[.none,.bool false,.ref s.heap.objs.size,rawInt 0,.none,.none] }).get? s.heap.objs.size=some _:=vZ _ (vY _ (by cases k<;>rfl))
 rw[n1]at G;show _/\_;rw[n1];refine⟨⟨_,G,rfl⟩,q _ G ?_ λb o e=>vZ _ (vZ _ e)⟩;cases k<;>exact⟨_,g1,rfl,rfl⟩
def KY (T:A.handled=none)(it l:Addr)(g:l≠it)(items:Array Value):Draws prog w A it [it,l] items.size (λi v=>items[i]? = some v) (λi h=>AA k h it l i/\yW k h l items) where
 live:=λi h st=>let ⟨o,e,_⟩:=st.1.ob;⟨o,e⟩
 frame:=λi h h' st M=>⟨st.1.upon λo e=>M it (by simp) o e,st.2.upon λo e=>M l (by simp) o e⟩
 item:=λi s Q E hi st q=>Co st.1 st.2 (v:=items[i]) (by simp[hi]) λh' G O=>q _ h' s.toks (by simp[hi]) ⟨G,st.2.upon λo e=>O.extBut _ _ g e⟩ O
 done:=λs Q E st q=>xo T st.1 st.2 (by simp) q
def KZ (G:A.handled=none)(it l:Addr)(items:Array Value)(n:Nat)(hn:items[n]? = none):Draws prog w A it [it,l] n (λ_ _=>True) (λi h=>(AA k h it l i/\yW k h l items)/\i=n) where
 live:=λi h st=>let ⟨o,e,_⟩:=st.1.1.ob;⟨o,e⟩
 frame:=λi h h' st g=>⟨⟨st.1.1.upon λo e=>g it (by simp) o e,st.1.2.upon λo e=>g l (by simp) o e⟩,st.2⟩
 item:=λi s Q E hi st q=>absurd st.2 (vS hi)
 done:=λs Q E st q=>xo G st.1.1 st.1.2 hn q
end
noncomputable def Qj (K:Frag)(k:Bool)(a:Addr):It :=
  ⟨λi H=>∃xs x,z5 k K H a xs/\xs[i]? = some x,
   λi H v H'=>∃T x,v=.ref T/\H T=none/\H'=upd H T (.tup [.int i,x])/\∀xs,z5 k K H a xs->xs[i]? = some x,
   λi H=>∃xs,z5 k K H a xs/\xs.length<=i⟩
def Cq {P:Program}{w:World}{K:Frag}{es:List Expr}{kt:Nat}{pt:Pos}{k:Bool}{a e it:Addr}(M:e≠it)(Vk:a≠e)(Vl:a≠it):
  Turn P w K (.Tuple es kt pt) (Qj K k a) [e,it] e (λi h=>(∃g,IsEnum h e it i g)/\AA k h it a i) where
 mem:=by simp
 obj:=λi h st b hb=>by
  obtain⟨⟨g,he⟩,G⟩:=st;simp at hb;rcases hb with rfl|rfl
  ·exact⟨_,he,λv z=>by cases z⟩
  ·exact G.ob
 keep:=λi h h' st kk=>by
  obtain⟨⟨g,he⟩,G⟩:=st;exact⟨⟨g,kk e (by simp) _ he⟩,G.upon λo q=>kk it (by simp) o q⟩
 item:=by
  intro X hP hw hK hc i af s σ H E I hf st hg;subst hP hw hK;obtain⟨⟨g,he⟩,G⟩:=st;obtain⟨xs,x,q1,hx⟩:=hg;obtain⟨its,r1,p1,z1⟩:=q1.vals I;obtain⟨u,hu,ru⟩:=r1.get hx;have fresh:H s.heap.objs.size=none:=I.hok.fresh (vT _);have Vm:i<its.toArray.size:=by rw[vH];exact(vV hu).1
  have T:e≠s.heap.objs.size:=vS (vX he);have SQ:it≠s.heap.objs.size:=by obtain⟨o,q,_⟩:=G.ob;exact vS (vX q)
  refine wpAny_pyNext_enum_itemD (KY (A:=X.A.in1) (I.ok.hd hc) it a Vl its.toArray) he ⟨G,p1⟩ Vm M (by simp[M,Vk.symm]) λv h' tk hv ho Oq hT hsz hk=>?_;have ev:v=u:=by
   have U:its[i]? = some v:=by simpa using hv
   rw[hu]at U;exact(vK U).symm
  subst ev;refine⟨_,rfl,wpAny_letOwnedTupleGo_enum (s:={ s with heap:=h',toks:=tk+1 }) ho λh2 Me s2=>?_⟩;have O:Heap.SameBut e h' h2:=s2;have kk:∀b o,b∉[e,it]->s.heap.get? b=some o->h2.get? b=some o:=λb o hb q=>O.extBut _ _ (λz=>hb (by simp[z])) (hk b o (λz=>hb (by simp[z])) (λz=>hb (by simp[z])) q);have new:cw X.prog X.w (upd H s.heap.objs.size (.tup [.int i,x])) h2 s.heap.objs.size (.tup [.int i,x]):=⟨by show 2<=sizeLine;decide,[.int i tk,v],.cons ⟨tk,rfl⟩ (.cons ru .nil),⟨_,O.extBut _ _ T.symm hT,rfl,_,rfl⟩⟩;refine⟨.ref s.heap.objs.size,upd H s.heap.objs.size (.tup [.int i,x]),Eb (s:=s) (t':=tk+1) I hf kk (vT _) new,rfl,⟨_,x,rfl,fresh,rfl,λzs hq=>by rw[z5.inj I hq q1];exact hx⟩,?_,λb hb=>?_⟩
  ·exact⟨⟨_,by have:=Me;rw[show((i:Int)+1)=((i+1:Nat):Int) by omega]at this;exact this⟩,Oq.1.upon λo q=>O.extBut _ _ M.symm q⟩
  ·have BJ:b≠s.heap.objs.size:=by
    simp at hb;rcases hb with rfl|rfl
    ·exact T
    ·exact SQ
   rw[aM BJ];exact(hf b hb).1
 done:=by
  intro X hP hw hK hc i af s σ H E I hf st hg;subst hP hw hK;obtain⟨⟨g,he⟩,G⟩:=st;obtain⟨xs,q1,hl⟩:=hg;obtain⟨its,r1,p1,z1⟩:=q1.vals I;have n1:=r1.length;refine wpAny_pyNext_enum_endD (KZ (A:=X.A.in1) (I.ok.hd hc) it a its.toArray i (by simp;omega)) he ⟨⟨G,p1⟩,rfl⟩ λh' hk=>⟨rfl,?_⟩;exact mv (t':=s.toks) I hf λb o hb q=>hk b o (λz=>hb (by simp[z])) q
 self:=λ_ _ _ _ _ st h=>let ⟨⟨_,he⟩,_⟩:=st;wpAny_pyIter_enum he h
section
variable {X:Cx}{a b e:Expr}{pos:Pos}{p:Pos}
def xq:bootBuiltins "enumerate" = some (.type "enumerate"):=by decide +kernel
noncomputable def sZ (ds:List D):List D:=ds.mapIdx λi d=>.tup [.int i,d]
@[simp] def Ee (fa:FE):FA:=λρ=>(fa ρ).bind λx=>(hV x.1).map sZ
def Hh {K:Frag}{N:Hp}{k:Bool}{l:Addr}{vs:List V}{ds:List D}(h1:z5 k K N l vs)(G:IsL K N vs ds):nA K (Qj K k l) N (sZ ds):=by
 intro i H' g;have n1:=G.length;refine⟨λd ed=>?_,λhl=>⟨vs,h1.same g,?_⟩⟩
 ·unfold sZ at ed;rw[List.getElem?_mapIdx]at ed;obtain⟨x,e1,rfl⟩:=oY ed;obtain⟨v,M,iv⟩:=G.get e1;refine⟨⟨vs,v,h1.same g,M⟩,λr H2 hy=>?_⟩;obtain⟨T,v',rfl,hT,rfl,f1⟩:=hy;have O:=f1 vs (h1.same g);rw[M]at O;cases O;have U:=Ext.laid (o:=.tup [.int i,v]) g hT;exact⟨_,U,.tup (ja.of aH) (.cons (.int _) (.cons (iv.mono U.bn) .nil))⟩
 ·unfold sZ at hl;rw[List.length_mapIdx]at hl;omega
def Hi {es:List Expr}{kt:Nat}{pt:Pos}{fa:FE}(hm:X.mg "enumerate" = none)(ha:JE X a fa)(hg:Gl X "enumerate":=by rfl)(hs:starEach [a] X.env=[(false,eval a X.env)]:=by rfl):
  JI X (.Tuple es kt pt) (.Call (.Name "enumerate" p) [a] [] pos) (Ee fa):=by
 intro af s σ H R I q;refine Call_ (jv I hg hm xq (PyProof.Rows.callWith_type1 (c7 (ah ha am hs pos af s σ H (λvs g=>∃(k:Bool)(l:Addr)(us:List V),vs=[.ref l]/\z5 k X.K g l us/\R (Qj X.K k l) g) I ?_) λus s1 ⟨vs,g,O,r1,q1⟩=>?_) hs rfl))
 ·obtain⟨B,ρ,ds,sB,r,G,q⟩:=q;obtain⟨x1,ex,G⟩:=oX G;obtain⟨xs,T,G⟩:=oY G;subst G;refine⟨B,ρ,[x1.1],sB,r,by simp[ae,ai,ex],λvs g N1 xt i1=>?_⟩;cases i1 with
  |cons j1 j2=>
   cases j2
   obtain⟨k1,l1,us,rfl,s1,m1⟩:=Nr j1 T;exact⟨k1,l1,us,rfl,s1.same xt.nh,q _ g N1 xt (Hh s1 m1)⟩
 ·obtain⟨k,l,ws,rfl,h1,q⟩:=q1;obtain⟨u1,rfl,U⟩:=r1.one;cases U
  obtain⟨its,v1,p1,z1⟩:=h1.vals O;have OW:=p1.lt;refine Ed p1 λh' c1 c2 ck=>?_;refine wpAny_pyIter_enum c1 ⟨s1.heap.objs.size+1,[s1.heap.objs.size+1,s1.heap.objs.size],_,_,g,rfl,O.kept (t':=s1.toks) ck,
   Cq (Nat.succ_ne_self _) (vS (Nat.lt_succ_of_lt OW)) (vS OW),⟨⟨_,c1⟩,c2⟩,λb hb=>?_,q⟩
  have M:s1.heap.objs.size<=b:=by
   simp at hb;rcases hb with rfl|rfl
   ·exact Nat.le_succ _
   ·exact vT _
  exact O.fpOk M (O.hok.fresh M)
end
end DL
namespace DL
open PySem PySem.Spec PyProof.Rows
def Cr (t:SetTable)(es:Array (Int×Value))(n:Nat):(relayAll t es n).2.1.led=t.led:=by
 unfold relayAll;split
 ·rename_i t' g h;unfold SetTable.relaid SetTable.laid at h;obtain⟨ow,_,h⟩:=oX h;cases h
  dsimp only;split<;>rfl
 ·rfl
def xu (t:SetTable)(es:Array (Int×Value))(n:Nat)(hp:t.plain=false):(relayAll t es n).2.1.plain=false:=by
 unfold relayAll;split
 ·rename_i t' g h;unfold SetTable.relaid SetTable.laid at h;obtain⟨ow,_,h⟩:=oX h;cases h
  dsimp only;split
  ·exact hp
  ·rfl
 ·rfl
def Hj (t:SetTable)(es:Array (Int×Value))(h:Int)(x:Value):(layNew t es h x).2.1.led=t.led:=by
 unfold layNew;split
 ·dsimp only[SetTable.put,SetTable.orStandIn];repeat' (first|rfl|split)
 ·rfl
structure TabT (w:World)(es:Array (Int×Value))(t:SetTable):Prop where
 fits:t.fits es.size=true
 led:t.led = !w.params.followText "set-order"
 plain:es.size≠0->t.plain=false
def iS (prog:Program)(w:World)(h:Heap)(a:Addr)(g:List Str):Prop :=
 ∃o es G t,h.get? a=some o/\o.ExactSet/\o.data=.set es G t/\ElemsOf (PySem.strKind prog w) es.toList/\(es.toList.map (λe=>strOf e.2)).Perm g/\g.Nodup/\g.length<scanBound/\TabT w es t
noncomputable def j7 (g:List Str)(x:Str):List Str:=if x∈g then g else g++[x]
def Ef (g:List Str)(x:Str):(j7 g x).length<=g.length+1:=by unfold j7;split<;>simp
def xw (h:Value.isStrOf k v=true):strOf v=k:=by obtain⟨t,rfl⟩:=Value.isStrOf_shape h;rfl
section
variable {prog:Program}{w:World}{A:Around}{E:Value->Shared->Prop}{s:Shared}
def tj {es:Array (Int×Value)}{M:List Str}(G:ElemsOf (PySem.strKind prog w) es.toList)(hp:(es.toList.map (λe=>strOf e.2)).Perm M)(k:Str):k∈M ↔ ∃e∈es.toList,(PySem.strKind prog w).is k e.2=true:=by
 rw[←hp.mem_iff,List.mem_map];constructor
 ·rintro⟨e,he,rfl⟩;obtain⟨⟨k',hk,_⟩,_⟩:=G e he;have g:Value.isStrOf k' e.2=true:=hk;refine⟨e,he,?_⟩;show Value.isStrOf (strOf e.2) e.2=true;rw[xw g];exact g
 ·rintro⟨e,he,hk⟩;exact⟨e,he,xw hk⟩
def tm {h:Heap}{a:Addr}{o:Obj}{es:Array (Int×Value)}{G:Nat}{t:SetTable}(ho:h.get? a=some o)(hd:o.data=.set es G t)(g:Array (Int×Value))(t':SetTable):
  (h.update a (Obj.putSet g t')).get? a=some { o with data:=.set g (G+1) t' }:=by
 have:=Heap.get?_update_self (Obj.putSet g t') ho (by rw[putSet_of g t' hd];rfl);rw[putSet_of g t' hd]at this;exact this
def xx {g:Bool->Sem Unit}(hg:∀(b:Bool)(U:Shared)(Q':Unit->Shared->Prop),Q' () U->wpAny (model prog w) A (g b) Q' E U)
  {a:Addr}{o:Obj}{es:Array (Int×Value)}{ep:Nat}{t:SetTable}(ho:s.heap.get? a=some o) (IE:o.ExactSet) (hd:o.data=.set es ep t)
  {G:Array (Int×Value)}{M:SetTable}{ts:List Str}(FP:ElemsOf (PySem.strKind prog w) G.toList) (Mf:(G.toList.map (λe=>strOf e.2)).Perm ts) (nd:ts.Nodup)
  (hb1:ts.length<scanBound) (Vn:M.fits G.size=true) (IF:M.led = !w.params.followText "set-order") (IG:M.plain=false) {O:Bool}{R:Option Bool->Shared->Prop}
  (h:∀h',Heap.SameBut a s.heap h'->iS prog w h' a ts->R (some true) { s with heap:=h' }):
  wpAny (model prog w) A (do
    storeSet a G M
    if(!O && M.tooFull)=true then do
      g (relayAll M G (SetTable.grown G.size)).2.2
      storeSet a (relayAll M G (SetTable.grown G.size)).1 (relayAll M G (SetTable.grown G.size)).2.1
      pure (some true)
     else pure (some true)) R E s:=by
 have SR:G.size=ts.length:=by rw[←Mf.length_eq,vI,vG]
 refine wX (wpAny_storeSet_of ho hd ?_ (fits_of_scanBound (by rw[SR];exact hb1)));have Mg:=tm ho hd G M;have Ot:=vW s.heap a (Obj.putSet G M);split
 ·have hp:=relayAll_perm M G (SetTable.grown G.size);have QH:=relayAll_fits M G (SetTable.grown G.size);have IH:=Cr M G (SetTable.grown G.size);have QI:=xu M G (SetTable.grown G.size) IG;generalize SS:relayAll M G (SetTable.grown G.size)=Rl at hp QH IH QI ⊢;obtain⟨T,t3,SU⟩:=Rl;dsimp only at hp QH IH QI ⊢;have QJ:ElemsOf (PySem.strKind prog w) T.toList:=FP.perm hp;have hsz:T.size=G.size:=by rw[←vG,hp.length_eq,vG]
  refine wX (hg _ _ _ ?_);refine wX (wpAny_storeSet_of Mg rfl ?_ (fits_of_scanBound (by rw[hsz,SR];exact hb1)));have Vo:=tm Mg rfl T t3;exact wY (h _ (Ot.trans (vW _ a _)) ⟨_,T,_,t3,Vo,IE,rfl,QJ,(hp.map _).trans Mf,nd,hb1,QH,IH.trans IF,λ_=>QI⟩)
 ·exact wY (h _ Ot ⟨_,G,_,M,Mg,IE,rfl,FP,Mf,nd,hb1,Vn,IF,λ_=>IG⟩)
def z8 {a:Addr}{T:List Str}{k:Str}{tk:Tok}{Q:Bool->Shared->Prop}(hS:iS prog w s.heap a T)(Ou:T.length+1<scanBound)
  (h:∀b h',Heap.SameBut a s.heap h'->iS prog w h' a (j7 T k)->Q b { s with heap:=h' }):
  wpAny (model prog w) A (setAddHashed a (.str k tk) ((PySem.strKind prog w).hash k)) Q E s:=by
 have hS0:=hS;obtain⟨o,es,ep,t,ho,IE,hd,U,g,nd,hb,hf,II,IG⟩:=hS;have Ov:(PySem.strKind prog w).is k (.str k tk)=true:=strKind_is prog w k tk;have sz:es.size=T.length:=by rw[←g.length_eq,vI,vG]
 unfold setAddHashed setAddHashedIn;refine wpAny_holding (wX (wpAny_setState_of ho hd hf ?_));dsimp only;rw[byScan_of (x:=.str k tk) rfl (by rw[sz];exact hb) U];simp only[↓reduceIte];unfold setAddByScan;refine wX ?_;refine wX (wpAny_rule ?_);refine wX (wpAny_setScan_of Ov ho hd hf U ?_);cases hr:List.findIdx? (λe=>(PySem.strKind prog w).is k e.2) es.toList with
 |some j=>
  dsimp only;obtain⟨hj,Vp,_⟩:=List.findIdx?_eq_some_iff_getElem.mp hr;have hm:k∈T:=(tj U g k).mpr ⟨es.toList[j],List.getElem_mem hj,Vp⟩;refine wY (wY ?_);have e:j7 T k=T:=by unfold j7;rw[if_pos hm]
  exact h false s.heap (Heap.SameBut.refl a s.heap) (by rw[e];exact hS0)
 |none=>
  dsimp only;have hm:k∉T:=λz=>by
   obtain⟨e,he,hp⟩:=(tj U g k).mp z;have:=List.findIdx?_eq_none_iff.mp hr e he;rw[hp]at this;exact Bool.noConfusion this
  have ea:j7 T k=T++[k]:=by unfold j7;rw[if_neg hm]
  have Vq:∀(b:Bool){O:Shared}{Q':Unit->Shared->Prop},Q' () O->wpAny (model prog w) A (match b with|true=>rule "set.scan.the-table-gave-way" | false=>pure ()) Q' E O :=
   λb O Q' hq=>by cases b<;>first|exact wY hq|exact wpAny_rule hq
  have G:=layNew_perm t es ((PySem.strKind prog w).hash k) (.str k tk);have M:=layNew_fits t es ((PySem.strKind prog w).hash k) (.str k tk);have J7:=Hj t es ((PySem.strKind prog w).hash k) (.str k tk);generalize hL:layNew t es ((PySem.strKind prog w).hash k) (.str k tk)=L at G M J7 ⊢;obtain⟨SV,t1,Ow,QK⟩:=L;dsimp only at G M J7 ⊢;rw[Array.toList_push]at G;have FP:ElemsOf (PySem.strKind prog w) SV.toList:=(U.push Ov rfl).perm G;have Mf:(SV.toList.map (λe=>strOf e.2)).Perm (T++[k]):=(G.map _).trans (by rw[uW];exact g.append_right _);have SW:(T++[k]).Nodup:=by
   rw[List.nodup_append];refine⟨nd,by simp,λx hx y hy=>?_⟩;rw[List.mem_singleton]at hy;subst hy;exact λz=>hm (z ▸ hx)
  have hb1:(T++[k]).length<scanBound:=by rw[uZ];exact Ou
  refine wX (Vq _ ?_);have Ox:∀h',Heap.SameBut a s.heap h'->iS prog w h' a (T++[k])->Q true { s with heap:=h' }:=λh' hsb IJ=>h true h' hsb (by rw[ea];exact IJ);split
  ·refine wX ?_;rw[hashByValue_scannable 8 (x:=.str k tk) rfl];refine wY ?_;refine xx ?_ ho IE hd FP Mf SW hb1 ?_ ?_ ?_ ?_
   ·intro b O Q' hq;cases b<;>first|exact wY hq|exact wpAny_rule hq
   ·exact SetTable.fits_plain_off M
   ·exact J7.trans II
   ·rfl
   ·intro h' hsb IJ;dsimp only;exact wY (Ox h' hsb IJ)
  ·rename_i QL;refine wX (wY ?_);simp only[↓reduceIte];refine xx ?_ ho IE hd FP Mf SW hb1 M (J7.trans II) (by simpa using QL) ?_
   ·intro b O Q' hq;cases b<;>first|exact wY hq|exact wpAny_rule hq
   ·intro h' hsb IJ;dsimp only;exact wY (Ox h' hsb IJ)
end
noncomputable def ia (g:List Str):List Str:=g.foldl j7 []
def z9 (h:ts.Nodup)(x:Str):(j7 ts x).Nodup:=by
 unfold j7;split
 ·exact h
 ·rename_i hm;rw[List.nodup_append];refine⟨h,by simp,λy hy z hz=>?_⟩;rw[List.mem_singleton]at hz;subst hz;exact λe=>hm (e ▸ hy)
def pT:y∈j7 ts x↔y∈ts∨y=x:=by
 unfold j7;split
 ·rename_i hm;exact⟨.inl,λz=>z.elim id λe=>e ▸ hm⟩
 ·simp
def vh (G:List Str):∀g:List Str,(G.foldl j7 g).length<=g.length+G.length:=by
 induction G with
 |nil=>intro g;simp
 |cons x r M=>intro g;rw[List.foldl_cons];have:=M (j7 g x);have:=Ef g x;simp only[vE];omega
def mw (g:List Str):(ia g).length<=g.length:=by have:=vh g [];simpa [ia]using this
def Cs (g:List Str)(x:Str):ia (g++[x])=j7 (ia g) x:=by unfold ia;rw[List.foldl_append];rfl
theorem StrsAre.at:∀ {vs:List Value}{g:List Str},StrsAre vs g->∀(i:Nat)(v:Value),vs[i]? = some v->∃x t,v=.str x t/\g[i]? = some x
 |_,_,.nil,i,v,h=>by simp at h
 |_,_,.cons x t G,0,v,h=>by simp at h;exact⟨x,t,h.symm,rfl⟩
 |_,_,.cons x t G,i+1,v,h=>by
  simp only[List.getElem?_cons_succ]at h;exact StrsAre.at G i v h
def iS.at (x:iS prog w h a ts)(k:∀o,h.get? a=some o->h'.get? a=some o):iS prog w h' a ts:=by
 obtain⟨o,es,g,t,ho,r⟩:=x;exact⟨o,es,g,t,k o ho,r⟩
section
variable {prog:Program}{w:World}{A:Around}{R:Result->Shared->Prop}{I:Addr}{fp wr:List Addr}{G:Array GenState->Array GenState->Prop}{n:Nat}{P:Nat->Value->Prop}{St:Nat->Shared->Prop}
def vi (W:WalksS prog w A.in1 I fp wr G n P St)(S:Addr)(T:S∉fp)(g:List Str)(hn:g.length=n)
  (U:∀i v,P i v->∃x t,v=.str x t/\g[i]? = some x) (hb:n+1<scanBound):
  ∀(k i:Nat)(s:Shared),n - i=k->i<=n->St i s->iS prog w s.heap S (ia (g.take i)) ->
   (∀s',Moved (S::wr) G s s'->iS prog w s'.heap S (ia g)->R (.ok (.ret .none)) s') ->
   codeAny (model prog w) A (.builtin "set.update.loop" ⟨[.ref S,.ref I],[]⟩) R s:=by
 have SX:S∉wr:=λh=>T (W.sub _ h);have M:∀b∈wr,b∈S::wr:=λb hb=>mZ _ hb;intro k;induction k with
 |zero=>
  intro i s hk hi O hS hR;have IK:i=n:=by omega
  subst IK;refine codeAny_builtin PyProof.Rows.F.entry_set_update_loop ?_;rw[Around.under_plainId PyProof.Rows.F.plain_set_update_loop _];show wpAny _ A.in1 (pyNext (.ref I)>>=_) _ _ s;refine wX (W.done s _ _ O λs' hm=>?_);show wpAny _ A.in1 (ret Value.none) _ _ s';refine wY (hR s' (hm.mono M) ?_);rw[List.take_of_length_le (by omega)]at hS;exact hS.at λo e=>hm.heap S _ SX e
 |succ k ih=>
  intro i s hk hi O hS hR;have wA:i<n:=by omega
  refine codeAny_builtin PyProof.Rows.F.entry_set_update_loop ?_;rw[Around.under_plainId PyProof.Rows.F.plain_set_update_loop _];show wpAny _ A.in1 (pyNext (.ref I)>>=_) _ _ s;refine wX (W.item i s _ _ wA O λv s' hP hst' hm=>?_);obtain⟨x,t,rfl,hx⟩:=U i v hP;have IJ:iS prog w s'.heap S (ia (g.take i)):=hS.at λo e=>hm.heap S _ SX e;show wpAny _ A.in1 (holding [Value.str x t] (setAdd S (.str x t))>>=_) _ _ s';refine wX (wpAny_holding ?_);unfold setAdd;refine wpAny_holding ?_;refine wX ((PySem.strKind prog w).pyHash (k:=x) (strKind_is prog w x t) ?_);have hl:(ia (g.take i)).length+1<scanBound:=by have:=mw (g.take i);rw[List.length_take]at this;omega
  refine z8 (s:={ s' with toks:=s'.toks+1 }) IJ hl λb h' hsb J8=>?_;have Vr:iS prog w h' S (ia (g.take (i+1))):=by
   rw[List.take_add_one,hx,Option.toList_some,Cs];exact J8
  refine wY ⟨plainId_quiet PyProof.Rows.F.plain_set_update_loop _,ih (i+1) _ (by omega) wA (W.frame _ s' _ _ hst' (Nat.le_succ _) λb hb o e=>?_) Vr λOy hm'' hS''=>?_⟩
  ·rw[hsb.2 b (λh:b=S=>T (by rw[←h];exact hb))];exact e
  ·refine hR Oy (Moved.trans W.gtrans ((hm.mono M).then_heap (Nat.le_succ _) λb o hb e=>?_) hm'') hS'';rw[hsb.2 b (λh:b=S=>hb (by rw[h];exact mX))];exact e
end
section
variable {prog:Program}{w:World}{A:Around}{E:Value->Shared->Prop}{s:Shared}
noncomputable abbrev eW (w:World):Obj:={ cls:=.type "set",dict:=none,data:=.set #[] 0 (.fresh 0 0 (!w.params.followText "set-order")) }
def xy (a:Value) 
  (h:Q₁ (.ref s.heap.objs.size) { s with heap:=s.heap.push (eW w) }):
  codeAny (model prog w) A (.call (.builtin "set.__new__") ⟨[.type "set",a],[]⟩) (wants Q₁ E) s:=by
 refine codeAny_of_tree ?_;show wpAny _ A.in1 (do checkBuiltinCall "set.__new__" ⟨[.type "set",a],[]⟩;again (.builtin "set.__new__" ⟨[.type "set",a],[]⟩)) _ _ s;refine wX (wpAny_of_eq (PySem.F.newCall_set_1 a) (wY ⟨plainId_quiet PySem.F.plain_set_new _,codeAny_builtin PySem.F.entry_set_new ?_⟩));rw[Around.under_plainId PySem.F.plain_set_new _];unfold Builtin.«set.__new__» Builtin.Frozenset.newClass;have G:=sub_set_self;obtain⟨hp,g,d,tk,os⟩:=s;dsimp only;wp_walk;refine wpAny_askSetting (wY ?_);dsimp only;simp only[newObj];refine wX (wpAny_alloc (wY ?_));exact wY h
set_option maxHeartbeats 3200000 in
def pU 
  (hh:A.handled=none) (hl:s.heap.IsList l items) (hi:StrsAre items.toList ss) (hb:items.size+1<scanBound)
  (h:∀(h':Heap)(tk:Nat),iS prog w h' s.heap.objs.size (ia ss) ->
   (∀b o,b<s.heap.objs.size->s.heap.get? b=some o->h'.get? b=some o)->Q (.ref s.heap.objs.size) { s with heap:=h',toks:=tk }):
  wpAny (model prog w) A (call (.type "set") [.ref l]) Q E s:=by
 obtain⟨c,tl,Vs⟩:=PySem.F.called_set.mro;have SY:=PySem.F.called_set.made;have Vt:=PySem.F.called_set.sub;refine wpAny_call (codeAny_of_tree ?_);show wpAny _ _ (callAny (.type "set") _) _ _ _;refine wY ⟨Code.quiet_builtin _ (by decide +kernel),codeAny_builtin PySem.F.entry_type_call ?_⟩;rw[Around.under_plain (weight_type_call_type "set" [.ref l] []) rfl];have h1:=PySem.F.called_set.notType;have h2:=PySem.F.called_set.canCreate;have WY:=PySem.F.typeCall_set_1 (.ref l);have jW:ss.length=items.size:=by have:=hi.strs;rw[←this,vI,vG]
 repeat (any_goals (first|assumption|wp_step))
 refine codeAny_mono (xy (.ref l) (E:=E) (Q₁:=λobj M=>obj=.ref s.heap.objs.size/\M={ s with heap:=s.heap.push (eW w) }) ⟨rfl,rfl⟩) λr M hr=>?_;cases r with
 |error e=>exact hr
 |ok fl=>
  cases fl with
  |ret obj=>
   obtain⟨rfl,rfl⟩:=hr;have hS:(s.heap.push (eW w)).get? s.heap.objs.size=some (eW w):=vY _ rfl;have hT:Shared.TypeIs { s with heap:=s.heap.push (eW w) } (.ref s.heap.objs.size) "set":=⟨_,hS,rfl⟩;have WZ:=PySem.F.called_set.init.lookup;have Xa:=PySem.F.called_set.init.bind (.ref s.heap.objs.size);repeat (any_goals (first|assumption|wp_step))
   refine codeAny_mono (codeAny_call_builtin (R:=wants (λr O=>r=.none/\∃h' tk,O={ s with heap:=h',toks:=tk } /\
     iS prog w h' s.heap.objs.size (ia ss) /\
     (∀b o,b<s.heap.objs.size->s.heap.get? b=some o->h'.get? b=some o)) E) PySem.F.called_set.init.plain PySem.F.entry_set_init (check_set_init_1 hT ?_)) λr₂ O g=>?_
   ·obtain⟨ol,LH,Gd,nl,Mh⟩:=hl;obtain⟨Vu,T,Ta,G⟩:=ol;simp only at Gd Mh;subst Gd;subst Mh;have QN:(s.heap.push (eW w)).get? l=some { cls:=.type "list",dict:=T,data:=.seq items nl,slots:=G }:=vZ _ LH;have Vv:=PySem.F.sub_list_set;have Vw:=PySem.F.sub_list_frozenset;have BJ:(Value.type "list" == Value.type "dict")=false:=by decide
    have J7:(s.heap.push (eW w)).IsList l items:=⟨_,QN,rfl,nl,rfl⟩;unfold Builtin.«set.__init__» noKeywords Builtin.Frozenset.updateFrom;generalize hPI:pyIter=PI;wp_walk;subst hPI;refine wpAny_pyIter_list J7 ?_;refine wX (wpAny_runValue ?_);have Tc:l<s.heap.objs.size:=vX LH;have Vx:A.in1.in1.in1.handled=none:=by simp[hh]
    have QO:l≠(s.heap.push (eW w)).objs.size:=by
     rw[Heap.size_push];exact vS (Nat.lt_succ_of_lt Tc)
    have Mi:s.heap.objs.size∉[(s.heap.push (eW w)).objs.size,l]:=by
     rw[Heap.size_push];simp only[List.mem_cons,List.mem_singleton,List.not_mem_nil,or_false,not_or];exact⟨vS (Nat.lt_succ_self _),Nat.ne_of_gt Tc⟩
    have QP:∀(i:Nat)(v:Value),items[i]? = some v->∃x t,v=.str x t/\ss[i]? = some x:=λi v hv=>
     StrsAre.at hi i v (by rw[Array.getElem?_toList];exact hv)
    refine vi ((Walks.list Vx _ l QO items).toS) s.heap.objs.size
     Mi ss jW QP hb (items.size - 0) 0 _ (by omega) (uN _)
     ⟨⟨_,vY _ rfl,rfl,rfl⟩,(J7.push _)⟩ ?hS0 ?hR
    case hS0=>
     have QQ:((s.heap.push (eW w)).push { cls:=.type "list_iterator",data:=.fields #[.ref l,.int 0 0] }).get? s.heap.objs.size
       = some (eW w):=vZ _ hS
     exact⟨_,#[],0,_,QQ,⟨rfl,rfl,rfl⟩,rfl,λe he=>by simp at he,List.Perm.refl _,List.nodup_nil,(by show(0:Nat)<scanBound;decide),rfl,rfl,λz=>absurd rfl z⟩
    case hR=>
     intro s' hm U
     obtain⟨h',g',d',IL,Td⟩:=s'
     have eg:g'=s.gens:=hm.gens
     have ed:d'=s.drawn:=hm.drawn
     have eo:Td=s.os:=hm.os
     subst eg;subst ed;subst eo
     show wpAny _ _ _ _ _ _
     refine wY ?_
     show wpAny _ _ (ret Value.none) _ _ _
     refine wY ⟨rfl,h',IL,rfl,U,λb o hb e=>?_⟩
     have hb1:b≠s.heap.objs.size:=vS hb
     have Vy:b≠(s.heap.push (eW w)).objs.size:=by
      rw[Heap.size_push];exact vS (Nat.lt_succ_of_lt hb)
     exact hm.heap b o (by simp only[List.mem_cons,List.mem_singleton,List.not_mem_nil,or_false,not_or];exact⟨hb1,Vy⟩) (vZ _ (vZ _ e))
   ·cases r₂ with
    |error e=>exact g
    |ok fl₂=>
     cases fl₂ with
     |ret r=>
      obtain⟨rfl,h',tk,rfl,U,J9⟩:=g;repeat (any_goals (first|assumption|wp_step))
      exact h _ _ U J9
     |_=>exact g.elim
  |_=>exact hr.elim
end
open Sem (wp)
section
variable {M:Model}{A:Around}{E:Value->Shared->Prop}{s:Shared}
def Hk (hn:n≠0)(h:∀k d,k<n->Q k { s with drawn:=d }):wpAny M A (choose src n) Q E s:=by
 intro g p G;unfold choose;rw[Sem.wp_choose];refine⟨hn,?_⟩;have:=h _ (s.drawn.bump src) (Nat.mod_lt (M.w.draws src (s.drawn.get src)) (Nat.pos_of_ne_zero hn));simpa using this
end
def my {α:Type}:∀(l:List α)(i:Nat),i<l.length->(l.eraseIdx i).length=l.length - 1:=λl i h=>by rw[List.length_eraseIdx,if_pos h]
theorem lJ {α:Type}:∀(l:List α)(i:Nat)(x:α),l[i]? = some x->(x::l.eraseIdx i).Perm l
 |[],i,x,h=>by simp at h
 |a::l,0,x,h=>by simp at h;subst h;exact List.Perm.refl _
 |a::l,i+1,x,h=>by
  rw[List.eraseIdx_cons_succ];simp only[List.getElem?_cons_succ]at h;exact(List.Perm.swap a x _).trans ((lJ l i x h).cons a)
theorem AB {α:Type}:∀(n:Nat)(xs:List α)(s:Shared)(Q:List α->Shared->Prop),xs.length=n->(∀ys d,ys.Perm xs->Q ys { s with drawn:=d })->wpAny M A (drawOrder n xs) Q E s
 |0,xs,s,Q,hl,h=>by
  have:xs=[]:=List.eq_nil_of_length_eq_zero hl;subst this;exact wY (h [] s.drawn (List.Perm.refl _))
 |n+1,[],s,Q,hl,h=>by simp at hl
 |n+1,x::r,s,Q,hl,h=>by
  show wpAny M A (choose .order (x::r).length>>=λi=>match (x::r)[i]? with
   |some g=>(do return g::(←drawOrder n ((x::r).eraseIdx i)))
   |none=>unsupported "internal:drawOrder") Q E s
  refine wX (Hk (by simp) λk d hk=>?_);obtain⟨y,hy⟩:∃y,(x::r)[k]? = some y:=⟨_,vU hk⟩;rw[hy];refine wX (AB n _ _ _ (by rw[my _ _ hk,hl];rfl) λys d' hp=>wY (h _ _ ((hp.cons y).trans (lJ _ _ _ hy))))
theorem AD {α:Type}(next:Nat->Nat):∀(fuel k:Nat)(left:List α)(out:Array α),left.length=fuel->(pickOrder.go next fuel k left out).toList.Perm (out.toList++left)
 |0,k,left,out,hl=>by
  have:left=[]:=List.eq_nil_of_length_eq_zero hl;subst this;unfold pickOrder.go;simp
 |fuel+1,k,left,out,hl=>by
  unfold pickOrder.go;have hk:next k % left.length<left.length:=Nat.mod_lt _ (by omega);obtain⟨y,hy⟩:∃y,left[next k % left.length]? = some y:=⟨_,vU hk⟩;rw[hy];dsimp only;refine(AD next fuel (k+1) _ _ (by rw[my _ _ hk];omega)).trans ?_;rw[Array.toList_push,List.append_assoc];exact(lJ _ _ _ hy).append_left _
def Ct {α:Type}(next:Nat->Nat)(xs:Array α):(pickOrder next xs).toList.Perm xs.toList:=by
 have:=AD next xs.size 0 xs.toList #[] (by simp);simpa [pickOrder]using this
def bH:Slot "set_iterator" "__next__" "set_iterator.__next__" :=
 .of (owner:="set_iterator") (n:="__next__") (by rw[typeLookup_type,builtinLookup_eq_fast];kernel_rfl) (by decide +kernel) (by decide +kernel) (by decide +kernel)
  (by first|exact .inl (by decide +kernel)|exact .inr (by decide +kernel)) (by rw[isSubtype_type];kernel_rfl)
def fF:entryFor table "set_iterator.__next__" = some Builtin.«set_iterator.__next__»:=entryFor_of_tree (by kernel_rfl)
def gs (a:Value):argsOk "set_iterator.__next__" ⟨[a],[]⟩:=by unfold argsOk;kernel_rfl
def lw:Slot "set_iterator" "__iter__" "set_iterator.__iter__" :=
 .of (owner:="set_iterator") (n:="__iter__") (by rw[typeLookup_type,builtinLookup_eq_fast];kernel_rfl) (by decide +kernel) (by decide +kernel) (by decide +kernel)
  (by first|exact .inl (by decide +kernel)|exact .inr (by decide +kernel)) (by rw[isSubtype_type];kernel_rfl)
def pV:entryFor table "set_iterator.__iter__" = some Builtin.«dict_keyiterator.__iter__» :=
 entryFor_alias (id':="dict_keyiterator.__iter__") (by kernel_rfl) rfl (by decide +kernel) (by kernel_rfl)
def rV (a:Value):argsOk "set_iterator.__iter__" ⟨[a],[]⟩:=by unfold argsOk;kernel_rfl
def oV:entryFor table "set.__iter__" = some Builtin.«frozenset.__iter__» :=
 entryFor_alias (id':="frozenset.__iter__") (by kernel_rfl) rfl (by decide +kernel) (by kernel_rfl)
noncomputable abbrev lK (g:Value)(i:Nat)(S:Addr)(n G:Nat):Obj:={ cls:=.type "set_iterator",data:=.fields #[g,.int i 0,.ref S,.int n 0,.int G 0] }
section
variable {prog:Program}{w:World}{A:Around}{E:Value->Shared->Prop}{s:Shared}{it S:Addr}{i ep:Nat}{o:Obj}{es:Array (Int×Value)}{t:SetTable}
def dW (ho:s.heap.get? it=some (lK fst i S n ep)):s.TypeIs (.ref it) "set_iterator":=⟨_,ho,rfl⟩
def vj {k k':Nat}{x:Value}{Q:Option Value->Shared->Prop}(ho:s.heap.get? it=some (lK (.int k 0) i S es.size ep))
  (hS:s.heap.get? S=some o) (hd:o.data=.set es ep t) (hf:t.fits es.size=true)
  (G:∀(M:Around)(O:Value->Shared->Prop)(g:Option (Value×Nat)->Shared->Prop),g (some (x,k')) s->wpAny (model prog w) M (setNext S k i ep) g O s)
  (T:∀h',h'.get? it=some (lK (.int k' 0) (i+1) S es.size ep)->Heap.SameBut it s.heap h'->Q (some x) { s with heap:=h' }):
  wpAny (model prog w) A (pyNext (.ref it)) Q E s:=by
 unfold pyNext;refine wX (wpAny_attempt (wpAny_callSpecial?_slot (name:=Str.ofString "__next__") (dW ho) bH
  (wpAny_call_entry bH (dW ho) fF ?_ (gs _))))
 show wpAny _ _ (fieldsOf (.ref it)>>=_) _ _ s;refine wX (wpAny_fieldsOf ho rfl ?_);show wpAny _ _ (setEntries S>>=_) _ _ s;refine wX (wpAny_setEntries_of hS hd hf ?_);rw[if_neg (by simp)];show wpAny _ _ (setNext S _ _ _>>=_) _ _ s;simp only[Int.toNat_natCast];refine wX (G _ _ _ ?_);dsimp only;refine wX (wpAny_setField_rec ho (by simp) λh1 U b1=>?_);refine wX (wpAny_setField_rec U (by simp) λh2 e2 b2=>?_);exact wY ⟨x,rfl,wY (T h2 (by simpa [rawInt,lK]using e2) (b1.trans b2))⟩
def vk {k:Nat}{Q:Option Value->Shared->Prop}(hh:A.handled=none)(ho:s.heap.get? it=some (lK (.int k 0) i S es.size ep))
  (hS:s.heap.get? S=some o) (hd:o.data=.set es ep t) (hf:t.fits es.size=true)
  (G:∀(M:Around)(O:Value->Shared->Prop)(g:Option (Value×Nat)->Shared->Prop),g none s->wpAny (model prog w) M (setNext S k i ep) g O s)
  (U:∀h',Heap.ExtBut it s.heap h'->Q none { s with heap:=h' }):
  wpAny (model prog w) A (pyNext (.ref it)) Q E s:=by
 unfold pyNext;refine wX (wpAny_attempt (wpAny_callSpecial?_slot (name:=Str.ofString "__next__") (dW ho) bH
  (wpAny_call_entry bH (dW ho) fF ?_ (gs _))))
 show wpAny _ _ (fieldsOf (.ref it)>>=_) _ _ s;refine wX (wpAny_fieldsOf ho rfl ?_);show wpAny _ _ (setEntries S>>=_) _ _ s;refine wX (wpAny_setEntries_of hS hd hf ?_);rw[if_neg (by simp)];show wpAny _ _ (setNext S _ _ _>>=_) _ _ s;simp only[Int.toNat_natCast];refine wX (G _ _ _ ?_);dsimp only;refine wX (wpAny_setField_rec ho (by simp) λh1 e1 b1=>?_);refine wX ?_;simp only[newExc,newTuple];refine wX (wpAny_newObj_type ?_ (by size_fits));refine wX (m:=firstArgMember _ _) (wpAny_of_eq (a:=Value.none) (by first|rfl|(simp only[firstArgMember];rfl)) ?_);refine wpAny_newObj_type ?_ (by size_fits);simp only[raiseNew];refine wX (wpAny_handled ?_);rw[show A.in1.handled=none from hh];refine wX (wY (wpAny_throw ?_));refine wX (wpAny_isInstance (T:="StopIteration") (b:=true) ⟨_,vY _ rfl,rfl⟩ isSubtype_stop ?_);exact wY (U _ ((b1.extBut.push _).push _))
def rW {T:Addr}{pl:List Nat}{p:Nat}{x:Int×Value}{nt:Nat}{Q:Option Value->Shared->Prop}(ho:s.heap.get? it=some (lK (.ref T) i S es.size ep))
  (G:s.heap.get? T=some (seqObj "tuple" (pl.map λ(p:Nat)=>Value.int p 0).toArray nt))
  (hS:s.heap.get? S=some o) (hd:o.data=.set es ep t) (hf:t.fits es.size=true) (hp:pl[i]? = some p) (hx:es[p]? = some x)
  (M:∀h',h'.get? it=some (lK (.ref T) (i+1) S es.size ep)->Heap.SameBut it s.heap h'->Q (some x.2) { s with heap:=h' }):
  wpAny (model prog w) A (pyNext (.ref it)) Q E s:=by
 unfold pyNext;refine wX (wpAny_attempt (wpAny_callSpecial?_slot (name:=Str.ofString "__next__") (dW ho) bH
  (wpAny_call_entry bH (dW ho) fF ?_ (gs _))))
 show wpAny _ _ (fieldsOf (.ref it)>>=_) _ _ s;refine wX (wpAny_fieldsOf ho rfl ?_);show wpAny _ _ (setEntries S>>=_) _ _ s;refine wX (wpAny_setEntries_of hS hd hf ?_);rw[if_neg (by simp)];show wpAny _ _ (seqItems? (.ref T)>>=_) _ _ s;refine wX (wpAny_seqItems G rfl ?_);have g:(pl.map λ(p:Nat)=>Value.int p 0).toArray[(i:Int).toNat]? = some (.int p 0):=by simp[hp]
 dsimp only;rw[g];dsimp only;have e2:wpAny (model prog w) A.in1 (setNextDrawn S (p:Int).toNat (ep:Int).toNat) (λy s'=>y=x.2/\s'=s) (λ_ _=>False) s:=by
  unfold setNextDrawn;refine wX (wpAny_setState_of hS hd hf ?_);dsimp only;rw[if_neg (by simp)];simp only[Int.toNat_natCast,hx];exact wY ⟨rfl,rfl⟩
 refine wX (wpAny_mono e2 (λy s' hy=>?_) λ_ _ z=>z.elim);obtain⟨rfl,rfl⟩:=hy;refine wX (wpAny_setField_rec ho (by simp) λh1 g b1=>?_);exact wY ⟨_,rfl,wY (M h1 (by simpa [rawInt,lK]using g) b1)⟩
def rX {T:Addr}{pl:List Nat}{nt:Nat}{Q:Option Value->Shared->Prop}(hh:A.handled=none)(ho:s.heap.get? it=some (lK (.ref T) i S es.size ep))
  (G:s.heap.get? T=some (seqObj "tuple" (pl.map λ(p:Nat)=>Value.int p 0).toArray nt))
  (hS:s.heap.get? S=some o) (hd:o.data=.set es ep t) (hf:t.fits es.size=true) (hp:pl[i]? = none)
  (M:∀h',Heap.ExtBut it s.heap h'->Q none { s with heap:=h' }):
  wpAny (model prog w) A (pyNext (.ref it)) Q E s:=by
 unfold pyNext;refine wX (wpAny_attempt (wpAny_callSpecial?_slot (name:=Str.ofString "__next__") (dW ho) bH
  (wpAny_call_entry bH (dW ho) fF ?_ (gs _))))
 show wpAny _ _ (fieldsOf (.ref it)>>=_) _ _ s;refine wX (wpAny_fieldsOf ho rfl ?_);show wpAny _ _ (setEntries S>>=_) _ _ s;refine wX (wpAny_setEntries_of hS hd hf ?_);rw[if_neg (by simp)];show wpAny _ _ (seqItems? (.ref T)>>=_) _ _ s;refine wX (wpAny_seqItems G rfl ?_);have g:(pl.map λ(p:Nat)=>Value.int p 0).toArray[(i:Int).toNat]? = none:=by simpa using hp
 dsimp only;rw[g];dsimp only;refine wX (wpAny_setField_rec ho (by simp) λh0 O U=>?_);refine wX (wpAny_setField_rec O (by simp) λh1 g b1=>?_);refine wX ?_;simp only[newExc,newTuple];refine wX (wpAny_newObj_type ?_ (by size_fits));refine wX (m:=firstArgMember _ _) (wpAny_of_eq (a:=Value.none) (by first|rfl|(simp only[firstArgMember];rfl)) ?_);refine wpAny_newObj_type ?_ (by size_fits);simp only[raiseNew];refine wX (wpAny_handled ?_);rw[show A.in1.handled=none from hh];refine wX (wY (wpAny_throw ?_));refine wX (wpAny_isInstance (T:="StopIteration") (b:=true) ⟨_,vY _ rfl,rfl⟩ isSubtype_stop ?_);exact wY (M _ (((U.trans b1).extBut.push _).push _))
def xz (ho:s.heap.get? it=some (lK fst i S n ep))(h:Q (.ref it) s):wpAny (model prog w) A (pyIter (.ref it)) Q E s:=by
 refine wpAny_pyIter_slot (dW ho) lw (wpAny_call_entry lw (dW ho) pV ?_ (rV _));show wpAny _ _ (ret (.ref it)) _ _ s;exact wY ⟨_,rfl,"set_iterator",_,dW ho,bH.lookup,h⟩
end
section
variable {prog:Program}{w:World}{A:Around}{E:Value->Shared->Prop}{s:Shared}{it S:Addr}{i k ep:Nat}{o:Obj}{es:Array (Int×Value)}{t:SetTable}
def tp (hS:s.heap.get? S=some o)(hd:o.data=.set es ep t)(hf:t.fits es.size=true)(hb:w.params.followText "set-order" = true)
  (h:Q (((pickOrder (w.params.setOrder S ep) es)[i]?).map λe=>(e.2,k)) s):wpAny (model prog w) A (setNext S k i ep) Q E s:=by
 unfold setNext;refine wX (wpAny_setState_of hS hd hf ?_);dsimp only;unfold setsByText;refine wX (wX (wpAny_askSetting (wY ?_)));show wpAny _ _ (if w.params.followText "set-order" = true then _ else _) _ _ _;rw[if_pos hb,if_neg (by simp)];unfold setWalk setsByText;refine wX (wX (wpAny_setState_of hS hd hf ?_));dsimp only;refine wX (wX (wpAny_askSetting (wY ?_)));show wpAny _ _ (if w.params.followText "set-order" = true then _ else _) _ _ _;rw[if_pos hb];refine wX (wpAny_askSetting (wY ?_));exact wY h
def pW (hS:s.heap.get? S=some o)(hd:o.data=.set es ep t)(hf:t.fits es.size=true)(hb:w.params.followText "set-order" = false)(hl:t.led=true)(hz:es.size<=1)
  (h:Q (match es[SetTable.below t.place k]?,t.place[SetTable.below t.place k]? with
   |some (_,x),some j=>some (x,j+1)
   |_,_=>none) s):wpAny (model prog w) A (setNext S k i ep) Q E s:=by
 unfold setNext;refine wX (wpAny_setState_of hS hd hf ?_);dsimp only;unfold setsByText;refine wX (wX (wpAny_askSetting (wY ?_)));show wpAny _ _ (if w.params.followText "set-order" = true then _ else _) _ _ _;rw[if_neg (by rw[hb];simp)];show wpAny _ _ (if(!t.plain && decide (es.size > 1))=true then _ else _) _ _ _;rw[if_neg (by rw[decide_eq_false (by omega)];simp)];show wpAny _ _ ((if(!t.led && !es.isEmpty)=true then unsupported "set:maker-not-led" else pure ())>>=_) _ _ _;rw[hl,if_neg (by simp)];refine wX (wY ?_);exact wY h
def tq (hh:A.handled=none)(hd:o.data=.set es ep t)(hf:t.fits es.size=true)(T:S≠it)(vs:List Value)(hv:vs.length=es.size)(sl:Nat->Nat)
  (U:∀i x,vs[i]? = some x->∀(G:Around)(M:Value->Shared->Prop)(s:Shared)(g:Option (Value×Nat)->Shared->Prop),s.heap.get? S=some o->g (some (x,sl (i+1))) s->wpAny (model prog w) G (setNext S (sl i) i ep) g M s)
  (hE:∀(G:Around)(M:Value->Shared->Prop)(s:Shared)(g:Option (Value×Nat)->Shared->Prop),s.heap.get? S=some o->g none s->wpAny (model prog w) G (setNext S (sl es.size) es.size ep) g M s):
  Walks prog w A it [it,S] [it] es.size (λi v=>vs[i]? = some v) (λi h=>h.get? it=some (lK (.int (sl i) 0) i S es.size ep)/\h.get? S=some o) where
 sub:=λb hb=>by simp at hb;simp[hb]
 frame:=λ_ _ _ st hk=>⟨hk it (by simp) _ st.1,hk S (by simp) _ st.2⟩
 item:=λi s Q E hi st O=>by
  obtain⟨x,hx⟩:∃x,vs[i]? = some x:=⟨_,vU (by omega)⟩;refine vj st.1 st.2 hd hf (λG M g q=>U i x hx G M s g st.2 q) λh' h1 h2=>?_;exact O x h' s.toks hx ⟨h1,h2.extBut S _ T st.2⟩ λb u hb e=>h2.extBut b u (λz=>hb (by simp[z])) e
 done:=λs Q E st O=>vk hh st.1 st.2 hd hf (λG M g q=>hE G M s g st.2 q) λh' h1=>O h' s.toks λb u hb e=>h1 b u (λz=>hb (by simp[z])) e
 self:=λ_ _ _ _ st O=>xz st.1 O
def zA {T:Addr}{pl:List Nat}{nt:Nat}(hh:A.handled=none)(hd:o.data=.set es ep t)(hf:t.fits es.size=true)(M:S≠it)(O:T≠it)(hp:pl.Perm (List.range es.size)):
  Walks prog w A it [it,S,T] [it] es.size (λi v=>(pl.map λp=>(es.getD p (0,.none)).2)[i]? = some v)
   (λi h=>h.get? it=some (lK (.ref T) i S es.size ep)/\h.get? S=some o/\h.get? T=some (seqObj "tuple" (pl.map λ(p:Nat)=>Value.int p 0).toArray nt)) where
 sub:=λb hb=>by simp at hb;simp[hb]
 frame:=λ_ _ _ st hk=>⟨hk it (by simp) _ st.1,hk S (by simp) _ st.2.1,hk T (by simp) _ st.2.2⟩
 item:=λi s Q E hi st g=>by
  have G:pl.length=es.size:=by rw[hp.length_eq,List.length_range]
  obtain⟨p,hx⟩:∃p,pl[i]? = some p:=⟨_,vU (by omega)⟩;have U:p<es.size:=List.mem_range.mp (hp.mem_iff.mp (vL hx));have he:es[p]? = some (es.getD p (0,.none)):=by rw[Array.getD_eq_getD_getElem?,Array.getElem?_eq_getElem U];rfl
  refine rW st.1 st.2.2 st.2.1 hd hf hx he λh' h1 h2=>?_;exact g _ h' s.toks (by simp[hx]) ⟨h1,h2.extBut S _ M st.2.1,h2.extBut T _ O st.2.2⟩ λb u hb e=>h2.extBut b u (λz=>hb (by simp[z])) e
 done:=λs Q E st g=>by
  have G:pl.length=es.size:=by rw[hp.length_eq,List.length_range]
  exact rX hh st.1 st.2.2 st.2.1 hd hf (List.getElem?_eq_none (by omega)) λh' h1=>g h' s.toks λb u hb e=>h1 b u (λz=>hb (by simp[z])) e
 self:=λ_ _ _ _ st g=>xz st.1 g
end
def zB {α:Type}(es:Array α)(d:α):(List.range es.size).map (λp=>es.getD p d)=es.toList:=by
 apply List.ext_getElem?;intro i;by_cases h:i<es.size
 ·simp[h,Array.getD_eq_getD_getElem?]
 ·simp[h]
section
variable {prog:Program}{w:World}{A:Around}{E:Value->Shared->Prop}{s:Shared}
def tu (h:xs=#[j]):SetTable.below xs k=if j<k then 1 else 0:=by
 subst h;by_cases h:j<k
 ·simp[SetTable.below,SetTable.below.go,h]
 ·simp[SetTable.below,SetTable.below.go,h]
def Eg {S:Addr}{ts:List Str}{Q:Value->Shared->Prop}(hS:iS prog w s.heap S ts)
  (hQ:∀(h':Heap)(d:Drawn)(it:Addr)(vs:List Value)(fp:List Addr)(St:Nat->Heap->Prop),(∀U,U.handled=none->Walks prog w U it fp [it] ts.length (λi v=>vs[i]? = some v) St)->St 0 h' ->
   (∀b u,s.heap.get? b=some u->h'.get? b=some u)->s.heap.objs.size<=it->(∀b∈fp,b=S∨s.heap.objs.size<=b)->vs.length=ts.length->(vs.map strOf).Perm ts->(∀v∈vs,∃x t,v=.str x t) ->
   Q (.ref it) { s with heap:=h',drawn:=d }):wpAny (model prog w) A (pyIter (.ref S)) Q E s:=by
 obtain⟨o,es,ep,t,ho,IE,hd,Vz,hp,nd,hb,hf,II,IG⟩:=hS;have sz:es.size=ts.length:=by rw[←hp.length_eq,vI,vG]
 have O:S<s.heap.objs.size:=vX ho;have Te:s.TypeIs (.ref S) "set":=⟨_,ho,IE.1⟩;have G:∀e∈es.toList,∃x t,e.2=.str x t:=λe he=>by
  obtain⟨⟨k,hk,_⟩,_⟩:=Vz e he;obtain⟨t,q⟩:=Value.isStrOf_shape (show Value.isStrOf k e.2=true from hk);exact⟨k,t,q⟩
 refine wpAny_pyIter_slot Te PySem.F.slot_set_iter (wpAny_call_entry PySem.F.slot_set_iter Te oV ?_ (PySem.F.args_set_iter_1 _));show wpAny _ _ (Builtin.Frozenset.sizeOf S>>=_) _ _ s;unfold Builtin.Frozenset.sizeOf;refine wX (wX (wpAny_setEntries_of ho hd hf (wY ?_)));unfold setDrawn setsByText;refine wX (wX (wpAny_setState_of ho hd hf ?_));dsimp only;refine wX (wX (wpAny_askSetting (wY (wY ?_))));show wpAny _ _ (if(!w.params.followText "set-order" && (!t.plain && decide (es.size > 1)))=true then _ else _) _ _ _;have T:(es.toList.map (·.2)).map strOf=es.toList.map (λe=>strOf e.2):=by rw[uP];rfl
 by_cases g:w.params.followText "set-order" = true
 ·rw[if_neg (by rw[g];simp)];refine wX (wY ?_);refine wX (wpAny_setEpoch_of ho hd hf ?_);have pp:=Ct (w.params.setOrder S ep) es;have jW:((pickOrder (w.params.setOrder S ep) es).toList.map (·.2)).length=es.size:=by rw[vI,pp.length_eq,vG]
  refine wX (wpAny_newObj_type (wY ⟨_,rfl,"set_iterator",_,⟨_,vY _ rfl,rfl⟩,bH.lookup,?_⟩));refine hQ _ s.drawn s.heap.objs.size ((pickOrder (w.params.setOrder S ep) es).toList.map (·.2)) [s.heap.objs.size,S] (λi h=>h.get? s.heap.objs.size=some (lK (.int ((λ_=>0:Nat->Nat) i:Nat) 0) i S es.size ep)/\h.get? S=some o) (λU hA=>?_) ?_ (λb u e=>vZ _ e) (vT _) (λb hb=>?_) (jW.trans sz) ?_ ?_
  ·rw[←sz];exact tq hA hd hf (vS O) _ jW (λ_=>0) (λi x hx U E' s Q' h1 h2=>tp h1 hd hf g (by
    rw[vA,Array.getElem?_toList]at hx;obtain⟨e,he,rfl⟩:=oY hx;rw[he];exact h2)) (λU E' s Q' h1 h2=>tp h1 hd hf g (by
    rw[Array.getElem?_eq_none (by rw[←vG,pp.length_eq,vG];exact vT _)];exact h2))
  ·exact⟨vY _ rfl,vZ _ ho⟩
  ·simp only[List.mem_cons,List.not_mem_nil,or_false]at hb;rcases hb with rfl|rfl
   ·exact .inr (vT _)
   ·exact .inl rfl
  ·refine List.Perm.trans ?_ hp;rw[←T];exact(pp.map _).map _
  ·intro v hv;obtain⟨e,he,rfl⟩:=vO hv;exact G e (pp.mem_iff.mp he)
 ·rw[Bool.not_eq_true]at g;have hl:t.led=true:=by rw[II,g];rfl
  by_cases h1:es.size<=1
  ·rw[if_neg (by rw[decide_eq_false (by omega)];simp)];refine wX (wY ?_);refine wX (wpAny_setEpoch_of ho hd hf ?_);refine wX (wpAny_newObj_type (wY ⟨_,rfl,"set_iterator",_,⟨_,vY _ rfl,rfl⟩,bH.lookup,?_⟩));have Xb:t.place.size=es.size:=by
    simp only[SetTable.fits,vC,beq_iff_eq,decide_eq_true_eq]at hf;exact hf.1
   refine hQ _ s.drawn s.heap.objs.size (es.toList.map (·.2)) [s.heap.objs.size,S] (λi h=>h.get? s.heap.objs.size=some (lK (.int ((λi=>if i=0 then 0 else t.place.getD 0 0+1:Nat->Nat) i:Nat) 0) i S es.size ep)/\h.get? S=some o) (λU hA=>?_) ?_ (λb u e=>vZ _ e) (vT _) (λb hb=>?_) (by rw[vI,vG,sz]) (by rw[T];exact hp) ?_
   ·rw[←sz];refine tq hA hd hf (vS O) _ (by simp) (λi=>if i=0 then 0 else t.place.getD 0 0+1) (λi x hx U E' s Q' q1 q2=>pW q1 hd hf g hl h1 ?_) (λU E' s Q' q1 q2=>pW q1 hd hf g hl h1 ?_)
    ·have hi:i<es.size:=by have:=(vV hx).1;simpa using this
     have Pm:i=0:=by omega
     subst Pm;obtain⟨j,hj⟩:∃j,t.place=#[j]:=Array.size_eq_one_iff.mp (by omega);rw[if_pos rfl,tu hj,if_neg (by omega)];rw[vA,Array.getElem?_toList]at hx;obtain⟨e,he,rfl⟩:=oY hx;rw[he];simp only[hj]at q2 ⊢;simpa using q2
    ·by_cases h0:es.size=0
     ·have QR:t.place=#[]:=Array.eq_empty_of_size_eq_zero (by omega);have V0:es=#[]:=Array.eq_empty_of_size_eq_zero h0;rw[QR,V0];simpa using q2
     ·obtain⟨j,hj⟩:∃j,t.place=#[j]:=Array.size_eq_one_iff.mp (by omega);rw[if_neg h0,tu hj];have:t.place.getD 0 0=j:=by rw[hj];rfl
      rw[this,if_pos (by omega),Array.getElem?_eq_none (by omega)];exact q2
   ·exact⟨vY _ rfl,vZ _ ho⟩
   ·simp only[List.mem_cons,List.not_mem_nil,or_false]at hb;rcases hb with rfl|rfl
    ·exact .inr (vT _)
    ·exact .inl rfl
   ·intro v hv;obtain⟨e,he,rfl⟩:=vO hv;exact G e he
  ·have QR:t.plain=false:=IG (by omega);rw[if_pos (by rw[g,QR,decide_eq_true (by omega)];rfl)];refine wX (AB es.size (List.range es.size) _ _ (by simp) λpl d pp=>?_);refine wX (wpAny_newTuple ?_ (by rw[vI,pp.length_eq,List.length_range,sz];exact fits_of_scanBound hb));refine wX (wpAny_setEpoch_of (vZ _ ho) hd hf ?_);refine wX (wpAny_newObj_type (wY ⟨_,rfl,"set_iterator",_,⟨_,vY _ rfl,rfl⟩,bH.lookup,?_⟩));have hsz:(s.heap.push (seqObj "tuple" (pl.map λ(p:Nat)=>Value.int p 0).toArray 0)).objs.size=s.heap.objs.size+1:=size_push' _ _;have M:((pl.map λp=>(es.getD p (0,.none)).2)).Perm (es.toList.map (·.2)):=by
    have:=(pp.map λp=>es.getD p (0,Value.none)).map (·.2);rw[zB]at this;rw[uP]at this;exact this
   refine hQ _ d _ (pl.map λp=>(es.getD p (0,.none)).2) [(s.heap.push (seqObj "tuple" (pl.map λ(p:Nat)=>Value.int p 0).toArray 0)).objs.size,S,s.heap.objs.size] (λi h=>h.get? (s.heap.push (seqObj "tuple" (pl.map λ(p:Nat)=>Value.int p 0).toArray 0)).objs.size=some (lK (.ref s.heap.objs.size) i S es.size ep)/\h.get? S=some o/\h.get? s.heap.objs.size=some (seqObj "tuple" (pl.map λ(p:Nat)=>Value.int p 0).toArray 0)) (λU hA=>?_) ?_ (λb u e=>vZ _ (vZ _ e)) ?_ (λb hb=>?_) ?_ ?_ ?_
   ·rw[←sz];exact zA (nt:=0) hA hd hf (by show S≠(s.heap.push _).objs.size;rw[size_push'];exact vS (Nat.lt_succ_of_lt O)) (by show s.heap.objs.size≠(s.heap.push _).objs.size;rw[size_push'];exact vS (Nat.lt_succ_self _)) pp
   ·exact⟨vY _ rfl,vZ _ (vZ _ ho),vZ _ (vY _ rfl)⟩
   ·show s.heap.objs.size<=(s.heap.push _).objs.size;rw[size_push'];omega
   ·simp only[List.mem_cons,List.not_mem_nil,or_false]at hb;rcases hb with rfl|rfl|rfl
    ·refine .inr ?_;show s.heap.objs.size<=(s.heap.push _).objs.size;rw[size_push'];omega
    ·exact .inl rfl
    ·exact .inr (vT _)
   ·rw[M.length_eq,vI,vG,sz]
   ·exact((M.map strOf).trans (by rw[T])).trans hp
   ·intro v hv;obtain⟨e,he,rfl⟩:=vO (M.mem_iff.mp hv);exact G e he
end
def Cu (h:ItemsOf (λi v=>vs[i]? = some v) BI vs.length):BI.toList=vs:=by
 apply List.ext_getElem?;intro i;by_cases hi:i<BI.size
 ·have e:BI[i]? = some BI[i]:=Array.getElem?_eq_getElem hi;rw[Array.getElem?_toList,e,h.2 i _ e]
 ·rw[List.getElem?_eq_none (by rw[vG];omega),List.getElem?_eq_none (by rw[←h.1];omega)]
section
variable {prog:Program}{w:World}{A:Around}{E:Value->Shared->Prop}{s:Shared}
def xA (hh:A.handled=none)(hS:iS prog w s.heap S ts)
  (hQ:∀s' vs,(∀b u,s.heap.get? b=some u->s'.heap.get? b=some u)->s'.gens=s.gens->s'.os=s.os->vs.length=ts.length->(vs.map strOf).Perm ts->(∀v∈vs,∃x t,v=.str x t)->Q vs s'):
  wpAny (model prog w) A (collect (.ref S)) Q E s:=by
 have g:∀(s1:Shared),iS prog w s1.heap S ts->s1.TypeIs (.ref S) "set":=λs1 h=>by
  obtain⟨o,_,_,_,ho,IE,_⟩:=h;exact⟨o,ho,IE.1⟩
 have wA:S<s.heap.objs.size:=by obtain⟨o,_,_,_,ho,_⟩:=hS;exact vX ho
 have O:ts.length<scanBound:=by obtain⟨_,_,_,_,_,_,_,_,_,_,h,_⟩:=hS;exact h
 unfold collect;refine wX (wpAny_runValue (codeAny_builtin PySem.F.entry_proto_collect ?_));rw[Around.under_plainId PySem.F.plain_proto_collect _];show wpAny _ A.in1 (newList []>>=λl=>again (.builtin "list.__iadd__" ⟨[l,.ref S],[]⟩)) _ _ s;refine wX (wpAny_newObj_type ?_);refine wY ⟨plainId_quiet PySem.F.plain_list_iadd _,codeAny_builtin PySem.F.entry_list_iadd ?_⟩;rw[Around.under_plainId PySem.F.plain_list_iadd _];show wpAny _ A.in1 (Builtin.List.listExtendWith (.ref s.heap.objs.size) (.ref S) (.ref s.heap.objs.size)) _ _ _;unfold Builtin.List.listExtendWith;have T:iS prog w (s.heap.push { cls:=.type "list",data:=.seq ([]:List Value).toArray }) S ts:=hS.at λo e=>vZ _ e;refine wX (wpAny_typeOf (g _ T) ?_);have Tf:s.heap.objs.size≠S:=Nat.ne_of_gt wA;have h1:Builtin.List.listSameRef (.ref s.heap.objs.size) (.ref S)=false:=by simp[Builtin.List.listSameRef,Tf]
 have h2:(Value.type "set" == Value.type "list")=false:=by decide
 have h3:(Value.type "set" == Value.type "tuple")=false:=by decide
 simp only[h1,h2,h3,Bool.or_false,uV,if_false];refine wX (Eg (s:={ s with heap:=s.heap.push { cls:=.type "list",data:=.seq ([]:List Value).toArray } }) T λh' d it vs fp St W Mj hk za hfp LC U hstr=>?_);have J8:iS prog w h' S ts:=T.at λo e=>hk _ _ e;refine wX (wpAny_holding ?_);unfold Builtin.List.listLengthHint;refine wX (wpAny_specialOf (g _ J8) PySem.F.slot_set_len.lookup ?_);wp_delta;refine wX (wpAny_isInstance (g _ J8) sub_set_self ?_);show wpAny _ A.in1 (typeOf (Value.ref S)>>=_) _ _ _;refine wX (wpAny_typeOf (g _ J8) ?_);refine wY ?_;rw[if_pos (by decide)];refine wX (wpAny_rule ?_);refine wX ?_;have G:(s.heap.push { cls:=.type "list",data:=.seq ([]:List Value).toArray }).objs.size=s.heap.objs.size+1:=size_push' _ _;have Tg:h'.get? s.heap.objs.size=some { cls:=.type "list",data:=.seq ([]:List Value).toArray }:=hk _ _ (vY _ rfl);show wpAny _ A.in1 (updateSeq s.heap.objs.size (·.push .none)>>=λ_=>updateSeq s.heap.objs.size (·.pop)) _ _ _;refine wX (wpAny_updateSeq Tg rfl ?_);have Th:=Heap.get?_update_self (Obj.mapSeq (·.push Value.none)) Tg rfl;refine wpAny_updateSeq Th rfl ?_;have V1:=Heap.get?_update_self (Obj.mapSeq (·.pop)) Th rfl;have Mi:s.heap.objs.size∉fp:=λhm=>by
  rcases hfp _ hm with z|z
  ·exact Tf z
  ·rw[G]at z;exact absurd z (Nat.not_succ_le_self _)
 have Ti:∀b u,b≠s.heap.objs.size->h'.get? b=some u ->
   ((h'.update s.heap.objs.size (Obj.mapSeq (·.push Value.none))).update s.heap.objs.size (Obj.mapSeq (·.pop))).get? b=some u :=
  λb u hb e=>(Heap.get?_update_other _ _ (Ne.symm hb)).trans ((Heap.get?_update_other _ _ (Ne.symm hb)).trans e)
 have W0:=W A.in1 hh;refine wY ⟨plainId_quiet PySem.F.plain_extend_loop _,codeAny_extend_loopS W0.toS (fits_of_scanBound O) _ Mi _ ts.length 0 _ _ _ rfl (uN _)
  (W0.frame 0 _ _ Mj λb hb u e=>Ti b u (λz=>Mi (z ▸ hb)) e) V1 (ItemsOf.nil _) λs' acc' c' hm hL' M=>?_⟩
 show wpAny _ A (load s.heap.objs.size>>=_) _ _ s';refine wX (wpAny_load hL' ?_);rw[←LC]at M;refine wY ?_;show Q acc'.toList s';rw[Cu M];refine hQ s' vs (λb u e=>hm.heap b u (λhb=>?_) (Ti b u (vS (vX e)) (hk _ _ (vZ _ e)))) hm.gens hm.os LC U hstr;have hl:=vX e;simp only[List.mem_cons,List.not_mem_nil,or_false]at hb;rcases hb with rfl|rfl
 ·exact absurd hl (Nat.lt_irrefl _)
 ·rw[G]at za;exact absurd (vQ hl (Nat.le_of_succ_le za)) (Nat.lt_irrefl _)
def zC (hh:A.handled=none)(hS:iS prog w s.heap S ts)(Pn:ts.length<64)
  (hQ:∀(s1:Shared)(h':Heap)(a:Addr)(out:Array Value)(n:Nat)(g:List Str),(∀b u,s.heap.get? b=some u->s1.heap.get? b=some u)->s1.os=s.os->s1.gens=s.gens->(∀b u,s1.heap.get? b=some u->h'.get? b=some u)->s1.heap.objs.size<=a->h'.get? a=some (seqObj "list" out n) ->
   StrsAre out.toList g->g.Perm ts->sortedS g=true->Q (.ref a) { s1 with heap:=h' }):
  wpAny (model prog w) A (call (.builtin "sorted") [.ref S]) Q E s:=by
 refine Calls.call_function_entry kind_sorted plain_sorted entry_sorted (args_sorted1 _) ?_;unfold Builtin.«sorted»;refine wX (m:=checkCount "sorted" 1 1 _) (wY ?_);refine wX (xA (A:=A.in1) (by exact hh) hS λs1 vs hk hg hos T G U=>?_);have M:StrsAre vs (vs.map strOf):=strsAre_map vs U;refine wX (wpAny_newList ?_ (by rw[T,sizeLine_eq];omega));have O:(s1.heap.push (seqObj "list" vs.toArray 0)).get? s1.heap.objs.size=some (seqObj "list" vs.toArray 0):=vY _ rfl;show wpAny _ _ _ _ _ { s1 with heap:=s1.heap.push (seqObj "list" vs.toArray 0) };refine wX (wpAny_holding (wpAny_call_entry slot_list_sort ⟨_,O,rfl⟩ entry_list_sort (list_sort_treeK strKind_oneLt O M.keysOf (λv₁ v₂ aF e=>keyKind_strs (by rw[←e];exact M)) (by rw[T];exact Pn) λOq a1 a2=>⟨_,rfl,?_⟩) (args_list_sort _)));obtain⟨g,b1,b2,b3⟩:=sorted_out_str M a1 a2;obtain⟨e,he⟩:=sortedHeap_at (out:=(arrOf Oq).map (·.2)) O;refine wY ⟨_,rfl,hQ s1 _ _ _ e g hk hos hg (λb u q=>?_) (vT _) he b1 (b2.trans G) b3⟩;have hl:=vX q;rw[sortedHeap_old (vS hl) (by rw[size_push'];exact Nat.lt_succ_of_lt hl)];exact vZ _ q
end
end DL
namespace DL
open PySem PySem.Spec PyProof.Rows L2
def vn (a b:Str):Prop:=¬b.cps.toList<a.cps.toList
def AE:ltCps b.cps.toList a.cps.toList=false↔vn a b:=by rw[ltCps_eq,decide_eq_false_iff_not];rfl
def tz (h:vn a b)(k:vn b c):vn a c:=by
 unfold vn at *;exact List.not_lt.mpr (List.le_trans (List.not_lt.mp h) (List.not_lt.mp k))
def Eh (h:vn a b)(k:vn b a):a=b:=by
 have e:a.cps.toList=b.cps.toList:=List.le_antisymm (List.not_lt.mp h) (List.not_lt.mp k);obtain⟨a⟩:=a;obtain⟨b⟩:=b;have:a=b:=Array.toList_inj.mp e;rw[this]
noncomputable def zD (x:Str):List Str->List Str
 |[]=>[x]
 |y::r=>if ltCps y.cps.toList x.cps.toList then y::zD x r else x::y::r
noncomputable def kn (l:List Str):List Str:=l.foldr zD []
theorem nF (x:Str):∀l,(zD x l).Perm (x::l)
 |[]=>List.Perm.refl _
 |y::r=>by
  unfold zD;split
  ·exact((nF x r).cons y).trans (List.Perm.swap x y r)
  ·exact List.Perm.refl _
theorem dw:∀l,(kn l).Perm l
 |[]=>List.Perm.refl _
 |x::l=>(nF x (kn l)).trans ((dw l).cons x)
theorem t0 (x:Str):∀l,l.Pairwise vn->(zD x l).Pairwise vn
 |[],_=>by simp[zD]
 |y::r,h=>by
  obtain⟨h1,h2⟩:=List.pairwise_cons.mp h;unfold zD;split
  ·rename_i hl;refine List.pairwise_cons.mpr ⟨λz hz=>?_,t0 x r h2⟩;rcases vP ((nF x r).mem_iff.mp hz)with rfl|hz
   ·rw[ltCps_eq,decide_eq_true_eq]at hl;exact λk=>List.lt_irrefl _ (List.lt_trans hl k)
   ·exact h1 z hz
  ·rename_i hl;rw[Bool.not_eq_true]at hl;have g:vn x y:=AE.mp hl;refine List.pairwise_cons.mpr ⟨λz hz=>?_,h⟩;rcases vP hz with rfl|hz
   ·exact g
   ·exact tz g (h1 z hz)
theorem pX:∀l,(kn l).Pairwise vn
 |[]=>List.Pairwise.nil
 |x::l=>t0 x _ (pX l)
theorem oy:∀(l:List Str)(p:Str),risingS p l=true->(p::l).Pairwise vn
 |[],p,_=>List.pairwise_singleton _ _
 |x::r,p,h=>by
  have h':(!ltCps x.cps.toList p.cps.toList && risingS x r)=true:=h;rw[vC]at h';have g:vn p x:=AE.mp (by simpa using h'.1);have G:=oy r x h'.2;refine List.pairwise_cons.mpr ⟨λz hz=>?_,G⟩;rcases vP hz with rfl|hz
  ·exact g
  ·exact tz g ((List.pairwise_cons.mp G).1 z hz)
theorem xB:∀(l:List Str),sortedS l=true->l.Pairwise vn
 |[],_=>List.Pairwise.nil
 |x::r,h=>oy r x h
def xC (a:Str):vn a a:=List.lt_irrefl _
theorem pY:∀(G g:List Str),G.Perm g->G.Pairwise vn->g.Pairwise vn->G=g
 |[],g,p,_,_=>(List.nil_perm.mp p).symm
 |x::T,[],p,_,_=>absurd p.length_eq (by simp)
 |x::T,y::U,p,h1,h2=>by
  have M:vn x y:=by
   rcases vP (p.mem_iff.mpr (mX ..))with z|z
   ·rw[z];exact xC _
   ·exact(List.pairwise_cons.mp h1).1 y z
  have O:vn y x:=by
   rcases vP (p.mem_iff.mp (mX ..))with z|z
   ·rw[z];exact xC _
   ·exact(List.pairwise_cons.mp h2).1 x z
  have e:=Eh M O;subst e;rw[pY T U (List.Perm.cons_inv p) (List.pairwise_cons.mp h1).2 (List.pairwise_cons.mp h2).2]
def Cv (p:l'.Perm l)(h:sortedS l'=true):l'=kn l:=pY _ _ (p.trans (dw l).symm) (xB _ h) (pX l)
section
variable {X:Cx}
noncomputable def Ei (X:Cx)(S:Addr)(g:List Str):HO:=.ext λh=>iS X.prog X.w h S g
def t6 (I:Inv X af σ H s)(k:∀b u,s.heap.get? b=some u->s1.heap.get? b=some u)(ho:s1.os=s.os)(g:s1.gens=s.gens):Inv X af σ H s1:=by
 have G:=I.step (g':=s.gens) (d':=s1.drawn) (t':=s1.toks) (h':=s1.heap) (H':=H) (ch:=[]) (λ_ z=>nomatch z) (λb o _ _ _ e _=>k b o e) (λb o _ _ _ e _=>⟨o.slots,k b o e⟩) (λ_ _ _ _ n=>n)
  (λb o _ e=>⟨o,k b o e⟩) (λ_ _ e=>e) (λ_ _ _ e=>e) (λ_ _ e=>e) (λm hm=>?_) (I.hok.kept k) I.bare
 ·obtain⟨h1,g1,d1,O,T⟩:=s1;cases ho;cases g
  exact G
 ·obtain⟨o,es,M,ho,r⟩:=hm;exact⟨o,es,M,k _ o ho,r⟩
def xD (hc:X.calm=true):cq X (.type "set") (λxs H Q=>∃p ys g,xs=[.ref p]/\gn X.K H p ys/\(∀its,be ys its->StrsAre its g)/\g.length<4000/\∀S,H S=none->Q (.ref S) (upd H S (Ei X S (ia g)))):=by
 intro af s σ H xs us Q I r h;obtain⟨p,ys,g,rfl,hq,hs,O,q⟩:=h;obtain⟨u,rfl,T⟩:=hG r;cases T
 obtain⟨its,U,pl,hz⟩:=I.list hq;have G:=hs its U;have M:its.length=g.length:=by rw[←G.strs,vI]
 refine pU (I.ok.hd hc) pl.isList (by simpa using G) (by simp only[vH];unfold scanBound;omega) λh' tk hS hk=>?_;refine⟨.ref s.heap.objs.size,_,I.laid (t':=tk) (λb u e=>hk b u (vX e) e) (vT _) ?_,rfl,q _ (I.hok.fresh (vT _))⟩;refine⟨hS,?_,λh1 h2 z k=>z.at k⟩;obtain⟨o,_,_,_,ho,_⟩:=hS;exact⟨o,ho⟩
def oW (hc:X.calm=true):cq X (.builtin "sorted") (λxs H Q=>∃S G,xs=[.ref S]/\H S=some (Ei X S G)/\G.length<64/\∀l,H l=none->Q (.ref l) (upd H l (.lst ((kn G).map .str)))):=by
 intro af s σ H xs us Q I r h;obtain⟨S,G,rfl,hS,M,q⟩:=h;obtain⟨u,rfl,rx⟩:=hG r;cases rx
 have hT:iS X.prog X.w s.heap S G:=(I.hok S _ hS).1;refine zC (I.ok.hd hc) hT M λs1 h' a out n ss' k1 ho hg k2 hp he O g T=>?_;have e:=Cv g T;subst e;have U:=t6 I k1 ho hg;have hv:∀ {its:List Value}{zs:List Str},StrsAre its zs->be (zs.map V.str) its:=λz=>by
  induction z with
  |nil=>exact .nil
  |cons x t _ ih=>exact .cons ⟨t,rfl⟩ ih
 refine⟨.ref a,_,U.laid (t':=s1.toks) k2 hp (show cw X.prog X.w _ h' _ (.lst _)from ⟨?_,out.toList,n,hv O,he⟩),rfl,q _ (U.hok.fresh hp)⟩;rw[vI,(dw G).length_eq,sizeLine_eq];omega
end
@[simp] def eU:D->OB
 |.lst ds=>(gO ds).bind λg=>if g.length<64 then some (.lst ((kn (ia g)).map .str),true)else none
 |_=>none
@[simp] def OR:D->OB
 |.lst ds=>(gO ds).bind λg=>if g.length<4000 then some (.int ((ia g).length:Nat),false)else none
 |_=>none
def Ej:bootBuiltins "sorted" = some (.builtin "sorted"):=by decide +kernel
def Nv:bootBuiltins "set" = some (.type "set"):=by decide +kernel
theorem pZ {K:Frag}{N:Hp}:∀(zs:List Str),IsL K N (zs.map V.str) (zs.map D.str)
 |[]=>.nil
 |z::zs=>.cons (.str z) (pZ zs)
section
variable {X:Cx}{e:Expr}{pos pos2 p p2:Pos}
def lL (hc:X.calm=true)(m1:X.mg "sorted" = none)(m2:X.mg "set" = none)(he:JE X e f)(g1:Gl X "sorted":=by rfl)(g2:Gl X "set":=by rfl)
  (h1:starEach [e] X.env=(false,eval e X.env)::starEach [] X.env:=by rfl):JE X (.Call (.Name "sorted" p) [.Call (.Name "set" p2) [e] [] pos2] [] pos) (f1 eU f):=by
 refine PE.to (wI (oW hc) g1 m1 Ej (iI (sC (xD hc) g2 m2 Nv (iI he jX h1) (he:=h1)) jX)) λσ H Q q=>?_;obtain⟨B,ρ,d',bb,sB,r,g,q⟩:=q;obtain⟨T,ex,g⟩:=oX g;refine⟨B,ρ,T.1,T.2,sB,r,ex,λv H1 N1 M i1 fr=>?_⟩;obtain⟨xd,xb⟩:=T;cases i1<;>try (simp[eU]at g;done)
 rename_i l0 vs ds h hl;simp only[eU]at g;obtain⟨O,ez,g⟩:=oX g;split at g
 ·rename_i U;cases g
  refine⟨_,_,O,rfl,M.nh.seq h,λits r'=>km r' hl ez,by omega,λS hS=>⟨S,_,rfl,aH,Nat.lt_of_le_of_lt (mw O) U,λl G=>?_⟩⟩;have x2:=Ext.laid (o:=Ei X S (ia O)) M.nh hS;have x3:=Ext.laid (o:=.lst ((kn (ia O)).map V.str)) x2.nh G;have QS:H l=none:=((M.trans x2).hh).free G;exact q _ _ _ ((M.trans x2).trans x3) (.lst (gn.of aH) (pZ _)) λ_=>⟨_,_,_,rfl,rfl,QS,aH,pZ _⟩
 ·cases g
end
end DL
namespace DL
open PySem PySem.Spec PySem.W PyProof.Rows
inductive Run (n:Nat)(lt:Nat->Nat->Bool){α:Type}:KasT α->α->Prop where
 |ret (a:α):Run n lt (.ret a) a
 |ask {i j:Nat}{k:Bool->KasT α}{a:α}(hi:i<n) (hj:j<n) (h:Run n lt (k (lt i j)) a):Run n lt (.ask i j k) a
def Run.bind {n:Nat}{lt:Nat->Nat->Bool}{α g:Type}{t:KasT α}{f:α->KasT g}{a:α}{b:g}(h:Run n lt t a)(k:Run n lt (f a) b):Run n lt (t.bind f) b:=by
 induction h with
 |ret a=>exact k
 |ask hi hj _ G=>exact .ask hi hj (G k)
def Run.wp {n:Nat}{lt:Nat->Nat->Bool}{α:Type}{g:Nat->Nat->(Bool->Shared->Prop)->Shared->Prop}{Q:α->Shared->Prop}{t:KasT α}{a:α}(J:Shared->Prop)
  (hc:∀i j C s,i<n->j<n->J s->(∀s',J s'->C (lt i j) s')->g i j C s) (h:Run n lt t a):∀ {s:Shared},J s->(∀s',J s'->Q a s')->t.kasWp g Q s:=by
 induction h with
 |ret a=>intro s G M;exact M s G
 |ask hi hj _ T=>intro s G M;exact hc _ _ _ _ hi hj G λs' O=>T O M
section
variable {n:Nat}{rk:Nat->Int}
noncomputable abbrev qc (rk:Nat->Int)(i j:Nat):Bool:=decide (rk i<rk j)
noncomputable def c6 (rk:Nat->Int)(p:Array Nat)(k:Nat):Int:=rk (p.getD k 0)
structure pj (n:Nat)(p:Array Nat):Prop where
 size:p.size=n
 perm:p.toList.Perm (List.range n)
def pj.lt {p:Array Nat}(h:pj n p){k:Nat}(hk:k<n):p.getD k 0<n:=by
 have g:k<p.size:=by rw[h.size];exact hk
 have:p.getD k 0=p[k]:=by rw[Array.getD_eq_getD_getElem?,Array.getElem?_eq_getElem g];rfl
 rw[this];exact List.mem_range.mp (h.perm.mem_iff.mp (by simp))
def pj.rev {p:Array Nat}(h:pj n p)(i j:Nat):pj n (kas_rev p i j) :=
 ⟨(mirror_size _ _ _ _).trans h.size,(Array.perm_iff_toList_perm.mp (mirror_perm p i j _)).trans h.perm⟩
def pj.bub {p:Array Nat}(h:pj n p)(k d:Nat):pj n (bubble p k d) :=
 ⟨(bubble_size _ _ _).trans h.size,(Array.perm_iff_toList_perm.mp (bubble_perm p k d)).trans h.perm⟩
def vp {p:Array Nat}{i j:Nat}(hj:j<=p.size)(k:Nat):c6 rk (kas_rev p i j) k=if i<=k/\k<j then c6 rk p (i+j - 1 - k)else c6 rk p k:=by
 unfold c6 kas_rev;rw[Array.getD_eq_getD_getElem?,getElem?_mirror_all hj];split<;>rw[Array.getD_eq_getD_getElem?]
def Ek {p:Array Nat}{g d:Nat}(hs:g<p.size)(hd:d<=g)(k:Nat):c6 rk (bubble p g d) k=if k=g - d then c6 rk p g else if g - d<k/\k<=g then c6 rk p (k - 1)else c6 rk p k:=by
 unfold c6;simp only[Array.getD_eq_getD_getElem?];rw[getElem?_bubble hs d hd];repeat' split
 all_goals rfl
def Up (rk:Nat->Int)(p:Array Nat)(m:Nat):Prop:=∀i j,i<=j->j<m->c6 rk p i<=c6 rk p j
def vq (rk:Nat->Int)(p:Array Nat)(m:Nat):Prop:=∀i j,i<=j->j<m->c6 rk p j<=c6 rk p i
def La (p:Array Nat):Up rk p 1:=λi j h1 h2=>by
 have:i=j:=by omega
 subst this;exact Int.le_refl _
theorem vt {p:Array Nat}(h:pj n p){r:Nat}(U:r<=n):∀(f m:Nat),r - m=f->1<=m->m<=r->Up rk p m->∃g,Run n (qc rk) (kas_asc p f m) g/\m<=g/\g<=r/\Up rk p g/\(g<r->c6 rk p g<c6 rk p (g - 1))
 |0,m,hf,h1,hm,hu=>⟨m,.ret m,vT _,hm,hu,λz=>by omega⟩
 |f+1,m,hf,h1,hm,hu=>by
  have O:=h.lt (k:=m) (by omega);have T:=h.lt (k:=m - 1) (by omega);by_cases hc:c6 rk p m<c6 rk p (m - 1)
  ·refine⟨m,.ask O T ?_,vT _,hm,hu,λ_=>hc⟩;have:qc rk (p.getD m 0) (p.getD (m - 1) 0)=true:=decide_eq_true hc;rw[this,if_pos rfl];exact .ret m
  ·have G:Up rk p (m+1):=λi j M hj=>by
    by_cases e:j=m
    ·subst e;by_cases e2:i=j
     ·subst e2;exact Int.le_refl _
     ·have:=hu i (j - 1) (by omega) (by omega);omega
    ·exact hu i j M (by omega)
   obtain⟨g,q1,q2,q3,q4,q5⟩:=vt h U f (m+1) (by omega) (by omega) (by omega) G;refine⟨g,.ask O T ?_,by omega,q3,q4,q5⟩;have:qc rk (p.getD m 0) (p.getD (m - 1) 0)=false:=decide_eq_false hc;rw[this,if_neg uX];exact q1
def Hl (rk:Nat->Int)(p:Array Nat)(m q:Nat):Prop:=q+1<=m/\∀k,m - (q+1)<=k->k<m->c6 rk p k=c6 rk p (m - 1)
def xE {p:Array Nat}{m q:Nat}(hs:m<=p.size)(hf:Hl rk p m q)(k:Nat):c6 rk (kas_rev p (m - (q+1)) m) k=c6 rk p k:=by
 rw[vp hs];split
 ·rename_i hk;have h0:=hf.1;rw[hf.2 k hk.1 hk.2,hf.2 _ (by omega) (by omega)]
 ·rfl
def AF {p g:Array Nat}{m:Nat}(e:∀k,c6 rk g k=c6 rk p k)(h:vq rk p m):vq rk g m:=λi j h1 h2=>by rw[e,e];exact h i j h1 h2
def qd (p:Array Nat){m:Nat}(h:1<=m):Hl rk p m 0:=⟨h,λk h1 h2=>by
 have:k=m - 1:=by omega
 rw[this]⟩
theorem mz {r:Nat}(hr:r<=n):∀(f:Nat)(p:Array Nat)(m q:Nat),pj n p->r - m=f->1<=m->m<=r->vq rk p m->Hl rk p m q->∃g G T,Run n (qc rk) (kas_desc f p m q) (g,G,T)/\pj n g/\m<=G/\G<=r/\vq rk g G/\Hl rk g G T
 |0,p,m,q,h,hf,h1,hm,hd,hq=>⟨p,m,q,.ret _,h,vT _,hm,hd,hq⟩
 |f+1,p,m,q,h,hf,h1,hm,hd,hq=>by
  have U:=h.lt (k:=m) (by omega);have a2:=h.lt (k:=m - 1) (by omega);have step:∀g:Array Nat,(∀k,c6 rk g k=c6 rk p k)->c6 rk p m<=c6 rk p (m - 1)->vq rk g (m+1):=λg e IH i j hij hj=>by
   rw[e,e];by_cases z:j=m
   ·subst z;by_cases z2:i=j
    ·subst z2;exact Int.le_refl _
    ·have:=hd i (j - 1) (by omega) (by omega);omega
   ·exact hd i j hij (by omega)
  by_cases hc:c6 rk p m<c6 rk p (m - 1)
  ·have M:qc rk (p.getD m 0) (p.getD (m - 1) 0)=true:=decide_eq_true hc;by_cases hq0:q > 0
   ·have e:=xE (p:=p) (by rw[h.size];omega) hq;obtain⟨g,G,T,g1,g2,g3,g4,g5,g6⟩:=mz hr f (kas_rev p (m - (q+1)) m) (m+1) 0 (h.rev _ _) (by omega) (by omega) (by omega) (step _ e (by omega)) (qd _ (by omega));refine⟨g,G,T,.ask U a2 ?_,g2,by omega,g4,g5,g6⟩;rw[M,if_pos rfl,if_pos hq0];exact g1
   ·obtain⟨g,G,T,g1,g2,g3,g4,g5,g6⟩:=mz hr f p (m+1) 0 h (by omega) (by omega) (by omega) (step _ (λ_=>rfl) (by omega)) (qd _ (by omega));refine⟨g,G,T,.ask U a2 ?_,g2,by omega,g4,g5,g6⟩;rw[M,if_pos rfl,if_neg hq0];exact g1
  ·have M:qc rk (p.getD m 0) (p.getD (m - 1) 0)=false:=decide_eq_false hc;by_cases JB:c6 rk p (m - 1)<c6 rk p m
   ·have O:qc rk (p.getD (m - 1) 0) (p.getD m 0)=true:=decide_eq_true JB;refine⟨p,m,q,.ask U a2 ?_,h,vT _,hm,hd,hq⟩;rw[M,if_neg uX];refine .ask a2 U ?_;rw[O,if_pos rfl];exact .ret _
   ·have O:qc rk (p.getD (m - 1) 0) (p.getD m 0)=false:=decide_eq_false JB;have he:c6 rk p m=c6 rk p (m - 1):=by omega
    obtain⟨g,G,T,g1,g2,g3,g4,g5,g6⟩:=mz hr f p (m+1) (q+1) h (by omega) (by omega) (by omega) (step _ (λ_=>rfl) (by omega)) ⟨by have:=hq.1;omega,λk k1 k2=>by
     rw[Nat.add_sub_cancel];by_cases z:k=m
     ·rw[z]
     ·rw[hq.2 k (by omega) (by omega),he]⟩
    refine⟨g,G,T,.ask U a2 ?_,g2,by omega,g4,g5,g6⟩;rw[M,if_neg uX];refine .ask a2 U ?_;rw[O,if_neg uX];exact g1
def xF {r:Nat}(M:r<=n){p:Array Nat}(h:pj n p){m:Nat}(h1:1<=m)(hm:m<=r)(hd:vq rk p m):∃g G,Run n (qc rk) (kas_tail3 m r p) (g,G)/\pj n G/\1<=g/\g<=r/\Up rk G g:=by
 have hu:Up rk (kas_rev p 0 m) m:=λi j O hj=>by
  rw[vp (by rw[h.size];omega),vp (by rw[h.size];omega),if_pos (by omega),if_pos (by omega)];exact hd _ _ (by omega) (by omega)
 obtain⟨g,T,q2,U,q4,_⟩:=vt (h.rev 0 m) M (r - m) m rfl h1 hm hu;exact⟨g,_,T.bind (.ret _),h.rev 0 m,by omega,U,q4⟩
def xG {r:Nat}(O:r<=n){p:Array Nat}(h:pj n p){m:Nat}(hm:m+1<=r)(hd:vq rk p (m+1)):∃g G,Run n (qc rk) (kas_descPart m r p) (g,G)/\pj n G/\1<=g/\g<=r/\Up rk G g:=by
 obtain⟨p1,M,q1,g1,T,g3,g4,g5,g6⟩:=mz O (r - (m+1)) p (m+1) 0 h rfl (by omega) hm hd (qd _ (by omega));by_cases hq:q1 > 0
 ·obtain⟨g,G,k1,k2,U,k4,k5⟩:=xF O (T.rev (M - (q1+1)) M) (m:=M) (by omega) g4 (AF (xE (by rw[T.size];omega) g6) g5);exact⟨g,G,g1.bind (by dsimp only;rw[if_pos hq];exact k1),k2,U,k4,k5⟩
 ·obtain⟨g,G,k1,k2,U,k4,k5⟩:=xF O T (m:=M) (by omega) g4 g5;exact⟨g,G,g1.bind (by dsimp only;rw[if_neg hq];exact k1),k2,U,k4,k5⟩
def Cw {p:Array Nat}(h:pj n p)(hn:1<=n):∃G M,Run n (qc rk) (kas_count n p) (G,M)/\pj n M/\1<=G/\G<=n/\Up rk M G:=by
 obtain⟨m,U,q2,q3,q4,q5⟩:=vt h (vT n) (n - 1) 1 rfl (vT 1) hn (La (rk:=rk) p);by_cases e:m=n
 ·exact⟨m,p,U.bind (by rw[if_pos (by simp[e])];exact .ret _),h,q2,q3,q4⟩
 ·have T:=q5 (by omega);have e1:¬(m == n)=true:=by simp[e]
  by_cases O:m > 1
  ·by_cases hc:c6 rk p 0<c6 rk p (m - 1)
   ·refine⟨m,p,U.bind ?_,h,q2,q3,q4⟩;rw[if_neg e1,if_pos O];refine .ask (h.lt (by omega)) (h.lt (by omega)) ?_;have:qc rk (p.getD 0 0) (p.getD (m - 1) 0)=true:=decide_eq_true hc;rw[this,if_pos rfl];exact .ret _
   ·have g:∀k,k<m->c6 rk p k=c6 rk p 0:=λk hk=>by
     have z1:=q4 0 k (by omega) hk;have z2:=q4 k (m - 1) (by omega) (by omega);omega
    have er:∀k,c6 rk (kas_rev p 0 m) k=c6 rk p k:=λk=>by
     rw[vp (by rw[h.size];omega)];split
     ·rename_i z;rw[g _ (by omega),g k z.2]
     ·rfl
    have hd:vq rk p (m+1):=λi j hij hj=>by
     by_cases z:j=m
     ·subst z;by_cases z2:i=j
      ·subst z2;exact Int.le_refl _
      ·rw[g i (by omega)];rw[g (j - 1) (by omega)]at T;omega
     ·rw[g i (by omega),g j (by omega)];exact Int.le_refl _
    obtain⟨G,M,k1,k2,k3,k4,k5⟩:=xG (vT n) (h.rev 0 m) (m:=m) (by omega) (AF er hd);refine⟨G,M,U.bind ?_,k2,k3,k4,k5⟩;rw[if_neg e1,if_pos O];refine .ask (h.lt (by omega)) (h.lt (by omega)) ?_;have:qc rk (p.getD 0 0) (p.getD (m - 1) 0)=false:=decide_eq_false hc;rw[this,if_neg uX];exact k1
  ·have em:m=1:=by omega
   subst em;have hd:vq rk p 2:=λi j hij hj=>by
    by_cases z2:i=j
    ·subst z2;exact Int.le_refl _
    ·have:i=0:=by omega
     have:j=1:=by omega
     subst_vars;have:=T;simp at this;omega
   obtain⟨G,M,k1,k2,k3,k4,k5⟩:=xG (vT n) h (m:=1) (by omega) hd;refine⟨G,M,U.bind ?_,k2,k3,k4,k5⟩;rw[if_neg e1,if_neg O];exact k1
theorem nG {p:Array Nat}(h:pj n p){k:Nat}(hk:k<n)(hu:Up rk p k):∀(f l r:Nat),r - l<=f->l<=r->r<=k->(∀i,i<l->c6 rk p i<=c6 rk p k)->(∀i,r<=i->i<k->c6 rk p k<c6 rk p i) ->
  ∃g,Run n (qc rk) (kas_place p k f l r) g/\g<=k/\(∀i,i<g->c6 rk p i<=c6 rk p k)/\(∀i,g<=i->i<k->c6 rk p k<c6 rk p i)
 |0,l,r,hf,hl,hr,h1,h2=>⟨l,.ret l,by omega,h1,λi a b=>h2 i (by omega) b⟩
 |f+1,l,r,hf,hl,hr,h1,h2=>by
  by_cases G:l ≥ r
  ·refine⟨l,?_,by omega,h1,λi a b=>h2 i (by omega) b⟩;unfold kas_place;rw[if_pos G];exact .ret l
  ·by_cases hc:c6 rk p k<c6 rk p ((l+r) / 2)
   ·obtain⟨g,M,O,T,U⟩:=nG h hk hu f l ((l+r) / 2) (by omega) (by omega) (by omega) h1 λi a b=>by
     have:=hu ((l+r) / 2) i a b;omega
    refine⟨g,?_,O,T,U⟩;unfold kas_place;rw[if_neg G];refine .ask (h.lt (by omega)) (h.lt (by omega)) ?_;have:qc rk (p.getD k 0) (p.getD ((l+r) / 2) 0)=true:=decide_eq_true hc;rw[this,if_pos rfl];exact M
   ·obtain⟨g,M,O,T,U⟩:=nG h hk hu f ((l+r) / 2+1) r (by omega) (by omega) hr (λi a=>by
     have:=hu i ((l+r) / 2) (by omega) (by omega);omega) h2
    refine⟨g,?_,O,T,U⟩;unfold kas_place;rw[if_neg G];refine .ask (h.lt (by omega)) (h.lt (by omega)) ?_;have:qc rk (p.getD k 0) (p.getD ((l+r) / 2) 0)=false:=decide_eq_false hc;rw[this,if_neg uX];exact M
theorem AG:∀(f:Nat)(p:Array Nat)(k:Nat),pj n p->n - k=f->k<=n->Up rk p k->∃g,Run n (qc rk) (kas_bin f p k) g/\pj n g/\Up rk g n
 |0,p,k,h,hf,hk,hu=>⟨p,.ret p,h,(show k=n by omega) ▸ hu⟩
 |f+1,p,k,h,hf,hk,hu=>by
  have G:k<n:=by omega
  obtain⟨l,q1,q2,q3,q4⟩:=nG h G hu k 0 k (by omega) (by omega) (vT _) (λi z=>by omega) (λi a b=>by omega);have hsz:k<p.size:=by rw[h.size];exact G
  have O:Up rk (bubble p k (k - l)) (k+1):=λi j T hj=>by
   rw[Ek hsz (by omega),Ek hsz (by omega)];have e:k - (k - l)=l:=by omega
   rw[e];by_cases U:i=l
   ·rw[if_pos U];by_cases M:j=l
    ·rw[if_pos M];exact Int.le_refl _
    ·rw[if_neg M,if_pos (by omega)];have:=q4 (j - 1) (by omega) (by omega);omega
   ·rw[if_neg U];by_cases i2:l<i/\i<=k
    ·rw[if_pos i2,if_neg (by omega),if_pos (by omega)];exact hu _ _ (by omega) (by omega)
    ·rw[if_neg i2];by_cases M:j=l
     ·rw[if_pos M];exact q3 i (by omega)
     ·rw[if_neg M];by_cases j2:l<j/\j<=k
      ·rw[if_pos j2];exact hu _ _ (by omega) (by omega)
      ·rw[if_neg j2];exact hu _ _ T (by omega)
  obtain⟨g,k1,k2,k3⟩:=AG f (bubble p k (k - l)) (k+1) (h.bub _ _) (by omega) (by omega) O;exact⟨g,q1.bind k1,k2,k3⟩
def El (hn:1<=n):∃p,Run n (qc rk) (kas_sort n) p/\pj n p/\Up rk p n:=by
 have h0:pj n (List.toArray (List.range n)):=⟨by simp,by simp⟩;obtain⟨m,p,G,M,q3,q4,O⟩:=Cw (rk:=rk) h0 hn;by_cases e:m<n
 ·have g:max m 1=m:=by omega
  obtain⟨T,k1,k2,U⟩:=AG (n - max m 1) p (max m 1) M rfl (by omega) (by rw[g];exact O);exact⟨T,G.bind (by dsimp only;rw[if_pos e];exact k1),k2,U⟩
 ·have:m=n:=by omega
  subst this;exact⟨p,G.bind (by dsimp only;rw[if_neg e];exact .ret _),M,O⟩
end
def kW {a b c:List Int}(h:a<b)(k:b<c):a<c:=List.lt_trans h k
def Cy {a b c:List Int}(h:¬b<a)(k:¬c<b):¬c<a:=List.not_lt.mpr (List.le_trans (List.not_lt.mp h) (List.not_lt.mp k))
def Em {a b:List Int}(h:¬b<a)(k:¬a<b):a=b:=List.le_antisymm (List.not_lt.mp h) (List.not_lt.mp k)
section
variable {α:Type}(f:α->List Int)
def FZ (a b:α):Prop:=¬f b<f a
noncomputable def zE (x:α):List α->List α
 |[]=>[x]
 |y::r=>if f y<f x then y::zE x r else x::y::r
noncomputable def g7 (l:List α):List α:=l.foldr (zE f) []
theorem nH (x:α):∀l,(zE f x l).Perm (x::l)
 |[]=>List.Perm.refl _
 |y::r=>by
  unfold zE;split
  ·exact((nH x r).cons y).trans (List.Perm.swap x y r)
  ·exact List.Perm.refl _
theorem br:∀l,(g7 f l).Perm l
 |[]=>List.Perm.refl _
 |x::l=>(nH f x (g7 f l)).trans ((br l).cons x)
theorem t7 (x:α):∀l,l.Pairwise (FZ f)->(zE f x l).Pairwise (FZ f)
 |[],_=>by simp[zE]
 |y::r,h=>by
  obtain⟨h1,h2⟩:=List.pairwise_cons.mp h;unfold zE;split
  ·rename_i hl;refine List.pairwise_cons.mpr ⟨λz hz=>?_,t7 x r h2⟩;rcases vP ((nH f x r).mem_iff.mp hz)with rfl|hz
   ·exact λk=>List.lt_irrefl _ (kW hl k)
   ·exact h1 z hz
  ·rename_i hl;refine List.pairwise_cons.mpr ⟨λz hz=>?_,h⟩;rcases vP hz with rfl|hz
   ·exact hl
   ·exact Cy hl (h1 z hz)
theorem fZ:∀l,(g7 f l).Pairwise (FZ f)
 |[]=>List.Pairwise.nil
 |x::l=>t7 f x _ (fZ l)
theorem t8:∀(g G:List α),(∀x∈g,∀y∈g,f x=f y->x=y)->g.Perm G->g.Pairwise (FZ f)->G.Pairwise (FZ f)->g=G
 |[],G,_,p,_,_=>(List.nil_perm.mp p).symm
 |x::M,[],_,p,_,_=>absurd p.length_eq (by simp)
 |x::M,y::U,hi,p,h1,h2=>by
  have hy:y∈x::M:=p.mem_iff.mpr (mX ..);have O:FZ f x y:=by
   rcases vP hy with z|z
   ·rw[z];exact List.lt_irrefl _
   ·exact(List.pairwise_cons.mp h1).1 y z
  have T:FZ f y x:=by
   rcases vP (p.mem_iff.mp (mX ..))with z|z
   ·rw[z];exact List.lt_irrefl _
   ·exact(List.pairwise_cons.mp h2).1 x z
  have e:x=y:=hi x (mX ..) y hy (Em O T);subst e;rw[t8 M U (λa ha b hb=>hi a (mZ _ ha) b (mZ _ hb)) (List.Perm.cons_inv p) (List.pairwise_cons.mp h1).2 (List.pairwise_cons.mp h2).2]
theorem ko (hi:∀x∈l,∀y∈l,f x=f y->x=y)(p:l'.Perm l)(h:l'.Pairwise (FZ f)):l'=g7 f l :=
 t8 f _ _ (λx hx y hy=>hi x (p.mem_iff.mp hx) y (p.mem_iff.mp hy)) (p.trans (br f l).symm) h (fZ f l)
end
theorem lM {α:Type}{p q:α->Bool}(h:∀x,p x=true->q x=true):∀l:List α,(l.filter p).length<=(l.filter q).length
 |[]=>vT _
 |x::l=>by
  have g:=lM h l;rw[List.filter_cons,List.filter_cons];by_cases z:p x=true
  ·rw[if_pos z,if_pos (h x z)];simp only[vE];omega
  ·rw[if_neg z];split
   ·simp only[vE];omega
   ·exact g
noncomputable def m4 (cs:List (List Int))(c:List Int):Int:=((cs.filter λx=>decide (x<c)).length:Nat)
def Hm {cs:List (List Int)}{a b:List Int}(h:¬b<a):m4 cs a<=m4 cs b:=by
 unfold m4;refine Int.ofNat_le.mpr (lM (λx hx=>?_) cs);rw[decide_eq_true_eq]at hx ⊢;rcases List.le_iff_lt_or_eq.mp (List.not_lt.mp h)with z|z
 ·exact kW hx z
 ·rw[←z];exact hx
def AH {cs:List (List Int)}{a b:List Int}(ha:a∈cs)(h:a<b):m4 cs a<m4 cs b:=by
 unfold m4;apply Int.ofNat_lt.mpr;induction cs with
 |nil=>simp at ha
 |cons c cs G=>
  have g:∀l:List (List Int),(l.filter λx=>decide (x<a)).length<=(l.filter λx=>decide (x<b)).length:=λl=>
   lM (λx hx=>by rw[decide_eq_true_eq]at hx ⊢;exact kW hx h) l
  rw[List.filter_cons,List.filter_cons];rcases vP ha with rfl|ha
  ·rw[if_neg (by simp[List.lt_irrefl]),if_pos (by simpa using h)];have:=g cs;simp only[vE];omega
  ·have:=G ha;by_cases z:c<a
   ·rw[if_pos (by simpa using z),if_pos (by simpa using kW z h)];simp only[vE];omega
   ·rw[if_neg (by simpa using z)];split
    ·simp only[vE];omega
    ·exact this
def xH (ha:a∈cs):decide (m4 cs a<m4 cs b)=decide (a<b):=by
 by_cases h:a<b
 ·rw[decide_eq_true h,decide_eq_true (AH ha h)]
 ·rw[decide_eq_false h,decide_eq_false];have:=Hm (cs:=cs) h;omega
inductive At where
 |i (n:Int)
 |s (z:Str)
noncomputable def Lb:At->List Int
 |.i n=>[n]
 |.s z=>z.cps.toList.map (λ(c:Nat)=>(c:Int)+1)++[0]
noncomputable def cH (xs:List At):List Int:=xs.flatMap Lb
noncomputable def aX:List At->List At->Option Bool
 |[],ys=>some (!ys.isEmpty)
 |_::_,[]=>some false
 |.i a::xs,.i b::ys=>if a=b then aX xs ys else some (decide (a<b))
 |.s a::xs,.s b::ys=>if a=b then aX xs ys else some (decide (a.cps.toList<b.cps.toList))
 |_::_,_::_=>none
theorem vv:∀(a b:List Nat)(r g:List Int),(a.map (λ(c:Nat)=>(c:Int)+1)++0::r)<(b.map (λ(c:Nat)=>(c:Int)+1)++0::g)↔a<b∨(a=b/\r<g)
 |[],[],r,g=>by simp[List.cons_lt_cons_iff]
 |[],y::b,r,g=>by simp[List.cons_lt_cons_iff]
 |x::a,[],r,g=>by simp[List.cons_lt_cons_iff];omega
 |x::a,y::b,r,g=>by
  rw[uY,uY,List.cons_append,List.cons_append,List.cons_lt_cons_iff,vv a b r g,List.cons_lt_cons_iff];constructor
  ·rintro (h|⟨h,k|⟨k1,k2⟩⟩)
   ·exact .inl (.inl (by omega))
   ·exact .inl (.inr ⟨by omega,k⟩)
   ·exact .inr ⟨by rw[k1,show x=y by omega],k2⟩
  ·rintro ((h|⟨h,k⟩)|⟨h,k⟩)
   ·exact .inl (by omega)
   ·exact .inr ⟨by omega,.inl k⟩
   ·injection h with h1 h2;exact .inr ⟨by omega,.inr ⟨h2,k⟩⟩
def ji (x:At)(xs:List At):cH (x::xs)=Lb x++cH xs:=by unfold cH;rw[uO]
def Lc (x:At):Lb x≠[]:=by cases x<;>simp[Lb]
def AI {a b:Str}:a.cps.toList=b.cps.toList↔a=b:=by
 constructor
 ·intro h;obtain⟨a⟩:=a;obtain⟨b⟩:=b;have:a=b:=Array.toList_inj.mp h;rw[this]
 ·rintro rfl;rfl
theorem pz:∀(xs ys:List At)(b:Bool),aX xs ys=some b->b=decide (cH xs<cH ys)
 |[],[],b,h=>by simp[aX]at h;subst h;simp[cH]
 |[],y::ys,b,h=>by
  simp[aX]at h;subst h;rw[ji];cases e:Lb y with
  |nil=>exact absurd e (Lc y)
  |cons c cs=>simp[cH]
 |x::xs,[],b,h=>by simp[aX]at h;subst h;simp[cH]
 |.i a::xs,.i c::ys,b,h=>by
  rw[aX]at h;rw[ji,ji];show b=decide (a::cH xs<c::cH ys);split at h
  ·rename_i e;subst e;rw[pz xs ys b h];exact decide_eq_decide.mpr (by rw[List.cons_lt_cons_iff];simp)
  ·rename_i e;cases h
   exact decide_eq_decide.mpr (by rw[List.cons_lt_cons_iff];simp[e])
 |.s a::xs,.s c::ys,b,h=>by
  rw[aX]at h;rw[ji,ji];have g:∀(z:Str)(r:List Int),Lb (.s z)++r=z.cps.toList.map (λ(c:Nat)=>(c:Int)+1)++0::r:=λz r=>by simp[Lb]
  rw[g,g];split at h
  ·rename_i e;subst e;rw[pz xs ys b h];exact decide_eq_decide.mpr (by rw[vv];exact⟨λz=>.inr ⟨rfl,z⟩,λz=>z.elim (λq=>absurd q (List.lt_irrefl _)) (·.2)⟩)
  ·rename_i e;cases h
   exact decide_eq_decide.mpr (by rw[vv,AI];exact⟨.inl,λz=>z.elim id λq=>absurd q.1 e⟩)
 |.i _::_,.s _::_,b,h=>by simp[aX]at h
 |.s _::_,.i _::_,b,h=>by simp[aX]at h
theorem zF:∀(xs ys:List At),aX xs ys=some false->aX ys xs=some false->xs=ys
 |[],[],_,_=>rfl
 |[],y::ys,h,_=>by simp[aX]at h
 |x::xs,[],_,h=>by simp[aX]at h
 |.i a::xs,.i c::ys,h,k=>by
  rw[aX]at h k;by_cases e:a=c
  ·subst e;rw[if_pos rfl]at h k;rw[zF xs ys h k]
  ·rw[if_neg e]at h;rw[if_neg (Ne.symm e)]at k;simp at h k;omega
 |.s a::xs,.s c::ys,h,k=>by
  rw[aX]at h k;by_cases e:a=c
  ·subst e;rw[if_pos rfl]at h k;rw[zF xs ys h k]
  ·rw[if_neg e]at h;rw[if_neg (Ne.symm e)]at k;simp only[Option.some.injEq,decide_eq_false_iff_not]at h k;exact absurd (AI.mp (List.le_antisymm (List.not_lt.mp k) (List.not_lt.mp h))) e
 |.i _::_,.s _::_,h,_=>by simp[aX]at h
 |.s _::_,.i _::_,h,_=>by simp[aX]at h
noncomputable def eN (ks:List (List At)):Bool:=ks.all λx=>ks.all λy=>(aX x y).isSome
def ga (h:eN ks=true)(hx:x∈ks)(hy:y∈ks):aX x y=some (decide (cH x<cH y)):=by
 have:=uR (uR h x hx) y hy;obtain⟨b,e⟩:=uU this;rw[e,pz _ _ _ e]
def nI (h:eN ks=true)(hx:x∈ks)(hy:y∈ks)(e:cH x=cH y):x=y:=by
 refine zF _ _ ?_ ?_
 ·rw[ga h hx hy,e,decide_eq_false (List.lt_irrefl _)]
 ·rw[ga h hy hx,e,decide_eq_false (List.lt_irrefl _)]
def yX:At->Value->Prop
 |.i n,v=>∃t,v=.int n t
 |.s z,v=>∃t,v=.str z t
def gK (h:Heap)(xs:List At)(v:Value):Prop:=∃a o its n,v=.ref a/\h.get? a=some o/\o.cls=.type "tuple"/\o.data=.seq its n/\Paired yX xs its.toList
noncomputable def fG (ks:List (List At)):Bool:=ks.all (λx=>match x with|.i _::_=>true|_=>false) || ks.all (λx=>match x with|.s _::_=>true|_=>false)
section
variable {prog:Program}{w:World}{A:Around}{E:Value->Shared->Prop}{s:Shared}
theorem qe:∀(xs ys:List At)(its g:List Value)(i:Nat),Paired yX xs its->Paired yX ys g->aX xs ys=some b->jb=decide (xs.length<ys.length)->Q b s->KatLex prog w A true jb Q (its.zip g) i s
 |[],ys,_,g,i,.nil,O,h,hf,q=>by
  rw[List.zip_nil_left];refine kat_nil ?_;cases ys with
  |nil=>simp[aX]at h;subst h;rw[hf];exact q
  |cons y ys=>simp[aX]at h;subst h;rw[hf];simpa using q
 |x::xs,[],_,_,i,_,.nil,h,hf,q=>by
  rw[List.zip_nil_right];refine kat_nil ?_;simp[aX]at h;subst h;rw[hf];simpa using q
 |.i a::xs,.i c::ys,_,_,i,.cons T G,.cons O M,h,hf,q=>by
  obtain⟨t,rfl⟩:=T;obtain⟨u,rfl⟩:=O;rw[List.zip_cons_cons];refine kat_cons (wpAny_eqBool_int ?_);rw[aX]at h;by_cases e:a=c
  ·rw[if_pos e]at h;rw[show(a == c)=true by simp[e]];exact kat_yes (qe xs ys _ _ (i+1) G M h (by rw[hf];simp) q)
  ·rw[if_neg e]at h;cases h
   rw[show(a == c)=false by simp[e]];refine kat_no ?_;cases hb:(true && i == 0) with
   |true=>exact oneLt_int q
   |false=>exact kat_one _ _ (PyProof.Rows.lt_int q)
 |.s a::xs,.s c::ys,_,_,i,.cons T G,.cons O M,h,hf,q=>by
  obtain⟨t,rfl⟩:=T;obtain⟨u,rfl⟩:=O;rw[List.zip_cons_cons];refine kat_cons (wpAny_eqBool_str ?_);rw[aX]at h;by_cases e:a=c
  ·rw[if_pos e]at h;rw[decide_eq_true e];exact kat_yes (qe xs ys _ _ (i+1) G M h (by rw[hf];simp) q)
  ·rw[if_neg e]at h;cases h
   rw[decide_eq_false e];refine kat_no ?_;cases hb:(true && i == 0) with
   |true=>exact oneLt_str q
   |false=>exact kat_one _ _ (PySem.P.lt_str q)
 |.i _::_,.s _::_,_,_,_,_,_,h,_,_=>by simp[aX]at h
 |.s _::_,.i _::_,_,_,_,_,_,h,_,_=>by simp[aX]at h
theorem gb {α M:Type}{F:α->M->Prop}:∀ {g:List α}{G:List M},Paired F g G->g.length=G.length
 |_,_,.nil=>rfl
 |_,_,.cons _ t=>by simp[gb t]
def Ld {Q:Bool->Shared->Prop}{xs ys:List At}{x y:Value}{b:Bool}(hx:gK s.heap xs x)(hy:gK s.heap ys y)(h:aX xs ys=some b)(q:Q b s):wpAny (model prog w) A (keyLt' (tuples' true) x y) Q E s:=by
 obtain⟨a,o,its,n,rfl,ho,_,hd,r⟩:=hx;obtain⟨O,o',its',T,rfl,g,_,G,M⟩:=hy;refine kat_lt ho hd g G (qe xs ys _ _ 0 r M h ?_ q);rw[←vG,←vG,gb r,gb M]
theorem oz:∀ {ks:List (List At)}{vs:List Value},Paired (gK h) ks vs->(∀k∈ks,k≠[])->∃fs,KatTups h vs fs/\fs.length=ks.length/\∀v∈fs,∃k r,(k::r)∈ks/\yX k v
 |_,_,.nil,_=>⟨[],trivial,rfl,by simp⟩
 |k::ks,_,.cons x t,g=>by
  obtain⟨fs,h1,h2,h3⟩:=oz t λz hz=>g z (mZ _ hz);obtain⟨a,o,its,n,rfl,ho,hc,hd,r⟩:=x;cases G:its.toList with
  |nil=>
   rw[G]at r;cases r
   exact absurd rfl (g [] (mX ..))
  |cons v vs=>
   rw[G]at r;obtain⟨p,M⟩:∃p,its[0]? = some v:=⟨(),by rw[←Array.getElem?_toList,G];rfl⟩;cases r with
   |cons q qs=>
    rename_i k0 O;refine⟨v::fs,KatTups.cons ho hc hd M h1,by simp[h2],λu hu=>?_⟩;rcases vP hu with rfl|hu
    ·exact⟨k0,O,mX ..,q⟩
    ·obtain⟨k1,M,T,U⟩:=h3 u hu;exact⟨k1,M,mZ _ T,U⟩
def En (hp:Paired (gK s.heap) ks vs)(hf:fG ks=true)(hn:0<ks.length)(q:Q (tuples' true) s):wpAny (model prog w) A (keyKind' vs.toArray) Q E s:=by
 have g:∀k∈ks,k≠[]:=λk hk z=>by
  subst z;unfold fG at hf;rw[Bool.or_eq_true]at hf;rcases hf with hf|hf
  ·have:=uR hf [] hk;simp at this
  ·have:=uR hf [] hk;simp at this
 obtain⟨fs,h1,h2,h3⟩:=oz hp g;unfold fG at hf;rw[Bool.or_eq_true]at hf;rcases hf with hf|hf
 ·refine kat_kind (T:=.type "int") h1 (by omega) (λv hv=>?_) (by decide) q;obtain⟨k,r,m,z⟩:=h3 v hv;have:=uR hf _ m;cases k with
  |i n=>obtain⟨t,rfl⟩:=z;exact .now
  |s G=>simp at this
 ·refine kat_kind (T:=.type "str") h1 (by omega) (λv hv=>?_) (by decide) q;obtain⟨k,r,m,z⟩:=h3 v hv;have:=uR hf _ m;cases k with
  |s G=>obtain⟨t,rfl⟩:=z;exact .now
  |i n=>simp at this
end
section
variable {prog:Program}{w:World}{A:Around}{E:Value->Shared->Prop}{s:Shared}
theorem fh {α M:Type}{F:α->M->Prop}(d:α)(e:M):∀ {g:List α}{G:List M},Paired F g G->∀ {i:Nat},i<g.length->F (g.getD i d) (G.getD i e)
 |_,_,.cons r t,0,_=>r
 |_,_,.cons r t,i+1,h=>by
  simp only[List.getD_cons_succ];exact fh d e t (by simpa using h)
 |_,_,.nil,i,h=>by simp at h
def Ga (ks:List (List At))(i:Nat):Int:=m4 (ks.map cH) (cH (ks.getD i []))
def Hn {ks:List (List At)}{vs:List Value}(hc:eN ks=true)(hp:Paired (gK s.heap) ks vs):∀(i j:Nat)(C:Bool->Shared->Prop)(s1:Shared),i<ks.length->j<ks.length->s1=s->(∀s',s'=s->C (qc (Ga ks) i j) s')->kas_ask prog w A (tuples' true) vs i j C s1:=by
 intro i j C s1 hi hj e G;subst e;unfold kas_ask;have g:ks.getD i []∈ks:=by rw[vF,vU hi];exact List.getElem_mem hi
 have M:ks.getD j []∈ks:=by rw[vF,vU hj];exact List.getElem_mem hj
 refine Ld (fh [] Value.none hp hi) (fh [] Value.none hp hj) (ga hc g M) ?_;have:=G s1 rfl;unfold qc Ga at this;rw[xH (uS ⟨_,g,rfl⟩)]at this;exact this
end
end DL
namespace DL
open PySem PySem.Spec PySem.W PyProof.Rows L2
noncomputable def Jn:D->Option At
 |.int n=>some (.i n)
 |.str z=>some (.s z)
 |_=>none
def dX:List D->Option (List At)
 |[]=>some []
 |d::ds=>(Jn d).bind λa=>(dX ds).map (a :: ·)
def xI:D->Option (List At)
 |.tup es=>dX es
 |_=>none
def dH:List D->Option (List (List At))
 |[]=>some []
 |d::ds=>(xI d).bind λa=>(dH ds).map (a :: ·)
noncomputable def Eo:List D->Option (List Int)
 |[]=>some []
 |.int n::ds=>(Eo ds).map (n :: ·)
 |_::_=>none
def Nw (ns:List Int):List Int:=g7 (λn=>[n]) ns
theorem kX:∀ {ds:List D}{ks:List (List At)},dH ds=some ks->ks.length=ds.length
 |[],_,h=>by simp only[dH]at h;cases h;rfl
 |d::ds,_,h=>by
  simp only[dH]at h;obtain⟨a,h1,h⟩:=oX h;obtain⟨r,h2,h⟩:=oY h;subst h;simp[kX h2]
theorem t9:∀ {ds:List D}{ks:List (List At)},dH ds=some ks->∀ {i:Nat},i<ds.length->xI (ds.getD i .non)=some (ks.getD i [])
 |[],_,h,i,hi=>by simp at hi
 |d::ds,_,h,0,hi=>by
  simp only[dH]at h;obtain⟨a,h1,h⟩:=oX h;obtain⟨r,h2,h⟩:=oY h;subst h;exact h1
 |d::ds,_,h,i+1,hi=>by
  simp only[dH]at h;obtain⟨a,h1,h⟩:=oX h;obtain⟨r,h2,h⟩:=oY h;subst h;simp only[List.getD_cons_succ];exact t9 h2 (by simpa using hi)
section
variable {X:Cx}
theorem xJ {K:Frag}{B:Hp}:∀ {vs:List V}{es:List D}{k:List At}{its:List Value},be vs its->IsL K B vs es->dX es=some k->Paired yX k its
 |_,_,_,_,.nil,.nil,h=>by simp only[dX]at h;cases h;exact .nil
 |_,_,_,_,.cons r g,.cons i G,h=>by
  simp only[dX]at h;obtain⟨a,h1,h⟩:=oX h;obtain⟨t,h2,h⟩:=oY h;subst h;refine .cons ?_ (xJ g G h2);cases i<;>simp only[Jn]at h1<;>cases h1
  ·exact r
  ·exact r
theorem p0 {af:List (Addr×Obj)}{σ:St}{H:Hp}{s:Shared}(I:Inv X af σ H s):∀ {ys:List V}{ds:List D}{ks:List (List At)}{its:List Value},be ys its->IsL X.K H ys ds->dH ds=some ks->Paired (gK s.heap) ks its
 |_,_,_,_,.nil,.nil,h=>by simp only[dH]at h;cases h;exact .nil
 |_,_,_,_,.cons r g,.cons i G,h=>by
  simp only[dH]at h;obtain⟨a,h1,h⟩:=oX h;obtain⟨t,h2,h⟩:=oY h;subst h;refine .cons ?_ (p0 I g G h2);cases i<;>simp only[xI]at h1<;>try (cases h1;done)
  rename_i hq hl;cases r
  obtain⟨its',M,⟨o,ho,hc,n,hd⟩,_⟩:=I.tuple hq;exact⟨_,o,_,n,rfl,ho,hc,hd,by simpa using xJ M hl h1⟩
theorem AJ {K:Frag}{B:Hp}:∀ {vs:List V}{ds:List D},IsL K B vs ds->∀ {i:Nat},i<ds.length->Is K B (vs.getD i .non) (ds.getD i .non)
 |_,_,.cons h _,0,_=>h
 |_,_,.cons _ t,i+1,hi=>by
  simp only[List.getD_cons_succ];exact AJ t (by simpa using hi)
 |_,_,.nil,i,hi=>by simp at hi
theorem xK:∀ {vs:List V}{us:List Value},be vs us->∀ {i:Nat},i<vs.length->bd (vs.getD i .non) (us.getD i Value.none)
 |_,_,.cons h _,0,_=>h
 |_,_,.cons _ t,i+1,hi=>by
  simp only[List.getD_cons_succ];exact xK t (by simpa using hi)
 |_,_,.nil,i,hi=>by simp at hi
theorem xL {K:Frag}{B:Hp}{vs:List V}{ds:List D}(h:IsL K B vs ds):∀(l:List Nat),(∀i∈l,i<ds.length)->IsL K B (l.map λi=>vs.getD i .non) (l.map λi=>ds.getD i .non)
 |[],_=>.nil
 |i::l,hl=>.cons (AJ h (hl i (mX ..))) (xL h l λj hj=>hl j (mZ _ hj))
theorem tE (h:be vs us):∀(l:List Nat),(∀i∈l,i<vs.length)->be (l.map λi=>vs.getD i .non) (l.map λi=>us.getD i Value.none)
 |[],_=>.nil
 |i::l,hl=>.cons (xK h (hl i (mX ..))) (tE h l λj hj=>hl j (mZ _ hj))
end
section
variable {X:Cx}
theorem kP:∀ {its:List Value}{zs:List Int},IntsAre its zs->be (zs.map V.int) its
 |_,_,.nil=>.nil
 |_,_,.cons x t r=>.cons ⟨t,rfl⟩ (kP r)
end
end DL
namespace DL
open PySem PySem.Spec PyProof.Rows L2
section
variable {X:Cx}{pos:Pos}
@[simp] def Uk (i:Nat)(f:FE):FS:=λρ=>match ρ[i]? with
 |some (some (.lst ds,true))=>(f ρ).bind λx=>(Eo ds).bind λns=>match x.1 with
  |.int n=>if ns.findIdx (· == n)<ns.length then some (.nx (ρ.set i (some (.lst ((ns.eraseIdx (ns.findIdx (· == n))).map .int),true))))else none
  |_=>none
 |_=>none
end
section
variable {prog:Program}{w:World}{A:Around}{E:Value->Shared->Prop}{s:Shared}
def zG {a:Addr}{o:Obj}{its:Array Value}{n:Nat}{x:Value}{e:Value->Bool}{j:Nat}{P:PySem.Fin->Shared->Prop}(ho:s.heap.get? a=some o)(hd:o.data=.seq its n)
  (he:∀y∈its,MeetsSeq.EqGives y x (e y)) (hj:j<its.size) (za:e its[j]=true) (G:∀m (hm:m<its.size),m<j->e its[m]=false)
  (h:P (.done (.ret (.int j s.toks))) { s with toks:=s.toks+1 }):wpAny (model prog w) A (Builtin.«tuple.index» ⟨[.ref a,x],[]⟩) P E s:=by
 show wpAny _ _ (Builtin.Tuple.tupleItemsOf (.ref a)>>=_) _ _ s;refine wX (wpAny_tupleItemsOf ho hd ?_);dsimp only;refine wX (wY (wX (wY (wX ?_))));rw[Std.Legacy.Range.forIn_eq_forIn_range'];refine wpAny_forIn_list _
  (λaF r s'=>r.1=none/\s'=s/\∃i,i<=j/\aF=List.range' i (its.size - i))
  _ ?_ ?_ _ _ ⟨rfl,rfl,0,uN _,?_⟩
 ·rintro k aF r s' ⟨T,rfl,i,hi,hz⟩;have g:i<its.size:=by omega
  obtain⟨m,hm⟩:∃m,its.size - i=m+1:=⟨its.size - i - 1,by omega⟩;rw[hm,List.range'_succ]at hz;injection hz with M U;have M:=M.symm;subst M;subst U;have hg:its[i]? = some its[i]:=by simp[g]
  simp only[hg];refine wX (he _ (Array.getElem_mem g) prog w _ _ _ _ ?_);by_cases O:i=j
  ·subst O;rw[za];simp only[if_true];refine wX ?_;show wpAny _ _ (mkInt (i:Int)>>=λv=>ret v) _ _ _;exact wX (wpAny_mkInt (wY (wY (wY h))))
  ·rw[G i g (by omega)];simp only[uV,if_false];exact wY ⟨rfl,rfl,i+1,by omega,by rw[show its.size - (i+1)=m by omega]⟩
 ·rintro⟨r1,r2⟩ s' ⟨T,rfl,i,hi,hz⟩;exfalso;have:(List.range' i (its.size - i)).length=0:=by rw[←hz];rfl
  rw[List.length_range']at this;omega
 ·simp
end
theorem CRows.findT {K:Frag}{P:Params}(y:Str){ds:List D}:∀ {es:List DictEntry}{aQ:List (Str×D)},CRows K P es aQ->aQ.lookup y=some (.tup ds) ->
  ∃e a its n oR,es.find? (λe=>Value.isStrOf y e.key)=some e/\e.val=.ref a/\K.lookup a=some ⟨.type "tuple",none,.seq its n,oR⟩/\j4 its.toList ds=true
 |_,_,.nil,h=>by simp at h
 |_,_,.tup (x:=x) (t:=t) (a:=a) (ds:=p9) hh l f tl,h=>by
  by_cases e:y=x
  ·subst e;rw[List.lookup_cons_self]at h;cases h
   rw[vC]at f;exact⟨_,a,_,_,_,List.find?_cons_of_pos (by simp[Value.isStrOf]),rfl,l,f.2⟩
  ·rw[List.lookup_cons,beq_eq_false_iff_ne.mpr e]at h;have g:Value.isStrOf y (Value.str x t)=false:=by
    rw[Bool.eq_false_iff];intro z;obtain⟨t',q⟩:=Value.isStrOf_shape z;injection q with G;exact e G.symm
   simp only[List.find?_cons,g];exact tl.findT y h
 |_,_,.flat (x:=x) (t:=t) (u:=u) (d:=d) hh f tl,h=>by
  by_cases e:y=x
  ·subst e;rw[List.lookup_cons_self]at h;cases h
   cases u<;>simp[ve]at f
  ·rw[List.lookup_cons,beq_eq_false_iff_ne.mpr e]at h;have g:Value.isStrOf y (Value.str x t)=false:=by
    rw[Bool.eq_false_iff];intro z;obtain⟨t',q⟩:=Value.isStrOf_shape z;injection q with G;exact e G.symm
   simp only[List.find?_cons,g];exact tl.findT y h
section
variable {X:Cx}{b e:Expr}{pos:Pos}{x:Str}{p:Pos}
def Qk (K:Frag):V->List V->Hp->VK->Prop:=λx xs H Q=>∃(a:Addr)(o:Obj)(its:Array Value)(n:Nat)(zs:List Str)(y:Str),x=.ref a/\xs=[.str y]/\K.lookup a=some o/\o.cls=.type "tuple"/\o.data=.seq its n/\StrsAre its.toList zs/\zs.findIdx (· == y)<zs.length/\Q (.int (zs.findIdx (· == y):Nat)) H
noncomputable def Jo (y:Str):Value->Bool
 |.str z _=>z == y
 |_=>false
theorem AK:∀ {its:List Value}{zs:List Str},StrsAre its zs->∀(i:Nat)(hi:i<its.length),∃(h:i<zs.length)(t:Tok),its[i]=.str zs[i] t
 |_,_,.cons z t h,0,_=>⟨by simp,t,rfl⟩
 |_,_,.cons z t h,i+1,hi=>by
  obtain⟨h',t',e⟩:=AK h i (by simpa using hi);exact⟨by simpa using h',t',by simpa using e⟩
 |_,_,.nil,i,hi=>by simp at hi
theorem xM:∀ {its:List Value}{zs:List Str},StrsAre its zs->its.length=zs.length
 |_,_,.nil=>rfl
 |_,_,.cons _ _ h=>by rw[vE,vE,xM h]
def Ep:G2 X "tuple.index" (Qk X.K):=by
 intro af s σ H x xs v us Q I M O h;obtain⟨a,o,its,n,zs,y,rfl,rfl,T,hc,hd,hz,hk,q⟩:=h;cases M
 obtain⟨u,rfl,⟨t,rfl⟩⟩:=O.one;have ho:=I.kIn a o T;have hl:=xM hz;rw[vG]at hl;have at':∀(i:Nat)(hi:i<its.size),∃(h:i<zs.length)(t:Tok),its[i]=.str zs[i] t:=λi hi=>by
  obtain⟨h',t',e⟩:=AK hz i (by simpa using hi);exact⟨h',t',by simpa using e⟩
 refine wpAny_call_entry PySem.F.slot_tuple_index ⟨o,ho,hc⟩ PySem.F.entry_tuple_index (zG (e:=Jo y) (j:=zs.findIdx (· == y)) ho hd (λz hm=>?_) (by omega) ?_ (λm hm G=>?_) ⟨_,rfl,.int (zs.findIdx (· == y):Nat),H,I.tok _,⟨_,rfl⟩,q⟩) (PySem.F.args_tuple_index_2 _ _)
 ·obtain⟨i,hi,rfl⟩:=Array.mem_iff_getElem.mp hm;obtain⟨_,t',g⟩:=at' i hi;rw[g];exact eqGives_str _ _ _ _
 ·obtain⟨_,t',g⟩:=at' (zs.findIdx (· == y)) (by omega);rw[g];exact List.findIdx_getElem (p:=(· == y)) (w:=hk)
 ·obtain⟨_,t',g⟩:=at' m hm;rw[g];have:=List.not_of_lt_findIdx (p:=(· == y)) (xs:=zs) G;simpa [Jo]using this
@[simp] def oZ (aQ:List (Str×D)):D->D->OB
 |.str y,.str z=>match aQ.lookup y with
  |some (.tup ds)=>(gO ds).bind λzs=>if zs.findIdx (· == z)<zs.length then some (.int (zs.findIdx (· == z):Nat),false)else none
  |_=>none
 |_,_=>none
def Ho {aQ:List (Str×D)}{f g:FE}{dG cI:Pos}(h:∃d,X.mg x=some (.ref d)/\sY X.K X.w.params d aQ)(hb:JE X b f)(he:JE X e g)(hg:Gl X x:=by rfl)(QT:(x == ("__debug__" : Str))=false:=by decide)(hs:uw b:=by intro _ _;rfl)
  (M:attributeBase (.Subscript (.Name x p) b pos) "index" X.env (eval (.Subscript (.Name x p) b pos) X.env)=eval (.Subscript (.Name x p) b pos) X.env:=by rfl)
  (U:((backTo cI (starEach [e] X.env)).all (λx=>!x.1) && (backToKw cI (keywordEach [] X.env)).all (λx=>x.1.isSome)
   && decide ([e].length+([]:List Keyword).length+(if([]:List Keyword).isEmpty then 0 else 1)<30))=true:=by rfl)
  (O:(dG.endLine == cI.line)=true:=by rfl) (Mj:starEach [e] X.env=[(false,eval e X.env)]:=by rfl):
  JE X (.Call (.Attribute (.Subscript (.Name x p) b pos) "index" dG) [e] [] cI) (f2 (oZ aQ) f g):=by
 obtain⟨d,hm,cd⟩:=h;have ix:FW X (λx y H Q=>∃z ds,x=.ref d/\y=.str z/\aQ.lookup z=some (.tup ds)/\∀a its n oR,X.K.lookup a=some ⟨.type "tuple",none,.seq its n,oR⟩->j4 its.toList ds=true->Q (.ref a) H):=by
  intro value slice af s σ H x y v u Q I rx ry q hs;obtain⟨z,ds,rfl,rfl,el,q⟩:=q;cases rx
  obtain⟨t,rfl⟩:=ry;obtain⟨es,n,l,r,sm⟩:=cd;have hM:=PySem.W.mapOf_K (prog:=X.prog) (w:=X.w) I.kIn l r.lit;obtain⟨en,a,its,n',oR,e1,e2,e3,e4⟩:=r.findT z el;have ff:findBy Value.isStrOf es z=some (.ref a):=by
   unfold findBy;obtain⟨es⟩:=es;rw[List.find?_toArray,e1,←e2];rfl
  exact tail_any hM.typeIs slot_dict_getitem.lookup (wpAny_getItem_of (strKind_is X.prog X.w z t) hM ff ⟨.ref a,H,I.tok _,rfl,q a _ _ _ e3 e4⟩) hs
 refine PE.to (Dz (T:="tuple") PySem.F.plainAttrs_tuple PySem.F.slot_tuple_index PySem.F.type_tuple_index Ep (IX ix (Ao (v:=.ref d) hg hm rfl QT) hb hs) (iI he jX Mj) M U O Mj rfl) λσ H Q q=>?_;obtain⟨B,ρ,d',bb,sB,r,G,q⟩:=q;obtain⟨x1,ex,G⟩:=oX G;obtain⟨y1,ey,G⟩:=oX G;obtain⟨xd,xb⟩:=x1;obtain⟨yd,yb⟩:=y1;cases xd with
 |str z=>
  cases yd with
  |str y=>
   refine⟨B,ρ,_,xb,sB,r,ex,λv H1 N1 xt i1 _=>?_⟩;cases i1
   simp only[oZ]at G;split at G
   ·rename_i ds el;obtain⟨zs,ez,G⟩:=oX G;split at G
    ·rename_i hk;cases G
     refine⟨z,ds,rfl,rfl,el,λa its n oR l fl=>⟨.inr (.inl ⟨rfl,_,l,rfl,rfl⟩),N1,ρ,_,yb,xt.nh,r.mono xt.bn,ey,λv2 H2 N2 Op i2 _=>?_⟩⟩;cases i2
     obtain⟨vs,rv,iv⟩:=j5 (K:=X.K) fl;exact⟨a,_,its,n,zs,y,rfl,rfl,l,rfl,rfl,km rv (iv N2) ez,hk,(q.into (xt.trans Op)).one Op.nh (.int _)⟩
    ·cases G
   ·cases G
  |_=>simp[oZ]at G
 |_=>simp[oZ]at G
end
open PySem.W (tabIn tabObj CodeHd kla_fn kla_obj kla_eval kla_makeFunction kla_makeFunctionHit kla_callFunE kla_codeExpr envX)
def Nx (K:Frag)(c P:Addr):Prop:=∃o vs G T g tg O M U,K.lookup c=some o/\o.cls=.type "code"/\o.data=.fields vs/\vs[11]? = some (.ref P)/\vs.getD 11 .none=.ref P/\vs.getD 18 .none=.str G T /\
 vs.getD 7 .none=.int g tg/\vs.getD 9 .none=.bool O/\vs.getD 10 .none=.int M U/\c≠P
def zH (K:Frag)(x:Str):Prop:=∃c P,tabIn K x=some (c,P)/\Nx K c P
def Er (H:Hp)(f:Addr)(q:Str)(params:Arguments)(g:Expr)(scope:Scope)(cl:List (Str×Addr)):Prop :=
 ∃pm c G u oc M vs t,H f=some (.frz (kla_obj "<lambda>" q params g scope cl pm c G) u)/\H c=some (.frz oc M)/\oc.data=.fields vs/\vs[1]? = some (.str q t)
def Er.mono (h:Er H f q params body scope cl)(e:bf H H'):Er H' f q params body scope cl :=
 let ⟨pm,c,g,u,oc,G,vs,t,h1,h2,h3,h4⟩:=h;⟨pm,c,g,u,oc,G,vs,t,e _ _ h1,e _ _ h2,h3,h4⟩
def lam_mk {K:Frag}{x:Str}{f c P:Addr}{oc:Value}{od V3:Option Addr}{oR O:Array (Option Value)}{fd:FuncData}{vs:Array Value}{G:Str}{tf tg tt:Tok}{g M:Int}{T:Bool}(e1:nsIn K mainGlobals x=some (some (.ref f)))(e2:K.lookup f=some ⟨oc,od,.func fd,oR⟩)
  (e3:fd.code=.ref c) (e4:K.lookup c=some ⟨.type "code",V3,.fields vs,O⟩) (e5:vs[11]? = some (.ref P)) (e6:vs.getD 11 .none=.ref P) (e7:vs.getD 18 .none=.str G tf) (e8:vs.getD 7 .none=.int g tg) (e9:vs.getD 9 .none=.bool T) (V4:vs.getD 10 .none=.int M tt) (U:(c == P)=false):zH K x :=
 ⟨c,P,tab_yes e1 e2 e3 e4 e5,_,vs,G,tf,g,tg,T,M,tt,e4,rfl,rfl,e5,e6,e7,e8,e9,V4,λz=>by rw[z]at U;simp at U⟩
def zI (l:List Value)(h:TriplesOk l)(e:codeAmong pos (l++[rawInt a,rawInt b,c])=some cv):codeAmong pos l=some cv∨cv=c:=by
 fun_induction TriplesOk l with
 |case1=>
  simp only[List.nil_append,rawInt,codeAmong]at e;split at e
  ·cases e;exact .inr rfl
  ·cases e
 |case2 G t b' u x aF g=>
  simp only[List.cons_append,codeAmong]at e ⊢;split at e
  ·rename_i hc;rw[if_pos hc];exact .inl e
  ·rename_i hc;rw[if_neg hc];exact g h e
 |case3 l h1 h2=>exact h.elim
section
variable {X:Cx}{af:List (Addr×Obj)}{σ:St}{H:Hp}{s:Shared}
def Es 
  (hx:x∈mm) (L:zH X.K x) (hc:∀c P,tabIn X.K x=some (c,P)->X.env.code=.ref c) (hq:X.env.qual ++ "<lambda>" = pK x) (QU:defaultsOf params X.env=([],[])) (Gd:closureFor scope X.env=pure cl)
  (I:Inv X af σ H s) (tb:Tb X.K H) (k:∀f H' s',Inv X af σ H' s'->bf H H'->Er H' f (pK x) params body scope cl->Q (.ref f) s'):
  wq X (eval (.Lambda params body scope pos) X.env) Q E s:=by
 refine kla_eval QU ?_;rw[hq];obtain⟨c,P,ht,o,vs,QV,tf,U,tg,V5,QW,tt,lk,ck⟩:=L;have G:=hc c P ht;have hP:=tb x hx c P ht;obtain⟨ps,e,tr,co⟩:=I.hok P _ hP;have C:CodeHd s.heap c P:=⟨o,vs,QV,tf,U,tg,V5,QW,tt,I.kIn c o lk,ck⟩;have hg:s.heap.Ns mainGlobals X.mg:=I.mod.glob.keeps I.bk;have nP:∀b,H b=none->b≠P:=λb n z=>by rw[z,hP]at n;cases n
 have V6:mainGlobals≠P:=by
  obtain⟨og,_,_,eg,_⟩:=I.mod.glob;exact nP _ (I.bs _ _ eg).2
 have hb:s.heap.BuiltinsAt X.mg P:=by
  obtain⟨bm,ob,b1,b2,b3,b4,b5,b6⟩:=I.mod.bmain;refine⟨bm,ob,b1,b2,λz=>?_,nP _ (I.bs _ _ b3).2,I.bk _ _ b3,b4,b5,b6⟩;obtain⟨og,es,ep,eg,dg,_⟩:=I.mod.glob;rw[z,eg]at b3;cases b3;rw[dg]at b6;cases b6
 cases hf:codeAmong pos ps.toList with
 |some cv=>
  obtain⟨g,oc,u,ws,t,rfl,hH,hd,hv⟩:=co pos cv hf;refine kla_makeFunctionHit (mg:=X.mg) Gd I.ok.glob hg G C e tr hf hb λM h' tk hk hsz=>?_;have hn:H h'.objs.size=none:=I.hok.fresh hsz;have O:bf H (upd H h'.objs.size (.frz (kla_obj "<lambda>" (pK x) params body scope cl ((X.mg "__name__").getD .none) g M) (.own h'.objs.size))):=λb u q=>by rw[aM (bg q hn)];exact q
  refine k _ _ _ (I.laid (t':=tk) (λb u q=>vZ _ (hk b u q)) hsz (show cw X.prog X.w _ _ _ (.frz _ (.own h'.objs.size))from ⟨vY _ rfl,_,vY _ rfl⟩)) O ?_;exact⟨_,g,M,_,oc,u,ws,t,aH,O _ _ hH,hd,hv⟩
 |none=>
  refine kla_makeFunction (mg:=X.mg) Gd I.ok.glob hg G C e tr hf V6 hb λg M h' tk hx' hge wA hrec QX=>?_;obtain⟨c2,oc,ws,t,e2,IA,hd,hv⟩:=hrec;cases e2
  have Oz:H g=none:=I.hok.fresh hge;have hsz:s.heap.objs.size<=h'.objs.size:=vR hge (Nat.le_of_lt wA);have V7:H h'.objs.size=none:=I.hok.fresh hsz;have V8:g≠h'.objs.size:=vS wA;let fo:Obj:=kla_obj "<lambda>" (pK x) params body scope cl ((X.mg "__name__").getD .none) g M;let H1:Hp:=upd (upd H g (.frz oc (.own g))) h'.objs.size (.frz fo (.own h'.objs.size));have O:bf H H1:=λb u q=>by
   show upd _ _ _ b=_;rw[aM (bg q V7),aM (bg q Oz)];exact q
  have QY:H1 g=some (.frz oc (.own g)):=by show upd _ _ _ g=_;rw[aM V8,aH]
  have keep:∀b u,b≠P->s.heap.get? b=some u->(h'.push fo).get? b=some u:=λb u n q=>vZ _ (hx' b u n q);have lt:∀b u,s.heap.get? b=some u->b≠g/\b≠h'.objs.size:=λb u q=>⟨vS (vQ (vX q) hge),vS (vQ (vX q) hsz)⟩;have T:(h'.push fo).get? P=some (tabObj (ps++#[rawInt pos.line,rawInt pos.col,.ref g])):=vZ _ QX;refine k _ H1 _ (I.un (t':=tk) (h':=h'.push fo) ⟨λb u q n _ _=>keep b u (nP b n) q,λb u q n _ _=>⟨u.slots,keep b u (nP b n) q⟩,λb u q n _=>?_,λb u q _=>?_,λb xs q=>O _ _ q,λb ob u q=>O _ _ q,λb u q=>O _ _ q⟩ λb u q=>?_) O ⟨_,g,M,_,oc,_,ws,t,aH,QY,hd,hv⟩
  ·show upd _ _ _ b=_;rw[aM (lt b u q).2,aM (lt b u q).1];exact n
  ·by_cases z:b=P
   ·subst z;exact⟨_,T⟩
   ·exact⟨u,keep b u z q⟩
  ·by_cases z1:b=h'.objs.size
   ·subst z1;have q':some (HO.frz fo (.own h'.objs.size))=some u:=by rw[←q];exact aH.symm
    cases q'
    exact⟨vY _ rfl,_,vY _ rfl⟩
   ·by_cases z2:b=g
    ·subst z2;rw[QY]at q;cases q;exact⟨vZ _ IA,_,vZ _ IA⟩
    ·have q':H b=some u:=by
      have:H1 b=H b:=by show upd _ _ _ b=_;rw[aM z1,aM z2]
      rw[←this];exact q
     by_cases z3:b=P
     ·subst z3;rw[hP]at q';cases q';refine⟨_,T,?_,λFN cv' ea=>?_⟩
      ·rw[Array.toList_append];exact TriplesOk_snoc _ _ _ _ tr
      ·rw[Array.toList_append]at ea;rcases zI _ tr ea with ea|rfl
       ·obtain⟨c3,V9,u3,VA,t3,y1,y2,y3⟩:=co FN cv' ea;exact⟨c3,V9,u3,VA,t3,y1,O _ _ y2,y3⟩
       ·exact⟨g,oc,_,ws,t,rfl,QY,hd,hv⟩
     ·refine(I.hok b u q').stay (λd v QZ r=>keep d v ?_ r) (λd r=>O _ _ r) (λd xs r=>O _ _ r) λd ob v r=>O _ _ r;rcases QZ with rfl|r
      ·exact z3
      ·intro z;rw[z,hP]at r;cases r
end
section
variable {P:Program}{w:World}{K:Frag}{mg:Str->Option Value}{base:Heap}
def cX.fnL {x:Str}{st:Stmt}{N ps:List Str}{k:Nat}{g:FS}{h:Heap}(F:cX K x st)(X:K.In h)(G:h.Ns mainGlobals mg)(S:FnScope N ps (aW st))
  (O:∀(kV doc pm:Value)(an:Option Addr)(eQ ct:Value)(us:List Value),us.length=ps.length->bindArgs (fnOf x x (gp st) (cL st) (aW st) .none kV doc pm an eQ ct) ⟨us,[]⟩=pure (ps.zip us))
  (hb:∀(f:Addr)(eQ:Value)(A:Around)(outer:List PySem.Env)(s:Shared)(H:Hp)(E:XK),(∀c P,tabIn K x=some (c,P)->eQ=.ref c)->eV k (A.deeper (envOfC x (aW st) s.heap.objs.size f eQ))->uE (oS yT P w K mg base N x (aW st) f eQ A outer s H E).nox (cL st) g):
  Fn P w K mg base (k+1) x (aJ g ps.length (N.length - ps.length)):=by
 obtain⟨f,fd,T,a⟩:=F;have F2:=T;obtain⟨oc,od,kV,doc,pm,an,eQ,ct,oR,rfl,lk,U⟩:=F2.ex;have hc:∀c P,tabIn K x=some (c,P)->eQ=.ref c:=λc P e=>by
  unfold tabIn at e;simp only[a,lk]at e;split at e
  ·rename_i c' _;split at e
   ·split at e
    ·cases e;rfl
    ·cases e
   ·cases e
  ·cases e
 have len:∀vs H Q E,GV K (aJ g ps.length (N.length - ps.length)) vs H Q E->vs.length=ps.length:=λvs H Q E h=>by
  obtain⟨B,ds,d,b,sB,i,e,q⟩:=h;unfold aJ at e;split at e
  ·rename_i hl;rw[i.length];exact hl
  ·cases e
 refine⟨f,_,ps,IW lk U S len λA outer s H vs Q E hr h=>⟨_,sr.nox (hb f eQ A outer s H E hc hr),?_⟩,mg_of X G a,T.kp,T.binds O⟩;have M:=len vs H Q E h;obtain⟨B,ds,d,b,sB,i,e,q⟩:=h;unfold aJ at e;rw[if_pos (by rw[←i.length];exact M)]at e;have s0:=wU (N:=N) sB.1 sB.2 i;rw[M]at s0;split at e
 ·rename_i d' b' eg;cases e
  exact⟨B,H,_,_,⟨B,s0⟩,eg,λv H' N' x' i' f'=>q v H' N' x' i' f'⟩
 ·rename_i ρ' eg;cases e
  exact⟨B,H,_,_,⟨B,s0⟩,eg,λσ' H' ⟨N',s'⟩=>q .non H' N' s'.ext .non (by simp)⟩
 ·cases e
end
inductive lE (X:Cx)(N':List Str)(scope:Scope)(cl:List (Str×Addr)):Nat->List Nat->Prop where
 |nil {j:Nat}(h:N'.length=j):lE X N' scope cl j []
 |cons {j i:Nat}{r:List Nat}{x:Str}(h1:N'[j]? = some x) (h2:X.N[i]? = some x) (h3:X.env.kindOf x=some .cell∨X.env.kindOf x=some .free)
   (h4:scope.names.lookup x=some .free) (h5:cl.lookup x=X.env.cells.lookup x) (t:lE X N' scope cl (j+1) r):lE X N' scope cl j (i::r)
theorem lE.len:∀ {j:Nat}{cap:List Nat},lE X N' scope cl j cap->N'.length=j+cap.length
 |_,_,.nil h=>by rw[h];rfl
 |j,i::r,.cons _ _ _ _ _ t=>by rw[t.len,vE];omega
theorem lE.get:∀ {j:Nat}{cap:List Nat}{k i:Nat},lE X N' scope cl j cap->cap[k]? = some i->∃x,N'[j+k]? = some x/\X.N[i]? = some x/\(X.env.kindOf x=some .cell∨X.env.kindOf x=some .free) /\
  scope.names.lookup x=some .free/\cl.lookup x=X.env.cells.lookup x
 |_,_,_,_,.nil _,e=>by simp at e
 |j,_,0,_,.cons h1 h2 h3 h4 h5 _,e=>by simp at e;subst e;exact⟨_,h1,h2,h3,h4,h5⟩
 |j,_,k+1,i,.cons _ _ _ _ _ t,e=>by
  obtain⟨x,q,r⟩:=t.get (k:=k) (i:=i) (by simpa using e);exact⟨x,by rw[show j+(k+1)=j+1+k by omega];exact q,r⟩
noncomputable abbrev xN (X:Cx)(N':List Str)(scope:Scope)(cl:List (Str×Addr))(q:Str)(A:Around)(f c:Addr)(s:Shared)(H:Hp):Cx :=
 { X with A:=A.deeper (envX q scope s.heap.objs.size f (.ref c) cl),N:=N',s₀:=s,H₀:=H,env:=envX q scope s.heap.objs.size f (.ref c) cl,outer:=X.stack,stack:=envX q scope s.heap.objs.size f (.ref c) cl::X.stack,ex:=[],fn:=λ_=>false,calm:=true,pn:=[],xe:=λ_ _=>False }
structure LamSc (X:Cx)(scope:Scope)(cl:List (Str×Addr))(y:Str):Prop where
 clos:closureFor scope X.env=pure cl
 nocell:∀z∈scope.names,z.2≠.cell
 kind:scope.kind=.function
 co:scope.isCoroutine=false
 gen:scope.isGenerator=false
 par:scope.names.lookup y=some .local
 sub:∀x c,cl.lookup x=some c->X.env.cells.lookup x=some c
 has:∀x,scope.names.lookup x=some .free->∃c,cl.lookup x=some c
def AL (h1:∀z∈scope.names,z.2≠.cell)(h2:scope.kind=.function)(h3:scope.isCoroutine=false)(g:scope.isGenerator=false)(hp:scope.names.lookup y=some .local)
  (G:(scope.names.all λz=>!(z.2 == NameKind.free) || (X.env.cells.lookup z.1).isSome)=true):LamSc X scope (dR scope.names X.env.cells []) y:=by
 have h4:∀z∈scope.names,z.2=.free->(X.env.cells.lookup z.1).isSome=true:=λz hz e=>by
  have:=uR G z hz;rw[e]at this;simpa using this
 exact⟨sQ scope.names [] h4,h1,h2,h3,g,hp,λx c e=>mo scope.names [] (λy d q=>by cases q) e,λx h=>by
  have:=mq (x:=x) scope.names [] (fY h) (h4 _ (fY h) rfl);exact uU this⟩
section
variable {X:Cx}{af:List (Addr×Obj)}{σ:St}{H:Hp}{s:Shared}{A:Around}{N':List Str}{scope:Scope}{cl:List (Str×Addr)}{q y:Str}{cap:List Nat}
def Hq (S:LamSc X scope cl y)(N0:N'[0]? = some y)(cp:lE X N' scope cl 1 cap)(I:Inv X af σ H s)(hA:A.frames=some X.stack)(hh:A.handled=none)(r:bd v u)
  (LD:h₁.Ns s.heap.objs.size (λx=>[(y,u)].reverse.lookup x)) (hk:∀b o,s.heap.get? b=some o->h₁.get? b=some o):
  Inv (xN X N' scope cl q A f c s H) [] (some v::rS 0 cap σ) H { s with heap:=h₁,toks:=tk }:=by
 have G:∀b:Addr,b∉(xN X N' scope cl q A f c s H).ex:=λb z=>absurd (show b∈([]:List Addr)from z) (by simp);refine⟨⟨I.ok.mod,S.kind,rfl,rfl,vT _,λx z d T e2=>I.ok.inj x z d (S.sub _ _ T) (S.sub _ _ e2),λx hx=>?_,(λx d e=>by cases e),λ_=>hh,Around.frames_deeper hA,.inr ⟨rfl,rfl⟩,λb z=>absurd z (G b),I.bs,vR I.ok.bsz I.sz,λb _ _=>G b,λb z=>absurd z (G b),I.stack,I.stkFree⟩,
  rfl,I.bare,Un.kept hk,⟨_,LD,λi x U T e2 e3=>?_⟩,λx d e=>?_,I.hok.fresh (vT _),λx d e=>I.freeC x d (S.sub _ _ e),λp hp=>absurd (show p∈([]:List (Addr×Obj))from hp) (by simp),I.hok.kept hk,?_⟩
 ·have hx':scope.names.lookup x=some .cell∨scope.names.lookup x=some .free:=hx;rcases hx' with hx'|hx'
  ·exact absurd rfl (S.nocell _ (fY hx'))
  ·exact S.has x hx'
 ·cases i with
  |zero=>
   have g:N'[0]? = some x:=T;rw[N0]at g;cases g;have M:some v=some U:=by simpa using e2
   cases M
   exact⟨u,r,.inl ⟨S.par,by simp⟩⟩
  |succ k=>
   have M:(rS 0 cap σ)[k]? = some (some U):=by simpa using e2
   obtain⟨k',i',J9,g1,O⟩:=uG M;have:k=k':=by omega
   subst this;obtain⟨x',n1,n2,n3,n4,n5⟩:=cp.get g1;have:x'=x:=by
    have g:N'[k+1]? = some x:=T;rw[show 1+k=k+1 by omega]at n1;rw[n1]at g;exact vK g
   subst this;have VB:σ[i']? = some (some U):=by
    cases z:σ[i']? with
    |none=>rw[z]at O;cases O
    |some w=>rw[z]at O;cases w with
     |none=>cases O
     |some w=>cases O;rfl
   obtain⟨m,_,hl⟩:=I.loc;obtain⟨u',ru,lk⟩:=hl i' x' U n2 VB (by
    rcases n3 with n3|n3
    ·exact .inr (.inl n3)
    ·exact .inr (.inr n3))
   refine⟨u',ru,.inr ⟨.inr n4,?_⟩⟩;rcases lk with⟨l1,_⟩|⟨_,d,l2,l3⟩
   ·rcases n3 with n3|n3<;>(rw[l1]at n3;cases n3)
   ·obtain⟨ob,ho,hd⟩:=l3;exact⟨d,by show cl.lookup x'=_;rw[n5];exact l2,ob,hk _ _ ho,hd⟩
 ·obtain⟨w,ob,ho,hd⟩:=I.cell x d (S.sub _ _ e);exact⟨w,ob,hk _ _ ho,hd⟩
 ·have:=cp.len;show(some v::rS 0 cap σ).length=N'.length;unfold rS;rw[this];simp;omega
def Hr (S:LamSc X scope cl y)(N0:N'[0]? = some y)(cp:lE X N' scope cl 1 cap)(I:Inv X af σ H s)
  (hA:A.frames=some X.stack) (hh:A.handled=none) (g:A.depth<recursionLimit) (lv:Er H f q params body scope cl)
  (G:∀pm c O u,bindArgs (kla_fn "<lambda>" q params body scope cl pm (.ref c) O) ⟨[u],[]⟩=pure [(y,u)])
  (hb:∀(f c:Addr)(s:Shared)(H:Hp),JE (xN X N' scope cl q A f c s H) body fb)
  (rep:fP X.K B σ ρ) (sB:bf B H) (r:bd v u) (i:Is X.K B v d) (e:fb (some (d,false)::dS 0 cap ρ)=some (d',b')) (qf:Fin X.K B H d' b' Q):
  wpAny (model X.prog X.w) A (call (.ref f) [u]) (EP X af σ Q) (λ_ _=>False) s:=by
 obtain⟨pm,c,O,uf,oc,u',ws,t,hf,hc,hd,hv⟩:=lv;have ho:=(I.hok f _ hf).1;have IA:=(I.hok c _ hc).1;refine wpAny_call (codeAny_mono (R:=λr s'=>CR yT X.stack X.prog X.w H s Q (λ_ _ _=>False) r s') ?_ λr s' hq=>?_)
 ·refine kla_callFunE g ho rfl S.co S.gen rfl ⟨c,oc,ws,t,rfl,IA,hd,hv⟩ ?_;rw[G];refine wY (wpAny_newFunctionEnv S.nocell (λz hz=>by rw[uT hz];exact S.par) (λT LD U=>⟨I.nolimit.fresh _ U,?_⟩) S.kind);have M:∀b o,s.heap.get? b=some o->T.get? b=some o:=λb o e=>U.extBut b o (vS (vX e)) (vZ _ e);have J:=Hq (f:=f) (c:=c) (q:=q) (tk:=s.toks+1) S N0 cp I hA hh r LD M;refine kla_codeExpr (wpAny_mono (hb f c s H [] _ _ H Q J ⟨B,_,d',b',sB,⟨rep.tb,λj e0 b0 z=>?_⟩,e,qf⟩) (λw s' hw=>?_) λ_ _ z=>z.elim)
  ·cases j with
   |zero=>
    have z':some (d,false)=some (e0,b0):=by simpa using z
    cases z'
    exact⟨v,rfl,i⟩
   |succ j=>
    obtain⟨w,h1,h2⟩:=(rep.caps (nT:=0) (cap:=cap)).at' j e0 b0 (by simpa using z);exact⟨w,by simpa using h1,h2⟩
  ·obtain⟨v',H',J',rv,qv⟩:=hw;exact⟨v',H',J'.os,J'.bare,J'.base,J'.hok,rv,qv⟩
 ·cases r with
  |error e=>exact False.elim hq
  |ok fl=>
   cases fl with
   |ret w=>exact I.after hq
   |next=>exact False.elim hq
   |brk=>exact False.elim hq
   |cont=>exact False.elim hq
end
end DL
namespace DL
open PySem PySem.Spec PySem.W PyProof.Rows L2
section
variable {X:Cx}{af:List (Addr×Obj)}{σ:St}{H:Hp}{s:Shared}{h':Heap}{t':Nat}
def nJ (I:Inv X ((p,o)::af) σ H s):∀x c,X.env.cells.lookup x=some c->c≠p:=λx c e z=>by
 have g:=I.pin (p,o) (mY _ mX);obtain⟨v,ob,ho,hd⟩:=I.cell x c e;rw[z,g.1]at ho;cases ho;exact g.2.2.2.2 v hd
def kq (I:Inv X (p::af) σ H s):Inv X af σ H s:=I.pins_of λq hq=>I.pin q (mY _ (mZ _ hq))
def ib (I:Inv X ((p,o)::af) σ H s)(h0:X.s₀.heap.objs.size<=p)(hp:∀q∈X.pn++af,q.1≠p)(k:∀b u,b≠p->s.heap.get? b=some u->h'.get? b=some u)(G:h'.get? p=some o')(M:∀v,o'.data≠.cell v):
  Inv X ((p,o')::af) σ H { s with heap:=h',toks:=t' }:=by
 have g:=I.pin (p,o) (mY _ mX);have J:=(kq I).turned (t':=t') k g.2.1 g.2.2.1 (.inr h0) (nJ I) hp;refine J.pins_of λq hq=>?_;rcases vP hq with rfl|hq
 ·exact⟨G,g.2.1,g.2.2.1,g.2.2.2.1,M⟩
 ·exact J.pin q (mY _ hq)
def p4 (I:Inv X af σ H s)(k:∀b u,s.heap.get? b=some u->h'.get? b=some u)(hs:s.heap.objs.size<=p)(g:h'.get? p=some o)(G:∀v,o.data≠.cell v):Inv X ((p,o)::af) σ H { s with heap:=h',toks:=t' }:=by
 have J:=I.kept (t':=t') k;refine J.pins_of λq hq=>?_;rcases vP hq with rfl|hq
 ·exact⟨g,I.hok.fresh hs,Nat.ne_of_gt (vQ I.lt hs),I.nofs hs,G⟩
 ·exact J.pin q (mY _ hq)
def Hs (I:Inv X ((p,o)::af) σ H s)(h0:X.s₀.heap.objs.size<=p)(hp:∀q∈X.pn++af,q.1≠p)(k:∀b u,b≠p->s.heap.get? b=some u->h'.get? b=some u)(O:∃u,h'.get? p=some u)
  (new:cw X.prog X.w (upd H p ob) h' p ob):Inv X af σ (upd H p ob) { s with heap:=h',toks:=t' }:=by
 have g:=I.pin (p,o) (mY _ mX);have hn:=g.2.1;have hn:H p=none:=hn;have cs:=nJ I;refine(kq I).step (g':=s.gens) (d':=s.drawn) (ch:=[p]) (λb hb=>?_) (λb u _ _ hc e _=>k b u (λz=>hc (by simp[z])) e) (λb u _ _ hc e _=>⟨u.slots,k b u (λz=>hc (by simp[z])) e⟩) (λb u hc _ n=>by rw[aM (λz=>hc (by simp[z]))];exact n)
  (λb u hc e=>⟨u,k b u (λz=>hc (by simp[z])) e⟩) (λb xs e=>by rw[aM (bg e hn)];exact e) (λb u w e=>by rw[aM (bg e hn)];exact e) (λb q e=>by rw[aM (bg e hn)];exact e) (λm hm=>?_) (λb u e=>?_) I.bare
 ·have z:b=p:=by simpa using hb
  subst z;exact⟨.inr h0,g.2.2.1,cs,hp⟩
 ·obtain⟨G,es,M,ho,r⟩:=hm;exact⟨G,es,M,k _ G (λz=>g.2.2.1 z.symm) ho,r⟩
 ·by_cases z:b=p
  ·subst z;rw[aH]at e;cases e;exact new
  ·rw[aM z]at e;refine(I.hok b u e).stay (λc v hc q=>k c v ?_ q) (λc q=>?_) (λc xs q=>?_) λc w xs q=>?_
   ·rcases hc with rfl|hc
    ·exact z
    ·exact bg hc hn
   ·rw[aM (bg q hn)];exact q
   ·rw[aM (bg q hn)];exact q
   ·rw[aM (bg q hn)];exact q
end
def AM (X:Cx)(A:Around)(σ:St)(g:Value)(B G:Hp)(M:D->Option D):Prop :=
 ∀(af:List (Addr×Obj))(s:Shared)(H N:Hp)(v:V)(u:Value)(d d':D),Inv X af σ H s->bf G H->bf B N->bf N H->Is X.K N v d->bd v u->M d=some d' ->
  wpAny (model X.prog X.w) A (call g [u]) (EP X af σ λO H'=>∃N',Ext N N' H H'/\Is X.K N' O d') (λ_ _=>False) s
def JK (X:Cx)(A:Around)(e:Expr)(M:Env->D->Option D):Prop:=∀(af:List (Addr×Obj))(s:Shared)(σ:St)(H B:Hp)(ρ:Env)(Q:Value->Shared->Prop)(E:Value->Shared->Prop),Inv X af σ H s->bf B H->fP X.K B σ ρ ->
 (∀G g s1,Inv X af σ g s1->bf H g->AM X A σ (.ref G) B g (M ρ)->Q (.ref G) s1)->wq X (eval e X.env) Q E s
section
variable {X:Cx}{A:Around}
@[simp] def qg (cap:List Nat)(g:FE):Env->D->Option D:=λρ d=>(g (some (d,false)::dS 0 cap ρ)).map (·.1)
def vw (hx:x∈mm)(L:zH X.K x)(hc:∀c P,tabIn X.K x=some (c,P)->X.env.code=.ref c)(hq:X.env.qual ++ "<lambda>" = pK x)
  (G:defaultsOf params X.env=([],[])) (S:LamSc X scope (dR scope.names X.env.cells []) y) (N0:N'[0]? = some y) (cp:lE X N' scope (dR scope.names X.env.cells []) 1 cap) (hA:A.frames=X.A.frames) (M:eV (k+1) A)
  (g:∀pm c O u,bindArgs (kla_fn "<lambda>" (pK x) params body scope (dR scope.names X.env.cells []) pm (.ref c) O) ⟨[u],[]⟩=pure [(y,u)])
  (hb:∀(f c:Addr)(s:Shared)(H:Hp),eV k (xN X N' scope (dR scope.names X.env.cells []) (pK x) A f c s H).A->JE (xN X N' scope (dR scope.names X.env.cells []) (pK x) A f c s H) body fb):JK X A (.Lambda params body scope pos) (qg cap fb):=by
 intro af s σ H B ρ Q E I sB rep kk;refine Es hx L hc hq G S.clos I (rep.tb.mono sB) λf H1 s1 I1 sm lv=>kk f H1 s1 I1 sm ?_;intro T s' H' N v u d d' U m1 m2 m3 iv r e;simp only[qg]at e;obtain⟨⟨d2,b2⟩,e1,e2⟩:=oY e;cases e2
 exact Hr S N0 cp U (hA.trans U.ok.frames) M.hd M.depth (lv.mono m1) g (λf c s H=>hb f c s H (M.deeper _)) (rep.mono m2) m3 r iv e1 λv' H2 N2 x2 i2 _=>⟨N2,x2,i2⟩
@[simp] noncomputable def rY (g:List D->OB):Env->D->Option D:=λ_ d=>(g [d]).map (·.1)
def AN (F:Fn X.prog X.w X.K X.mg X.base k x g)(hr:eV k A)(hA:A.frames=X.A.frames)(hg:Gl X x:=by rfl)(M:(x == ("__debug__" : Str))=false:=by decide):JK X A (.Name x p) (rY g):=by
 intro af s σ H B ρ Q E I sB rep kk;obtain⟨ad,fd,ps,U,hm,hk,hb⟩:=F.ex;refine uq I hg hm ?_ M;refine kk ad H s I (.refl H) ?_;intro O s' H' N v u d d' T m1 m2 m3 iv r e;simp only[rY]at e;obtain⟨⟨d2,b2⟩,e1,e2⟩:=oY e;cases e2
 have sp:GV X.K g [v] H' (λv' H2=>∃N',Ext N N' H' H2/\Is X.K N' v' d2) (λ_ _ _=>False):=⟨N,[d],d2,b2,⟨m3,rep.tb.mono m2⟩,.cons iv .nil,e1,λv' H2 N2 x2 i2 _=>⟨N2,x2,i2⟩⟩;have hl:[u].length=ps.length:=by have:=U.len _ _ _ _ sp;simpa using this
 have G:=T.env0;have bb:=hb s' [u] T.kIn (by simpa using hl);rw[uQ]at bb;refine wpAny_call (codeAny_mono (U.run A X.stack s' H' ⟨[u],[]⟩ [u] [v] _ (λ_ _ _=>False) hr ⟨hA.trans G.frames,G.mod,G.bs,G.bsz,G.funs,G.frf,G.hok,G.bare⟩ bb (.cons r .nil) sp) λr s' hq=>?_);cases r with
 |error e=>exact False.elim hq
 |ok fl=>
  cases fl with
  |ret w=>exact T.after hq
  |next=>exact False.elim hq
  |brk=>exact False.elim hq
  |cont=>exact False.elim hq
end
noncomputable def jj (f:D->Option D):List D->Option (List D)
 |[]=>some []
 |d::ds=>(f d).bind λx=>(jj f ds).map (x :: ·)
theorem kx:∀ {ds ks:List D},jj f ds=some ks->ks.length=ds.length
 |[],_,h=>by simp only[jj]at h;cases h;rfl
 |d::ds,_,h=>by
  simp only[jj]at h;obtain⟨a,h1,h⟩:=oX h;obtain⟨r,h2,h⟩:=oY h;subst h;simp[kx h2]
theorem qh:∀ {ds ks:List D},jj f ds=some ks->∀ {i:Nat}{d:D},ds[i]? = some d->∃k,ks[i]? = some k/\f d=some k
 |[],_,h,i,d,e=>by simp at e
 |d::ds,_,h,0,e,q=>by
  simp only[jj]at h;obtain⟨a,h1,h⟩:=oX h;obtain⟨r,h2,h⟩:=oY h;subst h;simp at q;subst q;exact⟨a,by simp,h1⟩
 |d::ds,_,h,i+1,e,q=>by
  simp only[jj]at h;obtain⟨a,h1,h⟩:=oX h;obtain⟨r,h2,h⟩:=oY h;subst h;obtain⟨k,g,G⟩:=qh h2 (i:=i) (d:=e) (by simpa using q);exact⟨k,by simpa using g,G⟩
structure KK (X:Cx)(A:Around)(kd:List D->Option (List (List At)))(ok:List (List At)->Bool):Prop where
 len:∀ {ds:List D}{ks:List (List At)},kd ds=some ks->ks.length=ds.length
 ask:∀ {af:List (Addr×Obj)}{σ:St}{H:Hp}{s:Shared}(_:Inv X af σ H s) {ys:List V}{ds:List D}{ks:List (List At)}{its:List Value},be ys its->IsL X.K H ys ds->kd ds=some ks->ok ks=true->eN ks=true ->
  (0<ks.length->∀ {E:Value->Shared->Prop}{Q:SortKind->Shared->Prop},Q (tuples' true) s->wpAny (model X.prog X.w) A (keyKind' its.toArray) Q E s) /\
  ∀(i j:Nat)(C:Bool->Shared->Prop)(s1:Shared),i<ks.length->j<ks.length->s1=s->(∀s',s'=s->C (qc (Ga ks) i j) s')->kas_ask X.prog X.w A (tuples' true) its i j C s1
def Et:KK X A dH fG:=⟨kX,λI _ _ _ _ r i e hf hc=>have hp:=p0 I r i e;⟨λhn _ _ q=>En hp hf hn q,Hn hc hp⟩⟩
section
variable {X:Cx}{af:List (Addr×Obj)}{σ:St}{s:Shared}
theorem tF (r:bd x u):∀ {vs:List V}{us:List Value},be vs us->be (vs++[x]) (us++[u])
 |_,_,.nil=>.cons r .nil
 |_,_,.cons h t=>.cons h (tF r t)
def dz:∀v,(Obj.mk c od (.seq its n) sl).data≠.cell v:=λv z=>by cases z
def zJ 
  (I:Inv X ((a,seqObj "list" its.toArray n)::af) σ H s) (h0:X.s₀.heap.objs.size<=a) (hp:∀q∈X.pn++af,q.1≠a) (Ge:AM X A σ qv B H kf) (rv:be vs its) (iv:IsL X.K B vs ds) (sB:bf B H)
  (M:KK X A kd ok) (em:jj kf ds=some ju) (ek:kd ju=some ks) (hc:eN ks=true) (hf:ok ks=true) (Pn:its.length<64)
  (h:∀(p:Array Nat)(s':Shared)(H' N:Hp),pj its.length p->Up (Ga ks) p its.length->Inv X af σ (upd H' a (.lst (p.toList.map λi=>vs.getD i .non))) s'->Ext B N H H'->H' a=none->P (.done (.ret .none)) s'):
  wpAny (model X.prog X.w) A (ksk_tree a qv false) P E s:=by
 have pa:=I.pin (a,seqObj "list" its.toArray n) (mY _ mX)
 have LC:vs.length=its.length:=rv.length
 have Mh:ds.length=vs.length:=iv.length.symm
 have VC:ju.length=ds.length:=kx em
 have Tj:ks.length=ju.length:=M.len ek
 have hz:its.length<=sizeLine:=by rw[sizeLine_eq];omega
 have Xc:H a=none:=pa.2.1
 obtain⟨O,Mg⟩:∃O,(s.heap.update a (Obj.mapSeq λ_=>(#[]:Array Value))).get? a=some (seqObj "list" #[] O):=⟨_,get?_update_seq pa.1 λ_=>#[]⟩
 have u1:=vW s.heap a (Obj.mapSeq λ_=>(#[]:Array Value))
 have I1:Inv X ((a,seqObj "list" #[] O)::af) σ H { s with heap:=s.heap.update a (Obj.mapSeq λ_=>(#[]:Array Value)) }:=ib (t':=s.toks) I h0 hp (λb u n q=>(u1.2 b n).trans q) Mg dz
 let h2:Heap:=(s.heap.update a (Obj.mapSeq λ_=>(#[]:Array Value))).push (seqObj "tuple" its.toArray 0)
 have I2:Inv X ((a,seqObj "list" #[] O)::af) σ H { s with heap:=h2 }:=I1.kept (t':=s.toks) λb u q=>vZ _ q
 let kS:Addr:=h2.objs.size
 have I3:Inv X ((kS,seqObj "list" #[] 0)::(a,seqObj "list" #[] O)::af) σ H { s with heap:=h2.push (seqObj "list" #[] 0) }:=p4 (s:={ s with heap:=h2 }) (t':=s.toks) I2 (λb u q=>vZ _ q) (vT _) (vY _ rfl) dz
 have k0:X.s₀.heap.objs.size<=kS:=I2.sz
 have kp:∀q∈X.pn++((a,seqObj "list" #[] O)::af),q.1≠kS:=λq hq=>vS (vX (I2.pin q hq).1)
 have Xd:kS≠a:=λz=>kp (a,seqObj "list" #[] O) (mY _ mX) z.symm
 unfold ksk_tree
 refine wX (listItems_at pa.1 rfl ?_)
 refine wX (listUpdate_at pa.1 rfl ?_ (by simpa using hz) (uN _))
 refine wX (seqEpoch_at Mg rfl ?_)
 refine wX (wpAny_newTuple ?_ (by show its.length<=sizeLine;exact hz))
 refine wX (wpAny_newList ?_ (uN _))
 refine wpAny_holding ?_
 show wpAny (model X.prog X.w) A (ksk_rest a qv false its.toArray O (.ref kS)) P E { s with heap:=h2.push (seqObj "list" #[] 0) }
 unfold ksk_rest
 refine wX (wpAny_rule ?_)
 rw[List.forIn_toArray]
 refine wX (ksk_fold (λi s'=>∃(H' N:Hp)(kA:Array Value)(e:Nat)(aQ:List V),Inv X ((kS,seqObj "list" kA e)::(a,seqObj "list" #[] O)::af) σ H' s'/\Ext B N H H'/\be aQ kA.toList/\IsL X.K N aQ (ju.take i)) its 0 _
  ⟨H,B,#[],0,[],I3,.refl sB,.nil,by simpa using IsL.nil⟩ ?step ?done)
 case step=>
  rintro j u s' hu ⟨H',N,kA,e,aQ,J,U,rk,ik⟩
  simp only[Nat.zero_add]at ik ⊢
  have hj:j<its.length:=(vV hu).1
  obtain⟨d,hd⟩:∃d,ds[j]? = some d:=⟨_,vU (by omega)⟩
  obtain⟨v,hv,O0⟩:=iv.get hd
  obtain⟨kd,VD,Ra⟩:=qh em hd
  obtain⟨u',Tk,ru⟩:=rv.get hv
  rw[hu]at Tk;cases Tk
  have kl:kA.size=j:=by
   have z1:=rk.length
   have z2:=ik.length
   rw[List.length_take]at z2
   rw[vG]at z1
   exact z1.symm.trans (z2.trans (Nat.min_eq_left (by omega)))
  refine wX (wpAny_attempt (wpAny_mono (Ge _ s' H' N v u d kd J U.hh U.bn U.nh (O0.mono U.bn) ru Ra) (λw Oy hw=>?_) λ_ _ hF=>hF.elim))
  obtain⟨v',VE,J',VF,N',x2,i2⟩:=hw
  have pk:=J'.pin (kS,seqObj "list" kA e) (mY _ mX)
  obtain⟨c2,JB⟩:∃c2,(Oy.heap.update kS (Obj.mapSeq (·.push w))).get? kS=some (seqObj "list" (kA.push w) c2):=⟨_,get?_update_seq pk.1 (·.push w)⟩
  have u2:=vW Oy.heap kS (Obj.mapSeq (·.push w))
  refine wX (listUpdate_at pk.1 rfl ?_ (by rw[sizeLine_eq];omega) (vR (Nat.le_of_eq (Array.size_push ..)) (by rw[sizeLine_eq];omega)))
  refine wY ⟨rfl,VE,N',kA.push w,c2,aQ++[v'],ib (t':=Oy.toks) J' k0 kp (λb q n z=>(u2.2 b n).trans z) JB dz,U.trans x2,?_,?_⟩
  ·rw[Array.toList_push];exact tF VF rk
  ·rw[List.take_add_one,VD];exact(ik.mono x2.bn).append (.cons i2 .nil)
 case done=>
  rintro s' ⟨H',N,kA,e,aQ,J,U,rk,ik⟩
  have Tl:IsL X.K N aQ ju:=by
   have z:ju.take (0+its.length)=ju:=List.take_of_length_le (by omega)
   rw[z]at ik;exact ik
  have pk:=J.pin (kS,seqObj "list" kA e) (mY _ mX)
  have VG:=J.pin (a,seqObj "list" #[] O) (mY _ (mZ _ mX))
  have NW:H' a=none:=VG.2.1
  have kz:kA.toList.length=its.length:=by rw[←rk.length,Tl.length];omega
  have Tn:kA.size=its.length:=by rw[←vG];exact kz
  refine wX (listItems_at pk.1 rfl ?_)
  have To:=M.ask J rk (Tl.mono U.nh) ek hf hc
  -- the end of the sort,for a permutation p
  have O1:∀(st:SortSt)(p:Array Nat),arrOf st=p.map (kas_item (kA.toList.toArray.zip its.toArray))->failedOf st=none->pj its.length p->Up (Ga ks) p its.length ->
    wpAny (model X.prog X.w) A (ksk_tail a false O (.ref kS) st) P E s':=λst p ea ef ap up=>by
   have eo:(arrOf st).map (·.2)=List.toArray (p.toList.map λi=>its.getD i Value.none):=kat_snds kz ea
   have IK:∀i∈p.toList,i<vs.length:=λi hi=>by
    have:=List.mem_range.mp (ap.perm.mem_iff.mp hi)
    omega
   obtain⟨c3,VH⟩:∃c3,(s'.heap.update kS (Obj.mapSeq λ_=>(#[]:Array Value))).get? kS=some (seqObj "list" #[] c3):=⟨_,get?_update_seq pk.1 λ_=>#[]⟩
   have u3:=vW s'.heap kS (Obj.mapSeq λ_=>(#[]:Array Value))
   have J3:=kq (ib (t':=s'.toks) J k0 kp (λb q n z=>(u3.2 b n).trans z) VH dz)
   have Rb:=J3.pin (a,seqObj "list" #[] O) (mY _ mX)
   obtain⟨c4,Tp⟩:∃c4,((s'.heap.update kS (Obj.mapSeq λ_=>(#[]:Array Value))).update a (Obj.mapSeq λ_=>(arrOf st).map (·.2))).get? a=some (seqObj "list" ((arrOf st).map (·.2)) c4):=⟨_,get?_update_seq Rb.1 λ_=>(arrOf st).map (·.2)⟩
   have u4:=vW (s'.heap.update kS (Obj.mapSeq λ_=>(#[]:Array Value))) a (Obj.mapSeq λ_=>(arrOf st).map (·.2))
   have so:((arrOf st).map (·.2)).size=its.length:=by rw[eo];simp only[vH,vI,vG,ap.size]
   unfold ksk_tail
   try dsimp only
   refine wX (listUpdate_at pk.1 rfl ?_ (by rw[Tn,sizeLine_eq];omega) (uN _))
   refine wX (wpAny_letGo ?_)
   refine wX (seqEpoch_at Rb.1 rfl ?_)
   refine wX (listUpdate_at Rb.1 rfl ?_ (uN _) (by simp only[uV,if_false];rw[so,sizeLine_eq];omega))
   rw[ef]
   simp only[bne_self_eq_false,uV,if_false]
   refine wY (h p _ H' N ap up (Hs (s:={ s' with heap:=s'.heap.update kS (Obj.mapSeq λ_=>(#[]:Array Value)) }) (t':=s'.toks) J3 h0 hp (λb q n z=>(u4.2 b n).trans z) ⟨_,Tp⟩ ?_) U NW)
   refine⟨by rw[vI,vG,ap.size];exact hz,p.toList.map λi=>its.getD i Value.none,c4,tE rv p.toList IK,?_⟩
   rw[←eo];exact Tp
  unfold ksk_end
  try dsimp only
  simp only[uV,if_false]
  have VI:kA=kA.toList.toArray:=by simp
  by_cases g:its.toArray.size<2
  ·rw[if_pos g,if_pos g]
   refine wX (wY ?_)
   rw[StateT.run_pure]
   refine wX (wY ?_)
   have Tq:its.length<2:=by simpa using g
   refine O1 _ (List.toArray (List.range its.length)) ?_ rfl ⟨by simp,by simp⟩ ?_
   ·show kA.zip its.toArray=_
    have:=kas_range (kA.toList.toArray.zip its.toArray)
    rw[show(kA.toList.toArray.zip its.toArray).size=its.length by simp[Tn]]at this
    rw[this]
   ·intro i j hij hj
    have:i=j:=by omega
    subst this;exact Int.le_refl _
  ·rw[if_neg g,if_neg g]
   have Rc:2<=its.length:=by simp at g;omega
   rw[VI]
   refine wX (To.1 (by omega) ?_)
   obtain⟨p,r1,r2,r3⟩:=El (n:=its.length) (rk:=Ga ks) (by omega)
   refine wX (wpAny_mono (kat_run (E:=E) (ks:=kA.toList) (vs:=its) (κ:=tuples' true) (s:=s') (Q:=λT s2=>s2=s'/\arrOf T=p.map (kas_item (kA.toList.toArray.zip its.toArray))/\failedOf T=none)
    (G:=λp' s2=>p'=p/\s2=s') kz Rc Pn (λp' T s2 _ e2 e3 e4=>by
     obtain⟨rfl,rfl⟩:=e4
     exact⟨rfl,e2,e3⟩) (Run.wp (λs2=>s2=s') (λi j C s2 hi hj e hC=>To.2 i j C s2 (by omega) (by omega) e hC) r1 rfl λs2 e=>⟨rfl,e⟩)) (λr s2 hr=>?_) λ_ _ z=>z)
   obtain⟨⟨⟩,T⟩:=r
   obtain⟨rfl,e2,e3⟩:=hr
   exact O1 T p e2 e3 r2 r3
end
theorem xO {α g:Type}{f:α->g}:∀ {l:List α},(l.map f).Nodup->l.Nodup
 |[],_=>List.nodup_nil
 |a::l,h=>by
  rw[uY,List.nodup_cons]at h;exact List.nodup_cons.mpr ⟨λz=>h.1 (uS ⟨a,z,rfl⟩),xO h.2⟩
def jk (ks:List (List At))(ds:List D):List D:=(g7 (λp:List At×D=>cH p.1) (ks.zip ds)).map (·.2)
def Eu {α O:Type}(d:α)(e:O):∀ {G:List α}{g:List O},G.length=g.length->(List.range g.length).map (λi=>(G.getD i d,g.getD i e))=G.zip g:=λ{G g} h=>by
 apply List.ext_getElem?;intro i;by_cases hi:i<g.length
 ·have M:i<G.length:=by omega
  have:=(List.getElem?_zip_eq_some (z:=(G[i],g[i]))).mpr ⟨vU M,vU hi⟩;rw[this];simp[hi,M]
 ·simp[hi,h]
def Ht {α M:Type}{g:List α}{G:List M}(nd:g.Nodup){a:α}{b c:M}(h1:(a,b)∈g.zip G)(h2:(a,c)∈g.zip G):b=c:=by
 obtain⟨i,hi⟩:=List.mem_iff_getElem?.mp h1;obtain⟨j,hj⟩:=List.mem_iff_getElem?.mp h2;obtain⟨T,U⟩:=List.getElem?_zip_eq_some.mp hi;obtain⟨j1,O⟩:=List.getElem?_zip_eq_some.mp hj;obtain⟨li,ei⟩:=vV T;obtain⟨lj,ej⟩:=vV j1;have:i=j:=(List.getElem_inj nd).mp (ei.trans ej.symm);subst this;rw[U]at O;exact vK O
def zK {ds:List D}{ks:List (List At)}{p:Array Nat}(hl:ks.length=ds.length)(hc:eN ks=true)(nd:ks.Nodup)(g:pj ds.length p)(T:Up (Ga ks) p ds.length):p.toList.map (λi=>ds.getD i .non)=jk ks ds:=by
 unfold jk;have e:p.toList.map (λi=>(ks.getD i [],ds.getD i .non))=g7 (λp:List At×D=>cH p.1) (ks.zip ds):=by
  apply ko
  ·intro x hx y hy e;have mx:=(List.of_mem_zip hx).1;have U:=(List.of_mem_zip hy).1;have:=nI hc mx U e;obtain⟨k1,d1⟩:=x;obtain⟨k2,d2⟩:=y;have z:k1=k2:=this;subst z;rw[Ht nd hx hy]
  ·have:=g.perm.map (λi=>(ks.getD i [],ds.getD i D.non));rw[Eu [] D.non hl]at this;exact this
  ·rw[List.pairwise_iff_getElem];intro i j hi hj G;have hsz:=g.size;have M:i<p.size:=by simpa using hi
   have O:j<p.size:=by simpa using hj
   have:=T i j (Nat.le_of_lt G) (by omega);unfold c6 Ga at this;have gi:p.getD i 0=p[i]:=by rw[Array.getD_eq_getD_getElem?,Array.getElem?_eq_getElem M];rfl
   have gj:p.getD j 0=p[j]:=by rw[Array.getD_eq_getD_getElem?,Array.getElem?_eq_getElem O];rfl
   have lj:=g.lt (k:=j) (by omega);have mj:ks.getD (p.getD j 0) []∈ks:=by
    have h':p.getD j 0<ks.length:=by omega
    rw[vF,vU h'];exact List.getElem_mem h'
   have nl:¬cH (ks.getD (p.getD j 0) [])<cH (ks.getD (p.getD i 0) []):=λz=>by
    have:=AH (cs:=ks.map cH) (uS ⟨_,mj,rfl⟩) z;omega
   simp only[List.getElem_map,Array.getElem_toList];unfold FZ;rw[←gi,←gj];exact nl
 rw[←e,uP];rfl
@[simp] def vx (kd:List D->Option (List (List At)))(ok:List (List At)->Bool)(f:FE)(G:Env->D->Option D):FE:=λρ=>(f ρ).bind λx=>match x.1 with
 |.lst ds=>(jj (G ρ) ds).bind λg=>(kd g).bind λks=>if ks.length<64/\eN ks=true/\ok ks=true/\(ks.map cH).Nodup then some (.lst (jk ks ds),true)else none
 |_=>none
@[simp] abbrev qi:FE->(Env->D->Option D)->FE:=vx dH fG
section
variable {X:Cx}{e ke:Expr}{p pos kp:Pos}
def Ev {kd:List D->Option (List (List At))}{ok:List (List At)->Bool}(M:KK X X.A.in1.in1 kd ok){f:FE}{kf:Env->D->Option D}(hm:X.mg "sorted" = none)(he:JE X e f)(hk:JK X X.A.in1.in1 ke kf)(hg:Gl X "sorted":=by rfl)
  (Re:starEach [e] X.env=[(false,eval e X.env)]:=by rfl) (Rf:backTo pos (starEach [e] X.env)=(false,eval e X.env)::backTo pos (starEach [] X.env):=by rfl) (G:(backTo pos (starEach [e] X.env)).any (·.1)=false:=by rfl)
  (FQ:(backToKw pos (keywordEach [⟨some "key",ke,kp⟩] X.env)).all (·.1.isSome)=true:=by rfl) (Rg:(backToKw pos (keywordEach [⟨some "key",ke,kp⟩] X.env)).any (·.1.isNone)=false:=by rfl)
  (Rh:(backToKw pos (keywordEach [⟨some "key",ke,kp⟩] X.env)).filterMap (·.1)=[("key" : Str)]:=by rfl):
  JE X (.Call (.Name "sorted" p) [e] [⟨some "key",ke,kp⟩] pos) (vx kd ok f kf):=by
 intro af s σ H Q I h;obtain⟨B,ρ,d,b,sB,rep,g,q⟩:=h;obtain⟨⟨xd,xb⟩,ex,g⟩:=oX g;cases xd<;>try (cases g;done)
 rename_i ds;obtain⟨ju,em,g⟩:=oX g;obtain⟨ks,ek,g⟩:=oX g;split at g
 ·rename_i hh;obtain⟨Pn,hc,hf,nd⟩:=hh;cases g
  refine wpAny_Call_Name_kw (jv I hg hm (u:=.builtin "sorted") rfl ?_);refine callWith_kw (c7 ((iI he jX Re) pos af s σ H (λvs H1=>∃v N,vs=[v]/\Ext B N H H1/\Is X.K N v (.lst ds)) I ⟨B,ρ,_,_,sB,rep,ex,λv H1 N O i1 _=>⟨v,N,rfl,O,i1⟩⟩) λus s1 hA=>?_) Rf G FQ Rg;obtain⟨VJ,H1,I1,r1,v,N,rfl,O,i1⟩:=hA;obtain⟨u,rfl,ru⟩:=hG r1;refine kws_cons (hk af s1 σ H1 N ρ _ _ I1 O.nh (rep.mono O.bn) λqa H2 s2 I2 m2 Ge=>kws_nil ?_);rw[Rh];show wpAny _ _ (call (.builtin "sorted") [u] [(("key" : Str),.ref qa)]) _ _ _;cases i1
  rename_i l vs hq il;cases ru
  have sN:bf N H2:=O.nh.trans m2;obtain⟨its,rv,pl,hz⟩:=I2.list (sN.seq hq);have LC:vs.length=its.length:=rv.length;have Mh:ds.length=vs.length:=il.length.symm;have VC:ju.length=ds.length:=kx em;have Tj:ks.length=ju.length:=M.len ek;have Ri:its.length<64:=by omega
  refine call_function_entry_kw kind_sorted plain_sorted entry_sorted (ksk_s1 _ _) ?_;unfold Builtin.«sorted»;refine wX (m:=checkCount "sorted" 1 1 _) (wY (wX (collect_list pl.isList (wX (wpAny_newList ?_ (by rw[sizeLine_eq];omega))) (by rw[sizeLine_eq];omega))));let h1:Heap:=(s2.heap.push (seqObj "list" #[] 0)).update s2.heap.objs.size (Obj.mapSeq (· ++ its.toArray));have hsz:h1.objs.size=s2.heap.objs.size+1:=by show(Heap.update _ _ _).objs.size=_;rw[Heap.size_update,size_push']
  have T:∀b o,s2.heap.get? b=some o->h1.get? b=some o:=λb o q=>(Heap.get?_update_ne _ _ _ _ (vS (vX q))).trans (vZ _ q);have I3:Inv X ((h1.objs.size,seqObj "list" its.toArray 0)::af) σ H2 { s2 with heap:=h1.push (seqObj "list" its.toArray 0) } :=
   p4 (t':=s2.toks) I2 (λb u q=>vZ _ (T b u q)) (by rw[hsz];exact Nat.le_succ _) (vY _ rfl) dz
  have p3:=I3.pin (h1.objs.size,seqObj "list" its.toArray 0) (mY _ mX);show wpAny (model X.prog X.w) X.A.in1 (holding [.ref h1.objs.size] (call (.builtin "list.sort") [.ref h1.objs.size] [(("key" : Str),.ref qa)])>>=_) _ _ { s2 with heap:=h1.push (seqObj "list" its.toArray 0) };refine wX (wpAny_holding (wpAny_call_entry_kw slot_list_sort ⟨_,p3.1,rfl⟩ entry_list_sort ?_ (ksk_l1 _ _)));show wpAny (model X.prog X.w) X.A.in1.in1 (Builtin.«list.sort» ⟨[.ref h1.objs.size],[(Str.ofString "key",.ref qa)]⟩) _ _ _;rw[ksk_t1];refine zJ I3 (vR I2.sz (by rw[hsz];exact Nat.le_succ _)) (λq hq=>by rw[hsz];exact vS (Nat.lt_succ_of_lt (vX (I2.pin q hq).1))) Ge rv il sN M em ek hc hf Ri λpm s' H' N' ap up J U hn=>⟨_,rfl,wY ⟨_,rfl,?_⟩⟩;have G:its.length=ds.length:=by omega
  rw[G]at ap up;have er:=zK (by omega) hc (xO nd) ap up;have IK:∀i∈pm.toList,i<ds.length:=λi hi=>List.mem_range.mp (ap.perm.mem_iff.mp hi);have ip:=xL (il.mono U.bn) pm.toList IK;rw[er]at ip;have x4:Ext B N' H H':=(O.trans (.grow O.nh m2)).trans U;have hN:N' h1.objs.size=none:=U.nh.free hn;have x5:=x4.trans (Ext.laid (o:=.lst (pm.toList.map λi=>vs.getD i .non)) U.nh hn);exact⟨.ref h1.objs.size,_,J,rfl,q _ _ _ x5 (.lst (gn.of aH) (ip.mono (Ext.laid (o:=.lst (pm.toList.map λi=>vs.getD i .non)) U.nh hn).bn)) λ_=>⟨_,_,_,rfl,rfl,x4.hh.free hn,aH,ip.mono (Ext.laid (o:=.lst (pm.toList.map λi=>vs.getD i .non)) U.nh hn).bn⟩⟩
 ·cases g
end
noncomputable def Ul {f:String->CmpOp->Builtin}(_:f "__lt__" .Lt=Builtin.«tuple.__lt__»):=f
noncomputable def RW:String->CmpOp->Builtin:=Ul rfl
section
variable {prog:Program}{w:World}{A:Around}{E:Value->Shared->Prop}{s:Shared}{op:CmpOp}
def gK.type (h:gK s.heap xs v):s.TypeIs v "tuple":=by
 obtain⟨a,o,its,n,rfl,ho,hc,_⟩:=h;exact⟨o,ho,hc⟩
inductive GeW (prog:Program)(w:World)(A:Around)(s:Shared)(op:CmpOp)(jb r:Bool):List (Value×Value)->Prop
 |nil (h:jb=r):GeW prog w A s op jb r []
 |eq {u v:Value}{l:List (Value×Value)}(h:SeqAt.EqAt A s u v true) (t:GeW prog w A s op jb r l):GeW prog w A s op jb r ((u,v)::l)
 |ne {u v:Value}{l:List (Value×Value)}(h:SeqAt.EqAt A s u v false) (t:∀(Q E:Value->Shared->Prop),Q (.bool r) s->wpAny (model prog w) A (richCompare op u v) Q E s):GeW prog w A s op jb r ((u,v)::l)
def Hu {nm:String}(M:s.TypeIs (.ref b) "tuple")(O:s.heap.get? a=some oa)(T:oa.data=.seq its na)(U:s.heap.get? b=some ob)(QT:ob.data=.seq Dg nb)
  (W:GeW prog w A s op jb r (its.toList.zip Dg.toList)) (hz:Builtin.Tuple.tupleCompareSizes op its.size Dg.size=.bool jb) (VL:op=.Lt∨op=.Gt∨op=.GtE) (q:P (.done (.ret (.bool r))) s):wpAny (model prog w) A (RW nm op ⟨[.ref a,.ref b],[]⟩) P E s:=by
 show wpAny _ _ (isInstance (.ref _) (.type "tuple")>>=_) _ _ s;refine wX (wpAny_isInstance M isSubtype_tuple_tuple ?_);simp only[Bool.not_true,uV,if_false];refine wX (wpAny_tupleItemsOf O T ?_);refine wX (wpAny_tupleItemsOf U QT ?_);refine wX ?_;refine wpAny_forIn_list _ (λaF z s'=>z.1=none/\s'=s/\GeW prog w A s op jb r aF) _ ?_ ?_ _ _ ⟨rfl,rfl,W⟩
 ·rintro⟨u,v⟩ aF z s' ⟨hz,rfl,W⟩;cases W with
  |eq h t=>
   refine wX (h _ _ _ _ ?_);simp only[Bool.not_true,uV,if_false];exact wY ⟨rfl,rfl,t⟩
  |ne h t=>
   refine wX (h _ _ _ _ ?_);simp only[Bool.not_false,if_true];have t:=t (λv g=>v=.bool r/\g=s') E ⟨rfl,rfl⟩;rcases VL with rfl|rfl|rfl<;>exact wX (wpAny_rule (wX (wpAny_mono t (λv g hv=>by obtain⟨rfl,rfl⟩:=hv;exact wX (wY (wY (wY q)))) λ_ _ z=>z)))
 ·rintro⟨z1,z2⟩ s' ⟨G,rfl,W⟩;simp only at G;subst G;refine wY ?_;cases W with
  |nil h=>
   show P (.done (.ret (Builtin.Tuple.tupleCompareSizes op its.size Dg.size))) s';rw[hz,h];exact q
structure CmR (prog:Program)(w:World)(A:Around)(s:Shared)(op:CmpOp)(R:List At->List At->Bool->Prop)(fl:Nat->Nat->Bool):Prop where
 ei:∀ {a xs ys r},R (.i a::xs) (.i a::ys) r->R xs ys r
 es:∀ {a xs ys r},R (.s a::xs) (.s a::ys) r->R xs ys r
 ni:∀ {a c xs ys r},a≠c->R (.i a::xs) (.i c::ys) r->∀t u (Q E:Value->Shared->Prop),Q (.bool r) s->wpAny (model prog w) A (richCompare op (.int a t) (.int c u)) Q E s
 ns:∀ {a c xs ys r},a≠c->R (.s a::xs) (.s c::ys) r->∀t u (Q E:Value->Shared->Prop),Q (.bool r) s->wpAny (model prog w) A (richCompare op (.str a t) (.str c u)) Q E s
 mx:∀ {a c xs ys r},¬R (.i a::xs) (.s c::ys) r/\¬R (.s c::xs) (.i a::ys) r
 en:∀ {xs r},(R [] xs r->fl 0 xs.length=r)/\(R xs [] r->fl xs.length 0=r)
 fs:∀ {m n},fl (m+1) (n+1)=fl m n
theorem qj (C:CmR prog w A s op R fl):∀(xs ys:List At)(its M:List Value),Paired yX xs its->Paired yX ys M->R xs ys r->GeW prog w A s op (fl xs.length ys.length) r (its.zip M)
 |[],_,_,_,.nil,_,h=>.nil (C.en.1 h)
 |_::_,[],_,_,.cons _ _,.nil,h=>.nil (C.en.2 h)
 |.i _::_,.s _::_,_,_,_,_,h=>absurd h C.mx.1
 |.s _::_,.i _::_,_,_,_,_,h=>absurd h C.mx.2
 |.i a::xs,.i c::ys,_,_,.cons O g,.cons T G,h=>by
  obtain⟨t,rfl⟩:=O;obtain⟨u,rfl⟩:=T;have he:=SeqAt.EqAt.int_int (A:=A) (s:=s) a t c u;rw[List.zip_cons_cons,vE,vE,C.fs];by_cases e:a=c
  ·subst e;rw[show(a == a)=true by simp]at he;exact .eq he (qj C xs ys _ _ g G (C.ei h))
  ·rw[show(a == c)=false by simp[e]]at he;exact .ne he (C.ni e h t u)
 |.s a::xs,.s c::ys,_,_,.cons O g,.cons T G,h=>by
  obtain⟨t,rfl⟩:=O;obtain⟨u,rfl⟩:=T;have he:=SeqAt.EqAt.str_str (A:=A) (s:=s) a t c u;rw[List.zip_cons_cons,vE,vE,C.fs];by_cases e:a=c
  ·subst e;rw[show(a == a)=true by simp]at he;exact .eq he (qj C xs ys _ _ g G (C.es h))
  ·rw[show(a == c)=false by simp[e]]at he;exact .ne he (C.ns e h t u)
def Ny:CmR prog w A s .Lt (λxs ys r=>aX xs ys=some r) (λm n=>decide (m<n)) where
 ei h:=by rwa [aX,if_pos rfl]at h
 es h:=by rwa [aX,if_pos rfl]at h
 ni e h _ _ _ _ q:=by rw[aX,if_neg e]at h;cases h;exact PyProof.Rows.lt_int q
 ns e h _ _ _ _ q:=by rw[aX,if_neg e]at h;cases h;exact PySem.P.lt_str q
 mx:=by simp[aX]
 en:=λ{xs}=>by cases xs<;>simp[aX]
 fs:=by simp
def Nz:CmR prog w A s .Gt (λxs ys r=>aX ys xs=some r) (λm n=>decide (n<m)) where
 ei h:=by rwa [aX,if_pos rfl]at h
 es h:=by rwa [aX,if_pos rfl]at h
 ni e h _ _ _ _ q:=by rw[aX,if_neg (Ne.symm e)]at h;cases h;exact PyProof.Rows.gt_int q
 ns e h _ _ _ _ q:=by rw[aX,if_neg (Ne.symm e)]at h;cases h;exact PySem.P.gt_str q
 mx:=by simp[aX]
 en:=λ{xs}=>by cases xs<;>simp[aX]
 fs:=by simp
def Ew (hx:gK s.heap xs (.ref a)):∃o its n,s.heap.get? a=some o/\o.data=.seq its n/\Paired yX xs its.toList/\xs.length=its.size:=by
 obtain⟨g,o,its,n,e,ho,hc,hd,p⟩:=hx;cases e
 exact⟨o,its,n,ho,hd,p,by rw[←vG];exact gb p⟩
def Ex {nm:String}(C:CmR prog w A s op R fl)(hz:∀m n,Builtin.Tuple.tupleCompareSizes op m n=.bool (fl m n))(g:op=.Lt∨op=.Gt∨op=.GtE)(hx:gK s.heap xs (.ref a))(hy:gK s.heap ys (.ref b))(h:R xs ys r)(q:P (.done (.ret (.bool r))) s):wpAny (model prog w) A (RW nm op ⟨[.ref a,.ref b],[]⟩) P E s:=by
 have hb:=hy.type;obtain⟨_,_,_,ho,hd,p,O⟩:=Ew hx;obtain⟨_,_,_,G,M,T,U⟩:=Ew hy;exact Hu hb ho hd G M (qj C _ _ _ _ p T h) (by rw[O,U];exact hz _ _) g q
def Ey (hx:gK s.heap xs x)(hy:gK s.heap ys y)(h:aX xs ys=some r)(hu:A.units<cLine)(q:Q (.bool r) s):wpAny (model prog w) A (richCompare .Lt x y) Q E s:=by
 have g:=hx.type;have ty:=hy.type;obtain⟨a,_,_,_,rfl,_⟩:=id hx;obtain⟨b,_,_,_,rfl,_⟩:=id hy;exact wpAny_richCompare_same_room (op:=.Lt) g ty PySem.F.slot_tuple_lt (wpAny_call_entry PySem.F.slot_tuple_lt g PySem.F.entry_tuple_lt (Ex Ny (λ_ _=>rfl) (.inl rfl) hx hy h ⟨_,rfl,(λe=>nomatch e),q⟩) (PySem.F.args_tuple_lt_2 _ _)) hu
def N6 (hx:gK s.heap xs x)(hy:gK s.heap ys y)(h:aX ys xs=some r)(hu:A.units<cLine)(q:Q (.bool r) s):wpAny (model prog w) A (richCompare .Gt x y) Q E s:=by
 have g:=hx.type;have ty:=hy.type;obtain⟨a,_,_,_,rfl,_⟩:=id hx;obtain⟨b,_,_,_,rfl,_⟩:=id hy;exact wpAny_richCompare_same_room (op:=.Gt) g ty PySem.F.slot_tuple_gt (wpAny_call_entry PySem.F.slot_tuple_gt g PySem.F.entry_tuple_gt (Ex Nz (λ_ _=>rfl) (.inr (.inl rfl)) hx hy h ⟨_,rfl,(λe=>nomatch e),q⟩) (PySem.F.args_tuple_gt_2 _ _)) hu
end
def m5:List At×D->List (List At×D)->D
 |b,[]=>b.2
 |b,x::r=>if aX b.1 x.1=some true then m5 x r else m5 b r
def lx:List At×D->List (List At×D)->D
 |b,[]=>b.2
 |b,x::r=>if aX x.1 b.1=some true then lx x r else lx b r
noncomputable def Um {f:String->CmpOp->Builtin}(_:f "max" .Gt=Builtin.«max.loop»):=f
noncomputable def Uo:String->CmpOp->Builtin:=Um rfl
noncomputable def Uq {f:String->Builtin}(_:f "max" = Builtin.«max»):=f
noncomputable def Ur:String->Builtin:=Uq rfl
structure MM (nm lp:String)(ns:Str)(op:CmpOp)(lt:List At->List At->Option Bool)(go:List At×D->List (List At×D)->D):Prop where
 hn:(toString nm++toString ".loop" : String)=lp
 en:entryFor table lp=some (Uo nm op)
 pl:plainId lp=true
 k2:builtinKind nm=none
 p2:plainId nm=true
 e2:entryFor table nm=some (Ur nm)
 ka:∀a v:Value,argsOk nm ⟨[a],[(Str.ofString "key",v)]⟩
 bt:bootBuiltins ns=some (.builtin nm)
 n1:ns ≠ "__name__"
 n2:(ns == ("__debug__" : Str))=false
 g0:∀b,go b []=b.2
 g1:∀b x r,go b (x::r)=if lt b.1 x.1=some true then go x r else go b r
 cg:∀ {ks:List (List At)},eN ks=true->∀ {a b},a∈ks->b∈ks->∃r,lt a b=some r
 rc:∀ {prog:Program}{w:World}{A:Around}{E:Value->Shared->Prop}{s:Shared}{xs ys:List At}{x y:Value}{r:Bool}{Q:Value->Shared->Prop},gK s.heap xs x->gK s.heap ys y->lt ys xs=some r->A.units<cLine->Q (.bool r) s->wpAny (model prog w) A (richCompare op x y) Q E s
def RX:MM "max" "max.loop" "max" .Gt aX m5 :=
 ⟨by decide,PySem.F.entry_max_loop,PySem.F.plain_max_loop,PySem.F.kind_max,PySem.F.plain_max,PySem.F.entry_max,λ_ _=>by unfold argsOk;kernel_rfl,rfl,by decide,by decide,λ_=>rfl,λ_ _ _=>rfl,λh _ _ a b=>⟨_,ga h a b⟩,N6⟩
def Ql:MM "min" "min.loop" "min" .Lt (λa b=>aX b a) lx :=
 ⟨by decide,PySem.F.entry_min_loop,PySem.F.plain_min_loop,PySem.F.kind_min,PySem.F.plain_min,PySem.F.entry_min,λ_ _=>by unfold argsOk;kernel_rfl,rfl,by decide,by decide,λ_=>rfl,λ_ _ _=>rfl,λh _ _ a b=>⟨_,ga h b a⟩,Ey⟩
section
variable {X:Cx}{af:List (Addr×Obj)}{σ:St}
def zL (J:Inv X ((a1,o1)::(a2,o2)::af) σ H' s'):Inv X ((a2,o2)::(a1,o1)::af) σ H' s' :=
 J.pins_of λq hq=>J.pin q (by
  rcases vP hq with rfl|hq
  ·exact mY _ (mZ _ mX)
  ·rcases vP hq with rfl|hq
   ·exact mY _ mX
   ·exact mY _ (mZ _ (mZ _ hq)))
def qk (hp:∀q∈X.pn++af,q.1≠a)(h:S≠a):∀q∈X.pn++((S,o)::af),q.1≠a:=λq hq=>by
 rcases List.mem_append.mp hq with hq|hq
 ·exact hp q (List.mem_append_left _ hq)
 ·rcases vP hq with rfl|hq
  ·exact h
  ·exact hp q (mY _ hq)
def kY (I:Inv X af σ H s)(r:bd v u)(i:Is X.K H v d)(e:xI d=some k):gK s.heap k u:=by
 have:=p0 I (ys:=[v]) (ds:=[d]) (ks:=[k]) (its:=[u]) (.cons r .nil) (.cons i .nil) (by simp only[dH,e];rfl);cases this;assumption
inductive MK (X:Cx)(af:List (Addr×Obj))(σ:St)(S It l:Addr)(o:Obj)(j:Nat)(N H:Hp)(y:List At×D)(u ku:Value)(s:Shared):Prop
 |mk (H2 N2:Hp) (v kv:V) (kd:D) (oI:Obj) (J:Inv X ((S,o)::(It,oI)::af) σ H2 s) (za:s.heap.IsListIter It l (j+1)) (x:Ext N N2 H H2) (ru:bd v u) (iv:Is X.K N2 v y.2) (rk:bd kv ku) (ik:Is X.K N2 kv kd) (ek:xI kd=some y.1)
def Ez {E:Value->Shared->Prop}{It:Addr}(hh:X.A.handled=none)(Ge:AM X X.A.in1 σ (.ref qa) B H1 kf)(hq:gn X.K B l vs)(iv:IsL X.K B vs ds)(em:jj kf ds=some ju)(ek:dH ju=some ks)(I0:X.s₀.heap.objs.size<=It)(LI:∀q∈X.pn++((S,o)::af),q.1≠It)
  (LJ:l≠It) (hz:(ks.zip ds)[j]? = some y) (I:Inv X ((S,o)::(It,oI)::af) σ H s) (za:s.heap.IsListIter It l j) (g:Ext B N H1 H):
  wpAny (model X.prog X.w) X.A.in1 (pyNext (.ref It)) (λr s1=>∃u,r=some u/\wpAny (model X.prog X.w) X.A.in1 (call (.ref qa) [u]) (MK X af σ S It l o j N H y u) (λ_ _=>False) s1) E s:=by
 obtain⟨its,rv,pl,_⟩:=I.list ((g.bn.trans g.nh).seq hq);obtain⟨hk,hd⟩:=List.getElem?_zip_eq_some.mp hz;obtain⟨v,hv,M⟩:=iv.get hd;obtain⟨kd,O,Ra⟩:=qh em hd;obtain⟨u,hu,ru⟩:=rv.get hv;have Mk:xI kd=some y.1:=by
  have:=t9 ek (i:=j) (vV O).1;rw[vF,O,vF,hk]at this;exact this
 refine(Walks.list (prog:=X.prog) (w:=X.w) (A:=X.A.in1) hh It l LJ its.toArray).item j _ _ _ (by simpa using(vV hu).1) ⟨za,pl.isList⟩ λu' h' IL hP T J9=>?_;have U:its[j]? = some u':=by simpa using hP
 rw[hu]at U;cases U;obtain⟨G,Rj,IA,Tr⟩:=id T.1;exact⟨u,rfl,c7 (Ge _ _ H N v u y.2 kd (zL (ib (t':=IL) (zL I) I0 LI (λb o n e=>J9 b o (by simpa using n) e) Rj (λv z=>by rw[Tr]at z;cases z))) g.hh g.bn g.nh (M.mono g.bn) ru Ra) λku s2 ⟨kv,H2,J4,rk,N2,x2,ik⟩=>
  ⟨H2,N2,v,kv,kd,G,J4,⟨G,(J4.pin (It,G) (mY _ (mZ _ mX))).1,IA,Tr⟩,x2,ru,M.mono (g.bn.trans x2.bn),rk,ik,Mk⟩⟩
def Hv {nm lp:String}{ns:Str}{op:CmpOp}{lt:List At->List At->Option Bool}{go:List At×D->List (List At×D)->D}(M:MM nm lp ns op lt go){qv:Value}{l S It:Addr}{vs:List V}{ds ju:List D}{ks:List (List At)}{B H1:Hp}{kf:D->Option D}{d0:D}{R:Result->Shared->Prop}(hh:X.A.handled=none)(hu:X.A.in1.units<cLine)(Ge:AM X X.A.in1 σ qv B H1 kf)(VM:∃a,qv=.ref a)(hq:gn X.K B l vs)(iv:IsL X.K B vs ds)
  (em:jj kf ds=some ju) (ek:dH ju=some ks) (hc:eN ks=true) (S0:X.s₀.heap.objs.size<=S) (I0:X.s₀.heap.objs.size<=It) (O2:∀q∈X.pn++af,q.1≠S) (LI:∀q∈X.pn++af,q.1≠It) (U:S≠It) (Po:S≠l) (LJ:l≠It)
  (hR:∀(s':Shared)(H' N:Hp)(v:V)(u:Value),Inv X af σ H' s'->Ext B N H1 H'->bd v u->Is X.K N v d0->R (.ok (.ret u)) s'):
  ∀(r j:Nat)(s:Shared)(H N:Hp)(G g:Value)(vb O:V)(db T:D)(kb:List At)(c:Nat)(oI:Obj),vs.length - j=r->j<=vs.length->Inv X ((S,seqObj "list" #[G,g] c)::(It,oI)::af) σ H s->s.heap.IsListIter It l j->Ext B N H1 H ->
   bd vb G->Is X.K N vb db->bd O g->Is X.K N O T->xI T=some kb->kb∈ks->go (kb,db) ((ks.zip ds).drop j)=d0 ->
   codeAny (model X.prog X.w) X.A (.builtin lp ⟨[.ref It,qv,.ref S],[]⟩) R s:=by
 obtain⟨qa,rfl⟩:=VM;intro r;induction r with
 |zero=>
  intro j s H N G g vb O db T kb c oI hr hj I za x1 r1 i1 r2 i2 ekb mk hd;have pS:=I.pin (S,seqObj "list" #[G,g] c) (mY _ mX);have sB:bf B H:=x1.bn.trans x1.nh;obtain⟨its,rv,pl,_⟩:=I.list (sB.seq hq);have hl:=pl.isList;have W:=Walks.list (prog:=X.prog) (w:=X.w) (A:=X.A.in1) hh It l LJ its.toArray;have hsz:its.toArray.size=its.length:=vH ..;have LC:vs.length=its.length:=rv.length;have Mh:ds.length=its.length:=by rw[←iv.length];exact rv.length
  have Xe:ks.length=ds.length:=by rw[kX ek,kx em]
  have QZ:db=d0:=by
   rw[List.drop_of_length_le (by rw[List.length_zip];omega)]at hd;rw[M.g0]at hd;exact hd
  subst QZ;refine codeAny_builtin M.en ?_;rw[Around.under_plainId M.pl _];show wpAny _ X.A.in1 (seqItems? (.ref S)>>=_) _ _ _;refine wX (wpAny_seqItems pS.1 rfl ?_);show wpAny _ X.A.in1 (tryCatch (pyNext (.ref It)) _>>=_) _ _ _;refine wX (wpAny_tryCatch (W.done _ _ _ ⟨by rw[hsz,show its.length=j by omega];exact za,hl⟩ λh' IL J9=>?_));have J1:Inv X ((It,oI)::(S,seqObj "list" #[G,g] c)::af) σ H s:=zL I;have Rk:∀q∈X.pn++((S,seqObj "list" #[G,g] c)::af),q.1≠It:=qk LI U;have J2:Inv X ((S,seqObj "list" #[G,g] c)::af) σ H { s with heap:=h',toks:=IL } :=
   (kq J1).turned (t':=IL) (λb o n e=>J9 b o (by simpa using n) e) (J1.pin (It,oI) (mY _ mX)).2.1 (J1.pin (It,oI) (mY _ mX)).2.2.1 (.inr I0) (nJ J1) Rk
  have Ts:=J2.pin (S,seqObj "list" #[G,g] c) (mY _ mX);obtain⟨c2,JB⟩:∃c2,(h'.update S (Obj.mapSeq λ_=>(#[]:Array Value))).get? S=some (seqObj "list" #[] c2):=⟨_,get?_update_seq Ts.1 λ_=>#[]⟩;have u2:=vW h' S (Obj.mapSeq λ_=>(#[]:Array Value));show wpAny _ X.A.in1 (updateSeq S (λ_=>#[])>>=_) _ _ _;refine wX ?_;refine wpAny_updateSeq Ts.1 rfl (wX (wpAny_letGo (wY ?_)));exact hR _ H N vb G (kq (ib (t':=IL) J2 S0 O2 (λb o n e=>(u2.2 b n).trans e) JB dz)) x1 r1 i1
 |succ r ih=>
  intro j s H N G g vb O db T kb c oI hr hj I za x1 r1 i1 r2 i2 ekb mk hd;have wA:j<(ks.zip ds).length:=by rw[List.length_zip,kX ek,kx em,←iv.length];omega
  have pS:=I.pin (S,seqObj "list" #[G,g] c) (mY _ mX);have hz:=vU wA;rw[List.drop_eq_getElem_cons wA,M.g1]at hd;generalize (ks.zip ds)[j]=y at hz hd;have hm:y.1∈ks:=vL (List.getElem?_zip_eq_some.mp hz).1;obtain⟨r,Rm⟩:=M.cg hc mk hm;refine codeAny_builtin M.en ?_;rw[Around.under_plainId M.pl _];show wpAny _ X.A.in1 (seqItems? (.ref S)>>=_) _ _ _;refine wX (wpAny_seqItems pS.1 rfl ?_);show wpAny _ X.A.in1 (tryCatch (pyNext (.ref It)) _>>=_) _ _ _;refine wX (wpAny_tryCatch (c7 (Ez hh Ge hq iv em ek I0 (qk LI U) LJ hz I za x1) λ_ s1 ⟨u,e,h1⟩=>?_));subst e;show wpAny _ X.A.in1 (tryCatch (holding [u] (call (.ref qa) [u])) _>>=_) _ _ _;refine wX (wpAny_tryCatch (wpAny_holding (wpAny_mono h1 (λku s2 ⟨H2,N2,v,kv,kd,Pp,J4,O3,x2,ru,O0,rk,ik,Mk⟩=>?_) λ_ _ z=>z.elim)));have t1:=kY J4 rk (ik.mono x2.nh) Mk;have t2:=kY J4 r2 (i2.mono (x2.bn.trans x2.nh)) ekb;show wpAny _ X.A.in1 (tryCatch (holding [u,ku] (richCompare op ku g>>=_)) _>>=_) _ _ _;refine wX (wpAny_tryCatch (wpAny_holding (wX (M.rc t1 t2 Rm hu ?_))));refine wX (wpAny_holding (wpAny_truthy_bool ?_));refine wX (wpAny_letGo (wY ?_));cases r with
  |true=>
   rw[if_pos Rm]at hd;have u2:=vW s2.heap S (Obj.mapSeq λ_=>#[u,ku]);simp only[if_true];have O4:=J4.pin (S,seqObj "list" #[G,g] c) (mY _ mX);refine wX (wpAny_updateSeq O4.1 rfl (wX (wpAny_letGo ?_)));rw[M.hn];obtain⟨o,g1,g2⟩:=O3;exact wY ⟨plainId_quiet M.pl _,ih (j+1) _ H2 N2 u ku v kv y.2 kd y.1 _ Pp (by omega) (by omega) (ib (t':=s2.toks) J4 S0 (qk O2 U.symm) (λb o n e=>(u2.2 b n).trans e) (get?_update_seq O4.1 λ_=>#[u,ku]) dz) ⟨o,(u2.2 It U.symm).trans g1,g2⟩ (x1.trans x2) ru O0 rk ik Mk hm hd⟩
  |false=>
   rw[if_neg (by rw[Rm];simp)]at hd;simp only[uV,if_false];refine wX (wpAny_letGo ?_);rw[M.hn];exact wY ⟨plainId_quiet M.pl _,ih (j+1) _ H2 N2 G g vb O db T kb c Pp (by omega) (by omega) J4 O3 (x1.trans x2) r1 (i1.mono x2.bn) r2 (i2.mono x2.bn) ekb mk hd⟩
end
@[simp] def Le (go:List At×D->List (List At×D)->D)(f:FE)(G:Env->D->Option D):FE:=λρ=>(f ρ).bind λx=>match x.1 with
 |.lst ds=>(jj (G ρ) ds).bind λg=>(dH g).bind λks=>if eN ks=true then match ks.zip ds with
  |[]=>none
  |y::r=>some (go y r,false)
  else none
 |_=>none
@[simp] def tG:=Le m5
@[simp] def tH:=Le lx
section
variable {X:Cx}{e ke:Expr}{p pos kp:Pos}
def xP {nm lp:String}{ns:Str}{op:CmpOp}{lt:List At->List At->Option Bool}{go:List At×D->List (List At×D)->D}(M:MM nm lp ns op lt go){f:FE}{kf:Env->D->Option D}{k:Nat}(hm:X.mg ns=none)(he:JE X e f)(hk:JK X X.A.in1 ke kf)(hr:eV k X.A)(hg:Gl X ns:=by rfl)
  (Re:starEach [e] X.env=[(false,eval e X.env)]:=by rfl) (Rf:backTo pos (starEach [e] X.env)=(false,eval e X.env)::backTo pos (starEach [] X.env):=by rfl) (IG:(backTo pos (starEach [e] X.env)).any (·.1)=false:=by rfl)
  (FQ:(backToKw pos (keywordEach [⟨some "key",ke,kp⟩] X.env)).all (·.1.isSome)=true:=by rfl) (Rg:(backToKw pos (keywordEach [⟨some "key",ke,kp⟩] X.env)).any (·.1.isNone)=false:=by rfl)
  (Rh:(backToKw pos (keywordEach [⟨some "key",ke,kp⟩] X.env)).filterMap (·.1)=[("key" : Str)]:=by rfl):
  JE X (.Call (.Name ns p) [e] [⟨some "key",ke,kp⟩] pos) (Le go f kf):=by
 intro af s σ H Q I h;obtain⟨B,ρ,d,b,sB,rep,g,q⟩:=h;obtain⟨⟨xd,xb⟩,ex,g⟩:=oX g;cases xd<;>try (cases g;done)
 rename_i ds;obtain⟨ju,em,g⟩:=oX g;obtain⟨ks,ek,g⟩:=oX g;split at g
 ·rename_i hc;split at g
  ·cases g
  ·rename_i y aF ez;cases g
   refine wpAny_Call_Name_kw (jv I hg hm M.bt ?_ M.n1 M.n2);refine callWith_kw (c7 ((iI he jX Re) pos af s σ H (λvs H1=>∃v N,vs=[v]/\Ext B N H H1/\Is X.K N v (.lst ds)) I ⟨B,ρ,_,_,sB,rep,ex,λv H1 N O i1 _=>⟨v,N,rfl,O,i1⟩⟩) λus s1 hA=>?_) Rf IG FQ Rg;obtain⟨VJ,H1,I1,r1,v,N,rfl,O,i1⟩:=hA;obtain⟨u,rfl,ru⟩:=hG r1;refine kws_cons (hk af s1 σ H1 N ρ _ _ I1 O.nh (rep.mono O.bn) λT H2 s2 U m2 Ge=>kws_nil ?_);rw[Rh];show wpAny _ _ (call (.builtin nm) [u] [(("key" : Str),.ref T)]) _ _ _;cases i1
   rename_i l vs hq il;cases ru
   have sN:bf N H2:=O.nh.trans m2;obtain⟨its,rv,pl,hz⟩:=U.list (sN.seq hq);have Ml:l<s2.heap.objs.size:=by
    obtain⟨ol,LH,_⟩:=pl.isList;exact vX LH
   have z0:(ks.zip ds)[0]? = some y:=by rw[ez];rfl
   have VN:=vL (List.getElem?_zip_eq_some.mp z0).1;refine kmk_tree M.k2 M.p2 M.e2 (M.ka _ _) ?_;show wpAny _ X.A.in1 (Builtin.Builtins.bindParams nm ["key","default"] 0 ⟨[],[(Str.ofString "key",.ref T)]⟩>>=_) _ _ s2;refine wX (wpAny_of_eq (show Builtin.Builtins.bindParams nm ["key","default"] 0 ⟨[],[(Str.ofString "key",.ref T)]⟩=pure [some (.ref T),none]from rfl) ?_);refine wX (wY ?_);refine wX (wpAny_pyIter_list pl.isList ?_);refine wX (wpAny_newList ?_ (uN _));rw[M.hn];let It:Addr:=s2.heap.objs.size;let oI:Obj:={ cls:=.type "list_iterator",data:=.fields #[.ref l,.int 0 0] };let S:Addr:=(s2.heap.push oI).objs.size;have hS:S=s2.heap.objs.size+1:=size_push' ..;have G:S≠It:=by rw[hS];exact Nat.ne_of_gt (Nat.lt_succ_self _)
   have J1:Inv X ((It,oI)::af) σ H2 { s2 with heap:=s2.heap.push oI }:=p4 (t':=s2.toks) U (λb u q=>vZ _ q) (vT _) (vY _ rfl) (λv z=>by cases z);have J2:Inv X ((S,seqObj "list" #[] 0)::(It,oI)::af) σ H2 { s2 with heap:=(s2.heap.push oI).push (seqObj "list" #[] 0) }:=p4 (s:={ s2 with heap:=s2.heap.push oI }) (t':=s2.toks) J1 (λb u q=>vZ _ q) (vT _) (vY _ rfl) dz;have I0:X.s₀.heap.objs.size<=It:=U.sz;have S0:X.s₀.heap.objs.size<=S:=by rw[hS];exact Nat.le_succ_of_le U.sz
   have LI:∀q∈X.pn++af,q.1≠It:=λq hq=>vS (vX (U.pin q hq).1);have O2:∀q∈X.pn++af,q.1≠S:=λq hq=>by rw[hS];exact vS (Nat.lt_succ_of_lt (vX (U.pin q hq).1))
   have LJ:l≠It:=vS Ml;have Po:S≠l:=by rw[hS];exact Nat.ne_of_gt (Nat.lt_succ_of_lt Ml)
   have hh:X.A.handled=none:=hr.hd;have hu:X.A.in1.units<cLine:=by have:=hr.un;show X.A.units+1<cLine;omega
   have pS:=J2.pin (S,seqObj "list" #[] 0) (mY _ mX);have pI:=J2.pin (It,oI) (mY _ (mZ _ mX));refine wY ⟨plainId_quiet M.pl _,?_⟩;refine codeAny_builtin M.en ?_;rw[Around.under_plainId M.pl _];show wpAny _ X.A.in1 (seqItems? (.ref S)>>=_) _ _ { s2 with heap:=(s2.heap.push oI).push (seqObj "list" #[] 0) };refine wX (wpAny_seqItems pS.1 rfl ?_);show wpAny _ X.A.in1 (tryCatch (pyNext (.ref It)) _>>=_) _ _ _;refine wX (wpAny_tryCatch (c7 (Ez hh Ge hq il em ek I0 (qk LI G) LJ z0 J2 ⟨oI,pI.1,rfl,rfl⟩ (.refl sN)) λ_ s1 ⟨u,e,h1⟩=>?_));subst e;show wpAny _ X.A.in1 (tryCatch (holding [u] (call (.ref T) [u])) _>>=_) _ _ _;refine wX (wpAny_tryCatch (wpAny_holding (wpAny_mono h1 (λku s3 ⟨H3,N3,v,kv,kd,Pp,J4,⟨o,g1,g2⟩,x3,ru,O0,rk,ik,Mk⟩=>?_) λ_ _ z=>z.elim)));have O4:=J4.pin (S,seqObj "list" #[] 0) (mY _ mX);have u2:=vW s3.heap S (Obj.mapSeq λ_=>#[u,ku]);show wpAny _ X.A.in1 (updateSeq S (λ_=>#[u,ku])>>=_) _ _ _;refine wX (wpAny_updateSeq O4.1 rfl ?_);rw[M.hn];have Rn:1<=vs.length:=by
    have:=congrArg List.length ez;rw[List.length_zip,vE,←il.length]at this;omega
   exact wY ⟨plainId_quiet M.pl _,Hv M (S:=S) (It:=It) hh hu Ge ⟨T,rfl⟩ hq il em ek hc S0 I0 O2 LI G Po LJ (λs' H' N' v' u' J' x' r' i'=>⟨v',H',J',r',q _ _ _ ((O.trans (.grow O.nh m2)).trans x') i' (by simp)⟩) _ 1 _ H3 N3 u ku v kv y.2 kd y.1 _ Pp rfl Rn
    (ib (t':=s3.toks) J4 S0 (qk O2 G.symm) (λb o n e=>(u2.2 b n).trans e) (get?_update_seq O4.1 λ_=>#[u,ku]) dz) ⟨o,(u2.2 It G.symm).trans g1,g2⟩ x3 ru O0 rk ik Mk VN (by rw[ez];rfl)⟩
 ·cases g
end
section
variable {X:Cx}
@[simp] def JP:D->D->OB
 |.tup xs,.tup ys=>(dX xs).bind λg=>(dX ys).bind λbs=>(aX g bs).map λr=>(.bl r,false)
 |_,_=>none
@[simp] def TW:D->D->OB
 |.tup xs,.tup ys=>(dX xs).bind λg=>(dX ys).bind λbs=>(aX bs g).map λr=>(.bl r,false)
 |_,_=>none
def N7 (hu:X.A.units+40<cLine):dP X (compareOp .Lt) (rD X.K JP):=by
 intro af s σ H x y v u Q I G M q;obtain⟨B,dx,O,d,b,g,T,U,e,q⟩:=q;cases dx<;>try (simp[JP]at e;done)
 cases O<;>try (simp[JP]at e;done)
 simp only[JP]at e;obtain⟨as,e1,e⟩:=oX e;obtain⟨bs,e2,e⟩:=oX e;obtain⟨r,e3,e⟩:=oY e;cases e
 show wpAny _ _ (richCompare .Lt v u) _ _ _;exact Ey (kY I G (T.mono g) e1) (kY I M (U.mono g) e2) e3 (by omega) ⟨.bl r,H,I,rfl,q.one g (.bl r)⟩
end
section
variable {X:Cx}{a b:Expr}{p pos:Pos}
@[simp] def OS (f g:FE):FA:=λρ=>(f ρ).bind λx=>(g ρ).bind λy=>match x.1,y.1 with
 |.int i,.int j=>if -1000<=i/\i<=1000/\-1000<=j/\j<=1000 then some (dU i (j - i).toNat)else none
 |_,_=>none
end
@[simp] def RY:List D->OB
 |[.tup xs,.tup ys]=>(dX xs).bind λg=>(dX ys).bind λbs=>(aX g bs).map λr=>(if r=true then .tup ys else .tup xs,false)
 |_=>none
end DL
namespace DL
open PySem PySem.Spec PyProof.Rows L2
section
variable {X:Cx}
noncomputable def tI:D->D->OB
 |.tup xs,.tup ys=>if xs.isEmpty=true then some (.tup ys,false)else none
 |_,_=>none
def Hw:dP X (binaryOp .Add) (rD X.K tI):=by
 intro af s σ H x y v u Q I rx ry q;obtain⟨B,dx,dy,d,bb,U,ix,iy,g,q⟩:=q;cases ix<;>try (cases g;done)
 cases iy<;>try (cases g;done)
 rename_i l vs ds h hl l' ws es h' hl';simp only[tI]at g;split at g
 ·rename_i hz;cases g
  cases rx
  cases ry
  obtain⟨its,r1,p1,_⟩:=I.tuple (bz U h);obtain⟨G,r2,p2,_⟩:=I.tuple (bz U h');have he:its.toArray.isEmpty=true:=by
   have e1:=hl.length;have e2:=r1.length;have e3:=List.isEmpty_iff.mp hz;rw[e3]at e1;cases its with
   |nil=>rfl
   |cons a b=>rw[e1]at e2;simp at e2
  obtain⟨⟨cls,dd,data,sl⟩,ho,hc,n,hd⟩:=id p1;obtain⟨⟨VO,Pq,data2,VP⟩,M,O,n2,T⟩:=id p2;dsimp only at hc hd O T;subst hc;subst hd;subst O;subst T;exact concat_meets ⟨_,ho,rfl⟩ ⟨_,M,rfl⟩ noFill_tuple_add seq_tuple_add PySem.F.slot_tuple_add PySem.F.entry_tuple_add (PySem.F.args_tuple_add_2 _ _)
   (tuple_addW0 l l' its.toArray G.toArray n n2 dd Pq sl VP he) ⟨ho,M,⟨.ref l',H,I,rfl,q.one U (.tup h' hl')⟩⟩
 ·cases g
@[simp] noncomputable def AO:D->D->OB
 |.tup xs,.tup ys=>if xs.length+ys.length<=sizeLine then some (.tup (xs++ys),false)else none
 |_,_=>none
def Hx (xs ys:List D)(z:xs.length+ys.length<=sizeLine):De rT tI (.tup xs) (.tup ys)=some (.tup (xs++ys),false):=by
 cases xs with
 |nil=>
  have:rT (.tup []) (.tup ys)=none:=if_neg (λh=>by cases h.2);show(match rT (.tup []) (.tup ys) with|some z=>some z|none=>tI (.tup []) (.tup ys))=_;rw[this];rfl
 |cons a l=>
  have:rT (.tup (a::l)) (.tup ys)=some (.tup (a::l++ys),false):=if_pos ⟨z,rfl⟩;show(match rT (.tup (a::l)) (.tup ys) with|some z=>some z|none=>tI (.tup (a::l)) (.tup ys))=_;rw[this]
def E1:dP X (binaryOp .Add) (rD X.K AO):=by
 refine iR (r:=rD X.K (De rT tI)) (nD DS Hw) λx y H Q q=>?_;obtain⟨B,dx,O,d,bb,T,G,M,g,q⟩:=q;refine⟨B,dx,O,d,bb,T,G,M,?_,q⟩;cases G<;>try (cases g;done)
 cases M<;>try (cases g;done)
 rename_i l vs ds h hl l' ws es h' U;simp only[AO]at g;split at g
 ·rename_i hz;rw[Hx _ _ hz];exact g
 ·cases g
end
section
variable {X:Cx}
@[simp] def OT:List D->OB
 |[d,.tup [.ty n,.ty m]]=>if Nk d=true then none else if n = "list"/\m = "tuple" then some (.bl (KI d == "list" || KI d == "tuple"),false)else none
 |_=>none
end
@[simp] noncomputable def ky:D->Option cF
 |.int i=>some (.inl i)
 |.str x=>some (.inr x)
 |_=>none
def m6 {K:Frag}{B:Hp}{v:V}{d:D}{k:cF}(i:Is K B v d)(e:ky d=some k):v=kV k:=by
 cases i<;>simp only[ky]at e<;>cases e<;>rfl
noncomputable def bW {κ:Type}[DecidableEq κ]:List κ->List D->κ->Option D
 |k'::ks,d::ds,k=>if k'=k then some d else bW ks ds k
 |_,_,_=>none
theorem ql {κ:Type}[DecidableEq κ]{K:Frag}{B:Hp}(k:κ):∀ {ks:List κ}{vs:List V}{ds:List D},ks.length=vs.length->IsL K B vs ds ->
  (∃v d,jx (ks.zip vs) k=some v/\bW ks ds k=some d/\Is K B v d)∨(jx (ks.zip vs) k=none/\bW ks ds k=none)
 |[],vs,ds,_,_=>.inr ⟨by cases vs<;>rfl,by cases ds<;>rfl⟩
 |k'::ks,[],_,h,_=>by simp at h
 |k'::ks,v::vs,_,h,.cons i is=>by
  rw[List.zip_cons_cons];unfold bW;by_cases e:k'=k
  ·rw[if_pos e];exact .inl ⟨v,_,mi (p:=(k',v)) e,rfl,i⟩
  ·rw[if_neg e,ml (p:=(k',v)) e];exact ql k (by simpa using h) is
section
variable {X:Cx}{o e i:Expr}{pos:Pos}
@[simp] def E2:D->D->OB
 |.dk ks vs,y=>(ky y).map λk=>((bW ks vs k).getD .non,false)
 |_,_=>none
def E3 {dG cI:Pos}{U fe:FE}(hu:X.A.units+1<cLine)(ho:JE X o U)(he:JE X e fe)(m:M1 X o "get" dG e cI):JE X (.Call (.Attribute o "get" dG) [e] [] cI) (f2 E2 U fe):=by
 refine PE.to (wO hu ho he m) λσ H Q q=>?_;obtain⟨B,ρ,d,bb,sB,r,g,q⟩:=q;obtain⟨x,ex,g⟩:=oX g;obtain⟨y,ey,g⟩:=oX g;refine⟨B,ρ,x.1,x.2,sB,r,ex,λv H1 N1 M i1 ff=>?_⟩;obtain⟨xd,xb⟩:=x;cases i1 with
 |@dk a ks vs ds ob h hl hs=>
  simp only[E2]at g;obtain⟨k,hk,g⟩:=oY g;cases g
  refine⟨a,rfl,.inl ⟨_,_,.inl (M.nh _ _ h)⟩,N1,ρ,y.1,y.2,M.nh,r.mono M.bn,ey,λv2 H2 N2 G i2 _=>?_⟩;have hv:=m6 i2 hk;subst hv;refine⟨jx (ks.zip vs) k,.inl ⟨_,k,_,.inl (G.nh _ _ (G.bn _ _ h)),rfl,rfl⟩,?_⟩;have O:=hs.mono G.bn;rcases ql k hl O with⟨v,d',T,e2,i3⟩|⟨T,e2⟩
  ·rw[T];rw[e2]at q;exact(q.into (M.trans G)).one G.nh i3
  ·rw[T];rw[e2]at q;exact(q.into (M.trans G)).one G.nh .non
 |_=>simp[E2]at g
@[simp] def Cz:D->D->OB
 |.dk ks vs,y=>(ky y).bind λk=>(bW ks vs k).map λd=>(d,false)
 |_,_=>none
def qm {T fi:FE}(hu:X.A.units+1<cLine)(ho:JE X o T)(hi:JE X i fi)(hs:Ky i):JE X (.Subscript o i pos) (f2 Cz T fi):=by
 refine PE.to (G9 hu ho hi hs) λσ H Q q=>?_;obtain⟨B,ρ,d,bb,U,r,g,q⟩:=q;obtain⟨x,ex,g⟩:=oX g;obtain⟨y,ey,g⟩:=oX g;refine⟨B,ρ,x.1,x.2,U,r,ex,λv H1 N1 M i1 ff=>?_⟩;obtain⟨xd,xb⟩:=x;cases i1 with
 |@dk a ks vs ds ob h hl O=>
  simp only[Cz]at g;obtain⟨k,hk,g⟩:=oX g;obtain⟨d0,hd,g⟩:=oY g;cases g
  refine⟨N1,ρ,y.1,y.2,M.nh,r.mono M.bn,ey,λv2 H2 N2 G i2 _=>?_⟩;have hv:=m6 i2 hk;subst hv;rcases ql k hl (O.mono G.bn)with⟨v,d',e1,e2,i3⟩|⟨_,e2⟩
  ·rw[hd]at e2;cases e2
   exact⟨a,v,rfl,.inl ⟨_,k,_,.inl (G.nh _ _ (G.bn _ _ h)),rfl,e1.symm⟩,(q.into (M.trans G)).one G.nh i3⟩
  ·rw[hd]at e2;cases e2
 |_=>simp[Cz]at g
@[simp] def Df:D->D->OB
 |y,.dk ks vs=>(ky y).map λk=>(.bl (bW ks vs k).isSome,false)
 |_,_=>none
@[simp] def qo:D->D->OB
 |y,.dk ks vs=>(ky y).map λk=>(.bl (!(bW ks vs k).isSome),false)
 |_,_=>none
def nL {κ:Type}[DecidableEq κ]{K:Frag}{B:Hp}{k:κ}{ks:List κ}{vs:List V}{ds:List D}(hl:ks.length=vs.length)(hs:IsL K B vs ds):(jx (ks.zip vs) k).isSome=(bW ks ds k).isSome:=by
 rcases ql k hl hs with⟨v,d,g,e2,_⟩|⟨g,e2⟩
 ·rw[g,e2];rfl
 ·rw[g,e2];rfl
def Lf {fi O:FE}(hu:X.A.units+1<cLine)(hi:JE X i fi)(ho:JE X o O)(hm:behindInMarks .In o=false:=by first|exact gZ _ (by decide) (by decide)|rfl):JT X (.Compare i [.In] [o] pos) (ba (f2 Df fi O)):=by
 refine PT.to (Dj (D2 hu hi ho) hm) λσ H Q q=>?_;obtain⟨B,ρ,d,bb,T,r,g,q⟩:=uH q;obtain⟨y,U,g⟩:=oX g;obtain⟨x,ex,g⟩:=oX g;refine⟨B,ρ,y.1,y.2,T,r,U,λv2 H1 N1 G i2 _=>⟨N1,ρ,x.1,x.2,G.nh,r.mono G.bn,ex,λv H2 N2 M i1 ff=>?_⟩⟩;obtain⟨xd,xb⟩:=x;cases i1 with
 |@dk a ks vs ds ob h hl hs=>
  simp only[Df]at g;obtain⟨k,hk,g⟩:=oY g;cases g
  have hv:=m6 i2 hk;subst hv;refine⟨a,jx (ks.zip vs) k,rfl,.inl ⟨_,k,_,.inl (M.nh _ _ h),rfl,rfl⟩,?_⟩;rw[nL hl hs];exact(q.into (G.trans M)).one M.nh (.bl _)
 |_=>simp[Df]at g
def C0 {fi O:FE}(hu:X.A.units+1<cLine)(hi:JE X i fi)(ho:JE X o O)(hm:behindInMarks .NotIn o=false:=by first|exact gZ _ (by decide) (by decide)|rfl):JT X (.Compare i [.NotIn] [o] pos) (ba (f2 qo fi O)):=by
 refine PT.to (Dj (Cc hu hi ho) hm) λσ H Q q=>?_;obtain⟨B,ρ,d,bb,T,r,g,q⟩:=uH q;obtain⟨y,U,g⟩:=oX g;obtain⟨x,ex,g⟩:=oX g;refine⟨B,ρ,y.1,y.2,T,r,U,λv2 H1 N1 G i2 _=>⟨N1,ρ,x.1,x.2,G.nh,r.mono G.bn,ex,λv H2 N2 M i1 ff=>?_⟩⟩;obtain⟨xd,xb⟩:=x;cases i1 with
 |@dk a ks vs ds ob h hl hs=>
  simp only[qo]at g;obtain⟨k,hk,g⟩:=oY g;cases g
  have hv:=m6 i2 hk;subst hv;refine⟨a,jx (ks.zip vs) k,rfl,.inl ⟨_,k,_,.inl (M.nh _ _ h),rfl,rfl⟩,?_⟩;rw[nL hl hs];exact(q.into (G.trans M)).one M.nh (.bl _)
 |_=>simp[qo]at g
end
noncomputable def dI {κ:Type}[DecidableEq κ](ks:List κ)(k:κ):List κ:=if k∈ks then ks else ks++[k]
noncomputable def dJ {κ α:Type}[DecidableEq κ](ks:List κ)(xs:List α)(k:κ)(x:α):List α:=if k∈ks then List.zipWith (λk' g=>if k'=k then x else g) ks xs else xs++[x]
theorem AQ {κ:Type}[DecidableEq κ](k:κ):∀ {ks:List κ}{vs:List V},ks.length=vs.length->((ks.zip vs).any λkv=>decide (kv.1=k))=decide (k∈ks)
 |[],_,_=>by simp
 |k'::ks,[],h=>by simp at h
 |k'::ks,v::vs,h=>by
  have g:=AQ k (ks:=ks) (vs:=vs) (by simpa using h);rw[List.zip_cons_cons,List.any_cons,g];by_cases e:k'=k
  ·simp[e]
  ·have G:¬k=k':=λz=>e z.symm;simp[e,G]
theorem AR {κ:Type}[DecidableEq κ](k:κ)(v:V):∀(ks:List κ)(vs:List V),(ks.zip vs).map (λkv=>if kv.1=k then (kv.1,v)else kv)=ks.zip (List.zipWith (λk' g=>if k'=k then v else g) ks vs)
 |[],_=>by simp
 |_::_,[]=>by simp
 |k'::ks,w::vs=>by
  rw[List.zip_cons_cons,uY,AR k v ks vs,List.zipWith_cons_cons,List.zip_cons_cons];by_cases e:k'=k
  ·simp[e]
  ·simp[e]
def p5 {κ:Type}[DecidableEq κ]{ks:List κ}{vs:List V}(hl:ks.length=vs.length)(k:κ)(v:V):mh (ks.zip vs) k v=(dI ks k).zip (dJ ks vs k v):=by
 unfold mh dI dJ;rw[AQ k hl];by_cases h:k∈ks
 ·rw[if_pos (decide_eq_true h),if_pos h,if_pos h,AR]
 ·rw[if_neg (by simpa using h),if_neg h,if_neg h,List.zip_append hl];rfl
def m7 {κ α:Type}[DecidableEq κ]{ks:List κ}{xs:List α}(hl:ks.length=xs.length)(k:κ)(x:α):(dI ks k).length=(dJ ks xs k x).length:=by
 unfold dI dJ;split<;>simp[hl]
theorem IsL.zipWith {κ:Type}[DecidableEq κ]{K:Frag}{B:Hp}{k:κ}{v:V}{d:D}(i:Is K B v d):∀ {ks:List κ}{vs:List V}{ds:List D},IsL K B vs ds->IsL K B (List.zipWith (λk' g=>if k'=k then v else g) ks vs) (List.zipWith (λk' g=>if k'=k then d else g) ks ds)
 |[],_,_,_=>by simpa using IsL.nil
 |_::_,_,_,.nil=>by simpa using IsL.nil
 |k'::ks,_,_,.cons h t=>by
  rw[List.zipWith_cons_cons,List.zipWith_cons_cons];refine .cons ?_ (IsL.zipWith i t);by_cases e:k'=k
  ·rw[if_pos e,if_pos e];exact i
  ·rw[if_neg e,if_neg e];exact h
def IsL.put {κ:Type}[DecidableEq κ]{K:Frag}{B:Hp}{k:κ}{v:V}{d:D}(i:Is K B v d){ks:List κ}{vs:List V}{ds:List D}(h:IsL K B vs ds):IsL K B (dJ ks vs k v) (dJ ks ds k d):=by
 unfold dJ;split
 ·exact h.zipWith i
 ·exact h.append (.cons i .nil)
section
variable {K:Frag}{E:Ends}{σ:St}{H:Hp}
noncomputable def AS (i:Nat):FS:=λρ=>some (.nx (ρ.set i (some (.dk [] [],true))))
noncomputable def E4 (i:Nat):FS:=λρ=>some (.nx (ρ.set i (some (.dt [] [],true))))
def eP.newBox (s:eP K B0 H0 N H σ ρ)(i:Nat)(hp:H p=none)(hb:∀C,Bx K C ob dd):eP K B0 H0 (upd N p ob) (upd H p ob) (σ.set i (some (.ref p))) (ρ.set i (some (dd,true))):=by
 have x:=Ext.laid (o:=ob) s.ext.nh hp;have s1:=s.grow x;have g:N p=none:=s.ext.nh.free hp;have G:¬own σ ρ p:=λz=>by obtain⟨O,⟨q,_⟩,_⟩:=s.owned z;rw[g]at q;cases q
 have c:bf (eG N (own σ ρ)) (eG (upd N p ob) (λb=>own σ ρ b∨b=p)):=eS λb u e q=>⟨x.bn _ _ e,λz=>z.elim q λz=>by subst z;rw[g]at e;cases e⟩;refine s1.bindOwn aH (s.ext.hh.free hp) (λj e q z=>G ⟨j,e,q,z⟩) (λj e _ q=>?_) (λj e _ q=>?_) (hb _)
 ·obtain⟨w,h1,h2⟩:=s.sh j e q;exact⟨w,h1,h2.mono c⟩
 ·obtain⟨M,o',h1,h2,_,h4⟩:=s.ow j e q;exact⟨M,o',h1,x.bn _ _ h2,h4.mono c⟩
def E5 (q:nq K (AS i) E σ H):zc D4 (jN i) E σ H:=by
 obtain⟨B0,H0,ρ,r,⟨N,s⟩,e,p⟩:=q;cases e
 exact λa ob ha=>p _ _ ⟨_,s.newBox i ha λ_=>.dk (ks:=[]) (vs:=[]) rfl .nil⟩
def E6 (q:nq K (E4 i) E σ H):zc D5 (jN i) E σ H:=by
 obtain⟨B0,H0,ρ,r,⟨N,s⟩,e,p⟩:=q;cases e
 exact λa ha=>p _ _ ⟨_,s.newBox i ha λ_=>.dt (ks:=[]) (vs:=[]) rfl .nil⟩
def xQ (i:Nat)(G M:FE):FS:=λρ=>match ρ[i]? with
 |some (some (.dk ks vs,true))=>(M ρ).bind λv=>(G ρ).bind λk=>(ky k.1).bind λg=>if bj v.1=true/\ks.length<sizeLine then some (.nx (ρ.set i (some (.dk (dI ks g) (dJ ks vs g v.1),true))))else none
 |_=>none
def E7 {i:Nat}{g G:FE}(q:nq K (xQ i g G) E σ H):Au (Di i) (tD K g) (tD K G) E σ H:=by
 obtain⟨B0,H0,ρ,r,⟨N,s⟩,e,p⟩:=q;unfold xQ at e;split at e
 ·rename_i ks ds ei;obtain⟨v,O,e⟩:=oX e;obtain⟨k,ek,e⟩:=oX e;obtain⟨T,hk,e⟩:=oX e;split at e
  ·rename_i hx;cases e
   refine⟨N,ρ,v.1,v.2,s.ext.nh,s.rep,O,λv1 H1 N1 U i1 _=>?_⟩;have s1:=s.grow U;obtain⟨a,o,h1,h2,h3,h4⟩:=s1.ow i _ ei;refine⟨.ref a,h1,N1,ρ,k.1,k.2,s1.ext.nh,s1.rep,ek,λv2 H2 N2 M i2 _=>?_⟩;have s2:=s1.grow M;have hv:=m6 i2 hk;subst hv;obtain⟨a',o',k1,k2,k3,k4⟩:=s2.ow i _ ei;rw[h1]at k1;cases k1
   cases k4 with
   |@dk ks vs ds hl h5 ob=>
    refine⟨a,rfl,.inl ⟨_,T,_,s2.ext.nh _ _ k2,rfl,?_,λVQ=>?_⟩⟩
    ·rw[List.length_zip];omega
    ·rw[p5 hl];exact p σ _ ⟨_,s2.writeB ei h1 (.dk (m7 hl _ _) (h5.put (s2.flat (i1.mono M.bn) hx.1)))⟩
  ·cases e
 ·cases e
end
section
variable {X:Cx}{pos:Pos}{e k:Expr}
def AT (g:X.N.Nodup)(hi:X.N[i]? = some x:=by rfl)(hx:FU X.env.scope x:=by first|exact Or.inl rfl|exact Or.inr rfl)(hs:swapsWith (.Dict [] [] dp) (some (.Name x p)) pos.line X.env=pure false:=by rfl)
  (hf:X.fn x=true∨X.env.scope.names.lookup x=some .local:=by first|exact .inl rfl|exact .inr rfl):JS X (.Assign [.Name x p] (.Dict [] [] dp) pos) (AS i):=PS.to (ut g hi hx D6 hs hf) λ_ _ _ q=>E5 q
def Hy (g:X.N.Nodup)(hi:X.N[i]? = some x:=by rfl)(hx:FU X.env.scope x:=by first|exact Or.inl rfl|exact Or.inr rfl)(hs:swapsWith (.Dict [] [] dp) (some (.Name x p)) pos.line X.env=pure false:=by rfl)
  (hf:X.fn x=true∨X.env.scope.names.lookup x=some .local:=by first|exact .inl rfl|exact .inr rfl):JS X (.Assign [.Name x p] (.Dict [] [] dp) pos) (E4 i):=PS.to (ut g hi hx D7 hs hf) λ_ _ _ q=>E6 q
def Hz (hu:X.A.units+1<cLine)(hv:JE X e fv)(hk:JE X k fk)(M:X.N[i]? = some y:=by rfl)(g:Dh X.env.scope y:=by first|exact Or.inl rfl|exact Or.inr (Or.inl rfl)|exact Or.inr (Or.inr rfl))(hd:(y == ("__debug__" : Str))=false:=by decide)
  (G:(y == ("__classdict__" : Str))=false:=by decide) (hs:swapsWith e (some (.Subscript (.Name y py) k pt)) pos.line X.env=pure false:=by rfl):JS X (.Assign [.Subscript (.Name y py) k pt] e pos) (xQ i fk fv) :=
 PS.to (uA hu (lF M g hd G) hk hv hs) λ_ _ _ q=>E7 q
end
section
variable {prog:Program}{w:World}{A:Around}{E:Value->Shared->Prop}{s:Shared}
abbrev Lg (h:Heap)(z TI TO g:Addr)(f:Bool):Prop:=h.get? z=some { cls:=.type "zip",dict:=none,data:=.fields #[rawInt g,.bool f,.bool false,.ref TI,.ref TO],slots:=#[] }
end
def RZ (k1 k2:Bool)(z TI TO G M O T S:Addr)(i:Nat)(h:Heap):Prop :=
 IsPair h TI (.ref G) (.ref M)/\AA k1 h G O i/\AA k2 h M T i/\((IsZip h z TI TO .none/\∃a b,IsPair h TO a b)∨∃g f U oO,Lg h z TI TO g f/\h.get? g=some U/\g∉[z,TI,TO,G,M]/\g≠S/\h.get? TO=some oO)
section
variable {prog:Program}{w:World}{A:Around}{E:Value->Shared->Prop}{s:Shared}{k1 k2:Bool}{z TI TO i1 i2 l1 l2 S:Addr}{j:Nat}{xs ys:Array Value}
def RZ.ty (st:RZ k1 k2 z TI TO i1 i2 l1 l2 S j h):∃o,h.get? z=some o/\o.cls=.type "zip":=by
 obtain⟨_,_,_,g⟩:=st;rcases g with⟨b1,_⟩|⟨G,f,M,O,b1,_⟩
 ·exact⟨_,b1,rfl⟩
 ·exact⟨_,b1,rfl⟩
end
def qp (h:H a=none):bf H (upd H a o):=λb u e=>by rw[aM (bg e h)];exact e
@[simp] def WR (fa g:FE):FE:=λρ=>(Qe fa g ρ).map λds=>(.lst ds,true)
end DL
namespace DL
open PySem PySem.Spec PyProof.Rows
def vy:typeLookup (.type "list") "keys" = pure none:=by rw[typeLookup_type,builtinLookup_eq_fast];kernel_rfl
def C1 
  (hx:s.heap.get? a=some { cls:=.type "list",dict:=none,data:=.seq xs k,slots:=sl }) (O:A.handled=none)
  (h:∀h' tk,(∀b o,s.heap.get? b=some o->h'.get? b=some o)->Q none { s with heap:=h',toks:=tk }):
  wpAny (model prog w) A (getAttr? (.ref a) "keys") Q E s:=by
 obtain⟨hp,g,d,tk,os⟩:=s;have M:∀G,(⟨hp,g,d,G,os⟩:Shared).TypeIs (.ref a) "list":=λ_=>⟨_,hx,rfl⟩;have f1:=sub_AttributeError;have f3:=PySem.F.slot_list_getattribute.lookup;have f4:=PySem.F.slot_list_getattribute.bind (.ref a);have f5:=am_list_getattr_none;unfold getAttr? getAttrBy? getAttrBy;repeat (any_goals (first|assumption|exact M _|((with_reducible show wpAny _ _ (call (Value.builtin "list.__getattribute__") _ _) _ _ _);refine call_meets PySem.F.slot_list_getattribute (M _) am_entry_list_getattribute (PySem.F.args_list_getattribute_2 _ _) (meets_getattribute_miss_list a xs k sl "keys" _ vy (by decide) (by decide)) ⟨hx,O,λh' G e hx'=>?_⟩)|wp_step))
 obtain⟨t',T,he⟩:=hx'.there;show wpAny _ _ (getattributeRaised _ _ _ _ _ _ _) _ _ _;unfold getattributeRaised;repeat (any_goals (first|assumption|wp_step))
 exact h _ _ hx'.of.keeps
end DL
namespace DL
open PySem PySem.Spec PyProof.Rows L2
def iT:List D->Option (List (cF×D))
 |[]=>some []
 |.tup [k,v]::r=>(ky k).bind λg=>(iT r).map λl=>(g,v)::l
 |_=>none
noncomputable def qq (a:List cF×List D)(p:cF×D):List cF×List D:=(dI a.1 p.1,dJ a.1 a.2 p.1 p.2)
noncomputable def ca (l:List (cF×D)):List cF×List D:=l.foldl qq ([],[])
def qr (l:List (cF×D))(p:cF×D):ca (l++[p])=qq (ca l) p:=by unfold ca;rw[List.foldl_append];rfl
theorem qt:∀ {ds:List D}{l:List (cF×D)},iT ds=some l->l.length=ds.length
 |[],l,h=>by simp[iT]at h;subst h;rfl
 |d::r,l,h=>by
  unfold iT at h;split at h
  ·rename_i h0;cases h0
  ·rename_i k v g h0;cases h0
   obtain⟨G,_,h⟩:=oX h;obtain⟨M,h1,rfl⟩:=oY h;simp[qt h1]
  ·cases h
theorem qu:∀ {ds:List D}{l:List (cF×D)}{i:Nat}{d:D},iT ds=some l->ds[i]? = some d->∃k v g,d=.tup [k,v]/\ky k=some g/\l[i]? = some (g,v)
 |[],l,i,d,_,h=>by simp at h
 |d0::r,l,i,d,h,hi=>by
  unfold iT at h;split at h
  ·rename_i h0;cases h0
  ·rename_i k v G h0;cases h0
   obtain⟨g,h2,h⟩:=oX h;obtain⟨M,h1,rfl⟩:=oY h;cases i with
   |zero=>simp at hi;subst hi;exact⟨k,v,g,rfl,h2,rfl⟩
   |succ i=>simp only[List.getElem?_cons_succ]at hi ⊢;exact qu h1 hi
  ·cases h
def E8 (l:List (cF×D)):∀a:List cF×List D,a.1.length=a.2.length->(l.foldl qq a).1.length=(l.foldl qq a).2.length/\(l.foldl qq a).1.length<=a.1.length+l.length:=by
 induction l with
 |nil=>intro a h;exact⟨h,vT _⟩
 |cons p l g=>
  intro a h;have h1:(qq a p).1.length<=a.1.length+1:=by
   show(dI _ _).length<=_;unfold dI;split<;>simp
  have:=g (qq a p) (m7 h _ _);rw[List.foldl_cons,vE];exact⟨this.1,by omega⟩
def C2 (l:List (cF×D)):(ca l).1.length=(ca l).2.length/\(ca l).1.length<=l.length:=by
 have:=E8 l ([],[]) rfl;exact⟨this.1,vR this.2 (by simp)⟩
def tJ:entryFor table "dict.update.loop" = some Builtin.«dict.update.loop»:=entryFor_of_tree (by kernel_rfl)
def kZ:plainId "dict.update.loop" = true:=by decide +kernel
section
variable {X:Cx}{af:List (Addr×Obj)}{σ:St}{B H0:Hp}{A:Around}{R:Result->Shared->Prop}{it l d:Addr}{us:List V}{ds:List D}{ju:List (cF×D)}
def zM (hA:A.handled=none)(nl:l≠it)(nd:d≠it)(hl:gn X.K B l us)(il:IsL X.K B us ds)(hp:iT ds=some ju)
  (hR:∀g N vs ob s',Inv X af σ (upd g d (.dK ((ca ju).1.zip vs) ob)) s'->g d=none->Ext B N H0 g->(ca ju).1.length=vs.length->IsL X.K N vs (ca ju).2->R (.ok (.ret .none)) s'):
  ∀(k i:Nat)(tk:Nat)(s:Shared)(g N:Hp)(vs:List V)(ob:Obj),ds.length - i=k->i<=ds.length->Inv X af σ (upd g d (.dK ((ca (ju.take i)).1.zip vs) ob)) s->g d=none->Ext B N H0 g->nv X af (upd g d (.dK ((ca (ju.take i)).1.zip vs) ob)) it ->
   s.heap.IsListIter it l i->(ca (ju.take i)).1.length=vs.length->IsL X.K N vs (ca (ju.take i)).2 ->
   codeAny (model X.prog X.w) A (.builtin "dict.update.loop" ⟨[.ref d,.ref it,.int i tk,.none],[]⟩) R s:=by
 have n1:=il.length;have n2:=qt hp;intro k;induction k with
 |zero=>
  intro i tk s g N vs ob hk hi I hc G fp st hz hv;have IK:i=ds.length:=by omega
  have sm:bf B (upd g d (.dK ((ca (ju.take i)).1.zip vs) ob)):=(G.bn.trans G.nh).trans (qp hc);obtain⟨its,r1,p1,z1⟩:=I.list (sm.seq hl);have e1:=r1.length;refine codeAny_builtin tJ ?_;rw[Around.under_plainId kZ _];show wpAny _ A.in1 (pyNext (.ref it)>>=_) _ _ s;refine wX (wpAny_pyNext_list_end (A:=A.in1) hA st p1.isList (by simp;omega) λh' J9=>?_);show wpAny _ _ (Builtin.Dict.addKeywords d []>>=_) _ _ _;refine wX (wY (wY ?_));have U:=mv (t':=s.toks) (h':=h') (ch:=[it]) I (λb hb=>by rw[uT hb];exact fp) λb o hb e=>J9 b o (λq=>hb (by simp[q])) e;rw[IK,←n2,List.take_length]at U hz hv;exact hR g N vs ob _ U hc G hz hv
 |succ k ih=>
  intro i tk s g N vs ob hk hi I hc G fp st hz hv;have O:i<ds.length:=by omega
  have sm:bf B (upd g d (.dK ((ca (ju.take i)).1.zip vs) ob)):=(G.bn.trans G.nh).trans (qp hc);obtain⟨its,r1,p1,z1⟩:=I.list (sm.seq hl);obtain⟨kd,vd,M,ed,ek,el⟩:=qu hp (vU O);obtain⟨x,hx,ix⟩:=il.get (vU O);rw[ed]at ix;cases ix with
  |@tup T xs _ hT hxs=>
   cases hxs with
   |cons ik r=>
    cases r with
    |cons iv r=>
     cases r
     rename_i xk xv;have VR:=m6 ik ek;subst VR;obtain⟨u,hu,ru⟩:=r1.get hx;cases (show u=Value.ref T from ru)
     refine codeAny_builtin tJ ?_;rw[Around.under_plainId kZ _];show wpAny _ A.in1 (pyNext (.ref it)>>=_) _ _ s;refine wX (wpAny_pyNext_list_item (A:=A.in1) st p1.isList (x:=.ref T) (by simpa using hu) λh' Oq hs=>?_);have U:=mv (t':=s.toks) (h':=h') (ch:=[it]) I (λb hb=>by rw[uT hb];exact fp) λb o hb e=>hs.extBut b o (λq=>hb (by simp[q])) e;obtain⟨ps,r2,p2,z2⟩:=U.tuple (bz sm hT);obtain⟨uk,uv,rfl,rk,rv⟩:=r2.two;have VS:Shared.TypeIs { s with heap:=h' } (.ref T) "tuple":=by obtain⟨o,e,c,_⟩:=p2;exact⟨o,e,c⟩
     dsimp only;refine wX (wpAny_holding (wX (wpAny_tryCatch ?_)));unfold Builtin.Dict.pairItems;refine wX (wpAny_typeOf VS ?_);obtain⟨oT,eT,cT,nT,dT⟩:=p2;rw[if_pos (by decide)];refine wX (wpAny_seqItems eT dT (wY ?_));show wpAny _ _ (holding [uk,uv] (dictSet d uk uv)) _ _ _;obtain⟨zz,Tq,VT,Tt,dd⟩:=sJ U.hok (a:=d) aH;have VU:VT.length<=sizeLine:=by rw[←Tt.length];exact zz
     have nk:((ca (ju.take i)).1.zip vs).length<sizeLine:=by
      have a1:=(C2 (ju.take i)).2;have a2:=z1;rw[List.length_take]at a1;rw[List.length_zip];omega
     refine wpAny_holding (wpAny_dictSet_pairs (hsz:=VU) (pF rk) dd λh2 Pq Pr=>?_);have IF:(mh ((ca (ju.take i)).1.zip vs) M xv).length<=sizeLine:=by have:=jZ ((ca (ju.take i)).1.zip vs) M xv;omega
     obtain⟨Tu,Me⟩:∃q,h2.get? d=some q:=let ⟨q,_,_,hq,_⟩:=Pq;⟨q,hq⟩;have I2:=u6 (t':=s.toks+1) U (a:=d) (ob:=.dK (mh ((ca (ju.take i)).1.zip vs) M xv) Tu) (by rw[aH];exact True.intro) Pr ⟨_,Me⟩ (D1 IF Tq (Tt.put M rv) Pq Me);rw[Gf,p5 hz]at I2;have et:ju.take (i+1)=ju.take i++[(M,vd)]:=by rw[List.take_add_one,el];rfl
     have Tv:(ca (ju.take (i+1))).1=dI (ca (ju.take i)).1 M:=by rw[et,qr];rfl
     have VV:(ca (ju.take (i+1))).2=dJ (ca (ju.take i)).1 (ca (ju.take i)).2 M vd:=by rw[et,qr];rfl
     refine wY ⟨plainId_quiet kZ _,?_⟩;refine ih (i+1) 0 _ g N (dJ (ca (ju.take i)).1 vs M xv) Tu (by omega) O (by rw[Tv];exact I2) hc G ?_ ?_ ?_ ?_
     ·obtain⟨f0,f1⟩:=fp;refine⟨?_,f1⟩;rw[aM nd.symm]at f0 ⊢;exact f0
     ·exact Oq.at λo e=>(Pr.2 it nd.symm).trans e
     ·rw[Tv];exact m7 hz _ _
     ·rw[VV];exact hv.put (iv.mono G.bn)
end
@[simp] def j8:List D->OB
 |[.lst ds]=>(iT ds).map λg=>(.dk (ca g).1 (ca g).2,false)
 |_=>none
def Lh:bootBuiltins "dict" = some (.type "dict"):=by decide +kernel
section
variable {X:Cx}
def Li (O:X.calm=true):cq X (.type "dict") (Dc X.K j8):=by
 intro af s σ H xs us Q I r h;obtain⟨B,Xf,d0,bb,sB,i0,M,q⟩:=h;cases i0 with
 |nil=>simp[j8]at M
 |cons i1 i2=>
  cases i2 with
  |cons _ _=>cases i1<;>simp[j8]at M
  |nil=>
   cases i1<;>try (simp[j8]at M;done)
   rename_i l ws ds hl il;simp only[j8]at M;obtain⟨T,hp,M⟩:=oY M;cases M
   obtain⟨u,rfl,rx⟩:=hG r;cases rx
   have hA:X.A.handled=none:=I.ok.hd O;refine callType_codes (Q₁:=λobj G=>obj=.ref s.heap.objs.size/\G={ s with heap:=s.heap.push { cls:=.type "dict",data:=.dict #[] } }) PySem.F.kt_called_dict (PySem.F.kt_typeCall_dict_1 _) PySem.F.entry_dict_init (kt_code_dict_new _ ⟨rfl,rfl⟩) ?_;rintro obj G ⟨rfl,rfl⟩;have I1:Inv X af σ (upd H s.heap.objs.size (.dK [] { cls:=.type "dict",data:=.dict #[] })) { s with heap:=s.heap.push { cls:=.type "dict",data:=.dict #[] } }:=I.laid (t':=s.toks) (λb o e=>vZ _ e) (vT _) (wN s.heap I.big);have U:H s.heap.objs.size=none:=I.fresh;have hT:Shared.TypeIs { s with heap:=s.heap.push { cls:=.type "dict",data:=.dict #[] } } (.ref s.heap.objs.size) "dict":=⟨_,vY _ rfl,rfl⟩;refine⟨hT,PySem.F.args_dict_init_2 _ _,?_⟩;unfold Builtin.«dict.__init__»;refine wX ?_;unfold Builtin.Dict.selfAndRest;refine wX (wpAny_notOrdered_dict hT ?_);show wpAny _ _ (pure (s.heap.objs.size,[Value.ref l])) _ _ _;refine wY ?_;show wpAny _ _ (Builtin.Dict.updateFrom "dict.__init__" s.heap.objs.size (.ref l) [] .none) _ _ _;unfold Builtin.Dict.updateFrom;have sm:bf B (upd H s.heap.objs.size (.dK [] { cls:=.type "dict",data:=.dict #[] })):=sB.trans (qp U);obtain⟨its,r1,p1,z1⟩:=I1.list (sm.seq hl);have pl:=p1.isList;obtain⟨ol,nl,g,cl,Tw,dl⟩:=p1;have VW:Shared.TypeIs { s with heap:=s.heap.push { cls:=.type "dict",data:=.dict #[] } } (.ref l) "list":=⟨ol,g,cl⟩;refine wX (wpAny_typeOf VW ?_);rw[if_pos (by decide)];obtain⟨oc,od,oo,os⟩:=ol;simp only at cl Tw dl;subst cl Tw dl;refine wX (C1 g (by exact hA) λh' tk hk=>?_);dsimp only[Option.isNone_none];rw[if_pos rfl];have I2:Inv X af σ (upd H s.heap.objs.size (.dK [] { cls:=.type "dict",data:=.dict #[] })) { s with heap:=h',toks:=tk }:=I1.kept (t':=tk) hk;refine wX (wpAny_rule ?_);refine wX (wpAny_pyIter_list (items:=its.toArray) ⟨_,hk _ _ g,rfl,nl,rfl⟩ ?_);have I3:Inv X af σ (upd H s.heap.objs.size (.dK [] { cls:=.type "dict",data:=.dict #[] })) { s with heap:=h'.push { cls:=.type "list_iterator",data:=.fields #[.ref l,.int 0 0] },toks:=tk }:=I2.kept (t':=tk) λb o e=>vZ _ e;have ld:s.heap.objs.size<h'.objs.size:=vX (hk _ _ (vY _ rfl));have ll:l<h'.objs.size:=vX (hk _ _ g);refine wY ⟨plainId_quiet kZ _,zM (A:=X.A.in1) (B:=B) (H0:=H) (l:=l) (d:=s.heap.objs.size) (it:=h'.objs.size) hA (vS ll) (vS ld) hl il hp (λHc N vs ob s' I' NX xt hz hv=>?_) _ 0 0 _ H B [] _ rfl (uN _) I3 U (Ext.refl sB) (I2.fpOk (vT _) (I2.hok.fresh (vT _))) ⟨_,vY _ rfl,rfl,rfl⟩ rfl .nil⟩;refine⟨rfl,.ref s.heap.objs.size,_,I',rfl,?_⟩;have x3:=xt.trans (Ext.laid (o:=.dK ((ca T).1.zip vs) ob) xt.nh NX);exact q _ _ _ x3 (.dk aH hz (hv.mono (Ext.laid (o:=.dK ((ca T).1.zip vs) ob) xt.nh NX).bn)) (by simp)
end
@[simp] noncomputable def Sa:FE:=λ_=>none
@[simp] noncomputable def Sb:FA:=λ_=>none
def AU (h:n+40<cLine):n+1<cLine:=by omega
@[simp] noncomputable def Lj:D->D->OB
 |.lst ds,.int k=>if 0<=k/\ds.length*k.toNat<=1000/\k<=1000 then some (.lst (List.replicate k.toNat ds).flatten,true)else none
 |_,_=>none
@[simp] def C3 (fa g:FE):FE:=λρ=>(fa ρ).bind λx=>if x.2=true then (g ρ).bind λy=>Lj x.1 y.1 else none
theorem IsL.rep {K:Frag}{H:Hp}{vs:List V}{ds:List D}(h:IsL K H vs ds):∀k:Nat,IsL K H (List.replicate k vs).flatten (List.replicate k ds).flatten
 |0=>.nil
 |k+1=>by rw[List.replicate_succ,List.replicate_succ,List.flatten_cons,List.flatten_cons];exact h.append (IsL.rep h k)
section
variable {X:Cx}{a b:Expr}{pos:Pos}
def E9 {fa U:FE}(ha:JE X a fa)(hb:JE X b U):JE X (.BinOp a .Mult b pos) (C3 fa U):=by
 refine PE.to (IQ Kw ha hb) λσ H Q q=>?_;obtain⟨B,ρ,d,bb,sB,r,g,q⟩:=q;obtain⟨x,ex,g⟩:=oX g;split at g
 ·rename_i hx;obtain⟨⟨yd,yb⟩,ey,g⟩:=oX g;refine⟨B,ρ,x.1,x.2,sB,r,ex,λv H1 N1 O i1 fr=>⟨N1,ρ,yd,yb,O.nh,r.mono O.bn,ey,λu H2 N2 G i2 T=>?_⟩⟩;obtain⟨a0,vs,ds,rfl,e1,h0,h1,il⟩:=fr hx;rw[e1]at g;clear T;cases i2<;>try (simp[Lj]at g;done)
  rename_i k;simp only[Lj]at g;split at g
  ·rename_i hk;cases g
   have hl:=il.length;refine⟨a0,k,vs,rfl,rfl,G.nh _ _ (G.bn _ _ h1),by omega,by omega,by rw[hl];exact vR hk.2.1 (by decide:(1000:Nat)<=sizeLine),λp hp=>?_⟩;have x3:=Ext.laid (o:=.lst (List.replicate k.toNat vs).flatten) G.nh hp;have M:=((il.mono G.bn).mono x3.bn).rep k.toNat;exact q _ _ _ ((O.trans G).trans x3) (.lst (gn.of aH) M) λ_=>⟨_,_,_,rfl,rfl,(O.trans G).hh.free hp,aH,M⟩
  ·cases g
 ·cases g
end
def iJ:List D->Option (List cF)
 |[]=>some []
 |d::ds=>(ky d).bind λk=>(iJ ds).map (k :: ·)
theorem zN {K:Frag}{B:Hp}:∀ {vs:List V}{ds:List D}{ks:List cF},IsL K B vs ds->iJ ds=some ks->vs=ks.map kV
 |_,_,ks,.nil,e=>by simp[iJ]at e;subst e;rfl
 |_,_,ks,.cons i is,e=>by
  simp only[iJ]at e;obtain⟨k,h1,e⟩:=oX e;obtain⟨r,h2,rfl⟩:=oY e;rw[m6 i h1,zN is h2];rfl
@[simp] def EA (G:FE)(fa:FA):FE:=λρ=>(G ρ).bind λx=>(fa ρ).bind λds=>match x.1 with
 |.dt g vs=>if ds.length<=sizeLine then (iJ ds).map λk=>((bW g vs k).getD .non,false)else none
 |_=>none
section
variable {X:Cx}{o:Expr}{es:List Expr}{pos:Pos}
def EB {dG cI G:Pos}{M:Nat}{fo:FE}{fa:FA}(hu:X.A.units+1<cLine)(ho:JE X o fo)(ha:JA X es fa)(m:M1 X o "get" dG (.Tuple es M G) cI):JE X (.Call (.Attribute o "get" dG) [.Tuple es M G] [] cI) (EA fo fa):=by
 refine PE.to (wO hu ho (zh ha) m) λσ H Q q=>?_;obtain⟨B,ρ,d,bb,sB,r,g,q⟩:=q;obtain⟨x,ex,g⟩:=oX g;obtain⟨ds,ey,g⟩:=oX g;refine⟨B,ρ,x.1,x.2,sB,r,ex,λv H1 N1 M i1 ff=>?_⟩;obtain⟨xd,xb⟩:=x;cases i1 with
 |@dt a ks vs L9 h hl hs=>
  simp only at g;split at g
  ·rename_i hz;obtain⟨k,hk,g⟩:=oY g;cases g
   refine⟨a,rfl,.inr ⟨_,.inl (M.nh _ _ h)⟩,N1,ρ,ds,M.nh,r.mono M.bn,ey,λus H2 N2 T i2=>?_⟩;have hv:=zN i2 hk;have U:us.length<=sizeLine:=by rw[i2.length];exact hz
   refine⟨U,λp hp=>?_⟩;have O:=Ext.laid (o:=.tup us) T.nh hp;have VX:N2 a=some (.dT (ks.zip vs)):=T.bn _ _ h;refine⟨jx (ks.zip vs) k,.inr ⟨_,k,p,.inl (O.nh _ _ (O.bn _ _ VX)),rfl,by rw[aH,hv],rfl⟩,?_⟩;have Pr:=(hs.mono T.bn).mono O.bn;rcases ql k hl Pr with⟨v,d',e1,e2,i3⟩|⟨e1,e2⟩
   ·rw[e1];rw[e2]at q;exact(q.into ((M.trans T).trans O)).one O.nh i3
   ·rw[e1];rw[e2]at q;exact(q.into ((M.trans T).trans O)).one O.nh .non
  ·cases g
 |_=>simp at g
end
section
variable {K:Frag}{E:Ends}{σ:St}{H:Hp}
def tK (i:Nat)(G:FA)(M:FE):FS:=λρ=>match ρ[i]? with
 |some (some (.dt ks vs,true))=>(M ρ).bind λv=>(G ρ).bind λkd=>(iJ kd).bind λg=>if bj v.1=true/\ks.length<sizeLine/\kd.length<=sizeLine then some (.nx (ρ.set i (some (.dt (dI ks g) (dJ ks vs g v.1),true))))else none
 |_=>none
def EC {i:Nat}{G:FA}{M:FE}(q:nq K (tK i G M) E σ H):Au (Di i) (MF (LV K G)) (tD K M) E σ H:=by
 obtain⟨B0,H0,ρ,r,⟨N,s⟩,e,p⟩:=q;unfold tK at e;split at e
 ·rename_i ks ds ei;obtain⟨v,ev,e⟩:=oX e;obtain⟨kd,ek,e⟩:=oX e;obtain⟨kk,hk,e⟩:=oX e;split at e
  ·rename_i hx;cases e
   refine⟨N,ρ,v.1,v.2,s.ext.nh,s.rep,ev,λv1 H1 N1 x1 i1 _=>?_⟩;have s1:=s.grow x1;obtain⟨a,o,h1,h2,h3,h4⟩:=s1.ow i _ ei;refine⟨.ref a,h1,N1,ρ,kd,s1.ext.nh,s1.rep,ek,λus H2 N2 O T=>?_⟩;have s2:=s1.grow O;have hv:=zN T hk;refine⟨by rw[T.length];exact hx.2.2,λpp hp=>?_⟩;have U:=Ext.laid (o:=.tup us) s2.ext.nh hp;have g:=s2.grow U;obtain⟨a',o',k1,k2,k3,k4⟩:=g.ow i _ ei;rw[h1]at k1;cases k1
   cases k4 with
   |@dt ks vs ds hl h5=>
    refine⟨a,rfl,.inr ⟨_,kk,pp,g.ext.nh _ _ k2,rfl,by rw[aH,hv],?_,?_⟩⟩
    ·rw[List.length_zip];omega
    ·rw[p5 hl];exact p σ _ ⟨_,g.writeB ei h1 (.dt (m7 hl _ _) (h5.put (g.flat ((i1.mono O.bn).mono U.bn) hx.1)))⟩
  ·cases e
 ·cases e
end
section
variable {X:Cx}{pos:Pos}{e:Expr}{es:List Expr}
def HA (hu:X.A.units+1<cLine)(hv:JE X e fv)(hk:JA X es fk)(M:X.N[i]? = some y:=by rfl)(g:Dh X.env.scope y:=by first|exact Or.inl rfl|exact Or.inr (Or.inl rfl)|exact Or.inr (Or.inr rfl))(hd:(y == ("__debug__" : Str))=false:=by decide)
  (G:(y == ("__classdict__" : Str))=false:=by decide) (hs:swapsWith e (some (.Subscript (.Name y py) (.Tuple es x1 L8) pt)) pos.line X.env=pure false:=by rfl):JS X (.Assign [.Subscript (.Name y py) (.Tuple es x1 L8) pt] e pos) (tK i fk fv) :=
 PS.to (uA hu (lF M g hd G) (zh hk) hv hs) λ_ _ _ q=>EC q
end
end DL
namespace DL
open PySem PySem.Spec PySem.W PyProof.Rows L2
section
variable {X:Cx}{a b c:Expr}{p pos:Pos}
noncomputable def Ll (lo c:Int)(n:Nat):List D:=(List.range n).map λ(k:Nat)=>.int (lo+(k:Int)*c)
@[simp] def OU (f g h:FE):FA:=λρ=>(f ρ).bind λx=>(g ρ).bind λy=>(h ρ).bind λz=>match x.1,y.1,z.1 with
 |.int i,.int j,.int c=>if(-1000<=i/\i<=1000/\-1000<=j/\j<=1000)/\(c=1∨c=2∨c=3∨c = -1)then some (Ll i c (Builtin.Range.rangeSize i j c).toNat)else none
 |_,_,_=>none
end
end DL
namespace L2
open PySem PySem.Spec PyProof.Rows
noncomputable def Qm (a:Addr)(aQ:List (cF×V))(ob:Obj):It:=⟨λi H=>H a=some (.dK aQ ob)/\i<aQ.length,λi H x H'=>H'=H/\∃k,aQ[i]? = some (k,x),λi H=>H a=some (.dK aQ ob)/\aQ.length<=i⟩
def KV.get {aQ:List (cF×V)}{vs:List (cF×Value)}(r:KV aQ vs){i:Nat}{k:cF}{x:V}(h:aQ[i]? = some (k,x)):∃u,vs[i]? = some (k,u)/\bd x u:=by
 unfold KV at r;induction r generalizing i with
 |nil=>simp at h
 |@cons p q ps O hq t g=>
  cases i with
  |zero=>
   cases (show p=(k,x)from vK h)
   obtain⟨G,M⟩:=q;exact⟨M,by rw[show k=G from hq.1];rfl,hq.2⟩
  |succ i=>exact g h
def NA (h:(c8 P w).is k u=true):bd (kV k) u:=by
 cases k with
 |inl i=>exact Value.isInt_shape h
 |inr z=>exact Value.isStrOf_shape h
section
variable {P:Program}{w:World}{H:Hp}{h:Heap}{a:Addr}
def tL (ok:lq P w H h)(e:H a=some (.dK aQ ob))(hd:ob.data=.dict es ep):∃vs,KV aQ vs/\h.DictAt (c8 P w) a vs ep:=by
 obtain⟨_,_,vs,r,o,g,G,h1,h2,h3,h4⟩:=sJ ok e;rw[zp ok e]at h1;cases h1
 rw[hd]at h3;cases h3
 exact⟨vs,r,ob,es,zp ok e,h2,hd,h4⟩
def AV (ok:lq P w H h)(e:H a=some (.dK aQ ob)):∃es M,ob.data=.dict es M:=by
 obtain⟨_,_,vs,r,o,g,G,h1,h2,h3,h4⟩:=sJ ok e;rw[zp ok e]at h1;cases h1
 exact⟨g,G,h3⟩
end
def C4 {P:Program}{w:World}{K:Frag}{tg:Expr}(a it:Addr)(aQ:List (cF×V))(ob:Obj){es:Array DictEntry}{ep:Nat}(hd:ob.data=.dict es ep):Turn P w K tg (Qm a aQ ob) [it] it (λi h=>h.IsValIter it a i aQ.length ep) where
 mem:=by simp
 obj:=λi h st b hb=>by
  have e:b=it:=by simpa using hb
  subst e;obtain⟨o,e,c,d⟩:=st;exact⟨o,e,λv z=>by rw[d]at z;cases z⟩
 keep:=λi h h' st k=>st.at λo e=>k it (by simp) o e
 item:=by
  intro X M hw O hc i af s σ H E I hf st T;subst M hw O;obtain⟨U,G⟩:=T;obtain⟨vs,r,m⟩:=tL I.hok U hd;obtain⟨f0,f1,f2,f3,f4,f5⟩:=hf it (by simp);have hl:vs.length=aQ.length:=(Paired.length r).symm;obtain⟨u,hu,ru⟩:=r.get (k:=aQ[i].1) (x:=aQ[i].2) (vU G);refine wpAny_pyNext_values_item (by rw[hl];exact st) m hu λh' g sb=>?_;rw[hl]at g;have I1:Inv X af σ H { s with heap:=h' }:=I.turned (t':=s.toks) (λb o hb e=>(sb.2 b hb).trans e) f0 f1 f3 f4 f5;obtain⟨o,e,c,d⟩:=id g;exact⟨u,rfl,su (s:={ s with heap:=h' }) e c d (by decide) ⟨aQ[i].2,H,I1,ru,⟨rfl,aQ[i].1,vU G⟩,g,λb hb=>(hf b hb).1⟩⟩
 done:=by
  intro X M hw O hc i af s σ H E I hf st T;subst M hw O;obtain⟨U,IH⟩:=T;obtain⟨vs,r,m⟩:=tL I.hok U hd;obtain⟨f0,f1,f2,f3,f4,f5⟩:=hf it (by simp);have hl:vs.length=aQ.length:=(Paired.length r).symm;exact wpAny_pyNext_values_end (I.ok.hd hc) (by rw[hl];exact st) m (List.getElem?_eq_none (by omega)) λh' eb=>⟨rfl,I.turned (t':=s.toks) (λb o hb e=>eb b o hb e) f0 f1 f3 f4 f5⟩
 self:=λ_ _ _ _ _ st h=>wpAny_pyIter_valiter st h
section
variable {X:Cx}{tg:Expr}
def NB (G:TE):TI:=λσ H R=>G σ H λx g=>∃a aQ ob,x=.ref a/\g a=some (.dK aQ ob)/\R (Qm a aQ ob) g
def HB {o:Expr}{td:TE}{dG cI:Pos}(ho:PE X o td)(g:attributeBase o "values" X.env (eval o X.env)=eval o X.env:=by rfl)(G:(dG.endLine == cI.line)=true:=by rfl):PI X tg (.Call (.Attribute o "values" dG) [] [] cI) (NB td):=by
 intro af s σ H R I h;refine wpAny_Call_method0_late g G (c7 (ho af s σ H _ I h) λv s1 ⟨x,H1,M,r1,a,aQ,ob,ex,O,q⟩=>?_);subst ex;obtain⟨h1,h2⟩:=zo M r1 (T:="dict") (.inr (.inr (.inl ⟨rfl,.inl ⟨aQ,ob,O⟩⟩)));cases r1
 obtain⟨es,ep,hd⟩:=AV M.hok O;obtain⟨vs,r,m⟩:=tL M.hok O hd;have hl:vs.length=aQ.length:=(Paired.length r).symm;refine⟨"dict","dict.values",PySem.F.plainAttrs_dict,PySem.F.slot_dict_values,PySem.F.type_dict_values,h1,h2,Calls.callWith_builtin rfl (PySem.evalArgs_none ?_)⟩;refine call_meetsIn PySem.F.slot_dict_values h1 PySem.F.entry_dict_values (PySem.F.args_dict_values_1 _) (meets_dict_values (c8 X.prog X.w) a (sJ M.hok O).2.1) ⟨⟨vs,m.dictOf⟩,?_⟩;have U:Inv X af σ H1 { s1 with heap:=s1.heap.push { cls:=.type "dict_values",data:=.fields #[.ref a] } }:=M.kept (t':=s1.toks) λb o e=>vZ _ e;refine wpAny_pyIter_values (v:=s1.heap.objs.size) ⟨_,vY _ rfl,rfl,rfl⟩ (m.keep λb o e=>vZ _ e) ?_;rw[hl];refine⟨(s1.heap.push { cls:=.type "dict_values",data:=.fields #[.ref a] }).objs.size,[(s1.heap.push { cls:=.type "dict_values",data:=.fields #[.ref a] }).objs.size],_,_,H1,rfl,U.kept (t':=s1.toks) λb o e=>vZ _ e,C4 a _ aQ ob hd,⟨_,vY _ rfl,rfl,rfl⟩,λb hb=>?_,q⟩;have e:b=(s1.heap.push { cls:=.type "dict_values",data:=.fields #[.ref a] }).objs.size:=by simpa using hb
 subst e;exact U.fpOk (vT _) (U.hok.fresh (vT _))
end
end L2
namespace DL
open PySem PySem.Spec PySem.W PyProof.Rows L2
noncomputable def kD:cF->D
 |.inl i=>.int i
 |.inr z=>.str z
def NC {K:Frag}{B:Hp}(k:cF):Is K B (kV k) (kD k):=by
 cases k with
 |inl i=>exact .int i
 |inr z=>exact .str z
section
variable {K:Frag}{B:Hp}
def HC {a:Addr}{ks:List cF}{vs:List V}{ds:List D}{ob:Obj}(h:B a=some (.dK (ks.zip vs) ob))(hl:ks.length=vs.length)(hs:IsL K B vs ds):nA K (Qm a (ks.zip vs) ob) B ds:=by
 intro i H s;have hz:(ks.zip vs).length=vs.length:=by rw[List.length_zip];omega
 refine⟨λd ed=>?_,λg=>⟨s _ _ h,by rw[hz,hs.length];exact g⟩⟩;obtain⟨v,M,iv⟩:=hs.get ed;have G:i<vs.length:=(vV M).1;refine⟨⟨s _ _ h,by rw[hz];exact G⟩,λy O hy=>?_⟩;obtain⟨rfl,k,e⟩:=hy;have:=(List.getElem?_zip_eq_some.mp e).2;rw[M]at this;cases this
 exact⟨B,.refl s,iv⟩
end
section
variable {X:Cx}{e:Expr}{tg:Expr}
@[simp] noncomputable def qw (f:FE):FA:=λρ=>(f ρ).bind λx=>match x.1 with|.dk _ ds=>some ds|_=>none
@[simp] noncomputable def Qn (f:FE):FA:=λρ=>(f ρ).bind λx=>match x.1 with|.dk ks _=>some (ks.map kD)|_=>none
def AW (h:JE X e f)(g:attributeBase e "values" X.env (eval e X.env)=eval e X.env:=by rfl)(G:(dG.endLine == cI.line)=true:=by rfl):JI X tg (.Call (.Attribute e "values" dG) [] [] cI) (qw f):=by
 intro af s σ H R I q;obtain⟨B,ρ,ds,O,r,T,q⟩:=q;obtain⟨⟨xd,xb⟩,ex,es⟩:=oX T;cases xd<;>try (cases es;done)
 cases es
 refine HB h g G af s σ H R I ⟨B,ρ,_,_,O,r,ex,λv U N1 M i1 _=>?_⟩;cases i1 with
 |@dk a ks vs ds ob hd hl hs=>exact⟨a,_,ob,rfl,M.nh _ _ hd,q _ U N1 M (HC hd hl hs)⟩
end
end DL
namespace DL
open PySem PySem.Spec PyProof.Rows L2
@[simp] abbrev cA (i:Nat)(j:Int):FE:=f2 bq (aj i) (fC (.int j))
def aU (F:Fn X.prog X.w X.K X.mg X.base k x f)(M:eV j X.A)(ha:JA X (e::es) fa)(hj:k<=j:=by decide)(O:Gl X x:=by rfl)(g:(x == ("__debug__" : Str))=false:=by decide)(he:starEach (e::es) X.env=(false,eval e X.env)::starEach es X.env:=by rfl)(G:(backTo pos (starEach es X.env)).any (·.1)=false:=by rfl):JE X (.Call (.Name x p) (e::es) [] pos) (fA f fa):=Ay F (M.mono hj) ha O g he G
def ND (h1:∀y∈scope.names,y.2≠.cell:=by decide +kernel)(h2:scope.kind=.function:=by rfl)(h3:∀y∈scope.names,y.2=.local->scope.names.lookup y.1=some .local:=by decide +kernel)(g:(scope.names.all λy=>!(y.2 == NameKind.free) || (X.env.cells.lookup y.1).isSome)=true:=by rfl):CompSc X scope (dR scope.names X.env.cells []):=K6 h1 h2 h3 g
def Sc (h1:N'[j]? = some x)(h2:X.N[i]? = some x)(t:np X N' scope (dR scope.names X.env.cells []) (j+1) r)(h3:X.env.kindOf x=some .cell∨X.env.kindOf x=some .free:=by exact Or.inl rfl)(h4:(relabel scope X.env).names.lookup x=some .cell∨(relabel scope X.env).names.lookup x=some .free:=by exact Or.inl rfl)(hf:(x,NameKind.free)∈scope.names:=by decide +kernel)(hc:(X.env.cells.lookup x).isSome=true:=by rfl):np X N' scope (dR scope.names X.env.cells []) j (i::r):=.cons h1 h2 h3 h4 (pq hf hc) t
end DL
namespace DL
open PySem PySem.Spec PySem.W PyProof.Rows L2
noncomputable def nM:At->D
 |.i n=>.int n
 |.s z=>.str z
section
variable {prog:Program}{w:World}{A:Around}{E:Value->Shared->Prop}{s:Shared}
def NE (hx:yX x u)(hy:yX y v):SeqAt.EqAt A s u v (cW (nM x) (nM y)):=by
 cases x with
 |i a=>
  obtain⟨t,rfl⟩:=hx;cases y with
  |i c=>obtain⟨t',rfl⟩:=hy;simp only[nM,cW];exact SeqAt.EqAt.int_int _ _ _ _
  |s c=>obtain⟨t',rfl⟩:=hy;simp only[nM,cW];exact SeqAt.EqAt.int_str _ _ _ _
 |s a=>
  obtain⟨t,rfl⟩:=hx;cases y with
  |i c=>obtain⟨t',rfl⟩:=hy;simp only[nM,cW];exact SeqAt.EqAt.str_int _ _ _ _
  |s c=>obtain⟨t',rfl⟩:=hy;simp only[nM,cW];exact SeqAt.EqAt.str_str _ _ _ _
theorem AX:∀ {xs ys:List At}{vs:List Value},Paired yX xs vs->Paired yX ys vs->xs=ys
 |_,_,_,.nil,.nil=>rfl
 |x::xs,y::ys,_,.cons p ps,.cons q g=>by
  rw[AX ps g];congr 1;cases x with
  |i a=>
   obtain⟨t,rfl⟩:=p;cases y with
   |i c=>obtain⟨t',e⟩:=q;cases e;rfl
   |s c=>obtain⟨t',e⟩:=q;cases e
  |s a=>
   obtain⟨t,rfl⟩:=p;cases y with
   |i c=>obtain⟨t',e⟩:=q;cases e
   |s c=>obtain⟨t',e⟩:=q;cases e;rfl
def Lm (x y:At):cW (nM x) (nM y)=true↔x=y:=by
 cases x<;>cases y<;>simp[nM]
theorem p6:∀xs ys:List At,fQ (xs.map nM) (ys.map nM)=true↔xs=ys
 |[],[]=>by simp[fQ]
 |[],_::_=>by simp[fQ]
 |_::_,[]=>by simp[fQ]
 |x::xs,y::ys=>by
  rw[uY,uY,fQ,vC,Lm,p6 xs ys];simp
def Ln (hx:gK s.heap xs x)(hy:gK s.heap ys y)(hu:A.units<cLine):SeqAt.EqAt A s x y (fQ (xs.map nM) (ys.map nM)):=by
 obtain⟨a,o,its,n,rfl,ho,hc,hd,r⟩:=hx;obtain⟨b,o',g,m,rfl,G,T,M,U⟩:=hy;by_cases O:a=b
 ·subst O;rw[ho]at G;cases G;rw[hd]at M;cases M;rw[AX r U,(p6 ys ys).mpr rfl];exact SeqAt.EqAt.same _
 ·have t1:s.heap.IsTuple a its:=⟨o,ho,hc,n,hd⟩;have t2:s.heap.IsTuple b g:=⟨o',G,T,m,M⟩;have l1:xs.length=its.size:=by rw[←vG];exact gb r
  have l2:ys.length=g.size:=by rw[←vG];exact gb U
  have he:∀j (h1:j<its.size) (h2:j<g.size),SeqAt.EqAt A.in1 s its[j] g[j] (cW ((xs.map nM).getD j .non) ((ys.map nM).getD j .non)):=λj h1 h2=>by
   have p:=fh (.i 0) Value.none r (i:=j) (by omega);have q:=fh (.i 0) Value.none U (i:=j) (by omega);have e1:its.toList.getD j Value.none=its[j]:=by rw[vF,Array.getElem?_toList,Array.getElem?_eq_getElem h1];rfl
   have e2:g.toList.getD j Value.none=g[j]:=by rw[vF,Array.getElem?_toList,Array.getElem?_eq_getElem h2];rfl
   rw[e1]at p;rw[e2]at q;have e3:(xs.map nM).getD j .non=nM (xs.getD j (.i 0)):=by simp[vF,show j<xs.length by omega]
   have e4:(ys.map nM).getD j .non=nM (ys.getD j (.i 0)):=by simp[vF,show j<ys.length by omega]
   rw[e3,e4];exact NE p q
  have rc:=SeqAt.RcAt.tuples t1 t2 hu he;have Oj:((List.range (min its.size g.size)).all (λj=>cW ((xs.map nM).getD j .non) ((ys.map nM).getD j .non)) && its.size == g.size)=fQ (xs.map nM) (ys.map nM):=by
   rw[←l1,←l2];by_cases hl:xs.length=ys.length
   ·rw[←hl,Nat.min_self,beq_self_eq_true,Bool.and_true];have:=j0 (λj=>cW ((xs.map nM).getD j .non) ((ys.map nM).getD j .non)) (xs:=xs.map nM) (ys:=ys.map nM) (by simpa using hl) λj x y e1 e2=>uK j x y e1 e2;rwa [vI]at this
   ·rw[uJ (by simpa using hl),beq_eq_false_iff_ne.mpr hl,Bool.and_false]
  rw[Oj]at rc;exact SeqAt.EqAt.of_refs O rc
def C5 (xs:List At):aX xs xs=some false:=by
 induction xs with
 |nil=>rfl
 |cons x xs g=>cases x<;>rw[aX,if_pos rfl,g]
def ED (hx:gK s.heap xs x)(hy:gK s.heap ys y)(h:aX (.i n::xs) (.i m::ys)=some b)(hu:A.units<cLine)(q:Q b s)(hn:yX (.i n) u)(hm:yX (.i m) v):KatLex prog w A true false Q [(u,v),(x,y)] 0 s:=by
 obtain⟨t,rfl⟩:=hn;obtain⟨t',rfl⟩:=hm;refine kat_cons (wpAny_eqBool_int ?_);rw[aX]at h;by_cases e:n=m
 ·rw[if_pos e]at h;rw[show(n == m)=true by simp[e]];refine kat_yes (kat_cons (Ln hx hy hu _ _ _ _ ?_));by_cases e2:xs=ys
  ·rw[(p6 xs ys).mpr e2];rw[e2,C5]at h;cases h
   exact kat_yes (kat_nil q)
  ·rw[Bool.eq_false_iff.mpr λz=>e2 ((p6 xs ys).mp z)];refine kat_no (kat_one _ _ ?_);show wpAny _ _ (richCompare .Lt x y) _ _ _;exact Ey (Q:=W.BoolBack Q) hx hy h hu (by first|exact q|exact⟨b,rfl,q⟩)
 ·rw[if_neg e]at h;cases h
  rw[show(n == m)=false by simp[e]];exact kat_no (oneLt_int q)
end
def C6 (h:Heap)(xs:List At)(v:Value):Prop:=∃n k a o its m u x,xs=.i n::k/\v=.ref a/\h.get? a=some o/\o.cls=.type "tuple"/\o.data=.seq its m/\its.toList=[u,x]/\yX (.i n) u/\gK h k x
section
variable {prog:Program}{w:World}{A:Around}{E:Value->Shared->Prop}{s:Shared}
def HD (hx:C6 s.heap xs x)(hy:C6 s.heap ys y)(h:aX xs ys=some b)(hu:A.units<cLine)(q:Q b s):wpAny (model prog w) A (keyLt' (tuples' true) x y) Q E s:=by
 obtain⟨n,k,a,o,its,m,u,U,rfl,rfl,ho,_,hd,ei,an,T⟩:=hx;obtain⟨n',k',a',o',its',m',u',y',rfl,rfl,G,_,M,g,O,ty⟩:=hy;refine kat_lt ho hd G M ?_;rw[ei,g];have hf:decide (its.size<its'.size)=false:=by
  rw[←vG,←vG,ei,g];rfl
 rw[hf];exact ED T ty h hu q an O
theorem o0:∀ {ks:List (List At)}{vs:List Value},Paired (C6 h) ks vs->∃fs,KatTups h vs fs/\fs.length=ks.length/\∀v∈fs,∃n,yX (.i n) v
 |_,_,.nil=>⟨[],trivial,rfl,by simp⟩
 |k::ks,_,.cons x t=>by
  obtain⟨fs,h1,h2,h3⟩:=o0 t;obtain⟨n,k,a,o,its,m,u,g,rfl,rfl,ho,hc,hd,ei,an,_⟩:=x;refine⟨u::fs,KatTups.cons ho hc hd (by rw[←Array.getElem?_toList,ei];rfl) h1,by simp[h2],λv hv=>?_⟩;rcases vP hv with rfl|hv
  ·exact⟨n,an⟩
  ·exact h3 v hv
def C7 (hp:Paired (C6 s.heap) ks vs)(hn:0<ks.length)(q:Q (tuples' true) s):wpAny (model prog w) A (keyKind' vs.toArray) Q E s:=by
 obtain⟨fs,h1,h2,h3⟩:=o0 hp;refine kat_kind (T:=.type "int") h1 (by omega) (λv hv=>?_) (by decide) q;obtain⟨n,t,rfl⟩:=h3 v hv;exact .now
def EE (hc:eN ks=true)(hu:A.units<cLine)(hp:Paired (C6 s.heap) ks vs):∀(i j:Nat)(C:Bool->Shared->Prop)(s1:Shared),i<ks.length->j<ks.length->s1=s->(∀s',s'=s->C (qc (Ga ks) i j) s')->kas_ask prog w A (tuples' true) vs i j C s1:=by
 intro i j C s1 hi hj e G;subst e;unfold kas_ask;have g:ks.getD i []∈ks:=by rw[vF,vU hi];exact List.getElem_mem hi
 have M:ks.getD j []∈ks:=by rw[vF,vU hj];exact List.getElem_mem hj
 refine HD (fh [] Value.none hp hi) (fh [] Value.none hp hj) (ga hc g M) hu ?_;have:=G s1 rfl;unfold qc Ga at this;rw[xH (uS ⟨_,g,rfl⟩)]at this;exact this
end
def Lo:D->Option (List At)
 |.tup [.int n,.tup es]=>(dX es).map (.i n :: ·)
 |_=>none
def jl:List D->Option (List (List At))
 |[]=>some []
 |d::ds=>(Lo d).bind λa=>(jl ds).map (a :: ·)
theorem tM:∀ {ds:List D}{ks:List (List At)},jl ds=some ks->ks.length=ds.length
 |[],_,h=>by simp only[jl]at h;cases h;rfl
 |d::ds,_,h=>by
  simp only[jl]at h;obtain⟨a,h1,h⟩:=oX h;obtain⟨r,h2,h⟩:=oY h;subst h;simp[tM h2]
theorem xR (I:Inv X af σ H s):∀ {ys:List V}{ds:List D}{ks:List (List At)}{its:List Value},be ys its->IsL X.K H ys ds->jl ds=some ks->Paired (C6 s.heap) ks its
 |_,_,_,_,.nil,.nil,h=>by simp only[jl]at h;cases h;exact .nil
 |_,_,_,_,.cons r O,.cons i T,h=>by
  simp only[jl]at h;obtain⟨a,h1,h⟩:=oX h;obtain⟨t,h2,h⟩:=oY h;subst h;refine .cons ?_ (xR I O T h2);unfold Lo at h1;split at h1
  ·rename_i n es;obtain⟨k,G,rfl⟩:=oY h1;cases i with
   |tup hq hl=>
    cases r
    obtain⟨its',g,⟨o,ho,hc,m,hd⟩,_⟩:=I.tuple hq;cases hl with
    |cons U hl=>
     cases hl with
     |cons i2 hl=>
      cases hl
      cases g with
      |cons r1 g=>
       cases g with
       |cons r2 g=>
        cases g
        cases U
        have hk:dH [D.tup es]=some [k]:=by show(dX es).bind _=_;rw[G];rfl
        have M:=p0 I (.cons r2 .nil) (.cons i2 .nil) hk;cases M with
        |cons M _=>exact⟨n,k,_,o,_,m,_,_,rfl,rfl,ho,hc,hd,rfl,r1,M⟩
  ·cases h1
def HE (hu:A.units<cLine):KK X A jl λ_=>true:=⟨tM,λI _ _ _ _ r i e _ hc=>have hp:=xR I r i e;⟨λhn _ _ q=>C7 hp hn q,EE hc hu hp⟩⟩
def EF (hu:X.A.units+40<cLine):KK X X.A.in1.in1 jl λ_=>true:=HE (show X.A.units+1+1<cLine by omega)
@[simp] abbrev zO:FE->(Env->D->Option D)->FE:=vx jl λ_=>true
end DL
namespace DL
open PySem PySem.Spec PyProof.Rows L2
def NF:Nat->(List Value->Prop)->Prop
 |0,P=>P []
 |n+1,P=>∀a,NF n λl=>P (a::l)
theorem Lp:∀n P,NF n P->∀us:List Value,us.length=n->P us
 |0,_,h,[],_=>h
 |n+1,_,h,a::us,e=>Lp n _ (h a) us (Nat.succ.inj e)
section
variable {P:Program}{w:World}{K:Frag}{mg:Str->Option Value}{base:Heap}
def KC (K:Frag)(mg:Str->Option Value)(x:Str)(c:D):Prop:=∃u v,mg x=some u/\bd v u/\∀B,Is K B v c
def KD (w:World)(K:Frag)(mg:Str->Option Value)(x:Str)(c:List (Str×D)):Prop:=∃d,mg x=some (.ref d)/\sY K w.params d c
def kc_of {x:Str}{c:D}{h:Heap}(X:K.In h)(G:h.Ns mainGlobals mg)(k:∃u v,nsIn K mainGlobals x=some (some u)/\bd v u/\∀B,Is K B v c):KC K mg x c:=let ⟨u,v,e,r⟩:=k;⟨u,v,mg_of X G e,r⟩
def kd_of {x:Str}{c:List (Str×D)}{h:Heap}(X:K.In h)(G:h.Ns mainGlobals mg)(k:∃d,nsIn K mainGlobals x=some (some (.ref d))/\sY K w.params d c):KD w K mg x c:=let ⟨d,e,r⟩:=k;⟨d,mg_of X G e,r⟩
def cX.fqL {x:Str}{st:Stmt}{k:Nat}{O:List D->OB}(F:cX K x st)(B:∃h,K.In h/\h.Ns mainGlobals mg)(g:FS)(N:List Str)(n:Nat)
  (hb:∀ {f:Addr}{eQ:Value}{A:Around}{outer:List PySem.Env}{s:Shared}{H:Hp}{E:XK},N.Nodup->eV k (A.deeper (envOfC x (aW st) s.heap.objs.size f eQ))->(A.deeper (envOfC x (aW st) s.heap.objs.size f eQ)).units+40<cLine->(∀c P,PySem.W.tabIn K x=some (c,P)->eQ=.ref c)->uE (oS yT P w K mg base N x (aW st) f eQ A outer s H E).nox (cL st) g)
  (S:FnScope N (N.take n) (aW st):=by refine⟨rfl,rfl,rfl,?_,rfl,?_,?_⟩<;>decide +kernel)
  (M:∀(kV doc pm:Value)(an:Option Addr)(eQ ct:Value)(us:List Value),us.length=(N.take n).length->bindArgs (fnOf x x (gp st) (cL st) (aW st) .none kV doc pm an eQ ct) ⟨us,[]⟩=pure ((N.take n).zip us):=by
   exact λ_ _ _ _ _ _=>Lp _ _ (by(repeat intro);rfl))
  (e:aJ g (N.take n).length (N.length - (N.take n).length)=O:=by rfl):
  Fn P w K mg base (k+1) x O:=let ⟨_,X,G⟩:=B;e ▸ F.fnL X G S M λ_ _ _ _ _ _ _ hc T=>hb S.nd T (Cg T) hc
def cX.fq {x:Str}{st:Stmt}{k:Nat}{M:List D->OB}(F:cX K x st)(B:∃h,K.In h/\h.Ns mainGlobals mg)(g:FS)(N:List Str)(n:Nat)
  (hb:∀ {f:Addr}{eQ:Value}{A:Around}{outer:List PySem.Env}{s:Shared}{H:Hp}{E:XK},N.Nodup->eV k (A.deeper (envOfC x (aW st) s.heap.objs.size f eQ))->(A.deeper (envOfC x (aW st) s.heap.objs.size f eQ)).units+40<cLine->uE (oS yT P w K mg base N x (aW st) f eQ A outer s H E).nox (cL st) g)
  (S:FnScope N (N.take n) (aW st):=by refine⟨rfl,rfl,rfl,?_,rfl,?_,?_⟩<;>decide +kernel)
  (G:∀(kV doc pm:Value)(an:Option Addr)(eQ ct:Value)(us:List Value),us.length=(N.take n).length->bindArgs (fnOf x x (gp st) (cL st) (aW st) .none kV doc pm an eQ ct) ⟨us,[]⟩=pure ((N.take n).zip us):=by
   exact λ_ _ _ _ _ _=>Lp _ _ (by(repeat intro);rfl))
  (e:aJ g (N.take n).length (N.length - (N.take n).length)=M:=by rfl):
  Fn P w K mg base (k+1) x M:=F.fqL B g N n (λn r u _=>hb n r u) S G e
end
section
variable {X:Cx}{x:Str}{pos:Pos}
def EG (i:Nat)(g:X.N.Nodup)(hi:X.N[i]? = some x:=by rfl)(hx:FU X.env.scope x:=by first|exact Or.inl rfl|exact Or.inr rfl)(hf:X.fn x=true∨X.env.scope.names.lookup x=some .local:=by first|exact .inl rfl|exact .inr rfl):PG X (.Name x pos) (jN i):=Ap g hi hx hf
def Ma {fp}(i:Nat)(g:N'.Nodup:=by decide +kernel)(hi:(iQ X N' scope cl C s H fp).N[i]? = some x:=by rfl)(hx:FU (iQ X N' scope cl C s H fp).env.scope x:=by exact Or.inl rfl)(hf:(iQ X N' scope cl C s H fp).fn x=true∨(iQ X N' scope cl C s H fp).env.scope.names.lookup x=some .local:=by first|exact .inl rfl|exact .inr rfl):PG (iQ X N' scope cl C s H fp) (.Name x pos) (jN i):=Ap g hi hx hf
def eO (N':List Str)(hi:JI X tg gm fi)(hc:∀ {C s H fp},JC (iQ X N' scope (dR scope.names X.env.cells []) C s H fp) An fc)(he:∀ {C s H fp},JE (iQ X N' scope (dR scope.names X.env.cells []) C s H fp) w6 fe)
  (M:Jb X.K nT pA g:=by first|exact wS (by decide)|exact Jl (by decide)) (O:∀ {C s H fp},PG (iQ X N' scope (dR scope.names X.env.cells []) C s H fp) tg g:=by intros;first|exact Ma 0|exact zb rfl (jc (Ma 0) (jc (Ma 1) ur)))
  (T:np X N' scope (dR scope.names X.env.cells []) nT cap:=by repeat first|exact .nil rfl|refine Sc rfl rfl ?_)
  (S:CompSc X scope (dR scope.names X.env.cells []):=by exact ND) (G:X.calm=true:=by rfl)
  (hs:∀x,foldedSetIterable gm X.env x=pure x:=by intro _;rfl):
  JE X (.ListComp w6 [⟨tg,gm,An,0⟩] scope pos) (bI fi nT cap pA fc fe):=GL G S T hi (λ_ _ _ _=>O) M (λ_ _ _ _=>hc) (λ_ _ _ _=>he) hs
def o3 (N':List Str)(U:X.N.Nodup)(hi:JI X tg gm fi)(hc:∀ {C s H fp},JC (iQ X N' scope (dR scope.names X.env.cells []) C s H fp) An fc)(he:∀ {C s H fp},JE (iQ X N' scope (dR scope.names X.env.cells []) C s H fp) w6 fe)
  (M:Jb X.K nT pA g:=by first|exact wS (by decide)|exact Jl (by decide)) (hg:∀ {C s H fp},PG (iQ X N' scope (dR scope.names X.env.cells []) C s H fp) tg g:=by intros;first|exact Ma 0|exact zb rfl (jc (Ma 0) (jc (Ma 1) ur)))
  (cp:np X N' scope (dR scope.names X.env.cells []) nT cap:=by repeat first|exact .nil rfl|refine Sc rfl rfl ?_)
  (O:X.N[i]? = some y:=by rfl) (hy:X.env.kindOf y=some .local:=by rfl)
  (T:swapsWith (.ListComp w6 [⟨tg,gm,An,0⟩] scope pos) (some (.Name y py)) spos.line X.env=pure true:=by rfl)
  (S:CompSc X scope (dR scope.names X.env.cells []):=by exact ND) (G:X.calm=true:=by rfl)
  (hs:∀x,foldedSetIterable gm X.env x=pure x:=by intro _;rfl):
  JS X (.Assign [.Name y py] (.ListComp w6 [⟨tg,gm,An,0⟩] scope pos) spos) (aO i (bI fi nT cap pA fc fe)):=GN G U O hy T S cp hi (λ_ _ _ _=>hg) M (λ_ _ _ _=>hc) (λ_ _ _ _=>he) hs
def xS (hi:JI X tg gm fi)(G:PG X tg t)(M:GI X.K pA t)(hb:uE X body g)(hp:PassesOwn (model X.prog X.w) X.A X.env X.xe:=by exact PassesOwn.never)(hc:X.calm=true:=by rfl)
  (hs:∀x,foldedSetIterable gm X.env x=pure x:=by intro _;rfl):JS X (.For tg gm body [] pos) (rR fi pA g):=KG hp hc hi G M hb hs
def xT (hi:PI X tg gm (OO X.K fi))(G:PG X tg t)(M:GI X.K pA t)(hb:uE X body g)(hp:PassesOwn (model X.prog X.w) X.A X.env X.xe:=by exact PassesOwn.never)(hc:X.calm=true:=by rfl)
  (hs:∀x,foldedSetIterable gm X.env x=pure x:=by intro _;rfl):JS X (.For tg gm body [] pos) (jO fi pA g):=GU hp hc hi G M hb hs
end
end DL
namespace DL
open PySem PySem.Spec PySem.W PyProof.Rows L2
section
variable {prog:Program}{w:World}{A:Around}{E:Value->Shared->Prop}{s:Shared}
def NG:CmR prog w A s .GtE (λxs ys r=>aX xs ys=some (!r)) (λm n=>decide (n<=m)) where
 ei h:=by rwa [aX,if_pos rfl]at h
 es h:=by rwa [aX,if_pos rfl]at h
 ni {a c _ _ r} e h _ _ _ _ q:=by
  rw[aX,if_neg e]at h;have h:=vK h;exact PyProof.Rows.ge_int (by rw[show decide (c<=a)=r by rw[←Bool.not_not r,←h,←decide_not];congr 1;rw[Int.not_lt]];exact q)
 ns {a c _ _ r} e h _ _ _ _ q:=by
  rw[aX,if_neg e]at h;have h:=vK h;exact PySem.P.ge_str (by rw[show(!decide (a.cps.toList<c.cps.toList))=r by rw[h,Bool.not_not]];exact q)
 mx:=by simp[aX]
 en:=λ{xs r}=>by cases xs<;>cases r<;>simp[aX]
 fs:=by simp
def Lq (hx:gK s.heap xs x)(hy:gK s.heap ys y)(h:aX xs ys=some r)(hu:A.units<cLine)(q:Q (.bool (!r)) s):wpAny (model prog w) A (richCompare .GtE x y) Q E s:=by
 have g:=hx.type;have ty:=hy.type;obtain⟨a,_,_,_,rfl,_⟩:=id hx;obtain⟨b,_,_,_,rfl,_⟩:=id hy;exact wpAny_richCompare_same_room (op:=.GtE) g ty PySem.F.slot_tuple_ge (wpAny_call_entry PySem.F.slot_tuple_ge g PySem.F.entry_tuple_ge (Ex NG (λ_ _=>rfl) (.inr (.inr rfl)) hx hy (show aX xs ys=some (!!r) by rw[Bool.not_not];exact h) ⟨_,rfl,(λe=>nomatch e),q⟩) (PySem.F.args_tuple_ge_2 _ _)) hu
end
section
variable {X:Cx}
@[simp] def WS:D->D->OB
 |.tup [.int n,.tup xs],.tup [.int m,.tup ys]=>(dX xs).bind λg=>(dX ys).bind λbs=>(aX (.i n::g) (.i m::bs)).map λr=>(.bl (!r),false)
 |_,_=>none
end
def qx:entryFor table "dict_itemiterator.__iter__" = some Builtin.«dict_keyiterator.__iter__»:=entryFor_alias (id':="dict_keyiterator.__iter__") (by kernel_rfl) rfl (by decide +kernel) (by kernel_rfl)
def vz (he:IsItemIter s.heap it d i n ep ok ov)(h:Q (.ref it) s):wpAny (model prog w) A (pyIter (.ref it)) Q E s:=by
 have g:s.TypeIs (.ref it) "dict_itemiterator":=⟨_,he,rfl⟩;refine wpAny_pyIter_slot g PySem.F.slot_dict_itemiterator_iter (wpAny_call_entry PySem.F.slot_dict_itemiterator_iter g qx ?_ (PySem.F.args_dict_itemiterator_iter_1 _));show wpAny _ _ (ret (.ref it)) _ _ s;exact wY ⟨_,rfl,"dict_itemiterator",_,g,PySem.F.slot_dict_itemiterator_next.lookup,h⟩
noncomputable def Qo (a:Addr)(aQ:List (cF×V))(ob:Obj):It:=⟨λi H=>H a=some (.dK aQ ob)/\i<aQ.length,λi H y H'=>∃T k v,y=.ref T/\H T=none/\H'=upd H T (.tup [kV k,v])/\aQ[i]? = some (k,v),λi H=>H a=some (.dK aQ ob)/\aQ.length<=i⟩
def zP {P:Program}{w:World}{K:Frag}{es:List Expr}{kt:Nat}{pt:Pos}(a it:Addr)(aQ:List (cF×V))(ob:Obj){ds:Array DictEntry}{ep:Nat}(hd:ob.data=.dict ds ep):Turn P w K (.Tuple es kt pt) (Qo a aQ ob) [it] it (λi h=>∃ok g,IsItemIter h it a i aQ.length ep ok g) where
 mem:=by simp
 obj:=λi h st b hb=>by
  have e:b=it:=by simpa using hb
  subst e;obtain⟨ok,g,e⟩:=st;exact⟨_,e,λv z=>by cases z⟩
 keep:=λi h h' st k=>let ⟨ok,g,e⟩:=st;⟨ok,g,k it (by simp) _ e⟩
 item:=by
  intro X U hw hK hc i af s σ H E I hf st hg;subst U hw hK;obtain⟨ok,g,he⟩:=st;obtain⟨hH,G⟩:=hg;obtain⟨vs,r,m⟩:=tL I.hok hH hd;have hl:vs.length=aQ.length:=(Paired.length r).symm;obtain⟨u,hu,ru⟩:=r.get (k:=aQ[i].1) (x:=aQ[i].2) (vU G);have fresh:H s.heap.objs.size=none:=I.hok.fresh (vT _);have M:it≠s.heap.objs.size:=vS (vX he);refine wpAny_pyNext_items_item (by rw[hl];exact he) m hu λkey h' O ho hT hsz hk=>?_;rw[hl]at ho;refine⟨_,rfl,wpAny_letOwnedTupleGo_items (s:={ s with heap:=h' }) ho λh2 Me s2=>?_⟩;have T:Heap.SameBut it h' h2:=s2;have kk:∀b o,b∉[it]->s.heap.get? b=some o->h2.get? b=some o:=λb o hb q=>T.extBut _ _ (λz=>hb (by simp[z])) (hk b o (λz=>hb (by simp[z])) q);have new:cw X.prog X.w (upd H s.heap.objs.size (.tup [kV aQ[i].1,aQ[i].2])) h2 s.heap.objs.size (.tup [kV aQ[i].1,aQ[i].2]):=⟨by show 2<=sizeLine;decide,[key,u],.cons (NA O) (.cons ru .nil),⟨_,T.extBut _ _ M.symm hT,rfl,_,rfl⟩⟩;refine⟨.ref s.heap.objs.size,upd H s.heap.objs.size (.tup [kV aQ[i].1,aQ[i].2]),Eb (s:=s) (t':=s.toks) I hf kk (vT _) new,rfl,⟨_,aQ[i].1,aQ[i].2,rfl,fresh,rfl,vU G⟩,⟨_,_,Me⟩,λb hb=>?_⟩;have BJ:b≠s.heap.objs.size:=by
   have e:b=it:=by simpa using hb
   rw[e];exact M
  rw[aM BJ];exact(hf b hb).1
 done:=by
  intro X U hw hK hc i af s σ H E I hf st hg;subst U hw hK;obtain⟨ok,g,he⟩:=st;obtain⟨hH,IH⟩:=hg;obtain⟨vs,r,m⟩:=tL I.hok hH hd;have hl:vs.length=aQ.length:=(Paired.length r).symm;exact wpAny_pyNext_items_end (I.ok.hd hc) (by rw[hl];exact he) m (List.getElem?_eq_none (by omega)) λh' hk=>⟨rfl,mv (t':=s.toks) I hf λb o hb q=>hk b o (λz=>hb (by simp[z])) q⟩
 self:=λ_ _ _ _ _ st h=>let ⟨_,_,he⟩:=st;vz he h
section
variable {X:Cx}{es:List Expr}{kt:Nat}{pt:Pos}{e:Expr}
def Qp (G:TE):TI:=λσ H R=>G σ H λx g=>∃a aQ ob,x=.ref a/\g a=some (.dK aQ ob)/\R (Qo a aQ ob) g
def EH {o:Expr}{td:TE}{dG cI:Pos}(ho:PE X o td)(g:attributeBase o "items" X.env (eval o X.env)=eval o X.env:=by rfl)(G:(dG.endLine == cI.line)=true:=by rfl):PI X (.Tuple es kt pt) (.Call (.Attribute o "items" dG) [] [] cI) (Qp td):=by
 intro af s σ H R I h;refine wpAny_Call_method0_late g G (c7 (ho af s σ H _ I h) λv s1 ⟨x,H1,M,r1,a,aQ,ob,ex,O,q⟩=>?_);subst ex;obtain⟨h1,h2⟩:=zo M r1 (T:="dict") (.inr (.inr (.inl ⟨rfl,.inl ⟨aQ,ob,O⟩⟩)));cases r1
 obtain⟨es,ep,hd⟩:=AV M.hok O;obtain⟨vs,r,m⟩:=tL M.hok O hd;have hl:vs.length=aQ.length:=(Paired.length r).symm;refine⟨"dict","dict.items",PySem.F.plainAttrs_dict,PySem.F.slot_dict_items,PySem.F.type_dict_items,h1,h2,Calls.callWith_builtin rfl (PySem.evalArgs_none ?_)⟩;refine call_meetsIn PySem.F.slot_dict_items h1 PySem.F.entry_dict_items (PySem.F.args_dict_items_1 _) (meets_dict_items (c8 X.prog X.w) a (sJ M.hok O).2.1) ⟨⟨vs,m.dictOf⟩,?_⟩;have U:Inv X af σ H1 { s1 with heap:=s1.heap.push { cls:=.type "dict_items",data:=.fields #[.ref a] } }:=M.kept (t':=s1.toks) λb o e=>vZ _ e;refine wpAny_pyIter_items (v:=s1.heap.objs.size) ⟨_,vY _ rfl,rfl,rfl⟩ (m.keep λb o e=>vZ _ e) ?_;rw[hl];refine⟨(s1.heap.push { cls:=.type "dict_items",data:=.fields #[.ref a] }).objs.size,[(s1.heap.push { cls:=.type "dict_items",data:=.fields #[.ref a] }).objs.size],_,_,H1,rfl,U.kept (t':=s1.toks) λb o e=>vZ _ e,zP a _ aQ ob hd,⟨_,_,vY _ rfl⟩,λb hb=>?_,q⟩;have e:b=(s1.heap.push { cls:=.type "dict_items",data:=.fields #[.ref a] }).objs.size:=by simpa using hb
 subst e;exact U.fpOk (vT _) (U.hok.fresh (vT _))
noncomputable def lN (ks:List cF)(ds:List D):List D:=(ks.zip ds).map λx=>.tup [kD x.1,x.2]
def EI {K:Frag}{B:Hp}{a:Addr}{ks:List cF}{vs:List V}{ds:List D}{ob:Obj}(h:B a=some (.dK (ks.zip vs) ob))(hl:ks.length=vs.length)(hs:IsL K B vs ds):nA K (Qo a (ks.zip vs) ob) B (lN ks ds):=by
 intro i H s;have hz:(ks.zip vs).length=vs.length:=by rw[List.length_zip];omega
 have hn:=hs.length;refine⟨λd ed=>?_,λg=>⟨s _ _ h,by unfold lN at g;rw[vI,List.length_zip]at g;omega⟩⟩;unfold lN at ed;rw[vA]at ed;obtain⟨⟨k0,d0⟩,ek,rfl⟩:=oY ed;obtain⟨e1,e2⟩:=List.getElem?_zip_eq_some.mp ek;obtain⟨v,M,iv⟩:=hs.get e2;have G:i<vs.length:=(vV M).1;refine⟨⟨s _ _ h,by rw[hz];exact G⟩,λy H3 hy=>?_⟩;obtain⟨T,k,v',rfl,hT,rfl,e⟩:=hy;obtain⟨g1,O⟩:=List.getElem?_zip_eq_some.mp e;rw[e1]at g1;cases g1;rw[M]at O;cases O;have U:=Ext.laid (o:=.tup [kV k0,v']) s hT;exact⟨_,U,.tup (ja.of aH) (.cons (NC _) (.cons (iv.mono U.bn) .nil))⟩
@[simp] def AY (f:FE):FA:=λρ=>(f ρ).bind λx=>match x.1 with|.dk ks ds=>some (lN ks ds)|_=>none
def EJ (h:JE X e f)(g:attributeBase e "items" X.env (eval e X.env)=eval e X.env:=by rfl)(G:(dG.endLine == cI.line)=true:=by rfl):JI X (.Tuple es kt pt) (.Call (.Attribute e "items" dG) [] [] cI) (AY f):=by
 intro af s σ H R I q;obtain⟨B,ρ,ds,O,r,T,q⟩:=q;obtain⟨⟨xd,xb⟩,ex,es⟩:=oX T;cases xd<;>try (cases es;done)
 cases es
 refine EH h g G af s σ H R I ⟨B,ρ,_,_,O,r,ex,λv U N1 M i1 _=>?_⟩;cases i1 with
 |@dk a ks vs ds ob hd hl hs=>exact⟨a,_,ob,rfl,M.nh _ _ hd,q _ U N1 M (EI hd hl hs)⟩
end
section
variable {K:Frag}{E:Ends}{σ:St}{H:Hp}
def qy (i:Nat)(G M:FE):FS:=λρ=>match ρ[i]? with
 |some (some (.dk ks vs,true))=>(M (mn ρ)).bind λv=>(G ρ).bind λk=>(ky k.1).bind λg=>if ks.length<sizeLine then some (.nx (ρ.set i (some (.dk (dI ks g) (dJ ks vs g v.1),true))))else none
 |_=>none
def C8 (q:nq K (qy i fk fv) E σ H):Au (Di i) (tD K fk) (tD K fv) E σ H:=by
 obtain⟨B0,H0,ρ,r,⟨N,s⟩,e,p⟩:=q;unfold qy at e;split at e
 ·rename_i ks ds ei;obtain⟨v,G,e⟩:=oX e;obtain⟨k,ek,e⟩:=oX e;obtain⟨M,hk,e⟩:=oX e;split at e
  ·rename_i hx;cases e
   refine⟨eG N (own σ ρ),mn ρ,v.1,v.2,bY.trans s.ext.nh,s.repH,G,λv1 H1 N1 O T _=>?_⟩;obtain⟨s1,c⟩:=s.growH O;obtain⟨a,o,h1,h2,h3,h4⟩:=s1.ow i _ ei;refine⟨.ref a,h1,_,ρ,k.1,k.2,s1.ext.nh,s1.rep,ek,λv2 H2 N2 g U _=>?_⟩;have s2:=s1.grow g;have hv:=m6 U hk;subst hv;obtain⟨a',o',k1,k2,k3,k4⟩:=s2.ow i _ ei;rw[h1]at k1;cases k1
   cases k4 with
   |@dk ks vs ds hl h5 ob=>
    refine⟨a,rfl,.inl ⟨_,M,_,s2.ext.nh _ _ k2,rfl,?_,λVQ=>?_⟩⟩
    ·rw[List.length_zip];omega
    ·rw[p5 hl];exact p σ _ ⟨_,s2.writeB ei h1 (.dk (m7 hl _ _) (h5.put ((T.mono c).mono (eS λa o e q=>⟨g.bn a o e,q⟩))))⟩
  ·cases e
 ·cases e
end
section
variable {X:Cx}{pos:Pos}{e k:Expr}
def EK (hu:X.A.units+1<cLine)(hv:JE X e fv)(hk:JE X k fk)(M:X.N[i]? = some y:=by rfl)(g:Dh X.env.scope y:=by first|exact Or.inl rfl|exact Or.inr (Or.inl rfl)|exact Or.inr (Or.inr rfl))(hd:(y == ("__debug__" : Str))=false:=by decide)
  (G:(y == ("__classdict__" : Str))=false:=by decide) (hs:swapsWith e (some (.Subscript (.Name y py) k pt)) pos.line X.env=pure false:=by rfl):JS X (.Assign [.Subscript (.Name y py) k pt] e pos) (qy i fk fv) :=
 PS.to (uA hu (lF M g hd G) hk hv hs) λ_ _ _ q=>C8 q
end
noncomputable def Jp:List cF->Option (List Int)
 |[]=>some []
 |.inl n::ks=>(Jp ks).map (n :: ·)
 |.inr _::_=>none
@[simp] def NH:List D->OB
 |[.dk ks _]=>(Jp ks).bind λns=>if ns.length<64 then some (.lst ((Nw ns).map .int),true)else none
 |_=>none
section
variable {X:Cx}
def EL (hu:X.A.units+1<cLine)(hi:JE X i fi)(ho:JE X o fo)(hm:behindInMarks .In o=false:=by first|exact gZ _ (by decide) (by decide)|rfl):JE X (.Compare i [.In] [o] pos) (f2 Df fi fo):=by
 refine PE.to (JQ (D2 hu hi ho) hm) λσ H Q q=>?_;obtain⟨B,ρ,d,bb,O,r,g,q⟩:=q;obtain⟨y,T,g⟩:=oX g;obtain⟨x,ex,g⟩:=oX g;refine⟨B,ρ,y.1,y.2,O,r,T,λv2 H1 N1 G U _=>⟨N1,ρ,x.1,x.2,G.nh,r.mono G.bn,ex,λv H2 N2 M i1 ff=>?_⟩⟩;obtain⟨xd,xb⟩:=x;cases i1 with
 |@dk a ks vs ds ob h hl hs=>
  simp only[Df]at g;obtain⟨k,hk,g⟩:=oY g;cases g
  have hv:=m6 U hk;subst hv;refine⟨a,jx (ks.zip vs) k,rfl,.inl ⟨_,k,_,.inl (M.nh _ _ h),rfl,rfl⟩,?_⟩;rw[nL hl hs];exact(q.into (G.trans M)).one M.nh (.bl _)
 |_=>simp[Df]at g
end
end DL
namespace DL
open PySem PySem.Spec PyProof.Rows L2
@[simp] abbrev fV (i:Nat)(g:FA):FA:=ae (aj i) g
@[simp] abbrev fI (n:Int):FE:=fC (.int n)
@[simp] abbrev fS (s:PySem.Str):FE:=fC (.str s)
section
variable {X:Cx}{es:List Expr}{g:FA}{pos:Pos}
def aD {x:Str}{p:Pos}(i:Nat)(M:JA X es g)(O:X.N[i]? = some x:=by rfl)(hv:Dh X.env.scope x:=by first|exact Or.inl rfl|exact Or.inr (Or.inl rfl)|exact Or.inr (Or.inr rfl))(hd:(x == ("__debug__" : Str))=false:=by decide)(G:(x == ("__classdict__" : Str))=false:=by decide)
  (hs:starEach (.Name x p::es) X.env=(false,eval (.Name x p) X.env)::starEach es X.env:=by rfl):JA X (.Name x p::es) (fV i g):=ah (ag i O hv hd G) M hs
def cj {i:Int}{j:Nat}(G:JA X es g):JA X (.Constant (.int i) j pos::es) (ae (fC (.int i)) g):=ah av G
def a8 (F:Fn X.prog X.w X.K X.mg X.base k x f)(O:eV j X.A)(ha:JA X (e::es) g:=by repeat first|exact am|refine aD _ ?_|refine ah a7 ?_)(hj:k<=j:=by decide)(T:Gl X x:=by rfl)(G:(x == ("__debug__" : Str))=false:=by decide)(he:starEach (e::es) X.env=(false,eval e X.env)::starEach es X.env:=by rfl)(M:(backTo pos (starEach es X.env)).any (·.1)=false:=by rfl):JE X (.Call (.Name x p) (e::es) [] pos) (fA f g):=Ay F (O.mono hj) ha T G he M
def aZ (he:JE X e f):uE X [.Return (some e) pos] (aN f):=bB (DK he)
def bL {c:Expr}{G:FT}(hc:JT X c G)(he:JE X e f):JS X (.If c [.Return (some e) p] [] pos) (du G (aN f) aY):=fD hc (bB (DK he)) fg
def bA (i:Nat)(M:X.N[i]? = some x:=by rfl)(hv:Dh X.env.scope x:=by first|exact Or.inl rfl|exact Or.inr (Or.inl rfl)|exact Or.inr (Or.inr rfl))(hd:(x == ("__debug__" : Str))=false:=by decide)(G:(x == ("__classdict__" : Str))=false:=by decide):JE X (.Subscript (.Name x p) (.Constant (.int n) j q) pos) (cA i n):=aK (ag i M hv hd G) av
end
noncomputable def Qq (n:Int)(r:List Int):Int:=r.foldl (λb x=>if x<b then x else b) n
@[simp] def Us:List D->OB
 |[.lst ds]=>match Eo ds with
  |some (n::r)=>some (.int (Qq n r),false)
  |_=>none
 |_=>none
@[simp] def IM:D->D->OB
 |.tup xs,.tup ys=>(dX xs).bind λg=>(dX ys).bind λbs=>(aX g bs).map λr=>(.bl (!r),false)
 |_,_=>none
def NI {X:Cx}(hu:X.A.units+40<cLine):dP X (compareOp .GtE) (rD X.K IM):=by
 intro af s σ H x y v u Q I G M q;obtain⟨B,dx,O,d,b,g,T,U,e,q⟩:=q;cases dx<;>try (simp[IM]at e;done)
 cases O<;>try (simp[IM]at e;done)
 simp only[IM]at e;obtain⟨as,e1,e⟩:=oX e;obtain⟨bs,e2,e⟩:=oX e;obtain⟨r,e3,e⟩:=oY e;cases e
 show wpAny _ _ (richCompare .GtE v u) _ _ _;exact Lq (kY I G (T.mono g) e1) (kY I M (U.mono g) e2) e3 (by omega) ⟨.bl (!r),H,I,rfl,q.one g (.bl (!r))⟩
def zQ:typeLookup (.type "list_reverseiterator") "__len__" = pure none:=by rw[typeLookup_type,builtinLookup_eq_fast];kernel_rfl
def HF:typeLookup (.type "list_reverseiterator") "__length_hint__" = pure (some (.builtin "list_reverseiterator.__length_hint__")):=by rw[typeLookup_type,builtinLookup_eq_fast];kernel_rfl
def zR:bootBuiltins "reversed" = some (.type "reversed"):=by decide +kernel
section
variable {prog:Program}{w:World}{A:Around}{E:Value->Shared->Prop}{s:Shared}{l it:Addr}{items:Array Value}
def EM {Q:Bool->Shared->Prop}(G:s.TypeIs (.ref it) "list_reverseiterator")(h:Q false s):wpAny (model prog w) A (Builtin.List.listLengthHint (.ref it)) Q E s:=by
 unfold Builtin.List.listLengthHint;refine wX (wpAny_specialOf G zQ ?_);show wpAny _ A (specialOf (Value.ref it) (Str.ofString "__length_hint__")>>=_) _ _ _;refine wX (wpAny_specialOf G HF ?_);generalize g:("list_reverseiterator.__length_hint__" : String)=id0;wp_delta;rw[show splitId id0=some ("list_reverseiterator","__length_hint__")from by subst g;decide +kernel];subst g;refine wX (wpAny_isInstance (b:=true) G (by rw[isSubtype_type];kernel_rfl) ?_);exact wY h
def rZ (hh:A.handled=none)(BJ:l≠it)(za:s.heap.IsRevIter it l ((items.size:Int) - 1))(hl:s.heap.IsList l items)(hn:items.size<=sizeLine)
  (hQ:∀s' G c',(∀b o,b≠it->s.heap.get? b=some o->s'.heap.get? b=some o)->s'.gens=s.gens->s'.os=s.os->s'.heap.get? s.heap.objs.size=some (seqObj "list" G c')->G.toList=items.toList.reverse->Q (.ref s.heap.objs.size) s'):
  wpAny (model prog w) A (call (.type "list") [.ref it]) Q E s:=by
 have nS:∀ {b o},s.heap.get? b=some o->b≠s.heap.objs.size:=λe=>vS (vX e);have Pm:it≠s.heap.objs.size:=by obtain⟨o,e,_⟩:=id za;exact nS e
 have QS:l≠s.heap.objs.size:=by obtain⟨o,e,_⟩:=id hl;exact nS e
 refine callType_codes (Q₁:=λobj s₁=>obj=.ref s.heap.objs.size/\s₁={ s with heap:=s.heap.push { cls:=.type "list",data:=.seq #[] } }) PySem.F.called_list (PySem.F.typeCall_list_1 _) PySem.F.entry_list_init
  (code_list_new _ ⟨rfl,rfl⟩) λobj s₁ h₁=>?_
 obtain⟨rfl,rfl⟩:=h₁;have hS:(s.heap.push { cls:=.type "list",data:=.seq #[] }).get? s.heap.objs.size=some { cls:=.type "list",data:=.seq ([]:List Value).toArray }:=vY _ rfl;refine⟨⟨_,hS,rfl⟩,PySem.F.args_list_init_2 _ _,?_⟩;show wpAny _ _ (do let old ←Builtin.List.listItems (.ref s.heap.objs.size);Builtin.List.listUpdate (.ref s.heap.objs.size) (λ_=>#[]);letGo old.toList.reverse;Builtin.List.listExtendWith (.ref s.heap.objs.size) (.ref it) .none) _ _ _;refine wX ?_;unfold Builtin.List.listItems;refine wX (wpAny_seqItems hS rfl (wY ?_));show wpAny _ _ (updateSeq s.heap.objs.size (λ_=>#[])>>=λ_=>letGo (#[]:Array Value).toList.reverse>>=λ_=>Builtin.List.listExtendWith (.ref s.heap.objs.size) (.ref it) .none) _ _ _;refine wX (wpAny_updateSeq hS rfl ?_);have J8:=Heap.get?_update_self (Obj.mapSeq (λ_=>(#[]:Array Value))) hS rfl;have U:∀b o,s.heap.get? b=some o->((s.heap.push { cls:=.type "list",data:=.seq #[] }).update s.heap.objs.size (Obj.mapSeq (λ_=>(#[]:Array Value)))).get? b=some o:=λb o e=>(Heap.get?_update_other _ _ (Ne.symm (nS e))).trans (vZ _ e);refine wX (wpAny_letGo ?_);generalize (s.heap.push { cls:=.type "list",data:=.seq #[] }).update s.heap.objs.size (Obj.mapSeq (λ_=>(#[]:Array Value)))=g at J8 U ⊢;have M:g.IsRevIter it l ((items.size:Int) - 1):=za.at λo e=>U _ _ e;have IF:g.IsList l items:=hl.at λo e=>U _ _ e;have W:=Walks.listRev (prog:=prog) (w:=w) (A:=A.in1.in1) hh it l BJ items;have Mi:s.heap.objs.size∉[it,l]:=by simp only[List.mem_cons,List.not_mem_nil,or_false,not_or];exact⟨Pm.symm,QS.symm⟩
 unfold Builtin.List.listExtendWith;refine wX (wpAny_typeOf (T:="list_reverseiterator") (show Shared.TypeIs { s with heap:=g } _ _ from Heap.IsRevIter.typeIs (s:={ s with heap:=g }) M) ?_);rw[if_neg (by simp[Builtin.List.listSameRef,Pm.symm])];refine wX (wpAny_pyIter_revIter M ?_);refine wX (wpAny_holding (EM (Heap.IsRevIter.typeIs (s:={ s with heap:=g }) M) ?_));rw[if_neg (by decide)];refine wY ⟨plainId_quiet PySem.F.plain_extend_loop _,codeAny_extend_loopS W.toS hn _ Mi _ items.size 0 _ _ _ rfl (uN _) ⟨uN _,by rw[show(items.size:Int) - 1 - ((0:Nat):Int)=(items.size:Int) - 1 by omega];exact M,IF⟩ J8 (ItemsOf.nil _) λs' G c' hm IJ O=>?_⟩;refine⟨rfl,hQ s' G c' (λb o hb e=>hm.heap b o (λz=>?_) (U b o e)) hm.gens hm.os IJ ?_⟩
 ·simp only[List.mem_cons,List.not_mem_nil,or_false]at z;rcases z with z|z
  ·exact nS e z
  ·exact hb z
 ·apply List.ext_getElem?;intro i;by_cases hi:i<items.size
  ·obtain⟨v,hv⟩:∃v,G[i]? = some v:=⟨_,Array.getElem?_eq_getElem (by rw[O.1];exact hi)⟩;rw[Array.getElem?_toList,hv,List.getElem?_reverse (by simpa using hi)];have:=O.2 i v hv;simp only[vG,Array.getElem?_toList];exact this.symm
  ·rw[List.getElem?_eq_none (by rw[vG,O.1];omega),List.getElem?_eq_none (by simp;omega)]
end
@[simp] noncomputable def HG:D->OB
 |.lst ds=>some (.lst ds.reverse,true)
 |_=>none
def be.rev (h:be vs us):be vs.reverse us.reverse:=by
 induction h with
 |nil=>exact .nil
 |cons r _ g=>rw[List.reverse_cons,List.reverse_cons];exact g.append (.cons r .nil)
def IsL.rev {K:Frag}{B:Hp}{vs:List V}:∀ {ds:List D},IsL K B vs ds->IsL K B vs.reverse ds.reverse:=by
 induction vs with
 |nil=>intro ds h;cases h;exact .nil
 |cons v vs g=>intro ds h;cases h with|cons h t=>rw[List.reverse_cons,List.reverse_cons];exact(g t).append (.cons h .nil)
section
variable {X:Cx}{e:Expr}{pos p pos2 p2:Pos}
def zS (G:X.calm=true)(hl:X.mg "list" = none)(hm:X.mg "reversed" = none)(he:JE X e f)(VY:Gl X "list":=by rfl)(hg:Gl X "reversed":=by rfl)
  (hs:starEach [e] X.env=[(false,eval e X.env)]:=by rfl)
  (M:starEach [.Call (.Name "reversed" p2) [e] [] pos2] X.env=[(false,eval (.Call (.Name "reversed" p2) [e] [] pos2) X.env)]:=by rfl):
  JE X (.Call (.Name "list" p) [.Call (.Name "reversed" p2) [e] [] pos2] [] pos) (f1 HG f):=by
 intro af s σ H Q I q;obtain⟨B,ρ,d,bb,sB,r,U,jb⟩:=q;obtain⟨⟨xd,xb⟩,ex,U⟩:=oX U;cases xd<;>try (cases U;done)
 rename_i ds;cases U
 refine wpAny_Call_Name_kw (jv I VY hl DO ?_ (by decide) (by decide));refine PyProof.Rows.callWith_type1 ?_ (by rw[M];rfl) rfl;rw[M];show wpAny _ _ (spliced ((false,eval (.Call (.Name "reversed" p2) [e] [] pos2) X.env)::backTo pos [])) _ _ s;refine Calls.spliced_cons ?_;refine wpAny_Call_Name_kw (jv I hg hm zR ?_ (by decide) (by decide));refine PyProof.Rows.callWith_type1 (c7 (ah he am hs pos2 af s σ H (λvs H1=>∃N1,Ext B N1 H H1/\IsL X.K N1 vs [.lst ds]) I ⟨B,ρ,[.lst ds],sB,r,by simp[ae,ai,ex],λvs H1 N1 g i1=>⟨N1,g,i1⟩⟩) λus s1 ⟨vs,H1,I1,r1,N1,g,il⟩=>?_) (by rw[hs];rfl) rfl;cases il with
 |cons j1 j2=>
  cases j2
  cases j1
  rename_i l ws h m1;obtain⟨u1,rfl,Ro⟩:=hG r1;cases Ro
  obtain⟨its,v1,pl,z1⟩:=I1.list (g.nh.seq h);have wA:l<s1.heap.objs.size:=by obtain⟨o,e0,_⟩:=pl.isList;exact vX e0
  refine call_reversed_list pl.isList ?_;refine Calls.spliced_nil ?_;have hsz:(s1.heap.push (revObj l ((its.toArray.size:Int) - 1))).objs.size=s1.heap.objs.size+1:=size_push' _ _;refine rZ (s:={ s1 with heap:=s1.heap.push (revObj l ((its.toArray.size:Int) - 1)) }) (I1.ok.hd G) (vS wA) ⟨_,vY _ rfl,rfl,rfl⟩ (pl.isList.push _) (by rw[vH,←v1.length];exact z1) λs' O c' hk hg' ho' hS T=>?_;have k1:∀b o,s1.heap.get? b=some o->s'.heap.get? b=some o:=λb o e0=>hk b o (vS (vX e0)) (vZ _ e0);have hp:H1 (s1.heap.objs.size+1)=none:=I1.hok.fresh (Nat.le_succ _);rw[hsz]at hS ⊢;have I2:=t6 (s1:={ s1 with drawn:=s'.drawn }) I1 (λ_ _ e=>e) rfl rfl;have x2:=Ext.laid (o:=.lst ws.reverse) g.nh hp;obtain⟨h',g',d',IL,Td⟩:=s';cases hg';cases ho'
  have il:=(IsL.rev m1).mono x2.bn;refine⟨.ref (s1.heap.objs.size+1),_,I2.laid (t':=IL) k1 (Nat.le_succ _) (show cw X.prog X.w _ h' _ (.lst ws.reverse)from ⟨by rw[List.length_reverse];exact z1,O.toList,c',?_,hS⟩),rfl,jb _ _ _ (g.trans x2) (.lst (gn.of aH) il) λ_=>⟨_,_,_,rfl,rfl,g.hh.free hp,aH,il⟩⟩;rw[T];exact be.rev v1
end
noncomputable def M2 (K:Frag)(g G:Addr):It :=
  ⟨λi H=>∃xs ys x y,gn K H g xs/\gn K H G ys/\xs[i]? = some x/\ys[i]? = some y,
   λi H v H'=>∃T x y,v=.ref T/\H T=none/\H'=upd H T (.tup [x,y])/\(∀xs,gn K H g xs->xs[i]? = some x)/\(∀ys,gn K H G ys->ys[i]? = some y),
   λi H=>∃xs ys,gn K H g xs/\gn K H G ys/\(xs.length<=i∨ys.length<=i)⟩
def C9 {P:Program}{w:World}{K:Frag}{es:List Expr}{kt:Nat}{pt:Pos}{a1 a2 z TI TO U i2:Addr}(D:ZipApart z TI TO U i2 a1 a2):
  Turn P w K (.Tuple es kt pt) (M2 K a1 a2) [z,TI,TO,U,i2] z (λi h=>IsZip h z TI TO .none/\IsPair h TI (.ref U) (.ref i2)/\(∃a b,IsPair h TO a b)/\h.IsListIter U a1 i/\h.IsListIter i2 a2 i) where
 mem:=by simp
 obj:=λi h ⟨hz,G,⟨a,c,M⟩,⟨o1,O,_,d1⟩,⟨o2,T,_,d2⟩⟩ b hb=>by
  simp at hb;rcases hb with rfl|rfl|rfl|rfl|rfl
  ·exact⟨_,hz,λv z=>by cases z⟩
  ·exact⟨_,G,λv z=>by cases z⟩
  ·exact⟨_,M,λv z=>by cases z⟩
  ·exact⟨_,O,λv z=>by rw[d1]at z;cases z⟩
  ·exact⟨_,T,λv z=>by rw[d2]at z;cases z⟩
 keep:=λi h h' ⟨hz,G,⟨a,c,M⟩,O,T⟩ k=>⟨k z (by simp) _ hz,k TI (by simp) _ G,⟨a,c,k TO (by simp) _ M⟩,O.at λo e=>k U (by simp) o e,T.at λo e=>k i2 (by simp) o e⟩
 item:=by
  intro X hP hw hK hc i af s σ H E I hf st hg;subst hP hw hK;obtain⟨hz,G,⟨a,c,M⟩,O,T⟩:=st;obtain⟨xs,ys,x,y,q1,q2,hx,hy⟩:=hg;obtain⟨its,r1,p1,_⟩:=I.list q1;obtain⟨Dg,r2,p2,_⟩:=I.list q2;obtain⟨u,hu,ru⟩:=r1.get hx;obtain⟨v,hv,rv⟩:=r2.get hy;have lt:∀ {c o},s.heap.get? c=some o->c≠s.heap.objs.size:=λe=>vS (vX e);refine wpAny_pyNext_zip_item D hz G M O T p1.isList p2.isList (by simpa using hu) (by simpa using hv) λh' b1 b2 b3 b4 b5 b6 bk=>?_;refine⟨_,rfl,wpAny_letOwnedTupleGo_zip (s:={ s with heap:=h' }) b1 λh2 c1 s2=>?_⟩;have g:Heap.SameBut z h' h2:=s2;have kk:∀b o,b∉[z,TI,TO,U,i2]->s.heap.get? b=some o->h2.get? b=some o:=λb o hb e=>
   g.extBut _ _ (λq=>hb (by simp[q])) (bk b o (λq=>hb (by simp[q])) (λq=>hb (by simp[q])) (λq=>hb (by simp[q])) (λq=>hb (by simp[q])) e)
  refine⟨.ref s.heap.objs.size,upd H s.heap.objs.size (.tup [x,y]),Eb (s:=s) (t':=s.toks) I hf kk (vT _) ⟨by show 2<=sizeLine;decide,[u,v],.cons ru (.cons rv .nil),⟨_,g.extBut _ _ (lt hz).symm b5,rfl,_,rfl⟩⟩,rfl,
   ⟨_,x,y,rfl,I.fresh,rfl,λzs hq=>by rw[I.list_inj hq q1];exact hx,λzs hq=>by rw[I.list_inj hq q2];exact hy⟩,
   ⟨c1,g.extBut _ _ D.TIz (bk _ _ D.TIz D.TITO D.TIi1 D.TIi2 G),⟨_,_,g.extBut _ _ D.TOz b2⟩,b3.at λo e=>g.extBut _ _ D.i1z e,b4.at λo e=>g.extBut _ _ D.i2z e⟩,λb hb=>?_⟩
  rw[aM]
  ·exact(hf b hb).1
  ·obtain⟨o1,e1,_⟩:=O;obtain⟨o2,e2,_⟩:=T;simp at hb;rcases hb with rfl|rfl|rfl|rfl|rfl
   ·exact lt hz
   ·exact lt G
   ·exact lt M
   ·exact lt e1
   ·exact lt e2
 done:=by
  intro X hP hw hK hc i af s σ H E I hf st hg;subst hP hw hK;obtain⟨hz,G,⟨a,c,M⟩,O,T⟩:=st;obtain⟨xs,ys,q1,q2,hl⟩:=hg;obtain⟨its,r1,p1,_⟩:=I.list q1;obtain⟨Dg,r2,p2,_⟩:=I.list q2;have n1:=r1.length;have n2:=r2.length;exact wpAny_pyNext_zip_end (I.ok.hd hc) D hz G M O T p1.isList p2.isList (hl.imp (λq=>by simp;omega) λq=>by simp;omega) λh' hk=>⟨rfl,mv (t':=s.toks) I hf λb o hb e=>hk b o (λq=>hb (by simp[q])) (λq=>hb (by simp[q])) (λq=>hb (by simp[q])) (λq=>hb (by simp[q])) e⟩
 self:=λ_ _ _ _ _ st h=>wpAny_pyIter_zip st.1 h
@[simp] def EN (fa g:FE):FA:=λρ=>(fa ρ).bind λx=>(g ρ).bind λy=>match x.1,y.1 with
 |.lst xs,.lst ys=>some (z6 xs ys)
 |_,_=>none
section
variable {X:Cx}{a b:Expr}{pos p:Pos}
def HH (h1:gn X.K N l1 vs)(O:IsL X.K N vs ds)(h2:gn X.K N l2 ws)(U:IsL X.K N ws es):nA X.K (M2 X.K l1 l2) N (z6 ds es):=by
 intro i H' g;have n1:=O.length;have n2:=U.length;refine⟨λd ed=>?_,λhl=>⟨vs,ws,g.seq h1,g.seq h2,?_⟩⟩
 ·unfold z6 at ed;rw[List.getElem?_zipWith]at ed;cases G:ds[i]? with
  |none=>rw[G]at ed;simp at ed
  |some x=>
   cases e2:es[i]? with
   |none=>rw[G,e2]at ed;simp at ed
   |some y=>
    rw[G,e2]at ed;simp at ed;subst ed;obtain⟨v,ev,iv⟩:=O.get G;obtain⟨w,ew,iw⟩:=U.get e2;refine⟨⟨vs,ws,v,w,g.seq h1,g.seq h2,ev,ew⟩,λr H2 hy=>?_⟩;obtain⟨T,v',w',rfl,hT,rfl,f1,f2⟩:=hy;have e3:=f1 vs (g.seq h1);have e4:=f2 ws (g.seq h2);rw[ev]at e3;cases e3;rw[ew]at e4;cases e4;have M:=Ext.laid (o:=.tup [v,w]) g hT;exact⟨_,M,.tup (ja.of aH) (.cons (iv.mono M.bn) (.cons (iw.mono M.bn) .nil))⟩
 ·unfold z6 at hl;rw[List.length_zipWith]at hl;omega
def HI {es:List Expr}{kt:Nat}{pt:Pos}{fa fb:FE}(hm:X.mg "zip" = none)(ha:JE X a fa)(hb:JE X b fb)(hg:Gl X "zip":=by rfl)(hs:starEach [a,b] X.env=[(false,eval a X.env),(false,eval b X.env)]:=by rfl)(g:starEach [b] X.env=[(false,eval b X.env)]:=by rfl):
  JI X (.Tuple es kt pt) (.Call (.Name "zip" p) [a,b] [] pos) (EN fa fb):=by
 intro af s σ H R I q;obtain⟨B,ρ,ds,sB,r,ee,q⟩:=q;obtain⟨⟨xd,xb⟩,ex,e1⟩:=oX ee;obtain⟨⟨yd,yb⟩,ey,e2⟩:=oX e1;clear e1 ee;cases xd<;>try (cases e2;done)
 cases yd<;>try (cases e2;done)
 rename_i xs ys;cases e2
 refine Call_ (jv I hg hm Nq (PyProof.Rows.callWith_type1 (c7 (ah ha (ah hb am g) (by rw[hs,g]) pos af s σ H (λvs M=>∃N1,Ext B N1 H M/\IsL X.K N1 vs [.lst xs,.lst ys]) I ⟨B,ρ,[.lst xs,.lst ys],sB,r,by simp[ae,ai,ex,ey],λvs M N1 O i1=>⟨N1,O,i1⟩⟩) λus s1 ⟨vs,M,T,r1,N1,O,il⟩=>?_) (by rw[hs,g]) (by rw[g];rfl)));cases il with
 |cons j1 j2=>
  cases j2 with
  |cons j2 j3=>
   cases j3;cases j1;cases j2
   rename_i l1 us1 h1 m1 l2 us2 h2 m2;obtain⟨u1,u2,rfl,Ro,VZ⟩:=r1.two;cases Ro
   cases VZ
   obtain⟨its,_,U,_⟩:=T.list (O.nh.seq h1);obtain⟨Dg,_,p2,_⟩:=T.list (O.nh.seq h2);have G:∀ {l:Addr}{items:Array Value}(n:Nat),s1.heap.IsList l items->l≠s1.heap.objs.size+n:=λn ⟨o,e,_⟩=>vS (vQ (vX e) (Nat.le_add_right _ n));have ne:∀ {i j:Nat},i≠j->s1.heap.objs.size+i≠s1.heap.objs.size+j:=λh e=>h (Nat.add_left_cancel e);refine call_zip_2 U.isList p2.isList λh' c1 c2 c3 c4 c5 _ ck=>?_;refine wpAny_pyIter_zip c1 ⟨s1.heap.objs.size+4,[s1.heap.objs.size+4,s1.heap.objs.size+2,s1.heap.objs.size+3,s1.heap.objs.size,s1.heap.objs.size+1],_,_,M,rfl,T.kept (t':=s1.toks) ck,
    C9 ⟨ne (by decide),ne (by decide),ne (i:=0) (by decide),ne (by decide),ne (by decide),ne (j:=0) (by decide),ne (by decide),ne (j:=0) (by decide),ne (by decide),ne (i:=0) (by decide),G 4 U.isList,G 3 U.isList,G 0 U.isList,G 1 U.isList,G 4 p2.isList,G 3 p2.isList,G 0 p2.isList,G 1 p2.isList⟩,⟨c1,c2,⟨_,_,c3⟩,c4,c5⟩,λb hb=>?_,q _ M N1 O (HH h1 m1 h2 m2)⟩
   have IH:s1.heap.objs.size<=b:=by
    simp at hb;rcases hb with rfl|rfl|rfl|rfl|rfl
    ·exact Nat.le_add_right _ 4
    ·exact Nat.le_add_right _ 2
    ·exact Nat.le_add_right _ 3
    ·exact vT _
    ·exact Nat.le_add_right _ 1
   exact T.fpOk IH (T.hok.fresh IH)
end
end DL
namespace DL
open PySem L2
def jm (I:Nat->Env->Prop)(ds:List D)(M:Env)(h0:I 0 M)
  (step:∀i d ρ,ds[i]? = some d->I i ρ->∃G ρ',tg d ρ=some G/\(g G=some (.nx ρ')∨g G=some (.ct ρ'))/\I (i+1) ρ'):
  ∃ρ',iG tg g ds M=some (.nx ρ')/\I ds.length ρ':=by
 have O:∀(es:List D)(i:Nat)(ρ:Env),ds.drop i=es->i+es.length=ds.length->I i ρ->∃ρ',iG tg g es ρ=some (.nx ρ')/\I ds.length ρ':=by
  intro es;induction es with
  |nil=>intro i ρ e hl h;refine⟨ρ,by rw[DD],?_⟩;rw[←hl];exact h
  |cons d es U=>
   intro i ρ e hl h;have hd:ds[i]? = some d:=by
    have:(ds.drop i)[0]? = some d:=by rw[e];rfl
    rwa [List.getElem?_drop,Nat.add_zero]at this
   obtain⟨G,ρ',h1,h2,h3⟩:=step i d ρ hd h;have he:ds.drop (i+1)=es:=by rw[←List.drop_drop,e];rfl
   obtain⟨T,k1,k2⟩:=U (i+1) ρ' he (by simp at hl;omega) h3;refine⟨T,?_,k2⟩;rw[sP,h1];rcases h2 with h2|h2<;>simp only[vJ,h2]<;>exact k1
 exact O ds 0 M (by simp) (by simp) h0
def m8 (n:Nat)(I:Nat->Env->Prop)(G:Env)(h0:I 0 G)
  (step:∀(i:Nat) ρ,i<n->I i ρ->∃M ρ',tg (.int (i:Int)) ρ=some M/\(g M=some (.nx ρ')∨g M=some (.ct ρ'))/\I (i+1) ρ'):
  ∃ρ',iG tg g (dU 0 n) G=some (.nx ρ')/\I n ρ':=by
 have hl:(dU 0 n).length=n:=by simp[dU]
 obtain⟨ρ',h1,h2⟩:=jm (tg:=tg) (g:=g) I (dU 0 n) G h0 λi d ρ hd h=>by
  unfold dU at hd;rw[vA]at hd;obtain⟨k,hk,hd⟩:=oY hd;obtain⟨O,hk⟩:=vV hk;rw[List.length_range]at O;rw[List.getElem_range]at hk;subst hk;rw[Int.zero_add]at hd;subst hd;exact step i ρ O h
 rw[hl]at h2;exact⟨ρ',h1,h2⟩
def k6 {α:Type}{xs:List α}{j:Nat}(h:j<xs.length):lG xs (j:Int)=some xs[j]:=G1 (by simp[h])
def v0 {α:Type}{xs:List α}{i:Int}(h0:0<=i)(h:i.toNat<xs.length):lG xs i=some xs[i.toNat]:=by
 have:=k6 h;rwa [Int.toNat_of_nonneg h0]at this
@[simp] def Jq (xs:List Int):bF (xs.map D.int)=true:=by
 induction xs with
 |nil=>simp
 |cons x xs g=>simp[g]
@[simp] def Gb (n:Nat)(xs:List Int):(xs.map D.int).all (aI n)=true:=by
 induction xs with
 |nil=>simp
 |cons x xs g=>simpa using g
@[simp] def HJ (xs:List Int):(xs.map D.int).all gw=true:=by
 induction xs with
 |nil=>simp
 |cons x xs g=>simpa using g
def CA (n:Nat):dU 0 n=((List.range n).map λ(k:Nat)=>(k:Int)).map D.int:=by
 unfold dU;rw[uP];apply List.map_congr_left;intro k _;simp
mutual
def m9:D->D->Bool
 |.non,.non=>true
 |.bl a,.bl b=>a == b
 |.int a,.int b=>decide (a=b)
 |.str a,.str b=>decide (a=b)
 |.ty a,.ty b=>decide (a=b)
 |.tup xs,.tup ys=>qz xs ys
 |.lst xs,.lst ys=>qz xs ys
 |_,_=>false
def qz:List D->List D->Bool
 |[],[]=>true
 |x::xs,y::ys=>m9 x y && qz xs ys
 |_,_=>false
end
mutual
theorem AZ:∀ {x y:D},m9 x y=true->x=y
 |.non,.non,_=>rfl
 |.bl a,.bl b,h=>by simp[m9]at h;rw[h]
 |.int a,.int b,h=>by simp[m9]at h;rw[h]
 |.str a,.str b,h=>by simp[m9]at h;rw[h]
 |.ty a,.ty b,h=>by simp[m9]at h;rw[h]
 |.tup xs,.tup ys,h=>by rw[m9]at h;rw[q8 h]
 |.lst xs,.lst ys,h=>by rw[m9]at h;rw[q8 h]
theorem q8:∀ {xs ys:List D},qz xs ys=true->xs=ys
 |[],[],_=>rfl
 |x::xs,y::ys,h=>by
  rw[qz,vC]at h;rw[AZ h.1,q8 h.2]
end
def OV (r:OB)(d:D)(b:Bool):Bool:=match r with
 |some (e,c)=>m9 e d && c == b
 |none=>false
def EO (h:OV r d b=true):r=some (d,b):=by
 unfold OV at h;split at h
 ·rw[vC]at h;rw[AZ h.1,eq_of_beq h.2]
 ·cases h
section
variable {f:FE}{c:FT}{g g' h:FS}{ρ ρ':Env}{i:Nat}{d:D}{b:Bool}{r:Option Res}{ds:List D}
def au (hl:ds.length=n)(e:g (ds.map (λd=>some (d,false))++List.replicate k none)=some (.rt d b)):aJ g n k ds=some (d,b):=by
 unfold aJ;rw[if_pos hl,e]
def tN (n:bj d=true):setE ρ i d b=ρ.set i (some (d,false)):=by unfold setE;rw[if_pos n]
def xU (n:bF ds=true):setE ρ i (.lst ds) true=ρ.set i (some (.lst ds,true)):=by
 unfold setE;rw[if_neg (by simp),if_pos ⟨rfl,by simpa using n⟩]
def HK (n:bj d=false)(m:b=false∨wP d=false):setE ρ i d b=(unown ρ).set i (some (d,false)):=by
 unfold setE;have hz:¬(b=true/\wP d=true):=λz=>by
  rcases m with m|m
  ·rw[m]at z;exact absurd z.1 (by decide)
  ·rw[m]at z;exact absurd z.2 (by decide)
 rw[if_neg (by simp[n]),if_neg hz]
def EQ (e:f ρ=some (d,b))(k:h (setE ρ i d b)=r):az (aO i f) h ρ=r:=by simp[e];exact k
def ER (e:f ρ=some (d,b))(n:bj d=true)(k:h (ρ.set i (some (d,false)))=r):az (aO i f) h ρ=r:=EQ e (by rw[tN n];exact k)
def bT (e:f ρ=some (.lst ds,true))(n:bF ds=true)(k:h (ρ.set i (some (.lst ds,true)))=r):az (aO i f) h ρ=r:=EQ e (by rw[xU n];exact k)
def CB (e:f ρ=some (d,b))(n:bj d=false)(m:b=false∨wP d=false)(k:h ((unown ρ).set i (some (d,false)))=r):az (aO i f) h ρ=r:=EQ e (by rw[HK n m];exact k)
def dL (e:g ρ=some (.nx ρ'))(k:h ρ'=r):az g h ρ=r:=by unfold az;rw[e];exact k
def NJ (e:g ρ=some (.rt d b)):az g h ρ=some (.rt d b):=by unfold az;rw[e]
def Qr (e:g ρ=some (.ct ρ')):az g h ρ=some (.ct ρ'):=by unfold az;rw[e]
def lO (e:c ρ=some true)(k:g ρ=r):du c g g' ρ=r:=by unfold du;rw[e];exact k
def mB (e:c ρ=some false)(k:g' ρ=r):du c g g' ρ=r:=by unfold du;rw[e];exact k
def Lr (e:c ρ=some x)(G:x=true->g ρ=r)(M:x=false->g' ρ=r):du c g g' ρ=r:=by
 cases x with
 |true=>exact lO e (G rfl)
 |false=>exact mB e (M rfl)
def bp (e:c ρ=some true)(k:g ρ=some (.rt d b)):az (du c g g') h ρ=some (.rt d b):=NJ (lO e k)
def a9 (e:c ρ=some false)(k:h ρ=r):az (du c g aY) h ρ=r:=dL (mB e rfl) k
def aw (e:f ρ=some (d,b)):aN f ρ=some (.rt d b):=by simp[e]
def mC (e:ρ[i]? = some (some (d,b)))(hb:Ja d=false:=by rfl):jf i ρ=some (.rt d b):=by simp only[jf,e,hb];simp
def k7 (e:f ρ=some (d,b))(n:bj d=true):aO i f ρ=some (.nx (ρ.set i (some (d,false)))):=by
 show(f ρ).map _=_;rw[e,Option.map_some,tN n]
def wa (e:f ρ=some (.lst ds,true))(n:bF ds=true):aO i f ρ=some (.nx (ρ.set i (some (.lst ds,true)))):=by
 show(f ρ).map _=_;rw[e,Option.map_some,xU n]
def j9 (e:ρ[i]? = some (some (.lst ds,true)))(G:f ρ=some (d,b))(n:bj d=true)(l:ds.length<sizeLine):iP i f ρ=some (.nx (ρ.set i (some (.lst (ds++[d]),true)))):=by
 simp[e,G,n,l]
def Ba (e:ρ[i]? = some (some (.lst ds,true)))(G:f ρ=some (d,b))(n:bj d=true)(l:ds.length<sizeLine)(k:h (ρ.set i (some (.lst (ds++[d]),true)))=r):az (iP i f) h ρ=r:=dL (j9 e G n l) k
def mD (e:fi ρ=some ds)(k:iG tg g ds ρ=some (.nx ρ')):jO fi tg g ρ=some (.nx ρ'):=by unfold jO;rw[e];exact k
def mE (e:fi (mn ρ)=some ds)(k:iG tg g ds ρ=some (.nx ρ')):rR fi tg g ρ=some (.nx ρ'):=by unfold rR;rw[e];exact k
def gU {f:FE}{j:Nat}(e:f ρ=some (.int j,b))(hj:j<=1000):fE f ρ=some (dU 0 j):=by
 unfold fE;rw[e];simp only[];rw[if_pos (by omega)];simp
def Ls (e:f ρ=some (.bl x,b)):ba f ρ=some x:=by unfold ba;rw[e]
def Bb (e:fa ρ=some ds)(k:F ds=x):fA F fa ρ=x:=by unfold fA;rw[e,vJ];exact k
def xV {f1 g1:D->D->OB}{fa G M:FE}{x y z:D}{b1 b2 b3 b4 p q:Bool}(O:fa ρ=some (x,b1))(T:G ρ=some (y,b2))(U:M ρ=some (z,b3))(e1:f1 x y=some (.bl p,b4))(e2:p=true->g1 y z=some (.bl q,false)):nB f1 g1 fa G M ρ=some (.bl (p && q),false):=by
 unfold nB;rw[O,T,U];simp only[vJ,e1];cases p
 ·rfl
 ·exact e2 rfl
def dE {f1 f2:FE}{p q b1:Bool}(G:f1 ρ=some (.bl p,b1))(e2:p=true->f2 ρ=some (.bl q,false)):jU f1 f2 ρ=some (.bl (p && q),false):=by
 unfold jU;rw[G];cases p
 ·rfl
 ·exact e2 rfl
def qA {f1 f2:FE}{p q b1:Bool}(G:f1 ρ=some (.bl p,b1))(e2:p=false->f2 ρ=some (.bl q,false)):K8 f1 f2 ρ=some (.bl (p || q),false):=by
 unfold K8;rw[G];cases p
 ·exact e2 rfl
 ·rfl
def aC (G:f ρ=some (d,b))(e2:fr ρ=some xs):ae f fr ρ=some (d::xs):=by
 unfold ae;rw[G,vJ,e2,vJ]
def fx (G:fa ρ=some (x,b1))(e2:fb ρ=some (y,b2))(M:op x y=z):f2 op fa fb ρ=z:=by
 unfold f2;rw[G,vJ,e2,vJ];exact M
def dM (G:c1 ρ=some p)(e2:p=true->c2 ρ=some q):eK c1 c2 ρ=some (p && q):=by
 unfold eK;rw[G];cases p
 ·rfl
 ·exact e2 rfl
def cR (G:c1 ρ=some p)(e2:p=false->c2 ρ=some q):je c1 c2 ρ=some (p || q):=by
 unfold je;rw[G];cases p
 ·exact e2 rfl
 ·rfl
def bU (G:c1 ρ=some p):eM c1 ρ=some (!p):=by
 unfold eM;rw[G];rfl
end
def OW (a c:Nat):decide ([a]<[c])=decide (a<c):=by
 congr 1;rw[List.cons_lt_cons_iff];simp
@[simp] def OX (a c:Nat):yV (.str ⟨#[a]⟩) (.str ⟨#[c]⟩)=some (.bl (decide (a<=c)),false):=by
 unfold yV;show some (D.bl (!decide ([c]<[a])),false)=_;rw[OW];congr 3;by_cases h:c<a
 ·rw[decide_eq_true h,decide_eq_false (by omega)];rfl
 ·rw[decide_eq_false h,decide_eq_true (by omega)];rfl
def bK (h:n<=100000):n<sizeLine:=Nat.lt_of_le_of_lt h (by decide)
def dB (h:n<=100000):n<=sizeLine:=Nat.le_of_lt (bK h)
def fH {α:Type}(l:List α)(g:α->D)(p:α->Bool)(h:α->D)(e:fi ρ=some (l.map g))(hl:l.length<=100000)
  (k:∀x∈l,∃G,tg (g x) (dS nT cap ρ)=some G/\c G=some (p x)/\(p x=true->∃b,fe G=some (h x,b))):bI fi nT cap tg c fe ρ=some (.lst ((l.filter p).map h),true):=by
 have T:∀M:List α,(∀x∈M,x∈l)->gN tg c fe (dS nT cap ρ) (M.map g)=some ((M.filter p).map h):=by
  intro M;induction M with
  |nil=>intro _;simp
  |cons x M O=>
   intro hm;obtain⟨G,h1,h2,h3⟩:=k x (hm x mX);have O:=O λy hy=>hm y (mZ _ hy);rw[uY,zt,h1,vJ,h2,vJ];cases hp:p x with
   |false=>simp[hp,O]
   |true=>
    obtain⟨b,h4⟩:=h3 hp;simp[hp,O,h4]
 unfold bI;rw[e,vJ,if_pos (dB (by simpa using hl)),T l λ_ h=>h,Option.map_some]
def jP {α:Type}(l:List α)(g:α->D)(h:α->D)(e:fi ρ=some (l.map g))(hl:l.length<=100000)
  (k:∀x∈l,∃G,tg (g x) (dS nT cap ρ)=some G/\∃b,fe G=some (h x,b)):bI fi nT cap tg fu fe ρ=some (.lst (l.map h),true):=by
 have:=fH (c:=fu) (fe:=fe) l g (λ_=>true) h e hl λx hx=>by
  obtain⟨G,h1,h2⟩:=k x hx;exact⟨G,h1,rfl,λ_=>h2⟩
 rw[List.filter_eq_self.mpr λ_ _=>rfl]at this;exact this
@[simp] def qB {α:Type}(f:α->Bool)(l:List α):pQ (l.map λx=>.bl (f x))=some (l.map f):=by
 induction l with
 |nil=>rfl
 |cons x l g=>simp[g]
def zl (h0:0<=i)(h:i.toNat<z.cps.size)(hz:z.length<=100000):bq (.str z) (.int i)=some (.str ⟨#[z.cps.toList.getD i.toNat 0]⟩,false):=by
 have hh:i.toNat<z.cps.toList.length:=by simpa using h
 simp only[bq];rw[if_pos (dB hz),v0 h0 hh];simp[List.getD,h]
def zT (h0:0<=i)(h:i.toNat<ds.length):bq (.lst ds) (.int i)=some (ds.getD i.toNat .non,false):=by
 simp only[bq];rw[v0 h0 h];simp[List.getD,h]
def pE (h0:0<=i)(h:i.toNat<ds.length):bq (.tup ds) (.int i)=some (ds.getD i.toNat .non,false):=by
 simp only[bq];rw[v0 h0 h];simp[List.getD,h]
def Bc {xs:List Int}{i:Int}(h0:0<=i)(h:i.toNat<xs.length):bq (.lst (xs.map .int)) (.int i)=some (.int (xs.getD i.toNat 0),false):=by
 rw[zT h0 (by simpa using h)];simp[List.getD,h]
def mod_lt {x m:Int}(hm:0<m):0<=x % m/\x % m<m:=⟨Int.emod_nonneg _ (by omega),Int.emod_lt_of_pos _ hm⟩
def HL:eJ [.lst ds]=some (.int ds.length,false):=rfl
def Bd:cP (.int i) (.int j)=some (.bl (decide (i=j)),false):=by simp
def xW (h:0<=v):HT.dQ n d (some v)=min v.toNat n:=by
 show(if v<0 then (v+(n:Int)).toNat else min v.toNat n)=_;rw[if_neg (by omega)]
def bi (x y:D)(g:fa ρ=some (x,false))(e2:fb ρ=some (y,false))(G:op x y=z):f2 op fa fb ρ=z:=fx g e2 G
def cz (e:f ρ=some (.bl x,false)):ba f ρ=some x:=Ls e
def bJ (g:f ρ=some (d,false))(e2:fr ρ=some xs):ae f fr ρ=some (d::xs):=aC g e2
def aE (ds:List D)(e:fa ρ=some ds)(k:F ds=x):fA F fa ρ=x:=Bb e k
def fw (d:D)(e:f ρ=some (d,false))(n:bj d=true)(k:h (ρ.set i (some (d,false)))=r):az (aO i f) h ρ=r:=ER e n k
@[simp] noncomputable abbrev WT (ab:List D)(aa:Int)(t:Env):Env:=some (.tup ab,false)::some (.int aa,false)::t
@[simp] noncomputable abbrev eR (ns:List Int)(zs:List Str)(G:Int)(g:List Str)(R:List D)(a b:OB)(t:Env):Env:=some (.lst (ns.map .int),false)::some (.lst (zs.map .str),false)::some (.int G,false)::a::some (.lst (g.map .str),true)::some (.lst R,true)::b::t
end DL
namespace Lw
open PySem DL
noncomputable def xX:D:=(.tup [(.str "paper"),(.str "like"),(.str "copy")])
noncomputable def gQ:List (PySem.Str×D):=[(("root" : Str),(.tup [(.str "office"),(.str "matters"),(.str "further"),(.str "rule")])),(("named" : Str),(.tup [(.str "day"),(.str "office"),(.str "person")])),(("chosen" : Str),(.tup [(.str "day"),(.str "by"),(.str "office"),(.str "person"),(.str "since")])),(("heir" : Str),(.tup [(.str "day"),(.str "by"),(.str "office"),(.str "person")])),(("death" : Str),(.tup [(.str "day"),(.str "person")])),(("lost" : Str),(.tup [(.str "day"),(.str "person")])),(("found" : Str),(.tup [(.str "day"),(.str "person")])),(("leave" : Str),(.tup [(.str "day"),(.str "by"),(.str "person"),(.str "matters"),(.str "stretch"),(.str "further")])),(("paper" : Str),(.tup [(.str "day"),(.str "by"),(.str "matters"),(.str "stretch"),(.str "whom"),(.str "pieces")])),(("like" : Str),(.tup [(.str "day"),(.str "by"),(.str "matters"),(.str "stretch"),(.str "whom"),(.str "of"),(.str "changes")])),(("copy" : Str),(.tup [(.str "day"),(.str "by"),(.str "of")])),(("call" : Str),(.tup [(.str "day"),(.str "by"),(.str "of")]))]
noncomputable def ie:D:=(.tup [(.str "chosen"),(.str "heir"),(.str "leave"),(.str "paper"),(.str "like"),(.str "copy"),(.str "call")])
def xY:FS :=
  (az (aO 2 (fI 5))
  (az (du (ba (f2 Ax (fA eJ (fV 0 ai)) (fI 0))) (aO 2 (f2 bq (aj 0) (f2 bP (aj 1) (fA eJ (fV 0 ai))))) aY)
  (az (aO 2 (f2 bP (f2 gu (f2 ci (f2 ci (f2 bP (aj 2) (fI 2147483629)) (f2 gu (fI 6151) (aj 1))) (fI 1)) (fI 48271)) (fI 2147483647)))
  (aN (f2 bP (f2 gu (aj 2) (f2 ci (f2 ci (f2 bP (aj 2) (fI 65519)) (aj 1)) (fI 2))) (fI 2147483629))))))
def dh:=aJ xY 2 1
def lP:FS :=
  (az (aO 6 (fA j6 (fV 2 ai)))
  (az (Cp 6 (aj 3) (f2 bq (aj 1) (f2 bP (f2 ci (f2 cV (aj 0) (fI 64)) (f2 gu (fI 3) (aj 5))) (fI 26))))
  (iP 4 (f2 ou (fS "") (aj 6)))))
def tO:FS :=
  (az (aO 1 (fS "abcdefghijklmnopqrstuvwxyz"))
  (az (aO 2 (bI (fE (f2 ci (fI 1) (f2 bP (aj 0) (fI 8)))) 1 [1,0] (cQ 0) fu (f2 bq (aj 1) (f2 bP (f2 cV (aj 2) (f2 ci (fI 3) (f2 gu (fI 4) (aj 0)))) (fI 26)))))
  (az (aO 3 (f2 bP (f2 cV (aj 0) (fI 8)) (fA eJ (fV 2 ai))))
  (az (aO 4 (fA bw ai))
  (az (jO (fE (fI 7)) (cQ 5) lP)
  (az (du (ba (f2 cP (f2 bP (f2 cV (aj 0) (fI 1000)) (fI 8)) (fI 1))) (Cp 4 (fI 5) (cA 4 0)) aY)
  (jf 4)))))))
def nN:=aJ tO 1 6
def o4:FS :=
  (az (aO 3 (fA bw (ae (fA aP (ae (fI 0) (ae (fC .non) ai))) (ae (fA aP (fV 1 (ae (fC .non) ai))) (ae (fA aP (fV 1 (ae (f2 ci (aj 1) (f2 gu (fI 3) (aj 2))) ai))) (ae (fA aP (ae (fI 0) (ae (f2 ci (aj 1) (f2 gu (fI 2) (aj 2))) ai))) (ae (fA aP (ae (fI 0) (ae (f2 gu (fI 9) (aj 2)) ai))) ai)))))))
  (az (aO 3 (f2 ci (aj 3) (fA bw (ae (fA aP (ae (f2 ci (aj 1) (aj 2)) (ae (f2 ci (aj 1) (f2 gu (fI 4) (aj 2))) ai))) (ae (fA aP (ae (f2 cV (aj 1) (fI 2)) (ae (f2 ci (aj 1) (f2 gu (fI 6) (aj 2))) ai))) (ae (fA aP (ae (fI 0) (ae (fC .non) ai))) ai))))))
  (aN (f2 bq (aj 3) (f2 bP (aj 0) (fI 8))))))
def g8:=aJ o4 3 1
def xZ:FS :=
  (az (aO 7 (f2 ci (f2 ci (C3 (fA bw (ae (fS "leave") ai)) (fI 5)) (C3 (fA bw (ae (fS "paper") ai)) (fI 2))) (fA bw (ae (fS "like") (ae (fS "copy") (ae (fS "copy") (ae (fS "call") (ae (fS "call") ai))))))))
  (az (aO 7 (f2 ci (aj 7) (fA bw (ae (fS "named") (ae (fS "death") (ae (fS "lost") (ae (fS "found") (ae (fS "chosen") (ae (fS "heir") ai)))))))))
  (az (aO 8 (f2 bq (aj 7) (f2 bP (aj 1) (fI 18))))
  (az (aO 9 (f2 bq (aj 5) (f2 zu (f1 lH (fI 1)) (f2 bP (f2 cV (aj 1) (fI 18)) (fA GZ (ae (fI 3) (ae (fA eJ (fV 5 ai)) ai)))))))
  (az (du (ba (f2 cP (f2 bP (f2 cV (aj 1) (fI 54)) (fI 6)) (fI 1))) (aO 9 (f2 bq (aj 3) (f2 bP (f2 cV (aj 1) (fI 324)) (fI 5)))) aY)
  (az (aO 10 (f2 bq (aj 3) (f2 bP (f2 cV (aj 1) (fI 1620)) (fI 5))))
  (az (aO 11 (fA GY (ae (fI 0) (ae (f2 zu (f2 zu (aj 0) (fI 1)) (f2 bP (aj 2) (fI 4))) ai))))
  (az (du (ba (f2 cP (f2 bP (f2 cV (aj 2) (fI 4)) (fI 8)) (fI 1))) (aO 11 (f2 bP (f2 cV (aj 2) (fI 32)) (fI 60))) aY)
  (az (du (ba (f2 cP (aj 8) (fS "leave"))) (az (aO 12 (f2 bq (fA bw (ae (fI 3) (ae (fI 1) (ae (fI 7) (ae (fI 2) (ae (fI 255) (ae (fI 5) (ae (fI 1) (ae (fI 3) ai))))))))) (f2 bP (f2 cV (aj 1) (fI 8100)) (fI 8))))
  (az (aO 13 (f2 bP (f2 cV (aj 2) (fI 256)) (f2 bq (fA bw (ae (fI 5) (ae (fI 5) (ae (fI 5) (ae (fI 10) ai))))) (f2 bP (f2 cV (aj 2) (fI 2560)) (fI 4)))))
  (aN (fA aP (fV 8 (fV 4 (fV 9 (fV 10 (fV 12 (ae (fA g8 (ae (f2 cV (aj 2) (fI 32)) (fV 4 (fV 6 ai)))) (fV 13 ai))))))))))) aY)
  (az (du (je (ba (f2 cP (aj 8) (fS "paper"))) (ba (f2 cP (aj 8) (fS "like")))) (az (aO 12 (f2 bq (fA bw (ae (fI 1) (ae (fI 1) (ae (fI 3) (ae (fI 2) (ae (fI 4) (ae (fI 5) (ae (fI 128) (ae (fI 7) ai))))))))) (f2 bP (f2 cV (aj 1) (fI 8100)) (fI 8))))
  (az (aO 14 (fA aP (fV 8 (fV 4 (fV 9 (fV 12 (ae (fA g8 (ae (f2 cV (aj 2) (fI 32)) (fV 4 (fV 6 ai)))) (ae (f2 bq (fA bw (ae (fC .non) (fV 10 ai))) (f2 bP (f2 cV (aj 2) (fI 256)) (fI 2))) ai))))))))
  (az (du (ba (f2 cP (aj 8) (fS "like"))) (aN (f2 AO (aj 14) (fA aP (fV 11 (ae (fA aP (ae (fA aP (ae (fI 0) (fV 10 ai))) ai)) ai))))) aY)
  (aN (f2 AO (aj 14) (fA aP (ae (fA aP (fV 10 ai)) ai))))))) aY)
  (az (du (ba (f2 sU (aj 8) (fA aP (ae (fS "copy") (ae (fS "call") ai))))) (aN (fA aP (fV 8 (fV 4 (fV 9 (fV 11 ai)))))) aY)
  (az (du (ba (f2 cP (aj 8) (fS "named"))) (aN (fA aP (fV 8 (fV 4 (ae (f2 bq (aj 3) (f2 ci (fI 5) (f2 bP (aj 2) (fI 2)))) (fV 10 ai)))))) aY)
  (az (du (ba (f2 cP (aj 8) (fS "chosen"))) (aN (fA aP (fV 8 (fV 4 (fV 9 (ae (f2 bq (aj 3) (f2 ci (fI 5) (f2 bP (aj 2) (fI 2)))) (fV 10 (ae (f2 ci (aj 4) (f2 gu (f2 bP (f2 cV (aj 2) (fI 32)) (fI 3)) (aj 6))) ai)))))))) aY)
  (az (du (ba (f2 cP (aj 8) (fS "heir"))) (aN (fA aP (fV 8 (fV 4 (fV 9 (ae (f2 bq (aj 3) (f2 ci (fI 5) (f2 bP (aj 2) (fI 2)))) (fV 10 ai))))))) aY)
  (aN (fA aP (fV 8 (fV 4 (fV 9 ai)))))))))))))))))))
def qC:=aJ xZ 7 8
def nO:FS :=
  (az (aO 8 (f2 bq (fA bw (ae (fS "open") (ae (fS "first") (ae (fS "last") ai)))) (f2 bP (f2 cV (aj 4) (f2 ci (fI 64) (f2 gu (fI 9) (aj 7)))) (fI 3))))
  (az (aO 9 (f2 bq (fA bw (ae (fI 7) (ae (fI 255) (ae (fI 3) (ae (fI 15) ai))))) (f2 bP (f2 cV (aj 4) (f2 ci (fI 2) (f2 gu (fI 8) (aj 7)))) (fI 4))))
  (az (aO 10 (f2 gu (f2 gu (fA z7 (ae (f2 cP (f2 bP (f2 cV (aj 4) (f2 ci (fI 512) (aj 7))) (fI 8)) (fI 1)) ai)) (fI 4)) (aj 2)))
  (az (aO 11 (f2 bP (f2 cV (aj 4) (f2 ci (fI 1024) (f2 gu (fI 5) (aj 7)))) (f2 bq (fA bw (ae (fI 5) (ae (fI 5) (ae (fI 10) ai)))) (f2 bP (f2 cV (aj 4) (f2 ci (fI 31) (aj 7))) (fI 3)))))
  (az (iP 5 (fA aP (fV 10 (ae (fA aP (ae (fS "root") (ae (f2 bq (aj 1) (f2 ci (fI 5) (aj 7))) (fV 9 (fV 11 (fV 8 ai)))))) ai))))
  (az (iP 5 (fA aP (ae (fI 0) (ae (fA aP (ae (fS "named") (ae (fI 0) (ae (f2 bq (aj 1) (f2 ci (fI 5) (aj 7))) (ae (f2 bq (aj 1) (aj 7)) ai))))) ai))))
  (iP 6 (f2 bq (aj 1) (aj 7)))))))))
def nQ:FS :=
  (az (aO 12 (fA dh (fV 0 (ae (f2 ci (fI 5) (aj 7)) ai))))
  (az (aO 13 (f2 gu (f2 ci (f2 cV (aj 7) (fI 2)) (f2 bP (f2 cV (aj 12) (fI 7)) (fI 3))) (aj 2)))
  (az (aO 14 (fA qC (ae (fA eJ (fV 5 ai)) (ae (fA dh (fV 0 (ae (f2 ci (fI 30) (aj 7)) ai))) (ae (fA dh (fV 0 (ae (f2 ci (fI 60) (aj 7)) ai))) (fV 1 (fV 13 (fV 6 (fV 2 ai)))))))))
  (az (du (ba (f2 sU (cA 14 0) (fA aP (ae (fS "leave") (ae (fS "named") ai))))) (iP 6 (cA 14 3)) aY)
  (az (du (ba (f2 cP (cA 14 0) (fS "chosen"))) (iP 6 (cA 14 4)) aY)
  (iP 5 (fA aP (ae (f2 ci (aj 13) (f2 gu (f2 bq (fA bw (ae (fI 0) (ae (fI 0) (ae (fI 0) (ae (fI 0) (ae (fI 1) (ae (fI 4) ai))))))) (f2 bP (f2 cV (aj 12) (fI 21)) (fI 6))) (aj 2))) (fV 14 ai)))))))))
def ya:FS :=
  (az (aO 4 (fA dh (fV 0 (ae (fI 1) ai))))
  (az (aO 5 (fA bw ai))
  (az (aO 6 (fA bw ai))
  (az (jO (fE (f2 ci (fI 1) (f2 bP (aj 4) (fI 2)))) (cQ 7) nO)
  (az (jO (fE (f2 ci (fI 3) (f2 bP (fA dh (fV 0 (ae (fI 2) ai))) (aj 3)))) (cQ 7) nQ)
  (aN (fA hZ (fV 5 ai))))))))
def qD:=aJ ya 4 11
def tP:FS :=
  (aN (f2 bq (cA 0 1) (fI 0)))
def aL:=aJ tP 1 0
def tQ:FS :=
  (aN (f2 bq (cA 0 1) (f2 ci (fI 1) (f2 (oZ gQ) (fA aL (fV 0 ai)) (aj 1)))))
def aq:=aJ tQ 2 0
def yc:FS :=
  (az (du (ba (f2 cP (fA aL (fV 0 ai)) (fS "root"))) (aN (fC .non)) aY)
  (aN (fA aq (fV 0 (ae (fS "day") ai)))))
def aS:=aJ yc 1 0
def Be:FS :=
  (aN (bI (Ee (aj 0)) 2 [1] (Jk [0,1]) (ba (f2 yV (cA 1 0) (aj 2))) (aj 0)))
def cG:=aJ Be 2 0
def ES:FS :=
  (aN (fA aP (ae (fA aS (ae (f2 bq (aj 0) (aj 1)) ai)) (fV 1 ai))))
def fj:=aJ ES 2 0
def qE:FS :=
  (az (aO 2 (bI (bQ (fA cG (fV 0 (fV 1 ai)))) 1 [0] (cQ 0) (ba (f2 gJ (fA aS (ae (f2 bq (aj 1) (aj 0)) ai)) (fC .non))) (aj 0)))
  (aN (qi (aj 2) (qg [0] (fA fj (fV 1 (fV 0 ai)))))))
def dY:=aJ qE 2 1
def o5:FS :=
  (aN (fA aP (ae (cA 0 0) (ae (cA 0 2) (ae (cA 0 4) ai)))))
def g9:=aJ o5 1 0
def Bf:FS :=
  (az (aO 2 (bI (bQ (fA cG (fV 0 (fV 1 ai)))) 1 [0] (cQ 0) fu (f2 bq (aj 1) (aj 0))))
  (aN (fA j8 (ae (bI (bQ (aj 2)) 1 [] (cQ 0) (ba (f2 cP (fA aL (fV 0 ai)) (fS "root"))) (fA aP (ae (fA aq (fV 0 (ae (fS "office") ai))) (fV 0 ai)))) ai))))
def fJ:=aJ Bf 2 1
def qF:FS :=
  (aN (jU (nB yV KH (fI 0) (aj 2) (fA eJ (fV 0 ai))) (f2 yV (f2 bq (f2 bq (aj 0) (aj 2)) (fI 0)) (aj 1))))
def cC:=aJ qF 3 0
def Bg:FS :=
  (aN (jU (f2 sU (fA aL (fV 0 ai)) (aj 1)) (jU (f2 cP (fA aq (fV 0 (ae (fS "person") ai))) (aj 2)) (f2 yV (fA aS (fV 0 ai)) (aj 3)))))
def p7:=aJ Bg 4 0
def tR:FS :=
  (aN (bI (bQ (fA cG (fV 0 (fV 1 ai)))) 1 [2,3,4,0] (cQ 0) (ba (fA p7 (ae (f2 bq (aj 4) (aj 0)) (fV 1 (fV 2 (fV 3 ai)))))) (aj 0)))
def gV:=aJ tR 5 0
def Bh:FS :=
  (aN (f2 cP (fA eJ (ae (fA gV (fV 0 (fV 1 (ae (fA aP (ae (fS "death") ai)) (fV 2 (fV 3 ai)))))) ai)) (fI 0)))
def mF:=aJ Bh 4 0
def qG:FS :=
  (az (aO 4 (fA gV (fV 0 (fV 1 (ae (fA aP (ae (fS "lost") (ae (fS "found") ai))) (fV 2 (fV 3 ai)))))))
  (az (du (ba (f2 cP (fA eJ (fV 4 ai)) (fI 0))) (aN (fC (.bl true))) aY)
  (aN (f2 cP (fA aL (ae (f2 bq (aj 0) (tG (aj 4) (qg [0] (fA fj (fV 1 (fV 0 ai)))))) ai)) (fS "found")))))
def lQ:=aJ qG 4 1
def qH:FS :=
  (az (du (je (eM (ba (fA cC (fV 0 (fV 1 (fV 2 ai)))))) (ba (f2 hW (fA aL (ae (f2 bq (aj 0) (aj 2)) ai)) (fC ie)))) (aN (fC (.bl false))) aY)
  (az (aO 3 (fA aq (ae (f2 bq (aj 0) (aj 2)) (ae (fS "by") ai))))
  (az (aO 4 (fA aS (ae (f2 bq (aj 0) (aj 2)) ai)))
  (aN (jU (fA mF (fV 0 (fV 1 (fV 3 (fV 4 ai))))) (fA lQ (fV 0 (fV 1 (fV 3 (fV 4 ai))))))))))
def dZ:=aJ qH 3 2
def tS:FS :=
  (aN (jU (f2 yV (cA 1 0) (aj 0)) (K8 (f2 A6 (cA 1 1) (fC .non)) (f2 KH (aj 0) (cA 1 1)))))
def jn:=aJ tS 2 0
def qI:FS :=
  (aN (fA jn (fV 1 (ae (fA aP (ae (cA 0 2) (ae (cA 0 3) ai))) ai))))
def cS:=aJ qI 2 0
def qJ:FS :=
  (aN (fA aP (ae (cA 0 2) (ae (cA 0 4) ai))))
def dA:=aJ qJ 1 0
def qK:FS :=
  (az (du (ba (f2 cP (aj 1) (fS "last"))) (aN (f2 bq (tG (aj 0) (rY dA)) (fI 1))) aY)
  (aN (f2 bq (tH (aj 0) (rY dA)) (fI 1))))
def lR:=aJ qK 2 0
def o6:FS :=
  (az (aO 3 (bI (bQ (aj 0)) 1 [2,1] (cQ 0) (eK (ba (f2 cP (cA 0 0) (fA aq (fV 2 (ae (fS "office") ai))))) (ba (fA cS (fV 0 (fV 1 ai))))) (aj 0)))
  (az (aO 4 (f1 eU (bI (bQ (aj 3)) 1 [] (cQ 0) fu (cA 0 1))))
  (az (du (ba (f2 cP (fA eJ (fV 4 ai)) (fI 0))) (aN (fA aP (ae (fS "none") ai))) aY)
  (az (du (eK (ba (f2 Ax (fA eJ (fV 4 ai)) (fI 1))) (ba (f2 cP (fA aq (fV 1 (ae (fS "rule") ai))) (fS "open")))) (aN (fA aP (ae (fS "parted") (fV 4 ai)))) aY)
  (az (aO 5 (fA lR (fV 3 (ae (fA aq (fV 1 (ae (fS "rule") ai))) ai))))
  (az (aO 6 (tH (bI (bQ (aj 3)) 1 [5] (cQ 0) (ba (f2 cP (cA 0 1) (aj 1))) (aj 0)) (rY dA)))
  (aN (fA aP (ae (fS "one") (fV 5 (ae (cA 6 4) ai)))))))))))
def eA:=aJ o6 3 4
def mG:FS :=
  (aN (f2 cP (DY (fA eA (fV 0 (fV 1 (fV 3 ai)))) ls (kh (fI 2))) (fA aP (ae (fS "one") (fV 2 ai)))))
def cM:=aJ mG 4 0
def jo:FS :=
  (az (aO 3 (f2 bq (aj 0) (aj 2)))
  (az (aO 4 (fA gV (fV 0 (fV 1 (ae (fA aP (ae (fS "death") ai)) (ae (fA aq (fV 3 (ae (fS "person") ai))) (ae (fA aS (fV 3 ai)) ai)))))))
  (aN (f2 cP (tH (aj 4) (qg [0] (fA fj (fV 1 (fV 0 ai))))) (aj 2)))))
def gd:=aJ jo 3 2
def ye:FS :=
  (az (aO 4 (f2 bq (aj 0) (aj 3)))
  (az (du (ba (f2 cP (fA aL (fV 4 ai)) (fS "death"))) (aN (fA gd (fV 0 (fV 1 (fV 3 ai))))) aY)
  (az (du (ba (f2 hW (fA aL (fV 4 ai)) (fA aP (ae (fS "named") (ae (fS "chosen") (ae (fS "heir") ai)))))) (aN (fC (.bl false))) aY)
  (az (aO 5 (f2 E2 (fA fJ (fV 0 (fV 1 ai))) (fA aq (fV 4 (ae (fS "office") ai)))))
  (az (du (ba (f2 A6 (aj 5) (fC .non))) (aN (fC (.bl false))) aY)
  (az (du (ba (f2 cP (fA aL (fV 4 ai)) (fS "named"))) (aN (fC (.bl true))) aY)
  (aN (jU (fA dZ (fV 0 (fV 1 (fV 3 ai)))) (fA cM (fV 2 (fV 5 (ae (fA aq (fV 4 (ae (fS "by") ai))) (ae (fA aS (fV 4 ai)) ai)))))))))))))
def mH:=aJ ye 4 2
def o7:FS :=
  (aN (fA aP (ae (fA aq (fV 0 (ae (fS "office") ai))) (ae (fA aq (fV 0 (ae (fS "person") ai))) (fV 1 (ae (fC .non) (fV 2 ai)))))))
def gA:=aJ o7 3 0
def qL:FS :=
  (du (je (ba (f2 hW (cA 5 0) (aj 1))) (je (ba (f2 pv (cA 5 1) (aj 2))) (eM (je (ba (fA cS (fV 5 (fV 3 ai)))) (ba (f2 Ax (cA 5 2) (aj 3))))))) (iP 4 (aj 5)) (du (ba (f2 KH (cA 5 2) (aj 3))) (iP 4 (fA aP (ae (cA 5 0) (fV 2 (ae (cA 5 2) (fV 3 (ae (cA 5 4) ai))))))) aY))
def Bi:FS :=
  (az (aO 4 (fA bw ai))
  (az (rR (bQ (aj 0)) (cQ 5) qL)
  (jf 4)))
def p8:=aJ Bi 4 2
def k8:FS :=
  (az (aO 3 (fA aq (fV 1 (ae (fS "since") ai))))
  (az (aO 4 (fA p8 (fV 0 (ae (fA bw (ae (fA aq (fV 1 (ae (fS "office") ai))) ai)) (ae (fA aq (fV 1 (ae (fS "by") ai))) (fV 3 ai))))))
  (aN (f2 ci (aj 4) (fA bw (ae (fA gA (fV 1 (fV 3 (fV 2 ai)))) ai))))))
def ig:=aJ k8 3 2
def gR:FS :=
  (az (aO 9 (EA (aj 3) (fV 8 (fV 5 ai))))
  (du (eK (ba (f2 gJ (aj 9) (fC .non))) (ba (fA mF (fV 0 (fV 1 (fV 9 (fV 6 ai))))))) (iP 7 (fA aP (fV 8 (fV 9 (fV 6 (ae (fC .non) (fV 4 ai))))))) aY))
def o8:FS :=
  (az (aO 5 (fA aq (ae (f2 bq (aj 0) (aj 4)) (ae (fS "person") ai))))
  (az (aO 6 (fA aS (ae (f2 bq (aj 0) (aj 4)) ai)))
  (az (aO 7 (fA bw ai))
  (az (Qf [5,6] (rR (bQ (f1 eU (bI (bQ (aj 2)) 1 [5,6] (cQ 0) (eK (ba (f2 cP (cA 0 1) (aj 1))) (ba (fA cS (fV 0 (fV 2 ai))))) (cA 0 0)))) (cQ 8) gR))
  (jf 7)))))
def k9:=aJ o8 5 5
def ly:FS :=
  (az (aO 5 (bI (bQ (aj 2)) 1 [] (cQ 0) fu (cA 0 0)))
  (az (aO 6 (fA p8 (fV 2 (fV 5 (ae (fA aq (ae (f2 bq (aj 0) (aj 4)) (ae (fS "person") ai))) (ae (fA aS (ae (f2 bq (aj 0) (aj 4)) ai)) ai))))))
  (aN (f2 ci (aj 6) (fA k9 (fV 0 (fV 1 (fV 2 (fV 3 (fV 4 ai))))))))))
def iU:=aJ ly 5 2
def la:FS :=
  (az (aO 5 (f2 bq (aj 0) (aj 4)))
  (az (du (eM (ba (fA mH (fV 0 (fV 1 (fV 2 (fV 4 ai))))))) Jm aY)
  (du (ba (f2 cP (fA aL (fV 5 ai)) (fS "named"))) (aO 2 (f2 ci (aj 2) (fA bw (ae (fA gA (fV 5 (ae (fA aS (fV 5 ai)) (fV 4 ai)))) ai)))) (du (ba (f2 cP (fA aL (fV 5 ai)) (fS "chosen"))) (aO 2 (fA ig (fV 2 (fV 5 (fV 4 ai))))) (du (ba (f2 cP (fA aL (fV 5 ai)) (fS "heir"))) (tK 3 (ae (fA aq (fV 5 (ae (fS "office") ai))) (ae (fA aq (fV 5 (ae (fS "by") ai))) ai)) (fA aq (fV 5 (ae (fS "person") ai)))) (aO 2 (fA iU (fV 0 (fV 1 (fV 2 (fV 3 (fV 4 ai))))))))))))
def yf:FS :=
  (az (aO 2 (fA bw ai))
  (az (E4 3)
  (az (rR (bQ (fA dY (fV 0 (fV 1 ai)))) (cQ 4) la)
  (aN (qi (aj 2) (rY g9))))))
def jp:=aJ yf 2 4
def qM:FS :=
  (aN (jU (fA cC (fV 0 (fV 1 (fV 2 ai)))) (f2 sU (fA aL (ae (f2 bq (aj 0) (aj 2)) ai)) (fC xX))))
def fm:=aJ qM 3 0
def qN:FS :=
  (aN (jU (fA cC (fV 0 (fV 1 (fV 2 ai)))) (f2 cP (fA aL (ae (f2 bq (aj 0) (aj 2)) ai)) (fS "leave"))))
def ge:=aJ qN 3 0
def qO:FS :=
  (aN (K8 (fA ge (fV 0 (fV 1 (fV 2 ai)))) (fA fm (fV 0 (fV 1 (fV 2 ai))))))
def eB:=aJ qO 3 0
def qP:FS :=
  (aN (f2 cP (f2 MY (aj 0) (aj 1)) (aj 1)))
def ii:=aJ qP 2 0
def o9:FS :=
  (az (du (eM (ba (fA ii (ae (fA aq (fV 1 (ae (fS "matters") ai))) (ae (fA aq (fV 0 (ae (fS "matters") ai))) ai))))) (aN (fS "matters")) aY)
  (az (du (eK (ba (f2 cP (fA aL (fV 0 ai)) (fS "leave"))) (ba (f2 PV (fA aq (fV 0 (ae (fS "further") ai))) (fA aq (fV 1 (ae (fS "further") ai)))))) (aN (fS "further")) aY)
  (aN (fC .non))))
def iK:=aJ o9 2 0
def mI:FS :=
  (az (du (eM (ba (fA cM (fV 0 (fV 2 (ae (fA aq (fV 1 (ae (fS "by") ai))) (ae (fA aS (fV 1 ai)) ai))))))) (aN (fS "holder")) aY)
  (aN (fA iK (fV 1 (fV 2 ai)))))
def fK:=aJ mI 3 0
def kB:FS :=
  (az (aO 4 (f2 bq (aj 0) (aj 3)))
  (az (aO 5 (bI (qw (fA fJ (fV 0 (fV 1 ai)))) 1 [2,4] (cQ 0) (ba (f2 A6 (fA fK (fV 1 (fV 2 (fV 0 ai)))) (fC .non))) (aj 0)))
  (aN (bI (bQ (aj 5)) 1 [2,4] (cQ 0) fu (fA aP (ae (fS "office") (ae (fA aq (fV 0 (ae (fS "office") ai))) (ae (f2 bq (fA eA (fV 1 (fV 0 (ae (fA aS (fV 2 ai)) ai)))) (fI 2)) ai))))))))
def ij:=aJ kB 4 2
def lz:FS :=
  (az (du (ba (f2 A6 (aj 1) (fC .non))) (aN (fC (.bl true))) aY)
  (aN (jU (f2 gJ (aj 0) (fC .non)) (f2 yV (aj 0) (aj 1)))))
def iV:=aJ lz 2 0
def oA:FS :=
  (aN (jU (f2 yV (cA 1 0) (cA 0 0)) (fA iV (ae (cA 0 1) (ae (cA 1 1) ai)))))
def iL:=aJ oA 2 0
def qQ:FS :=
  (aN (f2 JP (fA fj (fV 0 (fV 1 ai))) (fA fj (fV 0 (fV 2 ai)))))
def gf:=aJ qQ 3 0
def oB:FS :=
  (az (aO 3 (f2 bq (aj 0) (aj 1)))
  (az (aO 4 (fA aq (ae (f2 bq (aj 0) (aj 2)) (ae (fS "stretch") ai))))
  (az (du (eM (ba (fA gf (fV 0 (fV 2 (fV 1 ai)))))) (aN (fS "order")) aY)
  (az (du (je (eM (ba (fA jn (ae (fA aS (fV 3 ai)) (fV 4 ai))))) (eM (ba (fA iL (ae (fA aq (fV 3 (ae (fS "stretch") ai))) (fV 4 ai)))))) (aN (fS "days")) aY)
  (aN (fA iK (fV 3 (ae (f2 bq (aj 0) (aj 2)) ai))))))))
def gB:=aJ oB 3 2
def oC:FS :=
  (az (aO 3 (bI (bQ (fA cG (fV 0 (fV 1 ai)))) 1 [0,1] (cQ 0) (ba (fA ge (fV 1 (fV 2 (fV 0 ai))))) (aj 0)))
  (aN (bI (bQ (aj 3)) 1 [2,0] (cQ 0) (ba (f2 cP (fA aq (ae (f2 bq (aj 2) (aj 0)) (ae (fS "person") ai))) (aj 1))) (aj 0))))
def iM:=aJ oC 3 1
def l5:FS :=
  (az (aO 3 (fA iM (fV 0 (fV 1 (ae (fA aq (ae (f2 bq (aj 0) (aj 2)) (ae (fS "by") ai))) ai)))))
  (aN (bI (bQ (aj 3)) 1 [0,2] (cQ 0) (ba (f2 A6 (fA gB (fV 1 (fV 2 (fV 0 ai)))) (fC .non))) (fA aP (ae (fS "leave") (fV 0 ai))))))
def iW:=aJ l5 3 1
def mJ:FS :=
  (az (aO 3 (fA aq (ae (f2 bq (aj 0) (aj 2)) (ae (fS "of") ai))))
  (az (du (eK (ba (fA fm (fV 0 (fV 1 (fV 3 ai))))) (ba (fA gf (fV 0 (fV 3 (fV 2 ai)))))) (aN (fA bw (ae (fA aP (ae (fS "copy") (fV 3 ai))) ai))) aY)
  (aN (fA bw ai))))
def jA:=aJ mJ 3 1
def qR:FS :=
  (az (du (eM (ba (fA eB (fV 0 (fV 1 (fV 3 ai)))))) (aN (fA bw ai)) aY)
  (az (du (ba (f2 cP (fA aL (ae (f2 bq (aj 0) (aj 3)) ai)) (fS "copy"))) (aN (fA jA (fV 0 (fV 1 (fV 3 ai))))) aY)
  (az (aO 4 (f2 ci (fA ij (fV 0 (fV 1 (fV 2 (fV 3 ai))))) (fA iW (fV 0 (fV 1 (fV 3 ai))))))
  (aN (zO (aj 4) (qg [] (fA aP (ae (f2 bq (aj 0) (f1 lH (fI 1))) (fV 0 ai)))))))))
def eC:=aJ qR 4 1
def Bj:FS :=
  (aN (fA eC (fV 0 (fV 1 (ae (fA jp (fV 0 (fV 1 ai))) (fV 2 ai))))))
def gt:=aJ Bj 3 0
def qS:FS :=
  (az (aO 5 (f2 bq (aj 0) (aj 4)))
  (az (aO 6 (fA aq (ae (f2 bq (aj 0) (aj 3)) (ae (fS "by") ai))))
  (az (du (ba (f2 cP (aj 6) (fA aq (fV 5 (ae (fS "by") ai))))) (aN (fC (.bl true))) aY)
  (az (du (ba (f2 cP (fA aL (fV 5 ai)) (fS "copy"))) (aN (fC (.bl false))) aY)
  (az (aO 7 (bI (qw (fA fJ (fV 0 (fV 1 ai)))) 1 [5] (cQ 0) (ba (fA ii (ae (fA aq (fV 0 (ae (fS "matters") ai))) (ae (fA aq (fV 1 (ae (fS "matters") ai))) ai)))) (aj 0)))
  (aN (fA DV (ae (bI (bQ (aj 7)) 1 [2,6,0,3] (cQ 0) fu (fA cM (fV 1 (fV 0 (fV 2 (ae (fA aS (ae (f2 bq (aj 3) (aj 4)) ai)) ai)))))) ai))))))))
def lS:=aJ qS 5 3
def qT:FS :=
  (az (aO 6 (f2 bq (aj 0) (aj 3)))
  (az (du (je (ba (f2 pv (fA aL (fV 6 ai)) (fS "call"))) (je (ba (f2 pv (fA aq (fV 6 (ae (fS "of") ai))) (aj 4))) (ba (f2 Ax (fA aS (fV 6 ai)) (aj 5))))) (aN (fC (.bl false))) aY)
  (aN (jU (fA dZ (fV 0 (fV 1 (fV 3 ai)))) (fA lS (fV 0 (fV 1 (fV 2 (fV 3 (fV 4 ai))))))))))
def jB:=aJ qT 6 1
def qU:FS :=
  (az (du (eM (ba (fA eB (fV 0 (fV 1 (fV 3 ai)))))) (aN (fA bw ai)) aY)
  (aN (bI (bQ (fA cG (fV 0 (fV 1 ai)))) 1 [0,1,2,3,4] (cQ 0) (ba (fA jB (fV 1 (fV 2 (fV 3 (fV 0 (fV 4 (fV 5 ai)))))))) (aj 0))))
def jC:=aJ qU 5 0
def yg:FS :=
  (az (du (je (eM (ba (fA dZ (fV 0 (fV 1 (fV 3 ai)))))) (ba (f2 Ax (fA aS (ae (f2 bq (aj 0) (aj 3)) ai)) (aj 4)))) (aN (fC (.bl false))) aY)
  (aN (f2 cP (fA eJ (ae (fA jC (fV 0 (fV 1 (fV 2 (fV 3 (fV 4 ai)))))) ai)) (fI 0))))
def mK:=aJ yg 5 0
def yh:FS :=
  (du (eK (ba (fA eB (fV 0 (fV 1 (fV 5 ai))))) (ba (fA mK (fV 0 (fV 1 (fV 3 (fV 5 (fV 2 ai)))))))) (qy 4 (aj 5) (fA eC (fV 0 (fV 1 (fV 3 (fV 5 ai)))))) aY)
def Bk:FS :=
  (az (wQ 3 (fA jp (fV 0 (fV 1 ai))))
  (az (AS 4)
  (az (rR (bQ (fA dY (fV 0 (fV 1 ai)))) (cQ 5) yh)
  (jf 4))))
def jD:=aJ Bk 3 3
def Bl:FS :=
  (aN (K8 (f2 cP (cA 0 0) (fS "office")) (f2 Df (cA 0 1) (aj 1))))
def jE:=aJ Bl 2 0
def yi:FS :=
  (du (ba (fA DV (ae (bI (bQ (aj 3)) 1 [1] (cQ 0) fu (fA jE (fV 0 (fV 1 ai)))) ai))) (xQ 1 (aj 2) (fC (.bl true))) aY)
def Bm:FS :=
  (az (AS 1)
  (az (rR (AY (aj 0)) (Jk [2,3]) yi)
  (jf 1)))
def jF:=aJ Bm 1 3
def kE:FS :=
  (aN (f2 bq (bI (bQ (aj 0)) 1 [1] (cQ 0) (ba (fA jE (fV 0 (fV 1 ai)))) (aj 0)) (fI 0)))
def di:=aJ kE 2 0
def kF:FS :=
  (az (iP 6 (cA 7 1))
  (aO 7 (fA di (ae (f2 Cz (aj 4) (cA 7 1)) (fV 5 ai)))))
def Bn:FS :=
  (az (aO 4 (fA jD (fV 0 (fV 1 (fV 2 ai)))))
  (az (aO 5 (fA jF (fV 4 ai)))
  (az (du (ba (f2 qo (aj 3) (aj 5))) (aN (fC .non)) aY)
  (az (aO 6 (fA bw (fV 3 ai)))
  (az (aO 7 (fA di (ae (f2 Cz (aj 4) (aj 3)) (fV 5 ai))))
  (az (fX (ba (f2 pv (cA 7 0) (fS "office"))) kF 1000)
  (az (iP 6 (cA 7 2))
  (aN (f1 HG (aj 6))))))))))
def lb:=aJ Bn 4 4
def qV:FS :=
  (aN (f2 sU (aj 1) (bI (bQ (aj 0)) 1 [] (cQ 0) (ba (f2 cP (cA 0 0) (fS "office"))) (cA 0 2))))
def jG:=aJ qV 2 0
def oD:FS :=
  (aN (f2 sU (aj 1) (bI (bQ (aj 0)) 1 [] (cQ 0) (ba (f2 pv (cA 0 0) (fS "office"))) (cA 0 1))))
def iN:=aJ oD 2 0
def qW:FS :=
  (az (aO 4 (fA jD (fV 0 (fV 1 (fV 2 ai)))))
  (az (du (je (ba (f2 KH (fA eJ (fV 3 ai)) (fI 2))) (eM (ba (fA DU (ae (bI (bQ (DY (aj 3) (kh (fI 1)) ls)) 1 [4] (cQ 0) fu (f2 Df (aj 0) (aj 1))) ai))))) (aN (fC (.bl false))) aY)
  (az (du (eM (ba (fA jG (ae (f2 Cz (aj 4) (cA 3 1)) (ae (cA 3 0) ai))))) (aN (fC (.bl false))) aY)
  (aN (fA DU (ae (bI (EN (DY (aj 3) (kh (fI 1)) ls) (DY (aj 3) (kh (fI 2)) ls)) 2 [4] (Jk [0,1]) fu (fA iN (ae (f2 Cz (aj 2) (aj 1)) (fV 0 ai)))) ai))))))
def jH:=aJ qW 4 1
def Bo:FS :=
  (aN (fA jC (fV 0 (fV 1 (ae (fA jp (fV 0 (fV 1 ai))) (fV 2 (fV 3 ai)))))))
def wb:=aJ Bo 4 0
def jQ:FS :=
  (az (aO 3 (f2 bq (aj 0) (aj 2)))
  (az (aO 4 (fA jp (fV 0 (fV 1 ai))))
  (az (aO 5 (fA fJ (fV 0 (fV 1 ai))))
  (az (aO 6 (f1 eU (bI (bQ (aj 4)) 1 [3] (cQ 0) (ba (f2 cP (cA 0 1) (fA aq (fV 1 (ae (fS "by") ai))))) (cA 0 0))))
  (aN (bI (bQ (aj 6)) 1 [4,3,5] (cQ 0) fu (fA aP (ae (fS "office") (fV 0 (ae (fA fK (fV 1 (fV 2 (ae (f2 Cz (aj 3) (aj 0)) ai)))) ai))))))))))
def eX:=aJ jQ 3 4
def l7:FS :=
  (az (aO 3 (fA gB (fV 0 (fV 1 (fV 2 ai)))))
  (aN (fA aP (ae (fS "leave") (fV 2 (ae (GD (ba (f2 A6 (aj 3) (fC .non))) (fS "falls") (aj 3)) ai))))))
def l8:=aJ l7 3 1
def kG:FS :=
  (az (aO 3 (fA iM (fV 0 (fV 1 (ae (fA aq (ae (f2 bq (aj 0) (aj 2)) (ae (fS "by") ai))) ai)))))
  (aN (bI (bQ (aj 3)) 1 [0,2] (cQ 0) fu (fA l8 (fV 1 (fV 2 (fV 0 ai)))))))
def fL:=aJ kG 3 1
def mL:FS :=
  (az (aO 3 (GD (ba (f2 cP (fA eJ (ae (fA gt (fV 0 (fV 1 (fV 2 ai)))) ai)) (fI 0))) (fS "none") (fS "falls")))
  (aN (fA aP (ae (fS "copy") (ae (fA aq (ae (f2 bq (aj 0) (aj 2)) (ae (fS "of") ai))) (fV 3 ai))))))
def jI:=aJ mL 3 1
def lA:FS :=
  (az (du (ba (f2 cP (fA aL (ae (f2 bq (aj 0) (aj 2)) ai)) (fS "copy"))) (aN (fA bw (ae (fA jI (fV 0 (fV 1 (fV 2 ai)))) ai))) aY)
  (az (aO 3 (f2 ci (fA eX (fV 0 (fV 1 (fV 2 ai)))) (fA fL (fV 0 (fV 1 (fV 2 ai))))))
  (az (du (ba (f2 cP (fA eJ (fV 3 ai)) (fI 0))) (aN (fA bw (ae (fA aP (ae (fS "none") ai)) ai))) aY)
  (jf 3))))
def iX:=aJ lA 3 1
def yj:FS :=
  (az (du (ba (f2 Df (aj 3) (fA jF (ae (fA jD (fV 0 (fV 1 (fV 2 ai)))) ai)))) (aN (fA bw ai)) aY)
  (az (du (ba (f2 Ax (fA aS (ae (f2 bq (aj 0) (aj 3)) ai)) (aj 2))) (aN (fA bw (ae (fA aP (ae (fS "early") ai)) ai))) aY)
  (az (du (eM (ba (fA dZ (fV 0 (fV 1 (fV 3 ai)))))) (aN (fA bw (ae (fA aP (ae (fS "seal") ai)) ai))) aY)
  (az (aO 4 (fA wb (fV 0 (fV 1 (fV 3 (fV 2 ai))))))
  (az (du (ba (f2 Ax (fA eJ (fV 4 ai)) (fI 0))) (aN (fA bw (ae (fA aP (ae (fS "called") (ae (cA 4 0) ai))) ai))) aY)
  (aN (fA iX (fV 0 (fV 1 (fV 3 ai))))))))))
def im:=aJ yj 4 1
def tT:FS :=
  (aN (bI (bQ (aj 0)) 1 [] (cQ 0) (ba (f2 cP (f2 bq (aj 0) (f1 lH (fI 1))) (fS "falls"))) (cA 0 1)))
def cJ:=aJ tT 1 0
def nR:FS :=
  (az (aO 6 (fA cJ (ae (fA im (fV 0 (fV 1 (fV 2 (fV 4 ai))))) ai)))
  (az (du (ba (f2 cP (aj 6) (fA bw ai))) (aN (fC (.bl true))) aY)
  (az (aO 7 (f2 bq (aj 6) (f1 lH (fI 1))))
  (az (du (je (ba (f2 IM (fA aP (ae (f2 bq (f2 bq (f2 bq (aj 0) (aj 7)) (fI 1)) (fI 1)) (fV 7 ai))) (fA aP (ae (f2 bq (f2 bq (f2 bq (aj 0) (aj 4)) (fI 1)) (fI 1)) (fV 4 ai))))) (ba (f2 gJ (fA lb (fV 0 (fV 1 (fV 2 (fV 7 ai))))) (fC .non)))) (aN (fC (.bl false))) aY)
  (aO 4 (aj 7))))))
def yk:FS :=
  (az (aO 4 (aj 3))
  (az (jO (fE (fA eJ (fV 0 ai))) (cQ 5) nR)
  (aN (fC (.bl false)))))
def mM:=aJ yk 4 4
def tU:FS :=
  (az (aO 4 (fA lb (fV 0 (fV 1 (fV 2 (fV 3 ai))))))
  (az (aO 5 (fA im (fV 0 (fV 1 (fV 2 (fV 3 ai))))))
  (az (du (ba (f2 gJ (aj 4) (fC .non))) (aN (jU (f2 cP (aj 5) (fA bw ai)) (fA jH (fV 0 (fV 1 (fV 2 (fV 4 ai))))))) aY)
  (az (du (eK (ba (f2 pv (aj 5) (fA bw ai))) (ba (f2 sU (f2 bq (cA 5 0) (fI 0)) (fA aP (ae (fS "early") (ae (fS "seal") (ae (fS "called") ai))))))) (aN (f2 cP (fA eJ (fV 5 ai)) (fI 1))) aY)
  (az (du (ba (f2 pv (fA cJ (fV 5 ai)) (bI (bQ (fA gt (fV 0 (fV 1 (fV 3 ai))))) 1 [] (cQ 0) fu (f2 bq (aj 0) (f1 lH (fI 1)))))) (aN (fC (.bl false))) aY)
  (aN (fA mM (fV 0 (fV 1 (fV 2 (fV 3 ai)))))))))))
def lf:=aJ tU 4 2
def ET:FS :=
  (du (eK (ba (f2 yV (f2 bq (f2 bq (aj 3) (aj 6)) (fI 0)) (aj 4))) (ba (f2 sU (f2 bq (f2 bq (f2 bq (aj 3) (aj 6)) (fI 1)) (fI 0)) (fA aP (ae (fS "leave") (ae (fS "paper") (ae (fS "like") (ae (fS "copy") ai)))))))) (du (eM (ba (fA lf (fV 3 (fV 4 (fV 5 (fV 6 ai))))))) (aN (fC (.bl false))) aY) aY)
def Jr:FS :=
  (az (aO 1 (fA nN (ae (fA dh (fV 0 (ae (fI 0) ai))) ai)))
  (az (aO 2 (f2 bq (fA bw (ae (fI 1) (ae (fI 1) (ae (fI 500) ai)))) (f2 bP (fA dh (fV 0 (ae (fI 3) ai))) (fI 3))))
  (az (aO 3 (fA qD (fV 0 (fV 1 (fV 2 (ae (fI 10) ai))))))
  (az (aO 4 (f2 bq (fA bw (ae (fI 9999) (ae (f2 gu (f2 bP (f2 cV (fA dh (fV 0 (ae (fI 3) ai))) (fI 3)) (fI 13)) (aj 2)) ai))) (f2 cV (f2 bP (fA dh (fV 0 (ae (fI 4) ai))) (fI 3)) (fI 2))))
  (az (aO 5 (f2 bq (fA bw (ae (fI 9999) (ae (f2 gu (f2 bP (f2 cV (fA dh (fV 0 (ae (fI 90) ai))) (fI 2)) (fI 13)) (aj 2)) ai))) (f2 bP (fA dh (fV 0 (ae (fI 90) ai))) (fI 2))))
  (az (jO (fE (fA eJ (fV 3 ai))) (cQ 6) ET)
  (aN (fC (.bl true)))))))))
def F_law:=aJ Jr 1 6
end Lw
namespace DL
open PySem L2
theorem io:∀(n m:Nat)(d:D),n<=m->aI n d=true->aI m d=true
 |n,m,.non,_,_=>by simp
 |n,m,.bl _,_,_=>by simp
 |n,m,.int _,_,_=>by simp
 |n,m,.str _,_,_=>by simp
 |n,m,.ty _,_,h=>by cases n<;>simp[aI]at h
 |n,m,.dk _ _,_,h=>by simp at h
 |n,m,.dt _ _,_,h=>by simp at h
 |0,m,.tup _,_,h=>by simp[aI]at h
 |0,m,.lst _,_,h=>by simp[aI]at h
 |n+1,0,_,h,_=>by omega
 |n+1,m+1,.tup ds,hl,h=>by
  simp only[aI,List.all_eq_true]at h ⊢;exact λd hd=>io n m d (by omega) (h d hd)
 |n+1,m+1,.lst ds,hl,h=>by
  simp only[aI,List.all_eq_true]at h ⊢;exact λd hd=>io n m d (by omega) (h d hd)
theorem nU:∀(ds:List D),(∀d∈ds,cW d d=true)->fQ ds ds=true
 |[],_=>by simp only[fQ]
 |d::ds,h=>by
  simp only[fQ,h d mX,Bool.true_and];exact nU ds λe he=>h e (mZ _ he)
theorem qX:∀(n:Nat)(d:D),aI n d=true->cW d d=true
 |n,.non,_=>by simp
 |n,.bl _,_=>by simp
 |n,.int _,_=>by simp
 |n,.str _,_=>by simp
 |n,.ty _,h=>by cases n<;>simp[aI]at h
 |n,.dk _ _,h=>by simp at h
 |n,.dt _ _,h=>by simp at h
 |0,.tup _,h=>by simp[aI]at h
 |0,.lst _,h=>by simp[aI]at h
 |n+1,.tup ds,h=>by
  simp only[aI,List.all_eq_true]at h;simp only[cW];exact nU ds λd hd=>qX n d (h d hd)
 |n+1,.lst ds,h=>by
  simp only[aI,List.all_eq_true]at h;simp only[cW];exact nU ds λd hd=>qX n d (h d hd)
end DL
namespace DL
@[simp] noncomputable abbrev sF (d:D):OB:=some (d,false)
@[simp] noncomputable abbrev lT (ds:List D):OB:=some (.lst ds,true)
@[simp] noncomputable abbrev sI (x:Int):OB:=some (.int x,false)
@[simp] noncomputable abbrev sS (x:PySem.Str):OB:=some (.str x,false)
@[simp] noncomputable abbrev sT (x:List D):OB:=some (.tup x,false)
@[simp] noncomputable abbrev sL (x:List D):OB:=some (.lst x,false)
@[simp] noncomputable abbrev sO (x:Bool):OB:=some (.bl x,false)
def cu {r:OB}{d:D}{b:Bool}(h:OV r d b=true:=by decide +kernel):r=some (d,b):=EO h
def NK {r:OB}{d:D}{b:Bool}(h:OV r d b=true:=by rfl):r=some (d,b):=EO h
def cN {p q:Prop}[Decidable p](h:p)(n:decide p=false:=by decide +kernel):q:=absurd h (of_decide_eq_false n)
end DL
namespace Lw
open PySem DL L2
def qY (d:D)(r:List D):lG (d::r) 0=some d:=by have:=k6 (xs:=d::r) (j:=0) (by simp);simpa using this
def yY (d e:D)(r:List D):lG (d::e::r) 1=some e:=by have:=k6 (xs:=d::e::r) (j:=1) (by simp);simpa using this
def Se (d e f:D)(r:List D):lG (d::e::f::r) 2=some f:=by have:=k6 (xs:=d::e::f::r) (j:=2) (by simp);simpa using this
noncomputable def cY (k:Str):Bool:=decide (k = "death") || decide (k = "lost") || decide (k = "found")
noncomputable def eD (k:Str):Bool:=decide (k = "chosen") || decide (k = "heir") || decide (k = "leave") || decide (k = "paper") || decide (k = "like") || decide (k = "copy") || decide (k = "call")
structure DeedP (kind:Str)(aF:List D):Prop where
 flat:bF aF=true
 plain:aF.all (aI 5)=true
 three:cY kind=true->∃(day:Int)(p:Str),aF=[.int day,.str p]
 slg:eD kind=true->∃(day:Int)(p:Str)(r:List D),aF=.int day::.str p::r
noncomputable def row (h:Int)(kind:Str)(aF:List D):D:=.tup [.int h,.tup (.str kind::aF)]
def nV (r:D):Prop:=∃h kind aF,r=row h kind aF/\DeedP kind aF
def nV.flat (h:nV r):bj r=true:=by obtain⟨a,k,aF,rfl,dp⟩:=h;simp[row,dp.flat]
def nV.plain (h:nV r):aI 39 r=true:=by
 obtain⟨a,k,aF,rfl,dp⟩:=h;refine io 7 39 _ (by decide) ?_;have:=dp.plain;simp only[row,aI,List.all_cons,List.all_nil,Bool.and_true,Bool.true_and];exact this
def bG (h:∀d∈ds,bj d=true):bF ds=true:=by
 induction ds with
 |nil=>rfl
 |cons d r g=>simp[h d (by simp),g λe he=>h e (by simp[he])]
def dr (zs:List Str):bF (zs.map D.str)=true:=by
 induction zs with
 |nil=>rfl
 |cons a l g=>simp[g]
noncomputable def bc:D->Int
 |.tup (.int h::_)=>h
 |_=>0
noncomputable def kindOf:D->Str
 |.tup [_,.tup (.str k::_)]=>k
 |_=>("" : Str)
noncomputable def aB:D->Int
 |.tup [_,.tup (_::.int d::_)]=>d
 |_=>0
noncomputable def tV (p:Str)(day:Int):List D->Bool
 |[.int d,.str q]=>decide (q=p) && decide (d<=day)
 |_=>false
def told (g:List Str)(p:Str)(day:Int):D->Bool
 |.tup [_,.tup (.str kind::aF)]=>decide (kind∈g) && tV p day aF
 |_=>false
def iO (h:Int)(kind:Str)(aF:List D):aL [row h kind aF]=sS kind:=au rfl (aw (by simp[row,yY,qY]))
def kH (h:cY k=true):k = "death" ∨ k = "lost" ∨ k = "found":=by
 unfold cY at h;simp only[Bool.or_eq_true,decide_eq_true_eq]at h;rcases h with (h|h)|h
 ·exact .inl h
 ·exact .inr (.inl h)
 ·exact .inr (.inr h)
def lU (h:eD k=true):k = "chosen" ∨ k = "heir" ∨ k = "leave" ∨ k = "paper" ∨ k = "like" ∨ k = "copy" ∨ k = "call":=by
 unfold eD at h;simp only[Bool.or_eq_true,decide_eq_true_eq]at h;rcases h with (((((h|h)|h)|h)|h)|h)|h
 ·exact .inl h
 ·exact .inr (.inl h)
 ·exact .inr (.inr (.inl h))
 ·exact .inr (.inr (.inr (.inl h)))
 ·exact .inr (.inr (.inr (.inr (.inl h))))
 ·exact .inr (.inr (.inr (.inr (.inr (.inl h)))))
 ·exact .inr (.inr (.inr (.inr (.inr (.inr h)))))
def HM (h:cY k=true∨eD k=true):oZ gQ (.str k) (.str "day")=sI 0:=by
 rcases h with h|h
 ·rcases kH h with rfl|rfl|rfl<;>exact cu
 ·rcases lU h with rfl|rfl|rfl|rfl|rfl|rfl|rfl<;>exact cu
def zU (h:cY k=true):oZ gQ (.str k) (.str "person")=sI 1:=by
 rcases kH h with rfl|rfl|rfl<;>exact cu
def EU (h:cY k=true∨eD k=true):cP (.str k) (.str "root")=sO false:=by
 rcases h with h|h
 ·rcases kH h with rfl|rfl|rfl<;>exact cu
 ·rcases lU h with rfl|rfl|rfl|rfl|rfl|rfl|rfl<;>exact cu
def bx {h:Int}{k:Str}{aF:List D}{part:Str}{i:Nat}{d:D}(hi:oZ gQ (.str k) (.str part)=sI i)(hd:aF[i]? = some d):aq [row h k aF,.str part]=some (d,false):=by
 refine au rfl (aw ?_);refine bi (.tup (.str k::aF)) (.int (1+i)) (by simp[row,yY]) (bi (.int 1) (.int i) rfl (bi (.str k) (.str part) (aE [row h k aF] rfl (iO _ _ _)) rfl hi) (by simp)) ?_;have g:i<aF.length:=(vV hd).1;have:lG (.str k::aF) (1+(i:Int))=some d:=by
  have:=k6 (xs:=(.str k:D)::aF) (j:=i+1) (by simp;omega);rw[show(1+(i:Int))=((i+1:Nat):Int) by omega,this];simp only[List.getElem_cons_succ];rw[vU g]at hd;exact hd
 simp[this]
def jq {h:Int}{k:Str}{aF:List D}{d:Int}{r:List D}(hk:cY k=true∨eD k=true)(g:aF=.int d::r):aS [row h k aF]=sI d:=by
 subst g;refine au rfl (a9 (cz (bi (.str k) (.str "root") (aE [row h k (.int d::r)] rfl (iO _ _ _)) rfl (EU hk))) (aw (aE [row h k (.int d::r),.str "day"] rfl (bx (i:=0) (HM hk) rfl))))
def qZ (k:Str)(g:List Str):FY (.str k) (g.map .str)=decide (k∈g):=by
 induction g with
 |nil=>simp[FY]
 |cons w g G=>
  have:FY (.str k) ((w::g).map .str)=(cW (.str w) (.str k) || FY (.str k) (g.map .str)):=rfl;rw[this,G,wV];by_cases e:w=k
  ·simp[e]
  ·have M:¬k=w:=λz=>e z.symm;simp[e,M]
def nW (g:List Str):(g.map D.str).all gw=true:=by
 induction g with
 |nil=>rfl
 |cons w g G=>simp[gw]
def gD (k:Str)(g:List Str):sU (.str k) (.tup (g.map .str))=sO (decide (k∈g)):=by
 simp only[sU,hV,vJ,qZ];rw[if_pos ⟨rfl,nW g⟩]
def EV (M:nV r)(g:List Str)(hw:∀w∈g,cY w=true)(p:Str)(day:Int):p7 [r,.tup (g.map .str),.str p,.int day]=sO (told g p day r):=by
 obtain⟨h,kind,aF,rfl,dp⟩:=M;have G:f2 sU (fA aL (fV 0 ai)) (aj 1) [some (row h kind aF,false),sT (g.map .str),sS p,sI day]=sO (decide (kind∈g)) :=
  bi (.str kind) (.tup (g.map .str)) (aE [row h kind aF] rfl (iO _ _ _)) rfl (gD kind g)
 have O:told g p day (row h kind aF)=(decide (kind∈g) && tV p day aF):=rfl;rw[O];refine au rfl (aw (dE (b1:=false) G λhk=>?_));have h3:=hw kind (of_decide_eq_true hk);obtain⟨d,q,rfl⟩:=dp.three h3;show jU _ _ _=sO (decide (q=p) && decide (d<=day));refine dE (b1:=false) ?_ λ_=>?_
 ·exact bi (.str q) (.str p) (aE [row h kind [.int d,.str q],.str "person"] rfl (bx (i:=1) (zU h3) rfl)) rfl (by simp)
 ·exact bi (.int d) (.int day) (aE [row h kind [.int d,.str q]] rfl (jq (.inl h3) rfl)) rfl (by simp)
def EW (ds:List D):sZ ds=ds.zipIdx.map λx=>.tup [.int x.2,x.1]:=by
 unfold sZ;apply List.ext_getElem?;intro i;simp[List.getElem?_mapIdx,List.getElem?_zipIdx];cases ds[i]?<;>simp
noncomputable def ak (ab:List D)(aa:Int):List (D×Nat):=ab.zipIdx.filter λx=>decide (bc x.1<=aa)
def kI (ab:List D)(g:∀r∈ab,nV r)(hl:ab.length<=1000)(aa:Int):cG [.tup ab,.int aa]=lT ((ak ab aa).map λx=>.int x.2):=by
 have hc:=fH (fi:=Ee (aj 0)) (nT:=2) (cap:=[1]) (tg:=Jk [0,1]) (c:=ba (f2 yV (cA 1 0) (aj 2))) (fe:=aj 0) (ρ:=[sT ab,sI aa]) ab.zipIdx (λx=>.tup [.int x.2,x.1]) (λx=>decide (bc x.1<=aa)) (λx=>.int x.2)
  (by simp[EW]) (by simp;omega) λx hx=>by
   obtain⟨h,kind,aF,e,_⟩:=g x.1 (List.fst_mem_of_mem_zipIdx hx);refine⟨_,rfl,cz ?_,λ_=>⟨false,by simp[dS]⟩⟩;simp[dS,e,row,qY,bc]
 exact au rfl (aw hc)
def pb (ab:List D)(aa:Int)(g:List Str)(p:Str)(day:Int):List (D×Nat):=(ak ab aa).filter λx=>told g p day x.1
def Bp (h:x∈pb ab aa ws p day):ab[x.2]? = some x.1/\told ws p day x.1=true:=by
 obtain⟨h1,h2⟩:=vN h;exact⟨(List.mk_mem_zipIdx_iff_getElem? (x:=x.1) (i:=x.2)).mp (vN h1).1,h2⟩
def ce {ab:List D}{i:Nat}{r:D}(h:ab[i]? = some r):lG ab (i:Int)=some r:=by
 obtain⟨g,e⟩:=vV h;rw[k6 g,e]
def HN (ab:List D)(aa:Int)(g:List Str)(p:Str)(day:Int):(pb ab aa g p day).length<=ab.length:=by
 have h1:=vM (λx:D×Nat=>told g p day x.1) (ak ab aa);have h2:=vM (λx:D×Nat=>decide (bc x.1<=aa)) ab.zipIdx;rw[List.length_zipIdx]at h2;exact vR h1 h2
def wc (ab:List D)(G:∀r∈ab,nV r)(hl:ab.length<=1000)(aa:Int)(g:List Str)(hw:∀w∈g,cY w=true)(p:Str)(day:Int):
  gV [.tup ab,.int aa,.tup (g.map .str),.str p,.int day]=lT ((pb ab aa g p day).map λx=>.int x.2):=by
 have hc:=fH (fi:=bQ (fA cG (fV 0 (fV 1 ai)))) (nT:=1) (cap:=[2,3,4,0]) (tg:=cQ 0) (c:=ba (fA p7 (ae (f2 bq (aj 4) (aj 0)) (fV 1 (fV 2 (fV 3 ai)))))) (fe:=aj 0)
  (ρ:=[sT ab,sI aa,sT (g.map .str),sS p,sI day]) (ak ab aa) (λx=>.int x.2) (λx=>told g p day x.1) (λx=>.int x.2)
  (by
   show(fA cG (fV 0 (fV 1 ai)) _).bind _=_;rw[aE [.tup ab,.int aa] rfl (kI ab G hl aa)];rfl) (by have:=vM (λx:D×Nat=>decide (bc x.1<=aa)) ab.zipIdx;rw[List.length_zipIdx]at this;exact vR this (by omega)) λx hx=>by
   have M:ab[x.2]? = some x.1:=(List.mk_mem_zipIdx_iff_getElem? (x:=x.1) (i:=x.2)).mp (vN hx).1;refine⟨_,rfl,cz (aE [x.1,.tup (g.map .str),.str p,.int day] ?_ (EV (G _ (vL M)) g hw p day)),λ_=>⟨false,by simp[dS]⟩⟩;have ha:=ce M;simp[dS,ha]
 exact au rfl (aw hc)
def kA (x:D×Nat):List At:=[.i (aB x.1),.i x.2]
def bX (a b:D×Nat):Bool:=decide (aB a.1<aB b.1∨(aB a.1=aB b.1/\(a.2:Int)<b.2))
def gL:D×Nat->List (D×Nat)->D×Nat
 |b,[]=>b
 |b,x::r=>if bX b x=true then gL x r else gL b r
def Js:List (D×Nat)->Option (D×Nat)
 |[]=>none
 |x::r=>some (gL x r)
def HP (a b c d:Int):aX [.i a,.i b] [.i c,.i d]=some (decide (a<c∨(a=c/\b<d))):=by
 rw[aX];by_cases h:a=c
 ·rw[if_pos h,aX];by_cases h2:b=d
  ·rw[if_pos h2,aX];simp[h,h2]
  ·rw[if_neg h2];simp[h]
 ·rw[if_neg h];simp[h]
def we (a b:D×Nat):aX (kA a) (kA b)=some (bX a b):=HP _ _ _ _
def wg (l:List (D×Nat)):eN (l.map kA)=true:=by
 unfold eN;simp[List.all_eq_true,we]
theorem nX:∀(r:List (D×Nat))(b:D×Nat),m5 (kA b,.int b.2) (r.map λx=>(kA x,D.int x.2))=.int (gL b r).2
 |[],b=>rfl
 |x::r,b=>by
  rw[uY,m5,gL];show(if aX (kA b) (kA x)=some true then _ else _)=_;rw[we];by_cases h:bX b x=true
  ·rw[if_pos h,if_pos (by rw[h])];exact nX r x
  ·rw[if_neg h,if_neg (by simpa using h)];exact nX r b
theorem ra:∀(r:List (D×Nat))(b:D×Nat),gL b r∈b::r
 |[],b=>by simp[gL]
 |x::r,b=>by
  rw[gL];split
  ·exact mZ _ (ra r x)
  ·rcases vP (ra r b)with h|h
   ·rw[h];exact mX
   ·exact mZ _ (mZ _ h)
theorem iq {α:Type}{f:D->Option D}{g h:α->D}:∀(l:List α),(∀x∈l,f (g x)=some (h x))->jj f (l.map g)=some (l.map h)
 |[],_=>rfl
 |x::l,hx=>by
  rw[uY,jj,hx x mX,vJ,iq l λy hy=>hx y (mZ _ hy)];rfl
theorem gW {α:Type}{g:α->D}{h:α->List At}:∀(l:List α),(∀x∈l,xI (g x)=some (h x))->dH (l.map g)=some (l.map h)
 |[],_=>rfl
 |x::l,hx=>by
  rw[uY,dH,hx x mX,vJ,gW l λy hy=>hx y (mZ _ hy)];rfl
noncomputable def mN:List Str:=[("lost" : Str),"found"]
def oE:∀w∈mN,cY w=true:=by
 intro w hw;rcases vP hw with rfl|hw
 ·decide +kernel
 ·rcases vP hw with rfl|hw
  ·decide +kernel
  ·cases hw
def ym (ab:List D)(aa:Int)(p:Str)(day:Int):Bool:=match Js (pb ab aa mN p day) with
 |none=>true
 |some b=>decide (kindOf b.1 = "found")
def rb (hw:∀w∈ws,cY w=true)(G:nV r)(M:told ws p day r=true):∃h k d,r=row h k [.int d,.str p]/\cY k=true/\k∈ws/\d<=day:=by
 obtain⟨h,kind,aF,rfl,dp⟩:=G;have g:(decide (kind∈ws) && tV p day aF)=true:=M;rw[vC]at g;have hm:=of_decide_eq_true g.1;obtain⟨d,q,rfl⟩:=dp.three (hw _ hm);have hq:(decide (q=p) && decide (d<=day))=true:=g.2;rw[vC]at hq;have:=of_decide_eq_true hq.1;subst this;exact⟨h,kind,d,rfl,hw _ hm,hm,of_decide_eq_true hq.2⟩
def Bq {ab:List D}{i:Nat}{h d:Int}{k p:Str}(g:ab[i]? = some (row h k [.int d,.str p]))(h3:cY k=true):fj [.tup ab,.int i]=sT [.int d,.int i]:=by
 have ha:=ce g;refine au rfl (aw (aE [.int d,.int i] (aC (d:=.int d) (b:=false) (aE [row h k [.int d,.str p]] (by simp[ha]) (jq (.inl h3) rfl)) rfl) (by simp[sizeLine])))
def HQ (ab:List D)(hr:∀r∈ab,nV r)(hl:ab.length<=1000)(aa:Int)(p:Str)(day:Int):lQ [.tup ab,.int aa,.str p,.int day]=sO (ym ab aa p day):=by
 have ht:=wc ab hr hl aa mN oE p day;have T:=HN ab aa mN p day;have G:∀x∈pb ab aa mN p day,∃h k d,ab[x.2]? = some (row h k [.int d,.str p])/\x.1=row h k [.int d,.str p]/\cY k=true:=λx hx=>by
  obtain⟨M,U⟩:=Bp hx;obtain⟨h,k,d,e,h3,_⟩:=rb oE (hr _ (vL M)) U;exact⟨h,k,d,by rw[M,e],e,h3⟩
 unfold ym;generalize hsel:pb ab aa mN p day=sel at ht G T ⊢;have g:fA gV (fV 0 (fV 1 (ae (fA aP (ae (fS "lost") (ae (fS "found") ai))) (fV 2 (fV 3 ai))))) [sT ab,sI aa,sS p,sI day,none]=lT (sel.map λx=>.int x.2) :=
  aE [.tup ab,.int aa,.tup (mN.map .str),.str p,.int day] (by simp[mN,sizeLine]) ht
 have O:bF (sel.map λx=>D.int x.2)=true:=bG λd hd=>by obtain⟨x,_,rfl⟩:=vO hd;rfl
 cases sel with
 |nil=>exact au rfl (bT g O (bp (cz (by simp)) (aw rfl)))
 |cons x r=>
  refine au rfl (bT g O (a9 (cz (by simp;omega)) (aw ?_)));obtain⟨h,k,d,M,e,h3⟩:=G (gL x r) (ra r x);have hb:kindOf (gL x r).1=k:=by rw[e];rfl
  show _=some (D.bl (decide (kindOf (gL x r).1 = "found")),false);rw[hb];refine bi (.str k) (.str "found") (aE [row h k [.int d,.str p]] (aC (d:=row h k [.int d,.str p]) (b:=false) (bi (.tup ab) (.int (gL x r).2) rfl ?_ (by simp[ce M])) rfl) (iO _ _ _)) rfl (by simp);have hm:∀ρ:DL.Env,ρ[0]? = some (sT ab)->jj (qg [0] (fA fj (fV 1 (fV 0 ai))) ρ) ((x::r).map λx=>D.int x.2)=some ((x::r).map λx=>.tup [.int (aB x.1),.int x.2]):=λρ h0=>
   iq (x::r) λy hy=>by
    obtain⟨h,k,d,M,e,h3⟩:=G y hy;have hd:aB y.1=d:=by rw[e];rfl
    rw[hd];show(fA fj _ _).map _=_;rw[aE [.tup ab,.int y.2] (by simp[dS,h0]) (Bq M h3)];rfl
  have hk:dH ((x::r).map λx=>D.tup [.int (aB x.1),.int x.2])=some ((x::r).map kA):=gW (x::r) λy _=>rfl;have hz:((x::r).map kA).zip ((x::r).map λx=>D.int x.2)=(kA x,.int x.2)::r.map λx=>(kA x,D.int x.2):=by
   rw[List.zip_map'];rfl
  show(tG (aj 4) _ _)=_;unfold tG Le;show((some (D.lst ((x::r).map λx=>D.int x.2),false)).bind _)=_;simp only[vJ];rw[hm _ rfl];simp only[vJ];rw[hk];simp only[vJ];rw[if_pos (wg _),hz];simp only[nX]
noncomputable def eE:List Str:=[("death" : Str)]
def jJ:∀w∈eE,cY w=true:=by
 intro w hw;rcases vP hw with rfl|hw
 ·decide +kernel
 ·cases hw
def nY (ab:List D)(aa:Int)(p:Str)(day:Int):Bool:=(pb ab aa eE p day).isEmpty
def yn (ab:List D)(G:∀r∈ab,nV r)(hl:ab.length<=1000)(aa:Int)(p:Str)(day:Int):mF [.tup ab,.int aa,.str p,.int day]=sO (nY ab aa p day):=by
 have g:=wc ab G hl aa eE jJ p day;unfold nY;generalize pb ab aa eE p day=sel at g ⊢;refine au rfl (aw (bi (.int ((sel.map λx=>D.int x.2).length:Nat)) (.int 0) ?_ rfl ?_))
 ·exact aE [.lst (sel.map λx=>.int x.2)] (aC (d:=.lst (sel.map λx=>.int x.2)) (b:=true) (aE [.tup ab,.int aa,.tup (eE.map .str),.str p,.int day] (by simp[sizeLine,eE]) g) rfl) HL
 ·rw[Bd];cases sel<;>simp
  omega
noncomputable def bM:D->Str
 |.tup [_,.tup (_::_::.str p::_)]=>p
 |_=>("" : Str)
noncomputable def yo:List Str:=[("chosen" : Str),"heir","leave","paper","like","copy","call"]
def rd (k:Str):eD k=decide (k∈yo):=by
 unfold eD yo;simp[List.mem_cons,Bool.or_assoc]
def zV:ie=.tup (yo.map .str):=rfl
def oF (k:Str)(g:List Str):hW (.str k) (.tup (g.map .str))=sO (!decide (k∈g)):=by
 simp only[hW,hV,vJ,qZ];rw[if_pos ⟨rfl,nW g⟩]
def EX (h:eD k=true):oZ gQ (.str k) (.str "by")=sI 1:=by
 rcases lU h with rfl|rfl|rfl|rfl|rfl|rfl|rfl<;>exact cu
def gg (ab:List D)(aa:Int)(r:D):Bool:=(decide (bc r<=aa) && eD (kindOf r)) && (nY ab aa (bM r) (aB r) && ym ab aa (bM r) (aB r))
def kJ {ab:List D}{i:Nat}{h:Int}{kind:Str}{aF:List D}(g:ab[i]? = some (row h kind aF))(aa:Int):cC [.tup ab,.int aa,.int i]=sO (decide (h<=aa)):=by
 have G:i<ab.length:=(vV g).1;have ha:=ce g;refine au rfl (aw ?_);have:=dE (f1:=nB yV KH (fI 0) (aj 2) (fA eJ (fV 0 ai))) (f2:=f2 yV (f2 bq (f2 bq (aj 0) (aj 2)) (fI 0)) (aj 1)) (ρ:=[sT ab,sI aa,sI i]) (p:=true) (q:=decide (h<=aa)) (b1:=false)
  (by
   refine(xV (x:=.int 0) (y:=.int i) (z:=.int ab.length) (b1:=false) (b2:=false) (b3:=false) (b4:=false) (p:=true) (q:=true) rfl rfl (by simp) (by simp) λ_=>?_).trans rfl;simp;omega) λ_=>by simp[ha,row,qY]
 exact this
def mO (ab:List D)(M:∀r∈ab,nV r)(hl:ab.length<=1000)(aa:Int){i:Nat}{r:D}(O:ab[i]? = some r):dZ [.tup ab,.int aa,.int i]=sO (gg ab aa r):=by
 obtain⟨h,kind,aF,rfl,dp⟩:=M r (vL O);have hk:=kJ O aa;have ha:=ce O;have G:∀(ρ:DL.Env),f2 bq (aj 0) (aj 2) ρ=some (row h kind aF,false)->fA aL (ae (f2 bq (aj 0) (aj 2)) ai) ρ=sS kind:=λρ e=>aE [row h kind aF] (aC e rfl) (iO _ _ _);have g:f2 bq (aj 0) (aj 2) [sT ab,sI aa,sI i,none,none]=some (row h kind aF,false):=by simp[ha]
 have hc:(je (eM (ba (fA cC (fV 0 (fV 1 (fV 2 ai)))))) (ba (f2 hW (fA aL (ae (f2 bq (aj 0) (aj 2)) ai)) (fC ie)))) [sT ab,sI aa,sI i,none,none]=some (!decide (h<=aa) || !eD kind):=by
  refine cR (bU (cz (aE [.tup ab,.int aa,.int i] rfl hk))) λ_=>cz (bi (.str kind) ie (G _ g) rfl ?_);rw[zV,rd];exact oF kind yo
 have hs:gg ab aa (row h kind aF)=((decide (h<=aa) && eD kind) && (nY ab aa (bM (row h kind aF)) (aB (row h kind aF)) && ym ab aa (bM (row h kind aF)) (aB (row h kind aF)))):=rfl;cases hb:(decide (h<=aa) && eD kind) with
 |false=>
  rw[hs,hb];refine au rfl (bp (hc.trans ?_) (aw rfl));rw[←Bool.not_and,hb];rfl
 |true=>
  rw[hs,hb];rw[vC]at hb;obtain⟨day,p,T,rfl⟩:=dp.slg hb.2;show _=some (D.bl (true && (nY ab aa p day && ym ab aa p day)),false);rw[Bool.true_and];refine au rfl (a9 (hc.trans (by rw[hb.1,hb.2];rfl)) (fw (.str p) (aE [row h kind (.int day::.str p::T),.str "by"] (aC g rfl) (bx (i:=1) (EX hb.2) rfl)) rfl (fw (.int day) (aE [row h kind (.int day::.str p::T)] (aC (d:=row h kind (.int day::.str p::T)) (b:=false) (by simp[ha]) rfl) (jq (.inr hb.2) rfl)) rfl (aw ?_))));exact dE (b1:=false) (aE [.tup ab,.int aa,.str p,.int day] (by simp) (yn ab M hl aa p day)) λ_=>aE [.tup ab,.int aa,.str p,.int day] (by simp) (HQ ab M hl aa p day)
inductive Cd:Str->List D->Prop
 |root (o r:Str) (m f:Int):Cd ("root" : Str) [.str o,.int m,.int f,.str r]
 |named (d:Int) (o p:Str):Cd ("named" : Str) [.int d,.str o,.str p]
 |chosen (d:Int) (b o p:Str) (s:Int):Cd ("chosen" : Str) [.int d,.str b,.str o,.str p,.int s]
 |heir (d:Int) (b o p:Str):Cd ("heir" : Str) [.int d,.str b,.str o,.str p]
 |three (k:Str) (hk:k = "death" ∨ k = "lost" ∨ k = "found") (d:Int) (p:Str):Cd k [.int d,.str p]
 |other (k:Str) (hk:k = "leave" ∨ k = "paper" ∨ k = "like" ∨ k = "copy" ∨ k = "call") (d:Int) (b:Str) (r:List D) (hf:bF r=true) (hp:r.all (aI 5)=true):Cd k (.int d::.str b::r)
def Cd.deed (h:Cd k r):DeedP k r:=by
 cases h with
 |root o rl m f=>exact⟨rfl,by simp,λh=>cN h,λh=>cN h⟩
 |named d o p=>exact⟨rfl,by simp,λh=>cN h,λh=>cN h⟩
 |chosen d b o p s=>exact⟨rfl,by simp,λh=>cN h,λ_=>⟨d,b,_,rfl⟩⟩
 |heir d b o p=>exact⟨rfl,by simp,λh=>cN h,λ_=>⟨d,b,_,rfl⟩⟩
 |three k hk d p=>exact⟨rfl,by simp,λ_=>⟨d,p,rfl⟩,λh=>by rcases hk with rfl|rfl|rfl<;>exact cN h⟩
 |other k hk d b r hf hp=>exact⟨by simp[hf],by simp only[List.all_cons,hp,aI,Bool.and_true],λh=>by rcases hk with rfl|rfl|rfl|rfl|rfl<;>exact cN h,λ_=>⟨d,b,r,rfl⟩⟩
def wh (r:D):Prop:=∃h k aF,r=row h k aF/\Cd k aF
def wh.rp (h:wh r):nV r:=by obtain⟨a,k,aF,rfl,d⟩:=h;exact⟨a,k,aF,rfl,d.deed⟩
def bu (r:D):Bool:=decide (kindOf r = "root")
def Cd.day (h:Cd k r)(hk:k ≠ "root"):∃d q,r=.int d::q:=by
 cases h with
 |root=>exact absurd rfl hk
 |named d=>exact⟨d,_,rfl⟩
 |chosen d=>exact⟨d,_,rfl⟩
 |heir d=>exact⟨d,_,rfl⟩
 |three _ _ d=>exact⟨d,_,rfl⟩
 |other _ _ d=>exact⟨d,_,rfl⟩
def Cd.day_idx (h:Cd k r)(hk:k ≠ "root"):oZ gQ (.str k) (.str "day")=sI 0:=by
 cases h with
 |root=>exact absurd rfl hk
 |named=>exact cu
 |chosen=>exact cu
 |heir=>exact cu
 |three _ hh=>rcases hh with rfl|rfl|rfl<;>exact cu
 |other _ hh=>rcases hh with rfl|rfl|rfl|rfl|rfl<;>exact cu
def bR (e:f ρ=some (.str a,bb))(h:decide (a=b)=x):ba (f2 cP f (fS b)) ρ=some x:=cz (fx (x:=.str a) (y:=.str b) (b1:=bb) (b2:=false) e rfl (by rw[←h];simp))
def se (r:D):D:=if bu r=true then .non else .int (aB r)
def iY (g:wh r):aL [r]=sS (kindOf r):=by
 obtain⟨h,k,aF,rfl,_⟩:=g;exact iO h k aF
def re (g:wh r):aS [r]=some (se r,false):=by
 obtain⟨h,k,aF,rfl,d⟩:=g;unfold se;by_cases hk:k = "root"
 ·have:bu (row h k aF)=true:=decide_eq_true hk;rw[if_pos this];exact au rfl (bp (bR (a:=k) (bb:=false) (aE [row h k aF] rfl (iO _ _ _)) (decide_eq_true hk)) (aw rfl))
 ·have:bu (row h k aF)=false:=decide_eq_false hk;rw[if_neg (by rw[this];decide)];obtain⟨dd,q,rfl⟩:=d.day hk;exact au rfl (a9 (bR (a:=k) (bb:=false) (aE [row h k (.int dd::q)] rfl (iO _ _ _)) (decide_eq_false hk)) (aw (aE [row h k (.int dd::q),.str "day"] rfl (bx (i:=0) (d.day_idx hk) rfl))))
def fU (ab:List D):Prop:=ab.length<=60/\∀r∈ab,wh r
def fU.rp (g:fU ab):∀r∈ab,nV r:=λr G=>(g.2 r G).rp
def fU.le (g:fU ab):ab.length<=1000:=vR g.1 (by decide)
def bo (h:x∈ak ab aa):ab[x.2]? = some x.1:=by
 obtain⟨h1,_⟩:=vN h;exact List.mem_zipIdx_iff_getElem?.mp h1
def cm (ab:List D)(aa:Int):(ak ab aa).length<=ab.length:=by
 have:=vM (λx:D×Nat=>decide (bc x.1<=aa)) ab.zipIdx;rw[List.length_zipIdx]at this;exact this
def fM (ab:List D)(aa:Int):((ak ab aa).map (·.2)).Nodup:=by
 have h1:(ab.zipIdx.map (·.2)).Nodup:=by rw[List.zipIdx_map_snd];exact List.nodup_range'
 exact List.Nodup.sublist (List.Sublist.map _ (List.filter_sublist)) h1
def dj (ab:List D)(aa:Int):List (D×Nat):=(ak ab aa).filter λx=>!bu x.1
def NL (ab:List D)(aa:Int):List (D×Nat):=g7 (λx=>cH (kA x)) (dj ab aa)
def EY (h:cH (kA a)=cH (kA b)):a.2=b.2:=by
 have h:[aB a.1,(a.2:Int)]=[aB b.1,(b.2:Int)]:=h;injection h with _ h;injection h with h;omega
def HR (ha:a∈ak ab aa)(hb:b∈ak ab aa)(h:a.2=b.2):a=b:=by
 have h1:=bo ha;have h2:=bo hb;rw[h,h2]at h1;exact Prod.ext (vK h1).symm h
def oG (g:fU ab)(aa:Int):dY [.tup ab,.int aa]=lT ((NL ab aa).map λx=>.int x.2):=by
 have hl:=g.1;have Ml:=cm ab aa;have M:∀x∈ak ab aa,lG ab (x.2:Int)=some x.1/\wh x.1:=λx hx=>⟨ce (bo hx),g.2 _ (vL (bo hx))⟩;have hc:=fH (fi:=bQ (fA cG (fV 0 (fV 1 ai)))) (nT:=1) (cap:=[0]) (tg:=cQ 0) (c:=ba (f2 gJ (fA aS (ae (f2 bq (aj 1) (aj 0)) ai)) (fC .non))) (fe:=aj 0) (ρ:=[sT ab,sI aa,none]) (ak ab aa) (λx=>.int x.2) (λx=>!bu x.1) (λx=>.int x.2)
  (by
   show(fA cG (fV 0 (fV 1 ai)) _).bind _=_;rw[aE [.tup ab,.int aa] rfl (kI ab g.rp g.le aa)];rfl) (by omega) λx hx=>by
   obtain⟨ha,T⟩:=M x hx;refine⟨_,rfl,cz (bi (se x.1) .non (aE [x.1] (by simp[dS,ha]) (re T)) rfl ?_),λ_=>⟨false,by simp[dS]⟩⟩;unfold se;cases bu x.1<;>simp[Ch]
 have U:bI (bQ (fA cG (fV 0 (fV 1 ai)))) 1 [0] (cQ 0) (ba (f2 gJ (fA aS (ae (f2 bq (aj 1) (aj 0)) ai)) (fC .non))) (aj 0) [sT ab,sI aa,none]=lT ((dj ab aa).map λx=>.int x.2):=hc;have LK:bF ((dj ab aa).map λx=>D.int x.2)=true:=bG λd hd=>by obtain⟨x,_,rfl⟩:=vO hd;rfl
 have Mh:(dj ab aa).length<=60:=vR (vM _ _) (by omega);have G:∀x∈dj ab aa,x∈ak ab aa/\bu x.1=false:=λx hx=>by
  obtain⟨h1,h2⟩:=vN hx;exact⟨h1,by simpa using h2⟩
 have hm:∀ρ:DL.Env,ρ[0]? = some (sT ab)->jj (qg [0] (fA fj (fV 1 (fV 0 ai))) ρ) ((dj ab aa).map λx=>.int x.2)=some ((dj ab aa).map λx=>.tup [.int (aB x.1),.int x.2]):=λρ h0=>
  iq (dj ab aa) λx hx=>by
   obtain⟨h1,h2⟩:=G x hx;obtain⟨ha,T⟩:=M x h1;have hd:=re T;unfold se at hd;rw[h2,if_neg (by decide)]at hd;have hr:fj [.tup ab,.int x.2]=sT [.int (aB x.1),.int x.2]:=au rfl (aw (aE [.int (aB x.1),.int x.2] (aC (d:=.int (aB x.1)) (b:=false) (aE [x.1] (by simp[ha]) hd) rfl) (by simp[sizeLine])));show(fA fj _ _).map _=_;rw[aE [.tup ab,.int x.2] (by simp[dS,h0]) hr];rfl
 have hk:dH ((dj ab aa).map λx=>D.tup [.int (aB x.1),.int x.2])=some ((dj ab aa).map kA):=gW _ λx _=>rfl;have hz:((dj ab aa).map kA).zip ((dj ab aa).map λx=>D.int x.2)=(dj ab aa).map λx=>(kA x,D.int x.2):=by rw[List.zip_map']
 have LL:((dj ab aa).map (·.2)).Nodup:=List.Nodup.sublist (List.Sublist.map _ (List.filter_sublist)) (fM ab aa);have O:((dj ab aa).map kA).length<64/\eN ((dj ab aa).map kA)=true/\fG ((dj ab aa).map kA)=true/\(((dj ab aa).map kA).map cH).Nodup:=by
  refine⟨by rw[vI];omega,wg _,?_,?_⟩
  ·unfold fG;rw[Bool.or_eq_true];left;simp[List.all_eq_true,kA]
  ·rw[uP];exact List.Pairwise.map _ (λa b h e=>h (EY e)) (List.pairwise_map.mp LL)
 refine au rfl (bT U LK (aw ?_));show(qi (aj 2) _ _)=_;unfold qi;show((some (D.lst ((dj ab aa).map λx=>D.int x.2),false)).bind _)=_;simp only[vJ];rw[hm _ rfl];simp only[vJ];rw[hk];simp only[vJ];rw[if_pos O];unfold jk;rw[hz];have key:((NL ab aa).map λx=>(kA x,D.int x.2))=g7 (λp:List At×D=>cH p.1) ((dj ab aa).map λx=>(kA x,D.int x.2)):=by
  refine ko _ (λx hx y hy e=>?_) ((br _ _).map _) ?_
  ·obtain⟨a,ha,rfl⟩:=vO hx;obtain⟨b,hb,rfl⟩:=vO hy;rw[HR (G a ha).1 (G b hb).1 (EY e)]
  ·exact List.pairwise_map.mpr (fZ _ _)
 rw[←key,uP];rfl
structure Cl where
 o:Str
 p:Str
 s:Int
 u:Option Int
 n:Nat
noncomputable def uD:Option Int->D
 |none=>.non
 |some x=>.int x
def aV (c:Cl):D:=.tup [.str c.o,.str c.p,.int c.s,uD c.u,.int c.n]
def Br (u:Option Int):bj (uD u)=true:=by cases u<;>rfl
def mP (c:Cl):bj (aV c)=true:=by simp[aV,Br]
def ir (cs:List Cl):bF (cs.map aV)=true:=bG λd hd=>by obtain⟨c,_,rfl⟩:=vO hd;exact mP c
noncomputable def iu (c:Cl)(day:Int):Bool:=decide (c.s<=day) && (match c.u with|none=>true|some x=>decide (day<x))
def Ut (d e f g:D)(r:List D):lG (d::e::f::g::r) 3=some g:=by have:=k6 (xs:=d::e::f::g::r) (j:=3) (by simp);simpa using this
def Uu (d e f g h:D)(r:List D):lG (d::e::f::g::h::r) 4=some h:=by have:=k6 (xs:=d::e::f::g::h::r) (j:=4) (by simp);simpa using this
def Mb (c:Cl):bq (aV c) (.int 0)=sS c.o:=by simp[aV,qY]
def Lu (c:Cl):bq (aV c) (.int 1)=sS c.p:=by simp[aV,yY]
def OY (c:Cl):bq (aV c) (.int 2)=sI c.s:=by simp[aV,Se]
def Uv (c:Cl):bq (aV c) (.int 3)=some (uD c.u,false):=by simp[aV,Ut]
def OZ (c:Cl):bq (aV c) (.int 4)=sI c.n:=by simp[aV,Uu]
def bO (ds:List D)(h:ds.length<=100):aP ds=sT ds:=if_pos (dB (by omega))
def dn (ds:List D)(h:ds.length<=100):bw ds=lT ds:=if_pos (dB (by omega))
def Bt (s day:Int)(u:Option Int):jn [.int day,.tup [.int s,uD u]]=sO (decide (s<=day) && (match u with|none=>true|some x=>decide (day<x))):=by
 refine au rfl (aw (dE (b1:=false) (by simp[qY]) λ_=>?_));cases u with
 |none=>exact qA (p:=true) (q:=true) (b1:=false) (by simp[yY,uD]) (by simp)
 |some x=>exact qA (p:=false) (q:=decide (day<x)) (b1:=false) (by simp[yY,uD]) λ_=>by simp[yY,uD]
def rf (c:Cl)(day:Int):cS [aV c,.int day]=sO (iu c day) :=
 au rfl (aw (aE [.int day,.tup [.int c.s,uD c.u]] (bJ rfl (bJ (aE [.int c.s,uD c.u] (aC (bi (aV c) (.int 2) rfl rfl (OY c)) (aC (bi (aV c) (.int 3) rfl rfl (Uv c)) rfl)) (bO _ (by simp))) rfl)) (Bt c.s day c.u)))
def yp (c:Cl):dA [aV c]=sT [.int c.s,.int c.n] :=
 au rfl (aw (aE [.int c.s,.int c.n] (aC (bi (aV c) (.int 2) rfl rfl (OY c)) (aC (bi (aV c) (.int 4) rfl rfl (OZ c)) rfl)) (bO _ (by simp))))
def wj (c:Cl):g9 [aV c]=sT [.str c.o,.int c.s,.int c.n] :=
 au rfl (aw (aE [.str c.o,.int c.s,.int c.n] (aC (bi (aV c) (.int 0) rfl rfl (Mb c)) (aC (bi (aV c) (.int 2) rfl rfl (OY c)) (aC (bi (aV c) (.int 4) rfl rfl (OZ c)) rfl))) (bO _ (by simp))))
noncomputable def kS (c:Cl):List At:=[.i c.s,.i c.n]
def mQ:Cl->List Cl->Cl
 |b,[]=>b
 |b,x::r=>if aX (kS x) (kS b)=some true then mQ x r else mQ b r
def sf:Cl->List Cl->Cl
 |b,[]=>b
 |b,x::r=>if aX (kS b) (kS x)=some true then sf x r else sf b r
theorem rg:∀(r:List Cl)(b:Cl),lx (kS b,aV b) (r.map λx=>(kS x,aV x))=aV (mQ b r)
 |[],b=>rfl
 |x::r,b=>by
  rw[uY,lx,mQ];split
  ·exact rg r x
  ·exact rg r b
theorem rh:∀(r:List Cl)(b:Cl),m5 (kS b,aV b) (r.map λx=>(kS x,aV x))=aV (sf b r)
 |[],b=>rfl
 |x::r,b=>by
  rw[uY,m5,sf];split
  ·exact rh r x
  ·exact rh r b
def Bu (cs:List Cl):eN (cs.map kS)=true:=by
 unfold eN;simp[List.all_eq_true,kS,HP]
def ri (ρ:DL.Env)(cs:List Cl):jj (rY dA ρ) (cs.map aV)=some (cs.map λc=>.tup [.int c.s,.int c.n]):=iq cs λc _=>by
 show(dA [aV c]).map _=_;rw[yp];rfl
def oH (cs:List Cl):dH (cs.map λc=>D.tup [.int c.s,.int c.n])=some (cs.map kS):=gW cs λc _=>rfl
def EZ (e:f ρ=some (.lst ((b::r).map aV),bb)):tH f (rY dA) ρ=some (aV (mQ b r),false):=by
 unfold tH Le;rw[e,vJ];dsimp only;rw[ri,vJ,oH,vJ,if_pos (Bu _)];have:((b::r).map kS).zip ((b::r).map aV)=(kS b,aV b)::r.map λx=>(kS x,aV x):=by rw[List.zip_map'];rfl
 rw[this];show some (lx _ _,false)=_;rw[rg]
def Lv (e:f ρ=some (.lst ((b::r).map aV),bb)):tG f (rY dA) ρ=some (aV (sf b r),false):=by
 unfold tG Le;rw[e,vJ];dsimp only;rw[ri,vJ,oH,vJ,if_pos (Bu _)];have:((b::r).map kS).zip ((b::r).map aV)=(kS b,aV b)::r.map λx=>(kS x,aV x):=by rw[List.zip_map'];rfl
 rw[this];show some (m5 _ _,false)=_;rw[rh]
def iz (rl:Str)(b:Cl)(r:List Cl):Cl:=if rl = "last" then sf b r else mQ b r
def Fa (rl:Str)(b:Cl)(r:List Cl):lR [.lst ((b::r).map aV),.str rl]=sS (iz rl b r).p:=by
 unfold iz;by_cases h:rl = "last"
 ·rw[if_pos h];exact au rfl (bp (bR (a:=rl) (bb:=false) rfl (decide_eq_true h)) (aw (bi (aV (sf b r)) (.int 1) (Lv (bb:=false) rfl) rfl (Lu _))))
 ·rw[if_neg h];exact au rfl (a9 (bR (a:=rl) (bb:=false) rfl (decide_eq_false h)) (aw (bi (aV (mQ b r)) (.int 1) (EZ (bb:=false) rfl) rfl (Lu _))))
theorem rj:∀(r:List Cl)(b:Cl),mQ b r∈b::r
 |[],b=>by simp[mQ]
 |x::r,b=>by
  rw[mQ];split
  ·exact mZ _ (rj r x)
  ·rcases vP (rj r b)with h|h
   ·rw[h];exact mX
   ·exact mZ _ (mZ _ h)
theorem rm:∀(r:List Cl)(b:Cl),sf b r∈b::r
 |[],b=>by simp[sf]
 |x::r,b=>by
  rw[sf];split
  ·exact mZ _ (rm r x)
  ·rcases vP (rm r b)with h|h
   ·rw[h];exact mX
   ·exact mZ _ (mZ _ h)
def CC (rl:Str)(b:Cl)(r:List Cl):iz rl b r∈b::r:=by
 unfold iz;split
 ·exact rm r b
 ·exact rj r b
noncomputable def Mc (cs:List Cl)(o:Str)(day:Int):List Cl:=cs.filter λc=>decide (c.o=o) && iu c day
def lV (cs:List Cl):List Str:=kn (ia (cs.map (·.p)))
def NM:List Cl->Nat
 |[]=>0
 |b::r=>(mQ b r).n
def oJ (rl:Str):List Cl->D
 |[]=>.tup [.str "none"]
 |b::r=>if 1<(lV (b::r)).length/\rl = "open" then .tup [.str "parted",.lst ((lV (b::r)).map .str)]
  else .tup [.str "one",.str (iz rl b r).p,.int (NM ((b::r).filter λc=>decide (c.p=(iz rl b r).p)))]
def jR (cs:List Cl)(o rl:Str)(day:Int):D:=oJ rl (Mc cs o day)
def HS {z:Str}:ia (z::zs)≠[]:=by
 have:∀(G:List Str)(g:List Str),z∈g->z∈G.foldl j7 g:=λG=>by
  induction G with
  |nil=>intro g h;exact h
  |cons a l M=>intro g h;exact M _ (pT.mpr (.inl h))
 have h:=this zs (j7 [] z) (pT.mpr (.inr rfl));intro e;unfold ia at e;rw[List.foldl_cons]at e;rw[e]at h;cases h
def kK:aq [row h ("root" : Str) [.str o,.int m,.int f,.str rl],.str "office"]=sS o:=bx (i:=0) cu rfl
def CD:aq [row h ("root" : Str) [.str o,.int m,.int f,.str rl],.str "rule"]=sS rl:=bx (i:=3) cu rfl
def mR (zs:List Str):gO (zs.map .str)=some zs:=by
 induction zs with
 |nil=>rfl
 |cons z zs g=>simp[g]
def mS (cs:List Cl)(hl:cs.length<=60)(day:Int):eA [.lst (cs.map aV),row h ("root" : Str) [.str o,.int m,.int f,.str rl],.int day]=some (jR cs o rl day,false):=by
 let rt:D:=row h ("root" : Str) [.str o,.int m,.int f,.str rl];have h1:=fH (fi:=bQ (aj 0)) (nT:=1) (cap:=[2,1]) (tg:=cQ 0) (c:=eK (ba (f2 cP (cA 0 0) (fA aq (fV 2 (ae (fS "office") ai))))) (ba (fA cS (fV 0 (fV 1 ai))))) (fe:=aj 0)
  (ρ:=[sL (cs.map aV),some (rt,false),sI day,none,none,none,none]) cs aV (λc=>decide (c.o=o) && iu c day) aV (by simp) (by omega) λc hc=>by
   refine⟨_,rfl,dM (cz (bi (.str c.o) (.str o) (bi (aV c) (.int 0) (by simp[dS]) rfl (Mb c)) (aE [rt,.str "office"] (by simp[dS]) kK) (by simp))) λ_=>cz (aE [aV c,.int day] (by simp[dS]) (rf c day)),λ_=>⟨false,by simp[dS]⟩⟩
 have O:bI (bQ (aj 0)) 1 [2,1] (cQ 0) (eK (ba (f2 cP (cA 0 0) (fA aq (fV 2 (ae (fS "office") ai))))) (ba (fA cS (fV 0 (fV 1 ai))))) (aj 0) [sL (cs.map aV),some (rt,false),sI day,none,none,none,none]=lT ((Mc cs o day).map aV):=h1;have U:(Mc cs o day).length<=60:=vR (vM _ _) hl;unfold jR;generalize Mc cs o day=al at O U;have h2:∀ρ:DL.Env,ρ[3]? = some (lT (al.map aV))->f1 eU (bI (bQ (aj 3)) 1 [] (cQ 0) fu (cA 0 1)) ρ=lT ((lV al).map .str):=λρ h3=>by
  have hc:=jP (fi:=bQ (aj 3)) (nT:=1) (cap:=[]) (tg:=cQ 0) (fe:=cA 0 1) (ρ:=ρ) al aV (λc=>.str c.p) (by simp[h3]) (by omega) λc hc=>⟨_,rfl,false,bi (aV c) (.int 1) (by simp[dS]) rfl (Lu c)⟩;have e2:al.map (λc=>D.str c.p)=(al.map (·.p)).map .str:=by rw[uP];rfl
  rw[e2]at hc;unfold f1;rw[hc,vJ];show(gO ((al.map (·.p)).map .str)).bind _=_;rw[mR,vJ,if_pos (by rw[vI];omega)];rfl
 have IG:bF ((lV al).map D.str)=true:=dr _;refine au rfl (bT (ds:=al.map aV) O (ir al) (bT (ds:=(lV al).map .str) (h2 _ rfl) IG ?_));cases al with
 |nil=>exact bp (cz (by simp[lV,ia,kn])) (aw (aE [.str "none"] rfl (bO _ (by simp))))
 |cons b r=>
  have BJ:(lV (b::r)).length≠0:=by
   unfold lV;rw[(dw _).length_eq];intro e;exact HS (List.length_eq_zero_iff.mp e)
  refine a9 (cz (by simp[BJ])) ?_;have g:∀ρ:DL.Env,ρ[1]? = some (some (rt,false))->fA aq (fV 1 (ae (fS "rule") ai)) ρ=sS rl:=λρ q1=>aE [rt,.str "rule"] (by simp[q1]) CD;by_cases hp:1<(lV (b::r)).length/\rl = "open"
  ·have:oJ rl (b::r)=.tup [.str "parted",.lst ((lV (b::r)).map .str)]:=by rw[oJ,if_pos hp]
   rw[this];exact bp (dM (p:=true) (q:=true) (cz (by simp;omega)) λ_=>bR (bb:=false) (g _ rfl) (decide_eq_true hp.2)) (aw (aE [.str "parted",.lst ((lV (b::r)).map .str)] (by simp) (bO _ (by simp))))
  ·have:oJ rl (b::r)=.tup [.str "one",.str (iz rl b r).p,.int (NM ((b::r).filter λc=>decide (c.p=(iz rl b r).p)))]:=by rw[oJ,if_neg hp]
   rw[this];have G:eK (ba (f2 Ax (fA eJ (fV 4 ai)) (fI 1))) (ba (f2 cP (fA aq (fV 1 (ae (fS "rule") ai))) (fS "open"))) [sL (cs.map aV),some (rt,false),sI day,lT ((b::r).map aV),lT ((lV (b::r)).map .str),none,none]=some false:=by
    by_cases h5:1<(lV (b::r)).length
    ·exact dM (p:=true) (q:=false) (cz (by simp;omega)) λ_=>bR (bb:=false) (g _ rfl) (decide_eq_false λe=>hp ⟨h5,e⟩)
    ·exact dM (p:=false) (q:=false) (cz (by simp;omega)) (by simp)
   have T:=CC rl b r;let ch:=iz rl b r;have h6:=fH (fi:=bQ (aj 3)) (nT:=1) (cap:=[5]) (tg:=cQ 0) (c:=ba (f2 cP (cA 0 1) (aj 1))) (fe:=aj 0) (ρ:=[sL (cs.map aV),some (rt,false),sI day,lT ((b::r).map aV),lT ((lV (b::r)).map .str),sS ch.p,none]) (b::r) aV (λc=>decide (c.p=ch.p)) aV (by simp) (by omega) λc hc=>⟨_,rfl,cz (bi (.str c.p) (.str ch.p) (bi (aV c) (.int 1) (by simp[dS]) rfl (Lu c)) (by simp[dS]) (by simp)),λ_=>⟨false,by simp[dS]⟩⟩;obtain⟨b2,M,hf⟩:∃b2 M,(b::r).filter (λc=>decide (c.p=ch.p))=b2::M:=by
    cases hq:(b::r).filter (λc=>decide (c.p=ch.p)) with
    |nil=>
     have:=List.filter_eq_nil_iff.mp hq _ T;simp[ch]at this
    |cons b2 M=>exact⟨b2,M,rfl⟩
   rw[hf]at h6 ⊢;refine a9 G (fw (.str ch.p) (aE [.lst ((b::r).map aV),.str rl] (bJ (by simp) (aC (g _ rfl) rfl)) (Fa rl b r)) rfl (fw (aV (mQ b2 M)) (EZ (bb:=true) h6) (mP _) (aw (aE [.str "one",.str ch.p,.int (mQ b2 M).n] (bJ rfl (bJ rfl (aC (bi (aV (mQ b2 M)) (.int 4) rfl rfl (OZ _)) rfl))) (bO _ (by simp))))))
def Jt:D->D
 |.tup ds=>.tup (ki ds none (some 2))
 |d=>d
def i6 (cs:List Cl)(o rl p:Str)(day:Int):Bool:=cW (Jt (jR cs o rl day)) (.tup [.str "one",.str p])
def zW (n:Nat)(zs:List Str):(zs.map D.str).all (aI n)=true:=by
 induction zs with
 |nil=>rfl
 |cons a l g=>simp
def CF (rl:Str)(g:List Cl):∃ds,oJ rl g=.tup ds/\ds.all (aI 5)=true:=by
 cases g with
 |nil=>exact⟨_,rfl,by simp⟩
 |cons b r=>
  rw[oJ];split
  ·exact⟨_,rfl,by simp only[List.all_cons,List.all_nil,aI,Bool.and_true,Bool.true_and];exact zW _ _⟩
  ·exact⟨_,rfl,by simp⟩
def Fb (h:ds.all (aI 5)=true):(ki ds lo hi).all (aI 5)=true:=by
 rw[List.all_eq_true]at h ⊢;exact λd hd=>h d (List.mem_of_mem_drop (List.mem_of_mem_take hd))
def tW (h:ds.all (aI 5)=true):aI 40 (.tup ds)=true:=io 6 40 _ (by decide) (by simpa only[aI]using h)
def wl (cs:List Cl)(hl:cs.length<=60)(p:Str)(day:Int):cM [.lst (cs.map aV),row h ("root" : Str) [.str o,.int m,.int f,.str rl],.str p,.int day]=sO (i6 cs o rl p day):=by
 have hb:=mS cs hl (h:=h) (o:=o) (rl:=rl) (m:=m) (f:=f) day;obtain⟨ds,e,hd⟩:=CF rl (Mc cs o day);have g:jR cs o rl day=.tup ds:=e;refine au rfl (aw (bi (Jt (jR cs o rl day)) (.tup [.str "one",.str p]) ?_ (by simp[sizeLine]) ?_))
 ·have hc:=Bb (F:=eA) (fa:=fV 0 (fV 1 (fV 3 ai))) (ρ:=[sL (cs.map aV),some (row h ("root" : Str) [.str o,.int m,.int f,.str rl],false),sS p,sI day]) (ds:=[.lst (cs.map aV),row h ("root" : Str) [.str o,.int m,.int f,.str rl],.int day]) rfl hb;rw[g]at hc ⊢;show DY (fA eA (fV 0 (fV 1 (fV 3 ai)))) ls (kh (fI 2)) _=_;unfold DY;rw[show(List.map (λd=>some (d,false)) [D.lst (cs.map aV),row h ("root" : Str) [.str o,.int m,.int f,.str rl],.str p,.int day]++List.replicate 0 none:DL.Env)=[sL (cs.map aV),some (row h ("root" : Str) [.str o,.int m,.int f,.str rl],false),sS p,sI day]from rfl,hc];rfl
 ·unfold i6 cP;rw[if_pos];rw[g];exact⟨tW (Fb hd),tW (by simp)⟩
noncomputable def ay (j:Nat):D->Str
 |.tup [_,.tup (_::aF)]=>match aF[j]? with
  |some (.str s)=>s
  |_=>("" : Str)
 |_=>("" : Str)
noncomputable def fW (j:Nat):D->Int
 |.tup [_,.tup (_::aF)]=>match aF[j]? with
  |some (.int s)=>s
  |_=>0
 |_=>0
def Cd.root_of (h:Cd ("root" : Str) r):∃o rl,∃m f:Int,r=[.str o,.int m,.int f,.str rl]:=by
 generalize hk:("root" : Str)=k at h;cases h with
 |root o rl m f=>exact⟨o,rl,m,f,rfl⟩
 |named=>exact cN hk
 |chosen=>exact cN hk
 |heir=>exact cN hk
 |three _ hh=>rcases hh with rfl|rfl|rfl<;>exact cN hk
 |other _ hh=>rcases hh with rfl|rfl|rfl|rfl|rfl<;>exact cN hk
def tX {κ α:Type}[DecidableEq κ]{ks:List κ}{k:κ}{x y:α}:∀ {xs:List α},y∈dJ ks xs k x->y=x∨y∈xs:=by
 intro xs h;unfold dJ at h;split at h
 ·rename_i g;clear g;induction ks generalizing xs with
  |nil=>simp at h
  |cons a ks G=>
   cases xs with
   |nil=>simp at h
   |cons b xs=>
    rw[List.zipWith_cons_cons,List.mem_cons]at h;rcases h with h|h
    ·split at h
     ·exact .inl h
     ·exact .inr (by rw[h];exact mX)
    ·rcases G h with h|h
     ·exact .inl h
     ·exact .inr (mZ _ h)
 ·rcases List.mem_append.mp h with h|h
  ·exact .inr h
  ·exact .inl (uT h)
theorem tY:∀(l:List (cF×D))(a:List cF×List D)(y:D),y∈(l.foldl qq a).2->y∈a.2∨∃p∈l,p.2=y
 |[],a,y,h=>.inl h
 |p::l,a,y,h=>by
  rw[List.foldl_cons]at h;rcases tY l _ y h with h|⟨q,hq,e⟩
  ·rcases tX (show y∈dJ a.1 a.2 p.1 p.2 from h)with h|h
   ·exact .inr ⟨p,mX,h.symm⟩
   ·exact .inl h
  ·exact .inr ⟨q,mZ _ hq,e⟩
theorem tZ {α:Type}(f:α->Str)(g:α->D):∀(l:List α),iT (l.map λx=>D.tup [.str (f x),g x])=some (l.map λx=>(.inr (f x),g x))
 |[]=>rfl
 |x::l=>by
  rw[uY,iT,tZ f g l];rfl
theorem mT {κ:Type}[DecidableEq κ]:∀ {ks:List κ}{vs:List D}{k:κ}{v:D},bW ks vs k=some v->v∈vs
 |k'::ks,d::ds,k,v,h=>by
  unfold bW at h;split at h
  ·cases h;exact mX
  ·exact mZ _ (mT h)
 |[],_,_,_,h=>by simp[bW]at h
 |_::_,[],_,_,h=>by simp[bW]at h
noncomputable def kL (KL:List (D×Nat)):List (cF×D):=(KL.filter λx=>bu x.1).map λx=>(.inr (ay 0 x.1),x.1)
def jS (KL:List (D×Nat))(o:Str):Option D:=bW (ca (kL KL)).1 (ca (kL KL)).2 (.inr o)
def ro (g:wh r)(h:bu r=true):∃a o rl,∃m f:Int,r=row a ("root" : Str) [.str o,.int m,.int f,.str rl]:=by
 obtain⟨a,k,aF,rfl,d⟩:=g;have hk:k = "root":=of_decide_eq_true h;subst hk;obtain⟨o,rl,m,f,rfl⟩:=d.root_of;exact⟨a,o,rl,m,f,rfl⟩
def dC (g:fU ab)(hx:x∈ak ab aa):lG ab (x.2:Int)=some x.1/\wh x.1:=⟨ce (bo hx),g.2 _ (vL (bo hx))⟩
def yq (g:fU ab)(h:jS (ak ab aa) o=some v):∃a G rl,∃m f:Int,v=row a ("root" : Str) [.str G,.int m,.int f,.str rl]:=by
 have hv:=mT h;rcases tY _ ([],[]) v hv with h|⟨p,hp,e⟩
 ·cases h
 ·obtain⟨x,hx,rfl⟩:=vO hp;obtain⟨h1,h2⟩:=vN hx;rw[←e];exact ro (dC g h1).2 h2
def mU (g:fU ab)(aa:Int):fJ [.tup ab,.int aa]=sF (.dk (ca (kL (ak ab aa))).1 (ca (kL (ak ab aa))).2):=by
 have hl:=cm ab aa;have M:=g.1;have h1:=jP (fi:=bQ (fA cG (fV 0 (fV 1 ai)))) (nT:=1) (cap:=[0]) (tg:=cQ 0) (fe:=f2 bq (aj 1) (aj 0)) (ρ:=[sT ab,sI aa,none]) (ak ab aa) (λx=>.int x.2) Prod.fst
  (by
   show(fA cG (fV 0 (fV 1 ai)) _).bind _=_;rw[aE [.tup ab,.int aa] rfl (kI ab g.rp g.le aa)];rfl) (by omega) λx hx=>by
   have ha:=(dC g hx).1;exact⟨_,rfl,false,by simp[dS,ha]⟩
 have hn:bF ((ak ab aa).map Prod.fst)=true:=bG λd hd=>by
  obtain⟨x,hx,rfl⟩:=vO hd;exact(dC g hx).2.rp.flat
 have h2:=fH (fi:=bQ (aj 2)) (nT:=1) (cap:=[]) (tg:=cQ 0) (c:=ba (f2 cP (fA aL (fV 0 ai)) (fS "root"))) (fe:=fA aP (ae (fA aq (fV 0 (ae (fS "office") ai))) (fV 0 ai)))
  (ρ:=[sT ab,sI aa,lT ((ak ab aa).map Prod.fst)]) (ak ab aa) Prod.fst (λx=>bu x.1) (λx=>.tup [.str (ay 0 x.1),x.1]) (by simp) (by omega) λx hx=>by
   have G:=(dC g hx).2;refine⟨_,rfl,bR (a:=kindOf x.1) (bb:=false) (aE [x.1] rfl (iY G)) rfl,λhp=>⟨false,?_⟩⟩;obtain⟨a,o,rl,m,f,e⟩:=ro G hp;refine aE [.str (ay 0 x.1),x.1] (bJ (aE [x.1,.str "office"] rfl ?_) rfl) (bO _ (by simp));rw[e];exact kK
 refine au rfl (bT (ds:=(ak ab aa).map Prod.fst) h1 hn (aw (aE [.lst (((ak ab aa).filter λx:D×Nat=>bu x.1).map λx:D×Nat=>D.tup [.str (ay 0 x.1),x.1])] (aC h2 rfl) ?_)));rw[j8,tZ (λx:D×Nat=>ay 0 x.1) Prod.fst];rfl
def pe:D×Nat->List (D×Nat)->D×Nat
 |b,[]=>b
 |b,x::r=>if aX (kA x) (kA b)=some true then pe x r else pe b r
theorem wm:∀(r:List (D×Nat))(b:D×Nat),lx (kA b,.int b.2) (r.map λx=>(kA x,D.int x.2))=.int (pe b r).2
 |[],b=>rfl
 |x::r,b=>by
  rw[uY,lx,pe];split
  ·exact wm r x
  ·exact wm r b
def i7 (KL:List (D×Nat))(p:Str)(day:Int)(i:Nat):Bool:=match KL.filter (λx=>told eE p day x.1) with
 |[]=>false
 |b::r=>decide ((pe b r).2=i)
def Fc (g:fU ab)(aa:Int)(hx:x∈ak ab aa)(e:x.1=row a ("death" : Str) [.int d,.str p]):gd [.tup ab,.int aa,.int x.2]=sO (i7 (ak ab aa) p d x.2):=by
 have ha:=(dC g hx).1;have gx:=(dC g hx).2;have ht:=wc ab g.rp g.le aa eE jJ p d;have M:aq [x.1,.str "person"]=sS p:=by rw[e];exact bx (i:=1) cu rfl
 have O:aS [x.1]=sI d:=by rw[e];exact jq (.inl (by decide +kernel)) rfl
 have G:x∈pb ab aa eE p d:=List.mem_filter.mpr ⟨hx,by rw[e];simp[told,row,eE,tV]⟩;have Wa:i7 (ak ab aa) p d x.2=match pb ab aa eE p d with|[]=>false|b::r=>decide ((pe b r).2=x.2):=rfl
 have T:∀y∈pb ab aa eE p d,∃h k dd,ab[y.2]? = some (row h k [.int dd,.str p])/\y.1=row h k [.int dd,.str p]/\cY k=true:=λy hy=>by
  obtain⟨U,Wb⟩:=Bp hy;obtain⟨h,k,dd,e2,h3,_⟩:=rb jJ (g.rp _ (vL U)) Wb;exact⟨h,k,dd,by rw[U,e2],e2,h3⟩
 rw[Wa];cases hs:pb ab aa eE p d with
 |nil=>rw[hs]at G;cases G
 |cons b r=>
  rw[hs]at ht T;have hm:∀ρ:DL.Env,ρ[0]? = some (sT ab)->jj (qg [0] (fA fj (fV 1 (fV 0 ai))) ρ) ((b::r).map λy=>.int y.2)=some ((b::r).map λy=>.tup [.int (aB y.1),.int y.2]):=λρ h0=>
   iq (b::r) λy hy=>by
    obtain⟨h,k,dd,U,e2,h3⟩:=T y hy;show(fA fj _ _).map _=_;rw[aE [.tup ab,.int y.2] (by simp[dS,h0]) (Bq U h3),e2];rfl
  have hk:dH ((b::r).map λy=>D.tup [.int (aB y.1),.int y.2])=some ((b::r).map kA):=gW _ λy _=>rfl;have hz:((b::r).map kA).zip ((b::r).map λy=>D.int y.2)=(kA b,D.int b.2)::r.map λy=>(kA y,D.int y.2):=by rw[List.zip_map'];rfl
  have LK:bF ((b::r).map λy=>D.int y.2)=true:=bG λd hd=>by obtain⟨y,_,rfl⟩:=vO hd;rfl
  refine au rfl (fw x.1 (by simp[ha]) gx.rp.flat (bT (ds:=(b::r).map λy=>.int y.2) (aE [.tup ab,.int aa,.tup (eE.map .str),.str p,.int d] (bJ rfl (bJ rfl (bJ (aE [.str "death"] rfl (bO _ (by simp))) (aC (aE [x.1,.str "person"] rfl M) (aC (aE [x.1] rfl O) rfl))))) ht) LK (aw (bi (.int (pe b r).2) (.int x.2) ?_ rfl ?_))))
  ·unfold tH Le;show((some (D.lst ((b::r).map λy=>D.int y.2),false)).bind _)=_;rw[vJ];dsimp only;rw[hm _ rfl,vJ,hk,vJ,if_pos (wg _),hz];show some (lx _ _,false)=_;rw[wm]
  ·rw[Bd];congr 3;apply decide_eq_decide.mpr;omega
abbrev KL:=List (D×Nat)
noncomputable def rq (K:KL)(p:Str)(day:Int):Bool:=(K.filter λx=>told eE p day x.1).isEmpty
def NN (K:KL)(p:Str)(day:Int):Bool:=match Js (K.filter λx=>told mN p day x.1) with
 |none=>true
 |some x=>decide (kindOf x.1 = "found")
def wn (K:KL)(r:D):Bool:=eD (kindOf r) && (rq K (bM r) (aB r) && NN K (bM r) (aB r))
def wo (r:D):Str:=if kindOf r = "named" then ay 1 r else ay 2 r
noncomputable def sg:List Str:=[("named" : Str),"chosen","heir"]
def cB (K:KL)(g:List Cl)(x:D×Nat):Bool :=
 if kindOf x.1 = "death" then i7 K (ay 1 x.1) (aB x.1) x.2
 else if kindOf x.1∈sg then match jS K (wo x.1) with
  |none=>false
  |some v=>if kindOf x.1 = "named" then true else wn K x.1 && i6 g (ay 0 v) (ay 3 v) (ay 1 x.1) (aB x.1)
 else false
def HU (ab:List D)(aa:Int)(p:Str)(day:Int):nY ab aa p day=rq (ak ab aa) p day:=rfl
def HV (h:bc r<=aa):gg ab aa r=wn (ak ab aa) r:=by
 unfold gg wn;rw[decide_eq_true h,Bool.true_and];rfl
def CG (g:fU ab)(aa:Int)(G:List Cl)(Rp:G.length<=60)(hx:x∈ak ab aa)(O:bu x.1=false):mH [.tup ab,.int aa,.lst (G.map aV),.int x.2]=sO (cB (ak ab aa) G x):=by
 obtain⟨ha,U⟩:=dC g hx;have hh:bc x.1<=aa:=of_decide_eq_true (vN hx).2;have hf:bj x.1=true:=U.rp.flat;have hw:∀ρ:DL.Env,ρ[4]? = some (some (x.1,false))->fA aL (fV 4 ai) ρ=sS (kindOf x.1):=λρ h4=>aE [x.1] (by simp[h4]) (iY U);have M:∀ρ:DL.Env,ρ[4]? = some (some (x.1,false))->ba (f2 hW (fA aL (fV 4 ai)) (fA aP (ae (fS "named") (ae (fS "chosen") (ae (fS "heir") ai))))) ρ=some (!decide (kindOf x.1∈sg)):=λρ h4=>
  cz (bi (.str (kindOf x.1)) (.tup (sg.map .str)) (hw ρ h4) (by simp[sizeLine,sg]) (oF _ _))
 by_cases hd:kindOf x.1 = "death"
 ·obtain⟨a,k,aF,e,d⟩:=U;have hk:k = "death":=by rw[e]at hd;exact hd
  subst hk;obtain⟨dd,p,rfl⟩:=d.deed.three (by decide +kernel);have hc:cB (ak ab aa) G x=i7 (ak ab aa) p dd x.2:=by
   unfold cB;rw[if_pos hd,e];rfl
  rw[hc];exact au rfl (fw x.1 (by simp[ha]) hf (bp (bR (bb:=false) (hw _ rfl) (decide_eq_true hd)) (aw (aE [.tup ab,.int aa,.int x.2] rfl (Fc g aa hx e)))))
 ·by_cases h3:kindOf x.1∈sg
  ·have LM:aq [x.1,.str "office"]=sS (wo x.1):=by
    obtain⟨a,k,aF,e,d⟩:=U;rw[e]at h3 hd O ⊢;replace h3:k∈sg:=h3;clear hd O;cases d with
    |root=>exact cN h3
    |named d o p=>exact bx (i:=1) cu rfl
    |chosen d b o p s=>exact bx (i:=2) cu rfl
    |heir d b o p=>exact bx (i:=2) cu rfl
    |three _ hk=>rcases hk with rfl|rfl|rfl<;>exact cN h3
    |other _ hk=>rcases hk with rfl|rfl|rfl|rfl|rfl<;>exact cN h3
   have e5:∀ρ:DL.Env,ρ[0]? = some (sT ab)->ρ[1]? = some (sI aa)->ρ[4]? = some (some (x.1,false))->f2 E2 (fA fJ (fV 0 (fV 1 ai))) (fA aq (fV 4 (ae (fS "office") ai))) ρ=some ((jS (ak ab aa) (wo x.1)).getD .non,false):=λρ q0 q1 q4=>
    bi (.dk (ca (kL (ak ab aa))).1 (ca (kL (ak ab aa))).2) (.str (wo x.1)) (aE [.tup ab,.int aa] (by simp[q0,q1]) (mU g aa)) (aE [x.1,.str "office"] (by simp[q4]) LM) rfl
   cases hr:jS (ak ab aa) (wo x.1) with
   |none=>
    rw[hr]at e5;have hc:cB (ak ab aa) G x=false:=by unfold cB;rw[if_neg hd,if_pos h3,hr]
    rw[hc];exact au rfl (fw x.1 (by simp[ha]) hf (a9 (bR (bb:=false) (hw _ rfl) (decide_eq_false hd)) (a9 (by rw[M _ rfl,decide_eq_true h3];rfl) (fw .non (e5 _ rfl rfl rfl) rfl (bp (cz (bi .non .non rfl rfl (by simp))) (aw rfl))))))
   |some v=>
    rw[hr]at e5;obtain⟨va,vo,Xg,vm,vf,ev⟩:=yq g hr;have Tz:bj v=true:=by rw[ev];rfl
    have T0:A6 v .non=sO false:=by rw[ev];simp[row]
    by_cases hn:kindOf x.1 = "named"
    ·have hc:cB (ak ab aa) G x=true:=by unfold cB;rw[if_neg hd,if_pos h3,hr];dsimp only;rw[if_pos hn]
     rw[hc];exact au rfl (fw x.1 (by simp[ha]) hf (a9 (bR (bb:=false) (hw _ rfl) (decide_eq_false hd)) (a9 (by rw[M _ rfl,decide_eq_true h3];rfl) (fw v (e5 _ rfl rfl rfl) Tz (a9 (cz (bi v .non rfl rfl T0)) (bp (bR (bb:=false) (hw _ rfl) (decide_eq_true hn)) (aw rfl)))))))
    ·have hc:cB (ak ab aa) G x=(wn (ak ab aa) x.1 && i6 G (ay 0 v) (ay 3 v) (ay 1 x.1) (aB x.1)):=by unfold cB;rw[if_neg hd,if_pos h3,hr];dsimp only;rw[if_neg hn]
     have T1:aq [x.1,.str "by"]=sS (ay 1 x.1)/\aS [x.1]=sI (aB x.1):=by
      refine⟨?_,by rw[re U];unfold se;rw[O];rfl⟩;obtain⟨a,k,aF,e,d⟩:=U;rw[e]at h3 hn ⊢;replace h3:k∈sg:=h3;cases d with
      |root=>exact cN h3
      |named=>exact absurd rfl hn
      |chosen d b o p s=>exact bx (i:=1) cu rfl
      |heir d b o p=>exact bx (i:=1) cu rfl
      |three _ hk=>rcases hk with rfl|rfl|rfl<;>exact cN h3
      |other _ hk=>rcases hk with rfl|rfl|rfl|rfl|rfl<;>exact cN h3
     have hs:=mO ab g.rp g.le aa (bo hx);rw[HV hh]at hs;have T:cM [.lst (G.map aV),v,.str (ay 1 x.1),.int (aB x.1)]=sO (i6 G (ay 0 v) (ay 3 v) (ay 1 x.1) (aB x.1)):=by
      rw[ev];exact wl G Rp _ _
     rw[hc];refine au rfl (fw x.1 (by simp[ha]) hf (a9 (bR (bb:=false) (hw _ rfl) (decide_eq_false hd)) (a9 (by rw[M _ rfl,decide_eq_true h3];rfl) (fw v (e5 _ rfl rfl rfl) Tz (a9 (cz (bi v .non rfl rfl T0)) (a9 (bR (bb:=false) (hw _ rfl) (decide_eq_false hn)) (aw ?_)))))));exact dE (b1:=false) (aE [.tup ab,.int aa,.int x.2] rfl hs) λ_=>aE [.lst (G.map aV),v,.str (ay 1 x.1),.int (aB x.1)] (bJ rfl (bJ rfl (aC (aE [x.1,.str "by"] rfl T1.1) (aC (aE [x.1] rfl T1.2) rfl)))) T
  ·have hc:cB (ak ab aa) G x=false:=by unfold cB;rw[if_neg hd,if_neg h3]
   rw[hc];exact au rfl (fw x.1 (by simp[ha]) hf (a9 (bR (bb:=false) (hw _ rfl) (decide_eq_false hd)) (bp (by rw[M _ rfl,decide_eq_false h3];rfl) (aw rfl))))
def gh (g:List Str)(p:Str)(day:Int)(c:Cl):List Cl :=
 if(!decide (c.o∈g) || (!decide (c.p=p) || !(iu c day || decide (day<c.s))))=true then [c]else if c.s<day then [⟨c.o,p,c.s,some day,c.n⟩]else []
noncomputable def cn (G:List Cl)(g:List Str)(p:Str)(day:Int):List Cl:=G.flatMap (gh g p day)
theorem gk (g:List Str)(p:Str)(day:Int):∀G:List Cl,(cn G g p day).length<=G.length
 |[]=>vT _
 |c::G=>by
  unfold cn;rw[uO,uZ,vE];have h1:=gk g p day G;have h2:(gh g p day c).length<=1:=by
   unfold gh;split
   ·simp
   ·split<;>simp
  unfold cn at h1;omega
def zX (k:Str)(g:List Str):hW (.str k) (.lst (g.map .str))=sO (!decide (k∈g)):=by
 simp only[hW,hV,vJ,qZ];rw[if_pos ⟨rfl,nW g⟩]
def yr (M:List Cl)(Rp:M.length<=60)(G:List Str)(p:Str)(day:Int):p8 [.lst (M.map aV),.lst (G.map .str),.str p,.int day]=lT ((cn M G p day).map aV):=by
 obtain⟨ρ',e,v5,rfl⟩:=jm (tg:=cQ 5) (g:=qL) (λj ρ=>∃v5:OB,ρ=[sL (M.map aV),sL (G.map .str),sS p,sI day,lT ((cn (M.take j) G p day).map aV),v5]) (M.map aV)
  [sL (M.map aV),sL (G.map .str),sS p,sI day,lT [],none] ⟨none,rfl⟩ (by
   rintro j d ρ hd ⟨v5,rfl⟩;rw[vA]at hd;obtain⟨c,hc,rfl⟩:=oY hd;have hj:j<M.length:=(vV hc).1;have et:cn (M.take (j+1)) G p day=cn (M.take j) G p day++gh G p day c:=by
    unfold cn;rw[List.take_add_one,hc,Option.toList_some,List.flatMap_append,uO,List.flatMap_nil,uQ]
   have jW:(cn (M.take j) G p day).length<=60:=vR (gk G p day _) (by rw[List.length_take];omega);let T:DL.Env:=[sL (M.map aV),sL (G.map .str),sS p,sI day,lT ((cn (M.take j) G p day).map aV),some (aV c,false)];have q0:cA 5 0 T=sS c.o:=bi (aV c) (.int 0) rfl rfl (Mb c);have q1:cA 5 1 T=sS c.p:=bi (aV c) (.int 1) rfl rfl (Lu c);have q2:cA 5 2 T=sI c.s:=bi (aV c) (.int 2) rfl rfl (OY c);have q4:cA 5 4 T=sI c.n:=bi (aV c) (.int 4) rfl rfl (OZ c);have O:je (ba (f2 hW (cA 5 0) (aj 1))) (je (ba (f2 pv (cA 5 1) (aj 2))) (eM (je (ba (fA cS (fV 5 (fV 3 ai)))) (ba (f2 Ax (cA 5 2) (aj 3)))))) T=some (!decide (c.o∈G) || (!decide (c.p=p) || !(iu c day || decide (day<c.s)))) :=
    cR (cz (bi (.str c.o) (.lst (G.map .str)) q0 rfl (zX _ _))) λ_=>cR (cz (bi (.str c.p) (.str p) q1 rfl (by simp))) λ_=>bU (cR (cz (aE [aV c,.int day] rfl (rf c day))) λ_=>cz (bi (.int c.s) (.int day) q2 rfl (by simp)))
   by_cases h1:(!decide (c.o∈G) || (!decide (c.p=p) || !(iu c day || decide (day<c.s))))=true
   ·have U:gh G p day c=[c]:=by unfold gh;rw[if_pos h1]
    rw[h1]at O;refine⟨_,_,rfl,.inl (lO O (j9 (ds:=(cn (M.take j) G p day).map aV) (d:=aV c) (b:=false) rfl rfl (mP c) (bK (by simp;omega)))),some (aV c,false),?_⟩;rw[et,U,uW];rfl
   ·rw[Bool.not_eq_true]at h1;rw[h1]at O;by_cases h2:c.s<day
    ·have U:gh G p day c=[⟨c.o,p,c.s,some day,c.n⟩]:=by unfold gh;rw[if_neg (by rw[h1];decide),if_pos h2]
     refine⟨_,_,rfl,.inl (mB O (lO (cz (bi (.int c.s) (.int day) q2 rfl (by simp[h2]))) (j9 (ds:=(cn (M.take j) G p day).map aV) (d:=aV ⟨c.o,p,c.s,some day,c.n⟩) (b:=false) rfl (aE [.str c.o,.str p,.int c.s,.int day,.int c.n] (aC q0 (bJ rfl (aC q2 (bJ rfl (aC q4 rfl))))) (bO _ (by simp))) (mP _) (bK (by simp;omega))))),some (aV c,false),?_⟩;rw[et,U,uW];rfl
    ·have U:gh G p day c=[]:=by unfold gh;rw[if_neg (by rw[h1];decide),if_neg h2]
     refine⟨_,_,rfl,.inl (mB O (mB (cz (bi (.int c.s) (.int day) q2 rfl (by simp;omega))) rfl)),some (aV c,false),?_⟩;rw[et,U,uQ];rfl)
 have e':iG (cQ 5) qL (M.map aV) [sL (M.map aV),sL (G.map .str),sS p,sI day,lT [],none]=some (.nx [sL (M.map aV),sL (G.map .str),sS p,sI day,lT ((cn M G p day).map aV),v5]):=by
  rw[e];have:M.take (M.map aV).length=M:=by rw[vI,List.take_length]
  rw[this]
 exact au rfl (bT (ds:=[]) (by simp[sizeLine]) rfl (dL (mE (ds:=M.map aV) (by simp[mn]) e') (mC rfl)))
def Ju (ho:aq [r,.str "office"]=sS o)(hp:aq [r,.str "person"]=sS p)(s:Int)(n:Nat):gA [r,.int s,.int n]=some (aV ⟨o,p,s,none,n⟩,false) :=
 au rfl (aw (aE [.str o,.str p,.int s,.non,.int n] (aC (aE [r,.str "office"] rfl ho) (aC (aE [r,.str "person"] rfl hp) rfl)) (bO _ (by simp))))
def CH (g:List Cl)(G:g.length<=60)(n:Nat):ig [.lst (g.map aV),row a ("chosen" : Str) [.int d,.str b,.str o,.str p,.int s],.int n]=lT ((cn g [o] b s++[(⟨o,p,s,none,n⟩:Cl)]).map aV):=by
 let r:D:=row a ("chosen" : Str) [.int d,.str b,.str o,.str p,.int s];have ho:aq [r,.str "office"]=sS o:=bx (i:=2) cu rfl;have hp:aq [r,.str "person"]=sS p:=bx (i:=3) cu rfl;have hb:aq [r,.str "by"]=sS b:=bx (i:=1) cu rfl;have hs:aq [r,.str "since"]=sI s:=bx (i:=4) cu rfl;have hl:=gk [o] b s g;refine au rfl (fw (.int s) (aE [r,.str "since"] rfl hs) rfl (bT (ds:=(cn g [o] b s).map aV) (aE [.lst (g.map aV),.lst ([o].map .str),.str b,.int s] (bJ rfl (aC (b:=true) (aE [.str o] (aC (aE [r,.str "office"] rfl ho) rfl) (dn _ (by simp))) (aC (aE [r,.str "by"] rfl hb) rfl))) (yr g G [o] b s)) (ir _) (aw ?_)));refine fx (x:=.lst ((cn g [o] b s).map aV)) (y:=.lst [aV ⟨o,p,s,none,n⟩]) (b1:=false) (b2:=true) rfl (aE [aV ⟨o,p,s,none,n⟩] (aC (aE [r,.int s,.int n] rfl (Ju ho hp s n)) rfl) (dn _ (by simp))) ?_;rw[uW];exact if_pos (dB (by rw[vI,List.length_singleton];omega))
noncomputable def yt (hk:List (List cF))(hv:List D)(o p:Str):Option Str:=match bW hk hv [.inr o,.inr p] with
 |some (.str h)=>some h
 |_=>none
def dF (K:KL)(hk:List (List cF))(hv:List D)(p:Str)(day:Int)(n:Nat)(o:Str):List Cl:=match yt hk hv o p with
 |some h=>if rq K h day=true then [⟨o,h,day,none,n⟩]else []
 |none=>[]
def cZ (g:List Cl)(p:Str)(day:Int):List Str:=kn (ia ((g.filter λc=>decide (c.p=p) && iu c day).map (·.o)))
def rz (K:KL)(g:List Cl)(hk:List (List cF))(hv:List D)(p:Str)(day:Int)(n:Nat):List Cl:=(cZ g p day).flatMap (dF K hk hv p day n)
def lW (K:KL)(hk:List (List cF))(hv:List D)(p:Str)(day:Int)(n:Nat)(o:Str):(dF K hk hv p day n o).length<=1:=by
 unfold dF;split
 ·split<;>simp
 ·simp
theorem r0 {α g:Type}(f:α->List g)(h:∀a,(f a).length<=1):∀l:List α,(l.flatMap f).length<=l.length
 |[]=>vT _
 |a::l=>by
  rw[uO,uZ,vE];have:=h a;have:=r0 f h l;omega
def yu (g:List Cl)(p:Str)(day:Int):(cZ g p day).length<=g.length:=by
 unfold cZ;rw[(dw _).length_eq];refine vR (mw _) ?_;rw[vI];exact vM _ _
def wt (g:fU ab)(aa:Int)(G:List Cl)(Rp:G.length<=60)(hk:List (List cF))(hv:List D)(Wc:∀v∈hv,∃s,v=.str s)(hx:x∈ak ab aa)(e:x.1=row a ("death" : Str) [.int d,.str p]):
  k9 [.tup ab,.int aa,.lst (G.map aV),.dt hk hv,.int x.2]=lT ((rz (ak ab aa) G hk hv p d x.2).map aV):=by
 have ha:=(dC g hx).1;have O5:aq [x.1,.str "person"]=sS p:=by rw[e];exact bx (i:=1) cu rfl
 have FR:aS [x.1]=sI d:=by rw[e];exact jq (.inl (by decide +kernel)) rfl
 have T2:=yu G p d;have O6:∀(o:Str)(l:List Cl)(O:OB),l.length<=60->gR [sT ab,sI aa,sL (G.map aV),sF (.dt hk hv),sI x.2,sS p,sI d,lT (l.map aV),sS o,O]=some (.nx [sT ab,sI aa,sL (G.map aV),sF (.dt hk hv),sI x.2,sS p,sI d,lT ((l++dF (ak ab aa) hk hv p d x.2 o).map aV),sS o,some ((bW hk hv [.inr o,.inr p]).getD .non,false)]):=λo l O hl=>by
  have eg:EA (aj 3) (fV 8 (fV 5 ai)) [sT ab,sI aa,sL (G.map aV),sF (.dt hk hv),sI x.2,sS p,sI d,lT (l.map aV),sS o,O]=some ((bW hk hv [.inr o,.inr p]).getD .non,false):=by
   simp[iJ,sizeLine]
  cases M:bW hk hv [.inr o,.inr p] with
  |none=>
   rw[M]at eg;have ei:dF (ak ab aa) hk hv p d x.2 o=[]:=by unfold dF yt;rw[M]
   rw[ei,uQ];exact fw .non eg rfl (mB (dM (p:=false) (q:=false) (cz (by simp)) (by simp)) rfl)
  |some v=>
   obtain⟨h,rfl⟩:=Wc v (mT M);rw[M]at eg;have Ps:=yn ab g.rp g.le aa h d;rw[HU]at Ps;have U:∀ρ:DL.Env,ρ[0]? = some (sT ab)->ρ[1]? = some (sI aa)->ρ[6]? = some (sI d)->ρ[9]? = some (sS h)->eK (ba (f2 gJ (aj 9) (fC .non))) (ba (fA mF (fV 0 (fV 1 (fV 9 (fV 6 ai)))))) ρ=some (true && rq (ak ab aa) h d):=λρ q0 q1 q6 q9=>
    dM (cz (by simp[q9])) λ_=>cz (aE [.tup ab,.int aa,.str h,.int d] (by simp[q0,q1,q6,q9]) Ps)
   cases T:rq (ak ab aa) h d with
   |false=>
    have ei:dF (ak ab aa) hk hv p d x.2 o=[]:=by unfold dF yt;rw[M];dsimp only;rw[T];rfl
    rw[ei,uQ];exact fw (.str h) eg rfl (mB (by rw[U _ rfl rfl rfl rfl,T];rfl) rfl)
   |true=>
    have ei:dF (ak ab aa) hk hv p d x.2 o=[⟨o,h,d,none,x.2⟩]:=by unfold dF yt;rw[M];dsimp only;rw[T];rfl
    rw[ei,uW];exact fw (.str h) eg rfl (lO (by rw[U _ rfl rfl rfl rfl,T];rfl) (j9 (ds:=l.map aV) (d:=aV ⟨o,h,d,none,x.2⟩) (b:=false) rfl (aE [.str o,.str h,.int d,.non,.int x.2] rfl (bO _ (by simp))) rfl (bK (by simp;omega))))
 obtain⟨ρ',el,v8,O,rfl⟩:=jm (tg:=cQ 8) (g:=gR) (λj ρ=>∃v8 O:OB,ρ=[sT ab,sI aa,sL (G.map aV),sF (.dt hk hv),sI x.2,sS p,sI d,lT ((((cZ G p d).take j).flatMap (dF (ak ab aa) hk hv p d x.2)).map aV),v8,O]) ((cZ G p d).map .str)
  [sT ab,sI aa,sL (G.map aV),sF (.dt hk hv),sI x.2,sS p,sI d,lT [],none,none] ⟨none,none,rfl⟩ (by
   rintro j dd ρ hd ⟨v8,O,rfl⟩;rw[vA]at hd;obtain⟨o,ho,rfl⟩:=oY hd;have hl:(((cZ G p d).take j).flatMap (dF (ak ab aa) hk hv p d x.2)).length<=60:=vR (r0 _ (lW _ _ _ _ _ _) _) (by rw[List.length_take];omega);refine⟨_,_,rfl,.inl (O6 o _ O hl),sS o,some ((bW hk hv [.inr o,.inr p]).getD .non,false),?_⟩;rw[List.take_add_one,ho,Option.toList_some,List.flatMap_append,uO,List.flatMap_nil,uQ])
 have e':iG (cQ 8) gR ((cZ G p d).map .str) [sT ab,sI aa,sL (G.map aV),sF (.dt hk hv),sI x.2,sS p,sI d,lT [],none,none]=some (.nx [sT ab,sI aa,sL (G.map aV),sF (.dt hk hv),sI x.2,sS p,sI d,lT ((rz (ak ab aa) G hk hv p d x.2).map aV),v8,O]):=by
  rw[el];have:(cZ G p d).take ((cZ G p d).map D.str).length=cZ G p d:=by rw[vI,List.take_length]
  rw[this];rfl
 have Rq:∀ρ:DL.Env,ρ[2]? = some (sL (G.map aV))->ρ[5]? = some (sS p)->ρ[6]? = some (sI d)->bQ (f1 eU (bI (bQ (aj 2)) 1 [5,6] (cQ 0) (eK (ba (f2 cP (cA 0 1) (aj 1))) (ba (fA cS (fV 0 (fV 2 ai))))) (cA 0 0))) ρ=some ((cZ G p d).map .str):=λρ q2 q5 q6=>by
  have hc:=fH (fi:=bQ (aj 2)) (nT:=1) (cap:=[5,6]) (tg:=cQ 0) (c:=eK (ba (f2 cP (cA 0 1) (aj 1))) (ba (fA cS (fV 0 (fV 2 ai))))) (fe:=cA 0 0) (ρ:=ρ) G aV (λc=>decide (c.p=p) && iu c d) (λc=>.str c.o) (by simp[q2]) (by omega) λc hc=>
   ⟨_,rfl,dM (cz (bi (.str c.p) (.str p) (bi (aV c) (.int 1) (by simp[dS]) rfl (Lu c)) (by simp[dS,q5]) (by simp))) λ_=>cz (aE [aV c,.int d] (by simp[dS,q6]) (rf c d)),λ_=>⟨false,bi (aV c) (.int 0) (by simp[dS]) rfl (Mb c)⟩⟩
  have e2:(G.filter λc=>decide (c.p=p) && iu c d).map (λc=>D.str c.o)=((G.filter λc=>decide (c.p=p) && iu c d).map (·.o)).map .str:=by rw[uP];rfl
  rw[e2]at hc;show(f1 eU _ ρ).bind _=_;unfold f1;rw[hc,vJ];have Wd:((G.filter λc=>decide (c.p=p) && iu c d).map (·.o)).length<64:=by rw[vI];exact Nat.lt_of_le_of_lt (vM _ _) (by omega)
  show((gO _).bind _).bind _=_;rw[mR,vJ,if_pos Wd];rfl
 refine au rfl (fw (.str p) (aE [x.1,.str "person"] (by simp[ha]) O5) rfl (fw (.int d) (aE [x.1] (by simp[ha]) FR) rfl (bT (ds:=[]) (by simp[sizeLine]) rfl (dL (ρ':=[sT ab,sI aa,sL (G.map aV),sF (.dt hk hv),sI x.2,sS p,sI d,lT ((rz (ak ab aa) G hk hv p d x.2).map aV),v8,O]) ?_ (mC rfl)))));exact mE (ρ:=[sT ab,sI aa,sL (G.map aV),sF (.dt hk hv),sI x.2,sS p,sI d,lT [],none,none]) (Rq _ rfl rfl rfl) e'
def Fd (g:fU ab)(aa:Int)(G:List Cl)(M:G.length<=60)(hk:List (List cF))(hv:List D)(U:∀v∈hv,∃s,v=.str s)(hx:x∈ak ab aa)(e:x.1=row a ("death" : Str) [.int d,.str p]):
  iU [.tup ab,.int aa,.lst (G.map aV),.dt hk hv,.int x.2]=lT ((cn G (G.map Cl.o) p d++rz (ak ab aa) G hk hv p d x.2).map aV):=by
 have ha:=(dC g hx).1;have O:aq [x.1,.str "person"]=sS p:=by rw[e];exact bx (i:=1) cu rfl
 have T:aS [x.1]=sI d:=by rw[e];exact jq (.inl (by decide +kernel)) rfl
 have h1:=jP (fi:=bQ (aj 2)) (nT:=1) (cap:=[]) (tg:=cQ 0) (fe:=cA 0 0) (ρ:=[sT ab,sI aa,sL (G.map aV),sF (.dt hk hv),sI x.2,none,none]) G aV (λc=>.str c.o) (by simp) (by omega) λc hc=>⟨_,rfl,false,bi (aV c) (.int 0) (by simp[dS]) rfl (Mb c)⟩;have e2:G.map (λc=>D.str c.o)=(G.map Cl.o).map .str:=by rw[uP];rfl
 rw[e2]at h1;have J7:=gk (G.map Cl.o) p d G;have IF:(rz (ak ab aa) G hk hv p d x.2).length<=60:=vR (r0 _ (lW _ _ _ _ _ _) _) (vR (yu G p d) M);refine au rfl (bT (ds:=(G.map Cl.o).map .str) h1 (dr _) (bT (ds:=(cn G (G.map Cl.o) p d).map aV) (aE [.lst (G.map aV),.lst ((G.map Cl.o).map .str),.str p,.int d] (bJ rfl (bJ rfl (bJ (aE [x.1,.str "person"] (by simp[ha]) O) (bJ (aE [x.1] (by simp[ha]) T) rfl)))) (yr G M _ p d)) (ir _) (aw ?_)));refine fx (x:=.lst ((cn G (G.map Cl.o) p d).map aV)) (y:=.lst ((rz (ak ab aa) G hk hv p d x.2).map aV)) (b1:=false) (b2:=true) rfl (aE [.tup ab,.int aa,.lst (G.map aV),.dt hk hv,.int x.2] rfl (wt g aa G M hk hv U hx e)) ?_;rw[uW];exact if_pos (dB (by rw[vI,vI];omega))
abbrev Jv:=List Cl×List (List cF)×List D
def dN (K:KL)(st:Jv)(x:D×Nat):Jv :=
 if cB K st.1 x=true then
  if kindOf x.1 = "named" then (st.1++[⟨ay 1 x.1,ay 2 x.1,aB x.1,none,x.2⟩],st.2)
  else if kindOf x.1 = "chosen" then (cn st.1 [ay 2 x.1] (ay 1 x.1) (fW 4 x.1)++[⟨ay 2 x.1,ay 3 x.1,fW 4 x.1,none,x.2⟩],st.2)
  else if kindOf x.1 = "heir" then (st.1,dI st.2.1 [.inr (ay 2 x.1),.inr (ay 1 x.1)],dJ st.2.1 st.2.2 [.inr (ay 2 x.1),.inr (ay 1 x.1)] (.str (ay 3 x.1)))
  else (cn st.1 (st.1.map Cl.o) (ay 1 x.1) (aB x.1)++rz K st.1 st.2.1 st.2.2 (ay 1 x.1) (aB x.1) x.2,st.2)
 else st
def cy (K:KL):KL:=g7 (λx=>cH (kA x)) (K.filter λx=>!bu x.1)
noncomputable def mV (K:KL)(l:KL):Jv:=l.foldl (dN K) ([],[],[])
noncomputable def kC (c:Cl):List At:=[.s c.o,.i c.s,.i c.n]
def aT (K:KL):List Cl:=g7 (λc=>cH (kC c)) (mV K (cy K)).1
noncomputable def zY:List cF->Str
 |[_,.inr p]=>p
 |_=>("" : Str)
noncomputable def HW (dd:List Str)(ks:List (List cF)):Nat:=(ks.filter λk=>decide (zY k∉dd)).length
structure yR (K l:KL)(dd:List Str)(st:Jv):Prop where
 len:st.1.length+HW dd st.2.1<=l.length
 ded:∀q∈dd,∃y∈l,i7 K q (aB y.1) y.2=true
 nod:(st.1.map λc=>(c.o,c.n)).Nodup
 num:∀c∈st.1,c.n∈l.map (·.2)
 hs:∀v∈st.2.2,∃s,v=D.str s
 hk:st.2.1.length<=l.length
def Bv (h:told ws p d r=true):aB r<=d/\∀d',aB r<=d'->told ws p d' r=true:=by
 unfold told at h;split at h
 ·rename_i k aF;rw[vC]at h;obtain⟨h1,h2⟩:=h;unfold tV at h2;split at h2
  ·rename_i dd q;rw[vC]at h2;refine⟨of_decide_eq_true h2.2,λd' hd=>?_⟩;unfold told;rw[vC];refine⟨h1,?_⟩;unfold tV;rw[vC];exact⟨h2.1,decide_eq_true hd⟩
  ·cases h2
 ·cases h
theorem r6:∀(r:KL)(b:D×Nat),pe b r∈b::r/\∀y∈b::r,bX y (pe b r)=false
 |[],b=>⟨by simp[pe],λy hy=>by rw[uT hy];simp[pe,bX]⟩
 |x::r,b=>by
  rw[pe,we];by_cases h:bX x b=true
  ·rw[if_pos (by rw[h])];obtain⟨h1,h2⟩:=r6 r x;refine⟨mZ _ h1,λy hy=>?_⟩;rcases vP hy with rfl|hy
   ·have:=h2 x mX;unfold bX at *;simp at *;omega
   ·exact h2 y hy
  ·rw[if_neg (by simpa using h)];obtain⟨h1,h2⟩:=r6 r b;refine⟨?_,λy hy=>?_⟩
   ·rcases vP h1 with e|e
    ·rw[e];exact mX
    ·exact mZ _ (mZ _ e)
   ·rcases vP hy with rfl|hy
    ·exact h2 _ mX
    ·rcases vP hy with rfl|hy
     ·have:=h2 b mX;unfold bX at *;simp at *;omega
     ·exact h2 y (mZ _ hy)
def rA (h:i7 K p d i=true):∃m∈K,told eE p d m.1=true/\m.2=i/\∀y∈K,told eE p d y.1=true->bX y m=false:=by
 unfold i7 at h;split at h
 ·cases h
 ·rename_i b r e;obtain⟨h1,h2⟩:=r6 r b;rw[←e]at h1 h2;obtain⟨h3,h4⟩:=vN h1;exact⟨_,h3,h4,of_decide_eq_true h,λy hy g=>h2 y (List.mem_filter.mpr ⟨hy,g⟩)⟩
def zZ (h1:i7 K p d1 i1=true)(h2:i7 K p d2 i2=true):i1=i2:=by
 obtain⟨M,k1,t1,e1,T⟩:=rA h1;obtain⟨O,k2,t2,e2,U⟩:=rA h2;have a1:=Bv t1;have a2:=Bv t2;by_cases hd:d1<=d2
 ·have g:=U M k1 (a1.2 d2 (by omega));have hm:aB O.1<=aB M.1:=by unfold bX at g;simp at g;omega
  have G:=T O k2 (a2.2 d1 (by omega));unfold bX at g G;simp at g G;omega
 ·have g:=T O k2 (a2.2 d1 (by omega));have hm:aB M.1<=aB O.1:=by unfold bX at g;simp at g;omega
  have G:=U M k1 (a1.2 d2 (by omega));unfold bX at g G;simp at g G;omega
theorem yv {κ:Type}[DecidableEq κ]:∀ {ks:List κ}{vs:List D}{k:κ}{v:D},bW ks vs k=some v->k∈ks
 |k'::ks,d::ds,k,v,h=>by
  unfold bW at h;split at h
  ·rename_i e;rw[←e];exact mX
  ·exact mZ _ (yv h)
 |[],_,_,_,h=>by simp[bW]at h
 |_::_,[],_,_,h=>by simp[bW]at h
theorem rB (p:Str)(dd:List Str)(hp:p∉dd):∀ks:List (List cF),HW dd ks=HW (p::dd) ks+(ks.filter λk=>decide (zY k=p)).length
 |[]=>rfl
 |k::ks=>by
  have g:=rB p dd hp ks;unfold HW at g ⊢;by_cases e:zY k=p
  ·rw[List.filter_cons_of_pos (by simpa [e]using hp),List.filter_cons_of_neg (by simp[e]),List.filter_cons_of_pos (by simp[e]),vE,vE];omega
  ·by_cases h:zY k∈dd
   ·rw[List.filter_cons_of_neg (by simp[h]),List.filter_cons_of_neg (by simp[h]),List.filter_cons_of_neg (by simp[e])];exact g
   ·rw[List.filter_cons_of_pos (by simp[h]),List.filter_cons_of_pos (by simp[h,e]),List.filter_cons_of_neg (by simp[e]),vE,vE];omega
theorem lg (g:List Str)(p:Str)(day:Int):∀G:List Cl,((cn G g p day).map λc=>(c.o,c.n)).Sublist (G.map λc=>(c.o,c.n))
 |[]=>List.Sublist.slnil
 |c::G=>by
  have M:=lg g p day G;unfold cn at M ⊢;rw[uO,uW,uY];have:((gh g p day c).map λc=>(c.o,c.n))=[(c.o,c.n)]∨((gh g p day c).map λc=>(c.o,c.n))=[]:=by
   unfold gh;split
   ·exact .inl rfl
   ·split
    ·exact .inl rfl
    ·exact .inr rfl
  rcases this with h|h
  ·rw[h];exact M.cons₂ _
  ·rw[h];exact M.cons _
def gX (h:c∈cn so offs p day):∃g∈so,g.o=c.o/\g.n=c.n:=by
 have:=(lg offs p day so).subset (uS ⟨c,h,rfl⟩);obtain⟨g,h1,h2⟩:=vO this;injection h2 with h3 h4;exact⟨g,h1,h3,h4⟩
theorem jr:∀(g G:List Str),G.Nodup->(g.foldl j7 G).Nodup
 |[],_,h=>h
 |s::g,G,h=>jr g _ (z9 h s)
theorem iA:∀(g G:List Str)(x:Str),x∈g.foldl j7 G->x∈G∨x∈g
 |[],_,_,h=>.inl h
 |s::g,G,x,h=>by
  rcases iA g _ x h with h|h
  ·rcases pT.mp h with h|h
   ·exact .inl h
   ·exact .inr (by rw[h];exact mX)
  ·exact .inr (mZ _ h)
def rC (g:List Cl)(p:Str)(day:Int):(cZ g p day).Nodup:=(dw _).nodup_iff.mpr (jr _ [] List.nodup_nil)
def Fe (h:o∈cZ so p day):∃c∈so,c.o=o:=by
 have h1:=(dw _).mem_iff.mp h;rcases iA _ _ _ h1 with h|h
 ·cases h
 ·obtain⟨c,hc,e⟩:=vO h;exact⟨c,(vN hc).1,e⟩
theorem yw (K:KL)(hk:List (List cF))(hv:List D)(p:Str)(day:Int)(n:Nat):∀os:List Str,((os.flatMap (dF K hk hv p day n)).map λc=>(c.o,c.n)).Sublist (os.map λo=>(o,n))
 |[]=>List.Sublist.slnil
 |o::os=>by
  have g:=yw K hk hv p day n os;rw[uO,uW,uY];have:((dF K hk hv p day n o).map λc=>(c.o,c.n))=[(o,n)]∨((dF K hk hv p day n o).map λc=>(c.o,c.n))=[]:=by
   unfold dF;split
   ·split
    ·exact .inl rfl
    ·exact .inr rfl
   ·exact .inr rfl
  rcases this with h|h
  ·rw[h];exact g.cons₂ _
  ·rw[h];exact g.cons _
theorem ua {α:Type}[DecidableEq α]:∀(l m:List α),l.Nodup->(∀x∈l,x∈m)->l.length<=m.length
 |[],_,_,_=>uN _
 |x::l,m,h,s=>by
  rw[List.nodup_cons]at h;have hx:=s x mX;have:=ua l (m.erase x) h.2 λy hy=>(List.mem_erase_of_ne (a:=y) (b:=x) (λe=>h.1 (by rw[←e];exact hy))).mpr (s y (mZ _ hy));rw[List.length_erase_of_mem hx]at this;have:0<m.length:=List.length_pos_of_mem hx;rw[vE];omega
theorem ub {α g:Type}(f:α->List g)(q:α->Bool)(h:∀a,(f a).length<=1/\(q a=false->f a=[])):∀l:List α,(l.flatMap f).length<=(l.filter q).length
 |[]=>vT _
 |a::l=>by
  have G:=ub f q h l;rw[uO,uZ];cases hq:q a with
  |true=>rw[List.filter_cons_of_pos hq,vE];have:=(h a).1;omega
  |false=>rw[List.filter_cons_of_neg (by rw[hq];decide),(h a).2 hq];simpa using G
def HX (K:KL)(g:List Cl)(hk:List (List cF))(hv:List D)(p:Str)(day:Int)(n:Nat):(rz K g hk hv p day n).length<=(hk.filter λk=>decide (zY k=p)).length:=by
 refine vR (ub _ (λo=>(bW hk hv [.inr o,.inr p]).isSome) (λo=>⟨lW _ _ _ _ _ _ _,λh=>?_⟩) _) ?_
 ·have hl:bW hk hv [.inr o,.inr p]=none:=by simpa using h
  unfold dF yt;rw[hl]
 ·have G:(((cZ g p day).filter λo=>(bW hk hv [.inr o,.inr p]).isSome).map λo=>([.inr o,.inr p]:List cF)).Nodup:=List.Pairwise.map _ (λa b M e=>M (by injection e with e _;injection e)) ((rC g p day).filter _);have:=ua _ (hk.filter λk=>decide (zY k=p)) G λk hm=>by
   obtain⟨o,ho,rfl⟩:=vO hm;obtain⟨v,hv⟩:=uU (vN ho).2;exact List.mem_filter.mpr ⟨yv hv,decide_eq_true rfl⟩
  rwa [vI]at this
def yR.step {K l:KL}{dd:List Str}{st:Jv}(h:yR K l dd st){x:D×Nat}(hx:x.2∉l.map (·.2)):∃We,yR K (l++[x]) We (dN K st x):=by
 have up:∀ {n:Nat},n∈l.map (·.2)->n∈(l++[x]).map (·.2):=λh=>by rw[uW];exact List.mem_append_left _ h
 have me:x.2∈(l++[x]).map (·.2):=by simp
 have O:(l++[x]).length=l.length+1:=by simp
 have G:∀q∈dd,∃y∈l++[x],i7 K q (aB y.1) y.2=true:=λq hq=>by
  obtain⟨y,h1,h2⟩:=h.ded q hq;exact⟨y,List.mem_append_left _ h1,h2⟩
 have wk:yR K (l++[x]) dd st:=⟨by have:=h.len;omega,G,h.nod,λc hc=>up (h.num c hc),h.hs,by have:=h.hk;omega⟩;have jW:=h.len;unfold dN;split
 ·rename_i g;split
  ·refine⟨dd,by simp;omega,G,?_,λc hc=>?_,h.hs,by rw[O];exact Nat.le_succ_of_le h.hk⟩
   ·rw[uW,List.nodup_append];refine⟨h.nod,by simp,λa ha b hb e=>?_⟩;obtain⟨c,hc,rfl⟩:=vO ha;simp at hb;subst hb;injection e with _ e2;exact hx (e2 ▸ h.num c hc)
   ·rcases List.mem_append.mp hc with hc|hc
    ·exact up (h.num c hc)
    ·rw[uT hc];exact me
  ·split
   ·have hl:=gk [ay 2 x.1] (ay 1 x.1) (fW 4 x.1) st.1;refine⟨dd,by simp;omega,G,?_,λc hc=>?_,h.hs,by rw[O];exact Nat.le_succ_of_le h.hk⟩
    ·rw[uW,List.nodup_append];refine⟨h.nod.sublist (lg _ _ _ _),by simp,λa ha b hb e=>?_⟩;obtain⟨c,hc,rfl⟩:=vO ha;simp at hb;subst hb;injection e with _ e2;obtain⟨M,h1,_,h3⟩:=gX hc;exact hx (e2 ▸ h3 ▸ h.num M h1)
    ·rcases List.mem_append.mp hc with hc|hc
     ·obtain⟨M,h1,_,h3⟩:=gX hc;rw[←h3];exact up (h.num M h1)
     ·rw[uT hc];exact me
   ·split
    ·have hp:∀k:List cF,HW dd (dI st.2.1 k)<=HW dd st.2.1+1/\(dI st.2.1 k).length<=st.2.1.length+1:=λk=>by
      unfold dI;split
      ·omega
      ·have:([k].filter λk=>decide (zY k∉dd)).length<=1:=vM _ _;unfold HW;rw[List.filter_append,uZ,uZ,List.length_singleton];omega
     refine⟨dd,?_,G,wk.nod,wk.num,λv hv=>?_,?_⟩
     ·have:=(hp [.inr (ay 2 x.1),.inr (ay 1 x.1)]).1;rw[O];show st.1.length+HW dd (dI st.2.1 [.inr (ay 2 x.1),.inr (ay 1 x.1)])<=_;omega
     ·rcases tX hv with hv|hv
      ·exact⟨_,hv⟩
      ·exact h.hs v hv
     ·have:=(hp [.inr (ay 2 x.1),.inr (ay 1 x.1)]).2;have:=h.hk;rw[O];show(dI _ _).length<=_;omega
    ·rename_i n1 n2 n3;have hd:kindOf x.1 = "death":=by
      unfold cB at g;by_cases hd:kindOf x.1 = "death"
      ·exact hd
      ·rw[if_neg hd,if_neg (by simp[sg,n1,n2,n3])]at g;cases g
     have hf:i7 K (ay 1 x.1) (aB x.1) x.2=true:=by unfold cB at g;rwa [if_pos hd]at g
     have QL:ay 1 x.1∉dd:=λhm=>by
      obtain⟨y,h1,h2⟩:=h.ded _ hm;exact hx (by rw[←zZ h2 hf];exact uS ⟨y,h1,rfl⟩)
     have hl:=gk (st.1.map Cl.o) (ay 1 x.1) (aB x.1) st.1;have Xh:=HX K st.1 st.2.1 st.2.2 (ay 1 x.1) (aB x.1) x.2;have Tj:=rB (ay 1 x.1) dd QL st.2.1;have T:=yw K st.2.1 st.2.2 (ay 1 x.1) (aB x.1) x.2 (cZ st.1 (ay 1 x.1) (aB x.1));have U:∀c∈rz K st.1 st.2.1 st.2.2 (ay 1 x.1) (aB x.1) x.2,c.o∈cZ st.1 (ay 1 x.1) (aB x.1)/\c.n=x.2:=λc hc=>by
      have:=T.subset (uS ⟨c,hc,rfl⟩);obtain⟨o,h1,h2⟩:=vO this;injection h2 with h3 h4;exact⟨h3 ▸ h1,h4.symm⟩
     refine⟨ay 1 x.1::dd,?_,λq hq=>?_,?_,λc hc=>?_,h.hs,by rw[O];exact Nat.le_succ_of_le h.hk⟩
     ·rw[O];show(cn st.1 (st.1.map Cl.o) (ay 1 x.1) (aB x.1)++rz K st.1 st.2.1 st.2.2 (ay 1 x.1) (aB x.1) x.2).length+HW _ st.2.1<=_;rw[uZ];omega
     ·rcases vP hq with rfl|hq
      ·exact⟨x,by simp,hf⟩
      ·exact G q hq
     ·rw[uW,List.nodup_append];refine⟨h.nod.sublist (lg _ _ _ _),List.Nodup.sublist T (List.Pairwise.map _ (λa b hab e=>hab (by injection e)) (rC _ _ _)),λa ha b hb e=>?_⟩;obtain⟨c,hc,rfl⟩:=vO ha;obtain⟨c2,JB,rfl⟩:=vO hb;injection e with _ e2;obtain⟨M,h1,_,h3⟩:=gX hc;exact hx ((U c2 JB).2 ▸ e2 ▸ h3 ▸ h.num M h1)
     ·rcases List.mem_append.mp hc with hc|hc
      ·obtain⟨M,h1,_,h3⟩:=gX hc;rw[←h3];exact up (h.num M h1)
      ·rw[(U c hc).2];exact me
 ·exact⟨dd,wk⟩
def HY (e:ρ[i]? = some (some (.dt ks vs,true)))(g:fv ρ=some (d,b))(ek:fk ρ=some kd)(hk:iJ kd=some kk)(hf:bj d=true)(h1:ks.length<=1000)(h2:kd.length<=1000):tK i fk fv ρ=some (.nx (ρ.set i (some (.dt (dI ks kk) (dJ ks vs kk d),true)))):=by
 unfold tK;rw[e];dsimp only;rw[g,vJ,ek,vJ,hk,vJ,if_pos ⟨hf,bK (by omega),dB (by omega)⟩]
def Qs (a b:Cl):(aX (kC a) (kC b)).isSome=true:=by
 unfold kC;rw[aX];split
 ·rw[aX];split
  ·rw[aX];split
   ·rw[aX];rfl
   ·rfl
  ·rfl
 ·rfl
def Bw (cs:List Cl):eN (cs.map kC)=true:=by
 unfold eN;simp[List.all_eq_true,Qs]
theorem uc {α M:Type}(f:α->M):∀ {l:List α},(l.map f).Nodup->∀ {a b:α},a∈l->b∈l->f a=f b->a=b
 |[],_,_,_,ha,_,_=>by cases ha
 |c::l,h,a,b,ha,hb,e=>by
  rw[uY,List.nodup_cons]at h;rcases vP ha with G|ha1
  ·rcases vP hb with g|hb1
   ·rw[G,g]
   ·exact absurd (uS ⟨b,hb1,by rw[←e,G]⟩) h.1
  ·rcases vP hb with g|hb1
   ·exact absurd (uS ⟨a,ha1,by rw[e,g]⟩) h.1
   ·exact uc f h.2 ha1 hb1 e
def Ff {cs:List Cl}{a b:Cl}(ha:a∈cs)(hb:b∈cs)(e:cH (kC a)=cH (kC b)):(a.o,a.n)=(b.o,b.n):=by
 have h:=nI (Bw cs) (uS ⟨a,ha,rfl⟩) (uS ⟨b,hb,rfl⟩) e;unfold kC at h;injection h with h1 h2;injection h1 with h1;injection h2 with _ h3;injection h3 with h3 _;injection h3 with h3;rw[h1,show a.n=b.n by omega]
def HZ (g:fU ab)(aa:Int)(h:yR (ak ab aa) l dd st)(hj:l.length<=60)(hx:x∈ak ab aa)(T3:bu x.1=false)(v5:OB):
  ∃w5,(la [sT ab,sI aa,lT (st.1.map aV),some (.dt st.2.1 st.2.2,true),sI x.2,v5]=some (.nx [sT ab,sI aa,lT ((dN (ak ab aa) st x).1.map aV),some (.dt (dN (ak ab aa) st x).2.1 (dN (ak ab aa) st x).2.2,true),sI x.2,w5])
   ∨ la [sT ab,sI aa,lT (st.1.map aV),some (.dt st.2.1 st.2.2,true),sI x.2,v5]=some (.ct [sT ab,sI aa,lT ((dN (ak ab aa) st x).1.map aV),some (.dt (dN (ak ab aa) st x).2.1 (dN (ak ab aa) st x).2.2,true),sI x.2,w5])):=by
 obtain⟨ha,T⟩:=dC g hx;have U:st.1.length<=60:=by have:=h.len;omega
 have hf:bj x.1=true:=T.rp.flat;have ec:=CG g aa st.1 U hx T3;have M:eM (ba (fA mH (fV 0 (fV 1 (fV 2 (fV 4 ai)))))) [sT ab,sI aa,lT (st.1.map aV),some (.dt st.2.1 st.2.2,true),sI x.2,some (x.1,false)]=some (!cB (ak ab aa) st.1 x) :=
  bU (cz (aE [.tup ab,.int aa,.lst (st.1.map aV),.int x.2] (by simp) ec))
 have hw:fA aL (fV 5 ai) [sT ab,sI aa,lT (st.1.map aV),some (.dt st.2.1 st.2.2,true),sI x.2,some (x.1,false)]=sS (kindOf x.1):=aE [x.1] rfl (iY T);refine⟨some (x.1,false),?_⟩;cases hc:cB (ak ab aa) st.1 x with
 |false=>
  rw[hc]at M;have es:dN (ak ab aa) st x=st:=by unfold dN;rw[hc];rfl
  rw[es];exact .inr (fw x.1 (by simp[ha]) hf (Qr (lO M rfl)))
 |true=>
  rw[hc]at M;left;refine fw x.1 (by simp[ha]) hf (dL (mB M rfl) ?_);by_cases hn:kindOf x.1 = "named"
  ·have es:dN (ak ab aa) st x=(st.1++[⟨ay 1 x.1,ay 2 x.1,aB x.1,none,x.2⟩],st.2):=by unfold dN;rw[hc,if_pos rfl,if_pos hn]
   rw[es];refine lO (bR (bb:=false) hw (decide_eq_true hn)) ?_;have O:aq [x.1,.str "office"]=sS (ay 1 x.1)/\aq [x.1,.str "person"]=sS (ay 2 x.1):=by
    obtain⟨a,k,aF,e,d⟩:=T;rw[e]at hn ⊢;replace hn:k = "named":=hn;cases d with
    |named d o p=>exact⟨bx (i:=1) cu rfl,bx (i:=2) cu rfl⟩
    |root=>exact cN hn
    |chosen=>exact cN hn
    |heir=>exact cN hn
    |three _ hk=>rcases hk with rfl|rfl|rfl<;>exact cN hn
    |other _ hk=>rcases hk with rfl|rfl|rfl|rfl|rfl<;>exact cN hn
   have FR:aS [x.1]=sI (aB x.1):=by rw[re T];unfold se;rw[T3];rfl
   have e2:f2 ci (aj 2) (fA bw (ae (fA gA (fV 5 (ae (fA aS (fV 5 ai)) (fV 4 ai)))) ai)) [sT ab,sI aa,lT (st.1.map aV),some (.dt st.2.1 st.2.2,true),sI x.2,some (x.1,false)]=lT (st.1.map aV++[aV ⟨ay 1 x.1,ay 2 x.1,aB x.1,none,x.2⟩]):=by
    refine fx (x:=.lst (st.1.map aV)) (y:=.lst [aV ⟨ay 1 x.1,ay 2 x.1,aB x.1,none,x.2⟩]) (b1:=false) (b2:=true) rfl ?_ (if_pos (dB (by rw[vI,List.length_singleton];omega)));exact aE [aV ⟨ay 1 x.1,ay 2 x.1,aB x.1,none,x.2⟩] (aC (aE [x.1,.int (aB x.1),.int x.2] (bJ rfl (bJ (aE [x.1] rfl FR) rfl)) (Ju O.1 O.2 _ _)) rfl) (dn _ (by simp))
   have:=wa (i:=2) e2 (by have hq:=ir (st.1++[(⟨ay 1 x.1,ay 2 x.1,aB x.1,none,x.2⟩:Cl)]);rwa [uW]at hq);rw[uW];exact this
  ·refine mB (bR (bb:=false) hw (decide_eq_false hn)) ?_;by_cases G:kindOf x.1 = "chosen"
   ·have es:dN (ak ab aa) st x=(cn st.1 [ay 2 x.1] (ay 1 x.1) (fW 4 x.1)++[⟨ay 2 x.1,ay 3 x.1,fW 4 x.1,none,x.2⟩],st.2):=by unfold dN;rw[hc,if_pos rfl,if_neg hn,if_pos G]
    rw[es];refine lO (bR (bb:=false) hw (decide_eq_true G)) (wa (i:=2) (aE [.lst (st.1.map aV),x.1,.int x.2] rfl ?_) (ir _));obtain⟨a,k,aF,e,d⟩:=T;rw[e]at G ⊢;replace G:k = "chosen":=G;cases d with
    |chosen d b o p s=>exact CH st.1 U x.2
    |root=>exact cN G
    |named=>exact cN G
    |heir=>exact cN G
    |three _ hk=>rcases hk with rfl|rfl|rfl<;>exact cN G
    |other _ hk=>rcases hk with rfl|rfl|rfl|rfl|rfl<;>exact cN G
   ·refine mB (bR (bb:=false) hw (decide_eq_false G)) ?_;by_cases hh:kindOf x.1 = "heir"
    ·have es:dN (ak ab aa) st x=(st.1,dI st.2.1 [.inr (ay 2 x.1),.inr (ay 1 x.1)],dJ st.2.1 st.2.2 [.inr (ay 2 x.1),.inr (ay 1 x.1)] (.str (ay 3 x.1))):=by unfold dN;rw[hc,if_pos rfl,if_neg hn,if_neg G,if_pos hh]
     rw[es];have O:aq [x.1,.str "office"]=sS (ay 2 x.1)/\aq [x.1,.str "by"]=sS (ay 1 x.1)/\aq [x.1,.str "person"]=sS (ay 3 x.1):=by
      obtain⟨a,k,aF,e,d⟩:=T;rw[e]at hh ⊢;replace hh:k = "heir":=hh;cases d with
      |heir d b o p=>exact⟨bx (i:=2) cu rfl,bx (i:=1) cu rfl,bx (i:=3) cu rfl⟩
      |root=>exact cN hh
      |named=>exact cN hh
      |chosen=>exact cN hh
      |three _ hk=>rcases hk with rfl|rfl|rfl<;>exact cN hh
      |other _ hk=>rcases hk with rfl|rfl|rfl|rfl|rfl<;>exact cN hh
     exact lO (bR (bb:=false) hw (decide_eq_true hh)) (HY (ks:=st.2.1) (vs:=st.2.2) (kd:=[.str (ay 2 x.1),.str (ay 1 x.1)]) (b:=false) rfl (aE [x.1,.str "person"] rfl O.2.2) (aC (aE [x.1,.str "office"] rfl O.1) (aC (aE [x.1,.str "by"] rfl O.2.1) rfl)) rfl rfl (by have:=h.hk;omega) (by simp))
    ·refine mB (bR (bb:=false) hw (decide_eq_false hh)) ?_;have es:dN (ak ab aa) st x=(cn st.1 (st.1.map Cl.o) (ay 1 x.1) (aB x.1)++rz (ak ab aa) st.1 st.2.1 st.2.2 (ay 1 x.1) (aB x.1) x.2,st.2):=by unfold dN;rw[hc,if_pos rfl,if_neg hn,if_neg G,if_neg hh]
     rw[es];have hd:kindOf x.1 = "death":=by
      unfold cB at hc;by_cases hd:kindOf x.1 = "death"
      ·exact hd
      ·rw[if_neg hd,if_neg (by simp[sg,hn,G,hh])]at hc;cases hc
     refine wa (i:=2) (aE [.tup ab,.int aa,.lst (st.1.map aV),.dt st.2.1 st.2.2,.int x.2] (by simp) ?_) (ir _);obtain⟨a,k,aF,e,d⟩:=T;have hk:k = "death":=by rw[e]at hd;exact hd
     subst hk;obtain⟨dd,p,rfl⟩:=d.deed.three (by decide +kernel);have:=Fd g aa st.1 U st.2.1 st.2.2 h.hs hx e;rw[this,e];rfl
theorem By (K:KL):∀(l g:KL)(st:Jv)(dd:List Str),yR K g dd st->((g++l).map (·.2)).Nodup->∃G,yR K (g++l) G (l.foldl (dN K) st)
 |[],g,st,dd,h,_=>⟨dd,by rw[uQ];exact h⟩
 |x::l,g,st,dd,h,hn=>by
  have hx:x.2∉g.map (·.2):=λhm=>by
   rw[uW,List.nodup_append]at hn;exact hn.2.2 _ hm x.2 (by simp) rfl
  obtain⟨G,h'⟩:=h.step hx;have e:g++x::l=(g++[x])++l:=by simp
  rw[e]at hn ⊢;exact By K l _ _ _ h' hn
def Bz (K l:KL)(h:(l.map (·.2)).Nodup):∃dd,yR K l dd (mV K l):=by
 have:=By K l [] ([],[],[]) [] ⟨uN _,by simp,by simp,by simp,by simp,uN _⟩ h;exact this
def nZ (h:(K.map (·.2)).Nodup):((cy K).map (·.2)).Nodup:=((br _ _).map _).nodup_iff.mpr (List.Nodup.sublist (List.Sublist.map _ List.filter_sublist) h)
def gY {ab:List D}(g:fU ab)(aa:Int)(T:(cy (ak ab aa)).length<=60):jp [.tup ab,.int aa]=lT ((aT (ak ab aa)).map aV)/\(aT (ak ab aa)).length<=60:=by
 have eL:dY [.tup ab,.int aa]=lT ((cy (ak ab aa)).map λx=>.int x.2):=oG g aa;generalize U:ak ab aa=K at T eL ⊢;have Rr:∀x∈cy K,x∈K/\bu x.1=false:=λx hx=>by
  obtain⟨h1,h2⟩:=vN ((br _ _).mem_iff.mp hx);exact⟨h1,by simpa using h2⟩
 have LL:((cy K).map (·.2)).Nodup:=nZ (by rw[←U];exact fM ab aa);obtain⟨ρ',e,v4,v5,rfl⟩:=jm (tg:=cQ 4) (g:=la) (λj ρ=>∃v4 v5:OB,ρ=[sT ab,sI aa,lT ((mV K ((cy K).take j)).1.map aV),some (.dt (mV K ((cy K).take j)).2.1 (mV K ((cy K).take j)).2.2,true),v4,v5]) ((cy K).map λx=>.int x.2)
  [sT ab,sI aa,lT [],some (.dt [] [],true),none,none] ⟨none,none,rfl⟩ (by
   rintro j d ρ hd ⟨v4,v5,rfl⟩;rw[vA]at hd;obtain⟨x,hx,rfl⟩:=oY hd;have Xi:j<(cy K).length:=(vV hx).1;have et:(cy K).take (j+1)=(cy K).take j++[x]:=by rw[List.take_add_one,hx];rfl
   have ef:mV K ((cy K).take (j+1))=dN K (mV K ((cy K).take j)) x:=by rw[et];unfold mV;rw[List.foldl_append];rfl
   obtain⟨Pt,Wf⟩:=Rr x (vL hx);obtain⟨dd,h⟩:=Bz K ((cy K).take j) (List.Nodup.sublist (List.Sublist.map _ (List.take_sublist _ _)) LL);rw[←U]at h;have G:=HZ g aa h (by rw[U,List.length_take];omega) (x:=x) (by rw[U];exact Pt) Wf v5;rw[U]at G;obtain⟨w5,G⟩:=G;exact⟨_,_,rfl,G,sI x.2,w5,by rw[ef]⟩)
 have FQ:(cy K).take ((cy K).map λx=>D.int x.2).length=cy K:=by rw[vI,List.take_length]
 rw[FQ]at e;obtain⟨dd,M⟩:=Bz K (cy K) LL;generalize Rt:(mV K (cy K))=st at e M;have Gd:st.1.length<=60:=by have:=M.len;omega
 have T4:aT K=g7 (λc=>cH (kC c)) st.1:=by unfold aT;rw[Rt]
 have hm:∀ρ:DL.Env,jj (rY g9 ρ) (st.1.map aV)=some (st.1.map λc=>.tup [.str c.o,.int c.s,.int c.n]):=λρ=>iq st.1 λc _=>by
  show(g9 [aV c]).map _=_;rw[wj];rfl
 have hk:dH (st.1.map λc=>D.tup [.str c.o,.int c.s,.int c.n])=some (st.1.map kC):=gW st.1 λc _=>rfl;have O:(st.1.map kC).length<64/\eN (st.1.map kC)=true/\fG (st.1.map kC)=true/\((st.1.map kC).map cH).Nodup:=by
  refine⟨by rw[vI];omega,Bw _,?_,?_⟩
  ·unfold fG;rw[Bool.or_eq_true];right;simp[List.all_eq_true,kC]
  ·rw[uP];have h1:st.1.Pairwise λa b=>(a.o,a.n)≠(b.o,b.n):=List.pairwise_map.mp M.nod;have h2:st.1.Pairwise λa b=>cH (kC a)≠cH (kC b):=by
    refine List.Pairwise.imp_of_mem ?_ h1;intro a b ha hb BJ e;exact BJ (Ff ha hb e)
   exact List.pairwise_map.mpr h2
 have hz:(st.1.map kC).zip (st.1.map aV)=st.1.map λc=>(kC c,aV c):=by rw[List.zip_map']
 have key:((aT K).map λc=>(kC c,aV c))=g7 (λp:List At×D=>cH p.1) (st.1.map λc=>(kC c,aV c)):=by
  rw[T4];refine ko _ (λx hx y hy e=>?_) ((br _ _).map _) ?_
  ·obtain⟨a,ha,rfl⟩:=vO hx;obtain⟨b,hb,rfl⟩:=vO hy;rw[uc (λc:Cl=>(c.o,c.n)) M.nod ha hb (Ff ha hb e)]
  ·exact List.pairwise_map.mpr (fZ _ _)
 refine⟨au rfl (bT (ds:=[]) (by simp[sizeLine]) rfl (dL (ρ':=[sT ab,sI aa,lT [],some (.dt [] [],true),none,none]) rfl (dL (mE (ds:=(cy K).map λx=>.int x.2) ?_ e) (aw ?_)))),by rw[T4,(br _ _).length_eq];exact Gd⟩
 ·show(fA dY (fV 0 (fV 1 ai)) _).bind _=_;rw[aE [.tup ab,.int aa] rfl eL];rfl
 ·unfold qi;show((some (D.lst (st.1.map aV),false)).bind _)=_;simp only[vJ];rw[hm];simp only[vJ];rw[hk];simp only[vJ];rw[if_pos O];unfold jk;rw[hz,←key,uP];rfl
end Lw
namespace Lw
open PySem PySem.Spec DL L2
def yx (ns:List Int)(k:Nat)(x:Int):∃c:Int,(az (aO 2 (f2 bP (f2 gu (f2 ci (f2 ci (f2 bP (aj 2) (fI 2147483629)) (f2 gu (fI 6151) (aj 1))) (fI 1)) (fI 48271)) (fI 2147483647)))
  (aN (f2 bP (f2 gu (aj 2) (f2 ci (f2 ci (f2 bP (aj 2) (fI 65519)) (aj 1)) (fI 2))) (fI 2147483629)))) [sL (ns.map .int),sI k,sI x]=some (.rt (.int c) false)/\0<=c:=by
 obtain⟨y,hy⟩:∃y,((x % 2147483629+6151*k+1)*48271) % 2147483647=y:=⟨_,rfl⟩;have hb:0<=y/\y<2147483647:=by rw[←hy];exact mod_lt (by decide)
 have hc : -18446744073709551616<y/\y<18446744073709551616:=by omega
 exact⟨(y*(y % 65519+k+2)) % 2147483629,fw (.int y) (by simp[hy]) rfl (aw (by simp[hc])),(mod_lt (by decide)).1⟩
def gS (ns:List Int)(k:Nat):∃c:Int,dh [.lst (ns.map .int),.int k]=sI c/\0<=c:=by
 by_cases h:ns.length=0
 ·have e:ns=[]:=List.length_eq_zero_iff.mp h;subst e;obtain⟨c,h1,h2⟩:=yx [] k 5;exact⟨c,au rfl (fw (.int 5) rfl rfl (a9 (cz (by simp)) h1)),h2⟩
 ·have hm:=mod_lt (x:=(k:Int)) (m:=ns.length) (by omega);obtain⟨c,h1,h2⟩:=yx ns k (ns.getD ((k:Int) % ns.length).toNat 0);refine⟨c,au rfl (fw (.int 5) rfl rfl (dL (lO (cz (by simp;omega)) (k7 (d:=.int (ns.getD ((k:Int) % ns.length).toNat 0)) (b:=false) ?_ rfl)) h1)),h2⟩;refine bi (.lst (ns.map .int)) (.int ((k:Int) % ns.length)) rfl ?_ (Bc hm.1 (by omega));refine bi (.int k) (.int ns.length) rfl (by simp) ?_;have g:¬ns=[]:=λe=>h (by rw[e];rfl);simp[bP,g]
def Fg {ρ:DL.Env}{i n:Nat}{ds:List D}{g G:FE}{d:D}{b b':Bool}(e:ρ[i]? = some (lT ds))(M:G ρ=some (d,b))(ek:g ρ=some (.int n,b'))(hn:n<ds.length)(hf:bj d=true):Cp i g G ρ=some (.nx (ρ.set i (lT (ds.set n d)))):=by
 have hx:yS ds.length (n:Int)=some n:=by
  unfold yS;rw[if_pos (by omega)];simp[hn]
 simp only[Cp,e,M,ek,vJ,hx,if_pos hf]
theorem B1:∀(zs:List Str),(∀z∈zs,z.length=1)->(zs.map (·.length)).sum=zs.length
 |[],_=>rfl
 |z::zs,h=>by
  rw[uY,List.sum_cons,B1 zs λy hy=>h y (mZ _ hy),h z mX,vE];omega
def B2 (x:Int):0<=x % 26/\x % 26<26:=mod_lt (by decide)
noncomputable def mW:PySem.Str:="abcdefghijklmnopqrstuvwxyz"
def CJ:mW.cps.size=26:=by decide +kernel
def NO (x:Int):Str:=⟨#[mW.cps.toList.getD (x % 26).toNat 0]⟩
def Fh (x:Int):bq (.str mW) (.int (x % 26))=sS (NO x):=DL.zl (B2 x).1 (by rw[CJ];have:=B2 x;omega) (by decide +kernel)
theorem yy:∀(zs:List Str)(y:Str),(Str.join ("" : Str) (y::zs)).cps.toList=(y::zs).flatMap λz=>z.cps.toList
 |[],y=>by rw[uO,List.flatMap_nil,uQ];rfl
 |z::r,y=>by
  have g:∀a b:Str,(a++b).cps.toList=a.cps.toList++b.cps.toList:=λa b=>by show(a.cps++b.cps).toList=_;simp
  show(y++("" : Str)++Str.join ("" : Str) (z::r)).cps.toList=_;rw[g,g,yy r z,show("" : Str).cps.toList=[]from rfl,uQ];rfl
def Fi (h:zs≠[]):(Txt.join ("" : Str) zs).cps.toList=zs.flatMap λz=>z.cps.toList:=by
 cases zs with
 |nil=>exact absurd rfl h
 |cons y zs=>
  unfold Txt.join;rw[StrLaws.glued_eq_join];exact yy zs y
theorem nc (x y:Nat):∀(bs:List Str)(a:Nat),a<bs.length->(∀z∈bs,∃c,z.cps.toList=[c])->((bs.set a ⟨#[x]⟩).flatMap λz=>z.cps.toList)=((bs.set a ⟨#[y]⟩).flatMap λz=>z.cps.toList)->x=y
 |b::bs,0,_,_,h=>by
  rw[List.set_cons_zero,List.set_cons_zero,uO,uO]at h;exact(List.cons.inj h).1
 |b::bs,a+1,hl,hb,h=>by
  rw[List.set_cons_succ,List.set_cons_succ,uO,uO]at h;exact nc x y bs a (by simpa using hl) (λz hz=>hb z (mZ _ hz)) (List.append_cancel_left h)
def Fj:∀i j:Fin 26,mW.cps.toList.getD i.val 0=mW.cps.toList.getD j.val 0->i=j:=by decide +kernel
def yz (bs:List Str)(a:Nat)(c:Int)(i:Nat):Str:=Txt.join ("" : Str) (bs.set a (NO (c / 64+3*(i:Int))))
def Jw {bs:List Str}{a:Nat}{c:Int}{i j:Nat}(ha:a<bs.length)(hb:∀z∈bs,∃c,z.cps.toList=[c])(G:(3*(i:Int) - 3*(j:Int)) % 26≠0):yz bs a c i≠yz bs a c j:=by
 intro e;have e:=congrArg (λs:Str=>s.cps.toList) e;unfold yz at e;have g:∀x,bs.set a x≠[]:=λx z=>by have:=congrArg List.length z;rw[List.length_set,List.length_nil]at this;omega
 simp only[Fi (g _)]at e;have:=nc _ _ bs a ha hb e;have h1:=B2 (c / 64+3*(i:Int));have h2:=B2 (c / 64+3*(j:Int));have:=Fj ⟨((c / 64+3*(i:Int)) % 26).toNat,by omega⟩ ⟨((c / 64+3*(j:Int)) % 26).toNat,by omega⟩ this;have:=congrArg Fin.val this;simp only at this;omega
def Fk (c:Int)(hc:0<=c):∃zs:List Str,nN [.int c]=lT (zs.map .str)/\zs.length=7/\∀x y,zs[5]? = some x->zs[6]? = some y->x≠y:=by
 have h8:=mod_lt (x:=c) (m:=8) (by decide);obtain⟨n,hn⟩:∃n:Nat,1+c % 8=n:=⟨(1+c % 8).toNat,by omega⟩;have Wg:1<=n:=by omega
 have Xj:n<=8:=by omega
 let bs:List Str:=(List.range n).map λ(k:Nat)=>NO (c / (3+4*k));have M:bs.length=n:=by simp[bs]
 have hb:=jP (fi:=fE (f2 ci (fI 1) (f2 bP (aj 0) (fI 8)))) (nT:=1) (cap:=[1,0]) (tg:=cQ 0) (fe:=f2 bq (aj 1) (f2 bP (f2 cV (aj 2) (f2 ci (fI 3) (f2 gu (fI 4) (aj 0)))) (fI 26)))
  (ρ:=[sI c,sS mW,none,none,none,none,none]) (List.range n) (λ(k:Nat)=>.int k) (λ(k:Nat)=>.str (NO (c / (3+4*k))))
  (by rw[gU (j:=n) (b:=false) (by simp;omega) (by omega),CA];simp) (by simp;omega) λk hk=>by
   have hk:=List.mem_range.mp hk;refine⟨_,rfl,false,bi (.str mW) (.int (c / (3+4*k) % 26)) (by simp[dS]) ?_ (Fh _)⟩;have h1:(0:Int)<3+4*k:=by omega
   have h2:(3:Int)+4*k<1073741824:=by omega
   simp[dS,h1,h2]
 have Wh:bI (fE (f2 ci (fI 1) (f2 bP (aj 0) (fI 8)))) 1 [1,0] (cQ 0) fu (f2 bq (aj 1) (f2 bP (f2 cV (aj 2) (f2 ci (fI 3) (f2 gu (fI 4) (aj 0)))) (fI 26))) [sI c,sS mW,none,none,none,none,none]=lT (bs.map .str):=by
  rw[hb];simp[bs]
 have Xk:=mod_lt (x:=c / 8) (m:=n) (by omega);obtain⟨a,ha⟩:∃a:Nat,c / 8 % n=a:=⟨(c / 8 % n).toNat,by omega⟩;obtain⟨zs,O,T,e,hz,G⟩:∃(zs:List Str)(O T:OB),iG (cQ 5) lP (dU 0 7) [sI c,sS mW,lT (bs.map .str),sI (c / 8 % n),lT [],none,none]=some (.nx [sI c,sS mW,lT (bs.map .str),sI (c / 8 % n),lT (zs.map .str),O,T])/\zs.length=7/\zs=(List.range 7).map (yz bs a c):=by
  obtain⟨ρ',e,zs,O,T,rfl,hz,G⟩:=m8 (tg:=cQ 5) (g:=lP) 7 (λi ρ=>∃(zs:List Str)(O T:OB),ρ=[sI c,sS mW,lT (bs.map .str),sI (c / 8 % n),lT (zs.map .str),O,T]/\zs.length=i/\zs=(List.range i).map (yz bs a c))
   [sI c,sS mW,lT (bs.map .str),sI (c / 8 % n),lT [],none,none] ⟨[],none,none,rfl,rfl,rfl⟩ (by
    rintro i ρ hi ⟨zs,O,T,rfl,hz,G⟩;let l:=NO (c / 64+3*i);let nm:=bs.set a l;have h1:∀z∈nm,z.length=1:=λz hz=>by
     rcases List.mem_or_eq_of_mem_set hz with h|h
     ·obtain⟨k,_,rfl⟩:=vO h;rfl
     ·rw[h];rfl
    have Wi:nm.length=n:=by simp[nm,M]
    refine⟨_,_,rfl,.inl (bT (ds:=bs.map .str) (by simp) (dr _) (dL (Fg (n:=a) (ds:=bs.map .str) (d:=.str l) (b:=false) (b':=false) rfl ?_ ?_ (by simp[M];omega) rfl) (j9 (ds:=zs.map .str) (d:=.str (Txt.join ("" : Str) nm)) (b:=false) rfl ?_ rfl (bK (by simp;omega))))),zs++[Txt.join ("" : Str) nm],sI i,lT (nm.map .str),?_,by simp[hz],by rw[G,List.range_succ,uW];rfl⟩
    ·exact bi (.str mW) (.int ((c / 64+3*i) % 26)) rfl (by simp) (Fh _)
    ·simp[ha]
    ·refine bi (.str "") (.lst (nm.map .str)) rfl (by simp[nm]) ?_;show(gO (nm.map .str)).bind _=_;rw[mR];have:=B1 nm h1;have h0:("" : Str).length=0:=rfl;show(if _ then _ else _)=_;rw[if_pos (by rw[this,h0,Wi];omega)]
    ·simp[nm])
  exact⟨zs,O,T,e,hz,G⟩
 have hsz:(bs.length:Int)=n:=by omega
 refine⟨if c / 1000 % 8=1 then zs.set 5 (zs.getD 0 ⟨#[]⟩)else zs,?_,by split<;>simp[hz],?_⟩
 refine au rfl (fw (.str mW) rfl rfl (bT (ds:=bs.map .str) Wh (dr _) (fw (.int (c / 8 % n)) ?_ rfl (bT (ds:=[]) (by simp[sizeLine]) (by simp) (dL (mD (gU (j:=7) (b:=false) rfl (by decide)) e) ?_)))))
 ·have:(bs.length:Int)≠0:=by omega
  refine bi (.int (c / 8)) (.int n) (by simp) (by simp[M]) ?_;have h1:(0:Int)<n:=by omega
  show(if decide ((0:Int)<n)=true then _ else _)=_;rw[if_pos (decide_eq_true h1)]
 ·by_cases h:c / 1000 % 8=1
  ·rw[if_pos h];have h5:5<(zs.map D.str).length:=by simp[hz]
   obtain⟨z0,zr,rfl⟩:∃z0 zr,zs=z0::zr:=by cases zs with|nil=>simp at hz|cons a b=>exact⟨a,b,rfl⟩
   refine dL (lO (cz (by simp[h])) (Fg (n:=5) (ds:=(z0::zr).map .str) (d:=.str z0) (b:=false) (b':=false) rfl ?_ rfl h5 rfl)) (mC ?_)
   ·exact bi (.lst ((z0::zr).map .str)) (.int 0) rfl rfl (by simp[qY])
   ·simp
  ·rw[if_neg h];exact a9 (cz (by simp[h])) (mC rfl)
 ·have T5:a<bs.length:=by omega
  have Pu:∀z∈bs,∃c,z.cps.toList=[c]:=λz hz=>by obtain⟨k,_,rfl⟩:=vO hz;exact⟨_,rfl⟩
  intro x y hx hy;have h0:zs[0]? = some (yz bs a c 0):=by rw[G];rfl
  have h5:zs[5]? = some (yz bs a c 5):=by rw[G];rfl
  have h6:zs[6]? = some (yz bs a c 6):=by rw[G];rfl
  split at hx
  ·rename_i U;rw[if_pos U,vB (by decide),h6]at hy;rw[List.getElem?_set_self (by omega),vF,h0]at hx;cases hx;cases hy
   exact Jw T5 Pu (by decide)
  ·rename_i U;rw[if_neg U,h6]at hy;rw[h5]at hx;cases hx;cases hy
   exact Jw T5 Pu (by decide)
def iF (x:Int×Option Int):D:=.tup [.int x.1,uD x.2]
def js (x:Int×Option Int):bj (iF x)=true:=by simp[iF,Br]
def ud (x:Int×Option Int):aI 5 (iF x)=true:=by obtain⟨s,u⟩:=x;cases u<;>simp[iF,uD]
def Aa (a d m:Int):∃x,g8 [.int a,.int d,.int m]=some (iF x,false):=by
 have M:=mod_lt (x:=a) (m:=8) (by decide);let g:List (Int×Option Int):=[(0,none),(d,none),(d,some (d+3*m)),(0,some (d+2*m)),(0,some (9*m))];let L2:List (Int×Option Int):=[(d+m,some (d+4*m)),(d / 2,some (d+6*m)),(0,none)];have G:∀L:List (Int×Option Int),bF (L.map iF)=true:=λL=>bG λd hd=>by obtain⟨x,_,rfl⟩:=vO hd;exact js x
 have hi:(a % 8).toNat<((g++L2).map iF).length:=by show _<8;omega
 refine⟨(g++L2).getD (a % 8).toNat (0,none),au rfl (bT (ds:=g.map iF) (by simp[g,iF,uD,sizeLine]) (G _) (bT (ds:=(g++L2).map iF) ?_ (G _) (aw (bi (.lst ((g++L2).map iF)) (.int (a % 8)) rfl (by simp) ((zT M.1 hi).trans ?_)))))⟩
 ·refine fx (x:=.lst (g.map iF)) (y:=.lst (L2.map iF)) (b1:=false) (b2:=true) rfl (by simp[L2,iF,uD,sizeLine]) ?_;simp[g,L2,sizeLine]
 ·rw[vF,vA,vF];rw[vI]at hi;rw[vU hi];rfl
def kM {zs:List Str}{i:Int}(h1 : -(zs.length:Int)<=i)(h2:i<zs.length):∃z∈zs,bq (.lst (zs.map .str)) (.int i)=sS z:=by
 obtain⟨j,hj,hl⟩:∃j,yS (zs.map D.str).length i=some j/\j<zs.length:=by
  unfold yS;rw[vI];by_cases h0:0<=i
  ·rw[if_pos h0,if_pos h2];exact⟨_,rfl,by omega⟩
  ·rw[if_neg h0,if_pos (by omega)];exact⟨_,rfl,by omega⟩
 refine⟨zs[j],List.getElem_mem hl,?_⟩;have:lG (zs.map D.str) i=some (.str zs[j]):=by unfold lG;rw[hj,vJ,vA,vU hl];rfl
 simp[this]
noncomputable def MR:List Nat:=[7,255,3,15]
noncomputable def MS:List Nat:=[1,2,3,4,5,7,128,255]
inductive Dd:Str->List D->Prop
 |root (o r:Str) (m:Nat) (hm:m∈MR) (f:Int):Dd ("root" : Str) [.str o,.int m,.int f,.str r]
 |named (d:Int) (o p:Str):Dd ("named" : Str) [.int d,.str o,.str p]
 |chosen (d:Int) (b o p:Str) (s:Int):Dd ("chosen" : Str) [.int d,.str b,.str o,.str p,.int s]
 |heir (d:Int) (b o p:Str):Dd ("heir" : Str) [.int d,.str b,.str o,.str p]
 |three (k:Str) (hk:k = "death" ∨ k = "lost" ∨ k = "found") (d:Int) (p:Str):Dd k [.int d,.str p]
 |leave (d:Int) (b p:Str) (m:Nat) (hm:m∈MS) (x:Int×Option Int) (f:Int):Dd ("leave" : Str) [.int d,.str b,.str p,.int m,iF x,.int f]
 |paper (k:Str) (hk:k = "paper" ∨ k = "like") (d:Int) (b:Str) (m:Nat) (hm:m∈MS) (x:Int×Option Int) (r:List D) (hf:bF r=true) (hp:r.all (aI 5)=true):Dd k (.int d::.str b::.int m::iF x::r)
 |copy (k:Str) (hk:k = "copy" ∨ k = "call") (d:Int) (b:Str) (n:Nat):Dd k [.int d,.str b,.int n]
def Dd.cd (h:Dd k r):Cd k r:=by
 cases h with
 |root o r m hm f=>exact .root _ _ _ _
 |named d o p=>exact .named _ _ _
 |chosen d b o p s=>exact .chosen _ _ _ _ _
 |heir d b o p=>exact .heir _ _ _ _
 |three k hk d p=>exact .three _ hk _ _
 |leave d b p m hm x f=>exact .other _ (.inl rfl) _ _ _ (by simp[js]) (by simp only[List.all_cons,List.all_nil,ud,aI,Bool.and_true])
 |paper k hk d b m hm x r hf hp=>exact .other _ (hk.elim (λh=>.inr (.inl h)) λh=>.inr (.inr (.inl h))) _ _ _ (by simp[hf,js]) (by simp only[List.all_cons,hp,ud,aI,Bool.and_true])
 |copy k hk d b n=>exact .other _ (hk.elim (λh=>.inr (.inr (.inr (.inl h)))) λh=>.inr (.inr (.inr (.inr h)))) _ _ _ rfl (by simp)
def Dd.had3 (h:Dd k r)(hk:k = "leave" ∨ k = "named"):∃p,r[2]? = some (.str p):=by
 have hk:k∈[("leave" : Str),"named"]:=by simpa using hk
 cases h with
 |named d o p=>exact⟨p,rfl⟩
 |leave d b p=>exact⟨p,rfl⟩
 |root=>exact cN hk
 |chosen=>exact cN hk
 |heir=>exact cN hk
 |three k g=>rcases g with rfl|rfl|rfl<;>exact cN hk
 |paper k g=>rcases g with rfl|rfl<;>exact cN hk
 |copy k g=>rcases g with rfl|rfl<;>exact cN hk
def Dd.had4 (h:Dd k r)(hk:k = "chosen"):∃p,r[3]? = some (.str p):=by
 cases h with
 |chosen d b o p=>exact⟨p,rfl⟩
 |root=>exact cN hk
 |named=>exact cN hk
 |leave=>exact cN hk
 |heir=>exact cN hk
 |three k g=>rcases g with rfl|rfl|rfl<;>exact cN hk
 |paper k g=>rcases g with rfl|rfl<;>exact cN hk
 |copy k g=>rcases g with rfl|rfl<;>exact cN hk
def Dd.flat (h:Dd k r):bF r=true:=h.cd.deed.flat
noncomputable def fN:List Str:=[("leave" : Str),"leave","leave","leave","leave","paper","paper","like","copy","copy","call","call","named","death","lost","found","chosen","heir"]
def CK (h:w∈fN):w = "leave" ∨ w = "paper" ∨ w = "like" ∨ w = "copy" ∨ w = "call" ∨ w = "named" ∨ w = "death" ∨ w = "lost" ∨ w = "found" ∨ w = "chosen" ∨ w = "heir":=by
 simp only[fN,List.mem_cons,List.not_mem_nil,or_false]at h;rcases h with rfl|rfl|rfl|rfl|rfl|rfl|rfl|rfl|rfl|rfl|rfl|rfl|rfl|rfl|rfl|rfl|rfl|rfl<;>simp
def Fl (g c o day m:Int)(zs G:List Str)(hz:zs.length=7)(hh:G≠[]):
  ∃(w O p:Str)(T:Nat),w∈fN/\∀(h:FS)(r:Option Res),h [sI g,sI c,sI o,sL (zs.map .str),sI day,sL (G.map .str),sI m,lT (fN.map .str),sS w,sS O,sS p,sI T,none,none,none]=r ->
   (az (aO 7 (f2 ci (f2 ci (C3 (fA bw (ae (fS "leave") ai)) (fI 5)) (C3 (fA bw (ae (fS "paper") ai)) (fI 2))) (fA bw (ae (fS "like") (ae (fS "copy") (ae (fS "copy") (ae (fS "call") (ae (fS "call") ai)))))))) (az (aO 7 (f2 ci (aj 7) (fA bw (ae (fS "named") (ae (fS "death") (ae (fS "lost") (ae (fS "found") (ae (fS "chosen") (ae (fS "heir") ai))))))))) (az (aO 8 (f2 bq (aj 7) (f2 bP (aj 1) (fI 18)))) (az (aO 9 (f2 bq (aj 5) (f2 zu (f1 lH (fI 1)) (f2 bP (f2 cV (aj 1) (fI 18)) (fA GZ (ae (fI 3) (ae (fA eJ (fV 5 ai)) ai))))))) (az (du (ba (f2 cP (f2 bP (f2 cV (aj 1) (fI 54)) (fI 6)) (fI 1))) (aO 9 (f2 bq (aj 3) (f2 bP (f2 cV (aj 1) (fI 324)) (fI 5)))) aY) (az (aO 10 (f2 bq (aj 3) (f2 bP (f2 cV (aj 1) (fI 1620)) (fI 5)))) (az (aO 11 (fA GY (ae (fI 0) (ae (f2 zu (f2 zu (aj 0) (fI 1)) (f2 bP (aj 2) (fI 4))) ai)))) (az (du (ba (f2 cP (f2 bP (f2 cV (aj 2) (fI 4)) (fI 8)) (fI 1))) (aO 11 (f2 bP (f2 cV (aj 2) (fI 32)) (fI 60))) aY) h)))))))) [sI g,sI c,sI o,sL (zs.map .str),sI day,sL (G.map .str),sI m,none,none,none,none,none,none,none,none]=r:=by
 have Xl:=mod_lt (x:=c) (m:=18) (by decide);obtain⟨w,hw,ew⟩:=kM (zs:=fN) (i:=c % 18) (by simp[fN];omega) (by simp[fN];omega);obtain⟨n,hn,M,Xm⟩:∃n:Int,(if(G.length:Int)<3 then (G.length:Int)else 3)=n/\0<n/\n<=G.length:=by
  have:0<G.length:=List.length_pos_iff.mpr hh;split
  ·exact⟨_,rfl,by omega,by omega⟩
  ·exact⟨_,rfl,by omega,by omega⟩
 have Xn:=mod_lt (x:=c / 18) (m:=n) M;obtain⟨U,_,Wj⟩:=kM (zs:=G) (i:=-1 - c / 18 % n) (by omega) (by omega);have h5:=mod_lt (x:=c / 324) (m:=5) (by decide);obtain⟨b1,_,Wk⟩:=kM (zs:=zs) (i:=c / 324 % 5) (by omega) (by omega);have Xo:=mod_lt (x:=c / 1620) (m:=5) (by decide);obtain⟨p,_,ep⟩:=kM (zs:=zs) (i:=c / 1620 % 5) (by omega) (by omega);have Xp:=mod_lt (x:=o / 32) (m:=60) (by decide);obtain⟨f0,Wl⟩:∃f0:Nat,(if g - 1 - o % 4 > 0 then g - 1 - o % 4 else 0)=(f0:Int):=by
  split
  ·exact⟨(g - 1 - o % 4).toNat,by omega⟩
  ·exact⟨0,rfl⟩
 obtain⟨f1,Wm⟩:∃f1:Nat,o / 32 % 60=(f1:Int):=⟨(o / 32 % 60).toNat,by omega⟩;refine⟨w,if c / 54 % 6=1 then b1 else U,p,if o / 4 % 8=1 then f1 else f0,hw,λh r hr=>?_⟩;refine bT (ds:=(fN.take 12).map .str) ?_ (dr _) (bT (ds:=fN.map .str) ?_ (dr _) (fw (.str w) (bi (.lst (fN.map .str)) (.int (c % 18)) rfl (by simp) ew) rfl (fw (.str U) ?_ rfl (dL (ρ':=[sI g,sI c,sI o,sL (zs.map .str),sI day,sL (G.map .str),sI m,lT (fN.map .str),sS w,sS (if c / 54 % 6=1 then b1 else U),none,none,none,none,none]) ?_ (fw (.str p) ?_ rfl (fw (.int f0) ?_ rfl (dL ?_ hr)))))))
 ·have e1:∀(s:Str)(k:Nat),k<=100->C3 (fA bw (ae (fS s) ai)) (fC (.int k)) [sI g,sI c,sI o,sL (zs.map .str),sI day,sL (G.map .str),sI m,none,none,none,none,none,none,none,none]=lT (List.replicate k (.str s)):=λs k hk=>by
   have h1:(k:Int)<=1000:=by omega
   have h2:k<=1000:=by omega
   have h3:∀n:Nat,(List.replicate n [D.str s]).flatten=List.replicate n (.str s):=λn=>by
    induction n with
    |zero=>rfl
    |succ n ih=>rw[List.replicate_succ,List.flatten_cons,ih,List.replicate_succ];rfl
   simp[sizeLine,h1,h2,h3]
  have z:∀n:Nat,n<=100->n<=sizeLine:=λn h=>dB (by omega);refine fx (x:=.lst ((fN.take 7).map .str)) (y:=.lst (((fN.drop 7).take 5).map .str)) (b1:=true) (b2:=true) (fx (x:=.lst ((fN.take 5).map .str)) (y:=.lst (List.replicate 2 (.str "paper"))) (b1:=true) (b2:=true) (e1 _ 5 (by decide)) (e1 _ 2 (by decide)) ?_) (aE (((fN.drop 7).take 5).map .str) rfl (dn _ (by simp[fN]))) ?_
  ·refine(if_pos (c:=7<=sizeLine) (e:=none) (z 7 (by decide))).trans ?_;rfl
  ·refine(if_pos (c:=12<=sizeLine) (e:=none) (z 12 (by decide))).trans ?_;rfl
 ·refine fx (x:=.lst ((fN.take 12).map .str)) (y:=.lst ((fN.drop 12).map .str)) (b1:=false) (b2:=true) rfl (aE ((fN.drop 12).map .str) rfl (dn _ (by decide))) ?_;refine(if_pos (c:=18<=sizeLine) (e:=none) (dB (by decide))).trans ?_;rfl
 ·refine bi (.lst (G.map .str)) (.int (-1 - c / 18 % n)) rfl ?_ Wj;refine bi (.int (-1)) (.int (c / 18 % n)) rfl ?_ rfl;refine bi (.int (c / 18)) (.int n) (by simp) (by simp[hn]) ?_;show(if decide ((0:Int)<n)=true then _ else _)=_;rw[if_pos (decide_eq_true M)]
 ·by_cases hx:c / 54 % 6=1
  ·rw[if_pos hx];exact lO (cz (by simp[hx])) (k7 (d:=.str b1) (b:=false) (bi (.lst (zs.map .str)) (.int (c / 324 % 5)) rfl (by simp) Wk) rfl)
  ·rw[if_neg hx];exact mB (cz (by simp[hx])) rfl
 ·exact bi (.lst (zs.map .str)) (.int (c / 1620 % 5)) rfl (by simp) ep
 ·show some (D.int (if g - 1 - o % 4 > 0 then g - 1 - o % 4 else 0),false)=_;rw[Wl]
 ·by_cases hx:o / 4 % 8=1
  ·simp only[if_pos hx];exact lO (cz (by simp[hx])) (k7 (d:=.int f1) (b:=false) (by simp[Wm]) rfl)
  ·simp only[if_neg hx];exact mB (cz (by simp[hx])) rfl
def ng {ns:List Int}{i:Int}(h1:0<=i)(h2:i<ns.length):∃m∈ns,bq (.lst (ns.map .int)) (.int i)=sI m:=by
 have h:i.toNat<ns.length:=by omega
 refine⟨ns.getD i.toNat 0,?_,Bc h1 h⟩;rw[vF,vU h];exact List.getElem_mem h
def oe (h : -1000<=a/\a<=1000):KA (.int a) (.int b)=sI (a*b):=by
 have : -18446744073709551616<a/\a<18446744073709551616:=by omega
 simp[this]
def dq (e:ρ[i]? = some (sS a))(h:decide (a=b)=false:=by decide +kernel):ba (f2 cP (aj i) (fS b)) ρ=some false:=bR (a:=a) (bb:=false) (by simp[e]) h
def Ab (e:ρ[i]? = some (sS a))(h:decide (a=b)=true:=by decide +kernel):ba (f2 cP (aj i) (fS b)) ρ=some true:=bR (a:=a) (bb:=false) (by simp[e]) h
def y0 (x:Bool)(e:ρ[i]? = some (sS a))(h:decide (a∈[b,c])=x:=by decide +kernel):ba (f2 sU (aj i) (fA aP (ae (fS b) (ae (fS c) ai)))) ρ=some x:=cz (bi (.str a) (.tup ([b,c].map .str)) (by simp[e]) (by simp[sizeLine]) (by rw[gD,h]))
def Jx {l:List Int}{x:Int}(h:x∈l)(hl:l.all (λy=>decide (0<=y/\y.toNat∈MS))=true):∃m:Nat,x=m/\m∈MS:=by
 have:=of_decide_eq_true (uR hl x h);exact⟨x.toNat,by omega,this.2⟩
def Ia (many c o day m:Int)(zs Ru:List Str)(hz:zs.length=7)(hh:Ru≠[]):
  ∃k r,qC [.int many,.int c,.int o,.lst (zs.map .str),.int day,.lst (Ru.map .str),.int m]=sT (.str k::r)/\Dd k r/\k ≠ "root":=by
 obtain⟨w,g,p,G,hw,pre⟩:=Fl many c o day m zs Ru hz hh;obtain⟨s,es⟩:=Aa (o / 32) day m;have h8:=mod_lt (x:=c / 8100) (m:=8) (by decide);obtain⟨Xq,Rv,Wn⟩:=ng (ns:=[3,1,7,2,255,5,1,3]) (i:=c / 8100 % 8) h8.1 h8.2;obtain⟨Xr,Rw,T6⟩:=ng (ns:=[1,1,3,2,4,5,128,7]) (i:=c / 8100 % 8) h8.1 h8.2;obtain⟨m1,rfl,Pw⟩:=Jx Rv (by decide);obtain⟨T,rfl,Px⟩:=Jx Rw (by decide);have h4:=mod_lt (x:=o / 2560) (m:=4) (by decide);obtain⟨dv,Rx,ed⟩:=ng (ns:=[5,5,5,10]) (i:=o / 2560 % 4) h4.1 h4.2;have Ry:0<dv:=by simp only[List.mem_cons,List.not_mem_nil,or_false]at Rx;omega
 have h2:=mod_lt (x:=o / 256) (m:=2) (by decide);obtain⟨O,Wo,U,T7⟩:∃O,bq (.lst [.non,.str p]) (.int (o / 256 % 2))=some (O,false)/\bj O=true/\aI 5 O=true:=by
  rcases (show o / 256 % 2=0∨o / 256 % 2=1 by omega)with h|h
  ·rw[h];exact⟨.non,by simp[qY],rfl,by simp⟩
  ·rw[h];exact⟨.str p,by simp[yY],rfl,by simp⟩
 have Pe:=mod_lt (x:=o) (m:=2) (by decide);have Xs:=mod_lt (x:=o) (m:=2) (by decide);obtain⟨off,_,eo⟩:=kM (zs:=zs) (i:=5+o % 2) (by omega) (by omega);obtain⟨O7,_,Wp⟩:=kM (zs:=zs) (i:=5+o % 2) (by omega) (by omega);have Xt:=mod_lt (x:=o / 32) (m:=3) (by decide);have Rz:∀(ρ:DL.Env),ρ[2]? = some (sI o)->ρ[4]? = some (sI day)->ρ[6]? = some (sI m)->fA g8 (ae (f2 cV (aj 2) (fI 32)) (fV 4 (fV 6 ai))) ρ=some (iF s,false):=λρ q1 q2 q3=>
  aE [.int (o / 32),.int day,.int m] (by simp[q1,q2,q3]) es
 have O8:∀(ρ:DL.Env),ρ[2]? = some (sI o)->ρ[3]? = some (sL (zs.map .str))->f2 bq (aj 3) (f2 ci (fI 5) (f2 bP (aj 2) (fI 2))) ρ=sS off:=λρ q1 q2=>bi (.lst (zs.map .str)) (.int (5+o % 2)) (by simp[q2]) (by simp[q1]) eo;have R0:∀(ns:List Int)(M:Nat)(ρ:DL.Env)(fl:FE),fl ρ=lT (ns.map .int)->ρ[1]? = some (sI c)->bq (.lst (ns.map .int)) (.int (c / 8100 % 8))=sI M->f2 bq fl (f2 bP (f2 cV (aj 1) (fI 8100)) (fI 8)) ρ=sI M:=λns M ρ fl e1 q e=>fx (x:=.lst (ns.map .int)) (y:=.int (c / 8100 % 8)) (b1:=true) (b2:=false) e1 (by simp[q]) e;have T8:∀(ρ:DL.Env),ρ[2]? = some (sI o)->ρ[10]? = some (sS p)->f2 bq (fA bw (ae (fC .non) (fV 10 ai))) (f2 bP (f2 cV (aj 2) (fI 256)) (fI 2)) ρ=some (O,false):=λρ q1 q2=>fx (x:=.lst [.non,.str p]) (y:=.int (o / 256 % 2)) (b1:=true) (b2:=false) (by simp[sizeLine,q2]) (by simp[q1]) Wo;rcases CK hw with rfl|rfl|rfl|rfl|rfl|rfl|rfl|rfl|rfl|rfl|rfl
 ·refine⟨_,[.int day,.str g,.str p,.int m1,iF s,.int (o / 256 % dv)],au rfl (pre _ _ ?_),.leave _ _ _ _ Pw _ _,by decide +kernel⟩;refine bp (Ab rfl) (fw (.int m1) (R0 [3,1,7,2,255,5,1,3] _ _ _ (by simp[sizeLine]) rfl Wn) rfl (fw (.int (o / 256 % dv)) ?_ rfl (aw (aE [.str "leave",.int day,.str g,.str p,.int m1,iF s,.int (o / 256 % dv)] (bJ rfl (bJ rfl (bJ rfl (bJ rfl (bJ rfl (aC (Rz _ rfl rfl rfl) (bJ rfl rfl))))))) (bO _ (by simp))))));refine bi (.int (o / 256)) (.int dv) (by simp) (fx (x:=.lst (([5,5,5,10]:List Int).map .int)) (y:=.int (o / 2560 % 4)) (b1:=true) (b2:=false) (by simp[sizeLine]) (by simp) ed) ?_;show(if decide ((0:Int)<dv)=true then _ else _)=_;rw[if_pos (decide_eq_true Ry)]
 ·refine⟨_,[.int day,.str g,.int T,iF s,O,.tup [.str p]],au rfl (pre _ _ ?_),.paper _ (.inl rfl) _ _ _ Px _ _ (by simp[U]) (by simp[T7]),by decide +kernel⟩;exact a9 (dq rfl) (bp (cR (p:=true) (q:=false) (Ab rfl) λ_=>dq rfl) (fw (.int T) (R0 [1,1,3,2,4,5,128,7] _ _ _ (by simp[sizeLine]) rfl T6) rfl (fw (.tup [.str "paper",.int day,.str g,.int T,iF s,O]) (aE [.str "paper",.int day,.str g,.int T,iF s,O] (bJ rfl (bJ rfl (bJ rfl (bJ rfl (aC (Rz _ rfl rfl rfl) (aC (T8 _ rfl rfl) rfl)))))) (bO _ (by simp))) (by simp[js,U]) (a9 (dq rfl) (aw (bi (.tup [.str "paper",.int day,.str g,.int T,iF s,O]) (.tup [.tup [.str p]]) rfl (by simp[sizeLine]) (by simp[sizeLine])))))))
 ·refine⟨_,[.int day,.str g,.int T,iF s,O,.int G,.tup [.tup [.int 0,.str p]]],au rfl (pre _ _ ?_),.paper _ (.inr rfl) _ _ _ Px _ _ (by simp[U]) (by simp[T7]),by decide +kernel⟩;exact a9 (dq rfl) (bp (cR (p:=false) (q:=true) (dq rfl) λ_=>Ab rfl) (fw (.int T) (R0 [1,1,3,2,4,5,128,7] _ _ _ (by simp[sizeLine]) rfl T6) rfl (fw (.tup [.str "like",.int day,.str g,.int T,iF s,O]) (aE [.str "like",.int day,.str g,.int T,iF s,O] (bJ rfl (bJ rfl (bJ rfl (bJ rfl (aC (Rz _ rfl rfl rfl) (aC (T8 _ rfl rfl) rfl)))))) (bO _ (by simp))) (by simp[js,U]) (bp (Ab rfl) (aw (bi (.tup [.str "like",.int day,.str g,.int T,iF s,O]) (.tup [.int G,.tup [.tup [.int 0,.str p]]]) rfl (by simp[sizeLine]) (by simp[sizeLine])))))))
 ·exact⟨_,[.int day,.str g,.int G],au rfl (pre _ _ (a9 (dq rfl) (a9 (cR (p:=false) (q:=false) (dq rfl) λ_=>dq rfl) (bp (y0 true rfl) (aw (aE [.str "copy",.int day,.str g,.int G] rfl (bO _ (by simp)))))))),.copy _ (.inl rfl) _ _ _,by decide +kernel⟩
 ·exact⟨_,[.int day,.str g,.int G],au rfl (pre _ _ (a9 (dq rfl) (a9 (cR (p:=false) (q:=false) (dq rfl) λ_=>dq rfl) (bp (y0 true rfl) (aw (aE [.str "call",.int day,.str g,.int G] rfl (bO _ (by simp)))))))),.copy _ (.inr rfl) _ _ _,by decide +kernel⟩
 ·exact⟨_,[.int day,.str off,.str p],au rfl (pre _ _ (a9 (dq rfl) (a9 (cR (p:=false) (q:=false) (dq rfl) λ_=>dq rfl) (a9 (y0 false rfl) (bp (Ab rfl) (aw (aE [.str "named",.int day,.str off,.str p] (bJ rfl (bJ rfl (aC (O8 _ rfl rfl) (bJ rfl rfl)))) (bO _ (by simp))))))))),.named _ _ _,by decide +kernel⟩
 ·exact⟨_,[.int day,.str g],au rfl (pre _ _ (a9 (dq rfl) (a9 (cR (p:=false) (q:=false) (dq rfl) λ_=>dq rfl) (a9 (y0 false rfl) (a9 (dq rfl) (a9 (dq rfl) (a9 (dq rfl) (aw (aE [.str "death",.int day,.str g] rfl (bO _ (by simp))))))))))),.three _ (.inl rfl) _ _,by decide +kernel⟩
 ·exact⟨_,[.int day,.str g],au rfl (pre _ _ (a9 (dq rfl) (a9 (cR (p:=false) (q:=false) (dq rfl) λ_=>dq rfl) (a9 (y0 false rfl) (a9 (dq rfl) (a9 (dq rfl) (a9 (dq rfl) (aw (aE [.str "lost",.int day,.str g] rfl (bO _ (by simp))))))))))),.three _ (.inr (.inl rfl)) _ _,by decide +kernel⟩
 ·exact⟨_,[.int day,.str g],au rfl (pre _ _ (a9 (dq rfl) (a9 (cR (p:=false) (q:=false) (dq rfl) λ_=>dq rfl) (a9 (y0 false rfl) (a9 (dq rfl) (a9 (dq rfl) (a9 (dq rfl) (aw (aE [.str "found",.int day,.str g] rfl (bO _ (by simp))))))))))),.three _ (.inr (.inr rfl)) _ _,by decide +kernel⟩
 ·refine⟨_,[.int day,.str g,.str O7,.str p,.int (day+o / 32 % 3*m)],au rfl (pre _ _ (a9 (dq rfl) (a9 (cR (p:=false) (q:=false) (dq rfl) λ_=>dq rfl) (a9 (y0 false rfl) (a9 (dq rfl) (bp (Ab rfl) (aw (aE [.str "chosen",.int day,.str g,.str O7,.str p,.int (day+o / 32 % 3*m)] ?_ (bO _ (by simp)))))))))),.chosen _ _ _ _ _,by decide +kernel⟩;exact bJ rfl (bJ rfl (bJ rfl (aC (bi (.lst (zs.map .str)) (.int (5+o % 2)) rfl (by simp) Wp) (bJ rfl (bJ (bi (.int day) (.int (o / 32 % 3*m)) rfl (bi (.int (o / 32 % 3)) (.int m) (by simp) rfl (oe (by omega))) rfl) rfl)))))
 ·exact⟨_,[.int day,.str g,.str off,.str p],au rfl (pre _ _ (a9 (dq rfl) (a9 (cR (p:=false) (q:=false) (dq rfl) λ_=>dq rfl) (a9 (y0 false rfl) (a9 (dq rfl) (a9 (dq rfl) (bp (Ab rfl) (aw (aE [.str "heir",.int day,.str g,.str off,.str p] (bJ rfl (bJ rfl (bJ rfl (aC (O8 _ rfl rfl) (bJ rfl rfl))))) (bO _ (by simp))))))))))),.heir _ _ _ _,by decide +kernel⟩
def bS (r:D):Prop:=∃h k aF,r=row h k aF/\Dd k aF
def bS.c (g:bS r):wh r:=by obtain⟨h,k,aF,e,d⟩:=g;exact⟨h,k,aF,e,d.cd⟩
def bS.flat (g:bS r):bj r=true:=g.c.rp.flat
def NP (g m O:Int)(xs zs M:List Str)(ns:List Int)(ab:List D)(hz:zs.length=7)(i:Nat)(hi:i<2)(hr:ab.length<=100)(hh:M.length<=100)(v8 v9 O9 OA:OB):
  ∃r1 r2 p w8 w9 R1 R3,(bS r1/\bu r1=true/\zs[5+i]? = some (ay 0 r1))/\(bS r2/\bu r2=false)/\nO [sL (ns.map .int),sL (zs.map .str),sI m,sI O,sI g,lT ab,lT (M.map .str),sI i,v8,v9,O9,OA,none,none,none]
   = some (.nx [sL (ns.map .int),sL (zs.map .str),sI m,sI O,sI g,lT (ab++[r1]++[r2]),lT ((M++[p]).map .str),sI i,w8,w9,R1,R3,none,none,none]):=by
 have h3:=mod_lt (x:=g / (64+9*i)) (m:=3) (by decide);obtain⟨rl,_,Wq⟩:=kM (zs:=[("open" : Str),"first","last"]) (i:=g / (64+9*i) % 3) (by simp;omega) (by simp;omega);have h4:=mod_lt (x:=g / (2+8*i)) (m:=4) (by decide);obtain⟨Wr,T,R4⟩:=ng (ns:=[7,255,3,15]) (i:=g / (2+8*i) % 4) h4.1 h4.2;obtain⟨mt,R5,Ws⟩:∃mt:Nat,Wr=mt/\mt∈MR:=by
  simp only[List.mem_cons,List.not_mem_nil,or_false]at T;rcases T with rfl|rfl|rfl|rfl<;>first|exact⟨7,rfl,by decide⟩|exact⟨255,rfl,by decide⟩|exact⟨3,rfl,by decide⟩|exact⟨15,rfl,by decide⟩
 have T9:=R4;rw[R5]at T9;have TB:=mod_lt (x:=g / (31+i)) (m:=3) (by decide);obtain⟨G,Rx,ed⟩:=ng (ns:=[5,5,10]) (i:=g / (31+i) % 3) TB.1 TB.2;have Ry:0<G:=by simp only[List.mem_cons,List.not_mem_nil,or_false]at Rx;omega
 obtain⟨of,Wt,TC⟩:∃of,zs[5+i]? = some of/\bq (.lst (zs.map .str)) (.int (5+i))=sS of:=by
  have hl:5+i<zs.length:=by omega
  refine⟨zs[5+i],vU hl,?_⟩;have IF:((5:Int)+i).toNat<(zs.map D.str).length:=by rw[vI];omega
  rw[DL.zT (by omega) IF,show((5:Int)+i).toNat=5+i by omega,vF,vA,vU hl];rfl
 obtain⟨pn,_,TD⟩:=kM (zs:=zs) (i:=i) (by omega) (by omega);have Wu:(0:Int)<64+9*i/\(64:Int)+9*i<1073741824:=by omega
 have b2:(0:Int)<2+8*i/\(2:Int)+8*i<1073741824:=by omega
 have R6:(0:Int)<512+i/\(512:Int)+i<1073741824:=by omega
 have U:(0:Int)<1024+5*i/\(1024:Int)+5*i<1073741824:=by omega
 have Wv:(0:Int)<31+i/\(31:Int)+i<1073741824:=by omega
 let t:Int:=if g / (512+i) % 8=1 then 1 else 0;have ht:0<=t/\t<=1:=by show 0<=(if _ then (1:Int)else 0)/\(if _ then (1:Int)else 0)<=1;split<;>omega
 refine⟨row (t*4*m) ("root" : Str) [.str of,.int mt,.int (g / (1024+5*i) % G),.str rl],row 0 ("named" : Str) [.int 0,.str of,.str pn],pn,sS rl,sI mt,sI (t*4*m),sI (g / (1024+5*i) % G),⟨⟨_,_,_,rfl,.root _ _ _ Ws _⟩,decide_eq_true rfl,Wt⟩,⟨⟨_,_,_,rfl,.named _ _ _⟩,show decide (("named" : Str) = "root")=false by decide +kernel⟩,?_⟩;refine fw (.str rl) ?_ rfl (fw (.int mt) ?_ rfl (fw (.int (t*4*m)) ?_ rfl (fw (.int (g / (1024+5*i) % G)) ?_ rfl (Ba (ds:=ab) (d:=row (t*4*m) ("root" : Str) [.str of,.int mt,.int (g / (1024+5*i) % G),.str rl]) (b:=false) rfl ?_ rfl (bK (by omega)) (Ba (ds:=ab++[row (t*4*m) ("root" : Str) [.str of,.int mt,.int (g / (1024+5*i) % G),.str rl]]) (d:=row 0 ("named" : Str) [.int 0,.str of,.str pn]) (b:=false) rfl ?_ rfl (bK (by simp;omega)) ((j9 (ds:=M.map .str) (d:=.str pn) (b:=false) rfl ?_ rfl (bK (by simp;omega))).trans ?_))))))
 ·exact fx (x:=.lst (([("open" : Str),"first","last"]:List Str).map .str)) (y:=.int (g / (64+9*i) % 3)) (b1:=true) (b2:=false) (by simp[sizeLine]) (by simp[Wu]) Wq
 ·exact fx (x:=.lst (([7,255,3,15]:List Int).map .int)) (y:=.int (g / (2+8*i) % 4)) (b1:=true) (b2:=false) (by simp[sizeLine]) (by simp[b2]) T9
 ·refine bi (.int (t*4)) (.int m) (bi (.int t) (.int 4) ?_ rfl (by simp)) rfl (oe (by omega));refine aE [.bl (decide (g / (512+i) % 8=1))] (bJ (bi (.int (g / (512+i) % 8)) (.int 1) (by simp[R6]) rfl (by simp)) rfl) ?_;simp[t]
 ·refine bi (.int (g / (1024+5*i))) (.int G) (by simp[U]) (fx (x:=.lst (([5,5,10]:List Int).map .int)) (y:=.int (g / (31+i) % 3)) (b1:=true) (b2:=false) (by simp[sizeLine]) (by simp[Wv]) ed) ?_;show(if decide ((0:Int)<G)=true then _ else _)=_;rw[if_pos (decide_eq_true Ry)]
 ·refine aE [.int (t*4*m),.tup [.str "root",.str of,.int mt,.int (g / (1024+5*i) % G),.str rl]] (bJ rfl (bJ (aE [.str "root",.str of,.int mt,.int (g / (1024+5*i) % G),.str rl] (bJ rfl (aC (bi (.lst (zs.map .str)) (.int (5+i)) rfl (by simp) TC) (bJ rfl (bJ rfl (bJ rfl rfl))))) (bO _ (by simp))) rfl)) (bO _ (by simp))
 ·refine aE [.int 0,.tup [.str "named",.int 0,.str of,.str pn]] (bJ rfl (bJ (aE [.str "named",.int 0,.str of,.str pn] (bJ rfl (bJ rfl (aC (bi (.lst (zs.map .str)) (.int (5+i)) rfl (by simp) TC) (aC (bi (.lst (zs.map .str)) (.int i) rfl rfl TD) rfl)))) (bO _ (by simp))) rfl)) (bO _ (by simp))
 ·exact bi (.lst (zs.map .str)) (.int i) rfl rfl TD
 ·simp
noncomputable def lB (ab:List D):List Str:=(ab.filter bu).map (ay 0)
def oh (ab:List D)(r:D):lB (ab++[r])=lB ab++if bu r=true then [ay 0 r]else []:=by
 unfold lB;rw[List.filter_append,uW,List.filter_cons];split
 ·rename_i h;rfl
 ·rename_i h;rfl
def NQ (c1 m M:Int)(zs g:List Str)(ns:List Int)(ab:List D)(hz:zs.length=7)(i:Nat)(hi:i<100)(hr:ab.length<=200)(hh:g≠[])(Xu:g.length<=200)(v8 v9 O T OC OD OE:OB):
  ∃r1 G Py Pz P0,(bS r1/\bu r1=false)/\G≠[]/\G.length<=g.length+1/\nQ [sL (ns.map .int),sL (zs.map .str),sI m,sI M,sI c1,lT ab,lT (g.map .str),sI i,v8,v9,O,T,OC,OD,OE]
   = some (.nx [sL (ns.map .int),sL (zs.map .str),sI m,sI M,sI c1,lT (ab++[r1]),lT (G.map .str),sI i,v8,v9,O,T,Py,Pz,P0]):=by
 obtain⟨U,Ww,Xv⟩:=gS ns (5+i);obtain⟨cb,Wx,Xw⟩:=gS ns (30+i);obtain⟨cc,Wy,Xx⟩:=gS ns (60+i);have h3:=mod_lt (x:=U / 7) (m:=3) (by decide);obtain⟨day,FR⟩:∃day:Int,((i:Int) / 2+U / 7 % 3)*m=day:=⟨_,rfl⟩;obtain⟨k,r,ed,hD,Wz⟩:=Ia ab.length cb cc day m zs g hz hh;have W1:=λh=>hD.had3 h;have W2:=λh=>hD.had4 h;have h6:=mod_lt (x:=U / 21) (m:=6) (by decide);obtain⟨tv,W3,W4⟩:=ng (ns:=[0,0,0,0,1,4]) (i:=U / 21 % 6) h6.1 h6.2;have QX : -1000<=tv/\tv<=1000:=by simp only[List.mem_cons,List.not_mem_nil,or_false]at W3;omega
 have NZ:bj (.tup (.str k::r))=true:=by simp[hD.flat]
 have e4:∀(ρ:DL.Env),ρ[14]? = some (sT (.str k::r))->cA 14 0 ρ=sS k:=λρ h=>bi (.tup (.str k::r)) (.int 0) (by simp[h]) rfl (by simp[qY]);have e1:∀(b:Bool),decide (k = "leave" ∨ k = "named")=b->ba (f2 sU (cA 14 0) (fA aP (ae (fS "leave") (ae (fS "named") ai)))) [sL (ns.map .int),sL (zs.map .str),sI m,sI M,sI c1,lT ab,lT (g.map .str),sI i,v8,v9,O,T,sI U,sI day,sT (.str k::r)]=some b:=λb hb=>cz (bi (.str k) (.tup (([("leave" : Str),"named"]:List Str).map .str)) (e4 _ rfl) (by simp[sizeLine]) (by rw[gD,←hb];simp));have at_:∀(j:Nat)(p:Str),r[j]? = some (.str p)->∀ρ:DL.Env,ρ[14]? = some (sT (.str k::r))->f2 bq (aj 14) (fC (.int ((j+1:Nat):Int))) ρ=sS p:=λj p hp ρ hρ=>by
  have hl:j<r.length:=(vV hp).1;refine bi (.tup (.str k::r)) (.int ((j+1:Nat):Int)) (by simp[hρ]) rfl ?_;rw[DL.pE (by omega) (by simp;omega),show((j+1:Nat):Int).toNat=j+1 by omega,vF];show some ((r[j]?).getD .non,false)=_;rw[hp];rfl
 obtain⟨G,R7,OF,W5⟩:∃G:List Str,G≠[]/\G.length<=g.length+1/\∀(h:FS)(rr:Option Res),h [sL (ns.map .int),sL (zs.map .str),sI m,sI M,sI c1,lT ab,lT (G.map .str),sI i,v8,v9,O,T,sI U,sI day,sT (.str k::r)]=rr->az (du (ba (f2 sU (cA 14 0) (fA aP (ae (fS "leave") (ae (fS "named") ai))))) (iP 6 (cA 14 3)) aY) (az (du (ba (f2 cP (cA 14 0) (fS "chosen"))) (iP 6 (cA 14 4)) aY) h) [sL (ns.map .int),sL (zs.map .str),sI m,sI M,sI c1,lT ab,lT (g.map .str),sI i,v8,v9,O,T,sI U,sI day,sT (.str k::r)]=rr:=by
  by_cases hx:k = "leave" ∨ k = "named"
  ·obtain⟨p,hp⟩:=W1 hx;have Oz:k ≠ "chosen":=by rcases hx with rfl|rfl<;>decide +kernel
   refine⟨g++[p],by simp,by simp,λh rr hr=>dL (lO (e1 true (decide_eq_true hx)) (j9 (ds:=g.map .str) (d:=.str p) (b:=false) rfl (at_ 2 p hp _ rfl) rfl (bK (by simp;omega)))) (a9 (bR (a:=k) (bb:=false) (e4 _ rfl) (decide_eq_false Oz)) ?_)⟩;rw[uW]at hr;exact hr
  ·by_cases hy:k = "chosen"
   ·obtain⟨p,hp⟩:=W2 hy;refine⟨g++[p],by simp,by simp,λh rr hr=>a9 (e1 false (decide_eq_false hx)) (dL (lO (bR (a:=k) (bb:=false) (e4 _ rfl) (decide_eq_true hy)) (j9 (ds:=g.map .str) (d:=.str p) (b:=false) rfl (at_ 3 p hp _ rfl) rfl (bK (by simp;omega)))) ?_)⟩;rw[uW]at hr;exact hr
   ·exact⟨g,hh,by omega,λh rr hr=>a9 (e1 false (decide_eq_false hx)) (a9 (bR (a:=k) (bb:=false) (e4 _ rfl) (decide_eq_false hy)) hr)⟩
 refine⟨row (day+tv*m) k r,G,sI U,sI day,sT (.str k::r),⟨⟨_,_,_,rfl,hD⟩,decide_eq_false Wz⟩,R7,OF,?_⟩;refine fw (.int U) (aE [.lst (ns.map .int),.int ((5+i:Nat):Int)] (by simp) Ww) rfl (fw (.int day) ?_ rfl (fw (.tup (.str k::r)) ?_ NZ (W5 _ _ ((j9 (ds:=ab) (d:=row (day+tv*m) k r) (b:=false) rfl ?_ (by simp[row,hD.flat]) (bK (by omega))).trans ?_))))
 ·refine bi (.int ((i:Int) / 2+U / 7 % 3)) (.int m) (by simp) rfl ?_;rw[←FR];exact oe (by omega)
 ·refine aE [.int ab.length,.int cb,.int cc,.lst (zs.map .str),.int day,.lst (g.map .str),.int m] (bJ (by simp) (aC (aE [.lst (ns.map .int),.int ((30+i:Nat):Int)] (by simp) Wx) (aC (aE [.lst (ns.map .int),.int ((60+i:Nat):Int)] (by simp) Wy) (bJ rfl (bJ rfl (bJ rfl (bJ rfl rfl))))))) ed
 ·refine aE [.int (day+tv*m),.tup (.str k::r)] (bJ (bi (.int day) (.int (tv*m)) rfl (bi (.int tv) (.int m) (fx (x:=.lst (([0,0,0,0,1,4]:List Int).map .int)) (y:=.int (U / 21 % 6)) (b1:=true) (b2:=false) (by simp[sizeLine]) (by simp) W4) rfl (oe QX)) rfl) (bJ rfl rfl)) (bO _ (by simp))
 ·simp
def Ib (ns:List Int)(zs:List Str)(hz:zs.length=7)(m:Int):∃ab:List D,qD [.lst (ns.map .int),.lst (zs.map .str),.int m,.int 10]=sT ab/\(∀r∈ab,bS r)/\ab.length<=24/\lB ab=(zs.drop 5).take (lB ab).length:=by
 obtain⟨T,e1,h1⟩:=gS ns 1;obtain⟨c2,e2,h2⟩:=gS ns 2;have Pw:=mod_lt (x:=T) (m:=2) (by decide);have Px:=mod_lt (x:=c2) (m:=10) (by decide);obtain⟨n1,Wg⟩:∃n1:Nat,1+T % 2=n1:=⟨(1+T % 2).toNat,by omega⟩;obtain⟨n2,W6⟩:∃n2:Nat,3+c2 % 10=n2:=⟨(3+c2 % 10).toNat,by omega⟩;obtain⟨ρ1,f1,M,OG,u7,u8,u9,R8,R9,rfl,g1,l1,k1,o1⟩:=m8 (tg:=cQ 7) (g:=nO) n1 (λi ρ=>∃(ab:List D)(G:List Str)(v7 v8 v9 O9 OA:OB),ρ=[sL (ns.map .int),sL (zs.map .str),sI m,sI 10,sI T,lT ab,lT (G.map .str),v7,v8,v9,O9,OA,none,none,none]/\(∀r∈ab,bS r)/\ab.length=2*i/\G.length=i/\lB ab=(zs.drop 5).take i)
  [sL (ns.map .int),sL (zs.map .str),sI m,sI 10,sI T,lT [],lT [],none,none,none,none,none,none,none,none] ⟨[],[],none,none,none,none,none,rfl,by simp,rfl,rfl,rfl⟩ (by
   rintro i ρ hi ⟨ab,G,v7,v8,v9,O9,OA,rfl,g,l,k,o⟩;obtain⟨r1,r2,p,w8,w9,R1,R3,q1,q2,e⟩:=NP T m 10 [] zs G ns ab hz i (by omega) (by omega) (by omega) v8 v9 O9 OA;refine⟨_,_,rfl,.inl e,ab++[r1]++[r2],G++[p],_,w8,w9,R1,R3,rfl,?_,by simp;omega,by simp[k],by rw[oh,oh,if_pos q1.2.1,if_neg (by rw[q2.2];decide),uQ,o,List.take_add_one,List.getElem?_drop,q1.2.2];rfl⟩;intro r U;simp only[List.mem_append,List.mem_singleton]at U;rcases U with (U|rfl)|rfl
   ·exact g r U
   ·exact q1.1
   ·exact q2.1)
 obtain⟨ρ2,W7,O,W8,w7,Py,Pz,P0,rfl,g2,l2,k2,k3,o2⟩:=m8 (tg:=cQ 7) (g:=nQ) n2 (λi ρ=>∃(ab:List D)(G:List Str)(v7 OC OD OE:OB),ρ=[sL (ns.map .int),sL (zs.map .str),sI m,sI 10,sI T,lT ab,lT (G.map .str),v7,u8,u9,R8,R9,OC,OD,OE]/\(∀r∈ab,bS r)/\ab.length=2*n1+i/\G≠[]/\G.length<=n1+i/\lB ab=(zs.drop 5).take n1)
  [sL (ns.map .int),sL (zs.map .str),sI m,sI 10,sI T,lT M,lT (OG.map .str),u7,u8,u9,R8,R9,none,none,none] ⟨M,OG,u7,none,none,none,rfl,g1,by omega,λe=>by rw[e]at k1;simp at k1;omega,by omega,o1⟩ (by
   rintro i ρ hi ⟨ab,G,v7,OC,OD,OE,rfl,g,l,k,k',o⟩;obtain⟨r1,RA,Py,Pz,P0,q1,q2,q3,e⟩:=NQ T m 10 zs G ns ab hz i (by omega) (by omega) k (by omega) u8 u9 R8 R9 OC OD OE;refine⟨_,_,rfl,.inl e,ab++[r1],RA,_,Py,Pz,P0,rfl,?_,by simp;omega,q2,by omega,by rw[oh,if_neg (by rw[q1.2];decide),uQ,o]⟩;intro r U;simp only[List.mem_append,List.mem_singleton]at U;rcases U with U|rfl
   ·exact g r U
   ·exact q1.1)
 refine⟨O,au rfl (fw (.int T) (aE [.lst (ns.map .int),.int ((1:Nat):Int)] (by simp) e1) rfl (bT (ds:=[]) (by simp[sizeLine]) rfl (bT (ds:=[]) (by simp[sizeLine]) rfl (dL (mD (gU (j:=n1) (b:=false) (by simp;omega) (by omega)) f1) (dL (mD (gU (j:=n2) (b:=false) ?_ (by omega)) W7) (aw (by simp))))))),g2,by omega,?_⟩
 ·refine bi (.int 3) (.int (c2 % 10)) rfl (bi (.int c2) (.int 10) (aE [.lst (ns.map .int),.int ((2:Nat):Int)] (by simp) e2) rfl (by simp)) ?_;rw[←W6];rfl
 ·have hl:(lB O).length<=n1:=by rw[o2,List.length_take];omega
  rw[o2,List.length_take];congr 1;rw[List.length_drop];omega
def ue (a b:Nat):ii [.int a,.int b]=sO (decide (a &&& b=b)):=by
 have:Builtin.bitAnd (a:Int) (b:Int)=((a &&& b:Nat):Int):=by simp[Builtin.bitAnd]
 simp[ii,qP,this];omega
def iH (r:D):Nat:=(if kindOf r = "root" then fW 1 r else if kindOf r = "leave" then fW 3 r else fW 2 r).toNat
def fO (a:Int)(k:Str)(aF:List D):kindOf (row a k aF)=k:=rfl
noncomputable def cU:List Str:=[("leave" : Str),"paper","like"]
def rE (g:bS r)(h:bu r=true):∃a o rl,∃m:Nat,∃f:Int,r=row a ("root" : Str) [.str o,.int m,.int f,.str rl]/\m∈MR/\iH r=m:=by
 obtain⟨a,k,aF,rfl,d⟩:=g;have hk:k = "root":=of_decide_eq_true h;clear h;cases d with
 |root o rl m hm f=>exact⟨a,o,rl,m,f,rfl,hm,by unfold iH;rw[fO,if_pos rfl];rfl⟩
 |named=>exact cN hk
 |chosen=>exact cN hk
 |heir=>exact cN hk
 |three k G=>rcases G with rfl|rfl|rfl<;>exact cN hk
 |leave=>exact cN hk
 |paper k G=>rcases G with rfl|rfl<;>exact cN hk
 |copy k G=>rcases G with rfl|rfl<;>exact cN hk
def B3 (g:bS r)(h:bu r=true):aq [r,.str "matters"]=sI (iH r):=by
 obtain⟨a,o,rl,m,f,rfl,_,e⟩:=rE g h;rw[e];exact bx (i:=1) cu rfl
def Lx {a:Int}{k:Str}{aF:List D}(d:Dd k aF)(h:k∈cU):iH (row a k aF)∈MS/\(∃i:Nat,oZ gQ (.str k) (.str "matters")=sI i/\aF[i]? = some (.int (iH (row a k aF))))/\(D.str k::aF).getD (3+if k = "leave" then 1 else 0) .non=.int (iH (row a k aF))/\(3+if k = "leave" then 1 else 0)<(D.str k::aF).length:=by
 cases d with
 |leave d b p m hm x f=>
  have e:iH (row a ("leave" : Str) [.int d,.str b,.str p,.int m,iF x,.int f])=m:=by unfold iH;rw[fO,if_neg (by decide +kernel),if_pos rfl];rfl
  rw[e];refine⟨hm,⟨3,cu,rfl⟩,?_,?_⟩
  ·rw[if_pos rfl];rfl
  ·rw[if_pos rfl];simp
 |paper k hk d b m hm x r hf hp=>
  have hl:k ≠ "leave":=by rcases hk with rfl|rfl<;>decide +kernel
  have G:k ≠ "root":=by rcases hk with rfl|rfl<;>decide +kernel
  have e:iH (row a k (.int d::.str b::.int m::iF x::r))=m:=by unfold iH;rw[fO,if_neg G,if_neg hl];rfl
  rw[e];refine⟨hm,⟨2,by rcases hk with rfl|rfl<;>exact cu,rfl⟩,?_,?_⟩
  ·rw[if_neg hl];rfl
  ·rw[if_neg hl];simp
 |root=>exact cN h
 |named=>exact cN h
 |chosen=>exact cN h
 |heir=>exact cN h
 |three k g=>rcases g with rfl|rfl|rfl<;>exact cN h
 |copy k g=>rcases g with rfl|rfl<;>exact cN h
def wu (g:bS r)(h:kindOf r∈cU):aq [r,.str "matters"]=sI (iH r):=by
 obtain⟨a,k,aF,rfl,d⟩:=g;obtain⟨_,⟨i,h1,h2⟩,_⟩:=Lx (a:=a) d h;exact bx h1 h2
noncomputable def b7:List Str:=[("leave" : Str),"paper","like","copy"]
def gl (h:k∈b7∨k = "call"):eD k=true:=by
 rw[rd];refine decide_eq_true ?_;rcases h with h|rfl
 ·have:∀k∈b7,k∈yo:=by decide +kernel
  exact this k h
 ·decide +kernel
def Ic {k:Str}{aF:List D}(d:Dd k aF)(h:eD k=true):∃(dd:Int)(b:Str)(r:List D),aF=.int dd::.str b::r:=d.cd.deed.slg h
def ug (g:bS r)(h:eD (kindOf r)=true):aq [r,.str "by"]=sS (bM r):=by
 obtain⟨a,k,aF,rfl,d⟩:=g;obtain⟨dd,b,q,rfl⟩:=Ic d h;exact bx (i:=1) (EX h) rfl
noncomputable def bC (K:KL):List D:=(K.filter λx=>bu x.1).map (·.1)
theorem y4:∀(l:List (cF×D))(a:List cF×List D),(a.1++l.map (·.1)).Nodup->l.foldl qq a=(a.1++l.map (·.1),a.2++l.map (·.2))
 |[],a,_=>by simp
 |p::l,a,h=>by
  have hn:p.1∉a.1:=by
   rw[uY,List.nodup_append]at h;exact λz=>h.2.2 _ z _ mX rfl
  have e:qq a p=(a.1++[p.1],a.2++[p.2]):=by unfold qq dI dJ;rw[if_neg hn,if_neg hn]
  rw[List.foldl_cons,e,y4 l _ (by rw[List.append_assoc];exact h)];simp
section
variable {K:KL}(hn:((bC K).map (ay 0)).Nodup)
include hn
theorem lX:ca (kL K)=((bC K).map λv=>(.inr (ay 0 v):cF),bC K):=by
 have e:kL K=(bC K).map λv=>((.inr (ay 0 v):cF),v):=by unfold kL bC;rw[uP];rfl
 have g:((bC K).map λv=>(.inr (ay 0 v):cF)).Nodup:=by
  refine List.pairwise_map.mpr ((List.pairwise_map.mp hn).imp λh z=>h (Sum.inr.inj z))
 rw[e];unfold ca;rw[y4 _ _ (by rw[uP];exact g),uP,uP];simp only[List.nil_append];congr 1;exact List.map_id _
end
noncomputable def Ie (j:Nat):D->Int×Option Int
 |.tup [_,.tup (_::aF)]=>match aF[j]? with
  |some (.tup [.int s,.int u])=>(s,some u)
  |some (.tup [.int s,.non])=>(s,none)
  |_=>(0,none)
 |_=>(0,none)
def wv {h:Int}{k:Str}{aF:List D}{j:Nat}{x:Int×Option Int}(e:aF[j]? = some (iF x)):Ie j (row h k aF)=x:=by
 unfold Ie row;simp only[e];obtain⟨s,u⟩:=x;cases u<;>rfl
def gE (r:D):Int×Option Int:=if kindOf r = "leave" then Ie 4 r else Ie 3 r
def iB (r:D):Int:=if kindOf r = "root" then fW 2 r else fW 5 r
def nj (r:D):Bool:=decide (kindOf r = "leave")
def oK {r:D}(g:bS r)(h:kindOf r = "leave"):∃a d b p,∃m:Nat,∃x f,r=row a ("leave" : Str) [.int d,.str b,.str p,.int m,iF x,.int f]/\m∈MS/\iH r=m/\gE r=x/\iB r=f:=by
 obtain⟨a,k,aF,rfl,d⟩:=g;have hk:k = "leave":=h;clear h;cases d with
 |leave d b p m hm x f=>exact⟨a,d,b,p,m,x,f,rfl,hm,by unfold iH;rw[fO,if_neg (by decide +kernel),if_pos rfl];rfl,by unfold gE;rw[fO,if_pos rfl];exact wv rfl,by unfold iB;rw[fO,if_neg (by decide +kernel)];rfl⟩
 |root=>exact cN hk
 |named=>exact cN hk
 |chosen=>exact cN hk
 |heir=>exact cN hk
 |three k G=>rcases G with rfl|rfl|rfl<;>exact cN hk
 |paper k G=>rcases G with rfl|rfl<;>exact cN hk
 |copy k G=>rcases G with rfl|rfl<;>exact cN hk
def Ig {a:Int}{k:Str}{aF:List D}(d:Dd k aF)(h:k∈cU):(∃i:Nat,oZ gQ (.str k) (.str "stretch")=sI i/\aF[i]? = some (iF (gE (row a k aF))))/\(D.str k::aF).getD (4+if k = "leave" then 1 else 0) .non=iF (gE (row a k aF))/\(4+if k = "leave" then 1 else 0)<(D.str k::aF).length:=by
 cases d with
 |leave d b p m hm x f=>
  have e:gE (row a ("leave" : Str) [.int d,.str b,.str p,.int m,iF x,.int f])=x:=by unfold gE;rw[fO,if_pos rfl];exact wv rfl
  rw[e,if_pos rfl];exact⟨⟨4,cu,rfl⟩,rfl,by simp⟩
 |paper k hk d b m hm x r hf hp=>
  have hl:k ≠ "leave":=by rcases hk with rfl|rfl<;>decide +kernel
  have e:gE (row a k (.int d::.str b::.int m::iF x::r))=x:=by unfold gE;rw[fO,if_neg hl];exact wv rfl
  rw[e,if_neg hl];exact⟨⟨3,by rcases hk with rfl|rfl<;>exact cu,rfl⟩,rfl,by simp⟩
 |root=>exact cN h
 |named=>exact cN h
 |chosen=>exact cN h
 |heir=>exact cN h
 |three k g=>rcases g with rfl|rfl|rfl<;>exact cN h
 |copy k g=>rcases g with rfl|rfl<;>exact cN h
def B4 (g:bS r)(h:kindOf r∈cU):aq [r,.str "stretch"]=some (iF (gE r),false):=by
 obtain⟨a,k,aF,rfl,d⟩:=g;obtain⟨⟨i,h1,h2⟩,_⟩:=Ig (a:=a) d h;exact bx h1 h2
def ww (h:kindOf r = "leave"):kindOf r∈cU:=by rw[h];decide +kernel
def Jy (g:bS r)(h:bu r=true∨kindOf r = "leave"):aq [r,.str "further"]=sI (iB r):=by
 rcases h with h|h
 ·obtain⟨a,o,rl,m,f,rfl,_,_⟩:=rE g h;rw[show iB (row a ("root" : Str) [.str o,.int m,.int f,.str rl])=f by unfold iB;rw[fO,if_pos rfl];rfl];exact bx (i:=2) cu rfl
 ·obtain⟨a,d,b,p,m,x,f,e,_,_,_,G⟩:=oK g h;rw[G,e];exact bx (i:=5) cu rfl
def rF (r v:D):Bool:=decide (iH v &&& iH r=iH r) && !(nj r && decide (iB v<=iB r))
def iZ (r v:D):D:=if decide (iH v &&& iH r=iH r)=true then (if(nj r && decide (iB v<=iB r))=true then .str "further" else .non)else .str "matters"
def y6 (M:bS r)(O:bS v)(kr:kindOf r∈cU)(kv:bu v=true∨kindOf v = "leave"):∃d,iK [r,v]=some (d,false)/\A6 d .non=sO (rF r v)/\d=iZ r v:=by
 have T:aq [v,.str "matters"]=sI (iH v):=kv.elim (B3 O) λh=>wu O (ww h);have U:ba (fA ii (ae (fA aq (fV 1 (ae (fS "matters") ai))) (ae (fA aq (fV 0 (ae (fS "matters") ai))) ai))) [some (r,false),some (v,false)]=some (decide (iH v &&& iH r=iH r)):=cz (aE [.int (iH v),.int (iH r)] (aC (aE [v,.str "matters"] rfl T) (aC (aE [r,.str "matters"] rfl (wu M kr)) rfl)) (ue _ _));have t2:ba (f2 cP (fA aL (fV 0 ai)) (fS "leave")) [some (r,false),some (v,false)]=some (nj r):=bR (a:=kindOf r) (bb:=false) (aE [r] rfl (iY M.c)) rfl;have t3:nj r=true->ba (f2 PV (fA aq (fV 0 (ae (fS "further") ai))) (fA aq (fV 1 (ae (fS "further") ai)))) [some (r,false),some (v,false)]=some (decide (iB v<=iB r)):=λh=>cz (bi (.int (iB r)) (.int (iB v)) (aE [r,.str "further"] rfl (Jy M (.inr (of_decide_eq_true h)))) (aE [v,.str "further"] rfl (Jy O kv)) rfl);have t4:=dM t2 t3;unfold rF;cases g:decide (iH v &&& iH r=iH r) with
 |false=>exact⟨.str "matters",au rfl (bp (bU (p:=false) (U.trans (by rw[g]))) (aw rfl)),rfl,by simp only[iZ,g];rfl⟩
 |true=>
  cases G:(nj r && decide (iB v<=iB r)) with
  |true=>exact⟨.str "further",au rfl (a9 (bU (p:=true) (U.trans (by rw[g]))) (bp (t4.trans (by rw[G])) (aw rfl))),rfl,by simp only[iZ,g,G];rfl⟩
  |false=>exact⟨.non,au rfl (a9 (bU (p:=true) (U.trans (by rw[g]))) (a9 (t4.trans (by rw[G])) (aw rfl))),rfl,by simp only[iZ,g,G];rfl⟩
def iC (h:k∈cU):k∈b7:=by
 have:∀k∈cU,k∈b7:=by decide +kernel
 exact this k h
def gF (h:kindOf r∈cU):bu r=false:=by
 have:∀k∈cU,decide (k = "root")=false:=by decide +kernel
 exact this _ h
def oi (g:bS r)(h:bu r=false):aS [r]=sI (aB r):=by
 have:=re g.c;unfold se at this;rwa [h,if_neg (by decide)]at this
def pf (cs:List Cl)(r v:D):Bool:=i6 cs (ay 0 v) (ay 3 v) (bM r) (aB r) && rF r v
def oM (cs:List Cl)(r v:D):D:=if i6 cs (ay 0 v) (ay 3 v) (bM r) (aB r)=true then iZ r v else .str "holder"
def B5 (cs:List Cl)(G:cs.length<=60)(M:bS r)(T:bS v)(O:kindOf r∈cU)(hv:bu v=true):∃d,fK [.lst (cs.map aV),r,v]=some (d,false)/\A6 d .non=sO (pf cs r v)/\d=oM cs r v:=by
 obtain⟨d,e1,e2,e3⟩:=y6 M T O (.inl hv);have U:ba (fA cM (fV 0 (fV 2 (ae (fA aq (fV 1 (ae (fS "by") ai))) (ae (fA aS (fV 1 ai)) ai))))) [sL (cs.map aV),some (r,false),some (v,false)]=some (i6 cs (ay 0 v) (ay 3 v) (bM r) (aB r)):=by
  refine cz (aE [.lst (cs.map aV),v,.str (bM r),.int (aB r)] (bJ rfl (bJ rfl (aC (aE [r,.str "by"] rfl (ug M (gl (.inl (iC O))))) (aC (aE [r] rfl (oi M (gF O))) rfl)))) ?_);obtain⟨a,o,rl,m,f,rfl,_,_⟩:=rE T hv;exact wl cs G _ _
 unfold pf;cases g:i6 cs (ay 0 v) (ay 3 v) (bM r) (aB r) with
 |false=>exact⟨.str "holder",au rfl (bp (bU (p:=false) (U.trans (by rw[g]))) (aw rfl)),rfl,by simp only[oM,g];rfl⟩
 |true=>exact⟨d,au rfl (a9 (bU (p:=true) (U.trans (by rw[g]))) (aw (aE [r,v] rfl e1))),e2,by rw[e3];simp only[oM,g];rfl⟩
def Fm (cs:List Cl)(r v:D):Int:=match jR cs (ay 0 v) (ay 3 v) (aB r) with
 |.tup [_,_,.int n]=>n
 |_=>0
def Fo (h:i6 cs o rl p day=true):∃n:Int,jR cs o rl day=.tup [.str "one",.str p,.int n]:=by
 unfold i6 jR at h;unfold jR;generalize Mc cs o day=al at h ⊢;cases al with
 |nil=>
  have h:cW (.tup [.str "none"]) (.tup [.str "one",.str p])=true:=h;simp[fQ]at h
 |cons b r=>
  rw[oJ]at h ⊢;split at h
  ·have h:cW (.tup [.str "parted",.lst ((lV (b::r)).map .str)]) (.tup [.str "one",.str p])=true:=h;simp[fQ]at h
  ·rename_i hn;rw[if_neg hn];have h:cW (.tup [.str "one",.str (iz rl b r).p]) (.tup [.str "one",.str p])=true:=h;have h:(iz rl b r).p=p:=by simpa [fQ]using h
   exact⟨_,by rw[h]⟩
def Ih (h:i6 cs (ay 0 v) (ay 3 v) (bM r) (aB r)=true):jR cs (ay 0 v) (ay 3 v) (aB r)=.tup [.str "one",.str (bM r),.int (Fm cs r v)]:=by
 obtain⟨n,e⟩:=Fo h;unfold Fm;rw[e]
def Ly (cs:List Cl)(r v:D):D:=.tup [.str "office",.str (ay 0 v),.int (Fm cs r v)]
def nn (g:∀r∈ab,bS r)(hv:v∈bC (ak ab aa)):bS v/\bu v=true:=by
 obtain⟨x,hx,rfl⟩:=vO hv;obtain⟨h1,h2⟩:=vN hx;exact⟨g _ (vL (bo h1)),h2⟩
def Fp (hl:ab.length<=60)(aa:Int):(bC (ak ab aa)).length<=60:=by
 unfold bC;rw[vI];exact vR (vM _ _) (vR (cm ab aa) hl)
def CL {ab:List D}(g:∀r∈ab,bS r)(hl:ab.length<=60)(aa:Int)(hn:((bC (ak ab aa)).map (ay 0)).Nodup)(cs:List Cl)(M:cs.length<=60){O:Nat}{r:D}(U:ab[O]? = some r)(kr:kindOf r∈cU):
  ij [.tup ab,.int aa,.lst (cs.map aV),.int O]=lT (((bC (ak ab aa)).filter (pf cs r)).map (Ly cs r)):=by
 have gC:fU ab:=⟨hl,λr U=>(g r U).c⟩;have gr:=g r (vL U);have W9:=Fp hl aa;have h1:=fH (fi:=qw (fA fJ (fV 0 (fV 1 ai)))) (nT:=1) (cap:=[2,4]) (tg:=cQ 0) (c:=ba (f2 A6 (fA fK (fV 1 (fV 2 (fV 0 ai)))) (fC .non))) (fe:=aj 0)
  (ρ:=[sT ab,sI aa,sL (cs.map aV),sI O,some (r,false),none]) (bC (ak ab aa)) id (pf cs r) id
  (by show(fA fJ _ _).bind _=_;rw[aE [.tup ab,.int aa] rfl (mU gC aa),lX hn];simp) (by omega) λv hv=>by
   obtain⟨gv,G⟩:=nn g hv;obtain⟨d,e1,e2,_⟩:=B5 cs M gr gv kr G;exact⟨[some (v,false),sL (cs.map aV),some (r,false)],rfl,cz (bi d .non (aE [.lst (cs.map aV),r,v] rfl e1) rfl e2),λ_=>⟨false,rfl⟩⟩
 rw[List.map_id]at h1;have LK:bF ((bC (ak ab aa)).filter (pf cs r))=true:=bG λv hv=>(nn g (vN hv).1).1.flat;refine au rfl (fw r (bi (.tup ab) (.int O) rfl rfl (by simp[ce U])) gr.flat (bT h1 LK (aw ?_)));refine jP (fi:=bQ (aj 5)) (nT:=1) (cap:=[2,4]) (tg:=cQ 0) (fe:=fA aP (ae (fS "office") (ae (fA aq (fV 0 (ae (fS "office") ai))) (ae (f2 bq (fA eA (fV 1 (fV 0 (ae (fA aS (fV 2 ai)) ai)))) (fI 2)) ai))))
  (ρ:=[sT ab,sI aa,sL (cs.map aV),sI O,some (r,false),lT ((bC (ak ab aa)).filter (pf cs r))]) ((bC (ak ab aa)).filter (pf cs r)) id (Ly cs r) (by simp) (vR (vM _ _) (by omega)) λv hv=>?_
 obtain⟨Rn,WA⟩:=vN hv;obtain⟨gv,G⟩:=nn g Rn;have T:(i6 cs (ay 0 v) (ay 3 v) (bM r) (aB r) && rF r v)=true:=WA;rw[vC]at T;have hh:=Ih T.1;refine⟨[some (v,false),sL (cs.map aV),some (r,false)],rfl,false,?_⟩;obtain⟨a,o,rl,m,f,rfl,_,_⟩:=rE gv G;refine aE [.str "office",.str o,.int (Fm cs r _)] (bJ rfl (aC (aE [row a ("root" : Str) [.str o,.int m,.int f,.str rl],.str "office"] rfl kK) (bJ (bi (jR cs o rl (aB r)) (.int 2) (aE [.lst (cs.map aV),row a ("root" : Str) [.str o,.int m,.int f,.str rl],.int (aB r)] (bJ rfl (bJ rfl (aC (aE [r] rfl (oi gr (gF kr))) rfl))) (mS cs M _)) rfl ?_) rfl))) (bO _ (by simp));have hh:jR cs o rl (aB r)=_:=hh;rw[hh];simp[Se]
noncomputable def B6 (day:Int)(x:Int×Option Int):Bool:=decide (x.1<=day) && (match x.2 with|none=>true|some u=>decide (day<u))
noncomputable def NR:Option Int->Option Int->Bool
 |_,none=>true
 |none,some _=>false
 |some x,some y=>decide (x<=y)
def Ii (a b:Option Int):iV [uD a,uD b]=sO (NR a b):=by
 cases b with
 |none=>exact au rfl (bp (cz (by simp[uD])) (aw (by cases a<;>rfl)))
 |some y=>
  refine au rfl (a9 (cz (by simp[uD])) (aw ?_));cases a with
  |none=>exact dE (p:=false) (q:=false) (b1:=false) (by simp[uD]) (by simp)
  |some x=>exact dE (p:=true) (q:=decide (x<=y)) (b1:=false) (by simp[uD]) λ_=>by simp[uD]
def Fq (a b:Int×Option Int):Bool:=decide (b.1<=a.1) && NR a.2 b.2
def Lz (a b:Int×Option Int):iL [iF a,iF b]=sO (Fq a b) :=
 au rfl (aw (dE (b1:=false) (by simp[iF,qY]) λ_=>aE [uD a.2,uD b.2] (bJ (by simp[iF,yY]) (bJ (by simp[iF,yY]) rfl)) (Ii _ _)))
def Jz {ab:List D}{i:Nat}{r:D}(G:ab[i]? = some r)(g:bS r)(h:bu r=false):fj [.tup ab,.int i]=sT [.int (aB r),.int i] :=
 au rfl (aw (aE [.int (aB r),.int i] (bJ (aE [r] (by simp[ce G]) (oi g h)) rfl) (by simp[sizeLine])))
def Qt (a b c d:Int):JP (.tup [.int a,.int b]) (.tup [.int c,.int d])=sO (decide (a<c∨(a=c/\b<d))):=by
 show(aX [.i a,.i b] [.i c,.i d]).map _=_;rw[HP];rfl
def y7 {ab:List D}{i j:Nat}{x y:D}(hx:ab[i]? = some x)(hy:ab[j]? = some y)(g:bS x)(G:bS y)(nx:bu x=false)(M:bu y=false):gf [.tup ab,.int i,.int j]=sO (bX (x,i) (y,j)) :=
 au rfl (aw (bi (.tup [.int (aB x),.int i]) (.tup [.int (aB y),.int j]) (aE [.tup ab,.int i] rfl (Jz hx g nx)) (aE [.tup ab,.int j] rfl (Jz hy G M)) (Qt _ _ _ _)))
def jV (r:D)(g:Nat)(x:D×Nat):Bool:=bX x (r,g) && ((B6 (aB r) (gE x.1) && Fq (gE r) (gE x.1)) && rF r x.1)
def lC (r:D)(g:Nat)(x:D×Nat):D:=if bX x (r,g)=true then (if(B6 (aB r) (gE x.1) && Fq (gE r) (gE x.1))=true then iZ r x.1 else .str "days")else .str "order"
def B7 {ab:List D}{G g:Nat}{r l:D}(hr:ab[G]? = some r)(hl:ab[g]? = some l)(O:bS r)(U:bS l)(kr:kindOf r∈cU)(kl:kindOf l = "leave"):∃d,gB [.tup ab,.int G,.int g]=some (d,false)/\A6 d .non=sO (jV r G (l,g))/\d=lC r G (l,g):=by
 have nr:=gF kr;have nl:=gF (ww kl);obtain⟨d,e1,e2,e3⟩:=y6 O U kr (.inr kl);let E:DL.Env:=[sT ab,sI G,sI g,some (r,false),some (iF (gE l),false)];have al:∀ρ:DL.Env,ρ[0]? = some (sT ab)->ρ[2]? = some (sI g)->f2 bq (aj 0) (aj 2) ρ=some (l,false):=λρ h0 h2=>bi (.tup ab) (.int g) (by simp[h0]) (by simp[h2]) (by simp[ce hl]);have t1:ba (fA gf (fV 0 (fV 2 (fV 1 ai)))) E=some (bX (l,g) (r,G)):=cz (aE [.tup ab,.int g,.int G] rfl (y7 hl hr U O nl nr));have t2:ba (fA jn (ae (fA aS (fV 3 ai)) (fV 4 ai))) E=some (B6 (aB r) (gE l)):=cz (aE [.int (aB r),iF (gE l)] (aC (aE [r] rfl (oi O nr)) (bJ rfl rfl)) (Bt _ _ _));have t3:ba (fA iL (ae (fA aq (fV 3 (ae (fS "stretch") ai))) (fV 4 ai))) E=some (Fq (gE r) (gE l)):=cz (aE [iF (gE r),iF (gE l)] (aC (aE [r,.str "stretch"] rfl (B4 O kr)) (bJ rfl rfl)) (Lz _ _));have t4:=cR (bU t2) λ_=>bU t3;have go:∀(h:FS)(res:Option Res),h E=res->az (aO 3 (f2 bq (aj 0) (aj 1))) (az (aO 4 (fA aq (ae (f2 bq (aj 0) (aj 2)) (ae (fS "stretch") ai)))) h) [sT ab,sI G,sI g,none,none]=res:=λh res k=>
  fw r (bi (.tup ab) (.int G) rfl rfl (by simp[ce hr])) O.flat (fw (iF (gE l)) (aE [l,.str "stretch"] (aC (al _ rfl rfl) rfl) (B4 U (ww kl))) (js _) k)
 unfold jV;cases M:bX (l,g) (r,G) with
 |false=>exact⟨.str "order",au rfl (go _ _ (bp (bU (p:=false) (t1.trans (by rw[M]))) (aw rfl))),rfl,by simp only[lC,M];rfl⟩
 |true=>
  cases T:(B6 (aB r) (gE l) && Fq (gE r) (gE l)) with
  |false=>exact⟨.str "days",au rfl (go _ _ (a9 (bU (p:=true) (t1.trans (by rw[M]))) (bp (t4.trans (by rw[←Bool.not_and,T];rfl)) (aw rfl)))),rfl,by simp only[lC,M,T];rfl⟩
  |true=>exact⟨d,au rfl (go _ _ (a9 (bU (p:=true) (t1.trans (by rw[M]))) (a9 (t4.trans (by rw[←Bool.not_and,T];rfl)) (aw (aE [r,l] (bJ rfl (aC (al _ rfl rfl) rfl)) e1))))),e2,by rw[e3];simp only[lC,M,T];rfl⟩
def lY {ab:List D}{aa:Int}{i:Nat}{r:D}(M:ab[i]? = some r)(g:bS r):ge [.tup ab,.int aa,.int i]=sO (decide (bc r<=aa) && nj r):=by
 have G:cC [.tup ab,.int aa,.int i]=sO (decide (bc r<=aa)):=by
  obtain⟨a,k,aF,rfl,d⟩:=g;exact kJ M aa
 exact au rfl (aw (dE (aE [.tup ab,.int aa,.int i] rfl G) λ_=>bi (.str (kindOf r)) (.str "leave") (aE [r] (bJ (bi (.tup ab) (.int i) rfl rfl (by simp[ce M])) rfl) (iY g.c)) rfl (by simp[nj])))
noncomputable def iD (K:KL)(p:Str):KL:=(K.filter λx=>nj x.1).filter λx=>decide (ay 2 x.1=p)
def no (g:∀r∈ab,bS r)(h:x∈iD (ak ab aa) p):ab[x.2]? = some x.1/\bS x.1/\kindOf x.1 = "leave":=by
 obtain⟨h1,_⟩:=vN h;obtain⟨h2,h3⟩:=vN h1;exact⟨bo h2,g _ (vL (bo h2)),of_decide_eq_true h3⟩
def uh {ab:List D}(g:∀r∈ab,bS r)(hl:ab.length<=60)(aa:Int)(p:Str):iM [.tup ab,.int aa,.str p]=lT ((iD (ak ab aa) p).map λx=>.int x.2):=by
 have M:=cm ab aa;have h1:=fH (fi:=bQ (fA cG (fV 0 (fV 1 ai)))) (nT:=1) (cap:=[0,1]) (tg:=cQ 0) (c:=ba (fA ge (fV 1 (fV 2 (fV 0 ai))))) (fe:=aj 0)
  (ρ:=[sT ab,sI aa,sS p,none]) (ak ab aa) (λx=>.int x.2) (λx=>nj x.1) (λx=>.int x.2)
  (by show(fA cG _ _).bind _=_;rw[aE [.tup ab,.int aa] rfl (kI ab (λr O=>(g r O).c.rp) (by omega) aa)];rfl) (by omega) λx hx=>by
   have hk:decide (bc x.1<=aa)=true:=(vN hx).2;have:=lY (aa:=aa) (bo hx) (g _ (vL (bo hx)));rw[hk,Bool.true_and]at this;exact⟨_,rfl,cz (aE [.tup ab,.int aa,.int x.2] rfl this),λ_=>⟨false,rfl⟩⟩
 have G:bF (((ak ab aa).filter λx=>nj x.1).map λx=>D.int x.2)=true:=bG λd hd=>by obtain⟨x,_,rfl⟩:=vO hd;rfl
 refine au rfl (bT h1 G (aw ?_));refine fH (fi:=bQ (aj 3)) (nT:=1) (cap:=[2,0]) (tg:=cQ 0) (c:=ba (f2 cP (fA aq (ae (f2 bq (aj 2) (aj 0)) (ae (fS "person") ai))) (aj 1))) (fe:=aj 0)
  (ρ:=[sT ab,sI aa,sS p,lT (((ak ab aa).filter λx=>nj x.1).map λx=>.int x.2)]) ((ak ab aa).filter λx=>nj x.1) (λx=>.int x.2) (λx=>decide (ay 2 x.1=p)) (λx=>.int x.2) (by simp) (vR (vM _ _) (by omega)) λx hx=>?_
 obtain⟨h2,h3⟩:=vN hx;obtain⟨a,d,b,q,m,st,f,e,_⟩:=oK (g _ (vL (bo h2))) (of_decide_eq_true h3);refine⟨[sI x.2,sS p,sT ab],rfl,cz (bi (.str (ay 2 x.1)) (.str p) (aE [x.1,.str "person"] (bJ (bi (.tup ab) (.int x.2) rfl rfl (by simp[ce (bo h2)])) rfl) ?_) rfl (by simp)),λ_=>⟨false,rfl⟩⟩;rw[e];exact bx (i:=2) cu rfl
def CM {ab:List D}(g:∀r∈ab,bS r)(hl:ab.length<=60)(aa:Int){G:Nat}{r:D}(M:ab[G]? = some r)(T:kindOf r∈cU):
  iW [.tup ab,.int aa,.int G]=lT (((iD (ak ab aa) (bM r)).filter (jV r G)).map λx=>.tup [.str "leave",.int x.2]):=by
 have U:=g r (vL M);have Ml:=cm ab aa;have Ps:(iD (ak ab aa) (bM r)).length<=60:=vR (vM _ _) (vR (vM _ _) (by omega));have O:bF ((iD (ak ab aa) (bM r)).map λx=>D.int x.2)=true:=bG λd hd=>by obtain⟨x,_,rfl⟩:=vO hd;rfl
 refine au rfl (bT (ds:=(iD (ak ab aa) (bM r)).map λx=>.int x.2) (aE [.tup ab,.int aa,.str (bM r)] (bJ rfl (bJ rfl (aC (aE [r,.str "by"] (bJ (bi (.tup ab) (.int G) rfl rfl (by simp[ce M])) rfl) (ug U (gl (.inl (iC T))))) rfl))) (uh g hl aa _)) O (aw ?_));refine fH (fi:=bQ (aj 3)) (nT:=1) (cap:=[0,2]) (tg:=cQ 0) (c:=ba (f2 A6 (fA gB (fV 1 (fV 2 (fV 0 ai)))) (fC .non))) (fe:=fA aP (ae (fS "leave") (fV 0 ai)))
  (ρ:=[sT ab,sI aa,sI G,lT ((iD (ak ab aa) (bM r)).map λx=>.int x.2)]) (iD (ak ab aa) (bM r)) (λx=>.int x.2) (jV r G) (λx=>.tup [.str "leave",.int x.2]) (by simp) (by omega) λx hx=>?_
 obtain⟨h1,h2,h3⟩:=no g hx;obtain⟨d,e1,e2,_⟩:=B7 M h1 U h2 T h3;exact⟨[sI x.2,sT ab,sI G],rfl,cz (bi d .non (aE [.tup ab,.int G,.int x.2] rfl e1) rfl e2),λ_=>⟨false,aE [.str "leave",.int x.2] rfl (bO _ (by simp))⟩⟩
abbrev Bs:=Option Str×Int
noncomputable def yZ:Bs->D
 | (some o,n)=>.tup [.str "office",.str o,.int n]
 | (none,n)=>.tup [.str "leave",.int n]
noncomputable def si:Bs->List At
 | (some o,n)=>[.i n,.s ("office" : Str),.s o,.i n]
 | (none,n)=>[.i n,.s ("leave" : Str),.i n]
def Fs (b:Bs):bj (yZ b)=true:=by rcases b with⟨_|o,n⟩<;>rfl
def Ij (b:Bs):bq (yZ b) (.int (-1))=sI b.2:=by rcases b with⟨_|o,n⟩<;>rfl
def Ft (a b:Bs):(aX (si a) (si b)).isSome=true:=by
 have G:("office" : Str) ≠ "leave":=by decide +kernel
 rcases a with⟨_|o,n⟩<;>rcases b with⟨_|o',g⟩
 ·show(aX [.i n,.s ("leave" : Str),.i n] [.i g,.s ("leave" : Str),.i g]).isSome=true;rw[aX];split
  ·rw[aX,if_pos rfl,aX];split
   ·rw[aX];rfl
   ·rfl
  ·rfl
 ·show(aX [.i n,.s ("leave" : Str),.i n] [.i g,.s ("office" : Str),.s o',.i g]).isSome=true;rw[aX];split
  ·rw[aX,if_neg (Ne.symm G)];rfl
  ·rfl
 ·show(aX [.i n,.s ("office" : Str),.s o,.i n] [.i g,.s ("leave" : Str),.i g]).isSome=true;rw[aX];split
  ·rw[aX,if_neg G];rfl
  ·rfl
 ·show(aX [.i n,.s ("office" : Str),.s o,.i n] [.i g,.s ("office" : Str),.s o',.i g]).isSome=true;rw[aX];split
  ·rw[aX,if_pos rfl,aX];split
   ·rw[aX];split
    ·rw[aX];rfl
    ·rfl
   ·rfl
  ·rfl
def Ik (h:si a=si b):a=b:=by
 rcases a with⟨_|o,n⟩<;>rcases b with⟨_|o',g⟩<;>simp[si]at h
 ·rw[h]
 ·rw[h.1,h.2.1]
def wx (l:List Bs):eN (l.map si)=true:=by
 unfold eN;simp[List.all_eq_true,Ft]
def Ac (e:cH (si a)=cH (si b)):a=b:=Ik (nI (wx [a,b]) (by simp) (by simp) e)
def Sf (cs:List Cl)(r v:D):Bs:=(some (ay 0 v),Fm cs r v)
def ph (K:KL)(cs:List Cl)(r:D)(g:Nat):List Bs:=((bC K).filter (pf cs r)).map (Sf cs r)++((iD K (bM r)).filter (jV r g)).map λx=>(none,(x.2:Int))
def Ad (K:KL)(cs:List Cl)(r:D)(g:Nat):List Bs:=g7 (λb=>cH (si b)) (ph K cs r g)
def CN (hn:((bC (ak ab aa)).map (ay 0)).Nodup)(cs:List Cl)(r:D)(g:Nat):(ph (ak ab aa) cs r g).Nodup:=by
 unfold ph;rw[List.nodup_append];refine⟨?_,?_,?_⟩
 ·exact List.pairwise_map.mpr ((List.Pairwise.sublist List.filter_sublist (List.pairwise_map.mp hn)).imp λh e=>h (vK (Prod.mk.inj e).1))
 ·refine List.pairwise_map.mpr ((List.Pairwise.sublist (List.filter_sublist.trans (List.filter_sublist.trans List.filter_sublist)) (List.pairwise_map.mp (fM ab aa))).imp λh e=>h ?_);have:=(Prod.mk.inj e).2;omega
 ·intro a ha b hb e;obtain⟨v,_,rfl⟩:=vO ha;obtain⟨x,_,rfl⟩:=vO hb;cases (Prod.mk.inj e).1
theorem ui {α:Type}{g:α->D}{h:α->List At}:∀(l:List α),(∀x∈l,Lo (g x)=some (h x))->jl (l.map g)=some (l.map h)
 |[],_=>rfl
 |x::l,k=>by
  rw[uY,jl,k x mX,vJ,ui l λy hy=>k y (mZ _ hy)];rfl
def B8 (hl:ab.length<=30)(aa:Int)(cs:List Cl)(r:D)(g:Nat):(ph (ak ab aa) cs r g).length<=60:=by
 have h1:((bC (ak ab aa)).filter (pf cs r)).length<=30:=by
  refine vR (vM _ _) ?_;unfold bC;rw[vI];exact vR (vM _ _) (vR (cm ab aa) hl)
 have h2:((iD (ak ab aa) (bM r)).filter (jV r g)).length<=30:=vR (vM _ _) (vR (vM _ _) (vR (vM _ _) (vR (cm ab aa) hl)));unfold ph;rw[uZ,vI,vI];omega
def Fu {f:FE}{ρ:DL.Env}{b:Bool}(l:List Bs)(hl:l.length<=60)(hn:l.Nodup)(e:f ρ=some (.lst (l.map yZ),b)):zO f (qg [] (fA aP (ae (f2 bq (aj 0) (f1 lH (fI 1))) (fV 0 ai)))) ρ=lT ((g7 (λb=>cH (si b)) l).map yZ):=by
 have hm:jj (qg [] (fA aP (ae (f2 bq (aj 0) (f1 lH (fI 1))) (fV 0 ai))) ρ) (l.map yZ)=some (l.map λb=>.tup [.int b.2,yZ b]):=iq l λb _=>by
  show(fA aP _ _).map _=_;rw[aE [.int b.2,yZ b] (bJ (bi (yZ b) (.int (-1)) rfl rfl (Ij b)) (bJ rfl rfl)) (bO _ (by simp))];rfl
 have hk:jl (l.map λb=>D.tup [.int b.2,yZ b])=some (l.map si):=ui l λb _=>by rcases b with⟨_|o,n⟩<;>rfl
 have g:(l.map si).length<64/\eN (l.map si)=true/\True/\((l.map si).map cH).Nodup:=by
  refine⟨by rw[vI];omega,wx l,trivial,?_⟩;rw[uP];exact List.pairwise_map.mpr (List.Pairwise.imp (λh e=>h (Ac e)) hn)
 unfold zO vx;rw[e];simp only[vJ];rw[hm];simp only[vJ];rw[hk];simp only[vJ];rw[if_pos g];unfold jk;have G:((g7 (λb=>cH (si b)) l).map λb=>(si b,yZ b))=g7 (λp:List At×D=>cH p.1) (l.map λb=>(si b,yZ b)):=by
  refine ko _ (λx hx y hy e=>?_) ((br _ _).map _) ?_
  ·obtain⟨a,_,rfl⟩:=vO hx;obtain⟨b,_,rfl⟩:=vO hy;rw[Ac e]
  ·exact List.pairwise_map.mpr (fZ _ _)
 rw[List.zip_map',←G,uP];rfl
section
variable {ab:List D}(g:∀r∈ab,bS r) (hl:ab.length<=30) (aa:Int) (hn:((bC (ak ab aa)).map (ay 0)).Nodup)
include g hl hn
theorem y8 (cs:List Cl)(Rt:cs.length<=60){G:Nat}{r:D}(O:ab[G]? = some r)(U:kindOf r∈cU)(hk:bc r<=aa):eC [.tup ab,.int aa,.lst (cs.map aV),.int G]=lT ((Ad (ak ab aa) cs r G).map yZ):=by
 have gr:=g r (vL O);have wd:∀(ρ:DL.Env)(j:Nat),ρ[0]? = some (sT ab)->ρ[j]? = some (sI G)->fA aL (ae (f2 bq (aj 0) (aj j)) ai) ρ=sS (kindOf r):=λρ j h0 h2=>aE [r] (bJ (bi (.tup ab) (.int G) (by simp[h0]) (by simp[h2]) (by simp[ce O])) rfl) (iY gr.c);have OH:cC [.tup ab,.int aa,.int G]=sO true:=by
  obtain⟨a,k,aF,rfl,d⟩:=id gr;rw[kJ O aa,decide_eq_true (show a<=aa from hk)]
 have RB:fm [.tup ab,.int aa,.int G]=sO (decide (kindOf r∈[("paper" : Str),"like","copy"])):=au rfl (aw (dE (p:=true) (aE [.tup ab,.int aa,.int G] rfl OH) λ_=>bi (.str (kindOf r)) (.tup ([("paper" : Str),"like","copy"].map .str)) (wd _ 2 rfl rfl) rfl (gD _ _)));have hb:eB [.tup ab,.int aa,.int G]=sO true:=by
  refine(au rfl (aw (qA (aE [.tup ab,.int aa,.int G] rfl (lY O gr)) λ_=>aE [.tup ab,.int aa,.int G] rfl RB))).trans ?_;rw[decide_eq_true hk,Bool.true_and];have:∀k∈cU,(decide (k = "leave") || decide (k∈[("paper" : Str),"like","copy"]))=true:=by decide +kernel
  unfold nj;rw[this _ U]
 have Oz:decide (kindOf r = "copy")=false:=by
  have:∀k∈cU,decide (k = "copy")=false:=by decide +kernel
  exact this _ U
 have T:=B8 hl aa cs r G;have LK:bF ((ph (ak ab aa) cs r G).map yZ)=true:=bG λd hd=>by obtain⟨b,_,rfl⟩:=vO hd;exact Fs b
 refine au rfl (a9 (bU (p:=true) (cz (aE [.tup ab,.int aa,.int G] rfl hb))) (a9 (bR (a:=kindOf r) (bb:=false) (wd _ 3 rfl rfl) Oz) (bT (ds:=(ph (ak ab aa) cs r G).map yZ) ?_ LK (aw (Fu (b:=false) _ T (CN hn cs r G) rfl)))));have ho:=CL g (by omega) aa hn cs Rt O U;have hv:=CM g (by omega) aa O U;refine fx (x:=.lst (((bC (ak ab aa)).filter (pf cs r)).map (Ly cs r))) (y:=.lst (((iD (ak ab aa) (bM r)).filter (jV r G)).map λx=>.tup [.str "leave",.int x.2])) (b1:=true) (b2:=true) (aE [.tup ab,.int aa,.lst (cs.map aV),.int G] rfl ho) (aE [.tup ab,.int aa,.int G] rfl hv) ?_;have M:=T;unfold ph at M ⊢;rw[uZ,vI,vI]at M;refine(if_pos (dB (by rw[vI,vI];omega))).trans ?_;rw[uW,uP,uP];rfl
end
def L0 (K:KL)(c r:D):Bool:=decide (bM c=bM r) || (!decide (kindOf r = "copy") && (bC K).any λv=>decide (iH v &&& iH r=iH r) && i6 (aT K) (ay 0 v) (ay 3 v) (bM c) (aB c))
def Ae {α:Type}(l:List α)(p f:α->Bool):((l.filter p).map f).any id=l.any λx=>p x && f x:=by
 induction l with
 |nil=>rfl
 |cons x l g=>
  rw[List.filter_cons,List.any_cons,←g];cases h:p x with
  |true=>rw[if_pos rfl,uY,List.any_cons];rfl
  |false=>rw[if_neg (by decide)];rfl
def L1 {ab:List D}(g:∀r∈ab,bS r)(hl:ab.length<=60)(aa:Int)(jW:(aT (ak ab aa)).length<=60)(hn:((bC (ak ab aa)).map (ay 0)).Nodup){M O:Nat}{c r:D}(hc:ab[M]? = some c)(hr:ab[O]? = some r)(kc:kindOf c = "call")(kr:kindOf r∈b7):
  lS [.tup ab,.int aa,.lst ((aT (ak ab aa)).map aV),.int M,.int O]=sO (L0 (ak ab aa) c r):=by
 have gC:fU ab:=⟨hl,λr hr=>(g r hr).c⟩;have gc:=g c (vL hc);have gr:=g r (vL hr);have ac:=ce hc;have ar:=ce hr;have pc:=ug gc (gl (.inr kc));have pr:=ug gr (gl (.inl kr));have T:∀v∈bC (ak ab aa),bS v/\bu v=true:=λv hv=>by
  obtain⟨x,hx,rfl⟩:=vO hv;obtain⟨h1,h2⟩:=vN hx;exact⟨g _ (vL (bo h1)),h2⟩
 have Xz:(bC (ak ab aa)).length<=60:=by
  unfold bC;rw[vI];exact vR (vM _ _) (vR (cm ab aa) hl)
 have LA:aS [c]=sI (aB c):=by
  have:=re gc.c;unfold se at this;rwa [if_neg (by unfold bu;rw[kc];decide +kernel)]at this
 have TF:∀(v7:OB),ba (f2 cP (aj 6) (fA aq (fV 5 (ae (fS "by") ai)))) [sT ab,sI aa,sL ((aT (ak ab aa)).map aV),sI M,sI O,some (r,false),sS (bM c),v7]=some (decide (bM c=bM r)):=λv7=>cz (bi (.str (bM c)) (.str (bM r)) rfl (aE [r,.str "by"] rfl pr) (by simp));have TH:∀(v7:OB),ba (f2 cP (fA aL (fV 5 ai)) (fS "copy")) [sT ab,sI aa,sL ((aT (ak ab aa)).map aV),sI M,sI O,some (r,false),sS (bM c),v7]=some (decide (kindOf r = "copy")):=λv7=>bR (a:=kindOf r) (bb:=false) (aE [r] rfl (iY gr.c)) rfl;refine au rfl (fw r (bi (.tup ab) (.int O) rfl rfl (by simp[ar])) gr.flat (fw (.str (bM c)) (aE [c,.str "by"] (bJ (bi (.tup ab) (.int M) rfl rfl (by simp[ac])) rfl) pc) rfl ?_));unfold L0;cases h1:decide (bM c=bM r) with
 |true=>exact bp ((TF none).trans (by rw[h1])) (aw rfl)
 |false=>
  refine a9 ((TF none).trans (by rw[h1])) ?_;cases h2:decide (kindOf r = "copy") with
  |true=>exact bp ((TH none).trans (by rw[h2])) (aw rfl)
  |false=>
   have kb:kindOf r∈cU:=by
    have BJ:=of_decide_eq_false h2;have:∀k∈b7,k ≠ "copy"->k∈cU:=by decide +kernel
    exact this _ kr BJ
   have pm:=wu gr kb;refine a9 ((TH none).trans (by rw[h2])) ?_;have G:=fH (fi:=qw (fA fJ (fV 0 (fV 1 ai)))) (nT:=1) (cap:=[5]) (tg:=cQ 0) (c:=ba (fA ii (ae (fA aq (fV 0 (ae (fS "matters") ai))) (ae (fA aq (fV 1 (ae (fS "matters") ai))) ai)))) (fe:=aj 0)
    (ρ:=[sT ab,sI aa,sL ((aT (ak ab aa)).map aV),sI M,sI O,some (r,false),sS (bM c),none]) (bC (ak ab aa)) id (λv=>decide (iH v &&& iH r=iH r)) id
    (by show(fA fJ _ _).bind _=_;rw[aE [.tup ab,.int aa] rfl (mU gC aa),lX hn];simp) (by omega) λv hv=>by
     obtain⟨gv,U⟩:=T v hv;exact⟨[some (v,false),some (r,false)],rfl,cz (aE [.int (iH v),.int (iH r)] (aC (aE [v,.str "matters"] rfl (B3 gv U)) (aC (aE [r,.str "matters"] rfl pm) rfl)) (ue _ _)),λ_=>⟨false,rfl⟩⟩
   rw[List.map_id]at G;refine bT (ds:=(bC (ak ab aa)).filter λv=>decide (iH v &&& iH r=iH r)) G (bG λv hv=>(T v (vN hv).1).1.flat) (aw ?_);have OI:=jP (fi:=bQ (aj 7)) (nT:=1) (cap:=[2,6,0,3]) (tg:=cQ 0) (fe:=fA cM (fV 1 (fV 0 (fV 2 (ae (fA aS (ae (f2 bq (aj 3) (aj 4)) ai)) ai)))))
    (ρ:=[sT ab,sI aa,sL ((aT (ak ab aa)).map aV),sI M,sI O,some (r,false),sS (bM c),lT ((bC (ak ab aa)).filter λv=>decide (iH v &&& iH r=iH r))]) ((bC (ak ab aa)).filter λv=>decide (iH v &&& iH r=iH r)) id (λv=>.bl (i6 (aT (ak ab aa)) (ay 0 v) (ay 3 v) (bM c) (aB c)))
    (by simp) (vR (vM _ _) (by omega)) λv hv=>by
     obtain⟨gv,U⟩:=T v (vN hv).1;obtain⟨a,o,rl,m,f,rfl,_,_⟩:=rE gv U;exact⟨[some (row a ("root" : Str) [.str o,.int m,.int f,.str rl],false),sL ((aT (ak ab aa)).map aV),sS (bM c),sT ab,sI M],rfl,false,aE [.lst ((aT (ak ab aa)).map aV),row a ("root" : Str) [.str o,.int m,.int f,.str rl],.str (bM c),.int (aB c)] (bJ rfl (bJ rfl (bJ rfl (aC (aE [c] (bJ (bi (.tup ab) (.int M) rfl rfl (by simp[ac])) rfl) LA) rfl)))) (wl _ jW _ _)⟩
   refine(aE [_] (aC OI rfl) ?_);show(pQ _).map _=_;rw[qB,Option.map_some,Ae];rfl
def Af (g:bS r)(h:kindOf r = "call"):∃a d b,∃n:Nat,r=row a ("call" : Str) [.int d,.str b,.int n]:=by
 obtain⟨a,k,aF,rfl,d⟩:=g;have hk:k = "call":=h;clear h;cases d with
 |copy k G d b n=>subst hk;exact⟨a,d,b,n,rfl⟩
 |root=>exact cN hk
 |named=>exact cN hk
 |chosen=>exact cN hk
 |heir=>exact cN hk
 |three k G=>rcases G with rfl|rfl|rfl<;>exact cN hk
 |leave=>exact cN hk
 |paper k G=>rcases G with rfl|rfl<;>exact cN hk
def Il (ab:List D)(aa:Int)(g:Nat)(r:D)(day:Int)(c:D):Bool:=decide (kindOf c = "call") && (decide (fW 2 c=g) && (decide (aB c<=day) && (gg ab aa c && L0 (ak ab aa) c r)))
def Ag (e:f ρ=some (.str a,bb)):ba (f2 pv f (fS b)) ρ=some (!decide (a=b)):=cz (fx (x:=.str a) (y:=.str b) (b1:=bb) (b2:=false) e rfl (by simp))
section
variable {ab:List D}(g:∀r∈ab,bS r) (hl:ab.length<=60) (aa:Int) (jW:(aT (ak ab aa)).length<=60) (hn:((bC (ak ab aa)).map (ay 0)).Nodup)
include g hl jW hn
theorem y9 {M G:Nat}{c r:D}(hc:ab[M]? = some c)(U:ab[G]? = some r)(kr:kindOf r∈b7)(day:Int):jB [.tup ab,.int aa,.lst ((aT (ak ab aa)).map aV),.int M,.int G,.int day]=sO (Il ab aa G r day c):=by
 have T:=g c (vL hc);have ac:=ce hc;have tw:ba (f2 pv (fA aL (fV 6 ai)) (fS "call")) [sT ab,sI aa,sL ((aT (ak ab aa)).map aV),sI M,sI G,sI day,some (c,false)]=some (!decide (kindOf c = "call")):=Ag (a:=kindOf c) (bb:=false) (aE [c] rfl (iY T.c));refine au rfl (fw c (bi (.tup ab) (.int M) rfl rfl (by simp[ac])) T.flat ?_);unfold Il;by_cases hk:kindOf c = "call"
 ·obtain⟨a,d,b,n,ec⟩:=Af T hk;have e1:fW 2 c=(n:Int):=by rw[ec];rfl
  have e2:aB c=d:=by rw[ec];rfl
  have po:aq [c,.str "of"]=sI n:=by rw[ec];exact bx (i:=2) cu rfl
  have pd:aS [c]=sI d:=by
   have:=re T.c;unfold se at this;rwa [if_neg (by unfold bu;rw[hk];decide +kernel),e2]at this
  have t2:ba (f2 pv (fA aq (fV 6 (ae (fS "of") ai))) (aj 4)) [sT ab,sI aa,sL ((aT (ak ab aa)).map aV),sI M,sI G,sI day,some (c,false)]=some (!decide ((n:Int)=G)):=cz (bi (.int n) (.int G) (aE [c,.str "of"] rfl po) rfl (by simp));have t3:ba (f2 Ax (fA aS (fV 6 ai)) (aj 5)) [sT ab,sI aa,sL ((aT (ak ab aa)).map aV),sI M,sI G,sI day,some (c,false)]=some (decide (day<d)):=cz (bi (.int d) (.int day) (aE [c] rfl pd) rfl rfl);have O:=cR tw λ_=>cR t2 λ_=>t3;rw[e1,e2,decide_eq_true hk,Bool.true_and];rw[decide_eq_true hk]at O;by_cases h1:(n:Int)=G
  ·by_cases h2:d<=day
   ·rw[decide_eq_true h1,decide_eq_true h2,Bool.true_and,Bool.true_and];rw[decide_eq_true h1,decide_eq_false (by omega)]at O;exact a9 O (aw (dE (aE [.tup ab,.int aa,.int M] rfl (mO ab (λr U=>(g r U).c.rp) (by omega) aa hc)) λ_=>aE [.tup ab,.int aa,.lst ((aT (ak ab aa)).map aV),.int M,.int G] rfl (L1 g hl aa jW hn hc U hk kr)))
   ·rw[decide_eq_false h2,Bool.false_and,Bool.and_false];rw[decide_eq_true h1,decide_eq_true (show day<d by omega)]at O;exact bp O (aw rfl)
  ·rw[decide_eq_false h1,Bool.false_and];rw[decide_eq_false h1]at O;exact bp O (aw rfl)
 ·rw[decide_eq_false hk,Bool.false_and];refine bp (cR (p:=true) (q:=false) (tw.trans (by rw[decide_eq_false hk];rfl)) λh=>by cases h) (aw rfl)
def jK (ab:List D)(aa:Int)(G:Nat)(r:D)(day:Int):List Nat:=if bc r<=aa/\kindOf r∈b7 then ((ak ab aa).filter λx=>Il ab aa G r day x.1).map (·.2)else []
theorem oN {G:Nat}{r:D}(M:ab[G]? = some r)(day:Int):jC [.tup ab,.int aa,.lst ((aT (ak ab aa)).map aV),.int G,.int day]=lT ((jK ab aa G r day).map λn:Nat=>.int n):=by
 have gr:=g r (vL M);have ar:=ce M;have T:cC [.tup ab,.int aa,.int G]=sO (decide (bc r<=aa)):=by
  obtain⟨a,k,aF,e,d⟩:=gr;rw[e]at M;rw[show bc r=a by rw[e];rfl];exact kJ M aa
 have wd:∀ρ:DL.Env,ρ[0]? = some (sT ab)->ρ[2]? = some (sI G)->fA aL (ae (f2 bq (aj 0) (aj 2)) ai) ρ=sS (kindOf r):=λρ h0 h2=>aE [r] (bJ (bi (.tup ab) (.int G) (by simp[h0]) (by simp[h2]) (by simp[ar])) rfl) (iY gr.c);have U:ge [.tup ab,.int aa,.int G]=sO (decide (bc r<=aa) && decide (kindOf r = "leave")):=au rfl (aw (dE (aE [.tup ab,.int aa,.int G] rfl T) λ_=>bi (.str (kindOf r)) (.str "leave") (wd _ rfl rfl) rfl (by simp)));have RB:fm [.tup ab,.int aa,.int G]=sO (decide (bc r<=aa) && decide (kindOf r∈[("paper" : Str),"like","copy"])):=au rfl (aw (dE (aE [.tup ab,.int aa,.int G] rfl T) λ_=>bi (.str (kindOf r)) (.tup ([("paper" : Str),"like","copy"].map .str)) (wd _ rfl rfl) rfl (gD _ _)));have hb:eB [.tup ab,.int aa,.int G]=sO (decide (bc r<=aa/\kindOf r∈b7)):=by
  refine(au rfl (aw (qA (aE [.tup ab,.int aa,.int G] rfl U) λ_=>aE [.tup ab,.int aa,.int G] rfl RB))).trans ?_;congr 3;simp only[b7,List.mem_cons,List.not_mem_nil,or_false];by_cases h1:bc r<=aa
  ·simp[h1]
  ·simp[h1]
 unfold jK;by_cases hx:bc r<=aa/\kindOf r∈b7
 ·rw[if_pos hx];refine au rfl (a9 (bU (p:=true) (cz (aE [.tup ab,.int aa,.int G] rfl (by rw[hb,decide_eq_true hx])))) (aw ?_));have O:=fH (fi:=bQ (fA cG (fV 0 (fV 1 ai)))) (nT:=1) (cap:=[0,1,2,3,4]) (tg:=cQ 0) (c:=ba (fA jB (fV 1 (fV 2 (fV 3 (fV 0 (fV 4 (fV 5 ai)))))))) (fe:=aj 0)
   (ρ:=[sT ab,sI aa,sL ((aT (ak ab aa)).map aV),sI G,sI day]) (ak ab aa) (λx=>.int x.2) (λx=>Il ab aa G r day x.1) (λx=>.int x.2)
   (by show(fA cG _ _).bind _=_;rw[aE [.tup ab,.int aa] rfl (kI ab (λr M=>(g r M).c.rp) (by omega) aa)];rfl) (vR (cm ab aa) (by omega)) λx hx2=>by
    exact⟨_,rfl,cz (aE [.tup ab,.int aa,.lst ((aT (ak ab aa)).map aV),.int x.2,.int G,.int day] rfl (y9 g hl aa jW hn (bo hx2) M hx.2 day)),λ_=>⟨false,rfl⟩⟩
  rw[uP];exact O
 ·rw[if_neg hx];exact au rfl (bp (bU (p:=false) (cz (aE [.tup ab,.int aa,.int G] rfl (by rw[hb,decide_eq_false hx])))) (aw (aE [] rfl (dn _ (by simp)))))
omit jW in
theorem Fv (ho:(cy (ak ab aa)).length<=60){G:Nat}{r:D}(M:ab[G]? = some r)(day:Int):wb [.tup ab,.int aa,.int G,.int day]=lT ((jK ab aa G r day).map λn:Nat=>.int n):=by
 obtain⟨T,O⟩:=gY (ab:=ab) ⟨hl,λr M=>(g r M).c⟩ aa ho;exact au rfl (aw (aE [.tup ab,.int aa,.lst ((aT (ak ab aa)).map aV),.int G,.int day] (bJ rfl (bJ rfl (aC (aE [.tup ab,.int aa] rfl T) (bJ rfl (bJ rfl rfl))))) (oN g hl aa O hn M day)))
end
noncomputable def jL:List Str:=[("paper" : Str),"like","copy"]
noncomputable def ft (w:Str):Bs->D
 | (some o,n)=>.tup [.str "office",.str o,.int n]
 | (none,n)=>.tup [.str w,.int n]
def yA (r:D):Str:=if kindOf r = "copy" then ("copy" : Str)else ("leave" : Str)
def CO (b:Bs):ft ("leave" : Str) b=yZ b:=by rcases b with⟨_|o,n⟩<;>rfl
def yB (w:Str)(b:Bs):bj (ft w b)=true:=by rcases b with⟨_|o,n⟩<;>rfl
def CP {ab:List D}{n:Nat}(h:ab.length<=n)(aa:Int):cC [.tup ab,.int aa,.int n]=sO false:=by
 refine au rfl (aw (dE (p:=false) (q:=false) (b1:=false) ?_ λz=>by cases z));have h1:¬(n:Int)<ab.length:=by omega
 exact(xV (p:=true) (q:=false) (x:=.int 0) (y:=.int n) (z:=.int ab.length) (b1:=false) (b2:=false) (b3:=false) (b4:=false) rfl rfl (by simp) (by simp) λ_=>by simp[h1])
def Fw {ab:List D}{i:Nat}{r:D}(G:ab[i]? = some r)(g:bS r)(aa:Int):cC [.tup ab,.int aa,.int i]=sO (decide (bc r<=aa)):=by
 obtain⟨a,k,aF,rfl,d⟩:=g;exact kJ G aa
def wy {ab:List D}{i:Nat}{r:D}(G:ab[i]? = some r)(g:bS r){ρ:DL.Env}{j:Nat}(h0:ρ[0]? = some (sT ab))(hj:ρ[j]? = some (sI i)):fA aL (ae (f2 bq (aj 0) (aj j)) ai) ρ=sS (kindOf r) :=
 aE [r] (bJ (bi (.tup ab) (.int i) (by simp[h0]) (by simp[hj]) (by simp[ce G])) rfl) (iY g.c)
def yC {ab:List D}{i:Nat}{r:D}(G:ab[i]? = some r)(g:bS r)(aa:Int):fm [.tup ab,.int aa,.int i]=sO (decide (bc r<=aa) && decide (kindOf r∈jL)) :=
 au rfl (aw (dE (aE [.tup ab,.int aa,.int i] rfl (Fw G g aa)) λ_=>bi (.str (kindOf r)) (.tup (jL.map .str)) (wy G g rfl rfl) rfl (gD _ _)))
def yD {ab:List D}{i:Nat}{r:D}(G:ab[i]? = some r)(g:bS r)(aa:Int):eB [.tup ab,.int aa,.int i]=sO (decide (bc r<=aa) && decide (kindOf r∈b7)):=by
 refine(au rfl (aw (qA (aE [.tup ab,.int aa,.int i] rfl (lY G g)) λ_=>aE [.tup ab,.int aa,.int i] rfl (yC G g aa)))).trans ?_;congr 3;unfold nj;simp only[b7,jL,List.mem_cons,List.not_mem_nil,or_false];by_cases h1:bc r<=aa
 ·simp[h1]
 ·simp[h1]
def oP (ab:List D)(aa:Int)(r:D)(g n:Nat):Bool:=match ab[n]? with
 |none=>false
 |some q=>(decide (bc q<=aa) && decide (kindOf q∈jL)) && bX (q,n) (r,g)
def jM (g:bS r)(h:kindOf r = "copy"):∃a d b,∃n:Nat,r=row a ("copy" : Str) [.int d,.str b,.int n]:=by
 obtain⟨a,k,aF,rfl,d⟩:=g;have hk:k = "copy":=h;clear h;cases d with
 |copy k G d b n=>subst hk;exact⟨a,d,b,n,rfl⟩
 |root=>exact cN hk
 |named=>exact cN hk
 |chosen=>exact cN hk
 |heir=>exact cN hk
 |three k G=>rcases G with rfl|rfl|rfl<;>exact cN hk
 |leave=>exact cN hk
 |paper k G=>rcases G with rfl|rfl<;>exact cN hk
def rG (h:kindOf r∈jL):bu r=false:=by
 have:∀k∈jL,decide (k = "root")=false:=by decide +kernel
 exact this _ h
def CQ {ab:List D}(g:∀r∈ab,bS r)(aa:Int){G:Nat}{r:D}(O:ab[G]? = some r)(T:kindOf r = "copy"):∃n:Nat,fW 2 r=n/\jA [.tup ab,.int aa,.int G]=lT ((if oP ab aa r G n=true then [((none,(n:Int)):Bs)]else []).map (ft ("copy" : Str))):=by
 have U:=g r (vL O);obtain⟨a,d,b,n,er⟩:=jM U T;have nr:bu r=false:=rG (by rw[T];decide +kernel);have po:aq [r,.str "of"]=sI n:=by rw[er];exact bx (i:=2) cu rfl
 refine⟨n,by rw[er];rfl,?_⟩;let E:DL.Env:=[sT ab,sI aa,sI G,sI n];refine au rfl (fw (.int n) (aE [r,.str "of"] (bJ (bi (.tup ab) (.int G) rfl rfl (by simp[ce O])) rfl) po) rfl ?_);have M:eK (ba (fA fm (fV 0 (fV 1 (fV 3 ai))))) (ba (fA gf (fV 0 (fV 3 (fV 2 ai))))) E=some (oP ab aa r G n):=by
  unfold oP;cases hq:ab[n]? with
  |none=>
   have hn:ab.length<=n:=List.getElem?_eq_none_iff.mp hq;exact dM (p:=false) (q:=false) (cz (aE [.tup ab,.int aa,.int n] rfl (au rfl (aw (dE (p:=false) (q:=false) (aE [.tup ab,.int aa,.int n] rfl (CP hn aa)) λz=>by cases z))))) λz=>by cases z
  |some q=>
   have gq:=g q (vL hq);exact dM (cz (aE [.tup ab,.int aa,.int n] rfl (yC hq gq aa))) λh=>by
    rw[vC]at h;exact cz (aE [.tup ab,.int n,.int G] rfl (y7 hq O gq U (rG (of_decide_eq_true h.2)) nr))
 cases hv:oP ab aa r G n with
 |true=>
  rw[hv]at M;rw[if_pos rfl];exact bp M (aw (aE [.tup [.str "copy",.int n]] (bJ (aE [.str "copy",.int n] rfl (bO _ (by simp))) rfl) (dn _ (by simp))))
 |false=>
  rw[hv]at M;rw[if_neg (by decide)];exact a9 M (aw (aE [] rfl (dn _ (by simp))))
def kO (ab:List D)(aa:Int)(cs:List Cl)(x:D×Nat):List Bs:=if kindOf x.1 = "copy" then (if oP ab aa x.1 x.2 (fW 2 x.1).toNat=true then [(none,fW 2 x.1)]else [])else Ad (ak ab aa) cs x.1 x.2
section
variable {ab:List D}(g:∀r∈ab,bS r) (hl:ab.length<=30) (aa:Int) (hn:((bC (ak ab aa)).map (ay 0)).Nodup)
include g hl hn
theorem wz (cs:List Cl)(T:cs.length<=60){M:Nat}{r:D}(O:ab[M]? = some r)(U:kindOf r∈b7)(hk:bc r<=aa):eC [.tup ab,.int aa,.lst (cs.map aV),.int M]=lT ((kO ab aa cs (r,M)).map (ft (yA r))):=by
 have gr:=g r (vL O);unfold kO yA;by_cases G:kindOf r = "copy"
 ·rw[if_pos G,if_pos G];obtain⟨n,e1,e2⟩:=CQ g aa O G;rw[e1,Int.toNat_natCast];refine au rfl (a9 (bU (p:=true) (cz (aE [.tup ab,.int aa,.int M] rfl ((yD O gr aa).trans (by rw[decide_eq_true hk,decide_eq_true U];rfl))))) (bp (bR (a:=kindOf r) (bb:=false) (wy O gr rfl rfl) (decide_eq_true G)) (aw (aE [.tup ab,.int aa,.int M] rfl e2))))
 ·rw[if_neg G,if_neg G];have kb:kindOf r∈cU:=by
   have:∀k∈b7,k ≠ "copy"->k∈cU:=by decide +kernel
   exact this _ U G
  rw[show ft ("leave" : Str)=yZ from funext CO];exact y8 g hl aa hn cs T O kb hk
end
def L3 (e:f (mn ρ)=some (d,b))(k:h (ρ.set i (some (d,false)))=r):az (wQ i f) h ρ=r:=dL (ρ':=ρ.set i (some (d,false))) (by simp only[wQ,e,Option.map_some]) k
def B9 (e:ρ[i]? = some (some (.dk ks vs,b))):jf i ρ=some (.rt (.dk ks vs) false):=by simp[jf,e]
noncomputable def kN (x:D×Nat):cF:=.inl (x.2:Int)
def oj (ab:List D)(aa day:Int)(x:D×Nat):Bool:=(gg ab aa x.1 && decide (aB x.1<=day)) && (jK ab aa x.2 x.1 day).isEmpty
def BA {α:Type}(l:List α)(f:α->D):decide ((((l.map f).length:Nat):Int)=0)=l.isEmpty:=by
 cases l with
 |nil=>rfl
 |cons a l=>rw[uY,vE];exact decide_eq_false (by omega)
noncomputable def pi (ab:List D)(aa day:Int)(l:KL):KL:=l.filter λx=>decide (kindOf x.1∈b7) && oj ab aa day x
section
variable {ab:List D}(g:∀r∈ab,bS r) (hl:ab.length<=30) (aa:Int) (hn:((bC (ak ab aa)).map (ay 0)).Nodup)
include g hl hn
theorem L4 (O:(aT (ak ab aa)).length<=60){G:Nat}{r:D}(M:ab[G]? = some r)(kr:kindOf r∈b7)(day:Int):mK [.tup ab,.int aa,.lst ((aT (ak ab aa)).map aV),.int G,.int day]=sO (oj ab aa day (r,G)):=by
 have gr:=g r (vL M);have nr:bu r=false:=by
  have:∀k∈b7,decide (k = "root")=false:=by decide +kernel
  exact this _ kr
 let E:DL.Env:=[sT ab,sI aa,sL ((aT (ak ab aa)).map aV),sI G,sI day];have t1:ba (fA dZ (fV 0 (fV 1 (fV 3 ai)))) E=some (gg ab aa r):=cz (aE [.tup ab,.int aa,.int G] rfl (mO ab (λr M=>(g r M).c.rp) (by omega) aa M));have t2:ba (f2 Ax (fA aS (ae (f2 bq (aj 0) (aj 3)) ai)) (aj 4)) E=some (decide (day<aB r)):=cz (bi (.int (aB r)) (.int day) (aE [r] (bJ (bi (.tup ab) (.int G) rfl rfl (by simp[ce M])) rfl) (oi gr nr)) rfl rfl);have T:=cR (bU t1) λ_=>t2;have e:(!gg ab aa r || decide (day<aB r)) = !(gg ab aa r && decide (aB r<=day)):=by
  rw[Bool.not_and];congr 1;rw[←decide_not];congr 1;rw[Int.not_le]
 rw[e]at T;unfold oj;cases U:(gg ab aa r && decide (aB r<=day)) with
 |false=>
  rw[U]at T;exact au rfl (bp T (aw rfl))
 |true=>
  rw[U]at T;refine au rfl (a9 T (aw ?_));rw[Bool.true_and,←BA (jK ab aa G r day) λn:Nat=>.int n];exact bi (.int (((jK ab aa G r day).map λn:Nat=>D.int n).length:Nat)) (.int 0) (aE [.lst ((jK ab aa G r day).map λn:Nat=>.int n)] (aC (aE [.tup ab,.int aa,.lst ((aT (ak ab aa)).map aV),.int G,.int day] rfl (oN g (by omega) aa O hn M day)) rfl) rfl) rfl (by simp)
theorem Fx (ho:(cy (ak ab aa)).length<=60)(day:Int):jD [.tup ab,.int aa,.int day]=sF (.dk ((pi ab aa day (cy (ak ab aa))).map kN) ((pi ab aa day (cy (ak ab aa))).map λx=>.lst ((kO ab aa (aT (ak ab aa)) x).map (ft (yA x.1))))):=by
 have gC:fU ab:=⟨by omega,λr T=>(g r T).c⟩;obtain⟨ec,M⟩:=gY (ab:=ab) gC aa ho;have eL:dY [.tup ab,.int aa]=lT ((cy (ak ab aa)).map λx=>.int x.2):=oG gC aa;generalize U:aT (ak ab aa)=cs at ec M ⊢;have G:∀x∈cy (ak ab aa),x∈ak ab aa:=λx hx=>(vN ((br _ _).mem_iff.mp hx)).1;have LL:((cy (ak ab aa)).map (·.2)).Nodup:=nZ (fM ab aa);generalize cy (ak ab aa)=O at ho eL G LL ⊢;let vD:D×Nat->D:=λx=>.lst ((kO ab aa cs x).map (ft (yA x.1)));let E:KL->OB->DL.Env:=λL v5=>[sT ab,sI aa,sI day,sL (cs.map aV),some (.dk (L.map kN) (L.map vD),true),v5];obtain⟨ρ',e,v5,rfl⟩:=jm (tg:=cQ 5) (g:=yh) (λj ρ=>∃v5,ρ=E (pi ab aa day (O.take j)) v5) (O.map λx=>.int x.2) (E [] none) ⟨none,rfl⟩ (by
  rintro j d ρ hd ⟨v5,rfl⟩;rw[vA]at hd;obtain⟨x,hx,rfl⟩:=oY hd;have Pt:=G x (vL hx);have T:=bo Pt;have OH:bc x.1<=aa:=of_decide_eq_true (vN Pt).2;have gx:=g x.1 (vL T);have et:O.take (j+1)=O.take j++[x]:=by rw[List.take_add_one,hx];rfl
  have ef:pi ab aa day (O.take (j+1))=pi ab aa day (O.take j)++if(decide (kindOf x.1∈b7) && oj ab aa day x)=true then [x]else []:=by
   unfold pi;rw[et,List.filter_append,List.filter_cons];split<;>rfl
  have TJ:x.2∉(pi ab aa day (O.take j)).map (·.2):=by
   have h2:((O.take (j+1)).map (·.2)).Nodup:=List.Nodup.sublist (List.Sublist.map _ (List.take_sublist _ _)) LL;rw[et,uW,List.nodup_append]at h2;intro hm;obtain⟨y,hy,ey⟩:=vO hm;exact h2.2.2 _ (uS ⟨y,(vN hy).1,rfl⟩) _ (by simp) ey
  have WB:(pi ab aa day (O.take j)).length<=60:=vR (vM _ _) (vR (List.length_take_le' _ _) ho);generalize pi ab aa day (O.take j)=L at ef TJ WB;let F:DL.Env:=E L (sI x.2);have t1:ba (fA eB (fV 0 (fV 1 (fV 5 ai)))) F=some (decide (kindOf x.1∈b7)):=cz (aE [.tup ab,.int aa,.int x.2] rfl ((yD T gx aa).trans (by rw[decide_eq_true OH,Bool.true_and])));have tt:=dM t1 λh=>cz (f:=fA mK (fV 0 (fV 1 (fV 3 (fV 5 (fV 2 ai)))))) (aE [.tup ab,.int aa,.lst (cs.map aV),.int x.2,.int day] rfl (by rw[←U];exact L4 g hl aa hn (by rw[U];exact M) T (of_decide_eq_true h) day));refine⟨F,E (L++if(decide (kindOf x.1∈b7) && oj ab aa day x)=true then [x]else []) (sI x.2),rfl,.inl (Lr tt (λh=>?_) λh=>?_),sI x.2,by rw[ef]⟩
  ·rw[if_pos h];have kb:kindOf x.1∈b7:=by rw[vC]at h;exact of_decide_eq_true h.1
   have RC:qy 4 (aj 5) (fA eC (fV 0 (fV 1 (fV 3 (fV 5 ai))))) F=some (.nx (F.set 4 (some (.dk (dI (L.map kN) (kN x)) (dJ (L.map kN) (L.map vD) (kN x) (vD x)),true)))):=by
    have ev:fA eC (fV 0 (fV 1 (fV 3 (fV 5 ai)))) (mn F)=some (vD x,true):=aE [.tup ab,.int aa,.lst (cs.map aV),.int x.2] rfl (wz g hl aa hn cs M T kb OH);show((fA eC _ (mn F)).bind _)=_;rw[ev];simp only[vJ];exact if_pos (c:=(L.map kN).length<sizeLine) (bK (by rw[vI];omega))
   rw[RC];have hk:kN x∉L.map kN:=λhm=>by
    obtain⟨y,hy,ey⟩:=vO hm;exact TJ (uS ⟨y,hy,by have:=Sum.inl.inj (show(Sum.inl (y.2:Int):cF)=Sum.inl (x.2:Int)from ey);omega⟩)
   unfold dI dJ;rw[if_neg hk,if_neg hk];simp[F,E]
  ·rw[h,if_neg (by decide),uQ];rfl)
 rw[vI,List.take_length]at e;exact au rfl (L3 (aE [.tup ab,.int aa] rfl ec) (dL (ρ':=E [] none) rfl (dL (mE (ds:=O.map λx=>.int x.2) (by show(fA dY _ _).bind _=_;rw[aE [.tup ab,.int aa] rfl eL];rfl) e) (B9 (b:=true) rfl))))
end
noncomputable def nK (n:Nat):cF:=.inl (n:Int)
noncomputable def lZ:Nat->D:=λ_=>.bl true
noncomputable def cD (S:List Nat)(b:Bs):Bool:=b.1.isSome || S.any λn=>decide ((n:Int)=b.2)
noncomputable def cO (S:List Nat)(p:Nat×List Bs):List Nat:=if p.2.any (cD S)=true then S++[p.1]else S
noncomputable def gM (l:List (Nat×List Bs)):List Nat:=l.foldl cO []
theorem rH (n:Int):∀S:List Nat,(bW (S.map nK) (S.map lZ) (.inl n)).isSome=S.any λm=>decide ((m:Int)=n)
 |[]=>rfl
 |m::S=>by
  rw[uY,uY,bW,List.any_cons];by_cases h:(m:Int)=n
  ·rw[if_pos (show nK m=.inl n by unfold nK;rw[h]),decide_eq_true h];rfl
  ·rw[if_neg (show ¬nK m=.inl n from λz=>h (Sum.inl.inj z)),decide_eq_false h,rH n S];rfl
def yE (hw:decide (w=("office" : Str))=false)(S:List Nat)(b:Bs):jE [ft w b,.dk (S.map nK) (S.map lZ)]=sO (cD S b):=by
 unfold cD;rcases b with⟨_|o,n⟩
 ·refine au rfl (aw (qA (p:=false) (b1:=false) (bi (.str w) (.str "office") rfl rfl (by simp[of_decide_eq_false hw])) λ_=>bi (.int n) (.dk (S.map nK) (S.map lZ)) rfl rfl ?_));show some (D.bl (bW (S.map nK) (S.map lZ) (.inl n)).isSome,false)=_;rw[rH]
 ·exact au rfl (aw (qA (p:=true) (q:=S.any λm=>decide ((m:Int)=n)) (b1:=false) (bi (.str "office") (.str "office") rfl rfl (by simp)) λh=>by cases h))
def any_map {α:Type}(l:List α)(f:α->Bool):DV [.lst (l.map λx=>.bl (f x))]=sO (l.any f):=by
 show(pQ _).map _=_;rw[qB,Option.map_some,List.any_map];rfl
def yF (h:m∈cO S p):m∈S∨m=p.1:=by
 unfold cO at h;split at h
 ·simpa using h
 ·exact .inl h
theorem lh:∀(l:List (Nat×List Bs))(S:List Nat)(m:Nat),m∈l.foldl cO S->m∈S∨m∈l.map (·.1)
 |[],_,_,h=>.inl h
 |p::l,S,m,h=>by
  rcases lh l _ m h with h|h
  ·rcases yF h with h|rfl
   ·exact .inl h
   ·exact .inr (by simp)
  ·exact .inr (mZ _ h)
abbrev Rs:=Nat×Str×List Bs
noncomputable def nu (p:Rs):D:=.lst (p.2.2.map (ft p.2.1))
noncomputable def Ah (p:Rs):Nat×List Bs:=(p.1,p.2.2)
def Fy (l:List Rs)(hl:l.length<=60)(hw:∀p∈l,decide (p.2.1 = "office")=false)(hb:∀p∈l,p.2.2.length<=100)(hn:(l.map (·.1)).Nodup):jF [.dk (l.map λp=>nK p.1) (l.map nu)]=sF (.dk ((gM (l.map Ah)).map nK) ((gM (l.map Ah)).map lZ)):=by
 let E:List Nat->OB->OB->DL.Env:=λS G M=>[sF (.dk (l.map λp=>nK p.1) (l.map nu)),some (.dk (S.map nK) (S.map lZ),true),G,M];have za:lN (l.map λp=>nK p.1) (l.map nu)=l.map λp=>.tup [.int (p.1:Int),nu p]:=by
  unfold lN;rw[List.zip_map',uP];rfl
 obtain⟨ρ',e,G,M,rfl⟩:=jm (tg:=Jk [2,3]) (g:=yi) (λj ρ=>∃G M,ρ=E (gM ((l.take j).map Ah)) G M) (l.map λp=>.tup [.int (p.1:Int),nu p]) (E [] none none) ⟨none,none,rfl⟩ (by
  rintro j d ρ hd ⟨G,M,rfl⟩;rw[vA]at hd;obtain⟨p,hp,rfl⟩:=oY hd;have O:=vL hp;have et:l.take (j+1)=l.take j++[p]:=by rw[List.take_add_one,hp];rfl
  have es:gM ((l.take (j+1)).map Ah)=cO (gM ((l.take j).map Ah)) (Ah p):=by
   rw[et,uW];unfold gM;rw[List.foldl_append];rfl
  have T:p.1∉gM ((l.take j).map Ah):=λhm=>by
   have h2:((l.take (j+1)).map (·.1)).Nodup:=List.Nodup.sublist (List.Sublist.map _ (List.take_sublist _ _)) hn;rw[et,uW,List.nodup_append]at h2;rcases lh _ _ _ hm with h|h
   ·cases h
   ·rw[uP]at h;exact h2.2.2 _ h _ (by simp) rfl
  have Po:(gM ((l.take j).map Ah)).length<=60:=by
   have:∀(q:List (Nat×List Bs))(S:List Nat),(q.foldl cO S).length<=S.length+q.length:=λq=>by
    induction q with
    |nil=>intro S;exact vT _
    |cons a q ih=>
     intro S;refine vR (ih _) ?_;unfold cO;split
     ·rw[uZ,vE,List.length_nil,vE];omega
     ·rw[vE];omega
   have h3:=this ((l.take j).map Ah) [];rw[vI,List.length_take,List.length_nil]at h3;exact vR h3 (by omega)
  generalize gM ((l.take j).map Ah)=S at es T Po;let F:DL.Env:=E S (sI (p.1:Int)) (some (nu p,false));have hc:=jP (fi:=bQ (aj 3)) (nT:=1) (cap:=[1]) (tg:=cQ 0) (fe:=fA jE (fV 0 (fV 1 ai))) (ρ:=F) p.2.2 (ft p.2.1) (λb=>.bl (cD S b)) rfl (by have:=hb p O;omega) λb _=>⟨[some (ft p.2.1 b,false),sF (.dk (S.map nK) (S.map lZ))],rfl,false,aE [ft p.2.1 b,.dk (S.map nK) (S.map lZ)] rfl (yE (hw p O) S b)⟩;have t1:ba (fA DV (ae (bI (bQ (aj 3)) 1 [1] (cQ 0) fu (fA jE (fV 0 (fV 1 ai)))) ai)) F=some (p.2.2.any (cD S)):=cz (aE [.lst (p.2.2.map λb=>.bl (cD S b))] (aC hc rfl) (any_map _ _));refine⟨F,E (cO S (Ah p)) (sI (p.1:Int)) (some (nu p,false)),rfl,.inl (Lr t1 (λh=>?_) λh=>?_),_,_,by rw[es]⟩
  ·have hk:nK p.1∉S.map nK:=λhm=>by
    obtain⟨y,hy,ey⟩:=vO hm;have:=Sum.inl.inj (show(Sum.inl (y:Int):cF)=Sum.inl (p.1:Int)from ey);exact T (by rw[show p.1=y by omega];exact hy)
   have U:xQ 1 (aj 2) (fC (.bl true)) F=some (.nx (F.set 1 (some (.dk (dI (S.map nK) (nK p.1)) (dJ (S.map nK) (S.map lZ) (nK p.1) (.bl true)),true)))):=if_pos (c:=bj (.bl true)=true/\(S.map nK).length<sizeLine) ⟨rfl,bK (by rw[vI];omega)⟩;rw[U];unfold dI dJ cO;rw[if_neg hk,if_neg hk,if_pos (show(Ah p).2.any (cD S)=true from h)];simp[F,E,Ah,lZ]
  ·unfold cO;rw[if_neg (show ¬(Ah p).2.any (cD S)=true by show ¬p.2.2.any (cD S)=true;rw[h];decide)];rfl)
 rw[vI,List.take_length]at e;exact au rfl (dL (ρ':=E [] none none) rfl (dL (mE (ds:=l.map λp=>.tup [.int (p.1:Int),nu p]) (by show some (lN _ _)=_;rw[za]) e) (B9 (b:=true) rfl)))
def bE (ab:List D)(aa:Int)(x:D×Nat):List Bs:=kO ab aa (aT (ak ab aa)) x
def bv (ab:List D)(aa day:Int):List Nat:=gM ((pi ab aa day (cy (ak ab aa))).map λx=>(x.2,bE ab aa x))
def Fz (r:D):decide (yA r = "office")=false:=by
 unfold yA;split
 ·decide +kernel
 ·decide +kernel
def gT (h:kindOf r∈b7):bu r=false:=by
 have:∀k∈b7,decide (k = "root")=false:=by decide +kernel
 exact this _ h
section
variable {ab:List D}(g:∀r∈ab,bS r) (hl:ab.length<=30) (aa:Int) (hn:((bC (ak ab aa)).map (ay 0)).Nodup) (ho:(cy (ak ab aa)).length<=60)
include hl
theorem rJ (x:D×Nat):(bE ab aa x).length<=60:=by
 unfold bE kO;split
 ·split
  ·exact(by decide:1<=60)
  ·exact uN _
 ·unfold Ad;rw[(br _ _).length_eq];exact B8 hl aa _ _ _
end
def Md (K:KL)(g:List Cl):Prop:=∀c∈g,(jS K c.o).isSome=true
def oQ (h:cB K so x=true)(hk:kindOf x.1∈sg):(jS K (wo x.1)).isSome=true:=by
 unfold cB at h;rw[if_neg (by intro e;rw[e]at hk;exact cN hk),if_pos hk]at h;cases e:jS K (wo x.1) with
 |none=>rw[e]at h;cases h
 |some v=>rfl
def F0 {K:KL}{st:Jv}{x:D×Nat}(h:Md K st.1):Md K (dN K st x).1:=by
 unfold dN;split
 ·rename_i hc;split
  ·rename_i hk;intro c hm;rcases List.mem_append.mp hm with hm|hm
   ·exact h c hm
   ·rw[uT hm];have:=oQ hc (by rw[hk];decide +kernel);unfold wo at this;rwa [if_pos hk]at this
  ·rename_i hn;have G:wo x.1=ay 2 x.1:=if_neg hn;split
   ·rename_i hk;intro c hm;rcases List.mem_append.mp hm with hm|hm
    ·obtain⟨g,h1,h2,_⟩:=gX hm;rw[←h2];exact h g h1
    ·rw[uT hm,←G];exact oQ hc (by rw[hk];decide +kernel)
   ·split
    ·exact h
    ·intro c hm;rcases List.mem_append.mp hm with hm|hm
     ·obtain⟨g,h1,h2,_⟩:=gX hm;rw[←h2];exact h g h1
     ·obtain⟨o,h1,h2⟩:=List.mem_flatMap.mp hm;have ho:c.o=o:=by
       unfold dF at h2;split at h2
       ·split at h2
        ·rw[uT h2]
        ·cases h2
       ·cases h2
      obtain⟨g,h3,h4⟩:=Fe h1;rw[ho,←h4];exact h g h3
 ·exact h
theorem yG (K:KL):∀(l:KL)(st:Jv),Md K st.1->Md K (l.foldl (dN K) st).1
 |[],_,h=>h
 |_::l,_,h=>yG K l _ (F0 h)
def Im (K:KL):Md K (aT K):=λc hc=>yG K (cy K) ([],[],[]) (λ_ h=>nomatch h) c ((br _ _).mem_iff.mp hc)
def CS (hn:((bC K).map (ay 0)).Nodup)(h:jS K o=some v):v∈bC K:=by
 unfold jS at h;rw[lX hn]at h;exact mT h
def Sd (d:D):Prop:=d=.non∨∃s,d=.str s
def Sd.flat (h:Sd d):bj d=true:=by rcases h with rfl|⟨s,rfl⟩<;>rfl
def Sd.plain (h:Sd d)(n:Nat):aI n d=true:=by rcases h with rfl|⟨s,rfl⟩<;>simp
def yH (r v:D):Sd (iZ r v):=by unfold iZ;repeat' (first|exact .inr ⟨_,rfl⟩|exact .inl rfl|split)
def Io (cs:List Cl)(r v:D):Sd (oM cs r v):=by unfold oM;split<;>first|exact yH _ _|exact .inr ⟨_,rfl⟩
def BB (r:D)(g:Nat)(x:D×Nat):Sd (lC r g x):=by unfold lC;repeat' (first|exact yH _ _|exact .inr ⟨_,rfl⟩|split)
def F1 (K:KL)(o:Str):D:=(jS K o).getD .non
def lD (cs:List Cl)(p:Str):List Str:=kn (ia ((cs.filter λc=>decide (c.p=p)).map (·.o)))
def L5 (K:KL)(cs:List Cl)(r:D)(o:Str):D:=.tup [.str "office",.str o,oM cs r (F1 K o)]
def Gc (r:D)(g:Nat)(x:D×Nat):D:=.tup [.str "leave",.int x.2,if jV r g x=true then .str "falls" else lC r g x]
def Pl (d:D):Prop:=bj d=true/\aI 5 d=true
def F3 (hd:Sd d):Pl (.tup [.str w,.str o,d])/\Pl (.tup [.str w,.int n,d]):=⟨⟨by simp[hd.flat],by simp[hd.plain]⟩,⟨by simp[hd.flat],by simp[hd.plain]⟩⟩
def BC {ds:List D}(h:∀d∈ds,Pl d):bF ds=true:=bG λd hd=>(h d hd).1
def F4 {ds:List D}(h:∀d∈ds,Pl d):aI 40 (.lst ds)=true:=by
 simp only[aI,List.all_eq_true];exact λd hd=>io 5 39 _ (by decide) (h d hd).2
def NS (r:D)(g:Nat)(x:D×Nat):Pl (Gc r g x):=by unfold Gc;refine(F3 (o:=("" : Str)) ?_).2;split<;>first|exact BB _ _ _|exact .inr ⟨_,rfl⟩
def J0 {c:FT}{f g:FE}(e:c ρ=some true)(k:f ρ=x):GD c f g ρ=x:=by unfold GD;rw[e];exact k
def J5 {c:FT}{f g:FE}(e:c ρ=some false)(k:g ρ=x):GD c f g ρ=x:=by unfold GD;rw[e];exact k
def CT (g:Md K cs)(h:o∈lD cs p):∃v,jS K o=some v:=by
 rcases iA _ _ _ ((dw _).mem_iff.mp h)with h|h
 ·cases h
 ·obtain⟨c,hc,rfl⟩:=vO h;exact uU (g c (vN hc).1)
def uj (g:cs.length<=60)(p:Str):(lD cs p).length<=60:=by
 unfold lD;rw[(dw _).length_eq];exact vR (mw _) (by rw[vI];exact vR (vM _ _) g)
def Ip {f:FE}{ρ:DL.Env}(g:cs.length<=60)(p:Str)(hc:f ρ=lT ((cs.filter λc=>decide (c.p=p)).map λc=>.str c.o)):f1 eU f ρ=lT ((lD cs p).map .str):=by
 have e2:(cs.filter λc=>decide (c.p=p)).map (λc=>D.str c.o)=((cs.filter λc=>decide (c.p=p)).map (·.o)).map .str:=by rw[uP];rfl
 rw[e2]at hc;unfold f1;rw[hc,vJ];show(gO (((cs.filter λc=>decide (c.p=p)).map (·.o)).map .str)).bind _=_;rw[mR,vJ,if_pos (by rw[vI];exact Nat.lt_of_le_of_lt (vM _ _) (by omega))];rfl
section
variable {ab:List D}(g:∀r∈ab,bS r) (hl:ab.length<=30) (aa:Int) (hn:((bC (ak ab aa)).map (ay 0)).Nodup) (ho:(cy (ak ab aa)).length<=60)
include g hl hn ho
theorem Ai {O:Nat}{r:D}(T:ab[O]? = some r)(kr:kindOf r∈cU):eX [.tup ab,.int aa,.int O]=lT ((lD (aT (ak ab aa)) (bM r)).map (L5 (ak ab aa) (aT (ak ab aa)) r)):=by
 have gC:fU ab:=⟨by omega,λr T=>(g r T).c⟩;have U:=g r (vL T);obtain⟨ec,G⟩:=gY (ab:=ab) gC aa ho;have M:=Im (ak ab aa);generalize aT (ak ab aa)=cs at ec G M;let R:D:=.dk (ca (kL (ak ab aa))).1 (ca (kL (ak ab aa))).2;have LH:=uj G (bM r);let E:OB->DL.Env:=λv6=>[sT ab,sI aa,sI O,some (r,false),sL (cs.map aV),sF R,v6];have hc:=fH (fi:=bQ (aj 4)) (nT:=1) (cap:=[3]) (tg:=cQ 0) (c:=ba (f2 cP (cA 0 1) (fA aq (fV 1 (ae (fS "by") ai))))) (fe:=cA 0 0) (ρ:=E none) cs aV (λc=>decide (c.p=bM r)) (λc=>.str c.o) rfl (by omega) λc _=>⟨[some (aV c,false),some (r,false)],rfl,cz (bi (.str c.p) (.str (bM r)) (bi (aV c) (.int 1) rfl rfl (Lu c)) (aE [r,.str "by"] rfl (ug U (gl (.inl (iC kr))))) (by simp)),λ_=>⟨false,bi (aV c) (.int 0) rfl rfl (Mb c)⟩⟩;have hs:=Ip G (bM r) hc;refine au rfl (fw r (bi (.tup ab) (.int O) rfl rfl (by simp[ce T])) U.flat (bT (ds:=cs.map aV) (aE [.tup ab,.int aa] rfl ec) (ir cs) (CB (d:=R) (b:=false) (aE [.tup ab,.int aa] rfl (mU gC aa)) (by simp[R,bj]) (.inl rfl) (bT (ds:=(lD cs (bM r)).map .str) hs (dr _) (aw (jP (fi:=bQ (aj 6)) (nT:=1) (cap:=[4,3,5]) (tg:=cQ 0) (lD cs (bM r)) .str _ rfl (by omega) λo h=>?_))))));obtain⟨v,hv⟩:=CT M h;obtain⟨gv,WC⟩:=nn g (CS hn hv);obtain⟨d,e1,_,e3⟩:=B5 cs G U gv kr WC;have eb:L5 (ak ab aa) cs r o=.tup [.str "office",.str o,d]:=by unfold L5 F1;rw[hv,e3];rfl
 rw[eb];exact⟨[sS o,sL (cs.map aV),some (r,false),sF R],rfl,false,aE [.str "office",.str o,d] (bJ rfl (bJ rfl (aC (aE [.lst (cs.map aV),r,v] (bJ rfl (bJ rfl (aC (bi R (.str o) rfl rfl (show(jS (ak ab aa) o).map (λd=>(d,false))=some (v,false) by rw[hv];rfl)) rfl))) e1) rfl))) (bO _ (by simp))⟩
omit hn ho in
theorem Aj {G:Nat}{r:D}(M:ab[G]? = some r)(U:kindOf r∈cU):fL [.tup ab,.int aa,.int G]=lT ((iD (ak ab aa) (bM r)).map (Gc r G))/\(iD (ak ab aa) (bM r)).length<=60:=by
 have gr:=g r (vL M);have Ml:=cm ab aa;have O:(iD (ak ab aa) (bM r)).length<=60:=vR (vM _ _) (vR (vM _ _) (by omega));have T:bF ((iD (ak ab aa) (bM r)).map λx=>D.int x.2)=true:=bG λd hd=>by obtain⟨x,_,rfl⟩:=vO hd;rfl
 refine⟨au rfl (bT (ds:=(iD (ak ab aa) (bM r)).map λx=>.int x.2) (aE [.tup ab,.int aa,.str (bM r)] (bJ rfl (bJ rfl (aC (aE [r,.str "by"] (bJ (bi (.tup ab) (.int G) rfl rfl (by simp[ce M])) rfl) (ug gr (gl (.inl (iC U))))) rfl))) (uh g (by omega) aa _)) T (aw (jP (fi:=bQ (aj 3)) (nT:=1) (cap:=[0,2]) (tg:=cQ 0) (iD (ak ab aa) (bM r)) (λx=>.int x.2) (Gc r G) (by simp) (by omega) λx hx=>?_))),O⟩;obtain⟨h1,h2,h3⟩:=no g hx;obtain⟨d,e1,e2,e3⟩:=B7 M h1 gr h2 U h3;have sd:Sd d:=by rw[e3];exact BB _ _ _
 refine⟨[sI x.2,sT ab,sI G],rfl,false,aE [.tup ab,.int G,.int x.2] rfl ?_⟩;have tt:ba (f2 A6 (aj 3) (fC .non)) [sT ab,sI G,sI x.2,some (d,false)]=some (jV r G x):=cz (bi d .non rfl rfl e2);unfold Gc;cases hb:jV r G x with
 |true=>exact au rfl (fw d (aE [.tup ab,.int G,.int x.2] rfl e1) sd.flat (aw (aE [.str "leave",.int x.2,.str "falls"] (bJ rfl (bJ rfl (bJ (J0 (tt.trans (by rw[hb])) rfl) rfl))) (bO _ (by simp)))))
 |false=>exact au rfl (fw d (aE [.tup ab,.int G,.int x.2] rfl e1) sd.flat (aw (aE [.str "leave",.int x.2,d] (bJ rfl (bJ rfl (bJ (J5 (tt.trans (by rw[hb])) rfl) rfl))) (by rw[←e3];exact bO _ (by simp)))))
end
def Iq (n:Nat)(S:List Nat):(S.any λm=>decide ((m:Int)=(n:Int)))=decide (n∈S):=by
 rw[Bool.eq_iff_iff,List.any_eq_true,decide_eq_true_iff];constructor
 ·rintro⟨m,h,e⟩;have:=of_decide_eq_true e;rw[show n=m by omega];exact h
 ·exact λh=>⟨n,h,decide_eq_true rfl⟩
def rK (n:Nat)(S:List Nat):(bW (S.map nK) (S.map lZ) (.inl (n:Int))).isSome=decide (n∈S):=by rw[rH,Iq]
def F5 (h:aI 40 d=true):pv d d=sO false:=by
 unfold pv;rw[if_pos ⟨h,h⟩,qX 40 _ h];rfl
def F6 (ab:List D)(aa:Int):bC (ak ab aa)=ab.filter λv=>bu v && decide (bc v<=aa):=by
 unfold bC ak;rw[List.filter_filter];have:∀(l:List (D×Nat))(q:D->Bool),(l.filter λx=>q x.1).map (·.1)=(l.map (·.1)).filter q:=λl q=>by rw[List.filter_map];rfl
 refine(this ab.zipIdx λv=>bu v && decide (bc v<=aa)).trans ?_;rw[List.zipIdx_map_fst]
def F7 (ab:List D)(aa:Int):((bC (ak ab aa)).map (ay 0)).Sublist (lB ab):=by
 rw[F6];unfold lB;refine List.Sublist.map _ ?_;have:(ab.filter λv=>bu v && decide (bc v<=aa))=(ab.filter bu).filter λv=>decide (bc v<=aa):=by rw[List.filter_filter];congr 1;funext v;rw[Bool.and_comm]
 rw[this];exact List.filter_sublist
def F8 (h:m∈S):m∈cO S p:=by
 unfold cO;split
 ·exact List.mem_append_left _ h
 ·exact h
theorem rL:∀(q:List (Nat×List Bs))(S:List Nat),m∈S->m∈q.foldl cO S
 |[],_,h=>h
 |_::q,_,h=>rL q _ (F8 h)
theorem rM {p:Nat×List Bs}(hb:∀S,p.2.any (cD S)=true):∀(l:List (Nat×List Bs))(S:List Nat),p∈l->p.1∈l.foldl cO S
 |q::l,S,h=>by
  rcases vP h with rfl|h
  ·exact rL l _ (by unfold cO;rw[if_pos (hb S)];simp)
  ·exact rM hb l _ h
def CU {ab:List D}{aa day:Int}{n:Nat}{r:D}(G:ab[n]? = some r)(g:kindOf r∈cU)(hk:bc r<=aa)(hf:oj ab aa day (r,n)=true)(hS:n∉bv ab aa day)(hv:v∈bC (ak ab aa)):pf (aT (ak ab aa)) r v=false:=by
 rw[Bool.eq_false_iff];intro ho;refine hS (rM (p:=(n,bE ab aa (r,n))) (λS=>?_) _ [] (uS ⟨(r,n),?_,rfl⟩))
 ·rw[List.any_eq_true];refine⟨Sf (aT (ak ab aa)) r v,?_,rfl⟩;unfold bE kO;rw[if_neg (by intro e;have e:kindOf r = "copy":=e;rw[e]at g;exact cN g)];unfold Ad;refine(br _ _).mem_iff.mpr ?_;unfold ph;exact List.mem_append_left _ (uS ⟨v,List.mem_filter.mpr ⟨hv,ho⟩,rfl⟩)
 ·refine List.mem_filter.mpr ⟨(br _ _).mem_iff.mpr (List.mem_filter.mpr ⟨List.mem_filter.mpr ⟨?_,decide_eq_true hk⟩,by simp[gF g]⟩),by rw[hf,decide_eq_true (iC g)];rfl⟩;exact List.mem_iff_getElem?.mpr ⟨n,by rw[List.getElem?_zipIdx,G];simp⟩
def jt (ab:List D)(aa day:Int):List Rs:=(pi ab aa day (cy (ak ab aa))).map λx=>(x.2,yA x.1,bE ab aa x)
section
variable {ab:List D}(g:∀r∈ab,bS r) (hl:ab.length<=30) (aa:Int) (hn:((bC (ak ab aa)).map (ay 0)).Nodup) (ho:(cy (ak ab aa)).length<=60)
theorem ul (day:Int):((jt ab aa day).map (·.1)).Nodup:=by
 unfold jt;rw[uP];exact List.Nodup.sublist (List.Sublist.map _ List.filter_sublist) (nZ (fM ab aa))
theorem NT (day:Int):∀p∈jt ab aa day,decide (p.2.1 = "office")=false:=λp hp=>by obtain⟨x,_,rfl⟩:=vO hp;exact Fz _
include ho in
theorem Ir (day:Int):(jt ab aa day).length<=60:=by unfold jt;rw[vI];exact vR (vM _ _) ho
include hl in
theorem NU (day:Int):∀p∈jt ab aa day,p.2.2.length<=100:=λp hp=>by obtain⟨x,_,rfl⟩:=vO hp;exact vR (rJ hl aa x) (by decide)
include g hl hn ho
end
def Iu (ab:List D)(aa:Int)(n:Nat):List Bs:=match ab[n]? with
 |some r=>bE ab aa (r,n)
 |none=>[]
inductive Lk (S:List Nat)(rs:Nat->List Bs):List Nat->Int->Prop
 |one (n:Nat) (b:Bs) (l:List Bs) (hS:n∈S) (h:(rs n).filter (cD S)=b::l) (ho:b.1.isSome=true):Lk S rs [n] b.2
 |more (n m:Nat) (ns:List Nat) (c:Int) (b:Bs) (l:List Bs) (hS:n∈S) (h:(rs n).filter (cD S)=b::l) (ho:b.1=none) (hm:b.2=(m:Int)) (k:Lk S rs (m::ns) c):Lk S rs (n::m::ns) c
def yI (K:KL){x y:D×Nat}(hy:y∈K)(h:bX y x=true):(K.filter λz=>bX z y).length<(K.filter λz=>bX z x).length:=by
 have g:∀z∈K,bX z y=true->bX z x=true:=λz _ hz=>by
  unfold bX at *;simp only[decide_eq_true_eq]at *;omega
 have e:K.filter (λz=>bX z y)=(K.filter λz=>bX z x).filter λz=>bX z y:=by
  rw[List.filter_filter];refine List.filter_congr λz hz=>?_;cases k:bX z y with
  |false=>rfl
  |true=>rw[g z hz k];rfl
 rw[e];refine Nat.lt_of_le_of_ne (vM _ _) λz=>?_;have hm:y∈(K.filter λz=>bX z x):=List.mem_filter.mpr ⟨hy,h⟩;have:=List.length_filter_eq_length_iff.mp z y hm;unfold bX at this;simp at this
section
variable {ab:List D}{aa:Int}
def L6 {day:Int}{n:Nat}(h:n∈bv ab aa day):∃r,ab[n]? = some r/\(r,n)∈ak ab aa/\kindOf r∈b7/\(n,yA r,bE ab aa (r,n))∈jt ab aa day:=by
 rcases lh _ _ _ h with z|z
 ·cases z
 ·obtain⟨p,hp,rfl⟩:=vO z;obtain⟨x,hx,rfl⟩:=vO hp;obtain⟨h1,h2⟩:=vN hx;rw[vC]at h2;have hk:=(vN ((br _ _).mem_iff.mp h1)).1;exact⟨x.1,bo hk,hk,of_decide_eq_true h2.1,uS ⟨x,hx,rfl⟩⟩
def F9 {S T:List Nat}(h:∀m∈S,m∈T)(b:Bs)(k:cD S b=true):cD T b=true:=by
 unfold cD at k ⊢;rw[Bool.or_eq_true,List.any_eq_true]at k ⊢;exact k.imp id λ⟨n,hn,e⟩=>⟨n,h n hn,e⟩
def BD (h:m∈S):m∈cO S p:=by
 unfold cO;split
 ·exact List.mem_append_left _ h
 ·exact h
theorem BE:∀(q:List (Nat×List Bs))(S:List Nat),m∈S->m∈q.foldl cO S
 |[],_,h=>h
 |_::q,_,h=>BE q _ (BD h)
theorem rN:∀(l:List (Nat×List Bs))(S:List Nat)(n:Nat),n∈l.foldl cO S->n∈S∨∃p∈l,p.1=n/\p.2.any (cD (l.foldl cO S))=true
 |[],S,n,h=>.inl h
 |p::l,S,n,h=>by
  rw[List.foldl_cons]at h ⊢;rcases rN l (cO S p) n h with z|⟨g,hp,e,k⟩
  ·by_cases hs:n∈S
   ·exact .inl hs
   ·unfold cO at z;split at z
    ·rename_i hb;rcases List.mem_append.mp z with q|q
     ·exact absurd q hs
     ·obtain⟨b,h1,h2⟩:=List.any_eq_true.mp hb;exact .inr ⟨p,mX,(uT q).symm,List.any_eq_true.mpr ⟨b,h1,F9 (λm hm=>BE l _ (BD hm)) b h2⟩⟩
    ·exact absurd z hs
  ·exact .inr ⟨g,mZ _ hp,e,k⟩
def Ak {r:D}{n:Nat}(g:∀r∈ab,bS r)(G:ab[n]? = some r){b:Bs}(hb:b∈bE ab aa (r,n))(e:b.1=none):∃(m:Nat)(q:D),b.2=(m:Int)/\ab[m]? = some q/\(q,m)∈ak ab aa/\bX (q,m) (r,n)=true:=by
 unfold bE kO at hb;split at hb
 ·rename_i M;obtain⟨a,d,O,m,er⟩:=jM (g _ (vL G)) M;have en:fW 2 r=m:=by rw[er];rfl
  simp only[en,Int.toNat_natCast]at hb;split at hb
  ·rename_i hv;rw[List.mem_singleton]at hb;subst hb;unfold oP at hv;split at hv
   ·cases hv
   ·rename_i q hq;rw[vC,vC]at hv;refine⟨m,q,rfl,hq,List.mem_filter.mpr ⟨List.mk_mem_zipIdx_iff_getElem?.mpr hq,hv.1.1⟩,hv.2⟩
  ·cases hb
 ·unfold Ad at hb;have hb:=(br _ _).mem_iff.mp hb;unfold ph at hb;rcases List.mem_append.mp hb with z|z
  ·obtain⟨v,_,rfl⟩:=vO z;cases e
  ·obtain⟨y,hy,rfl⟩:=vO z;obtain⟨h1,h2⟩:=vN hy;unfold jV at h2;rw[vC]at h2;exact⟨y.2,y.1,rfl,(no g h1).1,(vN (vN h1).1).1,h2.1⟩
def FC {day:Int}{n:Nat}{r:D}(G:ab[n]? = some r)(hn:n∈bv ab aa day):∃b l,(bE ab aa (r,n)).filter (cD (bv ab aa day))=b::l:=by
 rcases rN _ _ _ hn with z|⟨p,hp,e,hb⟩
 ·cases z
 ·obtain⟨x,hx,rfl⟩:=vO hp;have hx':=bo (vN ((br _ _).mem_iff.mp (vN hx).1)).1;have g:x.2=n:=e;rw[g,G]at hx';have ex:x=(r,n):=by rw[←g,vK hx']
  subst ex;obtain⟨b,h1,h2⟩:=List.any_eq_true.mp hb;have hm:b∈(bE ab aa (r,n)).filter (cD (bv ab aa day)):=List.mem_filter.mpr ⟨h1,h2⟩;cases hq:(bE ab aa (r,n)).filter (cD (bv ab aa day)) with
  |nil=>rw[hq]at hm;cases hm
  |cons b l=>exact⟨b,l,rfl⟩
def FD (g:∀r∈ab,bS r)(day:Int):∀(k n:Nat)(r:D),ab[n]? = some r->n∈bv ab aa day->((ak ab aa).filter λz=>bX z (r,n)).length<k->∃ns c,Lk (bv ab aa day) (Iu ab aa) (n::ns) c/\ns.length<k:=by
 intro k;induction k with
 |zero=>intro n r M hn hk;omega
 |succ k ih=>
  intro n r M hn hk;obtain⟨b,l,hq⟩:=FC M hn;have er:Iu ab aa n=bE ab aa (r,n):=by unfold Iu;rw[M]
  have hm:b∈(bE ab aa (r,n)).filter (cD (bv ab aa day)):=by rw[hq];exact mX
  obtain⟨h1,h2⟩:=vN hm;cases G:b.1 with
  |some o=>exact⟨[],b.2,.one n b l hn (by rw[er];exact hq) (by rw[G];rfl),Nat.succ_pos _⟩
  |none=>
   obtain⟨m,q,U,e2,h3,h4⟩:=Ak g M h1 G;have O:m∈bv ab aa day:=by
    unfold cD at h2;rw[G]at h2;obtain⟨m',T,e3⟩:=List.any_eq_true.mp (by simpa using h2:(bv ab aa day).any (λn=>decide ((n:Int)=b.2))=true);have:=of_decide_eq_true e3;rw[U]at this;rw[show m=m' by omega];exact T
   have:=yI _ h3 h4;obtain⟨ns,c,hl,jW⟩:=ih m q e2 O (by omega);exact⟨m::ns,c,.more n m ns c b l hn (by rw[er];exact hq) G U hl,by rw[vE];omega⟩
end
def w4 (w:Str)(b:Bs):bq (ft w b) (.int 0)=sS (if b.1.isSome=true then "office" else w):=by rcases b with⟨_|o,n⟩<;>simp[ft,qY]
def FF (w:Str)(b:Bs):bq (ft w b) (.int (-1))=sI b.2:=by rcases b with⟨_|o,n⟩<;>rfl
def FH (hw:decide (w=("office" : Str))=false)(R:List Bs)(hR:R.length<=100)(S:List Nat){b:Bs}{l:List Bs}(h:R.filter (cD S)=b::l):di [.lst (R.map (ft w)),.dk (S.map nK) (S.map lZ)]=sF (ft w b):=by
 have hc:=fH (fi:=bQ (aj 0)) (nT:=1) (cap:=[1]) (tg:=cQ 0) (c:=ba (fA jE (fV 0 (fV 1 ai)))) (fe:=aj 0) (ρ:=[sL (R.map (ft w)),sF (.dk (S.map nK) (S.map lZ))]) R (ft w) (cD S) (ft w) rfl (by omega) λb _=>⟨[some (ft w b,false),sF (.dk (S.map nK) (S.map lZ))],rfl,cz (aE [ft w b,.dk (S.map nK) (S.map lZ)] rfl (yE hw S b)),λ_=>⟨false,rfl⟩⟩;rw[h]at hc;exact au rfl (aw (fx (x:=.lst ((b::l).map (ft w))) (y:=.int 0) (b1:=true) (b2:=false) hc rfl (by simp[qY])))
theorem yJ:∀(l:List Rs),(l.map (·.1)).Nodup->∀p∈l,bW (l.map λp=>nK p.1) (l.map nu) (nK p.1)=some (nu p)
 |q::l,h,p,hp=>by
  rw[uY,List.nodup_cons]at h;show(if nK q.1=nK p.1 then some (nu q)else bW _ _ _)=_;rcases vP hp with rfl|hp
  ·rw[if_pos rfl]
  ·rw[if_neg λe=>?_,yJ l h.2 p hp];have z:q.1=p.1:=by
    have:=Sum.inl.inj (show(Sum.inl _:cF)=Sum.inl _ from e);omega
   exact h.1 (uS ⟨p,hp,z.symm⟩)
def Lk.first {S:List Nat}{rs:Nat->List Bs}(h:Lk S rs (n::ns) c):n∈S/\∃b l,(rs n).filter (cD S)=b::l:=by
 cases h with
 |one _ b l hS h _=>exact⟨hS,b,l,h⟩
 |more _ _ _ _ b l hS h _ _ _=>exact⟨hS,b,l,h⟩
section
variable {ab:List D}{aa day:Int}{l:List Rs}{S:List Nat}{rs:Nat->List Bs}(n0:Nat)
abbrev cE (ab:List D)(aa day:Int)(l:List Rs)(S:List Nat)(n0:Nat)(told:List D)(b:D):DL.Env:=[sT ab,sI aa,sI day,sI n0,sF (.dk (l.map λp=>nK p.1) (l.map nu)),sF (.dk (S.map nK) (S.map lZ)),lT told,some (b,false)]
def Qu (l:List Rs)(S:List Nat)(rs:Nat->List Bs):Prop:=∀n∈S,∃w,decide (w=("office" : Str))=false/\bW (l.map λp=>nK p.1) (l.map nu) (nK n)=some (.lst ((rs n).map (ft w)))/\(rs n).length<=100
theorem BF (F:Qu l S rs){m:Nat}(hm:m∈S){b:Bs}{tl:List Bs}(h:(rs m).filter (cD S)=b::tl){ρ:DL.Env}{f:FE}(h4:ρ[4]? = some (sF (.dk (l.map λp=>nK p.1) (l.map nu))))(h5:ρ[5]? = some (sF (.dk (S.map nK) (S.map lZ))))(hf:f ρ=sI (m:Int)):
  ∃w,decide (w=("office" : Str))=false/\fA di (ae (f2 Cz (aj 4) f) (fV 5 ai)) ρ=sF (ft w b):=by
 obtain⟨w,hw,hl,hz⟩:=F m hm;refine⟨w,hw,aE [.lst ((rs m).map (ft w)),.dk (S.map nK) (S.map lZ)] (aC (b:=false) (bi (.dk (l.map λp=>nK p.1) (l.map nu)) (.int (m:Int)) (by simp[h4]) hf ?_) (by simp[h5])) (FH hw _ hz S h)⟩;show(bW (l.map λp=>nK p.1) (l.map nu) (nK m)).map _=_;rw[hl];rfl
theorem CV (F:Qu l S rs){T:List Nat}{c:Int}(k:Lk S rs T c):∀(n:Nat)(ns:List Nat),T=n::ns->∀(pre:List D)(w:Str)(b:Bs)(tl:List Bs)(fuel:Nat),pre.length+ns.length<=1000->decide (w=("office" : Str))=false->(rs n).filter (cD S)=b::tl->ns.length<fuel ->
  ∃G b',fX (ba (f2 pv (cA 7 0) (fS "office"))) kF fuel (cE ab aa day l S n0 (pre++[.int n]) (ft w b))=some (.nx (cE ab aa day l S n0 (pre++(n::ns).map λ(m:Nat)=>.int (m:Int)) (ft G b')))/\b'.1.isSome=true/\b'.2=c:=by
 have cond:∀(told:List D)(w:Str)(b:Bs),decide (w=("office" : Str))=false->ba (f2 pv (cA 7 0) (fS "office")) (cE ab aa day l S n0 told (ft w b))=some (!b.1.isSome):=λtold w b hw=>by
  refine(Ag (a:=if b.1.isSome=true then "office" else w) (b:="office") (bb:=false) (bi (ft w b) (.int 0) rfl rfl (w4 w b))).trans ?_;cases b.1.isSome with
  |true=>simp
  |false=>rw[if_neg (by decide),hw]
 induction k with
 |one n g l0 hS h ho=>
  rintro n' ns ⟨⟩ pre w b tl fuel hp hw hb hf;rw[h]at hb;obtain⟨rfl,rfl⟩:=List.cons.inj hb;obtain⟨fuel,rfl⟩:∃k,fuel=k+1:=⟨fuel - 1,by omega⟩;refine⟨w,g,?_,ho,rfl⟩;rw[fX,cond _ _ _ hw,ho];rfl
 |more n m ms c g l0 hS h ho hm k ih=>
  rintro n' ns ⟨⟩ pre w b tl fuel hp hw hb hf;rw[h]at hb;obtain⟨rfl,rfl⟩:=List.cons.inj hb;obtain⟨fuel,rfl⟩:∃k,fuel=k+1:=⟨fuel - 1,by omega⟩;obtain⟨M,b2,l2,h2⟩:=k.first;rw[vE]at hp hf;have U:∀told,cA 7 1 (cE ab aa day l S n0 told (ft w g))=sI (m:Int):=λtold=>bi (ft w g) (.int 1) rfl rfl (by
   obtain⟨o,z⟩:=g;cases (show o=none from ho)
   cases (show z=(m:Int)from hm)
   simp[ft,yY])
  obtain⟨w2,O,e2⟩:=BF F M h2 (ρ:=cE ab aa day l S n0 (pre++[.int n]++[.int (m:Int)]) (ft w g)) (f:=cA 7 1) rfl rfl (U _);obtain⟨G,b',e3,e4,e5⟩:=ih m ms rfl (pre++[.int n]) w2 b2 l2 fuel (by rw[uZ,List.length_singleton];omega) O h2 (by omega);refine⟨G,b',?_,e4,e5⟩;have eb:kF (cE ab aa day l S n0 (pre++[.int n]) (ft w g))=some (.nx (cE ab aa day l S n0 (pre++[.int n]++[.int (m:Int)]) (ft w2 b2))):=Ba (ds:=pre++[.int n]) (d:=.int (m:Int)) (b:=false) rfl (U _) rfl (bK (by rw[uZ,List.length_singleton];omega)) (k7 e2 (yB _ _));rw[fX,cond _ _ _ hw,ho];dsimp only[Option.isSome,Bool.not_false];rw[eb];dsimp only;rw[e3];simp
end
section
variable {ab:List D}(g:∀r∈ab,bS r) (hl:ab.length<=30) (aa:Int) (hn:((bC (ak ab aa)).map (ay 0)).Nodup) (ho:(cy (ak ab aa)).length<=60)
include hl in
theorem BG (day:Int):Qu (jt ab aa day) (bv ab aa day) (Iu ab aa):=λn hm=>by
 obtain⟨r,G,_,_,hp⟩:=L6 hm;have e:Iu ab aa n=bE ab aa (r,n):=by unfold Iu;rw[G]
 rw[e];exact⟨yA r,Fz r,yJ _ (ul aa day) _ hp,vR (rJ hl aa (r,n)) (by decide)⟩
include g hl hn ho
theorem lm (day:Int)(n:Nat):jD [.tup ab,.int aa,.int day]=sF (.dk ((jt ab aa day).map λp=>nK p.1) ((jt ab aa day).map nu))/\jF [.dk ((jt ab aa day).map λp=>nK p.1) ((jt ab aa day).map nu)]=sF (.dk ((bv ab aa day).map nK) ((bv ab aa day).map lZ)):=by
 constructor
 ·rw[Fx g hl aa hn ho day];unfold jt;rw[uP,uP];rfl
 ·rw[Fy (jt ab aa day) (Ir aa ho day) (NT aa day) (NU hl aa day) (ul aa day)];have:gM ((jt ab aa day).map Ah)=bv ab aa day:=by
   unfold jt bv;rw[uP];rfl
  rw[this]
theorem yK (day:Int){n:Nat}(h:n∉bv ab aa day):lb [.tup ab,.int aa,.int day,.int (n:Int)]=sF .non:=by
 obtain⟨G,e2⟩:=lm g hl aa hn ho day n;refine au rfl (CB (d:=.dk ((jt ab aa day).map λp=>nK p.1) ((jt ab aa day).map nu)) (b:=false) (aE [.tup ab,.int aa,.int day] rfl G) (by simp[bj]) (.inl rfl) (CB (d:=.dk ((bv ab aa day).map nK) ((bv ab aa day).map lZ)) (b:=false) (aE [_] rfl e2) (by simp[bj]) (.inl rfl) (bp (cz (x:=true) (bi (.int (n:Int)) (.dk ((bv ab aa day).map nK) ((bv ab aa day).map lZ)) rfl rfl ?_)) (aw rfl))));show some (D.bl (!(bW ((bv ab aa day).map nK) ((bv ab aa day).map lZ) (.inl (n:Int))).isSome),false)=_;rw[rK,decide_eq_false h];rfl
theorem CW (day:Int){n:Nat}{ns:List Nat}{c:Int}(k:Lk (bv ab aa day) (Iu ab aa) (n::ns) c)(U:ns.length<=100):lb [.tup ab,.int aa,.int day,.int (n:Int)]=lT (((n::ns).map (λ(m:Nat)=>D.int (m:Int))++[D.int c]).reverse):=by
 obtain⟨e1,e2⟩:=lm g hl aa hn ho day n;obtain⟨hS,b,tl,hf⟩:=k.first;have F:=BG (ab:=ab) hl aa day;generalize jt ab aa day=l at *;generalize bv ab aa day=S at *;obtain⟨w,hw,e3⟩:=BF F hS hf (ρ:=[sT ab,sI aa,sI day,sI (n:Int),sF (.dk (l.map λp=>nK p.1) (l.map nu)),sF (.dk (S.map nK) (S.map lZ)),lT [.int (n:Int)],none]) (f:=aj 3) rfl rfl rfl;obtain⟨T,b',e4,G,hc⟩:=CV (ab:=ab) (aa:=aa) (day:=day) n F k n ns rfl [] w b tl 1000 (by simp;omega) hw hf (by omega);have M:cA 7 2 (cE ab aa day l S n ([]++(n::ns).map λ(m:Nat)=>D.int (m:Int)) (ft T b'))=sI c:=bi (ft T b') (.int 2) rfl rfl (by
  obtain⟨_|o,z⟩:=b'
  ·cases G
  ·cases (show z=c from hc)
   exact(DL.pE (by decide) (by show 2<_;simp)).trans rfl)
 have O:f2 qo (aj 3) (aj 5) [sT ab,sI aa,sI day,sI (n:Int),sF (.dk (l.map λp=>nK p.1) (l.map nu)),sF (.dk (S.map nK) (S.map lZ)),none,none]=sO false:=by
  refine bi (.int (n:Int)) (.dk (S.map nK) (S.map lZ)) rfl rfl ?_;show some (D.bl (!(bW (S.map nK) (S.map lZ) (.inl (n:Int))).isSome),false)=_;rw[rK,decide_eq_true hS];rfl
 have s4:(az (fX (ba (f2 pv (cA 7 0) (fS "office"))) kF 1000) (az (iP 6 (cA 7 2)) (aN (f1 HG (aj 6))))) (cE ab aa day l S n [.int (n:Int)] (ft w b))=some (.rt (.lst (((n::ns).map (λ(m:Nat)=>D.int (m:Int))++[D.int c]).reverse)) true) :=
  dL e4 (Ba (ds:=[]++(n::ns).map λ(m:Nat)=>D.int (m:Int)) (d:=.int c) (b:=false) rfl M rfl (bK (by simp;omega)) (aw rfl))
 have s3:(az (aO 6 (fA bw (fV 3 ai))) (az (aO 7 (fA di (ae (f2 Cz (aj 4) (aj 3)) (fV 5 ai)))) (az (fX (ba (f2 pv (cA 7 0) (fS "office"))) kF 1000) (az (iP 6 (cA 7 2)) (aN (f1 HG (aj 6))))))) [sT ab,sI aa,sI day,sI (n:Int),sF (.dk (l.map λp=>nK p.1) (l.map nu)),sF (.dk (S.map nK) (S.map lZ)),none,none]=some (.rt (.lst (((n::ns).map (λ(m:Nat)=>D.int (m:Int))++[D.int c]).reverse)) true) :=
  bT (ds:=[.int (n:Int)]) (aE [.int (n:Int)] rfl (dn _ (by simp))) rfl (ER e3 (yB _ _) s4)
 refine au rfl (CB (d:=.dk (l.map λp=>nK p.1) (l.map nu)) (b:=false) (aE [.tup ab,.int aa,.int day] rfl e1) (by simp[bj]) (.inl rfl) ?_);refine(show az (aO 5 (fA jF (fV 4 ai))) _ [sT ab,sI aa,sI day,sI (n:Int),sF (.dk (l.map λp=>nK p.1) (l.map nu)),none,none,none]=_ from CB (d:=.dk (S.map nK) (S.map lZ)) (b:=false) (aE [_] rfl e2) (by simp[bj]) (.inl rfl) ?_);exact a9 (ρ:=[sT ab,sI aa,sI day,sI (n:Int),sF (.dk (l.map λp=>nK p.1) (l.map nu)),sF (.dk (S.map nK) (S.map lZ)),none,none]) (cz (x:=false) O) s3
end
def iE {α:Type}(l:List α)(g:α->D)(p:α->Bool)(h:α->D)(hl:l.length<=1000)(k:∀x∈l,∃v,bq (g x) (.int (-1))=sF v/\cP v (.str "falls")=sO (p x)/\(p x=true->bq (g x) (.int 1)=sF (h x))):cJ [.lst (l.map g)]=lT ((l.filter p).map h):=by
 refine au rfl (aw (fH (fi:=bQ (aj 0)) (nT:=1) (cap:=[]) (tg:=cQ 0) (c:=ba (f2 cP (f2 bq (aj 0) (f1 lH (fI 1))) (fS "falls"))) (fe:=cA 0 1) (ρ:=[sL (l.map g)]) l g p h rfl (by omega) λx hx=>?_));obtain⟨v,G,e2,M⟩:=k x hx;exact⟨[some (g x,false)],rfl,cz (bi v (.str "falls") (bi (g x) (.int (-1)) rfl rfl G) rfl e2),λhp=>⟨false,bi (g x) (.int 1) rfl rfl (M hp)⟩⟩
def yL (r v:D):cP (iZ r v) (.str "falls")=sO false:=by
 unfold iZ;split
 ·split
  ·exact cu
  ·exact cu
 ·exact cu
def Iv (cs:List Cl)(r v:D):cP (oM cs r v) (.str "falls")=sO false:=by
 unfold oM;split
 ·exact yL _ _
 ·exact cu
def Iw (r:D)(g:Nat)(x:D×Nat):cP (lC r g x) (.str "falls")=sO false:=by
 unfold lC;split
 ·split
  ·exact yL _ _
  ·exact cu
 ·exact cu
section
variable {ab:List D}(g:∀r∈ab,bS r) (hl:ab.length<=30) (aa:Int) (hn:((bC (ak ab aa)).map (ay 0)).Nodup) (ho:(cy (ak ab aa)).length<=60)
theorem Ix (p:Str)(q:D×Nat->Bool):(((iD (ak ab aa) p).filter q).map λx=>(x.2:Int)).Pairwise (· < ·):=by
 have h:(ab.zipIdx.map λx=>(x.2:Int)).Pairwise (· < ·):=by
  rw[List.pairwise_map];rw[List.pairwise_iff_getElem];intro i j hi hj G;simp only[List.getElem_zipIdx];omega
 refine h.sublist (List.Sublist.map _ (List.filter_sublist.trans (List.filter_sublist.trans (List.filter_sublist.trans List.filter_sublist))))
theorem yM {r:D}{n:Nat}(M:kindOf r∈cU)(G:∀v∈bC (ak ab aa),pf (aT (ak ab aa)) r v=false):bE ab aa (r,n)=((iD (ak ab aa) (bM r)).filter (jV r n)).map λx=>((none,(x.2:Int)):Bs):=by
 have O:kindOf r ≠ "copy":=by
  have:∀k∈cU,k≠("copy" : Str):=by decide +kernel
  exact this _ M
 unfold bE kO;rw[if_neg O];unfold Ad ph;rw[List.filter_eq_nil_iff.mpr λv hv=>by rw[G v hv];decide,List.map_nil,List.nil_append];refine(ko (λb=>cH (si b)) (λx _ y _ e=>Ac e) (List.Perm.refl _) ?_).symm;rw[List.pairwise_map];have:=Ix (ab:=ab) aa (bM r) (jV r n);rw[List.pairwise_map]at this;refine this.imp λ{a b} h=>?_;unfold FZ;intro z;have h2:aX (si (none,(b.2:Int))) (si (none,(a.2:Int)))=some true:=by
  rw[ga (wx [(none,(b.2:Int)),(none,(a.2:Int))]) (by simp) (by simp),decide_eq_true z]
 unfold si at h2;simp only[aX]at h2;rw[if_neg (show ¬(b.2:Int)=(a.2:Int) by omega)]at h2;simp at h2;omega
end
noncomputable def ma:List Str:=[("early" : Str),"seal","called"]
structure WD (ab:List D)(aa day:Int)(r:D)(n:Nat)(ds:List D):Prop where
 flt:im [.tup ab,.int aa,.int day,.int (n:Int)]=lT ds
 pl:∀d∈ds,Pl d
 two:(∃w d,ds=[d]/\w∈ma/\bq d (.int 0)=sS w/\cJ [.lst ds]=lT []) ∨
  (oj ab aa day (r,n)=true/\(∃w d p9,ds=d::p9/\w∉ma/\bq d (.int 0)=sS w)/\cJ [.lst ds]=lT ((bE ab aa (r,n)).map λb=>.int b.2))
section
variable {ab:List D}(g:∀r∈ab,bS r) (hl:ab.length<=30) (aa:Int) (hn:((bC (ak ab aa)).map (ay 0)).Nodup) (ho:(cy (ak ab aa)).length<=60)
include g hl hn ho
theorem FI (day:Int){n:Nat}{r:D}(M:ab[n]? = some r)(kr:kindOf r∈b7)(hk:bc r<=aa)(hf:oj ab aa day (r,n)=true)(hS:n∉bv ab aa day):
  ∃ds,iX [.tup ab,.int aa,.int n]=lT ds/\(∀d∈ds,Pl d)/\(∃w d p9,ds=d::p9/\w∉ma/\bq d (.int 0)=sS w)/\cJ [.lst ds]=lT ((bE ab aa (r,n)).map λb=>.int b.2):=by
 have gr:=g r (vL M);obtain⟨ec,U⟩:=gY (ab:=ab) ⟨by omega,λr M=>(g r M).c⟩ aa ho;have wd:ba (f2 cP (fA aL (ae (f2 bq (aj 0) (aj 2)) ai)) (fS "copy")) [sT ab,sI aa,sI n,none]=some (decide (kindOf r = "copy")):=bR (a:=kindOf r) (bb:=false) (wy M gr rfl rfl) rfl;by_cases O:kindOf r = "copy"
 ·have RD:gt [.tup ab,.int aa,.int n]=lT ((bE ab aa (r,n)).map (ft (yA r))):=au rfl (aw (aE [.tup ab,.int aa,.lst ((aT (ak ab aa)).map aV),.int n] (bJ rfl (bJ rfl (aC (aE [.tup ab,.int aa] rfl ec) (bJ rfl rfl)))) (wz g hl aa hn _ U M kr hk)));obtain⟨a2,d2,b2,m,TK⟩:=jM gr O;have hR:bE ab aa (r,n)=if oP ab aa r n m=true then [((none,(m:Int)):Bs)]else []:=by
   unfold bE kO;rw[if_pos O,show fW 2 r=(m:Int) by rw[TK];rfl,Int.toNat_natCast]
  let B:Bool:=(bE ab aa (r,n)).isEmpty;let W:Str:=if B=true then "none" else "falls";have t1:ba (f2 cP (fA eJ (ae (fA gt (fV 0 (fV 1 (fV 2 ai)))) ai)) (fI 0)) [sT ab,sI aa,sI n,none]=some B:=by
   show _=some (bE ab aa (r,n)).isEmpty;rw[←BA (bE ab aa (r,n)) (ft (yA r))];exact cz (bi (.int ((((bE ab aa (r,n)).map (ft (yA r))).length:Nat):Int)) (.int 0) (aE [.lst ((bE ab aa (r,n)).map (ft (yA r)))] (aC (aE [.tup ab,.int aa,.int n] rfl RD) rfl) rfl) rfl (by simp))
  have hw:GD (ba (f2 cP (fA eJ (ae (fA gt (fV 0 (fV 1 (fV 2 ai)))) ai)) (fI 0))) (fS "none") (fS "falls") [sT ab,sI aa,sI n,none]=sS W:=by
   show _=sS (if B=true then "none" else "falls");cases hB:B with
   |true=>exact J0 (t1.trans (by rw[hB])) rfl
   |false=>exact J5 (t1.trans (by rw[hB])) rfl
  have WE:jI [.tup ab,.int aa,.int n]=sT [.str "copy",.int m,.str W]:=au rfl (fw (.str W) hw rfl (aw (aE [.str "copy",.int m,.str W] (bJ rfl (aC (aE [r,.str "of"] (bJ (bi (.tup ab) (.int n) rfl rfl (by simp[ce M])) rfl) (by rw[TK];exact bx (i:=2) cu rfl)) (bJ rfl rfl))) (bO _ (by simp)))));refine⟨[.tup [.str "copy",.int m,.str W]],au rfl (bp (wd.trans (by rw[decide_eq_true O])) (aw (aE [.tup [.str "copy",.int m,.str W]] (bJ (aE [.tup ab,.int aa,.int n] rfl WE) rfl) (dn _ (by simp))))),λd hd=>?_,⟨"copy",_,[],rfl,by decide +kernel,by simp[qY]⟩,?_⟩
  ·rw[uT hd];exact(F3 (o:=("" : Str)) (.inr ⟨_,rfl⟩)).2
  ·refine(iE [()] (λ_=>.tup [.str "copy",.int m,.str W]) (λ_=>!B) (λ_=>.int m) (by decide) λ_ _=>⟨.str W,rfl,?_,λ_=>by simp[yY]⟩).trans ?_
   ·show cP (.str (if B=true then "none" else "falls")) (.str "falls")=sO (!B);cases B
    ·exact cu
    ·exact cu
   ·show lT ((List.filter (λ_=>!(bE ab aa (r,n)).isEmpty) [()]).map _)=_;rw[hR];split<;>rfl
 ·have kb:kindOf r∈cU:=by
   have:∀k∈b7,k≠("copy" : Str)->k∈cU:=by decide +kernel
   exact this _ kr O
  have e1:=Ai g hl aa hn ho M kb;obtain⟨e2,Ps⟩:=Aj g hl aa M kb;have LH:=uj U (bM r);rw[yM aa kb λv hv=>CU (v:=v) M kb hk hf hS hv];generalize aT (ak ab aa)=cs at e1 LH;let l:List (Str ⊕ D×Nat):=(lD cs (bM r)).map .inl++(iD (ak ab aa) (bM r)).map .inr;let G:Str ⊕ D×Nat->D:=λx=>match x with
   |.inl o=>L5 (ak ab aa) cs r o
   |.inr y=>Gc r n y
  have hT:∀d∈l.map G,Pl d:=λd hd=>by
   obtain⟨x,_,rfl⟩:=vO hd;rcases x with o|y
   ·exact(F3 (n:=0) (Io _ _ _)).1
   ·exact NS _ _ _
  have Ml:l.length<=200:=by show(List.map _ _++List.map _ _).length<=200;rw[uZ,vI,vI];omega
  have eT:l.map G=(lD cs (bM r)).map (L5 (ak ab aa) cs r)++(iD (ak ab aa) (bM r)).map (Gc r n):=by
   show List.map _ (List.map _ _++List.map _ _)=_;rw[uW,uP,uP];rfl
  have ea:f2 ci (fA eX (fV 0 (fV 1 (fV 2 ai)))) (fA fL (fV 0 (fV 1 (fV 2 ai)))) [sT ab,sI aa,sI n,none]=lT (l.map G):=by
   rw[eT];exact fx (x:=.lst ((lD cs (bM r)).map (L5 (ak ab aa) cs r))) (y:=.lst ((iD (ak ab aa) (bM r)).map (Gc r n))) (b1:=true) (b2:=true) (aE [.tup ab,.int aa,.int n] rfl e1) (aE [.tup ab,.int aa,.int n] rfl e2) (if_pos (dB (by rw[vI,vI];omega)))
  have ef:cJ [.lst (l.map G)]=lT ((((iD (ak ab aa) (bM r)).filter (jV r n)).map λx=>((none,(x.2:Int)):Bs)).map λb=>.int b.2):=by
   refine(iE l G (λx=>match x with|.inl _=>false|.inr y=>jV r n y) (λx=>match x with|.inl _=>.non|.inr y=>.int y.2) (by omega) λx _=>?_).trans ?_
   ·rcases x with o|y
    ·exact⟨_,rfl,Iv _ _ _,λh=>by cases h⟩
    ·refine⟨_,rfl,?_,λ_=>by simp[G,Gc,yY]⟩;show cP (if jV r n y=true then .str "falls" else lC r n y) (.str "falls")=sO (jV r n y);split
     ·rename_i h;rw[h];exact cu
     ·rename_i h;rw[Bool.not_eq_true]at h;rw[h];exact Iw _ _ _
   ·show lT ((List.filter _ (List.map _ _++List.map _ _)).map _)=_;rw[List.filter_append,List.filter_map,List.filter_map,List.filter_eq_nil_iff.mpr λx _=>by simp,List.map_nil,List.nil_append,uP,uP];rfl
  by_cases h0:l=[]
  ·rw[h0]at ea ef;refine⟨[.tup [.str "none"]],au rfl (a9 (wd.trans (by rw[decide_eq_false O])) (bT (ds:=[]) ea rfl (bp (cz (bi (.int 0) (.int 0) (aE [.lst []] rfl rfl) rfl (by simp))) (aw (aE [.tup [.str "none"]] (bJ (aE [.str "none"] rfl (bO _ (by simp))) rfl) (dn _ (by simp))))))),λd hd=>?_,⟨"none",_,[],rfl,by decide +kernel,by simp[qY]⟩,?_⟩
   ·rw[uT hd];exact⟨rfl,by simp⟩
   ·refine Eq.trans ?_ ef;refine(iE [()] (λ_=>.tup [.str "none"]) (λ_=>false) (λ_=>.non) (by decide) λ_ _=>⟨.str "none",rfl,cu,λh=>by cases h⟩).trans ?_;exact(iE ([]:List Unit) (λ_=>.non) (λ_=>false) (λ_=>.non) (by decide) λ_ h=>by cases h).symm
  ·have BJ:0<(l.map G).length:=by rw[vI];exact List.length_pos_iff.mpr h0
   have hw:∃w d p9,l.map G=d::p9/\w∉ma/\bq d (.int 0)=sS w:=by
    cases hh:l with
    |nil=>exact absurd hh h0
    |cons x l'=>
     rcases x with o|y
     ·exact⟨"office",_,_,rfl,by decide +kernel,by simp[G,L5,qY]⟩
     ·exact⟨"leave",_,_,rfl,by decide +kernel,by simp[G,Gc,qY]⟩
   generalize l.map G=T at hT ea ef BJ hw;refine⟨T,au rfl (a9 (wd.trans (by rw[decide_eq_false O])) (bT (ds:=T) ea (BC hT) (a9 (cz (bi (.int ((T.length:Nat):Int)) (.int 0) (aE [.lst T] rfl rfl) rfl ?_)) (mC rfl)))),hT,hw,ef⟩;have:¬((T.length:Nat):Int)=0:=by omega
   simp only[cP,aI,and_self,if_true,cW];rw[decide_eq_false this]
end
section
variable {ab:List D}(g:∀r∈ab,bS r) (hl:ab.length<=30) (aa:Int) (hn:((bC (ak ab aa)).map (ay 0)).Nodup) (ho:(cy (ak ab aa)).length<=60)
include g hl hn ho
theorem yN (day:Int)(n:Nat):ba (f2 Df (aj 3) (fA jF (ae (fA jD (fV 0 (fV 1 (fV 2 ai)))) ai))) [sT ab,sI aa,sI day,sI n,none]=some (decide (n∈bv ab aa day)):=by
 obtain⟨G,e2⟩:=lm g hl aa hn ho day n;refine cz (bi (.int n) (.dk ((bv ab aa day).map nK) ((bv ab aa day).map lZ)) rfl (aE [_] (aC (aE [.tup ab,.int aa,.int day] rfl G) rfl) e2) ?_);show some (D.bl (bW ((bv ab aa day).map nK) ((bv ab aa day).map lZ) (.inl (n:Int))).isSome,false)=_;rw[rK]
theorem L7 (day:Int){n:Nat}(hS:n∈bv ab aa day):im [.tup ab,.int aa,.int day,.int (n:Int)]=lT []:=au rfl (bp ((yN g hl aa hn ho day n).trans (by rw[decide_eq_true hS])) (aw (aE [] rfl (dn _ (by simp)))))
theorem Sg (day:Int){n:Nat}{r:D}(M:ab[n]? = some r)(kr:kindOf r∈b7)(hk:bc r<=aa)(hS:n∉bv ab aa day):∃ds,WD ab aa day r n ds:=by
 have gr:=g r (vL M);have O:=(yN g hl aa hn ho day n).trans (by rw[decide_eq_false hS]);have tD:ba (f2 Ax (fA aS (ae (f2 bq (aj 0) (aj 3)) ai)) (aj 2)) [sT ab,sI aa,sI day,sI n,none]=some (decide (day<aB r)):=cz (bi (.int (aB r)) (.int day) (aE [r] (bJ (bi (.tup ab) (.int n) rfl rfl (by simp[ce M])) rfl) (oi gr (gT kr))) rfl rfl);have tC:ba (fA dZ (fV 0 (fV 1 (fV 3 ai)))) [sT ab,sI aa,sI day,sI n,none]=some (gg ab aa r):=cz (aE [.tup ab,.int aa,.int n] rfl (mO ab (λr M=>(g r M).c.rp) (by omega) aa M));have one:∀(ρ:DL.Env)(w:Str),aN (fA bw (ae (fA aP (ae (fS w) ai)) ai)) ρ=some (.rt (.lst [.tup [.str w]]) true):=λρ w=>aw (aE [.tup [.str w]] (bJ (aE [.str w] rfl (bO _ (by simp))) rfl) (dn _ (by simp)));have p1:∀w:Str,∀d∈[D.tup [.str w]],Pl d:=λw d hd=>by rw[uT hd];exact⟨rfl,by simp⟩
 by_cases hd:day<aB r
 ·rw[decide_eq_true hd]at tD;exact⟨[.tup [.str "early"]],au rfl (a9 O (bp tD (one _ _))),p1 _,.inl ⟨"early",_,rfl,by decide +kernel,by simp[qY],iE [()] (λ_=>.tup [.str "early"]) (λ_=>false) (λ_=>.non) (by decide) λ_ _=>⟨.str "early",rfl,cu,λh=>by cases h⟩⟩⟩
 rw[decide_eq_false hd]at tD;cases hs:gg ab aa r with
 |false=>
  rw[hs]at tC;exact⟨[.tup [.str "seal"]],au rfl (a9 O (a9 tD (bp (bU tC) (one _ _)))),p1 _,.inl ⟨"seal",_,rfl,by decide +kernel,by simp[qY],iE [()] (λ_=>.tup [.str "seal"]) (λ_=>false) (λ_=>.non) (by decide) λ_ _=>⟨.str "seal",rfl,cu,λh=>by cases h⟩⟩⟩
 |true=>
  rw[hs]at tC;have T:=Fv g (by omega) aa hn ho M day;cases hc:jK ab aa n r day with
  |cons G cs=>
   rw[hc]at T;have tn:ba (f2 Ax (fA eJ (fV 4 ai)) (fI 0)) [sT ab,sI aa,sI day,sI n,lT ((G::cs).map λn:Nat=>.int n)]=some true:=by
    refine cz (bi (.int (((G::cs).map λn:Nat=>D.int n).length:Nat)) (.int 0) (aE [.lst ((G::cs).map λn:Nat=>.int n)] rfl rfl) rfl ?_);show some (D.bl (decide ((0:Int)<(((G::cs).map λn:Nat=>D.int n).length:Nat))),false)=_;rw[decide_eq_true (by simp)]
   have er:fA bw (ae (fA aP (ae (fS "called") (ae (cA 4 0) ai))) ai) [sT ab,sI aa,sI day,sI n,lT ((G::cs).map λn:Nat=>.int n)]=lT [.tup [.str "called",.int G]]:=aE [.tup [.str "called",.int G]] (bJ (aE [.str "called",.int G] (bJ rfl (bJ (bi (.lst ((G::cs).map λn:Nat=>.int n)) (.int 0) rfl rfl (by simp[qY])) rfl)) (bO _ (by simp))) rfl) (dn _ (by simp));have eF:im [.tup ab,.int aa,.int day,.int (n:Int)]=lT [.tup [.str "called",.int G]]:=au rfl (a9 O (a9 tD (a9 (bU tC) (bT (ds:=(G::cs).map λn:Nat=>.int n) (aE [.tup ab,.int aa,.int n,.int day] rfl T) (bG λd hd=>by obtain⟨m,_,rfl⟩:=vO hd;rfl) (bp tn (aw er))))));exact⟨[.tup [.str "called",.int G]],eF,λd hd=>by rw[uT hd];exact⟨rfl,by simp⟩,.inl ⟨"called",_,rfl,by decide +kernel,by simp[qY],iE [()] (λ_=>.tup [.str "called",.int G]) (λ_=>false) (λ_=>.non) (by decide) λ_ _=>⟨.int G,rfl,by simp,λh=>by cases h⟩⟩⟩
  |nil=>
   rw[hc]at T;have hf:oj ab aa day (r,n)=true:=by
    show((gg ab aa r && decide (aB r<=day)) && (jK ab aa n r day).isEmpty)=true;rw[hs,hc,decide_eq_true (by omega)];rfl
   obtain⟨ds,eb,hp,hw,U⟩:=FI g hl aa hn ho day M kr hk hf hS;exact⟨ds,au rfl (a9 O (a9 tD (a9 (bU tC) (bT (ds:=[]) (aE [.tup ab,.int aa,.int n,.int day] rfl T) rfl (a9 (cz (bi (.int 0) (.int 0) (aE [.lst []] rfl rfl) rfl rfl)) (aw (aE [.tup ab,.int aa,.int n] rfl eb))))))),hp,.inr ⟨hf,hw,U⟩⟩
end
section
variable {ab:List D}{aa:Int}
def FJ (K:KL):(cy K).Pairwise λa b=>bX b a=false:=(fZ _ _).imp λ{a b} h=>by
 have:=pz _ _ _ (we b a);rw[decide_eq_false (show ¬cH (kA b)<cH (kA a)from h)]at this;exact this
def Iy {day:Int}{n m:Nat}{r q:D}(hr:(r,n)∈ak ab aa)(kr:kindOf r∈b7)(hf:oj ab aa day (r,n)=true)(hS:n∉bv ab aa day)(hb:((none,(m:Int)):Bs)∈bE ab aa (r,n))(hq:ab[m]? = some q)(U:bX (q,m) (r,n)=true):m∉bv ab aa day:=λhm=>by
 have IK:(r,n)∈cy (ak ab aa):=(br _ _).mem_iff.mpr (List.mem_filter.mpr ⟨hr,by rw[gT kr];rfl⟩);have WG:(r,n)∈pi ab aa day (cy (ak ab aa)):=List.mem_filter.mpr ⟨IK,by rw[decide_eq_true kr,hf];rfl⟩;obtain⟨G,T,el⟩:=List.append_of_mem WG;have g:=(FJ (ak ab aa)).sublist (List.filter_sublist (l:=cy (ak ab aa)) (p:=λx=>decide (kindOf x.1∈b7) && oj ab aa day x));rw[show(cy (ak ab aa)).filter (λx=>decide (kindOf x.1∈b7) && oj ab aa day x)=G++(r,n)::T from el]at g;have M:∀x∈T,bX x (r,n)=false:=(List.pairwise_cons.mp (List.pairwise_append.mp g).2.1).1;let f:D×Nat->Nat×List Bs:=λx=>(x.2,bE ab aa x);have e:bv ab aa day=(T.map f).foldl cO (cO ((G.map f).foldl cO []) (f (r,n))):=by
  unfold bv gM;rw[el,uW,List.foldl_append];rfl
 have O:∀x∈G++(r,n)::T,ab[x.2]? = some x.1:=λx hx=>by
  rw[←el]at hx;exact bo (vN ((br _ _).mem_iff.mp (vN hx).1)).1
 have Pw:m∈(G.map f).foldl cO []:=by
  rw[e]at hm;rcases lh _ _ _ hm with z|z
  ·rcases yF z with z|z
   ·exact z
   ·have z':m=n:=z;subst z';exact absurd (e ▸ hm) hS
  ·obtain⟨p,hp,rfl⟩:=vO z;obtain⟨x,hx,rfl⟩:=vO hp;have h1:=O x (mY _ (mZ _ hx));have h2:ab[x.2]? = some q:=hq;rw[h1]at h2;have h3:=M x hx;rw[show x=(q,x.2) by rw[←vK h2]]at h3;rw[show bX (q,x.2) (r,n)=true from U]at h3;cases h3
 have Mj:n∈cO ((G.map f).foldl cO []) (f (r,n)):=by
  unfold cO;rw[if_pos (List.any_eq_true.mpr ⟨_,hb,by
   unfold cD;rw[Bool.or_eq_true];exact .inr (List.any_eq_true.mpr ⟨m,Pw,decide_eq_true rfl⟩)⟩)]
  exact mY _ (List.mem_singleton.mpr rfl)
 exact hS (e ▸ rL _ _ Mj)
end
def dated (g:bS r):∃a k q,r=row a k q/\(k ≠ "root"->∃G,q=.int (aB r)::G):=by
 obtain⟨a,k,q,rfl,d⟩:=g;refine⟨a,k,q,rfl,λh=>?_⟩;cases d with
 |root=>exact absurd rfl h
 |_=>exact⟨_,rfl⟩
def FK (g:bS r):∃d,bq r (.int 1)=sF d/\bq d (.int 0)=sS (kindOf r)/\bq r (.int 0)=sI (bc r)/\(kindOf r ≠ "root"->bq d (.int 1)=sI (aB r)):=by
 obtain⟨a,k,q,e,h⟩:=dated g;refine⟨.tup (.str k::q),?_,?_,?_,λn=>?_⟩
 ·rw[e];simp[row,yY]
 ·rw[e];simp[kindOf,row,qY]
 ·rw[e];simp[bc,row,qY]
 ·obtain⟨M,G⟩:=h (by rw[e]at n;exact n);rw[G];simp[yY]
def Qv (a b c d:Int):IM (.tup [.int a,.int b]) (.tup [.int c,.int d])=sO (!decide (a<c∨(a=c/\b<d))):=by
 show(aX [.i a,.i b] [.i c,.i d]).map _=_;rw[HP];rfl
def wJ {α:Type}(xs:List α):lG xs (-1)=xs.getLast?:=by
 rw[List.getLast?_eq_getElem?];unfold lG yS;cases xs with
 |nil=>rfl
 |cons a l=>
  rw[if_neg (by decide),if_pos (by simp;omega),vJ];congr 1;simp;omega
theorem yO {tg:FG}{g:FS}{d:D}{b:Bool}(I:Nat->DL.Env->Prop)(ds:List D)(step:∀i x ρ,ds[i]? = some x->I i ρ->∃G,tg x ρ=some G/\(g G=some (.rt d b)∨∃ρ',g G=some (.nx ρ')/\I (i+1) ρ'))(jb:∀ρ,¬I ds.length ρ):∀(es:List D)(i:Nat)(ρ:DL.Env),ds.drop i=es->i+es.length=ds.length->I i ρ->iG tg g es ρ=some (.rt d b)
 |[],i,ρ,e,hl,h=>absurd (by rw[←hl];exact h) (jb ρ)
 |x::es,i,ρ,e,hl,h=>by
  have hd:ds[i]? = some x:=by
   have:(ds.drop i)[0]? = some x:=by rw[e];rfl
   rwa [List.getElem?_drop,Nat.add_zero]at this
  obtain⟨G,h1,h2⟩:=step i x ρ hd h;have he:ds.drop (i+1)=es:=by rw[←List.drop_drop,e];rfl
  rw[sP,h1];rcases h2 with h2|⟨ρ',h2,h3⟩
  ·simp only[vJ,h2]
  ·simp only[vJ,h2];exact yO I ds step jb es (i+1) ρ' he (by simp at hl;omega) h3
section
variable {ab:List D}{aa:Int}
def yP {r:D}{n:Nat}(g:∀r∈ab,bS r)(G:ab[n]? = some r){b:Bs}(hb:b∈bE ab aa (r,n))(e:b.1=none):∃(m:Nat)(q:D),b.2=(m:Int)/\ab[m]? = some q/\(q,m)∈ak ab aa/\bX (q,m) (r,n)=true/\kindOf q∈b7:=by
 unfold bE kO at hb;split at hb
 ·rename_i M;obtain⟨a,d,O,m,er⟩:=jM (g _ (vL G)) M;have en:fW 2 r=m:=by rw[er];rfl
  simp only[en,Int.toNat_natCast]at hb;split at hb
  ·rename_i hv;rw[List.mem_singleton]at hb;subst hb;unfold oP at hv;split at hv
   ·cases hv
   ·rename_i q hq;rw[vC,vC]at hv;have hp:∀k∈jL,k∈b7:=by decide +kernel
    exact⟨m,q,rfl,hq,List.mem_filter.mpr ⟨List.mk_mem_zipIdx_iff_getElem?.mpr hq,hv.1.1⟩,hv.2,hp _ (of_decide_eq_true hv.1.2)⟩
  ·cases hb
 ·unfold Ad at hb;have hb:=(br _ _).mem_iff.mp hb;unfold ph at hb;rcases List.mem_append.mp hb with z|z
  ·obtain⟨v,_,rfl⟩:=vO z;cases e
  ·obtain⟨y,hy,rfl⟩:=vO z;obtain⟨h1,h2⟩:=vN hy;unfold jV at h2;rw[vC]at h2;obtain⟨T,_,U⟩:=no g h1;exact⟨y.2,y.1,rfl,T,(vN (vN h1).1).1,h2.1,by rw[U];decide +kernel⟩
def um {day:Int}{n:Nat}{r:D}(M:(r,n)∈ak ab aa)(G:kindOf r∈b7)(hf:oj ab aa day (r,n)=true)(hS:n∉bv ab aa day){b:Bs}(hb:b∈bE ab aa (r,n)):b.1=none:=by
 cases e:b.1 with
 |none=>rfl
 |some o=>
  refine absurd ?_ hS;have g:(r,n)∈cy (ak ab aa):=(br _ _).mem_iff.mpr (List.mem_filter.mpr ⟨M,by rw[gT G];rfl⟩);refine rM (p:=(n,bE ab aa (r,n))) (λS=>List.any_eq_true.mpr ⟨b,hb,by unfold cD;rw[e];rfl⟩) _ _ (uS ⟨(r,n),List.mem_filter.mpr ⟨g,by rw[decide_eq_true G,hf];rfl⟩,rfl⟩)
end
section
variable {ab:List D}(g:∀r∈ab,bS r) (hl:ab.length<=30) (aa:Int) (hn:((bC (ak ab aa)).map (ay 0)).Nodup) (ho:(cy (ak ab aa)).length<=60)
include g hl hn ho
theorem Iz (day:Int){n:Nat}{r:D}(hr:(r,n)∈ak ab aa)(kr:kindOf r∈b7)(hS:n∉bv ab aa day):mM [.tup ab,.int aa,.int day,.int (n:Int)]=sO true:=by
 let cnt:D×Nat->Nat:=λx=>((ak ab aa).filter λz=>bX z x).length;let E:Nat->OB->OB->OB->DL.Env:=λa v5 U M=>[sT ab,sI aa,sI day,sI (n:Int),sI (a:Int),v5,U,M];have X0:cnt (r,n)<ab.length:=by
  refine vQ ?_ (cm ab aa);refine List.length_filter_lt_length_iff_exists.mpr ⟨(r,n),hr,?_⟩;unfold bX;simp
 have el:=yO (tg:=cQ 5) (g:=nR) (d:=.bl true) (b:=false) (λi ρ=>∃a v5 U M q,ρ=E a v5 U M/\(q,a)∈ak ab aa/\kindOf q∈b7/\a∉bv ab aa day/\cnt (q,a)+i<=cnt (r,n)) (dU 0 ab.length) (by
  rintro i x ρ hx ⟨a,v5,U,M,q,rfl,ha,ka,O,hc⟩;refine⟨E a (some (x,false)) U M,rfl,?_⟩;have hq:=bo ha;obtain⟨ds,F⟩:=Sg g hl aa hn ho day hq ka (of_decide_eq_true (vN ha).2) O;have e6:∀zs,cJ [.lst ds]=lT zs->∀ρ:DL.Env,ρ[0]? = some (sT ab)->ρ[1]? = some (sI aa)->ρ[2]? = some (sI day)->ρ[4]? = some (sI (a:Int))->fA cJ (ae (fA im (fV 0 (fV 1 (fV 2 (fV 4 ai))))) ai) ρ=lT zs:=λzs hz ρ h0 h1 h2 h4=>aE [.lst ds] (aC (aE [.tup ab,.int aa,.int day,.int (a:Int)] (by simp[h0,h1,h2,h4]) F.flt) rfl) hz;have stop:cJ [.lst ds]=lT []->nR (E a (some (x,false)) U M)=some (.rt (.bl true) false):=λhz=>bT (ds:=[]) (e6 [] hz _ rfl rfl rfl rfl) rfl (bp (cz (fx (x:=.lst []) (y:=.lst []) (b1:=false) (b2:=true) rfl (aE [] rfl (dn _ (by simp))) NK)) (aw rfl));rcases F.two with⟨_,_,_,_,_,hz⟩|⟨hf,_,hz⟩
  ·exact .inl (stop hz)
  ·cases hR:(bE ab aa (q,a)).getLast? with
   |none=>
    rw[List.getLast?_eq_none_iff.mp hR]at hz;exact .inl (stop hz)
   |some b=>
    have hb:b∈bE ab aa (q,a):=List.mem_of_getLast? hR;obtain⟨m,T,e1,e2,h3,h4,k2⟩:=yP g hq hb (um ha ka hf O hb);have LF:((none,(m:Int)):Bs)∈bE ab aa (q,a):=by
     have:=um ha ka hf O hb;rw[show((none,(m:Int)):Bs)=b from Prod.ext this.symm e1.symm];exact hb
    have TL:=Iy ha ka hf O LF e2 h4;have wA:=yI _ h3 h4;refine .inr ⟨E m (some (x,false)) (lT ((bE ab aa (q,a)).map λb:Bs=>D.int b.2)) (sI (m:Int)),?_,m,_,_,_,T,rfl,h3,k2,TL,by show cnt (T,m)+(i+1)<=_;have:cnt (T,m)<cnt (q,a):=wA;omega⟩;let G:OB->DL.Env:=λM=>E a (some (x,false)) (lT ((bE ab aa (q,a)).map λb:Bs=>D.int b.2)) M;have c1:ba (f2 cP (aj 6) (fA bw ai)) (G M)=some false:=by
     refine cz (fx (x:=.lst ((bE ab aa (q,a)).map λb:Bs=>D.int b.2)) (y:=.lst []) (b1:=false) (b2:=true) rfl (aE [] rfl (dn _ (by simp))) ?_);unfold cP;rw[if_pos ⟨by
      simp only[aI,List.all_eq_true];intro d hd;obtain⟨b,_,rfl⟩:=vO hd;simp,by simp[aI]⟩]
     cases hh:bE ab aa (q,a) with
     |nil=>rw[hh]at hb;cases hb
     |cons=>simp
    have e7:f2 bq (aj 6) (f1 lH (fI 1)) (G M)=sI (m:Int):=bi (.lst ((bE ab aa (q,a)).map λb:Bs=>D.int b.2)) (.int (-1)) rfl rfl (by
     show(lG _ (-1)).map _=_;rw[wJ,List.getLast?_map,hR,←e1];rfl)
    obtain⟨dm,x1,_,_,x2⟩:=FK (g T (vL e2));obtain⟨da,y1,_,_,y2⟩:=FK (g q (vL hq));have nr:∀ {r:D},kindOf r∈b7->kindOf r ≠ "root":=λh=>of_decide_eq_false (gT h);have c2:ba (f2 IM (fA aP (ae (f2 bq (f2 bq (f2 bq (aj 0) (aj 7)) (fI 1)) (fI 1)) (fV 7 ai))) (fA aP (ae (f2 bq (f2 bq (f2 bq (aj 0) (aj 4)) (fI 1)) (fI 1)) (fV 4 ai)))) (G (sI (m:Int)))=some false:=by
     refine cz (bi (.tup [.int (aB T),.int (m:Int)]) (.tup [.int (aB q),.int (a:Int)]) (aE [.int (aB T),.int (m:Int)] (bJ (bi dm (.int 1) (bi T (.int 1) (bi (.tup ab) (.int (m:Int)) rfl rfl (by simp[ce e2])) rfl x1) rfl (x2 (nr k2))) rfl) (bO _ (by simp))) (aE [.int (aB q),.int (a:Int)] (bJ (bi da (.int 1) (bi q (.int 1) (bi (.tup ab) (.int (a:Int)) rfl rfl (by simp[ce hq])) rfl y1) rfl (y2 (nr ka))) rfl) (bO _ (by simp))) ?_);rw[Qv,show decide (aB T<aB q∨aB T=aB q/\(m:Int)<(a:Int))=true from h4];rfl
    have c3:ba (f2 gJ (fA lb (fV 0 (fV 1 (fV 2 (fV 7 ai))))) (fC .non)) (G (sI (m:Int)))=some false:=cz (bi .non .non (aE [.tup ab,.int aa,.int day,.int (m:Int)] rfl (yK g hl aa hn ho day TL)) rfl rfl);exact bT (ds:=(bE ab aa (q,a)).map λb:Bs=>D.int b.2) (e6 _ hz _ rfl rfl rfl rfl) (bG λd hd=>by obtain⟨b,_,rfl⟩:=vO hd;rfl) (a9 c1 (fw (.int (m:Int)) e7 rfl (a9 (cR (p:=false) (q:=false) c2 λ_=>c3) (k7 (b:=false) rfl rfl)))))
  (by
   rintro ρ ⟨a,v5,U,M,q,_,_,_,_,hc⟩;have:(dU 0 ab.length).length=ab.length:=by simp[dU]
   rw[this]at hc;omega) (dU 0 ab.length) 0 (E n none none none) rfl (by simp) ⟨n,none,none,none,r,rfl,hr,kr,hS,vT _⟩
 refine au rfl (fw (.int (n:Int)) rfl rfl (NJ (d:=.bl true) (b:=false) ?_));show jO (fE _) _ _ (E n none none none)=_;unfold jO;rw[gU (j:=ab.length) (b:=false) (aE [.tup ab] rfl rfl) (by omega)];exact el
end
def J6 (a:D)(l:List D):ki (a::l) (some 1) none=l:=by
 unfold ki;rw[xW (by decide)];show List.take ((a::l).length - _) _=_;simp
def NV (a:D)(l:List D):ki (a::l) (some 2) none=l.drop 1:=by
 unfold ki;rw[xW (by decide)];show List.take ((a::l).length - _) _=_;cases l with
 |nil=>rfl
 |cons b l=>simp
def BH {zs:List Int}{z:Int}(h:z∈zs):sU (.int z) (.lst (zs.map .int))=sO true:=by
 have g:(zs.map D.int).all gw=true:=by
  rw[List.all_eq_true];intro d hd;obtain⟨m,_,rfl⟩:=vO hd;rfl
 have G:∀zs:List Int,z∈zs->FY (.int z) (zs.map .int)=true:=λzs=>by
  induction zs with
  |nil=>intro h;cases h
  |cons y zs M=>
   intro h;show(cW (.int y) (.int z) || FY (.int z) (zs.map .int))=true;rcases vP h with rfl|h
   ·simp
   ·rw[M h,Bool.or_true]
 simp only[sU,hV,vJ];rw[if_pos ⟨rfl,g⟩,G zs h]
noncomputable def uo (T:List Nat)(c:Int):List Int:=T.map (λ(m:Nat)=>(m:Int))++[c]
def Lk.at {S:List Nat}{rs:Nat->List Bs}{T:List Nat}{c:Int}(k:Lk S rs T c):∀i,i<T.length->∃m,T[i]? = some m/\m∈S/\∃b l,(rs m).filter (cD S)=b::l/\(uo T c)[i+1]? = some b.2/\b.1.isSome=decide (i+1=T.length):=by
 induction k with
 |one n b l hS h ho=>
  intro i hi;have:i=0:=by simpa using hi
  subst this;exact⟨n,rfl,hS,b,l,h,rfl,by rw[ho];rfl⟩
 |more n m ns c b l hS h ho hm k g=>
  intro i hi;match i with
  |0=>exact⟨n,rfl,hS,b,l,h,by rw[hm];rfl,by rw[ho];simp⟩
  |i+1=>
   obtain⟨q,G,e2,b',M,O,U,e5⟩:=g i (by simpa using hi);exact⟨q,by simpa using G,e2,b',M,O,by simpa [uo]using U,by rw[e5];simp⟩
def yQ {α:Type}(l:List α):DU [.lst (l.map λ_=>.bl true)]=sO true:=by
 show(pQ _).map _=_;rw[qB (λ_=>true),Option.map_some];congr 3;rw[List.all_eq_true];intro b hb;obtain⟨_,_,rfl⟩:=vO hb;rfl
def FL (w:Str)(hw:decide (w=("office" : Str))=false)(R:List Bs)(hR:R.length<=100){b:Bs}(hb:b∈R)(ho:b.1.isSome=true):jG [.lst (R.map (ft w)),.int b.2]=sO true:=by
 have hc:=fH (fi:=bQ (aj 0)) (nT:=1) (cap:=[]) (tg:=cQ 0) (c:=ba (f2 cP (cA 0 0) (fS "office"))) (fe:=cA 0 2) (ρ:=[sL (R.map (ft w)),sI b.2]) R (ft w) (λb=>b.1.isSome) (λb=>.int b.2) rfl (by omega) λx _=>by
  refine⟨[some (ft w x,false)],rfl,?_,λh=>⟨false,?_⟩⟩
  ·refine(bR (a:=if x.1.isSome=true then "office" else w) (b:="office") (bb:=false) (bi (ft w x) (.int 0) rfl rfl (w4 _ x)) rfl).trans ?_;cases x.1.isSome with
   |true=>simp
   |false=>rw[if_neg (by decide),hw]
  ·obtain⟨_|o,z⟩:=x
   ·cases h
   ·exact bi (ft w (some o,z)) (.int 2) rfl rfl ((DL.pE (by decide) (by show 2<_;simp)).trans rfl)
 refine au rfl (aw (fx (x:=.int b.2) (y:=.lst ((R.filter λb:Bs=>b.1.isSome).map λb:Bs=>D.int b.2)) (b1:=false) (b2:=true) rfl hc ?_));have:=BH (zs:=(R.filter λb=>b.1.isSome).map λb=>b.2) (z:=b.2) (uS ⟨b,List.mem_filter.mpr ⟨hb,ho⟩,rfl⟩);rw[uP]at this;exact this
def CY (w:Str)(hw:decide (w=("office" : Str))=false)(R:List Bs)(hR:R.length<=100){b:Bs}(hb:b∈R)(ho:b.1=none):iN [.lst (R.map (ft w)),.int b.2]=sO true:=by
 have hc:=fH (fi:=bQ (aj 0)) (nT:=1) (cap:=[]) (tg:=cQ 0) (c:=ba (f2 pv (cA 0 0) (fS "office"))) (fe:=cA 0 1) (ρ:=[sL (R.map (ft w)),sI b.2]) R (ft w) (λb=>!b.1.isSome) (λb=>.int b.2) rfl (by omega) λx _=>by
  refine⟨[some (ft w x,false)],rfl,?_,λh=>⟨false,?_⟩⟩
  ·refine(Ag (a:=if x.1.isSome=true then "office" else w) (b:="office") (bb:=false) (bi (ft w x) (.int 0) rfl rfl (w4 _ x))).trans ?_;cases x.1.isSome with
   |true=>simp
   |false=>rw[if_neg (by decide),hw]
  ·obtain⟨_|o,z⟩:=x
   ·exact bi (ft w (none,z)) (.int 1) rfl rfl (by simp[ft,yY])
   ·cases h
 refine au rfl (aw (fx (x:=.int b.2) (y:=.lst ((R.filter λb:Bs=>!b.1.isSome).map λb:Bs=>D.int b.2)) (b1:=false) (b2:=true) rfl hc ?_));have:=BH (zs:=(R.filter λb=>!b.1.isSome).map λb=>b.2) (z:=b.2) (uS ⟨b,List.mem_filter.mpr ⟨hb,by rw[ho];rfl⟩,rfl⟩);rw[uP]at this;exact this
section
variable {ab:List D}(g:∀r∈ab,bS r) (hl:ab.length<=30) (aa:Int) (hn:((bC (ak ab aa)).map (ay 0)).Nodup) (ho:(cy (ak ab aa)).length<=60)
include g hl hn ho
theorem Al (day:Int){n:Nat}{ns:List Nat}{c:Int}(k:Lk (bv ab aa day) (Iu ab aa) (n::ns) c)(LD:ns.length<=100):jH [.tup ab,.int aa,.int day,.lst (((n::ns).map (λ(m:Nat)=>D.int (m:Int))++[D.int c]).reverse)]=sO true:=by
 obtain⟨e1,_⟩:=lm g hl aa hn ho day n;have F:=BG (ab:=ab) hl aa day;have U:=k.at;generalize jt ab aa day=l at *;generalize bv ab aa day=S at *;generalize Iu ab aa=rs at *;let T:List Nat:=n::ns;let R:List Nat:=T.reverse;have SS:R.length=ns.length+1:=by simp[R,T]
 let G:Nat->D:=λm=>.int (m:Int);have eL:((n::ns).map (λ(m:Nat)=>D.int (m:Int))++[D.int c]).reverse=.int c::R.map G:=by
  rw[List.reverse_append,←List.map_reverse];rfl
 rw[eL];let A:D:=.dk (l.map λp=>nK p.1) (l.map nu);let E:DL.Env:=[sT ab,sI aa,sI day,sL (.int c::R.map G),sF A];have hS:∀m∈R,m∈S:=λm hm=>by
  obtain⟨i,hi⟩:=List.mem_iff_getElem?.mp (List.mem_reverse.mp hm);obtain⟨m',e,h,_⟩:=U i (vV hi).1;have QD:(n::ns)[i]? = some m:=hi;rw[QD]at e;exact vK e ▸ h
 have look:∀m∈R,∃w,decide (w=("office" : Str))=false/\Cz A (G m)=sL ((rs m).map (ft w))/\(rs m).length<=100:=λm hm=>by
  obtain⟨w,hw,M,hz⟩:=F m (hS m hm);refine⟨w,hw,?_,hz⟩;show(bW (l.map λp=>nK p.1) (l.map nu) (nK m)).map _=_;rw[M];rfl
 have t1:ba (f2 KH (fA eJ (fV 3 ai)) (fI 2)) E=some false:=cz (bi (.int ((D.int c::R.map G).length:Nat)) (.int 2) (aE [.lst (.int c::R.map G)] rfl rfl) rfl (by
  show some (D.bl (decide (((D.int c::R.map G).length:Int)<2)),false)=_;rw[decide_eq_false (by simp[SS];omega)]))
 have c2:=jP (fi:=bQ (DY (aj 3) (kh (fI 1)) ls)) (nT:=1) (cap:=[4]) (tg:=cQ 0) (fe:=f2 Df (aj 0) (aj 1)) (ρ:=E) R G (λ_=>.bl true) (by
   show some (ki (.int c::R.map G) (some 1) none)=_;rw[J6]) (by omega) λm hm=>⟨[some (G m,false),sF A],rfl,false,bi (G m) A rfl rfl (by
    obtain⟨w,_,M,_⟩:=F m (hS m hm);show some (D.bl (bW (l.map λp=>nK p.1) (l.map nu) (nK m)).isSome,false)=_;rw[M];rfl)⟩
 have t2:ba (fA DU (ae (bI (bQ (DY (aj 3) (kh (fI 1)) ls)) 1 [4] (cQ 0) fu (f2 Df (aj 0) (aj 1))) ai)) E=some true:=cz (aE [.lst (R.map λ_=>.bl true)] (aC c2 rfl) (yQ R))
 -- the first link
 have t3:ba (fA jG (ae (f2 Cz (aj 4) (cA 3 1)) (ae (cA 3 0) ai))) E=some true:=by
  obtain⟨m,e0,_,b,tl,hb,hu,hi⟩:=U ns.length (by simp);have O:R[0]? = some m:=by
   show(n::ns).reverse[0]? = _;rw[List.getElem?_reverse (by simp)];simpa using e0
  have Pu:b.2=c:=by
   have:(uo (n::ns) c)[ns.length+1]? = some c:=by unfold uo;rw[List.getElem?_append_right (by simp)];simp
   rw[this]at hu;exact(vK hu).symm
  obtain⟨w,hw,M,hz⟩:=look m (vL O);have LF:b∈rs m:=(vN (show b∈(rs m).filter (cD S) by rw[hb];exact mX)).1;have TM:=FL w hw (rs m) hz LF (by rw[hi];simp);rw[Pu]at TM;obtain⟨R',eR⟩:∃R',R=m::R':=by
   cases hh:R with
   |nil=>rw[hh]at O;cases O
   |cons a R'=>rw[hh]at O;exact⟨R',by rw[←vK O]⟩
  refine cz (aE [.lst ((rs m).map (ft w)),.int c] (bJ (bi A (G m) rfl (bi (.lst (.int c::R.map G)) (.int 1) rfl rfl (by rw[eR];simp[yY])) M) (bJ (bi (.lst (.int c::R.map G)) (.int 0) rfl rfl (by simp[qY])) rfl)) TM)
 have c4:=jP (fi:=EN (DY (aj 3) (kh (fI 1)) ls) (DY (aj 3) (kh (fI 2)) ls)) (nT:=2) (cap:=[4]) (tg:=Jk [0,1]) (fe:=fA iN (ae (f2 Cz (aj 2) (aj 1)) (fV 0 ai))) (ρ:=E) (R.zip (R.drop 1)) (λp=>.tup [G p.1,G p.2]) (λ_=>.bl true) (by
   show some (z6 (ki (.int c::R.map G) (some 1) none) (ki (.int c::R.map G) (some 2) none))=_;rw[J6,NV,←List.map_drop];unfold z6;rw[List.zipWith_map,List.zip_eq_zipWith,List.map_zipWith]) (by rw[List.length_zip];omega) λp hp=>by
   refine⟨[some (G p.1,false),some (G p.2,false),sF A],rfl,false,?_⟩;obtain⟨i,hi⟩:=List.mem_iff_getElem?.mp hp;obtain⟨h1,h2⟩:=List.getElem?_zip_eq_some.mp hi;rw[List.getElem?_drop]at h2;have SQ:1+i<R.length:=(vV h2).1;obtain⟨w,hw,M,hz⟩:=look p.2 (vL h2);have r1:(n::ns)[ns.length - i]? = some p.1:=by
    have:(n::ns).reverse[i]? = some p.1:=h1;rw[List.getElem?_reverse (by simp;omega)]at this;simpa using this
   have r2:(n::ns)[ns.length - i - 1]? = some p.2:=by
    have:(n::ns).reverse[1+i]? = some p.2:=h2;rw[List.getElem?_reverse (by simp;omega)]at this;rw[←this];congr 1;simp;omega
   obtain⟨m,e0,_,b,tl,hb,hu,RE⟩:=U (ns.length - i - 1) (by simp;omega);rw[r2]at e0;cases e0
   have WH:(uo (n::ns) c)[ns.length - i - 1+1]? = some (p.1:Int):=by
    unfold uo;rw[show ns.length - i - 1+1=ns.length - i by omega,List.getElem?_append_left (by simp;omega),vA,r1];rfl
   rw[WH]at hu;have LF:b∈rs p.2:=(vN (show b∈(rs p.2).filter (cD S) by rw[hb];exact mX)).1;have WI:b.1=none:=by
    rw[decide_eq_false (by simp;omega)]at RE;cases hh:b.1 with
    |none=>rfl
    |some o=>rw[hh]at RE;cases RE
   have:=CY w hw (rs p.2) hz LF WI;rw[←vK hu]at this;exact aE [.lst ((rs p.2).map (ft w)),G p.1] (bJ (bi A (G p.2) rfl rfl M) (bJ rfl rfl)) this
 refine au rfl (CB (d:=A) (b:=false) (aE [.tup ab,.int aa,.int day] rfl e1) (by simp[A,bj]) (.inl rfl) ?_);exact a9 (ρ:=E) (cR (p:=false) (q:=false) t1 λ_=>bU t2) (a9 (bU t3) (aw (aE [.lst ((R.zip (R.drop 1)).map λ_=>.bl true)] (aC c4 rfl) (yQ _))))
end
section
variable {ab:List D}(g:∀r∈ab,bS r) (hl:ab.length<=30) (aa:Int) (hn:((bC (ak ab aa)).map (ay 0)).Nodup) (ho:(cy (ak ab aa)).length<=60)
include g hl hn ho
theorem FM (day:Int){n:Nat}{r:D}(G:(r,n)∈ak ab aa)(kr:kindOf r∈b7):lf [.tup ab,.int aa,.int day,.int (n:Int)]=sO true:=by
 have M:=bo G;by_cases hS:n∈bv ab aa day
 ·obtain⟨ks,c,k,hk⟩:=FD (aa:=aa) g day 31 n _ M hS (Nat.lt_of_le_of_lt (vM _ _) (Nat.lt_of_le_of_lt (cm ab aa) (by omega)));have O:=CW g hl aa hn ho day k (by omega);have ei:=Al g hl aa hn ho day k (by omega);have T:bF (((n::ks).map (λ(m:Nat)=>D.int (m:Int))++[D.int c]).reverse)=true:=bG λd hd=>by
   rcases List.mem_append.mp (List.mem_reverse.mp hd)with h|h
   ·obtain⟨m,_,rfl⟩:=vO h;rfl
   ·rw[uT h];rfl
  generalize ((n::ks).map (λ(m:Nat)=>D.int (m:Int))++[D.int c]).reverse=U at O ei T;let E:DL.Env:=[sT ab,sI aa,sI day,sI (n:Int),lT U,lT []];have t1:ba (f2 gJ (aj 4) (fC .non)) E=some true:=cz (bi (.lst U) .non rfl rfl rfl);have e2:jU (f2 cP (aj 5) (fA bw ai)) (fA jH (fV 0 (fV 1 (fV 2 (fV 4 ai))))) E=sO (true && true):=dE (b1:=false) (fx (x:=.lst []) (y:=.lst []) (b1:=false) (b2:=true) rfl (aE [] rfl (dn _ (by simp))) NK) λ_=>aE [.tup ab,.int aa,.int day,.lst U] rfl ei;exact au rfl (bT (ds:=U) (aE [.tup ab,.int aa,.int day,.int (n:Int)] rfl O) T (bT (ds:=[]) (aE [.tup ab,.int aa,.int day,.int (n:Int)] rfl (L7 g hl aa hn ho day hS)) rfl (bp t1 (aw e2))))
 ·obtain⟨ds,F⟩:=Sg g hl aa hn ho day M kr (of_decide_eq_true (vN G).2) hS;have O:=yK g hl aa hn ho day hS;let E:DL.Env:=[sT ab,sI aa,sI day,sI (n:Int),sF .non,lT ds];have t1:ba (f2 gJ (aj 4) (fC .non)) E=some false:=cz (bi .non .non rfl rfl rfl);have TN:∀d p9,ds=d::p9->ba (f2 pv (aj 5) (fA bw ai)) E=some true:=λd p9 e=>by
   refine cz (fx (x:=.lst ds) (y:=.lst []) (b1:=false) (b2:=true) rfl (aE [] rfl (dn _ (by simp))) ?_);unfold pv;rw[if_pos ⟨F4 F.pl,by simp[aI]⟩,e];simp
  have TQ:∀w d p9,ds=d::p9->bq d (.int 0)=sS w->ba (f2 sU (f2 bq (cA 5 0) (fI 0)) (fA aP (ae (fS "early") (ae (fS "seal") (ae (fS "called") ai))))) E=some (decide (w∈ma)):=λw d p9 e hd=>cz (bi (.str w) (.tup (ma.map .str)) (bi d (.int 0) (bi (.lst ds) (.int 0) rfl rfl (by rw[e];simp[qY])) rfl hd) (aE (ma.map .str) rfl (bO _ (by decide))) (gD _ _));have hJ:∀ {d:D}{b:Bool},(az (du (eK (ba (f2 pv (aj 5) (fA bw ai))) (ba (f2 sU (f2 bq (cA 5 0) (fI 0)) (fA aP (ae (fS "early") (ae (fS "seal") (ae (fS "called") ai))))))) (aN (f2 cP (fA eJ (fV 5 ai)) (fI 1))) aY) (az (du (ba (f2 pv (fA cJ (fV 5 ai)) (bI (bQ (fA gt (fV 0 (fV 1 (fV 3 ai))))) 1 [] (cQ 0) fu (f2 bq (aj 0) (f1 lH (fI 1)))))) (aN (fC (.bl false))) aY) (aN (fA mM (fV 0 (fV 1 (fV 2 (fV 3 ai)))))))) E=some (.rt d b)->lf [.tup ab,.int aa,.int day,.int (n:Int)]=some (d,b):=λh=>au rfl (fw .non (aE [.tup ab,.int aa,.int day,.int (n:Int)] rfl O) rfl (bT (ds:=ds) (aE [.tup ab,.int aa,.int day,.int (n:Int)] rfl F.flt) (BC F.pl) (a9 t1 h)));rcases F.two with⟨w,d,e,hw,hd,_⟩|⟨hf,⟨w,d,p9,e,hw,hd⟩,hz⟩
  ·refine hJ (bp (dM (TN d [] e) λ_=>(TQ w d [] e hd).trans (by rw[decide_eq_true hw])) (aw (bi (.int ((ds.length:Nat):Int)) (.int 1) (aE [.lst ds] rfl rfl) rfl ?_)));rw[e];rfl
  ·obtain⟨_,Gd⟩:=gY (ab:=ab) ⟨by omega,λr G=>(g r G).c⟩ aa ho;have RD:gt [.tup ab,.int aa,.int (n:Int)]=lT ((bE ab aa (r,n)).map (ft (yA r))):=by
    obtain⟨O,Gd⟩:=gY (ab:=ab) ⟨by omega,λr G=>(g r G).c⟩ aa ho;exact au rfl (aw (aE [.tup ab,.int aa,.lst ((aT (ak ab aa)).map aV),.int n] (bJ rfl (bJ rfl (aC (aE [.tup ab,.int aa] rfl O) (bJ rfl rfl)))) (wz g hl aa hn _ Gd M kr (of_decide_eq_true (vN G).2))))
   have hc:=jP (fi:=bQ (fA gt (fV 0 (fV 1 (fV 3 ai))))) (nT:=1) (cap:=[]) (tg:=cQ 0) (fe:=f2 bq (aj 0) (f1 lH (fI 1))) (ρ:=E) (bE ab aa (r,n)) (ft (yA r)) (λb:Bs=>D.int b.2) (by
     show(fA gt _ _).bind _=_;rw[aE [.tup ab,.int aa,.int (n:Int)] rfl RD];rfl) (by have:=rJ hl aa (r,n);omega) λb _=>⟨[some (ft (yA r) b,false)],rfl,false,bi (ft (yA r) b) (.int (-1)) rfl rfl (FF _ b)⟩
   have hp:aI 40 (.lst ((bE ab aa (r,n)).map λb:Bs=>D.int b.2))=true:=by
    simp only[aI,List.all_eq_true];intro d hd;obtain⟨b,_,rfl⟩:=vO hd;simp
   exact hJ (a9 ((dM (TN d p9 e) λ_=>(TQ w d p9 e hd).trans (by rw[decide_eq_false hw]))) (a9 (cz (fx (x:=.lst ((bE ab aa (r,n)).map λb:Bs=>D.int b.2)) (y:=.lst ((bE ab aa (r,n)).map λb:Bs=>D.int b.2)) (b1:=true) (b2:=true) (aE [.lst ds] rfl hz) hc (F5 hp))) (aw (aE [.tup ab,.int aa,.int day,.int (n:Int)] rfl (Iz g hl aa hn ho day G kr hS)))))
end
def law_true (ns:List Int)(_:ns.length<=63):∃b,F_law [.lst (ns.map .int)]=some (.bl true,b):=by
 obtain⟨c0,e0,h0⟩:=gS ns 0;obtain⟨O,e3,h3⟩:=gS ns 3;obtain⟨c4,e4,h4⟩:=gS ns 4;obtain⟨G,TR,X1⟩:=gS ns 90;obtain⟨zs,ez,hz,WJ⟩:=Fk c0 h0;have TU:=mod_lt (x:=O) (m:=3) (by decide);obtain⟨M,X2,WK⟩:=ng (ns:=[1,1,500]) (i:=O % 3) TU.1 TU.2;obtain⟨ab,erw,T,W9,LM⟩:=Ib ns zs hz M;have WL:=mod_lt (x:=O / 3) (m:=13) (by decide);have X3:=mod_lt (x:=c4) (m:=3) (by decide);have WM:=mod_lt (x:=G / 2) (m:=13) (by decide);have Px:=mod_lt (x:=G) (m:=2) (by decide);obtain⟨aa,OH,WN⟩:=ng (ns:=[9999,O / 3 % 13*M]) (i:=c4 % 3 / 2) (by omega) (by simp;omega);obtain⟨day,X4,WO⟩:=ng (ns:=[9999,G / 2 % 13*M]) (i:=G % 2) (by omega) (by simp;omega);have U:bj (.tup ab)=true:=by simp[bG λd hd=>(T d hd).flat]
 have hn:((bC (ak ab aa)).map (ay 0)).Nodup:=by
  refine List.Nodup.sublist (F7 ab aa) ?_;rw[LM];refine List.Nodup.sublist (List.take_sublist _ _) ?_;obtain⟨x,hx⟩:∃x,zs[5]? = some x:=⟨_,vU (by omega)⟩;obtain⟨y,hy⟩:∃y,zs[6]? = some y:=⟨_,vU (by omega)⟩;have e:zs.drop 5=[x,y]:=by
   refine List.ext_getElem? λj=>?_;rw[List.getElem?_drop];match j with
   |0=>exact hx
   |1=>exact hy
   |j+2=>rw[List.getElem?_eq_none (by omega)];rfl
  rw[e];simp[WJ x y hx hy]
 have ho:(cy (ak ab aa)).length<=60:=by
  unfold cy;rw[(br _ _).length_eq];exact vR (vM _ _) (vR (cm ab aa) (by omega))
 let E:OB->DL.Env:=λv6=>[sL (ns.map .int),lT (zs.map .str),sI M,sT ab,sI aa,sI day,v6];obtain⟨ρ',el,v6,rfl⟩:=m8 (tg:=cQ 6) (g:=ET) ab.length (λ_ ρ=>∃v6,ρ=E v6) (E none) ⟨_,rfl⟩ (by
  rintro n ρ NW ⟨v6,rfl⟩;refine⟨_,E (sI (n:Int)),rfl,.inl ?_,_,rfl⟩;have hr:ab[n]? = some ab[n]:=vU NW;generalize ab[n]=r at hr;obtain⟨dd,x1,x0,xh,_⟩:=FK (T r (vL hr));have xr:f2 bq (aj 3) (aj 6) (E (sI (n:Int)))=some (r,false):=bi (.tup ab) (.int (n:Int)) rfl rfl (by simp[ce hr]);have c1:ba (f2 yV (f2 bq (f2 bq (aj 3) (aj 6)) (fI 0)) (aj 4)) (E (sI (n:Int)))=some (decide (bc r<=aa)):=cz (bi (.int (bc r)) (.int aa) (bi r (.int 0) xr rfl xh) rfl (by simp));have c2:ba (f2 sU (f2 bq (f2 bq (f2 bq (aj 3) (aj 6)) (fI 1)) (fI 0)) (fA aP (ae (fS "leave") (ae (fS "paper") (ae (fS "like") (ae (fS "copy") ai)))))) (E (sI (n:Int)))=some (decide (kindOf r∈b7)):=cz (bi (.str (kindOf r)) (.tup (b7.map .str)) (bi dd (.int 0) (bi r (.int 1) xr rfl x1) rfl x0) (aE (b7.map .str) rfl (bO _ (by decide))) (gD _ _));refine Lr (dM c1 λ_=>c2) (λh=>?_) λ_=>rfl;rw[vC]at h;have hm:(r,n)∈ak ab aa:=List.mem_filter.mpr ⟨List.mk_mem_zipIdx_iff_getElem?.mpr hr,h.1⟩;exact mB (bU (p:=true) (cz (aE [.tup ab,.int aa,.int day,.int (n:Int)] rfl (FM T (by omega) aa hn ho day hm (of_decide_eq_true h.2))))) rfl)
 refine⟨false,au rfl (bT (ds:=zs.map .str) (aE [.int c0] (aC (aE [.lst (ns.map .int),.int ((0:Nat):Int)] rfl e0) rfl) ez) (dr zs) (fw (.int M) ?_ rfl (fw (.tup ab) (aE [.lst (ns.map .int),.lst (zs.map .str),.int M,.int 10] rfl erw) U (fw (.int aa) ?_ rfl (fw (.int day) ?_ rfl (dL (mD (gU (j:=ab.length) (b:=false) (aE [.tup ab] rfl rfl) (by omega)) el) (aw rfl)))))))⟩
 ·exact fx (x:=.lst (([1,1,500]:List Int).map .int)) (y:=.int (O % 3)) (b1:=true) (b2:=false) (by simp[sizeLine]) (bi (.int O) (.int 3) (aE [.lst (ns.map .int),.int ((3:Nat):Int)] rfl e3) rfl (by simp)) WK
 ·exact fx (x:=.lst (([9999,O / 3 % 13*M]:List Int).map .int)) (y:=.int (c4 % 3 / 2)) (b1:=true) (b2:=false) (aE [.int 9999,.int (O / 3 % 13*M)] (bJ rfl (bJ (bi (.int (O / 3 % 13)) (.int M) (bi (.int (O / 3)) (.int 13) (bi (.int O) (.int 3) (aE [.lst (ns.map .int),.int ((3:Nat):Int)] rfl e3) rfl (by simp)) rfl (by simp)) rfl (oe (by omega))) rfl)) (dn _ (by simp))) (bi (.int (c4 % 3)) (.int 2) (bi (.int c4) (.int 3) (aE [.lst (ns.map .int),.int ((4:Nat):Int)] rfl e4) rfl (by simp)) rfl (by simp)) WN
 ·exact fx (x:=.lst (([9999,G / 2 % 13*M]:List Int).map .int)) (y:=.int (G % 2)) (b1:=true) (b2:=false) (aE [.int 9999,.int (G / 2 % 13*M)] (bJ rfl (bJ (bi (.int (G / 2 % 13)) (.int M) (bi (.int (G / 2)) (.int 13) (bi (.int G) (.int 2) (aE [.lst (ns.map .int),.int ((90:Nat):Int)] rfl TR) rfl (by simp)) rfl (by simp)) rfl (oe (by omega))) rfl)) (dn _ (by simp))) (bi (.int G) (.int 2) (aE [.lst (ns.map .int),.int ((90:Nat):Int)] rfl TR) rfl (by simp)) WO
end Lw
namespace Lw
open PySem PySem.Spec PyProof.Rows L2 DL
noncomputable def dO (i:Nat):Stmt:=PySem.Challenge.pw_sealchain_k37_whole_faults_and_bases.main.body.getD i (.Pass ⟨0,0,0,0⟩)
structure Tx (w:World)(K:Frag)(mg:Str->Option Value):Prop where
 hX:∃h,K.In h/\h.Ns mainGlobals mg
 d0:cX K "_law_cell" (dO 74)
 d1:cX K "_law_names" (dO 75)
 d2:cX K "_law_stretch" (dO 76)
 d3:cX K "_law_deed" (dO 77)
 d4:cX K "_law_rows" (dO 78)
 d5:cX K "word_of" (dO 7)
 d6:cX K "part_of" (dO 8)
 d7:cX K "day_of" (dO 9)
 d8:cX K "heard" (dO 11)
 d9:cX K "rank" (dO 13)
 d10:cX K "in_order" (dO 15)
 d11:cX K "by_office" (dO 27)
 d12:cX K "roots" (dO 16)
 d13:cX K "is_known" (dO 12)
 d14:cX K "tells" (dO 19)
 d15:cX K "told_of" (dO 20)
 d16:cX K "lives" (dO 21)
 d17:cX K "has_seal" (dO 22)
 d18:cX K "is_sound" (dO 23)
 d19:cX K "lies_in" (dO 1)
 d20:cX K "is_alive" (dO 25)
 d21:cX K "by_since" (dO 26)
 d22:cX K "chief_of" (dO 28)
 d23:cX K "holder_by" (dO 29)
 d24:cX K "is_held_by" (dO 30)
 d25:cX K "is_first_death" (dO 31)
 d26:cX K "counts" (dO 32)
 d27:cX K "new_claim" (dO 33)
 d28:cX K "ended" (dO 34)
 d29:cX K "after_choice" (dO 35)
 d30:cX K "inherited" (dO 36)
 d31:cX K "after_death" (dO 37)
 d32:cX K "claims" (dO 38)
 d33:cX K "is_paper" (dO 41)
 d34:cX K "is_leave" (dO 42)
 d35:cX K "is_borne" (dO 43)
 d36:cX K "covers" (dO 4)
 d37:cX K "reach_bar" (dO 48)
 d38:cX K "office_bar" (dO 49)
 d39:cX K "office_bases" (dO 52)
 d40:cX K "ends_within" (dO 3)
 d41:cX K "is_within" (dO 2)
 d42:cX K "is_ahead" (dO 14)
 d43:cX K "leave_bar" (dO 50)
 d44:cX K "leaves_to" (dO 51)
 d45:cX K "leave_bases" (dO 53)
 d46:cX K "copy_bases" (dO 54)
 d47:cX K "bases_by" (dO 55)
 d48:cX K "bases" (dO 56)
 d49:cX K "may_call" (dO 44)
 d50:cX K "calls_in" (dO 45)
 d51:cX K "calls_by" (dO 46)
 d52:cX K "is_fit" (dO 57)
 d53:cX K "links" (dO 58)
 d54:cX K "bears" (dO 59)
 d55:cX K "stood" (dO 60)
 d56:cX K "first_bearer" (dO 61)
 d57:cX K "chain" (dO 62)
 d58:cX K "is_begun" (dO 63)
 d59:cX K "is_linked" (dO 64)
 d60:cX K "is_chain" (dO 65)
 d61:cX K "calls" (dO 47)
 d62:cX K "office_faults" (dO 67)
 d63:cX K "leave_fault" (dO 68)
 d64:cX K "leave_faults" (dO 69)
 d65:cX K "copy_fault" (dO 70)
 d66:cX K "base_faults" (dO 71)
 d67:cX K "faults" (dO 72)
 d68:cX K "_law_falls" (dO 79)
 d69:cX K "_law_down" (dO 80)
 d70:cX K "_law_asked" (dO 81)
 d71:cX K "law" (dO 82)
 n0:mg "all" = none
 n1:mg "any" = none
 n2:mg "dict" = none
 n3:mg "enumerate" = none
 n4:mg "int" = none
 n5:mg "len" = none
 n6:mg "list" = none
 n7:mg "max" = none
 n8:mg "min" = none
 n9:mg "range" = none
 n10:mg "reversed" = none
 n11:mg "set" = none
 n12:mg "sorted" = none
 n13:mg "tuple" = none
 n14:mg "zip" = none
 k0:KC K mg "PAPERS" xX
 k1:KD w K mg "PARTS" gQ
 k2:KC K mg "SEALINGS" ie
 l10:zH K "in_order"
 l17:zH K "has_seal"
 l25:zH K "is_first_death"
 l47:zH K "bases_by"
section
variable {P:Program}{w:World}{K:Frag}{mg:Str->Option Value}{base:Heap}(T:Tx w K mg)
include T
theorem f0:Fn P w K mg base 1 "_law_cell" dh:=T.d0.fq T.hX xY ["_law_script","_law_k","_law_cell_here"] 2 λnd g hu=>
  (ao (aA nd av)
   (ao (fD (aG zv (bD fR T.n5 fT (aD 0 am)) av) (bB (aA nd (aK (ag 0) (ax bN (ag 1) (bD fR T.n5 fT (aD 0 am)))))) fg)
   (ao (aA nd (ax bN (ax df (ax b9 (ax b9 (ax bN (ag 2) av) (ax df av (ag 1))) av) av) av))
   (aZ (ax bN (ax df (ag 2) (ax b9 (ax b9 (ax bN (ag 2) av) (ag 1)) av)) av)))))
theorem f1:Fn P w K mg base 1 "_law_names" nN:=T.d1.fq T.hX tO ["_law_cell_here","_law_letters","_law_base","_law_at","_law_names_here","_law_k","_law_name"] 1 λnd g hu=>
  (ao (aA nd a7)
   (ao (o3 ["_law_k","_law_letters","_law_cell_here"] nd (DR T.n9 (ax b9 av (ax bN (ag 0) av))) gG (aK (ag 1) (ax bN (ax bV (ag 2) (ax b9 av (ax df av (ag 0)))) av)))
   (ao (aA nd (ax bN (ax bV (ag 0) av) (bD fR T.n5 fT (aD 2 am))))
   (ao (aA nd (b8 am))
   (ao (xT (jg T.n9 av) (EG 5 nd) fy (ao (aA nd (kT KW T.n6 DO (aD 2 am)))
   (ao (Ec (i:=6) (aK (ag 1) (ax bN (ax b9 (ax bV (ag 0) av) (ax df av (ag 5))) av)) (ag 3))
   (bB (gI (i:=4) (KP PySem.F.slot_str_join PySem.F.type_str_join KR DZ a7 (ag 6)))))))
   (ao (fD (aG (c9 hu) (ax bN (ax bV (ag 0) av) av) av) (bB (Ec (i:=4) (bA 4) av)) fg)
   (bB (kR 4))))))))
theorem f2:Fn P w K mg base 1 "_law_stretch" g8:=T.d2.fq T.hX o4 ["_law_cell_here","_law_day","_law_measure","_law_some"] 3 λnd g hu=>
  (ao (aA nd (b8 (ah (aR (cj (ah de am))) (ah (aR (aD 1 (ah de am))) (ah (aR (aD 1 (ah (ax b9 (ag 1) (ax df av (ag 2))) am))) (ah (aR (cj (ah (ax b9 (ag 1) (ax df av (ag 2))) am))) (ah (aR (cj (ah (ax df av (ag 2)) am))) am)))))))
   (ao (aA nd (ax b9 (ag 3) (b8 (ah (aR (ah (ax b9 (ag 1) (ag 2)) (ah (ax b9 (ag 1) (ax df av (ag 2))) am))) (ah (aR (ah (ax bV (ag 1) av) (ah (ax b9 (ag 1) (ax df av (ag 2))) am))) (ah (aR (cj (ah de am))) am))))))
   (aZ (aK (ag 3) (ax bN (ag 0) av)))))
theorem f3:Fn P w K mg base 2 "_law_deed" qC:=T.d3.fq T.hX xZ ["_law_many","_law_cell_here","_law_other","_law_names_here","_law_day","_law_had","_law_measure","_law_kinds","_law_word","_law_by","_law_person","_law_of","_law_matters","_law_further","_law_start"] 7 λnd g hu=>
  (ao (aA nd (ax b9 (ax b9 (E9 (b8 (ah a7 am)) av) (E9 (b8 (ah a7 am)) av)) (b8 (ah a7 (ah a7 (ah a7 (ah a7 (ah a7 am))))))))
   (ao (aA nd (ax b9 (ag 7) (b8 (ah a7 (ah a7 (ah a7 (ah a7 (ah a7 (ah a7 am)))))))))
   (ao (aA nd (aK (ag 7) (ax bN (ag 1) av)))
   (ao (aA nd (aK (ag 5) (ax DJ (wT xi av) (ax bN (ax bV (ag 1) av) (bD Nj T.n8 Ng (cj (ah (bD fR T.n5 fT (aD 5 am)) am)))))))
   (ao (fD (aG (c9 hu) (ax bN (ax bV (ag 1) av) av) av) (bB (aA nd (aK (ag 3) (ax bN (ax bV (ag 1) av) av)))) fg)
   (ao (aA nd (aK (ag 3) (ax bN (ax bV (ag 1) av) av)))
   (ao (aA nd (bD Ni T.n7 Nf (cj (ah (ax DJ (ax DJ (ag 0) av) (ax bN (ag 2) av)) am))))
   (ao (fD (aG (c9 hu) (ax bN (ax bV (ag 2) av) av) av) (bB (aA nd (ax bN (ax bV (ag 2) av) av))) fg)
   (ao (fD (aG (c9 hu) (ag 8) a7) (ao (aA nd (by refine aK (hs:=?_) ?_ ?_;refine b8 ?_;refine cj ?_;refine cj ?_;refine cj ?_;refine cj ?_;refine cj ?_;refine cj ?_;refine cj ?_;refine cj ?_;exact am;exact(ax bN (ax bV (ag 1) av) av);intro _ _;rfl))
   (ao (aA nd (ax bN (ax bV (ag 2) av) (aK (b8 (cj (cj (cj (cj am))))) (ax bN (ax bV (ag 2) av) av))))
   (aZ (aR (aD 8 (aD 4 (aD 9 (aD 10 (aD 12 (ah (aU (f2 T) g (ah (ax bV (ag 2) av) (aD 4 (aD 6 am)))) (aD 13 am))))))))))) fg)
   (ao (fD (jT (kg (aG (c9 hu) (ag 8) a7) (jy (aG (c9 hu) (ag 8) a7)))) (ao (aA nd (by refine aK (hs:=?_) ?_ ?_;refine b8 ?_;refine cj ?_;refine cj ?_;refine cj ?_;refine cj ?_;refine cj ?_;refine cj ?_;refine cj ?_;refine cj ?_;exact am;exact(ax bN (ax bV (ag 1) av) av);intro _ _;rfl))
   (ao (aA nd (aR (aD 8 (aD 4 (aD 9 (aD 12 (ah (aU (f2 T) g (ah (ax bV (ag 2) av) (aD 4 (aD 6 am)))) (ah (aK (b8 (ah de (aD 10 am))) (ax bN (ax bV (ag 2) av) av)) am))))))))
   (ao (bL (aG (c9 hu) (ag 8) a7) (ax E1 (ag 14) (aR (aD 11 (ah (aR (ah (aR (cj (aD 10 am))) am)) am)))))
   (aZ (ax E1 (ag 14) (aR (ah (aR (aD 10 am)) am))))))) fg)
   (ao (bL (aG ot (ag 8) (aR (ah a7 (ah a7 am)))) (aR (aD 8 (aD 4 (aD 9 (aD 11 am))))))
   (ao (bL (aG (c9 hu) (ag 8) a7) (aR (aD 8 (aD 4 (ah (aK (ag 3) (ax b9 av (ax bN (ag 2) av))) (aD 10 am))))))
   (ao (bL (aG (c9 hu) (ag 8) a7) (aR (aD 8 (aD 4 (aD 9 (ah (aK (ag 3) (ax b9 av (ax bN (ag 2) av))) (aD 10 (ah (ax b9 (ag 4) (ax df (ax bN (ax bV (ag 2) av) av) (ag 6))) am))))))))
   (ao (bL (aG (c9 hu) (ag 8) a7) (aR (aD 8 (aD 4 (aD 9 (ah (aK (ag 3) (ax b9 av (ax bN (ag 2) av))) (aD 10 am)))))))
   (aZ (aR (aD 8 (aD 4 (aD 9 am)))))))))))))))))))
theorem f4:Fn P w K mg base 3 "_law_rows" qD:=T.d4.fq T.hX ya ["_law_script","_law_names_here","_law_measure","_law_most","_law_head","_law_rows_here","_law_had","_law_k","_law_rule","_law_matters","_law_late","_law_further","_law_cell_here","_law_day","_law_deed_here"] 4 λnd g hu=>
  (ao (aA nd (aU (f0 T) g (aD 0 (cj am))))
   (ao (aA nd (b8 am))
   (ao (aA nd (b8 am))
   (ao (xT (jg T.n9 (ax b9 av (ax bN (ag 4) av))) (EG 7 nd) fy (ao (aA nd (aK (b8 (ah a7 (ah a7 (ah a7 am)))) (ax bN (ax bV (ag 4) (ax b9 av (ax df av (ag 7)))) av)))
   (ao (aA nd (aK (b8 (cj (cj (cj (cj am))))) (ax bN (ax bV (ag 4) (ax b9 av (ax df av (ag 7)))) av)))
   (ao (aA nd (ax df (ax df (kT Nu T.n4 Nh (ah (cx (c9 hu) (ax bN (ax bV (ag 4) (ax b9 av (ag 7))) av) av) am)) av) (ag 2)))
   (ao (aA nd (ax bN (ax bV (ag 4) (ax b9 av (ax df av (ag 7)))) (aK (b8 (cj (cj (cj am)))) (ax bN (ax bV (ag 4) (ax b9 av (ag 7))) av))))
   (ao (gI (i:=5) (aR (aD 10 (ah (aR (ah a7 (ah (aK (ag 1) (ax b9 av (ag 7))) (aD 9 (aD 11 (aD 8 am)))))) am))))
   (ao (gI (i:=5) (aR (cj (ah (aR (ah a7 (cj (ah (aK (ag 1) (ax b9 av (ag 7))) (ah (aK (ag 1) (ag 7)) am))))) am))))
   (bB (gI (i:=6) (aK (ag 1) (ag 7)))))))))))
   (ao (xT (jg T.n9 (ax b9 av (ax bN (aU (f0 T) g (aD 0 (cj am))) (ag 3)))) (EG 7 nd) fy (ao (aA nd (aU (f0 T) g (aD 0 (ah (ax b9 av (ag 7)) am))))
   (ao (aA nd (ax df (ax b9 (ax bV (ag 7) av) (ax bN (ax bV (ag 12) av) av)) (ag 2)))
   (ao (aA nd (aU (f3 T) g (ah (bD fR T.n5 fT (aD 5 am)) (ah (aU (f0 T) g (aD 0 (ah (ax b9 av (ag 7)) am))) (ah (aU (f0 T) g (aD 0 (ah (ax b9 av (ag 7)) am))) (aD 1 (aD 13 (aD 6 (aD 2 am)))))))))
   (ao (fD (aG ot (bA 14) (aR (ah a7 (ah a7 am)))) (bB (gI (i:=6) (bA 14))) fg)
   (ao (fD (aG (c9 hu) (bA 14) a7) (bB (gI (i:=6) (bA 14))) fg)
   (bB (gI (i:=5) (aR (ah (ax b9 (ag 13) (ax df (by refine aK (hs:=?_) ?_ ?_;refine b8 ?_;refine cj ?_;refine cj ?_;refine cj ?_;refine cj ?_;refine cj ?_;refine cj ?_;exact am;exact(ax bN (ax bV (ag 12) av) av);intro _ _;rfl) (ag 2))) (aD 14 am)))))))))))
   (aZ (kT Hg T.n13 GX (aD 5 am))))))))
theorem f5:Fn P w K mg base 1 "word_of" aL:=T.d5.fq T.hX tP ["row"] 1 λnd g hu=>
  (aZ (aK (bA 0) av))
theorem f6:Fn P w K mg base 2 "part_of" aq:=T.d6.fq T.hX tQ ["row","part"] 2 λnd g hu=>
  (aZ (aK (bA 0) (ax b9 av (Ho T.k1 (a8 (f5 T) g) (ag 1)))))
theorem f7:Fn P w K mg base 3 "day_of" aS:=T.d7.fq T.hX yc ["row"] 1 λnd g hu=>
  (ao (bL (aG (c9 hu) (a8 (f5 T) g) a7) de)
   (aZ (a8 (f6 T) g)))
theorem f8:Fn P w K mg base 1 "heard" cG:=T.d8.fq T.hX Be ["book","known"] 2 λnd g hu=>
  (aZ (eO ["number","row","known"] (Hi T.n3 (ag 0)) (dD (aG oq (bA 1) (ag 2))) (ag 0)))
theorem f9:Fn P w K mg base 4 "rank" fj:=T.d9.fq T.hX ES ["book","number"] 2 λnd g hu=>
  (aZ (aR (ah (aU (f7 T) g (ah (aK (ag 0) (ag 1)) am)) (aD 1 am))))
theorem f10:Fn P w K mg base 8 "in_order" dY:=T.d10.fqL T.hX qE ["book","known","dated"] 2 λnd g hu G=>
  (ao (o3 ["number","book"] nd (bZ (a8 (f8 T) g)) (dD (aG mr (aU (f7 T) g (ah (aK (ag 1) (ag 0)) am)) de)) (ag 0))
   (aZ (Ev Et T.n12 (ag 2) (vw (cap:=[0]) (N':=["number","book"]) (by decide +kernel) T.l10 G rfl rfl (AL (by decide +kernel) rfl rfl rfl rfl rfl) rfl (.cons rfl rfl (Or.inl rfl) rfl (pq (by decide +kernel) rfl) (.nil rfl)) rfl g.in1.in1 (λ_ _ _ _=>rfl) λ_ _ _ _ g=>have hu:=Cg g;(a8 (f9 T) g)))))
theorem f11:Fn P w K mg base 1 "by_office" g9:=T.d11.fq T.hX o5 ["claim"] 1 λnd g hu=>
  (aZ (aR (ah (bA 0) (ah (bA 0) (ah (bA 0) am)))))
theorem Pa:Fn P w K mg base 3 "roots" fJ:=T.d12.fq T.hX Bf ["book","known","known_rows"] 2 λnd g hu=>
  (ao (o3 ["number","book"] nd (bZ (a8 (f8 T) g)) gG (aK (ag 1) (ag 0)))
   (aZ (kT (Li rfl) T.n2 Lh (ah (eO ["row"] (bZ (ag 2)) (dD (aG (c9 hu) (a8 (f5 T) g) a7)) (aR (ah (a8 (f6 T) g) (aD 0 am)))) am))))
theorem Qw:Fn P w K mg base 1 "is_known" cC:=T.d13.fq T.hX qF ["book","known","number"] 3 λnd g hu=>
  (aZ (gH (DH oq A5 av (ag 2) (bD fR T.n5 fT (aD 0 am))) (fB (cx oq (aK (aK (ag 0) (ag 2)) av) (ag 1)))))
theorem Uw:Fn P w K mg base 4 "tells" p7:=T.d14.fq T.hX Bg ["row","words","person","day"] 4 λnd g hu=>
  (aZ (gH (cx ot (a8 (f5 T) g) (ag 1)) (gH (cx (c9 hu) (a8 (f6 T) g) (ag 2)) (fB (cx oq (a8 (f7 T) g) (ag 3))))))
theorem Qx:Fn P w K mg base 5 "told_of" gV:=T.d15.fq T.hX tR ["book","known","words","person","day"] 5 λnd g hu=>
  (aZ (eO ["number","words","person","day","book"] (bZ (a8 (f8 T) g)) (dD (cf (aU (Uw T) g (ah (aK (ag 4) (ag 0)) (aD 1 (aD 2 (aD 3 am))))))) (ag 0)))
theorem Sh:Fn P w K mg base 6 "lives" mF:=T.d16.fq T.hX Bh ["book","known","person","day"] 4 λnd g hu=>
  (aZ (cx (c9 hu) (bD fR T.n5 fT (ah (aU (Qx T) g (aD 0 (aD 1 (ah (aR (ah a7 am)) (aD 2 (aD 3 am)))))) am)) av))
theorem Ux:Fn P w K mg base 8 "has_seal" lQ:=T.d17.fqL T.hX qG ["book","known","person","day","told"] 4 λnd g hu G=>
  (ao (aA nd (aU (Qx T) g (aD 0 (aD 1 (ah (aR (ah a7 (ah a7 am))) (aD 2 (aD 3 am)))))))
   (ao (bL (aG (c9 hu) (bD fR T.n5 fT (aD 4 am)) av) fz)
   (aZ (cx (c9 hu) (aU (f5 T) g (ah (aK (ag 0) (xP RX T.n7 (ag 4) (vw (cap:=[0]) (N':=["number","book"]) (by decide +kernel) T.l17 G rfl rfl (AL (by decide +kernel) rfl rfl rfl rfl rfl) rfl (.cons rfl rfl (Or.inl rfl) rfl (pq (by decide +kernel) rfl) (.nil rfl)) rfl g.in1 (λ_ _ _ _=>rfl) λ_ _ _ _ g=>have hu:=Cg g;(a8 (f9 T) g)) g)) am)) a7))))
theorem Pb:Fn P w K mg base 9 "is_sound" dZ:=T.d18.fq T.hX qH ["book","known","number","sealer","day"] 3 λnd g hu=>
  (ao (bL (jT (kg (eZ (cf (a8 (Qw T) g))) (jy (aG pO (aU (f5 T) g (ah (aK (ag 0) (ag 2)) am)) (xg T.k2))))) fz)
   (ao (aA nd (aU (f6 T) g (ah (aK (ag 0) (ag 2)) (ah a7 am))))
   (ao (aA nd (aU (f7 T) g (ah (aK (ag 0) (ag 2)) am)))
   (aZ (gH (a8 (Sh T) g) (fB (a8 (Ux T) g)))))))
theorem Si:Fn P w K mg base 1 "lies_in" jn:=T.d19.fq T.hX tS ["day","stretch"] 2 λnd g hu=>
  (aZ (gH (cx oq (bA 1) (ag 0)) (fB (DI (cx Ci (bA 1) de) (fB (cx A5 (ag 0) (bA 1)))))))
theorem Qy:Fn P w K mg base 2 "is_alive" cS:=T.d20.fq T.hX qI ["claim","day"] 2 λnd g hu=>
  (aZ (aU (Si T) g (aD 1 (ah (aR (ah (bA 0) (ah (bA 0) am))) am))))
theorem Qz:Fn P w K mg base 1 "by_since" dA:=T.d21.fq T.hX qJ ["claim"] 1 λnd g hu=>
  (aZ (aR (ah (bA 0) (ah (bA 0) am))))
theorem Uy:Fn P w K mg base 5 "chief_of" lR:=T.d22.fq T.hX qK ["alive","rule"] 2 λnd g hu=>
  (ao (bL (aG (c9 hu) (ag 1) a7) (aK (xP RX T.n7 (ag 0) (AN (Qz T) (g.in1.mono (by decide)) rfl) g) av))
   (aZ (aK (xP Ql T.n8 (ag 0) (AN (Qz T) (g.in1.mono (by decide)) rfl) g) av)))
theorem Sj:Fn P w K mg base 6 "holder_by" eA:=T.d23.fq T.hX o6 ["claimed","root","day","alive","people","person","oldest"] 3 λnd g hu=>
  (ao (o3 ["claim","day","root"] nd (bZ (ag 0)) (dD (jT (jz (aG (c9 hu) (bA 0) (a8 (f6 T) g)) (gP (cf (a8 (Qy T) g)))))) (ag 0))
   (ao (aA nd (lL rfl T.n12 T.n11 (eO ["claim"] (bZ (ag 3)) gG (bA 0))))
   (ao (bL (aG (c9 hu) (bD fR T.n5 fT (aD 4 am)) av) (aR (ah a7 am)))
   (ao (bL (jT (jz (aG zv (bD fR T.n5 fT (aD 4 am)) av) (gP (aG (c9 hu) (a8 (f6 T) g) a7)))) (aR (ah a7 (aD 4 am))))
   (ao (aA nd (aU (Uy T) g (aD 3 (ah (a8 (f6 T) g) am))))
   (ao (aA nd (xP Ql T.n8 (eO ["claim","person"] (bZ (ag 3)) (dD (aG (c9 hu) (bA 0) (ag 1))) (ag 0)) (AN (Qz T) (g.in1.mono (by decide)) rfl) g))
   (aZ (aR (ah a7 (aD 5 (ah (bA 6) am)))))))))))
theorem Q0:Fn P w K mg base 7 "is_held_by" cM:=T.d24.fq T.hX mG ["claimed","root","person","day"] 4 λnd g hu=>
  (aZ (cx (c9 hu) (mu (a8 (Sj T) g) pw (px av)) (aR (ah a7 (aD 2 am)))))
theorem Uz:Fn P w K mg base 8 "is_first_death" gd:=T.d25.fqL T.hX jo ["book","known","number","row","deaths"] 3 λnd g hu G=>
  (ao (aA nd (aK (ag 0) (ag 2)))
   (ao (aA nd (aU (Qx T) g (aD 0 (aD 1 (ah (aR (ah a7 am)) (ah (a8 (f6 T) g) (ah (a8 (f7 T) g) am)))))))
   (aZ (cx (c9 hu) (xP Ql T.n8 (ag 4) (vw (cap:=[0]) (N':=["each","book"]) (by decide +kernel) T.l25 G rfl rfl (AL (by decide +kernel) rfl rfl rfl rfl rfl) rfl (.cons rfl rfl (Or.inl rfl) rfl (pq (by decide +kernel) rfl) (.nil rfl)) rfl g.in1 (λ_ _ _ _=>rfl) λ_ _ _ _ g=>have hu:=Cg g;(a8 (f9 T) g)) g) (ag 2)))))
theorem U0:Fn P w K mg base 10 "counts" mH:=T.d26.fq T.hX ye ["book","known","so_far","number","row","root"] 4 λnd g hu=>
  (ao (aA nd (aK (ag 0) (ag 3)))
   (ao (bL (aG (c9 hu) (a8 (f5 T) g) a7) (a8 (Uz T) g))
   (ao (bL (aG pO (a8 (f5 T) g) (aR (ah a7 (ah a7 (ah a7 am))))) fz)
   (ao (aA nd (E3 (AU hu) (a8 (Pa T) g) (a8 (f6 T) g) ⟨rfl,rfl,rfl,rfl⟩))
   (ao (bL (aG Ci (ag 5) de) fz)
   (ao (bL (aG (c9 hu) (a8 (f5 T) g) a7) fz)
   (aZ (gH (a8 (Pb T) g) (fB (aU (Q0 T) g (aD 2 (aD 5 (ah (a8 (f6 T) g) (ah (a8 (f7 T) g) am))))))))))))))
theorem Sk:Fn P w K mg base 3 "new_claim" gA:=T.d27.fq T.hX o7 ["row","since","number"] 3 λnd g hu=>
  (aZ (aR (ah (a8 (f6 T) g) (ah (a8 (f6 T) g) (aD 1 (ah de (aD 2 am)))))))
theorem Sl:Fn P w K mg base 3 "ended" p8:=T.d28.fq T.hX Bi ["so_far","offices","person","day","left","claim"] 4 λnd g hu=>
  (ao (aA nd (b8 am))
   (ao (xS (bZ (ag 0)) (EG 5 nd) fy (bB (fD (jT (kg (aG pO (bA 5) (ag 1)) (kg (aG (zw hu) (bA 5) (ag 2)) (jy (eZ (jT (kg (cf (a8 (Qy T) g)) (jy (aG zv (bA 5) (ag 3)))))))))) (bB (gI (i:=4) (ag 5))) (bB (fD (aG A5 (bA 5) (ag 3)) (bB (gI (i:=4) (aR (ah (bA 5) (aD 2 (ah (bA 5) (aD 3 (ah (bA 5) am)))))))) fg)))))
   (bB (kR 4))))
theorem U1:Fn P w K mg base 4 "after_choice" ig:=T.d29.fq T.hX k8 ["so_far","row","number","since","left"] 3 λnd g hu=>
  (ao (aA nd (a8 (f6 T) g))
   (ao (aA nd (aU (Sl T) g (aD 0 (ah (b8 (ah (a8 (f6 T) g) am)) (ah (a8 (f6 T) g) (aD 3 am))))))
   (aZ (ax b9 (ag 4) (b8 (ah (a8 (Sk T) g) am))))))
theorem U2:Fn P w K mg base 7 "inherited" k9:=T.d30.fq T.hX o8 ["book","known","so_far","heirs","number","person","day","told","office","heir"] 5 λnd g hu=>
  (ao (aA nd (aU (f6 T) g (ah (aK (ag 0) (ag 4)) (ah a7 am))))
   (ao (aA nd (aU (f7 T) g (ah (aK (ag 0) (ag 4)) am)))
   (ao (aA nd (b8 am))
   (ao (Nt [5,6] (xS (bZ (lL rfl T.n12 T.n11 (eO ["claim","person","day"] (bZ (ag 2)) (dD (jT (jz (aG (c9 hu) (bA 0) (ag 1)) (gP (cf (a8 (Qy T) g)))))) (bA 0)))) (EG 8 nd) fy (ao (aA nd (EB (AU hu) (ag 3) (aD 8 (aD 5 am)) ⟨rfl,rfl,rfl,rfl⟩))
   (bB (fD (jT (jz (aG mr (ag 9) de) (gP (cf (a8 (Sh T) g))))) (bB (gI (i:=7) (aR (aD 8 (aD 9 (aD 6 (ah de (aD 4 am)))))))) fg)))))
   (bB (kR 7))))))
theorem U3:Fn P w K mg base 8 "after_death" iU:=T.d31.fq T.hX ly ["book","known","so_far","heirs","number","offices","left"] 5 λnd g hu=>
  (ao (o3 ["claim"] nd (bZ (ag 2)) gG (bA 0))
   (ao (aA nd (aU (Sl T) g (aD 2 (aD 5 (ah (aU (f6 T) g (ah (aK (ag 0) (ag 4)) (ah a7 am))) (ah (aU (f7 T) g (ah (aK (ag 0) (ag 4)) am)) am))))))
   (aZ (ax b9 (ag 6) (a8 (U2 T) g)))))
theorem Pc:Fn P w K mg base 11 "claims" jp:=T.d32.fq T.hX yf ["book","known","so_far","heirs","number","row"] 2 λnd g hu=>
  (ao (aA nd (b8 am))
   (ao (Hy (i:=3) nd)
   (ao (xS (bZ (a8 (f10 T) g)) (EG 4 nd) fy (ao (aA nd (aK (ag 0) (ag 4)))
   (ao (fD (eZ (cf (a8 (U0 T) g))) (bB Hf) fg)
   (bB (fD (aG (c9 hu) (a8 (f5 T) g) a7) (bB (aA nd (ax b9 (ag 2) (b8 (ah (aU (Sk T) g (aD 5 (ah (a8 (f7 T) g) (aD 4 am)))) am))))) (bB (fD (aG (c9 hu) (a8 (f5 T) g) a7) (bB (aA nd (a8 (U1 T) g))) (bB (fD (aG (c9 hu) (a8 (f5 T) g) a7) (bB (HA (i:=3) (AU hu) (a8 (f6 T) g) (ah (a8 (f6 T) g) (ah (a8 (f6 T) g) am)))) (bB (aA nd (a8 (U3 T) g))))))))))))
   (aZ (Ev Et T.n12 (ag 2) (AN (f11 T) (g.in1.in1.mono (by decide)) rfl))))))
theorem Sm:Fn P w K mg base 2 "is_paper" fm:=T.d33.fq T.hX qM ["book","known","number"] 3 λnd g hu=>
  (aZ (gH (a8 (Qw T) g) (fB (cx ot (aU (f5 T) g (ah (aK (ag 0) (ag 2)) am)) (xg T.k0)))))
theorem Sn:Fn P w K mg base 2 "is_leave" ge:=T.d34.fq T.hX qN ["book","known","number"] 3 λnd g hu=>
  (aZ (gH (a8 (Qw T) g) (fB (cx (c9 hu) (aU (f5 T) g (ah (aK (ag 0) (ag 2)) am)) a7))))
theorem Q1:Fn P w K mg base 3 "is_borne" eB:=T.d35.fq T.hX qO ["book","known","number"] 3 λnd g hu=>
  (aZ (DI (a8 (Sn T) g) (fB (a8 (Sm T) g))))
theorem So:Fn P w K mg base 1 "covers" ii:=T.d36.fq T.hX qP ["matters","some"] 2 λnd g hu=>
  (aZ (cx (c9 hu) (ax Nb (ag 0) (ag 1)) (ag 1)))
theorem Sq:Fn P w K mg base 3 "reach_bar" iK:=T.d37.fq T.hX o9 ["row","above"] 2 λnd g hu=>
  (ao (bL (eZ (cf (aU (So T) g (ah (a8 (f6 T) g) (ah (a8 (f6 T) g) am))))) a7)
   (ao (bL (jT (jz (aG (c9 hu) (a8 (f5 T) g) a7) (gP (aG PZ (a8 (f6 T) g) (a8 (f6 T) g))))) a7)
   (aZ de)))
theorem Sr:Fn P w K mg base 8 "office_bar" fK:=T.d38.fq T.hX mI ["claimed","row","root"] 3 λnd g hu=>
  (ao (bL (eZ (cf (aU (Q0 T) g (aD 0 (aD 2 (ah (a8 (f6 T) g) (ah (a8 (f7 T) g) am))))))) a7)
   (aZ (a8 (Sq T) g)))
theorem U4:Fn P w K mg base 9 "office_bases" ij:=T.d39.fq T.hX kB ["book","known","claimed","number","row","bearing"] 4 λnd g hu=>
  (ao (aA nd (aK (ag 0) (ag 3)))
   (ao (o3 ["root","claimed","row"] nd (AW (a8 (Pa T) g)) (dD (aG Ci (a8 (Sr T) g) de)) (ag 0))
   (aZ (eO ["root","claimed","row"] (bZ (ag 5)) gG (aR (ah a7 (ah (a8 (f6 T) g) (ah (aK (aU (Sj T) g (aD 1 (aD 0 (ah (a8 (f7 T) g) am)))) av) am))))))))
theorem U5:Fn P w K mg base 1 "ends_within" iV:=T.d40.fq T.hX lz ["stop","bound"] 2 λnd g hu=>
  (ao (bL (aG Ci (ag 1) de) fz)
   (aZ (gH (cx mr (ag 0) de) (fB (cx oq (ag 0) (ag 1))))))
theorem U6:Fn P w K mg base 2 "is_within" iL:=T.d41.fq T.hX oA ["one","other"] 2 λnd g hu=>
  (aZ (gH (cx oq (bA 1) (bA 0)) (fB (aU (U5 T) g (ah (bA 0) (ah (bA 1) am))))))
theorem Ss:Fn P w K mg base 5 "is_ahead" gf:=T.d42.fq T.hX qQ ["book","one","other"] 3 λnd g hu=>
  (aZ (cx (N7 hu) (a8 (f9 T) g) (a8 (f9 T) g)))
theorem Su:Fn P w K mg base 6 "leave_bar" gB:=T.d43.fq T.hX oB ["book","number","leave","row","stretch"] 3 λnd g hu=>
  (ao (aA nd (aK (ag 0) (ag 1)))
   (ao (aA nd (aU (f6 T) g (ah (aK (ag 0) (ag 2)) (ah a7 am))))
   (ao (bL (eZ (cf (a8 (Ss T) g))) a7)
   (ao (bL (jT (kg (eZ (cf (aU (Si T) g (ah (a8 (f7 T) g) (aD 4 am))))) (jy (eZ (cf (aU (U6 T) g (ah (a8 (f6 T) g) (aD 4 am)))))))) a7)
   (aZ (aU (Sq T) g (aD 3 (ah (aK (ag 0) (ag 2)) am))))))))
theorem Sv:Fn P w K mg base 3 "leaves_to" iM:=T.d44.fq T.hX oC ["book","known","person","leaves"] 3 λnd g hu=>
  (ao (o3 ["number","book","known"] nd (bZ (a8 (f8 T) g)) (dD (cf (a8 (Sn T) g))) (ag 0))
   (aZ (eO ["number","person","book"] (bZ (ag 3)) (dD (aG (c9 hu) (aU (f6 T) g (ah (aK (ag 2) (ag 0)) (ah a7 am))) (ag 1))) (ag 0))))
theorem U7:Fn P w K mg base 7 "leave_bases" iW:=T.d45.fq T.hX l5 ["book","known","number","leaves"] 3 λnd g hu=>
  (ao (aA nd (aU (Sv T) g (aD 0 (aD 1 (ah (aU (f6 T) g (ah (aK (ag 0) (ag 2)) (ah a7 am))) am)))))
   (aZ (eO ["leave","book","number"] (bZ (ag 3)) (dD (aG Ci (a8 (Su T) g) de)) (aR (ah a7 (aD 0 am))))))
theorem U8:Fn P w K mg base 6 "copy_bases" jA:=T.d46.fq T.hX mJ ["book","known","number","of"] 3 λnd g hu=>
  (ao (aA nd (aU (f6 T) g (ah (aK (ag 0) (ag 2)) (ah a7 am))))
   (ao (bL (jT (jz (cf (a8 (Sm T) g)) (gP (cf (a8 (Ss T) g))))) (b8 (ah (aR (ah a7 (aD 3 am))) am)))
   (aZ (b8 am))))
theorem Sw:Fn P w K mg base 10 "bases_by" eC:=T.d47.fqL T.hX qR ["book","known","claimed","number","found"] 4 λnd g hu G=>
  (ao (bL (eZ (cf (a8 (Q1 T) g))) (b8 am))
   (ao (bL (aG (c9 hu) (aU (f5 T) g (ah (aK (ag 0) (ag 3)) am)) a7) (a8 (U8 T) g))
   (ao (aA nd (ax b9 (a8 (U4 T) g) (a8 (U7 T) g)))
   (aZ (Ev (EF hu) T.n12 (ag 4) (vw (cap:=[]) (N':=["base"]) (by decide +kernel) T.l47 G rfl rfl (AL (by decide +kernel) rfl rfl rfl rfl rfl) rfl (.nil rfl) rfl g.in1.in1 (λ_ _ _ _=>rfl) λ_ _ _ _ g=>have hu:=Cg g;(aR (ah (aK (ag 0) (wT xi av)) (aD 0 am)))))))))
theorem Sx:Fn P w K mg base 12 "bases" gt:=T.d48.fq T.hX Bj ["book","known","number"] 3 λnd g hu=>
  (aZ (aU (Sw T) g (aD 0 (aD 1 (ah (a8 (Pc T) g) (aD 2 am))))))
theorem U9:Fn P w K mg base 8 "may_call" lS:=T.d49.fq T.hX qS ["book","known","claimed","call","number","row","caller","over"] 5 λnd g hu=>
  (ao (aA nd (aK (ag 0) (ag 4)))
   (ao (aA nd (aU (f6 T) g (ah (aK (ag 0) (ag 3)) (ah a7 am))))
   (ao (bL (aG (c9 hu) (ag 6) (a8 (f6 T) g)) fz)
   (ao (bL (aG (c9 hu) (a8 (f5 T) g) a7) fz)
   (ao (o3 ["root","row"] nd (AW (a8 (Pa T) g)) (dD (cf (aU (So T) g (ah (a8 (f6 T) g) (ah (a8 (f6 T) g) am))))) (ag 0))
   (aZ (bD Ji T.n1 Jj (ah (eO ["root","claimed","caller","book","call"] (bZ (ag 7)) gG (aU (Q0 T) g (aD 1 (aD 0 (aD 2 (ah (aU (f7 T) g (ah (aK (ag 3) (ag 4)) am)) am)))))) am))))))))
theorem UA:Fn P w K mg base 10 "calls_in" jB:=T.d50.fq T.hX qT ["book","known","claimed","call","number","day","row"] 6 λnd g hu=>
  (ao (aA nd (aK (ag 0) (ag 3)))
   (ao (bL (jT (kg (aG (zw hu) (a8 (f5 T) g) a7) (kg (aG (zw hu) (a8 (f6 T) g) (ag 4)) (jy (aG zv (a8 (f7 T) g) (ag 5)))))) fz)
   (aZ (gH (a8 (Pb T) g) (fB (a8 (U9 T) g))))))
theorem Sy:Fn P w K mg base 11 "calls_by" jC:=T.d51.fq T.hX qU ["book","known","claimed","number","day"] 5 λnd g hu=>
  (ao (bL (eZ (cf (a8 (Q1 T) g))) (b8 am))
   (aZ (eO ["call","book","known","claimed","number","day"] (bZ (a8 (f8 T) g)) (dD (cf (a8 (UA T) g))) (ag 0))))
theorem UB:Fn P w K mg base 12 "is_fit" mK:=T.d52.fq T.hX yg ["book","known","claimed","number","day"] 5 λnd g hu=>
  (ao (bL (jT (kg (eZ (cf (a8 (Pb T) g))) (jy (aG zv (aU (f7 T) g (ah (aK (ag 0) (ag 3)) am)) (ag 4))))) fz)
   (aZ (cx (c9 hu) (bD fR T.n5 fT (ah (a8 (Sy T) g) am)) av)))
theorem Q2:Fn P w K mg base 13 "links" jD:=T.d53.fq T.hX Bk ["book","known","day","claimed","found","number"] 3 λnd g hu=>
  (ao (GS (i:=3) nd (a8 (Pc T) g))
   (ao (AT (i:=4) nd)
   (ao (xS (bZ (a8 (f10 T) g)) (EG 5 nd) fy (bB (fD (jT (jz (cf (a8 (Q1 T) g)) (gP (cf (a8 (UB T) g))))) (bB (EK (i:=4) (AU hu) (a8 (Sw T) g) (ag 5))) fg)))
   (bB (kR 4)))))
theorem Sz:Fn P w K mg base 1 "bears" jE:=T.d54.fq T.hX Bl ["base","among"] 2 λnd g hu=>
  (aZ (DI (cx (c9 hu) (bA 0) a7) (fB (EL (AU hu) (bA 0) (ag 1)))))
theorem S1:Fn P w K mg base 2 "stood" jF:=T.d55.fq T.hX Bm ["found","stands","number","resting"] 1 λnd g hu=>
  (ao (AT (i:=1) nd)
   (ao (xS (EJ (ag 0)) (zb rfl (jc (EG 2 nd) (jc (EG 3 nd) ur))) Np (bB (fD (cf (bD Ji T.n1 Jj (ah (eO ["base","stands"] (bZ (ag 3)) gG (a8 (Sz T) g)) am))) (bB (Hz (i:=1) (AU hu) fz (ag 2))) fg)))
   (bB (kR 1))))
theorem S2:Fn P w K mg base 2 "first_bearer" di:=T.d56.fq T.hX kE ["resting","stands"] 2 λnd g hu=>
  (aZ (aK (eO ["base","stands"] (bZ (ag 0)) (dD (cf (a8 (Sz T) g))) (ag 0)) av))
theorem S3:Fn P w K mg base 14 "chain" lb:=T.d57.fq T.hX Bn ["book","known","day","number","found","stands","told","bearer"] 4 λnd g hu=>
  (ao (aA nd (a8 (Q2 T) g))
   (ao (aA nd (a8 (S1 T) g))
   (ao (bL (C0 (AU hu) (ag 3) (ag 5)) de)
   (ao (aA nd (b8 (aD 3 am)))
   (ao (aA nd (aU (S2 T) g (ah (qm (AU hu) (ag 4) (ag 3) (by intro _ _;rfl)) (aD 5 am))))
   (ao (DM 1000 PassesOwn.never (aG (zw hu) (bA 7) a7) (ao (gI (i:=6) (bA 7))
   (bB (aA nd (aU (S2 T) g (ah (qm (AU hu) (ag 4) (bA 7) (by intro _ _;rfl)) (aD 5 am)))))))
   (ao (gI (i:=6) (bA 7))
   (aZ (zS rfl T.n6 T.n10 (ag 6))))))))))
theorem UC:Fn P w K mg base 1 "is_begun" jG:=T.d58.fq T.hX qV ["resting","first"] 2 λnd g hu=>
  (aZ (cx ot (ag 1) (eO ["base"] (bZ (ag 0)) (dD (aG (c9 hu) (bA 0) a7)) (bA 0))))
theorem UD:Fn P w K mg base 1 "is_linked" iN:=T.d59.fq T.hX oD ["resting","ahead"] 2 λnd g hu=>
  (aZ (cx ot (ag 1) (eO ["base"] (bZ (ag 0)) (dD (aG (zw hu) (bA 0) a7)) (bA 0))))
theorem UE:Fn P w K mg base 14 "is_chain" jH:=T.d60.fq T.hX qW ["book","known","day","numbers","found"] 4 λnd g hu=>
  (ao (aA nd (a8 (Q2 T) g))
   (ao (bL (jT (kg (aG A5 (bD fR T.n5 fT (aD 3 am)) av) (jy (eZ (cf (bD Jh T.n0 Jf (ah (eO ["number","found"] (bZ (mu (ag 3) (px av) pw)) gG (EL (AU hu) (ag 0) (ag 1))) am))))))) fz)
   (ao (bL (eZ (cf (aU (UC T) g (ah (qm (AU hu) (ag 4) (bA 3) (by intro _ _;rfl)) (ah (bA 3) am))))) fz)
   (aZ (bD Jh T.n0 Jf (ah (eO ["ahead","number","found"] (HI T.n14 (mu (ag 3) (px av) pw) (mu (ag 3) (px av) pw)) gG (aU (UD T) g (ah (qm (AU hu) (ag 2) (ag 1) (by intro _ _;rfl)) (aD 0 am)))) am))))))
theorem UF:Fn P w K mg base 12 "calls" wb:=T.d61.fq T.hX Bo ["book","known","number","day"] 4 λnd g hu=>
  (aZ (aU (Sy T) g (aD 0 (aD 1 (ah (a8 (Pc T) g) (aD 2 (aD 3 am)))))))
theorem UG:Fn P w K mg base 12 "office_faults" eX:=T.d62.fq T.hX jQ ["book","known","number","row","claimed","by_name","offices"] 3 λnd g hu=>
  (ao (aA nd (aK (ag 0) (ag 2)))
   (ao (aA nd (a8 (Pc T) g))
   (ao (aA nd (a8 (Pa T) g))
   (ao (aA nd (lL rfl T.n12 T.n11 (eO ["claim","row"] (bZ (ag 4)) (dD (aG (c9 hu) (bA 0) (a8 (f6 T) g))) (bA 0))))
   (aZ (eO ["office","claimed","row","by_name"] (bZ (ag 6)) gG (aR (ah a7 (aD 0 (ah (aU (Sr T) g (aD 1 (aD 2 (ah (qm (AU hu) (ag 3) (ag 0) (by intro _ _;rfl)) am)))) am))))))))))
theorem UH:Fn P w K mg base 7 "leave_fault" l8:=T.d63.fq T.hX l7 ["book","number","leave","bar"] 3 λnd g hu=>
  (ao (aA nd (a8 (Su T) g))
   (aZ (aR (ah a7 (aD 2 (ah (Jc (aG Ci (ag 3) de) a7 (ag 3)) am))))))
theorem UI:Fn P w K mg base 8 "leave_faults" fL:=T.d64.fq T.hX kG ["book","known","number","leaves"] 3 λnd g hu=>
  (ao (aA nd (aU (Sv T) g (aD 0 (aD 1 (ah (aU (f6 T) g (ah (aK (ag 0) (ag 2)) (ah a7 am))) am)))))
   (aZ (eO ["leave","book","number"] (bZ (ag 3)) gG (a8 (UH T) g))))
theorem UJ:Fn P w K mg base 13 "copy_fault" jI:=T.d65.fq T.hX mL ["book","known","number","word"] 3 λnd g hu=>
  (ao (aA nd (Jc (aG (c9 hu) (bD fR T.n5 fT (ah (a8 (Sx T) g) am)) av) a7 a7))
   (aZ (aR (ah a7 (ah (aU (f6 T) g (ah (aK (ag 0) (ag 2)) (ah a7 am))) (aD 3 am))))))
theorem UK:Fn P w K mg base 14 "base_faults" iX:=T.d66.fq T.hX lA ["book","known","number","told"] 3 λnd g hu=>
  (ao (bL (aG (c9 hu) (aU (f5 T) g (ah (aK (ag 0) (ag 2)) am)) a7) (b8 (ah (a8 (UJ T) g) am)))
   (ao (aA nd (ax b9 (a8 (UG T) g) (a8 (UI T) g)))
   (ao (bL (aG (c9 hu) (bD fR T.n5 fT (aD 3 am)) av) (b8 (ah (aR (ah a7 am)) am)))
   (bB (kR 3)))))
theorem S4:Fn P w K mg base 15 "faults" im:=T.d67.fq T.hX yj ["book","known","day","number","called"] 4 λnd g hu=>
  (ao (bL (Lf (AU hu) (ag 3) (aU (S1 T) g (ah (a8 (Q2 T) g) am))) (b8 am))
   (ao (bL (aG zv (aU (f7 T) g (ah (aK (ag 0) (ag 3)) am)) (ag 2)) (b8 (ah (aR (ah a7 am)) am)))
   (ao (bL (eZ (cf (a8 (Pb T) g))) (b8 (ah (aR (ah a7 am)) am)))
   (ao (aA nd (a8 (UF T) g))
   (ao (bL (aG zv (bD fR T.n5 fT (aD 4 am)) av) (b8 (ah (aR (ah a7 (ah (bA 4) am))) am)))
   (aZ (a8 (UK T) g)))))))
theorem S5:Fn P w K mg base 1 "_law_falls" cJ:=T.d68.fq T.hX tT ["_law_some"] 1 λnd g hu=>
  (aZ (eO ["_law_one"] (bZ (ag 0)) (dD (aG (c9 hu) (aK (ag 0) (wT xi av)) a7)) (bA 0)))
theorem UL:Fn P w K mg base 16 "_law_down" mM:=T.d69.fq T.hX yk ["_law_rows_here","_law_known","_law_day","_law_number","_law_at","_law_turn","_law_falls_here","_law_lower"] 4 λnd g hu=>
  (ao (aA nd (ag 3))
   (ao (xT (jg T.n9 (bD fR T.n5 fT (aD 0 am))) (EG 5 nd) fy (ao (aA nd (aU (S5 T) g (ah (a8 (S4 T) g) am)))
   (ao (bL (aG (c9 hu) (ag 6) (b8 am)) fz)
   (ao (aA nd (aK (ag 6) (wT xi av)))
   (ao (bL (jT (kg (aG (NI hu) (aR (ah (aK (aK (aK (ag 0) (ag 7)) av) av) (aD 7 am))) (aR (ah (aK (aK (aK (ag 0) (ag 4)) av) av) (aD 4 am)))) (jy (aG mr (a8 (S3 T) g) de)))) fz)
   (bB (aA nd (ag 7))))))))
   (aZ fz)))
theorem UM:Fn P w K mg base 17 "_law_asked" lf:=T.d70.fq T.hX tU ["_law_rows_here","_law_known","_law_day","_law_number","_law_told","_law_some"] 4 λnd g hu=>
  (ao (aA nd (a8 (S3 T) g))
   (ao (aA nd (a8 (S4 T) g))
   (ao (bL (aG mr (ag 4) de) (gH (cx (c9 hu) (ag 5) (b8 am)) (fB (a8 (UE T) g))))
   (ao (bL (jT (jz (aG (zw hu) (ag 5) (b8 am)) (gP (aG ot (aK (bA 5) av) (aR (ah a7 (ah a7 (ah a7 am)))))))) (cx (c9 hu) (bD fR T.n5 fT (aD 5 am)) av))
   (ao (bL (aG (zw hu) (a8 (S5 T) g) (eO ["_law_base"] (bZ (a8 (Sx T) g)) gG (aK (ag 0) (wT xi av)))) fz)
   (aZ (a8 (UL T) g)))))))
theorem head {fa:Addr}(M:mg "law" = some (.ref fa)):∃fd:FuncData,(∀(s:Shared)(u:Value),BindsTo s fd ⟨[u],[]⟩ [("_law_script",u)])/\∀base:Heap,K.In base->base.Ns mainGlobals mg->sj P w K mg base yT 18 fa fd ["_law_script"] (GV K F_law):=by
 have S:FnScope ["_law_script","_law_names_here","_law_measure","_law_rows_here","_law_known","_law_day","_law_number"] ["_law_script"] (aW (dO 82)):=by refine⟨rfl,rfl,rfl,?_,rfl,?_,?_⟩<;>decide +kernel
 have ⟨h,X,G⟩:=T.hX;exact cX.law T.d71 X G M S (λ_ _ _ _ _ _ u=>rfl) λbase O U f eQ A outer s H E g=>have hu:=Cg g;have nd:=S.nd;(show uE _ _ Jr from
  (ao (aA nd (aU (f1 T) g (ah (aU (f0 T) g (aD 0 (cj am))) am)))
   (ao (aA nd (aK (b8 (cj (cj (cj am)))) (ax bN (aU (f0 T) g (aD 0 (cj am))) av)))
   (ao (aA nd (aU (f4 T) g (aD 0 (aD 1 (aD 2 (cj am))))))
   (ao (aA nd (aK (b8 (cj (ah (ax df (ax bN (ax bV (aU (f0 T) g (aD 0 (cj am))) av) av) (ag 2)) am))) (ax bV (ax bN (aU (f0 T) g (aD 0 (cj am))) av) av)))
   (ao (aA nd (aK (b8 (cj (ah (ax df (ax bN (ax bV (aU (f0 T) g (aD 0 (cj am))) av) av) (ag 2)) am))) (ax bN (aU (f0 T) g (aD 0 (cj am))) av)))
   (ao (xT (jg T.n9 (bD fR T.n5 fT (aD 3 am))) (EG 6 nd) fy (bB (fD (jT (jz (aG oq (aK (aK (ag 3) (ag 6)) av) (ag 4)) (gP (aG ot (aK (aK (aK (ag 3) (ag 6)) av) av) (aR (ah a7 (ah a7 (ah a7 (ah a7 am))))))))) (bB (bL (eZ (cf (a8 (UM T) g))) fz)) fg)))
   (aZ fz))))))))
end
end Lw
end
namespace PySem.W.Fast
def tw13758082881612115215:=()
def tw16015810817849279306:=()
def tw12445029420611795796:=()
def tw2036888566040486031:=()
def tw16816912190355889825:=()
def tw13612796285840591234:=()
def tw14293168933491532271:=()
def tw12432757765931059340:=()
def tw5067417242746951328:=()
def tw12805170676053090525:=()
def tw11771276329048496422:=()
def tw17642002431985682938:=()
def tw965316397407999655:=()
def tw4011098183540788457:=()
def tw9346483895218567146:=()
def tw11391497743884186150:=()
def tw12039911891545736789:=()
def tw3787057238549217515:=()
def tw12400390053803736189:=()
def tw14161012057061428622:=()
def tw7564515483720212810:=()
def tw1220439888562459027:=()
def tw13525539841459005425:=()
def tw11808815222150099146:=()
def tw867160390551392819:=()
def tw3532721051442133505:=()
def tw18300561911741512016:=()
def tw17424235477087666931:=()
def tw5501212156509142665:=()
def tw14075946725232498886:=()
def tw46126891136309727:=()
def tw9652041455545895550:=()
def tw10364894015328583798:=()
def tw10572290091178431728:=()
def tw12360868792648603513:=()
def tw18020137175628938793:=()
def tw16061082810869732973:=()
def tw2740807192426513545:=()
def tw238403419560060013:=()
def tw210096211698321016:=()
def tw6880934101152792814:=()
def tw10477009203376505614:=()
def tw6759842820263233112:=()
def tw14150176570790918250:=()
def tw9967000480011109341:=()
def tw10440901442524999175:=()
def tw12934349304345585155:=()
def tw8286376104071556987:=()
def tw2287578421720972235:=()
def tw10535134559395492524:=()
def tw12023385326085300895:=()
def tw11357462604498530555:=()
def tw16322950651067252142:=()
def tw4906313974430068774:=()
def tw7422290974116701963:=()
def tw10152606331610814456:=()
def tw10236311548948640306:=()
def tw3176426189632309607:=()
def tw10423994700296691281:=()
def tw6998474119214615974:=()
def tw1405279716354834022:=()
def tw10804312187923584537:=()
def tw6932374483049982812:=()
def tw17684828088731461968:=()
def tw4275516046357707813:=()
def tw1304712337020771711:=()
def tw5864834900367201760:=()
def tw10921767365351175598:=()
def tw942742817948662744:=()
def tw14043452824602079490:=()
def tw8637185442001704734:=()
def tw9079502267551403923:=()
def tw5114210120021138629:=()
def tw1247724628305709794:=()
def tw18028836157900041081:=()
def tw206366165438523662:=()
def tw641158705806928886:=()
def tw15417100305827107199:=()
def tw1744417868811264655:=()
def tw10073726486023076873:=()
def tw2304234496839578146:=()
def tw2859707349228900986:=()
def tw10556157544011960766:=()
def tw6563169740435104594:=()
def tw16605219753136591056:=()
def tw1221238192619108518:=()
def tw13295307408751363421:=()
def tw14046633562768657170:=()
def tw16903931239334410847:=()
def tw10412278770567665020:=()
def tw10954946209436361064:=()
def tw11117457769718479738:=()
def tw5945405153134099944:=()
def tw3273803684181783428:=()
def tw3592110307119049915:=()
def tw10818356600062871040:=()
def tw2962643225808212851:=()
def tw6337220114284884628:=()
def tw17467994399149457396:=()
def tw7838322321373710314:=()
def tw9071109192868621095:=()
def tw1791945627125967961:=()
def tw1061313153587339118:=()
def tw12633583080144486078:=()
def tw9398077724815069366:=()
def tw7610248584529956826:=()
def tw3833764622214565636:=()
def tw18212028096195536082:=()
def tw12086459457555300045:=()
def tw5176525814872424988:=()
def tw3997357868749459519:=()
def tw18319418412807058656:=()
def tw14790929790311425956:=()
def tw14572635125368858628:=()
def tw1479818290153056164:=()
def tw16700953258502088260:=()
def tw9389589013014375405:=()
def tw8569479307314391700:=()
def tw1029298123907914808:=()
def tw5880291347602698807:=()
def tw55176968641293119:=()
def tw784358918627765624:=()
def tw411857464214363626:=()
def tw5352645251507480039:=()
def tw4298193487962505616:=()
def tw16205507338183130243:=()
def tw4893458408212595881:=()
def tw5582122605498277864:=()
def tw11506742254100371964:=()
def tw7956067924954850718:=()
def tw8752552955099196787:=()
def tw11313061453607947437:=()
def tw14361016249822063883:=()
def tw6040734561873629749:=()
def tw12621504730373795044:=()
def tw2820936955463926599:=()
def tw7090477713419764383:=()
def tw5936984301551500441:=()
def tw8172893305828320601:=()
def tw14058557914285431438:=()
def tw10615812507558426168:=()
def tw11808538515696074:=()
def tw4381842267623138920:=()
def tw5797609967662289138:=()
def tw17253208813298621645:=()
def tw15097663076199230394:=()
def tw3232326989927659638:=()
def tw17671934314982856473:=()
def tw8160028585360911759:=()
def tw11086188168225740567:=()
def tw16313186828227404441:=()
end PySem.W.Fast
open PySem PySem.W PyProof.Rows
set_option maxRecDepth 100000 in
set_option maxHeartbeats 0 in
theorem PySem.Challenge.cw_sealchain_k37_whole_faults_and_bases_holds : PySem.Challenge.rw_sealchain_k37_whole_faults_and_bases.Holds := by
 w_on; o_law; k_head; (case hw => w_witness2)
 k_fill
 refine' DL.walkD (l := PySem.Challenge.rw_sealchain_k37_whole_faults_and_bases) (k := 18) (x := ("_law_script" : PySem.Str)) (f := Lw.F_law) (L := [(("in_order" : PySem.Str), ?t0), (("has_seal" : PySem.Str), ?t1), (("is_first_death" : PySem.Str), ?t2), (("bases_by" : PySem.Str), ?t3)]) rfl rfl ⟨rfl, by decide, by decide⟩ (fun w h Y => PySem.W.km_in_of Y) ?T ?D ?F Lw.law_true
 case T =>
  intro w
  refine' DL.tabs_fit ?h0 ?h1 ?h2 ?h3 ?ap ?nt
  iterate 4 (refine' DL.tab_yes ?a ?l ?c ?m ?v; (case a => k_is); (case l => k_is); (case c => exact rfl); (case m => k_is); (case v => exact rfl))
  (case ap => decide)
  (case nt => kernel_rfl)
 case D => kernel_rfl
 case F =>
  intro w mg fa h KX G hmg
  refine' Lw.head ⟨⟨h, KX, G⟩, ?d0, ?d1, ?d2, ?d3, ?d4, ?d5, ?d6, ?d7, ?d8, ?d9, ?d10, ?d11, ?d12, ?d13, ?d14, ?d15, ?d16, ?d17, ?d18, ?d19, ?d20, ?d21, ?d22, ?d23, ?d24, ?d25, ?d26, ?d27, ?d28, ?d29, ?d30, ?d31, ?d32, ?d33, ?d34, ?d35, ?d36, ?d37, ?d38, ?d39, ?d40, ?d41, ?d42, ?d43, ?d44, ?d45, ?d46, ?d47, ?d48, ?d49, ?d50, ?d51, ?d52, ?d53, ?d54, ?d55, ?d56, ?d57, ?d58, ?d59, ?d60, ?d61, ?d62, ?d63, ?d64, ?d65, ?d66, ?d67, ?d68, ?d69, ?d70, ?d71, PySem.W.mg_none_of KX G ?z0, PySem.W.mg_none_of KX G ?z1, PySem.W.mg_none_of KX G ?z2, PySem.W.mg_none_of KX G ?z3, PySem.W.mg_none_of KX G ?z4, PySem.W.mg_none_of KX G ?z5, PySem.W.mg_none_of KX G ?z6, PySem.W.mg_none_of KX G ?z7, PySem.W.mg_none_of KX G ?z8, PySem.W.mg_none_of KX G ?z9, PySem.W.mg_none_of KX G ?z10, PySem.W.mg_none_of KX G ?z11, PySem.W.mg_none_of KX G ?z12, PySem.W.mg_none_of KX G ?z13, PySem.W.mg_none_of KX G ?z14, DL.kc_of KX G ?k0, DL.kd_of KX G ?k1, DL.kc_of KX G ?k2, ?q0, ?q1, ?q2, ?q3⟩ hmg
  iterate 72 (refine' DL.def_mk ?a ?l ?c ?k; (case a => k_is); (case l => k_is); (case c => k_is); (case k => k_is))
  (case z0 => k_is)
  (case z1 => k_is)
  (case z2 => k_is)
  (case z3 => k_is)
  (case z4 => k_is)
  (case z5 => k_is)
  (case z6 => k_is)
  (case z7 => k_is)
  (case z8 => k_is)
  (case z9 => k_is)
  (case z10 => k_is)
  (case z11 => k_is)
  (case z12 => k_is)
  (case z13 => k_is)
  (case z14 => k_is)
  (case k0 => refine' DL.const_tup ?e ?l ?v; (case e => k_is); (case l => k_is); (case v => decide +kernel))
  (case k1 => refine' DL.const_dict ?e ?l ?r ?s; (case e => k_is); (case l => k_is); (case r => refine' (DL.CRows.tup rfl ?l0 ?f0 (DL.CRows.tup rfl ?l1 ?f1 (DL.CRows.tup rfl ?l2 ?f2 (DL.CRows.tup rfl ?l3 ?f3 (DL.CRows.tup rfl ?l4 ?f4 (DL.CRows.tup rfl ?l5 ?f5 (DL.CRows.tup rfl ?l6 ?f6 (DL.CRows.tup rfl ?l7 ?f7 (DL.CRows.tup rfl ?l8 ?f8 (DL.CRows.tup rfl ?l9 ?f9 (DL.CRows.tup rfl ?l10 ?f10 (DL.CRows.tup rfl ?l11 ?f11 DL.CRows.nil)))))))))))); (case l0 => k_is); (case f0 => decide +kernel); (case l1 => k_is); (case f1 => decide +kernel); (case l2 => k_is); (case f2 => decide +kernel); (case l3 => k_is); (case f3 => decide +kernel); (case l4 => k_is); (case f4 => decide +kernel); (case l5 => k_is); (case f5 => decide +kernel); (case l6 => k_is); (case f6 => decide +kernel); (case l7 => k_is); (case f7 => decide +kernel); (case l8 => k_is); (case f8 => decide +kernel); (case l9 => k_is); (case f9 => decide +kernel); (case l10 => k_is); (case f10 => decide +kernel); (case l11 => k_is); (case f11 => decide +kernel)); (case s => decide +kernel))
  (case k2 => refine' DL.const_tup ?e ?l ?v; (case e => k_is); (case l => k_is); (case v => decide +kernel))
  iterate 4 (refine' DL.lam_mk ?a ?l ?c ?m ?v1 ?v2 ?v3 ?v4 ?v5 ?v6 ?v7; (case a => k_is); (case l => k_is); (case c => exact rfl); (case m => k_is); (case v1 => exact rfl); (case v2 => exact rfl); (case v3 => exact rfl); (case v4 => exact rfl); (case v5 => exact rfl); (case v6 => exact rfl); (case v7 => decide))

