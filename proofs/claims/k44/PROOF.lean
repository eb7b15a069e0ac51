import PyProof.Rows.All
import Wide.All
import OpenK.AllK
import Wide.FinOn
import Lean
import PyProof.EqAt
import PyProof.EqKinds
import PyProof.TupleCall
import PyProof.AttrMissHeap
import PySem.Challenge.RW_sealchain_k44_moments
set_option Elab.async false
set_option linter.all false
set_option maxRecDepth 100000
set_option bootstrap.genMatcherCode false
set_option compiler.extract_closed false
set_option maxHeartbeats 40000000
theorem mY {α:Type _}{a:α}(l:List α){k:List α}(h:a∈k):a∈l++k:=List.mem_append_right l h
theorem mZ {α:Type _}(b:α){a:α}{l:List α}(h:a∈l):a∈b::l:=List.mem_cons_of_mem b h
theorem mX {α:Type _}{a:α}{l:List α}:a∈a::l:=List.mem_cons_self
theorem oX {α β:Type _}{o:Option α}{f:α->Option β}{b:β}(h:o.bind f=some b):∃a,o=some a/\f a=some b:=Option.bind_eq_some_iff.mp h
theorem oY {α β:Type _}{f:α->β}{o:Option α}{b:β}(h:o.map f=some b):∃a,o=some a/\f a=b:=Option.map_eq_some_iff.mp h
def wX:=@PySem.wpAny_bind
def wY:=@PySem.wpAny_pure
def vZ:=@PySem.Heap.get?_push_of_some
def vY:=@PySem.Heap.get?_push_size
def vX:=@PySem.Heap.lt_size
def vW:=@PySem.Heap.SameBut.update
theorem vV {α:Type _}{l:List α}{i:Nat}{a:α}(h:l[i]? = some a):∃h:i<l.length,l[i]=a:=List.getElem?_eq_some_iff.mp h
theorem vU {α:Type _}{l:List α}{i:Nat}(h:i<l.length):l[i]? = some l[i]:=List.getElem?_eq_getElem h
theorem vT (n:Nat):n<=n:=Nat.le_refl n
theorem vS {a b:Nat}(h:a<b):a≠b:=Nat.ne_of_lt h
theorem vR {n m k:Nat}:n<=m->m<=k->n<=k:=Nat.le_trans
theorem vQ {n m k:Nat}:n<m->m<=k->n<k:=Nat.lt_of_lt_of_le
theorem vP {α:Type _}{a b:α}{l:List α}(h:b∈a::l):b=a∨b∈l:=List.mem_cons.mp h
theorem vK {α:Type _}{a b:α}(h:some a=some b):a=b:=Option.some.inj h
theorem vJ {α β:Type _}(a:α)(f:α->Option β):(some a).bind f=f a:=rfl
theorem vH {α β:Type _}{as:List α}(f:α->β):(as.map f).length=as.length:=List.length_map f
theorem vG {α:Type _}{l:List α}:l.toArray.size=l.length:=rfl
theorem vF {α:Type _}{xs:Array α}:xs.toList.length=xs.size:=rfl
theorem vD {α:Type _}{a:α}{as:List α}:(a::as).length=as.length+1:=rfl
theorem vC (a b:Bool):((a && b)=true)=(a=true/\b=true):=Bool.and_eq_true a b
theorem vB {α:Type _}{i j:Nat}{a:α}{l:List α}(h:i≠j):(l.set i a)[j]? = l[j]?:=List.getElem?_set_ne h
theorem vA {α β:Type _}{f:α->β}{l:List α}{i:Nat}:(l.map f)[i]? = Option.map f l[i]?:=List.getElem?_map
theorem uZ {α:Type _}{as bs:List α}:(as++bs).length=as.length+bs.length:=List.length_append
theorem uX:false≠true:=Bool.false_ne_true
theorem uV:(false=true)=False:=Bool.false_eq_true
theorem uQ {α:Type _}(as:List α):as++[]=as:=List.append_nil as
theorem uN (n:Nat):0<=n:=Nat.zero_le n
noncomputable section
open PySem.W (Frag kia_one fnOf nsIn mg_of)
namespace L2
open PySem PySem.Spec PyProof.Rows
abbrev iE:=Sum Int Str
noncomputable def AH:iE->Value->Bool
 |.inl k,v=>Value.isInt k v
 |.inr x,v=>Value.isStrOf x v
noncomputable def GI (w:World):iE->Int
 |.inl k=>hashInt k
 |.inr x=>hashStr w x
theorem bB:∀ {k:iE}{v:Value},AH k v=true->(∃i t,k=Sum.inl i/\v=Value.int i t)∨(∃x t,k=Sum.inr x/\v=Value.str x t)
 |.inl i,v,h=>by
  obtain⟨t,e⟩:=Value.isInt_shape (k:=i) (v:=v) h;exact .inl ⟨i,t,rfl,e⟩
 |.inr x,v,h=>by
  obtain⟨t,e⟩:=Value.isStrOf_shape (x:=x) (v:=v) h;exact .inr ⟨x,t,rfl,e⟩
theorem B1 (a b:Int):decide ((Sum.inl a:iE)=Sum.inl b)=(a == b):=by
 by_cases e:a=b
 ·subst e;simp
 ·have h:¬(Sum.inl a:iE)=Sum.inl b:=λq=>e (Sum.inl.inj q);rw[decide_eq_false h];exact(beq_eq_false_iff_ne.mpr e).symm
theorem B3 (a b:Str):decide ((Sum.inr a:iE)=Sum.inr b)=decide (a=b):=by
 by_cases e:a=b
 ·subst e;simp
 ·have h:¬(Sum.inr a:iE)=Sum.inr b:=λq=>e (Sum.inr.inj q);rw[decide_eq_false h,decide_eq_false e]
theorem B4 (a:Int)(b:Str):decide ((Sum.inl a:iE)=Sum.inr b)=false:=decide_eq_false (λq=>nomatch q)
theorem B5 (a:Str)(b:Int):decide ((Sum.inr a:iE)=Sum.inl b)=false:=decide_eq_false (λq=>nomatch q)
def sk (prog:Program)(w:World):PySem.KeyKind prog w iE where
 is:=AH
 hash:=GI w
 inj:=λv a b ha hb=>by
  rcases bB ha with⟨i,t,rfl,rfl⟩|⟨x,t,rfl,rfl⟩
  ·rcases bB hb with⟨j,u,rfl,e⟩|⟨y,u,rfl,e⟩
   ·injection e with e1 _;rw[e1]
   ·exact nomatch e
  ·rcases bB hb with⟨j,u,rfl,e⟩|⟨y,u,rfl,e⟩
   ·exact nomatch e
   ·injection e with e1 _;rw[e1]
 byValue:=λk v h=>by
  rcases bB h with⟨i,t,rfl,rfl⟩|⟨x,t,rfl,rfl⟩<;>rfl
 pyHash:=λhv h=>by
  rcases bB hv with⟨i,t,rfl,rfl⟩|⟨x,t,rfl,rfl⟩
  ·exact wpAny_pyHash_int h
  ·exact wpAny_pyHash_str h
 eqBool:=λhu hv h=>by
  rcases bB hu with⟨i,t,rfl,rfl⟩|⟨x,t,rfl,rfl⟩
  ·rcases bB hv with⟨j,u,rfl,rfl⟩|⟨y,u,rfl,rfl⟩
   ·rw[B1]at h;exact wpAny_eqBool_int h
   ·rw[B4]at h;exact SeqAt.EqAt.int_str i t y u _ _ _ _ h
  ·rcases bB hv with⟨j,u,rfl,rfl⟩|⟨y,u,rfl,rfl⟩
   ·rw[B5]at h;exact SeqAt.EqAt.str_int x t j u _ _ _ _ h
   ·rw[B3]at h;exact wpAny_eqBool_str h
 «strs»:=λk x t v h=>by
  rcases bB h with⟨i,u,rfl,e⟩|⟨y,u,rfl,e⟩
  ·exact nomatch e
  ·injection e with e1 _;subst e1;cases v<;>rfl
inductive V where
 |non|bl (b:Bool)|int (i:Int)|str (x:Str)|byt (b:Array UInt8)|flt (b:UInt64)|ref (a:Addr)|ty (n:String)
 deriving DecidableEq
def aG:V->Value->Prop
 |.non,u=>u=Value.none
 |.bl b,u=>u=Value.bool b
 |.int i,u=>∃t,u=Value.int i t
 |.str x,u=>∃t,u=Value.str x t
 |.byt b,u=>∃t,u=Value.bytes b t
 |.flt b,u=>∃t,u=Value.float b t
 |.ref a,u=>u=Value.ref a
 |.ty n,u=>u=Value.type n
abbrev a9:List V->List Value->Prop:=Paired aG
theorem a9.length (r:a9 xs us):xs.length=us.length:=Paired.length r
theorem a9.get:∀ {xs:List V}{us:List Value}{i:Nat}{x:V},a9 xs us->xs[i]? = some x->∃u,us[i]? = some u/\aG x u
 |_,_,_,_,.nil,e=>by simp at e
 |_,_,0,_,.cons r _,e=>by simp at e;subst e;exact⟨_,rfl,r⟩
 |_,_,i+1,x,.cons _ t,e=>by
  obtain⟨u,h1,h2⟩:=a9.get (i:=i) (x:=x) t (by simpa using e);exact⟨u,by simpa using h1,h2⟩
theorem a9.set (r:aG x u):∀ {xs:List V}{us:List Value}(i:Nat),a9 xs us->a9 (xs.set i x) (us.set i u)
 |_,_,_,.nil=>.nil
 |_,_,0,.cons _ t=>.cons r t
 |_,_,i+1,.cons q t=>.cons q (a9.set r i t)
theorem a9.append:∀ {xs ys:List V}{us ws:List Value},a9 xs us->a9 ys ws->a9 (xs++ys) (us++ws)
 |_,_,_,_,.nil,s=>s
 |_,_,_,_,.cons r t,s=>.cons r (a9.append t s)
theorem a9.take:∀ {xs:List V}{us:List Value}(n:Nat),a9 xs us->a9 (xs.take n) (us.take n)
 |_,_,0,_=>.nil
 |_,_,_+1,.nil=>.nil
 |_,_,n+1,.cons r t=>.cons r (a9.take n t)
theorem a9.drop:∀ {xs:List V}{us:List Value}(n:Nat),a9 xs us->a9 (xs.drop n) (us.drop n)
 |_,_,0,r=>r
 |_,_,_+1,.nil=>.nil
 |_,_,n+1,.cons _ t=>a9.drop n t
theorem a9.none_of:∀ {xs:List V}{us:List Value}{i:Nat},a9 xs us->xs[i]? = none->us[i]? = none:=λ{xs us i} r e=>by
 have h1:=r.length;have h2:xs.length<=i:=List.getElem?_eq_none_iff.mp e;exact List.getElem?_eq_none_iff.mpr (by omega)
def oM:Option V->Option Value->Prop
 |some v,some u=>aG v u
 |none,none=>True
 |_,_=>False
def KV {κ:Type}:List (κ×V)->List (κ×Value)->Prop:=Paired λ(p:κ×V) (q:κ×Value)=>p.1=q.1/\aG p.2 q.2
noncomputable def kV:iE->V
 |.inl i=>.int i
 |.inr x=>.str x
inductive HO where
  |lst (xs:List V)
  |tup (xs:List V)
  |dK (aZ:List (iE×V)) (ob:Obj)|dT (aZ:List (List iE×V))
  |set (S:Int->Bool) (n:Nat)
  |ins (C dx:Addr) (fs:List (Str×V))
  |own (x:Addr)
  |xd (fs:List (Str×V))
  |met (f x:Addr)
  |rng (lo hi:Int)
  |frz (o:Obj) (u:HO)
  |tbl (q:Str)
  |ext (φ:Heap->Prop)
abbrev Hp:=Addr->Option HO
noncomputable def upd (H:Hp)(a:Addr)(o:HO):Hp:=λb=>if b=a then some o else H b
theorem au:upd H a o a=some o:=by unfold upd;rw[if_pos rfl]
theorem a8 (h:b≠a):upd H a o b=H b:=by unfold upd;rw[if_neg h]
theorem kj:upd (upd H a o) a u=upd H a u:=by
 funext b;unfold upd;split<;>rfl
theorem ba {H:Hp}{a b:Addr}{o:HO}(h:H a=some o)(h':H b=none):a≠b:=by
 intro e;subst e;rw[h]at h';cases h'
section
variable (P:Program) (w:World)
def bC (H:Hp)(h:Heap)(a:Addr):HO->Prop
 |.lst xs=>xs.length<=sizeLine/\∃(its:List Value)(n:Nat),a9 xs its/\h.get? a=some { cls:=.type "list",data:=.seq its.toArray n }
 |.tup xs=>xs.length<=sizeLine/\∃its:List Value,a9 xs its/\IsTup h a its.toArray
 |.dK aZ ob=>h.get? a=some ob/\aZ.length<=sizeLine/\(a == sysModules)=false/\∃vs,KV aZ vs/\h.DictOf (sk P w) a vs
 |.dT aZ=>aZ.length<=sizeLine/\(a == sysModules)=false/\∃xs:List (List iE×Addr×Value),
   Paired (λ(p:List iE×V) (q:List iE×Addr×Value)=>p.1=q.1/\H q.2.1=some (.tup (p.1.map kV))/\aG p.2 q.2.2) aZ xs /\
   ∃o es ep,h.get? a=some o/\o.ExactDict/\o.data=.dict es ep/\es.toList=xs.map (entryOfKey (tupleKind (sk P w)))/\(xs.map (·.1)).Nodup
 |.set S n=>h.SetOf (intKind P w) a S n
 |.ins C dx fs=>H dx=some (.own a)/\fs.length<=1000/\dx≠a/\h.get? a=some (PySem.W.instObj C dx) /\
   ∃mA,h.Ns1 dx mA/\(∀f,oM (fs.lookup f) (mA f))/\PySem.Within mA (fs.map (·.1))
 |.own _=>∃o,h.get? a=some o
 |.xd fs=>∃mA,h.Ns1 a mA/\∀f,oM (fs.lookup f) (mA f)
 |.rng lo hi=>∃t u v,h.get? a=some { cls:=.type "range",data:=.fields #[.int lo t,.int hi u,.int 1 v] }
 |.frz o u=>h.get? a=some o/\bC H h a u
 |.tbl q=>∃ps:Array Value,h.get? a=some { cls:=.none,data:=.fields ps }/\TriplesOk ps.toList/\∀pos cv,codeAmong pos ps.toList=some cv->∃(c:Addr)(oc:Obj)(u:HO)(vs:Array Value)(t:Tok),cv=.ref c/\H c=some (.frz oc u)/\oc.data=.fields vs/\vs[1]? = some (.str q t)
 |.met f x=>h.get? a=some (PySem.W.methodObj (.ref f) (.ref x))
 |.ext φ=>φ h/\(∃o,h.get? a=some o)/\∀h1 h2:Heap,φ h1->(∀o,h1.get? a=some o->h2.get? a=some o)->φ h2
def kl (H:Hp)(h:Heap):Prop:=∀a o,H a=some o->bC P w H h a o
end
section
variable {P:Program}{w:World}{H H':Hp}{h h':Heap}{a:Addr}{o:HO}
theorem bC.lt (x:bC P w H h a o):a<h.objs.size:=by
 cases o with
 |lst xs=>obtain⟨_,_,_,_,e⟩:=x;exact vX e
 |tup xs=>obtain⟨_,_,_,p⟩:=x;exact p.lt
 |dK aZ ob=>exact vX (And.left x)
 |dT aZ=>obtain⟨_,_,_,_,o,_,_,e,_⟩:=x;exact vX e
 |set S n=>obtain⟨o,_,_,_,e,_⟩:=x;exact vX e
 |ins C dx fs=>obtain⟨_,_,_,e,_⟩:=x;exact vX e
 |own y=>obtain⟨_,e⟩:=x;exact vX e
 |xd fs=>obtain⟨_,⟨_,_,_,e,_⟩,_⟩:=x;exact vX e
 |rng lo hi=>obtain⟨_,_,_,e⟩:=x;exact vX e
 |frz ob u=>obtain⟨e,_⟩:=x;exact vX e
 |tbl q=>obtain⟨_,e,_⟩:=x;exact vX e
 |met f y=>exact vX (show h.get? a=some _ from x)
 |ext φ=>obtain⟨_,⟨_,e⟩,_⟩:=x;exact vX e
theorem Paired.mapP {α β:Type}{F G:α->β->Prop}:∀ {l₁:List α}{l₂:List β},Paired F l₁ l₂->(∀a b,F a b->G a b)->Paired G l₁ l₂
 |_,_,.nil,_=>.nil
 |_,_,.cons r t,f=>.cons (f _ _ r) (Paired.mapP t f)
theorem bC.stay (x:bC P w H h a o)(k:∀b u,(b=a∨H b=some (.own a))->h.get? b=some u->h'.get? b=some u)
  (ho:∀b,H b=some (.own a)->H' b=some (.own a)) (ht:∀b xs,H b=some (.tup xs)->H' b=some (.tup xs)) (hf:∀b o u,H b=some (.frz o u)->H' b=some (.frz o u)):bC P w H' h' a o:=by
 induction o with
 |lst xs=>obtain⟨z,its,n,r,e⟩:=x;exact⟨z,its,n,r,k _ _ (.inl rfl) e⟩
 |tup xs=>obtain⟨z,its,r,ob,e,c⟩:=x;exact⟨z,its,r,ob,k _ _ (.inl rfl) e,c⟩
 |dK aZ Lm=>obtain⟨g,z,y,vs,r,ob,es,ep,e,c⟩:=x;exact⟨k _ _ (.inl rfl) g,z,y,vs,r,ob,es,ep,k _ _ (.inl rfl) e,c⟩
 |dT aZ=>
  obtain⟨z,y,xs,r,ob,es,ep,e,c⟩:=x;exact⟨z,y,xs,Paired.mapP r λp q z=>⟨z.1,ht _ _ z.2.1,z.2.2⟩,ob,es,ep,k _ _ (.inl rfl) e,c⟩
 |set S n=>obtain⟨ob,es,ep,t,e,c⟩:=x;exact⟨ob,es,ep,t,k _ _ (.inl rfl) e,c⟩
 |ins C dx fs=>
  obtain⟨d,z,ne,e,mA,⟨od,es,ep,e2,c⟩,r⟩:=x;exact⟨ho _ d,z,ne,k _ _ (.inl rfl) e,mA,⟨od,es,ep,k _ _ (.inr d) e2,c⟩,r⟩
 |own y=>obtain⟨ob,e⟩:=x;exact⟨ob,k _ _ (.inl rfl) e⟩
 |xd fs=>obtain⟨mA,⟨od,es,ep,e,c⟩,r⟩:=x;exact⟨mA,⟨od,es,ep,k _ _ (.inl rfl) e,c⟩,r⟩
 |rng lo hi=>obtain⟨t,u,v,e⟩:=x;exact⟨t,u,v,k _ _ (.inl rfl) e⟩
 |frz ob u ih=>obtain⟨e,q⟩:=x;exact⟨k _ _ (.inl rfl) e,ih q⟩
 |tbl q=>obtain⟨ps,e,t,c⟩:=x;exact⟨ps,k a _ (.inl rfl) e,t,λpos cv z=>let ⟨d,oc,u,vs,tk,z1,z2,z3⟩:=c pos cv z;⟨d,oc,u,vs,tk,z1,hf _ _ _ z2,z3⟩⟩
 |met f y=>
  have e:h.get? a=some (PySem.W.methodObj (.ref f) (.ref y)):=x;show h'.get? a=some (PySem.W.methodObj (.ref f) (.ref y));exact k a _ (.inl rfl) e
 |ext φ=>obtain⟨p,⟨o,e⟩,st⟩:=x;exact⟨st _ _ p λo q=>k _ _ (.inl rfl) q,⟨o,k _ _ (.inl rfl) e⟩,st⟩
theorem kl.lt (x:kl P w H h)(e:H a=some o):a<h.objs.size:=(x a o e).lt
theorem kl.fresh (x:kl P w H h)(e:h.objs.size<=a):H a=none:=by
 cases q:H a with
 |none=>rfl
 |some u=>exact absurd (vQ (x.lt q) e) (Nat.lt_irrefl _)
theorem kl.kept (x:kl P w H h)(k:∀b u,h.get? b=some u->h'.get? b=some u):kl P w H h':=λa o e=>
 (x a o e).stay (λb u _ q=>k b u q) (λ_ q=>q) (λ_ _ q=>q) λ_ _ _ q=>q
theorem kl.laid (x:kl P w H h)(k:∀b u,h.get? b=some u->h'.get? b=some u)(hp:h.objs.size<=a)(new:bC P w (upd H a o) h' a o):kl P w (upd H a o) h':=λb u e=>by
 have hn:=x.fresh hp;by_cases hb:b=a
 ·subst hb;rw[au]at e;cases e;exact new
 ·rw[a8 hb]at e;exact(x b u e).stay (λc v _ q=>k c v q) (λc q=>by rw[a8 (ba q hn)];exact q) (λc xs q=>by rw[a8 (ba q hn)];exact q) λc o xs q=>by rw[a8 (ba q hn)];exact q
end
def Rd (H:Hp)(a:Addr)(u:HO):Prop:=H a=some u∨∃o,H a=some (.frz o u)
theorem Rd.of (h:H a=some u):Rd H a u:=.inl h
theorem Rd.ok (r:Rd H a u)(x:kl P w H h):bC P w H h a u:=by
 rcases r with r|⟨o,r⟩
 ·exact x a u r
 ·obtain⟨_,q⟩:=x a _ r;exact q
def Gb:Option HO->Prop
 |some (.lst _)=>True
 |some (.dK _ _)=>True
 |some (.dT _)=>True
 |some (.set _ _)=>True
 |some (.ins _ _ _)=>True
 |some (.ext _)=>True
 |_=>False
section
variable {P:Program}{w:World}{H:Hp}{h h':Heap}{x e:Addr}{o':HO}
theorem kl.write (ok:kl P w H h)(mu:Gb (H x))(he:e=x∨H e=some (.own x))(k:∀b u,b≠e->h.get? b=some u->h'.get? b=some u)(D8:∃u,h'.get? e=some u)
  (new:bC P w (upd H x o') h' x o'):kl P w (upd H x o') h':=λb u q=>by
 have Fb:∀c y,H c=some (.own y)->c≠x:=λc y r z=>by subst z;rw[r]at mu;exact mu
 have HH:∀c xs,H c=some (.tup xs)->c≠x:=λc xs r z=>by subst z;rw[r]at mu;exact mu
 by_cases hb:b=x
 ·subst hb;rw[au]at q;cases q;exact new
 ·rw[a8 hb]at q;by_cases hbe:b=e
  ·have q':H b=some (.own x):=by
    rcases he with z|z
    ·exact absurd (hbe.trans z) hb
    ·rw[hbe];exact z
   rw[q]at q';cases q';obtain⟨v,hv⟩:=D8;exact⟨v,by rw[hbe];exact hv⟩
  ·refine(ok b u q).stay (λc v hc r=>k c v ?_ r) (λc r=>by rw[a8 (Fb c b r)];exact r) (λc xs r=>by rw[a8 (HH c xs r)];exact r) λc o xs r=>by rw[a8 (λz=>by subst z;rw[r]at mu;exact mu)];exact r
   rcases hc with rfl|hc
   ·exact hbe
   ·rintro rfl;rcases he with z|z
    ·exact Fb c b hc z
    ·rw[hc]at z;cases z;exact hb rfl
end
structure Un (fs ex:List Addr)(H H':Hp)(h h':Heap):Prop where
 keep:∀b o,h.get? b=some o->H b=none->b∉fs->b∉ex->h'.get? b=some o
 slot:∀b o,h.get? b=some o->H b=none->b∈fs->b∉ex->∃sl,h'.get? b=some { o with slots:=sl }
 free:∀b o,h.get? b=some o->H b=none->b∉ex->H' b=none
 there:∀b o,h.get? b=some o->b∉ex->∃o',h'.get? b=some o'
 tups:∀b xs,H b=some (.tup xs)->H' b=some (.tup xs)
 frzs:∀b o u,H b=some (.frz o u)->H' b=some (.frz o u)
 tbls:∀b q,H b=some (.tbl q)->H' b=some (.tbl q)
section
variable {fs Ln ex MM:List Addr}{H H1 H2:Hp}{h h1 h2 h':Heap}{a x e:Addr}{o:HO}
theorem Un.any (u:Un fs ex H H1 h h1)(q:h.get? b=some ob)(n:H b=none)(hx:b∉ex):∃sl,h1.get? b=some { ob with slots:=sl }:=by
 by_cases hb:b∈fs
 ·exact u.slot b ob q n hb hx
 ·exact⟨ob.slots,u.keep b ob q n hb hx⟩
theorem Un.trans (a:Un fs ex H H1 h h1)(b:Un fs ex H1 H2 h1 h2):Un fs ex H H2 h h2 where
 keep:=λc ob q n hc hx=>b.keep c ob (a.keep c ob q n hc hx) (a.free c ob q n hx) hc hx
 slot:=λc ob q n hc hx=>by
  obtain⟨sl,e1⟩:=a.slot c ob q n hc hx;obtain⟨HJ,e2⟩:=b.slot c _ e1 (a.free c ob q n hx) hc hx;exact⟨HJ,e2⟩
 free:=λc ob q n hx=>by
  obtain⟨o',e1⟩:=a.there c ob q hx;exact b.free c o' e1 (a.free c ob q n hx) hx
 there:=λc ob q hx=>by
  obtain⟨o',e1⟩:=a.there c ob q hx;exact b.there c o' e1 hx
 tups:=λc xs q=>b.tups c xs (a.tups c xs q)
 frzs:=λc ob xs q=>b.frzs c ob xs (a.frzs c ob xs q)
 tbls:=λc ps q=>b.tbls c ps (a.tbls c ps q)
theorem Un.kept (k:∀b u,h.get? b=some u->h'.get? b=some u):Un fs ex H H h h' :=
 ⟨λb ob q _ _ _=>k b ob q,λb ob q _ _ _=>⟨ob.slots,k b ob q⟩,λ_ _ _ n _=>n,λb ob q _=>⟨ob,k b ob q⟩,λ_ _ q=>q,λ_ _ _ q=>q,λ_ _ q=>q⟩
theorem Un.refl:Un fs ex H H h h:=Un.kept λ_ _ q=>q
theorem Un.laid (k:∀b u,h.get? b=some u->h'.get? b=some u)(hp:h.objs.size<=a)(hn:H a=none):Un fs ex H (upd H a o) h h' where
 keep:=λb u q _ _ _=>k b u q
 slot:=λb u q _ _ _=>⟨u.slots,k b u q⟩
 free:=λb u q n _=>by rw[a8 (vS (vQ (vX q) hp))];exact n
 there:=λb u q _=>⟨u,k b u q⟩
 tups:=λb xs q=>by rw[a8 (ba q hn)];exact q
 frzs:=λb u xs q=>by rw[a8 (ba q hn)];exact q
 tbls:=λb ps q=>by rw[a8 (ba q hn)];exact q
theorem Un.write (mu:Gb (H x))(he:e=x∨H e=some (.own x))(k:∀b u,b≠e->h.get? b=some u->h'.get? b=some u)(D8:∃u,h'.get? e=some u):Un fs ex H (upd H x o) h h':=by
 have hx:∀b,H b=none->b≠x:=λb n z=>by subst z;rw[n]at mu;exact mu
 have hb:∀b,H b=none->b≠e:=λb n z=>by
  subst z;rcases he with r|r
  ·exact hx b n r
  ·rw[n]at r;cases r
 have hm:∀b u,H b=some u->¬Gb (some u)->b≠x:=λb u q nm z=>by subst z;rw[q]at mu;exact nm mu
 refine⟨λb u q n _ _=>k b u (hb b n) q,λb u q n _ _=>⟨u.slots,k b u (hb b n) q⟩,λb u q n _=>by rw[a8 (hx b n)];exact n,λb u q _=>?_,
  λb xs q=>by rw[a8 (hm b _ q λz=>z)];exact q,λb u xs q=>by rw[a8 (hm b _ q λz=>z)];exact q,λb ps q=>by rw[a8 (hm b _ q λz=>z)];exact q⟩
 by_cases hbe:b=e
 ·subst hbe;exact D8
 ·exact⟨u,k b u hbe q⟩
end
noncomputable def Gc (h:Heap)(H:Hp):List Addr:=(List.range h.objs.size).filter λa=>(H a).isSome
def oN (h:Heap)(H:Hp):Heap:=PySem.W.hideAll h (Gc h H)
theorem ue (h:Heap)(H:Hp):(oN h H).objs.size=h.objs.size:=PySem.W.hideAll_size _ _
theorem kD (e:h.get? b=some o)(n:H b=none):(oN h H).get? b=some o :=
 PySem.W.hideAll_get _ e λhm=>by
  have q:(H b).isSome=true:=(List.mem_filter.mp hm).2;rw[n]at q;simp at q
theorem yU (e:(oN h H).get? b=some o):h.get? b=some o/\H b=none:=by
 have e':h.get? b=some o:=PySem.W.of_hideAll (Gc h H) e;refine⟨e',?_⟩;cases q:H b with
 |none=>rfl
 |some x=>
  have hm:b∈Gc h H:=List.mem_filter.mpr ⟨List.mem_range.mpr (vX e'),by simp[q]⟩;have z:(oN h H).get? b=none:=PySem.W.hideAll_none (Gc h H) hm;rw[z]at e;cases e
noncomputable def yV (g h:Heap)(L:Addr):List (Addr×Obj):=(List.range h.objs.size).filterMap λa=>if a=L∨(g.get? a).isSome=true then none else (h.get? a).map λo=>(a,o)
def rest (g h:Heap)(L d:Addr):List (Addr×Obj):=(yV g h L).filter λp=>decide (p.1≠d)
structure Mod (K:Frag)(mg:Str->Option Value)(base:Heap):Prop where
 kin:K.In base
 glob:base.Ns mainGlobals mg
 blt:∃mb,base.Ns builtinsNs mb/\∀x:Str,x ≠ "__name__"->mb x=bootBuiltins x
 nolimit:base.NoLimit
 bmain:∃bm ob,mg "__builtins__" = some (.ref bm)/\bm≠builtinsNs/\base.get? bm=some ob/\ob.cls=.type "module"/\ob.dict=some builtinsNs/\ob.data=.plain
structure Cx where
 prog:Program
 w:World
 K:Frag
 mg:Str->Option Value
 base:Heap
 A:Around
 N:List Str
 s₀:Shared
 H₀:Hp
 env:Env
 outer:List Env
 stack:List Env
 ex:List Addr
 fn:Str->Bool
 calm:Bool
 pn:List (Addr×Obj)
 xe:Value->Shared->Prop
noncomputable def v7 (l:List Env):List Addr:=l.filterMap (·.frame)
abbrev Cx.fs (X:Cx):List Addr:=v7 X.outer
def yE (sc:Scope)(x:Str):Prop:=sc.names.lookup x=some .local∨sc.names.lookup x=some .cell∨sc.names.lookup x=some .free
def B6 (sc:Scope)(x:Str):Prop:=sc.names.lookup x=some .local∨sc.names.lookup x=some .cell
def GJ (env:Env)(h:Heap)(m:Str->Option Value)(x:Str)(u:Value):Prop :=
 (env.kindOf x=some .local/\m x=some u)∨((env.kindOf x=some .cell∨env.kindOf x=some .free)/\∃c,env.cells.lookup x=some c/\h.IsCell c (some u))
abbrev wq {α:Type}(X:Cx):Sem α->(α->Shared->Prop)->(Value->Shared->Prop)->Shared->Prop:=wpAny (model X.prog X.w) X.A
structure Cx.Ok (X:Cx):Prop where
 mod:Mod X.K X.mg X.base
 kind:X.env.scope.kind=.function
 glob:X.env.globals=mainGlobals
 blt:X.env.builtins=builtinsNs
 above:X.s₀.heap.objs.size<=X.env.locals
 inj:∀x y c,X.env.cells.lookup x=some c->X.env.cells.lookup y=some c->x=y
 has:∀x,(X.env.kindOf x=some .cell∨X.env.kindOf x=some .free)->∃c,X.env.cells.lookup x=some c
 cab:∀x c,X.fn x=true->X.env.cells.lookup x=some c->X.s₀.heap.objs.size<=c
 hd:X.calm=true->X.A.handled=none
 frames:X.A.frames=some X.stack
 stk:X.stack=X.outer∨(X.stack=X.env::X.outer/\X.env.frame=some X.env.locals)
 exf:∀b∈X.ex,b≠X.env.locals/\∀x c,X.env.cells.lookup x=some c->c≠b
 bs:∀b o,X.base.get? b=some o->X.s₀.heap.get? b=some o/\X.H₀ b=none
 bsz:X.base.objs.size<=X.s₀.heap.objs.size
 noex:∀b o,X.base.get? b=some o->b∉X.ex
 exfs:∀b∈X.ex,b∉X.fs
 funs:X.s₀.heap.FunFrames X.base X.outer
 frf:∀b∈X.fs,X.H₀ b=none
structure Inv (X:Cx)(aa:List (Addr×Obj))(σ:List (Option V))(H:Hp)(s:Shared):Prop where
 ok:X.Ok
 os:s.os=X.s₀.os
 bare:AllBare s.gens
 base:Un X.fs X.ex X.H₀ H X.s₀.heap s.heap
 loc:∃m,s.heap.Ns X.env.locals m/\∀(i:Nat)(x:Str)(v:V),X.N[i]? = some x->σ[i]? = some (some v)->yE X.env.scope x->∃u,aG v u/\GJ X.env s.heap m x u
 cell:∀x c,X.env.cells.lookup x=some c->∃v,s.heap.IsCell c v
 free:H X.env.locals=none
 freeC:∀x c,X.env.cells.lookup x=some c->H c=none
 pin:∀p∈X.pn++aa,s.heap.get? p.1=some p.2/\H p.1=none/\p.1≠X.env.locals/\p.1∉X.fs/\∀v,p.2.data≠.cell v
 hok:kl X.prog X.w H s.heap
 len:σ.length=X.N.length
section
variable {X:Cx}{aa:List (Addr×Obj)}{σ:List (Option V)}{H H':Hp}{s:Shared}{h':Heap}
theorem Cx.Ok.nofr (ok:X.Ok)(e:X.base.get? b=some o):b∉X.fs:=λhb=>by
 have:=(ok.funs.mem hb).1;rw[e]at this;cases this
theorem Inv.bs (I:Inv X aa σ H s):∀b o,X.base.get? b=some o->s.heap.get? b=some o/\H b=none:=λb o e=>
 ⟨I.base.keep b o (I.ok.bs b o e).1 (I.ok.bs b o e).2 (I.ok.nofr e) (I.ok.noex b o e),I.base.free b o (I.ok.bs b o e).1 (I.ok.bs b o e).2 (I.ok.noex b o e)⟩
theorem Inv.bk (I:Inv X aa σ H s):∀b o,X.base.get? b=some o->s.heap.get? b=some o:=λb o e=>(I.bs b o e).1
theorem Inv.mod (I:Inv X aa σ H s):Mod X.K X.mg X.base:=I.ok.mod
theorem Inv.kIn (I:Inv X aa σ H s):X.K.In s.heap:=I.ok.mod.kin.keeps I.bk
theorem Inv.lt (I:Inv X aa σ H s):X.env.locals<s.heap.objs.size:=let ⟨_,hn,_⟩:=I.loc;hn.lt
theorem Inv.sz (I:Inv X aa σ H s):X.s₀.heap.objs.size<=s.heap.objs.size:=vR I.ok.above (Nat.le_of_lt I.lt)
theorem Inv.nofs (I:Inv X aa σ H s)(h:s.heap.objs.size<=a):a∉X.fs:=λhb=>by
 obtain⟨_,o,ho,_⟩:=I.ok.funs.mem hb;exact absurd (vQ (vX ho) (vR I.sz h)) (Nat.lt_irrefl _)
theorem Inv.cne (I:Inv X aa σ H s):∀x c,X.env.cells.lookup x=some c->c≠X.env.locals:=λx c e z=>by
 obtain⟨v,o,ho,hd⟩:=I.cell x c e;obtain⟨m,⟨o',es,ep,se,HK,_⟩,_⟩:=I.loc;rw[z,se]at ho;cases ho;rw[HK]at hd;cases hd
theorem Inv.funs (I:Inv X aa σ H s):s.heap.FunFrames X.base X.outer:=by
 have all:∀(l:List Env),(∀b∈v7 l,b∈X.fs)->X.s₀.heap.FunFrames X.base l->s.heap.FunFrames X.base l:=by
  intro l;induction l with
  |nil=>intro _ _;trivial
  |cons env r ih=>
   intro hs hl;obtain⟨hk,⟨L,o,hf,hn,ho,hd⟩,hr⟩:=hl;have hL:L∈X.fs:=hs L (by unfold v7;rw[List.filterMap_cons,hf];exact mX);obtain⟨sl,e⟩:=I.base.slot L o ho (I.ok.frf L hL) hL λz=>I.ok.exfs L z hL;exact⟨hk,⟨L,_,hf,hn,e,hd⟩,ih (λb hb=>hs b (by unfold v7;rw[List.filterMap_cons,hf];exact mZ _ hb)) hr⟩
 exact all X.outer (λ_ hb=>hb) I.ok.funs
theorem Inv.stack (I:Inv X aa σ H s):s.heap.FunFrames X.base X.stack:=by
 rcases I.ok.stk with e|⟨e,hf⟩
 ·rw[e];exact I.funs
 ·rw[e];obtain⟨m,hn,_⟩:=I.loc;refine .cons (by rw[I.ok.kind];decide) hf hn ?_ I.funs;exact Heap.get?_none_of_le (vR I.ok.bsz I.ok.above)
theorem Inv.stkSub (I:Inv X aa σ H s):∀b∈v7 X.stack,b∈X.env.locals::X.fs:=λb hb=>by
 rcases I.ok.stk with e|⟨e,hf⟩
 ·rw[e]at hb;exact mZ _ hb
 ·rw[e]at hb;unfold v7 at hb;rw[List.filterMap_cons,hf]at hb;exact hb
theorem Inv.stkFree (I:Inv X aa σ H s):∀b∈v7 X.stack,H b=none:=λb hb=>by
 rcases vP (I.stkSub b hb)with e|hb
 ·rw[e];exact I.free
 ·obtain⟨_,o,ho,_⟩:=I.ok.funs.mem hb;exact I.base.free b o ho (I.ok.frf b hb) λz=>I.ok.exfs b z hb
theorem Inv.step {g':Array GenState}{t':Nat}{d':Drawn}{ch:List Addr}(I:Inv X aa σ H s)
  (vN:∀b∈ch,(b∈X.ex∨X.s₀.heap.objs.size<=b)/\b≠X.env.locals/\(∀x c,X.env.cells.lookup x=some c->c≠b)/\∀p∈X.pn++aa,p.1≠b)
  (keep:∀b o,b≠X.env.locals->b∉X.fs->b∉ch->s.heap.get? b=some o->H b=none->h'.get? b=some o)
  (slot:∀b o,b≠X.env.locals->b∈X.fs->b∉ch->s.heap.get? b=some o->H b=none->∃sl,h'.get? b=some { o with slots:=sl }) (free:∀b o,b∉ch->s.heap.get? b=some o->H b=none->H' b=none)
  (there:∀b o,b∉ch->s.heap.get? b=some o->∃o',h'.get? b=some o')
  (tups:∀b xs,H b=some (.tup xs)->H' b=some (.tup xs)) (frzs:∀b o u,H b=some (.frz o u)->H' b=some (.frz o u)) (tbls:∀b q,H b=some (.tbl q)->H' b=some (.tbl q))
  (ns:∀m,s.heap.Ns X.env.locals m->h'.Ns X.env.locals m) (hok:kl X.prog X.w H' h') (hg:AllBare g'):
  Inv X aa σ H' { s with heap:=h',gens:=g',drawn:=d',toks:=t' }:=by
 have Jt:∀b o,X.s₀.heap.get? b=some o->b≠X.env.locals:=λb o e=>vS (vQ (vX e) I.ok.above);have D9:∀b o,X.s₀.heap.get? b=some o->b∉X.ex->b∉ch:=λb o e hx hb=>by
  rcases (vN b hb).1 with z|z
  ·exact hx z
  ·exact absurd (vQ (vX e) z) (Nat.lt_irrefl _)
 have Bn:∀x c,X.env.cells.lookup x=some c->∀v,s.heap.IsCell c v->h'.IsCell c v:=λx c e v ⟨o,ho,hd⟩=>by
  have Fc:c∉ch:=λz=>(vN c z).2.2.1 x c e rfl;by_cases hc:c∈X.fs
  ·obtain⟨sl,q⟩:=slot c o (I.cne x c e) hc Fc ho (I.freeC x c e);exact⟨_,q,hd⟩
  ·exact⟨o,keep c o (I.cne x c e) hc Fc ho (I.freeC x c e),hd⟩
 refine⟨I.ok,I.os,hg,⟨λb o e n hb hx=>?_,λb o e n hb hx=>?_,λb o e n hx=>?_,λb o e hx=>?_,λb xs e=>tups b xs (I.base.tups b xs e),λb o xs e=>frzs b o xs (I.base.frzs b o xs e),λb ps e=>?_⟩,?_,λx c e=>?_,?_,λx c e=>?_,λp hp=>?_,hok,I.len⟩
 ·exact keep b o (Jt b o e) hb (D9 b o e hx) (I.base.keep b o e n hb hx) (I.base.free b o e n hx)
 ·obtain⟨sl,e1⟩:=I.base.slot b o e n hb hx;obtain⟨HJ,e2⟩:=slot b _ (Jt b o e) hb (D9 b o e hx) e1 (I.base.free b o e n hx);exact⟨HJ,e2⟩
 ·obtain⟨o',e1⟩:=I.base.there b o e hx;exact free b o' (D9 b o e hx) e1 (I.base.free b o e n hx)
 ·obtain⟨o',e1⟩:=I.base.there b o e hx;exact there b o' (D9 b o e hx) e1
 ·exact tbls b _ (I.base.tbls b ps e)
 ·obtain⟨m,hn,hl⟩:=I.loc;refine⟨m,ns m hn,λi x v e1 e2 e3=>?_⟩;obtain⟨u,r,l⟩:=hl i x v e1 e2 e3;refine⟨u,r,?_⟩;rcases l with l|⟨k,c,e,z⟩
  ·exact .inl l
  ·exact .inr ⟨k,c,e,Bn x c e _ z⟩
 ·obtain⟨v,z⟩:=I.cell x c e;exact⟨v,Bn x c e v z⟩
 ·obtain⟨m,⟨o,_,_,ho,_⟩,_⟩:=I.loc;exact free _ o (λz=>(vN _ z).2.1 rfl) ho I.free
 ·obtain⟨v,o,ho,hd⟩:=I.cell x c e;exact free c o (λz=>(vN c z).2.2.1 x c e rfl) ho (I.freeC x c e)
 ·obtain⟨e,n,ne,nf,d⟩:=I.pin p hp;have Fc:p.1∉ch:=λz=>(vN p.1 z).2.2.2 p hp rfl;exact⟨keep p.1 p.2 ne nf Fc e n,free p.1 p.2 Fc e n,ne,nf,d⟩
theorem Inv.un {t':Nat}(I:Inv X aa σ H s)(u:Un X.fs [] H H' s.heap h')(hok:kl X.prog X.w H' h'):Inv X aa σ H' { s with heap:=h',toks:=t' }:=by
 obtain⟨m,⟨o,es,ep,ho,r⟩,_⟩:=id I.loc;obtain⟨sl,hL⟩:=u.any ho I.free (by simp);exact I.step (g':=s.gens) (d':=s.drawn) (ch:=[]) (λ_ z=>nomatch z) (λb o _ hb _ e n=>u.keep b o e n hb (by simp)) (λb o _ hb _ e n=>u.slot b o e n hb (by simp)) (λb o _ e n=>u.free b o e n (by simp)) (λb o _ e=>u.there b o e (by simp)) u.tups u.frzs u.tbls (λm' hm=>by
  obtain⟨o',si,HL,se,r'⟩:=hm;rw[ho]at se;cases se;exact⟨_,si,HL,hL,r'⟩) hok I.bare
theorem Inv.call {g':Array GenState}{t':Nat}{d':Drawn}{ch:List Addr}(I:Inv X aa σ H s)(u:Un (v7 X.stack) ch H H' s.heap h')(hok:kl X.prog X.w H' h')(hg:AllBare g')
  (vN:∀b∈ch,(b∈X.ex∨X.s₀.heap.objs.size<=b)/\b≠X.env.locals/\(∀x c,X.env.cells.lookup x=some c->c≠b)/\∀p∈X.pn++aa,p.1≠b):
  Inv X aa σ H' { s with heap:=h',gens:=g',drawn:=d',toks:=t' }:=by
 obtain⟨m,⟨o,es,ep,ho,r⟩,_⟩:=id I.loc;obtain⟨sl,hL⟩:=u.any ho I.free λz=>(vN _ z).2.1 rfl;exact I.step (ch:=ch) vN (λb o hL hb hc e n=>u.keep b o e n (λz=>(vP (I.stkSub b z)).elim hL hb) hc) (λb o _ _ hc e n=>u.any e n hc) (λb o hc e n=>u.free b o e n hc) (λb o hc e=>u.there b o e hc) u.tups u.frzs u.tbls (λm' hm=>by
  obtain⟨o',si,HL,se,r'⟩:=hm;rw[ho]at se;cases se;exact⟨_,si,HL,hL,r'⟩) hok hg
theorem Inv.turned {t':Nat}{it:Addr}(I:Inv X aa σ H s)(k:∀b o,b≠it->s.heap.get? b=some o->h'.get? b=some o)(hn:H it=none)(hL:it≠X.env.locals)
  (h1:it∈X.ex∨X.s₀.heap.objs.size<=it) (h2:∀x c,X.env.cells.lookup x=some c->c≠it) (h3:∀p∈X.pn++aa,p.1≠it):Inv X aa σ H { s with heap:=h',toks:=t' }:=by
 have Bo:∀b u,H b=some u->b≠it:=λb u e z=>by rw[z,hn]at e;cases e
 refine I.step (g':=s.gens) (d':=s.drawn) (ch:=[it]) (λb hb=>?_) (λb o _ _ hc e _=>k b o (λz=>hc (by simp[z])) e) (λb o _ _ hc e _=>⟨o.slots,k b o (λz=>hc (by simp[z])) e⟩) (λ_ _ _ _ n=>n)
  (λb o hc e=>⟨o,k b o (λz=>hc (by simp[z])) e⟩) (λ_ _ e=>e) (λ_ _ _ e=>e) (λ_ _ e=>e) (λm hm=>?_) (λb u e=>?_) I.bare
 ·have e:b=it:=by simpa using hb
  subst e;exact⟨h1,hL,h2,h3⟩
 ·obtain⟨o,es,ep,ho,r⟩:=hm;exact⟨o,es,ep,k _ o (Ne.symm hL) ho,r⟩
 ·refine(I.hok b u e).stay (λc v hc q=>k c v ?_ q) (λ_ q=>q) (λ_ _ q=>q) λ_ _ _ q=>q;rcases hc with z|z
  ·rw[z];exact Bo b u e
  ·exact Bo c _ z
theorem Inv.tok (I:Inv X aa σ H s)(t:Nat):Inv X aa σ H { s with toks:=t }:=I.un (h':=s.heap) (t':=t) Un.refl I.hok
theorem Inv.kept (I:Inv X aa σ H s)(k:∀b u,s.heap.get? b=some u->h'.get? b=some u):Inv X aa σ H { s with heap:=h',toks:=t' }:=I.un (Un.kept k) (I.hok.kept k)
theorem Inv.laid (I:Inv X aa σ H s)(k:∀b u,s.heap.get? b=some u->h'.get? b=some u)(hp:s.heap.objs.size<=a)(new:bC X.prog X.w (upd H a o) h' a o):
  Inv X aa σ (upd H a o) { s with heap:=h',toks:=t' }:=I.un (Un.laid k hp (I.hok.fresh hp)) (I.hok.laid k hp new)
theorem Inv.write (I:Inv X aa σ H s)(mu:Gb (H x))(he:e=x∨H e=some (.own x))(k:∀b u,b≠e->s.heap.get? b=some u->h'.get? b=some u)(D8:∃u,h'.get? e=some u)
  (new:bC X.prog X.w (upd H x o) h' x o):Inv X aa σ (upd H x o) { s with heap:=h',toks:=t' }:=I.un (Un.write mu he k D8) (I.hok.write mu he k D8 new)
theorem Inv.pins_of (I:Inv X aa σ H s)(h:∀p∈pins',s.heap.get? p.1=some p.2/\H p.1=none/\p.1≠X.env.locals/\p.1∉X.fs/\∀v,p.2.data≠.cell v):Inv X pins' σ H s :=
 ⟨I.ok,I.os,I.bare,I.base,I.loc,I.cell,I.free,I.freeC,λp hp=>(List.mem_append.mp hp).elim (λz=>I.pin p (List.mem_append_left _ z)) (h p),I.hok,I.len⟩
theorem oP {N:List Str}(hN:N.Nodup){i j:Nat}{x:Str}(a:N[i]? = some x)(b:N[j]? = some x):i=j:=by
 obtain⟨h1,e1⟩:=vV a;obtain⟨h2,e2⟩:=vV b;exact(List.getElem_inj hN).mp (e1.trans e2.symm)
theorem m8 {M:Model}{A:Around}{E:Value->Shared->Prop}{i:Nat}{x:Str}{v:V}{u:Value}{Q:Unit->Shared->Prop}(I:Inv X aa σ H s)(hN:X.N.Nodup)(hi:X.N[i]? = some x)(hx:B6 X.env.scope x)(r:aG v u)
  (h:∀s',Inv X aa (σ.set i (some v)) H s'->(∃a,Heap.SameBut a s.heap s'.heap/\(a=X.env.locals∨X.env.cells.lookup x=some a))->Q () s') (hf:X.fn x=true∨X.env.scope.names.lookup x=some .local:=by first|exact .inl rfl|exact .inr rfl|assumption):wpAny M A (storeName X.env x u) Q E s:=by
 obtain⟨m,hn,hl⟩:=id I.loc;have HM:(X.env.scope.kind == .class || (X.env.scope.kind == .module && X.env.locals != X.env.globals))=false:=by rw[I.ok.kind];rfl
 have vo:i<σ.length:=by rw[I.len];exact(vV hi).1
 have cne:=I.cne;have tY:∀ {a:Addr}{h':Heap},(∃o,s.heap.get? a=some o/\H a=none)->Heap.SameBut a s.heap h'->kl X.prog X.w H h':=λ{a h'} ha hs b ob e=>by
  obtain⟨_,_,Bp⟩:=ha;refine(I.hok b ob e).stay (λc w' hc q=>(hs.2 c ?_).trans q) (λ_ q=>q) (λ_ _ q=>q) λ_ _ _ q=>q;rintro rfl;rcases hc with rfl|hc
  ·rw[Bp]at e;cases e
  ·rw[Bp]at hc;cases hc
 rcases hx with hk|hk
 ·refine wpAny_storeName_local hk hn (λh' Lp hs=>?_) HM;obtain⟨oL,_,_,Fd,_⟩:=id hn;refine h _ ⟨I.ok,I.os,I.bare,⟨λb o e n hb hx=>?_,λb o e n hb hx=>?_,I.base.free,λb o e hx=>?_,I.base.tups,I.base.frzs,I.base.tbls⟩,⟨_,Lp,λj y v' e1 e2 e3=>?_⟩,λy c e=>?_,I.free,I.freeC,λp hp=>?_,tY ⟨oL,Fd,I.free⟩ hs,by simpa using I.len⟩ ⟨_,hs,.inl rfl⟩
  ·exact(hs.2 b (vS (vQ (vX e) I.ok.above))).trans (I.base.keep b o e n hb hx)
  ·obtain⟨sl,e1⟩:=I.base.slot b o e n hb hx;exact⟨sl,(hs.2 b (vS (vQ (vX e) I.ok.above))).trans e1⟩
  ·obtain⟨o',e1⟩:=I.base.there b o e hx;exact⟨o',(hs.2 b (vS (vQ (vX e) I.ok.above))).trans e1⟩
  ·by_cases hj:j=i
   ·subst hj;rw[hi]at e1;cases e1;rw[List.getElem?_set_self vo]at e2;cases e2
    exact⟨u,r,.inl ⟨hk,by simp⟩⟩
   ·rw[vB (Ne.symm hj)]at e2;obtain⟨u',r',q⟩:=hl j y v' e1 e2 e3;refine⟨u',r',?_⟩;rcases q with⟨k,e⟩|⟨k,c,e,z⟩
    ·refine .inl ⟨k,?_⟩;have:y≠x:=λe=>hj (oP hN e1 (e ▸ hi));simp[this,e]
    ·exact .inr ⟨k,c,e,z.sameBut hs (cne y c e)⟩
  ·obtain⟨w',z⟩:=I.cell y c e;exact⟨w',z.sameBut hs (cne y c e)⟩
  ·obtain⟨e,n,ne,nf,d⟩:=I.pin p hp;exact⟨(hs.2 p.1 ne).trans e,n,ne,nf,d⟩
 ·have HN:X.fn x=true:=by
   rcases hf with z|z
   ·exact z
   ·rw[z]at hk;cases hk
  obtain⟨c,hc⟩:=I.ok.has x (.inl hk);obtain⟨w',z⟩:=I.cell x c hc;refine wpAny_storeName_cell I.ok.kind hk hc z (λh' Gw hs=>?_);obtain⟨oc,Ju,HP⟩:=id z;refine h { s with heap:=h' } ⟨I.ok,I.os,I.bare,⟨λb o e n hb hx=>?_,λb o e n hb hx=>?_,I.base.free,λb o e hx=>?_,I.base.tups,I.base.frzs,I.base.tbls⟩,⟨m,hn.sameBut hs (Ne.symm (cne x c hc)),λj y v' e1 e2 e3=>?_⟩,λy c' e=>?_,I.free,I.freeC,λp hp=>?_,tY ⟨oc,Ju,I.freeC x c hc⟩ hs,by simpa using I.len⟩ ⟨c,hs,.inr hc⟩
  ·exact(hs.2 b (vS (vQ (vX e) (I.ok.cab x c HN hc)))).trans (I.base.keep b o e n hb hx)
  ·obtain⟨sl,e1⟩:=I.base.slot b o e n hb hx;exact⟨sl,(hs.2 b (vS (vQ (vX e) (I.ok.cab x c HN hc)))).trans e1⟩
  ·obtain⟨o',e1⟩:=I.base.there b o e hx;exact⟨o',(hs.2 b (vS (vQ (vX e) (I.ok.cab x c HN hc)))).trans e1⟩
  ·by_cases hj:j=i
   ·subst hj;rw[hi]at e1;cases e1;rw[List.getElem?_set_self vo]at e2;cases e2
    exact⟨u,r,.inr ⟨.inl hk,c,hc,Gw⟩⟩
   ·rw[vB (Ne.symm hj)]at e2;obtain⟨u',r',q⟩:=hl j y v' e1 e2 e3;refine⟨u',r',?_⟩;rcases q with q|⟨k,c',e,z'⟩
    ·exact .inl q
    ·refine .inr ⟨k,c',e,z'.sameBut hs ?_⟩;rintro rfl;exact hj (oP hN e1 (I.ok.inj _ _ _ e hc ▸ hi))
  ·by_cases hcc:c'=c
   ·subst hcc;exact⟨_,Gw⟩
   ·obtain⟨w2,z2⟩:=I.cell y c' e;exact⟨w2,z2.sameBut hs hcc⟩
  ·obtain⟨e,n,ne,nf,d⟩:=I.pin p hp;refine⟨(hs.2 p.1 ?_).trans e,n,ne,nf,d⟩;intro q;rw[q,Ju]at e;have q':oc=p.2:=vK e;exact d w' (by rw[←q'];exact HP)
theorem oQ {M:Model}{A:Around}{E:Value->Shared->Prop}{i:Nat}{x:Str}{v:V}{u:Value}{Q:Unit->Shared->Prop}(I:Inv X aa σ H s)(hN:X.N.Nodup)(hi:X.N[i]? = some x)(hx:B6 X.env.scope x)(r:aG v u)
  (h:∀s',Inv X aa (σ.set i (some v)) H s'->Q () s') (hf:X.fn x=true∨X.env.scope.names.lookup x=some .local:=by first|exact .inl rfl|exact .inr rfl|assumption):wpAny M A (storeName X.env x u) Q E s :=
 m8 I hN hi hx r (λs' I' _=>h s' I') hf
theorem Inv.call' (I:Inv X aa σ H s)(ho:s'.os=s.os)(u:Un (v7 X.stack) ch H H' s.heap s'.heap)(hok:kl X.prog X.w H' s'.heap)(hg:AllBare s'.gens)
  (vN:∀b∈ch,(b∈X.ex∨X.s₀.heap.objs.size<=b)/\b≠X.env.locals/\(∀x c,X.env.cells.lookup x=some c->c≠b)/\∀p∈X.pn++aa,p.1≠b):Inv X aa σ H' s':=by
 obtain⟨h',g',d',t',o'⟩:=s';have e:o'=s.os:=ho;subst e;exact I.call (g':=g') (t':=t') (d':=d') u hok hg vN
end
abbrev XK:=Value->Option Addr->Hp->Prop
abbrev St:=List (Option V)
abbrev VK:=V->Hp->Prop
abbrev TE:=St->Hp->VK->Prop
abbrev TT:=St->Hp->(Bool->Hp->Prop)->Prop
abbrev TA:=St->Hp->(List V->Hp->Prop)->Prop
structure Ends where
 nx:St->Hp->Prop
 rt:VK
 bk:St->Hp->Prop:=λ_ _=>False
 ct:St->Hp->Prop:=λ_ _=>False
abbrev TS:=Ends->St->Hp->Prop
def EP (X:Cx)(aa:List (Addr×Obj))(σ:St)(Q:VK)(u:Value)(s':Shared):Prop:=∃v H',Inv X aa σ H' s'/\aG v u/\Q v H'
def TP (X:Cx)(aa:List (Addr×Obj))(σ:St)(Q:Bool->Hp->Prop)(b:Bool)(s':Shared):Prop:=∃H',Inv X aa σ H' s'/\Q b H'
def AP (X:Cx)(aa:List (Addr×Obj))(σ:St)(Q:List V->Hp->Prop)(us:List Value)(s':Shared):Prop:=∃vs H',Inv X aa σ H' s'/\a9 vs us/\Q vs H'
def SP (X:Cx)(aa:List (Addr×Obj))(D:Ends)(f:Flow)(s':Shared):Prop :=
 match f with
 |.next=>∃σ' H',Inv X aa σ' H' s'/\D.nx σ' H'
 |.brk=>∃σ' H',Inv X aa σ' H' s'/\D.bk σ' H'
 |.cont=>∃σ' H',Inv X aa σ' H' s'/\D.ct σ' H'
 |.ret u=>∃v σ' H',Inv X aa σ' H' s'/\aG v u/\D.rt v H'
def PE (X:Cx)(e:Expr)(t:TE):Prop :=
 ∀(aa:List (Addr×Obj))(s:Shared)(σ:St)(H:Hp)(Q:VK),Inv X aa σ H s->t σ H Q->wq X (eval e X.env) (EP X aa σ Q) X.xe s
def PT (X:Cx)(e:Expr)(t:TT):Prop :=
 ∀(aa:List (Addr×Obj))(s:Shared)(σ:St)(H:Hp)(Q:Bool->Hp->Prop),Inv X aa σ H s->t σ H Q->wq X (isTrue e X.env (eval e X.env)) (TP X aa σ Q) X.xe s
def PW (X:Cx)(e:Expr)(t:TT):Prop :=
 ∀(lO:Sem Value)(aa:List (Addr×Obj))(s:Shared)(σ:St)(H:Hp)(Q:Bool->Hp->Prop),Inv X aa σ H s->t σ H Q->wq X (isTrue e X.env lO) (TP X aa σ Q) X.xe s
theorem PW.pt (h:PW X e t):PT X e t:=h _
def PA (X:Cx)(es:List Expr)(t:TA):Prop :=
 ∀(pos:Pos)(aa:List (Addr×Obj))(s:Shared)(σ:St)(H:Hp)(Q:List V->Hp->Prop),Inv X aa σ H s->t σ H Q->wq X (spliced (backTo pos (starEach es X.env))) (AP X aa σ Q) X.xe s
def PS (X:Cx)(st:Stmt)(t:TS):Prop :=
 ∀(aa:List (Addr×Obj))(s:Shared)(σ:St)(H:Hp)(D:Ends),Inv X aa σ H s->t D σ H->wq X (exec st X.env) (SP X aa D) X.xe s
def nL (X:Cx)(st:List Stmt)(t:TS):Prop :=
 ∀(aa:List (Addr×Obj))(s:Shared)(σ:St)(H:Hp)(D:Ends),Inv X aa σ H s->t D σ H->wq X (execs st X.env) (SP X aa D) X.xe s
theorem bH {α:Type}{t:Sem α}{Q Q':α->Shared->Prop}{M:Model}{A:Around}{E:Value->Shared->Prop}{s:Shared}(h:wpAny M A t Q E s)(hQ:∀a s,Q a s->Q' a s):wpAny M A t Q' E s:=wpAny_mono h hQ λ_ _ x=>x
section
variable {X:Cx}
theorem MH {a b:Expr}{ta tb:TE}(ha:PE X a ta)(hb:PE X b tb){aa:List (Addr×Obj)}{s:Shared}{σ:St}{H:Hp}{R:V->V->Hp->Prop}(I:Inv X aa σ H s)(h:ta σ H λx H1=>tb σ H1 λy H2=>R x y H2)
  {α:Type}{Q:α->Shared->Prop}{f:Value->Value->Sem α}
  (hf:∀v u s2 x y H2,Inv X aa σ H2 s2->aG x v->aG y u->R x y H2->wq X (f v u) Q X.xe s2):
  wq X (eval a X.env) (λv s₁=>wq X (eval b X.env) (λu s₂=>wq X (f v u) Q X.xe s₂) X.xe s₁) X.xe s:=by
 refine bH (ha aa s σ H _ I h) λv s1 ⟨x,H1,I1,r1,q1⟩=>?_;refine bH (hb aa s1 σ H1 _ I1 q1) λu s2 ⟨y,H2,I2,r2,q2⟩=>?_;exact hf v u s2 x y H2 I2 r1 r2 q2
def DK (i:Nat):TE:=λσ H Q=>∃v,σ[i]? = some (some v)/\Q v H
def tC (v:V):TE:=λ_ H Q=>Q v H
theorem jx (hN:X.N[i]? = some x)(hv:yE X.env.scope x)(hd:(x == ("__debug__" : Str))=false:=by decide)(jX:(x == ("__classdict__" : Str))=false:=by decide):PE X (.Name x pos) (DK i):=by
 intro aa s σ H Q I h;obtain⟨v,e,h⟩:=h;obtain⟨m,hn,hl⟩:=I.loc;obtain⟨u,r,l⟩:=hl i x v hN e hv;have fin:EP X aa σ Q u s:=⟨v,H,I,r,h⟩;rcases l with⟨hk,hm⟩|⟨hk,c,hc,Bq⟩
 ·exact wpAny_Name (wpAny_loadName_local I.ok.kind hk hn hm fin) hd
 ·rcases hk with hk|hk
  ·exact wpAny_Name (wpAny_loadName_cell I.ok.kind hk hc Bq fin) hd
  ·exact wpAny_Name (wpAny_loadName_free I.ok.kind hk hc Bq fin jX) hd
theorem B7 {i j pos}:PE X (.Constant (.int i) j pos) (tC (.int i)):=λ_ _ _ H _ I h=>wpAny_Constant_int ⟨.int i,H,I.tok _,⟨_,rfl⟩,h⟩
theorem DM {b j pos}:PE X (.Constant (.bool b) j pos) (tC (.bl b)):=λ_ _ _ H _ I h=>Constant_bool ⟨.bl b,H,I,rfl,h⟩
theorem B8 {j pos}:PE X (.Constant .none j pos) (tC .non):=λ_ _ _ H _ I h=>Constant_none ⟨.non,H,I,rfl,h⟩
theorem B9 {x j pos}:PE X (.Constant (.str x) j pos) (tC (.str x)):=λ_ _ _ H _ I h=>Calls.Constant_str ⟨.str x,H,I.tok _,⟨_,rfl⟩,h⟩
def Gl (X:Cx)(x:Str):Prop:=X.env.kindOf x=some .globalImplicit
theorem sn {E:Value->Shared->Prop}{aa:List (Addr×Obj)}{s:Shared}{σ:St}{H:Hp}{x:Str}{u:Value}{pos:Pos}{Q:Value->Shared->Prop}(I:Inv X aa σ H s)(hg:Gl X x)(hm:X.mg x=some u)(h:Q u s)
  (hd:(x == ("__debug__" : Str))=false:=by decide):wq X (eval (.Name x pos) X.env) Q E s :=
 Calls.Name_function_global I.ok.kind hg (Calls.loadGlobal_global (by rw[I.ok.glob];exact I.mod.glob.keeps I.bk) hm h) hd
theorem hZ {E:Value->Shared->Prop}{aa:List (Addr×Obj)}{s:Shared}{σ:St}{H:Hp}{x:Str}{u:Value}{pos:Pos}{Q:Value->Shared->Prop}(I:Inv X aa σ H s)(hg:Gl X x)(hm:X.mg x=none)(hv:bootBuiltins x=some u)(h:Q u s)
  (hn:x ≠ "__name__":=by decide) (hd:(x == ("__debug__" : Str))=false:=by decide):wq X (eval (.Name x pos) X.env) Q E s:=by
 obtain⟨mb,h1,h2⟩:=I.mod.blt;exact Calls.Name_function_global I.ok.kind hg (Calls.loadGlobal_builtin (by rw[I.ok.glob];exact I.mod.glob.keeps I.bk) hm (by rw[I.ok.blt];exact h1.keeps I.bk) ((h2 x hn).trans hv) h) hd
theorem kn (hg:Gl X x)(hm:X.mg x=some u)(r:aG v u)(hd:(x == ("__debug__" : Str))=false:=by decide):PE X (.Name x pos) (tC v) :=
 λ_ _ _ H _ I h=>sn I hg hm ⟨v,H,I,r,h⟩ hd
theorem yW (hg:Gl X x)(hm:X.mg x=none)(hv:bootBuiltins x=some u)(r:aG v u)(hn:x ≠ "__name__":=by decide)(hd:(x == ("__debug__" : Str))=false:=by decide):PE X (.Name x pos) (tC v) :=
 λ_ _ _ H _ I h=>hZ I hg hm hv ⟨v,H,I,r,h⟩ hn hd
variable {a b:Expr}{ta tb:TE}{pos:Pos}
def PC (X:Cx)(op:CmpOp)(a b:Expr)(t:TE):Prop :=
 ∀(aa:List (Addr×Obj))(s:Shared)(σ:St)(H:Hp)(Q:VK),Inv X aa σ H s->t σ H Q ->
  wq X (eval a X.env) (λv s₁=>wq X (eval b X.env) (λu s₂=>wq X (compareOp op v u) (EP X aa σ Q) X.xe s₂) X.xe s₁) X.xe s
theorem kE (b:Expr){op:CmpOp}(h:op≠.In)(h2:op≠.NotIn):behindInMarks op b=false:=by
 have e1:(op == CmpOp.In)=false:=by cases op<;>first|rfl|exact absurd rfl h
 have e2:(op == CmpOp.NotIn)=false:=by cases op<;>first|rfl|exact absurd rfl h2
 cases b<;>simp[behindInMarks,e1,e2]
def tB (t:TE):TT:=λσ H Q=>t σ H λx H1=>∃c,x=.bl c/\Q c H1
theorem GK {op:CmpOp}{t:TE}(h:PC X op a b t)(h1:behindInMarks op b=false:=by first|exact kE _ (by decide) (by decide)|rfl):PT X (.Compare a [op] [b] pos) (tB t):=by
 intro aa s σ H Q I hw;refine wpAny_isTrue_Compare1 (bH (h aa s σ H _ I hw) λv s1 h1=>bH h1 λu s2 h2=>bH h2 λc s3 ⟨x,H1,I1,r1,q1⟩=>?_) h1;obtain⟨d,rfl,q⟩:=q1;cases r1
 exact wpAny_truthy_bool ⟨H1,I1,q⟩
theorem BA {e:Expr}{t:TE}(h:PE X e t)(he:∀lO,isTrue e X.env lO=(do let v ←lO;standAt e.pos;holding [v] (truthy v)):=by intro _;rfl):PT X e (tB t):=by
 intro aa s σ H Q I hw;refine isTrue_plain (bH (h aa s σ H _ I hw) λv s1 ⟨x,H1,I1,r1,q1⟩=>?_) (he _);obtain⟨d,rfl,q⟩:=q1;cases r1
 exact wpAny_truthy_bool ⟨H1,I1,q⟩
variable {tA Gx:TT}{rest:List Expr}
def DN (t u:TT):TT:=λσ H Q=>t σ H λc H1=>if c=true then u σ H1 Q else Q false H1
def Jb (t u:TT):TT:=λσ H Q=>t σ H λc H1=>if c=true then Q true H1 else u σ H1 Q
def DO (t:TT):TT:=λσ H Q=>t σ H λc H1=>Q (!c) H1
theorem yX (ha:PT X a tA):PW X (.BoolOp .And [a] pos) tA:=by
 intro wh aa s σ H Q I h;refine isTrue_and (bH (ha aa s σ H Q I h) λc s1 e=>?_);cases c with
 |true=>exact isTrue_and_nil e
 |false=>exact e
theorem BB (ha:PT X a tA):PW X (.BoolOp .Or [a] pos) tA:=by
 intro wh aa s σ H Q I h;refine isTrue_or (bH (ha aa s σ H Q I h) λc s1 e=>?_);cases c with
 |false=>exact isTrue_or_nil e
 |true=>exact e
theorem BC (ha:PT X a tA)(hb:PW X (.BoolOp .And (b::rest) pos) Gx):PW X (.BoolOp .And (a::b::rest) pos) (DN tA Gx):=by
 intro wh aa s σ H Q I h;refine isTrue_and (bH (ha aa s σ H _ I h) λc s1 ⟨H1,I1,q1⟩=>?_);cases c with
 |true=>exact hb wh aa s1 σ H1 Q I1 q1
 |false=>exact⟨H1,I1,q1⟩
theorem DQ (ha:PT X a tA)(hb:PW X (.BoolOp .Or (b::rest) pos) Gx):PW X (.BoolOp .Or (a::b::rest) pos) (Jb tA Gx):=by
 intro wh aa s σ H Q I h;refine isTrue_or (bH (ha aa s σ H _ I h) λc s1 ⟨H1,I1,q1⟩=>?_);cases c with
 |true=>exact⟨H1,I1,q1⟩
 |false=>exact hb wh aa s1 σ H1 Q I1 q1
theorem BD (ha:PT X a tA):PT X (.UnaryOp .Not a pos) (DO tA):=by
 intro aa s σ H Q I h;exact isTrue_not (ha aa s σ H (λc H1=>Q (!c) H1) I h)
def DR (ta tb:TE):TE:=λσ H Q=>ta σ H λx H1=>∃c,x=.bl c/\if c=true then tb σ H1 Q else Q (.bl false) H1
def GL (ta tb:TE):TE:=λσ H Q=>ta σ H λx H1=>∃c,x=.bl c/\if c=true then Q (.bl true) H1 else tb σ H1 Q
def DS (ta:TE):TE:=λσ H Q=>ta σ H λx H1=>∃c,x=.bl c/\Q (.bl (!c)) H1
theorem BE {op}(h:PE X a t):PE X (.BoolOp op [a] pos) t:=λaa s σ H Q I hw=>BoolOp_one (h aa s σ H Q I hw)
theorem BF (ha:PE X a ta)(hb:PE X (.BoolOp .And (b::rest) pos) tb):PE X (.BoolOp .And (a::b::rest) pos) (DR ta tb):=by
 intro aa s σ H Q I h;refine BoolOp_and (bH (ha aa s σ H _ I h) λv s1 ⟨x,H1,I1,r1,q1⟩=>?_);obtain⟨c,rfl,q1⟩:=q1;cases r1
 refine wpAny_truthy_bool ?_;cases c with
 |true=>exact hb aa s1 σ H1 Q I1 q1
 |false=>exact⟨.bl false,H1,I1,rfl,q1⟩
theorem DT (ha:PE X a ta)(hb:PE X (.BoolOp .Or (b::rest) pos) tb):PE X (.BoolOp .Or (a::b::rest) pos) (GL ta tb):=by
 intro aa s σ H Q I h;refine BoolOp_or (bH (ha aa s σ H _ I h) λv s1 ⟨x,H1,I1,r1,q1⟩=>?_);obtain⟨c,rfl,q1⟩:=q1;cases r1
 refine wpAny_truthy_bool ?_;cases c with
 |false=>exact hb aa s1 σ H1 Q I1 q1
 |true=>exact⟨.bl true,H1,I1,rfl,q1⟩
theorem BG (ha:PE X a ta):PE X (.UnaryOp .Not a pos) (DS ta):=by
 intro aa s σ H Q I h;refine UnaryOp_ (bH (ha aa s σ H _ I h) λv s1 ⟨x,H1,I1,r1,q1⟩=>?_);obtain⟨c,rfl,q1⟩:=q1;cases r1
 exact not_of (wpAny_truthy_bool ⟨.bl (!c),H1,I1,rfl,q1⟩)
end
def eP (K:Frag)(H:Hp)(a:Addr)(xs:List V):Prop :=
 Rd H a (.lst xs) ∨
  ∃(o:Obj)(its:Array Value)(n:Nat),K.lookup a=some o/\o.cls=.type "list"/\o.dict=none/\o.data=.seq its n/\its.size<=sizeLine/\a9 xs its.toList
def fg (K:Frag)(H:Hp)(a:Addr)(xs:List V):Prop :=
 Rd H a (.tup xs) ∨
  ∃(o:Obj)(its:Array Value)(n:Nat),K.lookup a=some o/\o.cls=.type "tuple"/\o.data=.seq its n/\its.size<=sizeLine/\a9 xs its.toList
noncomputable def GN:Value->Option V
 |.none=>some .non
 |.bool b=>some (.bl b)
 |.int i _=>some (.int i)
 |.str x _=>some (.str x)
 |.bytes b _=>some (.byt b)
 |.float b _=>some (.flt b)
 |.ref a=>some (.ref a)
 |.type n=>some (.ty n)
 |_=>none
theorem aG.abs (r:aG x u):GN u=some x:=by
 cases x with
 |non=>cases r;rfl
 |bl _=>cases r;rfl
 |int _=>obtain⟨t,rfl⟩:=r;rfl
 |str _=>obtain⟨t,rfl⟩:=r;rfl
 |byt _=>obtain⟨t,rfl⟩:=r;rfl
 |flt _=>obtain⟨t,rfl⟩:=r;rfl
 |ref _=>cases r;rfl
 |ty _=>cases r;rfl
theorem aG.inj (r:aG x u)(q:aG y u):x=y:=vK (r.abs.symm.trans q.abs)
theorem a9.inj:∀ {xs ys:List V}{us:List Value},a9 xs us->a9 ys us->xs=ys
 |_,_,_,.nil,.nil=>rfl
 |_,_,_,.cons r t,.cons r' t'=>by rw[r.inj r',a9.inj t t']
section
variable {X:Cx}{aa:List (Addr×Obj)}{σ:St}{H:Hp}{s:Shared}{a:Addr}{xs ys:List V}
theorem eP.of {K:Frag}(h:H a=some (.lst xs)):eP K H a xs:=.inl (.inl h)
theorem fg.of {K:Frag}(h:H a=some (.tup xs)):fg K H a xs:=.inl (.inl h)
theorem Inv.list (I:Inv X aa σ H s)(h:eP X.K H a xs):∃its:List Value,a9 xs its/\PlainL s.heap a its.toArray/\xs.length<=sizeLine:=by
 rcases h with h|⟨o,its,n,hk,hc,hd,hs,hz,r⟩
 ·obtain⟨z,its,n,r,e⟩:=h.ok I.hok;exact⟨its,r,⟨_,n,e,rfl,rfl,rfl⟩,z⟩
 ·refine⟨its.toList,r,⟨o,n,I.kIn a o hk,hc,hd,by simpa using hs⟩,?_⟩;have e:=r.length;simp only[vF]at e;omega
theorem Inv.tuple (I:Inv X aa σ H s)(h:fg X.K H a xs):∃its:List Value,a9 xs its/\IsTup s.heap a its.toArray/\xs.length<=sizeLine:=by
 rcases h with h|⟨o,its,n,hk,hc,hs,hz,r⟩
 ·obtain⟨z,its,r,p⟩:=h.ok I.hok;exact⟨its,r,p,z⟩
 ·refine⟨its.toList,r,⟨o,I.kIn a o hk,hc,n,by simpa using hs⟩,?_⟩;have e:=r.length;simp only[vF]at e;omega
theorem Inv.list_inj (I:Inv X aa σ H s)(h:eP X.K H a xs)(h':eP X.K H a ys):xs=ys:=by
 obtain⟨its,r,⟨o,n,e,_,_,d⟩,_⟩:=I.list h;obtain⟨its',r',⟨o',n',e',_,_,d'⟩,_⟩:=I.list h';rw[e]at e';cases e';rw[d]at d';injection d' with d1 _;have:its=its':=by simpa using congrArg Array.toList d1
 subst this;exact r.inj r'
theorem Inv.tuple_inj (I:Inv X aa σ H s)(h:fg X.K H a xs)(h':fg X.K H a ys):xs=ys:=by
 obtain⟨its,r,⟨o,e,_,n,d⟩,_⟩:=I.tuple h;obtain⟨its',r',⟨o',e',_,n',d'⟩,_⟩:=I.tuple h';rw[e]at e';cases e';rw[d]at d';injection d' with d1 _;have:its=its':=by simpa using congrArg Array.toList d1
 subst this;exact r.inj r'
end
noncomputable abbrev Cx.wish (X:Cx)(E:Value->Shared->Prop):Cx:={ X with xe:=E }
noncomputable abbrev Cx.nox (X:Cx):Cx:=X.wish λ_ _=>False
theorem Cx.Ok.wish {X:Cx}(ok:X.Ok)(E:Value->Shared->Prop):(X.wish E).Ok :=
 ⟨ok.mod,ok.kind,ok.glob,ok.blt,ok.above,ok.inj,ok.has,ok.cab,ok.hd,ok.frames,ok.stk,ok.exf,ok.bs,ok.bsz,ok.noex,ok.exfs,ok.funs,ok.frf⟩
theorem Cx.Ok.unwish {X:Cx}{E:Value->Shared->Prop}(ok:(X.wish E).Ok):X.Ok :=
 ⟨ok.mod,ok.kind,ok.glob,ok.blt,ok.above,ok.inj,ok.has,ok.cab,ok.hd,ok.frames,ok.stk,ok.exf,ok.bs,ok.bsz,ok.noex,ok.exfs,ok.funs,ok.frf⟩
section
variable {X:Cx}{aa:List (Addr×Obj)}{σ:St}{H:Hp}{s:Shared}{E:Value->Shared->Prop}
theorem Inv.wish (I:Inv X aa σ H s)(E:Value->Shared->Prop):Inv (X.wish E) aa σ H s:=⟨I.ok.wish E,I.os,I.bare,I.base,I.loc,I.cell,I.free,I.freeC,I.pin,I.hok,I.len⟩
theorem Inv.unwish (I:Inv (X.wish E) aa σ H s):Inv X aa σ H s:=⟨I.ok.unwish,I.os,I.bare,I.base,I.loc,I.cell,I.free,I.freeC,I.pin,I.hok,I.len⟩
theorem SP.unwish (h:SP (X.wish E) aa D f s'):SP X aa D f s':=by
 cases f with
 |next=>obtain⟨σ',H',I,q⟩:=h;exact⟨σ',H',I.unwish,q⟩
 |brk=>obtain⟨σ',H',I,q⟩:=h;exact⟨σ',H',I.unwish,q⟩
 |cont=>obtain⟨σ',H',I,q⟩:=h;exact⟨σ',H',I.unwish,q⟩
 |ret u=>obtain⟨v,σ',H',I,r,q⟩:=h;exact⟨v,σ',H',I.unwish,r,q⟩
theorem PE.nox (h:PE X.nox e t):PE X e t:=λaa s σ H Q I hw=>
 wpAny_mono (h aa s σ H Q (I.wish _) hw) (λ_ _ ⟨v,H',I',r,q⟩=>⟨v,H',I'.unwish,r,q⟩) λ_ _ z=>False.elim z
theorem PT.nox (h:PT X.nox e t):PT X e t:=λaa s σ H Q I hw=>
 wpAny_mono (h aa s σ H Q (I.wish _) hw) (λ_ _ ⟨H',I',q⟩=>⟨H',I'.unwish,q⟩) λ_ _ z=>False.elim z
theorem nL.nox {st:List Stmt}{t:TS}(h:nL X.nox st t):nL X st t:=λaa s σ H D I hw=>
 wpAny_mono (h aa s σ H D (I.wish _) hw) (λ_ _ q=>q.unwish) λ_ _ z=>False.elim z
end
section
variable {X:Cx}{st:Stmt}{rest:List Stmt}{t u:TS}{e:Expr}{te:TE}{pos:Pos}
def AI:TS:=λD σ H=>D.nx σ H
def DU (t u:TS):TS:=λD σ H=>t { D with nx:=u D } σ H
theorem yY:nL X [] AI:=λ_ _ σ H _ I h=>wpAny_execs_nil ⟨σ,H,I,h⟩
theorem wc (h1:PS X st t)(h2:nL X rest u):nL X (st::rest) (DU t u):=by
 intro aa s σ H D I h;refine wpAny_execs_cons (bH (h1 aa s σ H { D with nx:=u D } I h) λf s1 q=>?_);cases f with
 |next=>
  obtain⟨σ',H',I',q⟩:=q;exact h2 aa s1 σ' H' D I' q
 |ret v=>exact q
 |brk=>exact q
 |cont=>exact q
theorem yZ (h1:PS X st t):nL X [st] t:=by
 intro aa s σ H D I h;refine wpAny_execs_cons (bH (h1 aa s σ H D I h) λf s1 q=>?_);cases f with
 |next=>exact wpAny_execs_nil q
 |ret v=>exact q
 |brk=>exact q
 |cont=>exact q
theorem Inv.quiet (I:Inv X aa σ H s):interactive X.env=false:=by simp[interactive,I.ok.kind]
def DV (te:TE):TS:=λD σ H=>te σ H λ_ H1=>D.nx σ H1
theorem nM (he:PE X e te)(hs:swapsWith e none pos.line X.env=pure false:=by rfl):PS X (.Expr e pos) (DV te):=by
 intro aa s σ H D I h;exact wpAny_Expr_any (bH (he aa s σ H _ I h) λv s1 ⟨x,H1,I1,r1,q1⟩=>⟨σ,H1,I1,q1⟩) I.quiet hs
def BH (te:TE):TS:=λD σ H=>te σ H D.rt
theorem we (he:PE X e te):PS X (.Return (some e) pos) (BH te):=by
 intro aa s σ H D I h;exact wpAny_Return_some (bH (he aa s σ H _ I h) λv s1 ⟨x,H1,I1,r1,q1⟩=>⟨x,σ,H1,I1,r1,q1⟩)
def DW (c:TT)(t u:TS):TS:=λD σ H=>c σ H λb H1=>if b=true then t D σ H1 else u D σ H1
theorem DX {c:Expr}{a b:List Stmt}{tc:TT}(hc:PT X c tc)(ha:nL X a t)(hb:nL X b u):PS X (.If c a b pos) (DW tc t u):=by
 intro aa s σ H D I h;refine wpAny_If (bH (hc aa s σ H _ I h) λd s1 ⟨H1,I1,q1⟩=>?_);cases d with
 |true=>exact ha aa s1 σ H1 D I1 q1
 |false=>exact hb aa s1 σ H1 D I1 q1
end
abbrev TG:=V->St->Hp->(St->Hp->Prop)->Prop
abbrev BI:=List V->St->Hp->(St->Hp->Prop)->Prop
def PG (X:Cx)(lP:Expr)(t:TG):Prop :=
 ∀(aa:List (Addr×Obj))(s:Shared)(σ:St)(H:Hp)(v:V)(u:Value)(Q:St->Hp->Prop),Inv X aa σ H s->aG v u->t v σ H Q ->
  wq X (assign lP X.env u) (λ_ s'=>∃σ' H',Inv X aa σ' H' s'/\Q σ' H') X.xe s
def qG (X:Cx)(ts:List Expr)(t:BI):Prop :=
 ∀(aa:List (Addr×Obj))(s:Shared)(σ:St)(H:Hp)(vs:List V)(us:List Value)(Q:St->Hp->Prop),Inv X aa σ H s->a9 vs us->t vs σ H Q ->
  wq X (assignInOrder ((assignEach ts X.env).map (·.2)) us) (λ_ s'=>∃σ' H',Inv X aa σ' H' s'/\Q σ' H') X.xe s
abbrev BJ:=V->V->V->Hp->(Hp->Prop)->Prop
def DY (X:Cx)(t:BJ):Prop :=
 ∀(aa:List (Addr×Obj))(s:Shared)(σ:St)(H:Hp)(o i v:V)(ov iv u:Value)(Q:Hp->Prop),Inv X aa σ H s->aG o ov->aG i iv->aG v u->t o i v H Q ->
  wq X (setItem ov iv u) (λ_ s'=>∃H',Inv X aa σ H' s'/\Q H') X.xe s
section
variable {X:Cx}{pos:Pos}
def iI (i:Nat):TG:=λv σ H Q=>Q (σ.set i (some v)) H
theorem sq (hN:X.N.Nodup)(hi:X.N[i]? = some x)(hx:B6 X.env.scope x)(hf:X.fn x=true∨X.env.scope.names.lookup x=some .local:=by first|exact .inl rfl|exact .inr rfl|assumption):PG X (.Name x pos) (iI i):=by
 intro aa s σ H v u Q I r h;exact wpAny_assign_Name (oQ I hN hi hx r (λs' I'=>⟨_,H,I',h⟩) hf)
def DZ:BI:=λvs σ H Q=>vs=[]/\Q σ H
def AJ (t:TG)(u:BI):BI:=λvs σ H Q=>∃v r,vs=v::r/\t v σ H λσ' H'=>u r σ' H' Q
theorem ko:qG X [] DZ:=by
 intro aa s σ H vs us Q I r h;obtain⟨e,h⟩:=h;subst e;cases r
 exact assignInOrder_nil ⟨σ,H,I,h⟩
theorem cZ {e:Expr}{es:List Expr}{t:TG}{u:BI}(h1:PG X e t)(h2:qG X es u)
  (hs:(assignEach (e::es) X.env).map (·.2)=assign e X.env::(assignEach es X.env).map (·.2):=by rfl):qG X (e::es) (AJ t u):=by
 intro aa s σ H vs us Q I r h;obtain⟨v,vr,e1,h⟩:=h;subst e1;cases r with
 |cons r rr=>
  rw[hs];refine assignInOrder_cons (bH (h1 aa s σ H _ _ _ I r h) λ_ s1 ⟨σ1,H1,I1,q1⟩=>?_);exact h2 aa s1 σ1 H1 _ _ Q I1 rr q1
def BK (K:Frag)(n:Nat)(t:BI):TG:=λv σ H Q=>∃a xs,v=.ref a/\fg K H a xs/\xs.length=n/\t xs σ H Q
theorem nN (hc:X.calm=true)(h:qG X es t)
  (hn:(assignEach es X.env).length=n:=by rfl) (nK:(assignEach es X.env).findIdx? (·.1)=none:=by rfl):PG X (.Tuple es k pos) (BK X.K n t):=by
 intro aa s σ H v u Q I r hw;obtain⟨a,xs,e1,hq,hl,hw⟩:=hw;subst e1;cases r
 obtain⟨its,rv,ht,hz⟩:=I.tuple hq;refine assign_Tuple_tuple (I.ok.hd hc) ht (by simp[hn,←hl,rv.length]) nK λh' hx=>?_;have I1:Inv X aa σ H { s with heap:=h' }:=I.kept (t':=s.toks) λb o e=>hx b o (vS (vX e)) e;exact h aa _ σ H xs _ Q I1 (by simpa using rv) hw
def GO (to ti:TE)(t:BJ):TG:=λv σ H Q=>to σ H λo H1=>ti σ H1 λi H2=>t o i v H2 λH3=>Q σ H3
theorem BL {o i:Expr}{to ti:TE}{t:BJ}(ho:PE X o to)(hi:PE X i ti)(hs:DY X t)
  (ha:∀v,assign (.Subscript o i pos) X.env v=(do
   let ov ←holding [v] (eval o X.env)
   let iv ←holding [v,ov] (eval i X.env)
   standAt pos
   holding [v,ov,iv] (setItem ov iv v)
   release [v,ov,iv] []):=by intro _;rfl):PG X (.Subscript o i pos) (GO to ti t):=by
 intro aa s σ H v u Q I r h;rw[ha];refine wX (wpAny_holding (bH (ho aa s σ H _ I h) λov s1 ⟨x,H1,I1,r1,q1⟩=>?_));refine wX (wpAny_holding (bH (hi aa s1 σ H1 _ I1 q1) λiv s2 ⟨y,H2,I2,r2,q2⟩=>?_));refine wX (wpAny_standAt (wX (wpAny_holding (bH (hs aa s2 σ H2 x y v ov iv u _ I2 r1 r2 r q2) λ_ s3 ⟨H3,I3,q3⟩=>?_))));exact wpAny_release ⟨σ,H3,I3,q3⟩
def za (te:TE)(g:TG):TS:=λD σ H=>te σ H λx H1=>g x σ H1 D.nx
theorem BM {tg e:Expr}{te:TE}{g:TG}(he:PE X e te)(hg:PG X tg g)(hs:swapsWithSole [tg] e pos.line X.env=pure false:=by rfl)(hw:swappedStores [tg] e X.env=pure none:=by rfl)
  (h1:(assignEach [tg] X.env).map (·.2)=[assign tg X.env]:=by rfl):PS X (.Assign [tg] e pos) (za te g):=by
 intro aa s σ H D I h;refine wpAny_Assign_stores (bH (he aa s σ H _ I h) λv s1 ⟨x,H1,I1,r1,q1⟩=>?_) hs hw;rw[h1];exact bH (hg aa s1 σ H1 x v _ I1 r1 q1) λ_ s2 q=>q
theorem BN {i:Nat}{x:Str}{e:Expr}{te:TE}{CT:Pos}(hN:X.N.Nodup)(hi:X.N[i]? = some x)(hx:B6 X.env.scope x)(he:PE X e te)(hs:swapsWith e (some (.Name x CT)) pos.line X.env=pure false:=by rfl)(hf:X.fn x=true∨X.env.scope.names.lookup x=some .local:=by first|exact .inl rfl|exact .inr rfl|assumption):
  PS X (.Assign [.Name x CT] e pos) (za te (iI i)):=by
 intro aa s σ H D I h;refine wpAny_Assign_Name (bH (he aa s σ H _ I h) λv s1 ⟨y,H1,I1,r1,q1⟩=>?_) hs;exact oQ I1 hN hi hx r1 (λs2 I2=>⟨_,H1,I2,q1⟩) hf
end
structure It where
 go:Nat->Hp->Prop
 yld:Nat->Hp->V->Hp->Prop
 stop:Nat->Hp->Prop
def iJ (X:Cx)(aa:List (Addr×Obj))(H:Hp)(b:Addr):Prop :=
 H b=none/\b≠X.env.locals/\b∉X.fs/\(b∈X.ex∨X.s₀.heap.objs.size<=b)/\(∀x c,X.env.cells.lookup x=some c->c≠b)/\∀p∈X.pn++aa,p.1≠b
theorem Inv.fpOk (I:Inv X aa σ H s)(hb:s.heap.objs.size<=b)(hn:H' b=none):iJ X aa H' b:=by
 refine⟨hn,Nat.ne_of_gt (vQ I.lt hb),I.nofs hb,.inr (vR I.sz hb),λx c e z=>?_,λp hp z=>?_⟩
 ·obtain⟨v,q⟩:=I.cell x c e;exact absurd (vQ q.lt (by rw[z];exact hb)) (Nat.lt_irrefl _)
 ·exact absurd (vQ (vX (I.pin p hp).1) (by rw[z];exact hb)) (Nat.lt_irrefl _)
structure Turn (P:Program)(w:World)(K:Frag)(tg:Expr)(J:It)(fp:List Addr)(it:Addr)(tn:Nat->Heap->Prop):Prop where
 mem:it∈fp
 obj:∀i h,tn i h->∀b∈fp,∃o,h.get? b=some o/\∀v,o.data≠.cell v
 keep:∀i h h',tn i h->(∀b∈fp,∀o,h.get? b=some o->h'.get? b=some o)->tn i h'
 item:∀(X:Cx),X.prog=P->X.w=w->X.K=K->X.calm=true->∀(i:Nat)(aa:List (Addr×Obj))(s:Shared)(σ:St)(H:Hp)(E:Value->Shared->Prop),Inv X aa σ H s->(∀b∈fp,iJ X aa H b)->tn i s.heap->J.go i H ->
  wpAny (model P w) X.A (pyNext (.ref it)) (λr s1=>∃u,r=some u /\
   wpAny (model P w) X.A (letOwnedTupleGo tg (.ref it) u) (λ_ s2=>∃x H',Inv X aa σ H' s2/\aG x u/\J.yld i H x H'/\tn (i+1) s2.heap/\∀b∈fp,H' b=none) E s1) E s
 done:∀(X:Cx),X.prog=P->X.w=w->X.K=K->X.calm=true->∀(i:Nat)(aa:List (Addr×Obj))(s:Shared)(σ:St)(H:Hp)(E:Value->Shared->Prop),Inv X aa σ H s->(∀b∈fp,iJ X aa H b)->tn i s.heap->J.stop i H ->
  wpAny (model P w) X.A (pyNext (.ref it)) (λr s1=>r=none/\Inv X aa σ H s1) E s
 self:∀(A:Around)(i:Nat)(s:Shared)(Q:Value->Shared->Prop)(E:Value->Shared->Prop),tn i s.heap->Q (.ref it) s->wpAny (model P w) A (pyIter (.ref it)) Q E s
abbrev TI:=St->Hp->(It->Hp->Prop)->Prop
def Jc (X:Cx)(aa:List (Addr×Obj))(σ:St)(tg:Expr)(R:It->Hp->Prop)(Gy:Value)(s2:Shared):Prop :=
 ∃(it:Addr)(fp:List Addr)(tn:Nat->Heap->Prop)(J:It)(H':Hp),Gy=.ref it/\Inv X aa σ H' s2/\Turn X.prog X.w X.K tg J fp it tn/\tn 0 s2.heap/\(∀b∈fp,iJ X aa H' b)/\R J H'
def PI (X:Cx)(tg bM:Expr)(wi:TI):Prop :=
 ∀(aa:List (Addr×Obj))(s:Shared)(σ:St)(H:Hp)(R:It->Hp->Prop),Inv X aa σ H s->wi σ H R ->
  wq X (eval bM X.env) (λv s1=>wq X (pyIter v) (Jc X aa σ tg R) X.xe s1) X.xe s
theorem oR (ho:s.heap.get? it=some o)(hc:o.cls=.type n)(hd:o.data=.fields vs)
    (hn:["enumerate","zip","dict_itemiterator","dict_reverseitemiterator","odict_iterator","itertools.zip_longest","itertools.pairwise"].contains n=false) (hQ:Q () s):wpAny M A (letOwnedTupleGo tg (.ref it) u) Q E s:=by
  unfold letOwnedTupleGo;cases tg<;>first
    |exact wY hQ
    | (cases u<;>first
        |exact wY hQ
        | (refine wX (wpAny_load ho ?_)
           rw[hc,hd]
           show wpAny M A (if(["enumerate","zip","dict_itemiterator","dict_reverseitemiterator","odict_iterator","itertools.zip_longest","itertools.pairwise"].contains n && vs[0]? == some (rawInt _))=true then _ else _) Q E s
           rw[if_neg (by intro h;rw[hn,Bool.false_and]at h;cases h)]
           exact wY hQ))
noncomputable def Jd (K:Frag)(a:Addr):It :=
 ⟨λi H=>∃xs x,eP K H a xs/\xs[i]? = some x,λi H x H'=>H'=H/\∀xs,eP K H a xs->xs[i]? = some x,λi H=>∃xs,eP K H a xs/\xs.length<=i⟩
noncomputable def Je (K:Frag)(a:Addr):It :=
 ⟨λi H=>∃xs x,fg K H a xs/\xs[i]? = some x,λi H x H'=>H'=H/\∀xs,fg K H a xs->xs[i]? = some x,λi H=>∃xs,fg K H a xs/\xs.length<=i⟩
noncomputable def Gd (lo:Int)(n:Nat):It:=⟨λi _=>i<n,λi H x H'=>H'=H/\x=.int (lo+i),λi _=>n<=i⟩
theorem uf {P:Program}{w:World}{K:Frag}{tg:Expr}(a it:Addr):Turn P w K tg (Jd K a) [it] it (λi h=>h.IsListIter it a i) where
 mem:=by simp
 obj:=λi h st b hb=>by
  have e:b=it:=by simpa using hb
  subst e;obtain⟨o,e,c,d⟩:=st;exact⟨o,e,λv z=>by rw[d]at z;cases z⟩
 keep:=λi h h' st k=>st.at λo e=>k it (by simp) o e
 item:=by
  intro X hP hw hK hc i aa s σ H E I hf st hg;subst hP hw hK;obtain⟨xs,x,hq,hx⟩:=hg;obtain⟨its,rv,p,hz⟩:=I.list hq;obtain⟨u,hu,ru⟩:=rv.get hx;obtain⟨f0,f1,f2,f3,f4,f5⟩:=hf it (by simp);refine wpAny_pyNext_list_item st p.isList (x:=u) (by simpa using hu) λh' ax sb=>?_;have I1:Inv X aa σ H { s with heap:=h' }:=I.turned (t':=s.toks) (λb o hb e=>(sb.2 b hb).trans e) f0 f1 f3 f4 f5;obtain⟨o,e,c,d⟩:=id ax;exact⟨u,rfl,oR (s:={ s with heap:=h' }) e c d (by decide) ⟨x,H,I1,ru,⟨rfl,λys hy=>by rw[I.list_inj hy hq];exact hx⟩,ax,λb hb=>(hf b hb).1⟩⟩
 done:=by
  intro X hP hw hK hc i aa s σ H E I hf st hg;subst hP hw hK;obtain⟨xs,hq,hx⟩:=hg;obtain⟨its,rv,p,hz⟩:=I.list hq;obtain⟨f0,f1,f2,f3,f4,f5⟩:=hf it (by simp);have hl:=rv.length;exact wpAny_pyNext_list_end (I.ok.hd hc) st p.isList (by simp;omega) λh' eb=>⟨rfl,I.turned (t':=s.toks) (λb o hb e=>eb b o hb e) f0 f1 f3 f4 f5⟩
 self:=λ_ _ _ _ _ st h=>wpAny_pyIter_listiter st h
theorem qH {P:Program}{w:World}{K:Frag}{tg:Expr}(a it:Addr):Turn P w K tg (Je K a) [it] it (λi h=>h.IsTupleIter it a i) where
 mem:=by simp
 obj:=λi h st b hb=>by
  have e:b=it:=by simpa using hb
  subst e;obtain⟨o,e,c,d⟩:=st;exact⟨o,e,λv z=>by rw[d]at z;cases z⟩
 keep:=λi h h' st k=>st.at λo e=>k it (by simp) o e
 item:=by
  intro X hP hw hK hc i aa s σ H E I hf st hg;subst hP hw hK;obtain⟨xs,x,hq,hx⟩:=hg;obtain⟨its,rv,p,hz⟩:=I.tuple hq;obtain⟨u,hu,ru⟩:=rv.get hx;obtain⟨f0,f1,f2,f3,f4,f5⟩:=hf it (by simp);refine wpAny_pyNext_tuple_item st (show s.heap.IsTuple a its.toArray from p) (x:=u) (by simpa using hu) λh' ax sb=>?_;have I1:Inv X aa σ H { s with heap:=h' }:=I.turned (t':=s.toks) (λb o hb e=>(sb.2 b hb).trans e) f0 f1 f3 f4 f5;obtain⟨o,e,c,d⟩:=id ax;exact⟨u,rfl,oR (s:={ s with heap:=h' }) e c d (by decide) ⟨x,H,I1,ru,⟨rfl,λys hy=>by rw[I.tuple_inj hy hq];exact hx⟩,ax,λb hb=>(hf b hb).1⟩⟩
 done:=by
  intro X hP hw hK hc i aa s σ H E I hf st hg;subst hP hw hK;obtain⟨xs,hq,hx⟩:=hg;obtain⟨its,rv,p,hz⟩:=I.tuple hq;obtain⟨f0,f1,f2,f3,f4,f5⟩:=hf it (by simp);have hl:=rv.length;exact wpAny_pyNext_tuple_end (I.ok.hd hc) st (show s.heap.IsTuple a its.toArray from p) (by simp;omega) λh' eb=>⟨rfl,I.turned (t':=s.toks) (λb o hb e=>eb b o hb e) f0 f1 f3 f4 f5⟩
 self:=λ_ _ _ _ _ st h=>wpAny_pyIter_tupleiter st h
theorem qI {P:Program}{w:World}{K:Frag}{tg:Expr}(it:Addr)(lo:Int)(n:Nat):Turn P w K tg (Gd lo n) [it] it (λi h=>IsRangeIter h it (lo+(i:Nat)*1) ((n:Int) - (i:Nat)) 1) where
 mem:=by simp
 obj:=λi h st b hb=>by
  have e:b=it:=by simpa using hb
  subst e;exact⟨_,st,λv z=>by
   have z':Data.fields _=Data.cell v:=z;cases z'⟩
 keep:=λi h h' st k=>k it (by simp) _ st
 item:=by
  intro X hP hw hK hc i aa s σ H E I hf st hg;subst hP hw hK;obtain⟨f0,f1,f2,f3,f4,f5⟩:=hf it (by simp);have W:=Walks.range (prog:=X.prog) (w:=X.w) (I.ok.hd hc) it lo 1 n;refine W.item i s _ _ hg st λv h' tk hv ax kk=>?_;obtain⟨t,rfl⟩:=hv;have I1:Inv X aa σ H { s with heap:=h',toks:=tk }:=I.turned (λb o hb e=>kk b o (by simpa using hb) e) f0 f1 f3 f4 f5;refine⟨_,rfl,oR (s:={ s with heap:=h',toks:=tk }) (n:="range_iterator") ax rfl rfl (by decide) ⟨.int (lo+i),H,I1,⟨t,?_⟩,⟨rfl,rfl⟩,ax,λb hb=>(hf b hb).1⟩⟩;rw[Int.mul_one]
 done:=by
  intro X hP hw hK hc i aa s σ H E I hf st hg;subst hP hw hK;obtain⟨f0,f1,f2,f3,f4,f5⟩:=hf it (by simp);exact wpAny_pyNext_range_end (I.ok.hd hc) st (by have:n<=i:=hg;omega) λh' eb=>⟨rfl,I.turned (t':=s.toks) (λb o hb e=>eb b o hb e) f0 f1 f3 f4 f5⟩
 self:=λ_ _ _ _ _ st h=>wpAny_pyIter_rangeiter st h
section
variable {X:Cx}{tg:Expr}
def Ea (K:Frag)(tl:TE):TI:=λσ H R=>tl σ H λx H1=>∃a,x=.ref a/\(∃xs,eP K H1 a xs)/\R (Jd K a) H1
def GP (K:Frag)(tl:TE):TI:=λσ H R=>tl σ H λx H1=>∃a,x=.ref a/\(∃xs,fg K H1 a xs)/\R (Je K a) H1
theorem zb {l:Expr}{tl:TE}(hl:PE X l tl):PI X tg l (Ea X.K tl):=by
 intro aa s σ H R I h;refine bH (hl aa s σ H _ I h) λv s1 ⟨x,H1,I1,r1,q1⟩=>?_;obtain⟨a,e,⟨xs,hq⟩,q⟩:=q1;subst e;cases r1
 obtain⟨its,rv,p,hz⟩:=I1.list hq;refine wpAny_pyIter_list p.isList ?_;refine⟨s1.heap.objs.size,[s1.heap.objs.size],_,_,H1,rfl,I1.kept (t':=s1.toks) λb o e=>vZ _ e,uf a _,⟨_,vY _ rfl,rfl,rfl⟩,λb hb=>?_,q⟩;have e:b=s1.heap.objs.size:=by simpa using hb
 subst e;exact I1.fpOk (vT _) (I1.hok.fresh (vT _))
theorem BO {l:Expr}{tl:TE}(hl:PE X l tl):PI X tg l (GP X.K tl):=by
 intro aa s σ H R I h;refine bH (hl aa s σ H _ I h) λv s1 ⟨x,H1,I1,r1,q1⟩=>?_;obtain⟨a,e,⟨xs,hq⟩,q⟩:=q1;subst e;cases r1
 obtain⟨its,rv,p,hz⟩:=I1.tuple hq;refine wpAny_pyIter_tuple (show s1.heap.IsTuple a its.toArray from p) ?_;refine⟨s1.heap.objs.size,[s1.heap.objs.size],_,_,H1,rfl,I1.kept (t':=s1.toks) λb o e=>vZ _ e,qH a _,⟨_,vY _ rfl,rfl,rfl⟩,λb hb=>?_,q⟩;have e:b=s1.heap.objs.size:=by simpa using hb
 subst e;exact I1.fpOk (vT _) (I1.hok.fresh (vT _))
theorem wg {aa:List (Addr×Obj)}{σ:St}{H:Hp}{s:Shared}{R:It->Hp->Prop}{E:Value->Shared->Prop}{lo hi:Int}{t u v:Tok}{tk:Nat}(I:Inv X aa σ H s)(h1 : -(2 ^ 62)<=lo)(h2:lo<2 ^ 62)(h3 : -(2 ^ 62)<=hi)(h4:hi<2 ^ 62)
  (q:R (Gd lo (hi - lo).toNat) H):wq X (pyIter (.ref s.heap.objs.size)) (Jc X aa σ tg R) E { s with heap:=s.heap.push { cls:=.type "range",data:=.fields #[.int lo t,.int hi u,.int 1 v] },toks:=tk }:=by
 refine wpAny_pyIter_range (IsRange.new ..) (small_one h1 h2 h3 h4) ?_;have I1:Inv X aa σ H { s with heap:=s.heap.push { cls:=.type "range",data:=.fields #[.int lo t,.int hi u,.int 1 v] },toks:=tk }:=I.kept λb o e=>vZ _ e;refine⟨(s.heap.push { cls:=.type "range",data:=.fields #[.int lo t,.int hi u,.int 1 v] }).objs.size,[(s.heap.push { cls:=.type "range",data:=.fields #[.int lo t,.int hi u,.int 1 v] }).objs.size],_,_,H,rfl,
  I1.kept (t':=tk) λb o e=>vZ _ e,qI _ lo (hi - lo).toNat,?_,λb hb=>?_,q⟩
 ·have e1:lo+((0:Nat):Int)*1=lo:=by simp
  have e2:(((hi - lo).toNat:Nat):Int) - ((0:Nat):Int)=Builtin.Range.rangeSize lo hi 1:=by rw[rangeSize_one];split<;>omega
  show IsRangeIter _ _ (lo+((0:Nat):Int)*1) ((((hi - lo).toNat:Nat):Int) - ((0:Nat):Int)) 1;rw[e1,e2];exact vY _ rfl
 ·have e:b=(s.heap.push { cls:=.type "range",data:=.fields #[.int lo t,.int hi u,.int 1 v] }).objs.size:=by simpa using hb
  subst e;exact I1.fpOk (vT _) (I1.hok.fresh (vT _))
def Eb (ta:TA):TI:=λσ H R=>ta σ H λvs H1=>∃j:Int,vs=[.int j]/\-(2 ^ 62)<=j/\j<2 ^ 62/\R (Gd 0 j.toNat) H1
theorem ug {a:Expr}{ta:TA}{p pos:Pos}(hg:Gl X "range")(hm:X.mg "range" = none)(ha:PA X [a] ta)(hs:starEach [a] X.env=[(false,eval a X.env)]:=by rfl):PI X tg (.Call (.Name "range" p) [a] [] pos) (Eb ta):=by
 intro aa s σ H R I h;refine Call_ (hZ I hg hm boot_range (PyProof.Rows.callWith_type1 (bH (ha pos aa s σ H _ I h) λus s1 ⟨vs,H1,I1,r1,q1⟩=>?_) hs rfl));obtain⟨j,e,q1,q2,q⟩:=q1;subst e;cases r1 with
 |cons r rr=>
  cases rr
  obtain⟨t,rfl⟩:=r;exact call_range_1 (wg I1 (by omega) (by omega) q1 q2 (by simpa using q))
def BP (wi:TI)(g:TG)(tb:TS):TS:=λD σ H=>wi σ H λJ H1=>∃W:Nat->Nat->St->Hp->Prop,(∃m,W 0 m σ H1)/\∀i m σ H,W i m σ H ->
 (J.stop i H/\D.nx σ H)∨(J.go i H/\∃N:St->Hp->Prop,(∀σ' H',N σ' H'->∃m',m'<m/\W (i+1) m' σ' H')/\∀x H',J.yld i H x H'->g x σ H' λσ2 H2=>tb { D with nx:=N,ct:=N,bk:=D.nx } σ2 H2)
def jy (fp:List Addr)(h:Heap):List (Addr×Obj):=fp.filterMap λb=>(h.get? b).map λo=>(b,o)
theorem fM {fp:List Addr}{h:Heap}{b:Addr}{o:Obj}(hb:b∈fp)(e:h.get? b=some o):(b,o)∈jy fp h:=List.mem_filterMap.mpr ⟨b,hb,by rw[e];rfl⟩
theorem uh (hp:p∈jy fp h):p.1∈fp/\h.get? p.1=some p.2:=by
 obtain⟨b,hb,e⟩:=List.mem_filterMap.mp hp;cases q:h.get? b with
 |none=>rw[q]at e;cases e
 |some o=>
  rw[q]at e;have e':(b,o)=p:=vK e;subst e';exact⟨hb,q⟩
theorem Inv.pinned (I:Inv X aa σ H s)(hf:∀b∈fp,iJ X aa H b)(ho:∀b∈fp,∃o,s.heap.get? b=some o/\∀v,o.data≠.cell v):Inv X (aa++jy fp s.heap) σ H s :=
 I.pins_of λp hp=>(List.mem_append.mp hp).elim (λz=>I.pin p (mY _ z)) λz=>by
  obtain⟨hb,e⟩:=uh z;obtain⟨f0,f1,f2,_⟩:=hf p.1 hb;obtain⟨o,e',d⟩:=ho p.1 hb;rw[e]at e';cases e';exact⟨e,f0,f1,f2,d⟩
theorem Inv.unpinned (I:Inv X (aa++pl) σ H s):Inv X aa σ H s:=I.pins_of λp hp=>I.pin p (mY _ (List.mem_append_left _ hp))
theorem wj {bM:Expr}{body:List Stmt}{wi:TI}{g:TG}{tb:TS}{pos:Pos}(hp:PassesOwn (model X.prog X.w) X.A X.env X.xe)(hc:X.calm=true)(hi:PI X tg bM wi)(hg:PG X tg g)(hb:nL X body tb)
  (hs:∀x,foldedSetIterable bM X.env x=pure x:=by intro _;rfl):PS X (.For tg bM body [] pos) (BP wi g tb):=by
 intro aa s σ H D I h;refine wpAny_For (bH (hi aa s σ H _ I h) λv s1 h1=>bH h1 λGy s2 h2=>?_) hs;obtain⟨it,fp,tn,J,H2,e,I2,T,fL,f2,W,⟨m0,w0⟩,CU⟩:=h2;subst e
 -- what stays true of the iterator's objects through the jF
 have CV:∀ {H':Hp},(∀b∈fp,H' b=none)->∀b∈fp,iJ X aa H' b:=λhn b hb=>⟨hn b hb,(f2 b hb).2⟩;refine codeAny_forLoop_any (λn s'=>∃i σ' H',Inv X aa σ' H' s'/\tn i s'.heap/\(∀b∈fp,H' b=none)/\W i n σ' H') ?_ m0 ⟨0,σ,H2,I2,fL,λb hb=>(f2 b hb).1,w0⟩;rintro n s3 ⟨i,σ3,H3,I3,iG,Jv,w3⟩;rcases CU i n σ3 H3 w3 with⟨stop,qn⟩|⟨go,N,hN,step⟩
 ·refine wpAny_passesOwn hp (bH (T.done X rfl rfl rfl hc i aa s3 σ3 H3 X.xe I3 (CV Jv) iG stop) λr s4 ⟨hr,I4⟩=>?_);subst hr;exact wpAny_execs_nil ⟨σ3,H3,I4,qn⟩
 ·refine wpAny_passesOwn hp (bH (T.item X rfl rfl rfl hc i aa s3 σ3 H3 X.xe I3 (CV Jv) iG go) λr s4 ⟨u,hr,h4⟩=>?_);subst hr;refine wpAny_passesOwn hp (bH h4 λ_ s5 ⟨x,H5,I5,r5,y5,HQ,HR⟩=>?_);have Lq:=I5.pinned (CV HR) (T.obj _ _ HQ);refine wpAny_passesOwn hp (bH (hg _ s5 σ3 H5 x u _ Lq r5 (step x H5 y5)) λ_ s6 ⟨σ6,H6,I6,q6⟩=>?_);refine wpAny_passesOwn hp (bH (hb _ s6 σ6 H6 _ I6 q6) λf s7 q7=>?_);have again:∀ {σ7:St}{H7:Hp},Inv X (aa++jy fp s5.heap) σ7 H7 s7->N σ7 H7->∃m,m<n/\∃i σ' H',Inv X aa σ' H' s7/\tn i s7.heap/\(∀b∈fp,H' b=none)/\W i m σ' H':=λ{σ7 H7} I7 n7=>by
   obtain⟨m',hm,w7⟩:=hN σ7 H7 n7;refine⟨m',hm,i+1,σ7,H7,I7.unpinned,T.keep _ _ _ HQ λb hb o e=>(I7.pin (b,o) (mY _ (mY _ (fM hb e)))).1,λb hb=>?_,w7⟩;obtain⟨o,e,d⟩:=T.obj _ _ HQ b hb;exact(I7.pin (b,o) (mY _ (mY _ (fM hb e)))).2.1
  cases f with
  |next=>obtain⟨σ7,H7,I7,n7⟩:=q7;exact again I7 n7
  |cont=>obtain⟨σ7,H7,I7,n7⟩:=q7;exact again I7 n7
  |brk=>obtain⟨σ7,H7,I7,q7⟩:=q7;exact⟨σ7,H7,I7.unpinned,q7⟩
  |ret v=>obtain⟨x7,σ7,H7,I7,r7,q7⟩:=q7;exact⟨x7,σ7,H7,I7.unpinned,r7,q7⟩
end
abbrev R2:=V->V->Hp->VK->Prop
def bY (X:Cx)(f:Value->Value->Sem Value)(r:R2):Prop :=
 ∀(aa:List (Addr×Obj))(s:Shared)(σ:St)(H:Hp)(x y:V)(v u:Value)(Q:VK),Inv X aa σ H s->aG x v->aG y u->r x y H Q ->
  wq X (f v u) (EP X aa σ Q) X.xe s
def b7 (X:Cx)(f:Value)(r:List V->Hp->VK->Prop):Prop :=
 ∀(aa:List (Addr×Obj))(s:Shared)(σ:St)(H:Hp)(xs:List V)(us:List Value)(Q:VK),Inv X aa σ H s->a9 xs us->r xs H Q ->
  wq X (call f us) (EP X aa σ Q) X.xe s
def Ge (r:R2)(ta tb:TE):TE:=λσ H Q=>ta σ H λx H1=>tb σ H1 λy H2=>r x y H2 Q
def rI (C:Int->Int->Prop)(g:Int->Int->V):R2:=λx y H Q=>∃i j,x=.int i/\y=.int j/\C i j/\Q (g i j) H
def zc (g:Int->Int->V):R2:=λx y H Q=>∃i j,x=.int i/\y=.int j/\Q (g i j) H
section
variable {X:Cx}{a b c:Expr}{ta tb tc:TE}{pos:Pos}
theorem BQ (ha:PE X a ta)(hb:PE X b tb){aa:List (Addr×Obj)}{s:Shared}{σ:St}{H:Hp}{R:V->V->Hp->Prop}(I:Inv X aa σ H s)
  (h:ta σ H λx H1=>tb σ H1 λy H2=>R x y H2) {Q:Value->Shared->Prop}{f:Value->Value->Sem Value}
  (hf:∀v u s2 x y H2,Inv X aa σ H2 s2->aG x v->aG y u->R x y H2->wq X (f v u) Q X.xe s2):
  wq X (eval a X.env) (λv s₁=>wq X (eval b X.env) (λu s₂=>wq X (f v u) Q X.xe s₂) X.xe s₁) X.xe s:=by
 refine bH (ha aa s σ H _ I h) λv s1 ⟨x,H1,I1,r1,q1⟩=>?_;refine bH (hb aa s1 σ H1 _ I1 q1) λu s2 ⟨y,H2,I2,r2,q2⟩=>?_;exact hf v u s2 x y H2 I2 r1 r2 q2
theorem Ec {op:Operator}{r:R2}(ho:bY X (binaryOp op) r)(ha:PE X a ta)(hb:PE X b tb):PE X (.BinOp a op b pos) (Ge r ta tb):=by
 intro aa s σ H Q I h;exact wpAny_BinOp (BQ ha hb I h λv u s2 x y H2 I2 rx ry q=>ho aa s2 σ H2 x y v u Q I2 rx ry q)
theorem Ed {f:Value->Value->Sem Value}{C:Int->Int->Prop}{g:Int->Int->Int}
  (rule:∀(i j:Int)(t u:Tok)(s:Shared)(Q:Value->Shared->Prop)(E:Value->Shared->Prop),C i j->Q (.int (g i j) s.toks) { s with toks:=s.toks+1 }->wq X (f (.int i t) (.int j u)) Q E s):
  bY X f (rI C λi j=>.int (g i j)):=by
 intro aa s σ H x y v u Q I rx ry h;obtain⟨i,j,rfl,rfl,hc,q⟩:=h;obtain⟨t,rfl⟩:=rx;obtain⟨t',rfl⟩:=ry;exact rule i j t t' s _ _ hc ⟨.int (g i j),H,I.tok _,⟨_,rfl⟩,q⟩
theorem Ee {f:Value->Value->Sem Value}{g:Int->Int->Int}
  (rule:∀(i j:Int)(t u:Tok)(s:Shared)(Q:Value->Shared->Prop)(E:Value->Shared->Prop),Q (.int (g i j) s.toks) { s with toks:=s.toks+1 }->wq X (f (.int i t) (.int j u)) Q E s):
  bY X f (zc λi j=>.int (g i j)):=by
 intro aa s σ H x y v u Q I rx ry h;obtain⟨i,j,rfl,rfl,q⟩:=h;obtain⟨t,rfl⟩:=rx;obtain⟨t',rfl⟩:=ry;exact rule i j t t' s _ _ ⟨.int (g i j),H,I.tok _,⟨_,rfl⟩,q⟩
theorem zd {f:Value->Value->Sem Value}{g:Int->Int->Bool}
  (rule:∀(i j:Int)(t u:Tok)(s:Shared)(Q:Value->Shared->Prop)(E:Value->Shared->Prop),Q (.bool (g i j)) s->wq X (f (.int i t) (.int j u)) Q E s):
  bY X f (zc λi j=>.bl (g i j)):=by
 intro aa s σ H x y v u Q I rx ry h;obtain⟨i,j,rfl,rfl,q⟩:=h;obtain⟨t,rfl⟩:=rx;obtain⟨t',rfl⟩:=ry;exact rule i j t t' s _ _ ⟨.bl (g i j),H,I,rfl,q⟩
def Ef (i j:Int):Prop:=0<j/\j<1073741824
def Eg (i j:Int):Prop:=0<=j/\j<=1000000/\i.natAbs<2 ^ 64
def ze (i j:Int):Prop:=(-(2 ^ 64)<i/\i<2 ^ 64)∨(-(2 ^ 64)<j/\j<2 ^ 64)
theorem ze.ok (h:ze i j):IntMulOk i j:=by
 rcases h with⟨h1,h2⟩|⟨h1,h2⟩
 ·exact .of_left (intBits_le_64 h1 h2)
 ·exact .of_right (intBits_le_64 h1 h2)
theorem BR:bY X (binaryOp .Add) (zc λi j=>.int (i+j)):=Ee λ_ _ _ _ _ _ _ q=>add_int q
theorem BS:bY X (binaryOp .Sub) (zc λi j=>.int (i - j)):=Ee λ_ _ _ _ _ _ _ q=>sub_int q
theorem BU:bY X (binaryOp .Mult) (rI ze λi j=>.int (i*j)):=Ed λ_ _ _ _ _ _ _ hc q=>mul_int q hc.ok
theorem zf:bY X (binaryOp .FloorDiv) (rI Ef λi j=>.int (i / j)):=Ed λi j _ _ _ _ _ hc q=>by
 have h1:(0:Int)<j:=hc.1;have h2:j<1073741824:=hc.2;exact floordiv_int (by omega) (by rw[Int.fdiv_eq_ediv_of_nonneg i (by omega)];exact q) (.inl (PyProof.noPylong_small (by omega)))
theorem BV:bY X (binaryOp .Mod) (rI (λ_ j=>0<j) λi j=>.int (i % j)):=Ed λi j _ _ _ _ _ hc q=>by
 have h1:(0:Int)<j:=hc;exact mod_int' (by omega) (by rw[Int.fmod_eq_emod_of_nonneg i (by omega)];exact q)
theorem BW:bY X (binaryOp .Pow) (rI Eg λi j=>.int (i ^ j.toNat)):=Ed λ_ _ _ _ _ _ _ hc q=>pow_int_small hc.1 hc.2.1 hc.2.2 q
theorem ui:bY X (binaryOp .Add) (λx y H Q=>∃i k,x=.int i/\y=.bl k/\Q (.int (i+b2i k)) H):=by
 intro aa s σ H x y v u Q I rx ry h;obtain⟨i,k,rfl,rfl,q⟩:=h;obtain⟨t,rfl⟩:=rx;cases ry
 exact add_int_bool ⟨.int (i+b2i k),H,I.tok _,⟨_,rfl⟩,q⟩
end
section
variable {X:Cx}{a b c:Expr}{ta tb tc:TE}{pos:Pos}
theorem Eh:bY X (compareOp .Lt) (zc λi j=>.bl (decide (i<j))):=zd λ_ _ _ _ _ _ _ q=>lt_int q
theorem Ei:bY X (compareOp .LtE) (zc λi j=>.bl (decide (i<=j))):=zd λ_ _ _ _ _ _ _ q=>le_int q
theorem Ej:bY X (compareOp .Gt) (zc λi j=>.bl (decide (j<i))):=zd λ_ _ _ _ _ _ _ q=>gt_int q
theorem Ek:bY X (compareOp .GtE) (zc λi j=>.bl (decide (j<=i))):=zd λ_ _ _ _ _ _ _ q=>ge_int q
theorem bY.or (h:bY X f r)(h':bY X f r'):bY X f (λx y H Q=>r x y H Q∨r' x y H Q):=by
 intro aa s σ H x y v u Q I rx ry q;rcases q with q|q
 ·exact h aa s σ H x y v u Q I rx ry q
 ·exact h' aa s σ H x y v u Q I rx ry q
theorem GQ (b:Expr)(h:op≠.In:=by decide)(h2:op≠.NotIn:=by decide):behindInMarks op b=false:=by
 have e1:(op == CmpOp.In)=false:=by cases op<;>first|rfl|exact absurd rfl h
 have e2:(op == CmpOp.NotIn)=false:=by cases op<;>first|rfl|exact absurd rfl h2
 cases b<;>simp[behindInMarks,e1,e2]
theorem zg (ho:bY X (compareOp op) r)(ha:PE X a ta)(hb:PE X b tb)(hm:behindInMarks op b=false):PE X (.Compare a [op] [b] pos) (Ge r ta tb):=by
 intro aa s σ H Q I h;exact wpAny_Compare1 (BQ ha hb I h λv u s2 x y H2 I2 rx ry q=>ho aa s2 σ H2 x y v u Q I2 rx ry q) hm
def AK (t:TE):TT:=λσ H Q=>t σ H λx H'=>∃k,x=.bl k/\Q k H'
theorem sr {op:CmpOp}{r:R2}(ho:bY X (compareOp op) r)(ha:PE X a ta)(hb:PE X b tb)(hm:behindInMarks op b=false):PT X (.Compare a [op] [b] pos) (AK (Ge r ta tb)):=by
 intro aa s σ H Q I h;refine wpAny_isTrue_Compare1 (bH (ha aa s σ H _ I h) λv s1 ⟨x,H1,I1,r1,q1⟩=>bH (hb aa s1 σ H1 _ I1 q1) λu s2 ⟨y,H2,I2,r2,q2⟩=>
  bH (ho aa s2 σ H2 x y v u _ I2 r1 r2 q2) λc s3 ⟨z,H3,I3,r3,k,e,q3⟩=>?_) hm
 subst e;cases r3
 exact wpAny_truthy_bool ⟨H3,I3,q3⟩
def qJ (r r':R2)(ta tb tc:TE):TE:=λσ H Q=>ta σ H λx H1=>tb σ H1 λy H2=>r x y H2 λz H3=>∃k,z=.bl k /\
 (if k=true then tc σ H3 λw' H4=>r' y w' H4 Q else Q (.bl false) H3)
theorem wk {op vp:CmpOp}{r r':R2}(ho:bY X (compareOp op) r)(se:bY X (compareOp vp) r')(ha:PE X a ta)(hb:PE X b tb)(hc:PE X c tc)
  (hm:lastMarks [op,vp] [b,c]=false:=by with_unfolding_all rfl):PE X (.Compare a [op,vp] [b,c] pos) (qJ r r' ta tb tc):=by
 intro aa s σ H Q I h;refine Compare_chain (bH (ha aa s σ H _ I h) λv s1 ⟨x,H1,I1,r1,q1⟩=>chain_link (bH (hb aa s1 σ H1 _ I1 q1) λu s2 ⟨y,H2,I2,r2,q2⟩=>
  bH (ho aa s2 σ H2 x y v u _ I2 r1 r2 q2) λd s3 ⟨z,H3,I3,r3,k,e,q3⟩=>?_)) hm
 subst e;cases r3
 refine wpAny_truthy_bool ?_;cases k with
 |false=>exact ite_ff ⟨.bl false,H3,I3,rfl,q3⟩
 |true=>exact ite_tt (chain_last (bH (hc aa s3 σ H3 _ I3 q3) λw' s4 ⟨z',H4,I4,r4,q4⟩=>se aa s4 σ H4 y z' u w' Q I4 r2 r4 q4))
theorem wl {op vp:CmpOp}{r r':R2}(ho:bY X (compareOp op) r)(se:bY X (compareOp vp) r')(ha:PE X a ta)(hb:PE X b tb)(hc:PE X c tc)
  (hm:lastMarks [op,vp] [b,c]=false:=by with_unfolding_all rfl):PT X (.Compare a [op,vp] [b,c] pos) (AK (qJ r r' ta tb tc)):=by
 intro aa s σ H Q I h;refine isTrue_chain (bH (ha aa s σ H _ I h) λv s1 ⟨x,H1,I1,r1,q1⟩=>test_link (bH (hb aa s1 σ H1 _ I1 q1) λu s2 ⟨y,H2,I2,r2,q2⟩=>
  bH (ho aa s2 σ H2 x y v u _ I2 r1 r2 q2) λd s3 ⟨z,H3,I3,r3,k,e,q3⟩=>?_)) hm
 subst e;cases r3
 refine wpAny_truthy_bool ?_;cases k with
 |false=>
  obtain⟨k',e',q'⟩:=q3;cases e'
  exact ite_ff ⟨H3,I3,q'⟩
 |true=>
  refine ite_tt (test_last (bH (hc aa s3 σ H3 _ I3 q3) λw' s4 ⟨z',H4,I4,r4,q4⟩=>bH (se aa s4 σ H4 y z' u w' _ I4 r2 r4 q4) λd' s5 ⟨z2,H5,I5,r5,k2,e2,q5⟩=>?_));subst e2;cases r5
  exact wpAny_truthy_bool ⟨H5,I5,q5⟩
theorem jz:(sizeLine:Nat)<2 ^ 63:=by rw[sizeLine_eq];decide
theorem qK:bY X (binaryOp .Add) (λx y H Q=>∃i j,x=.str i/\y=.str j/\i.length+j.length<=sizeLine/\Q (.str (i++j)) H):=by
 intro aa s σ H x y v u Q I rx ry h;obtain⟨i,j,rfl,rfl,hz,q⟩:=h;obtain⟨t,rfl⟩:=rx;obtain⟨t',rfl⟩:=ry;exact add_str (λt' tk=>⟨.str (i++j),H,I.tok _,⟨_,rfl⟩,q⟩) hz
theorem iK (r:a9 [x] us):∃u,us=[u]/\aG x u:=by
 cases r with
 |cons r1 r2=>cases r2;exact⟨_,rfl,r1⟩
theorem wm (r:a9 [x,y] us):∃u w',us=[u,w']/\aG x u/\aG y w':=by
 cases r with
 |cons r1 r2=>
  cases r2 with
  |cons r3 r4=>cases r4;exact⟨_,_,rfl,r1,r3⟩
theorem uj (hc:X.calm=true):b7 X (.builtin "min") (λxs H Q=>∃i j,xs=[.int i,.int j]/\Q (.int (if j<i then j else i)) H):=by
 intro aa s σ H xs us Q I r h;obtain⟨i,j,rfl,q⟩:=h;obtain⟨u,w',rfl,⟨t,rfl⟩,⟨t',rfl⟩⟩:=wm r;refine min_two_ints (I.ok.hd hc) λh' tk k=>⟨_,H,I.kept k,?_,q⟩;by_cases hj:j<i
 ·rw[if_pos hj,if_pos hj];exact⟨_,rfl⟩
 ·rw[if_neg hj,if_neg hj];exact⟨_,rfl⟩
end
structure A3 (h:Heap)(x dx C:Addr)(mA:Str->Option Value):Prop where
 obj:h.get? x=some (PySem.W.instObj C dx)
 ns:h.Ns1 dx mA
 ne:dx≠x
theorem uk {h:Heap}{dx:Addr}{mA:Str->Option Value}(n:h.Ns1 dx mA):∃od,h.get? dx=some od/\∀name,PySem.W.lookIn name od=some (mA name):=by
 obtain⟨o,es,ep,ho,hd,hk,_,hm⟩:=n;refine⟨o,ho,λname=>?_⟩;have e:=hm name;unfold nsFind findBy at e;rw[←Array.find?_toList]at e;unfold PySem.W.lookIn;rw[hd];dsimp only;split
 ·rename_i y q;rw[q]at e;exact congrArg some e
 ·rename_i q;rw[q]at e;have a:es.toList.any (·.refKey)=false:=by
   rw[List.any_eq_false];intro y hy;obtain⟨z,t,A4⟩:=hk y (Array.mem_toList_iff.mp hy);simp[DictEntry.refKey,A4]
  have a':¬es.toList.any (·.refKey)=true:=by rw[a];exact uX
  rw[if_neg a'];exact congrArg some e
theorem A3.look (I:A3 h x dx C mA):∃od,PySem.W.InstAt h x (PySem.W.instObj C dx) C (some od)/\∀name,PySem.W.lookIn name od=some (mA name) :=
 let ⟨od,ho,hl⟩:=uk I.ns
 ⟨od,⟨I.obj,rfl,rfl,ho⟩,hl⟩
section
variable {prog:Program}{w:World}{A:Around}{E:Value->Shared->Prop}{s:Shared}{K:Frag}{x dx C f:Addr}{mA:Str->Option Value}{name:Str}{v:Value}
theorem wn (X:K.In s.heap)(I:A3 s.heap x dx C mA)(hg:PySem.W.plainGet K C name=true)
  (hf:PySem.W.findIn K (.ref C) name=some (some (.ref f))) (ht:PySem.W.isFn K (.ref f)=true) (hv:mA name=none) (h:Q (.ref f,[.ref x]) s):
  wpAny (model prog w) A (getMethod (.ref x) name pl) Q E s:=by
 obtain⟨od,J,hl⟩:=I.look;exact PySem.W.method_fn X J (PySem.W.plainGet_of hg).1 (PySem.W.plainGet_of hg).2 hf (beq_iff_eq.mp ht) (by show(PySem.W.lookIn name od).map (·.isSome)=some false;rw[hl,hv];rfl) h
theorem El (X:K.In s.heap)(hm:PySem.W.makesIn K C=true)
  (hi:PySem.W.findIn K (.ref C) "__init__" = some (some (.ref f))) (hf:PySem.W.typeIn K (.ref f)=some (.type "function"))
  (h:codeAny (model prog w) (A.under (.builtin "type.__call__" ⟨.ref C::vs,kw⟩)) (.call (.ref f) ⟨.ref (s.heap.objs.size+1)::vs,kw⟩) (PySem.W.InitBack (s.heap.objs.size+1) R)
   { s with heap:=(s.heap.push PySem.W.emptyDict).push (PySem.W.instObj C s.heap.objs.size) }):
  codeAny (model prog w) A (.call (.ref C) ⟨vs,kw⟩) R s:=by
 obtain⟨hh,g,d,t,os⟩:=s;exact PySem.W.make_core (PySem.W.makes_of X hm) (PySem.W.looks_findIn X hi) (λself=>PySem.W.bind_fn X self hf) (.inl rfl) h
end
theorem oM.none_of (r:oM none o):o=none:=by
 cases o with
 |none=>rfl
 |some u=>exact(show False from r).elim
section
variable {P:Program}{w:World}{H H':Hp}{h h':Heap}{a C dx:Addr}{fs Ln:List (Str×V)}
theorem su (hok:kl P w H h)(e:H a=some (.ins C dx fs)):∃mA,A3 h a dx C mA/\(∀f,oM (fs.lookup f) (mA f))/\PySem.Within mA (fs.map (·.1))/\fs.length<=1000/\H dx=some (.own a):=by
 obtain⟨d,z,ne,ob,mA,n,r,q⟩:=(show bC P w H h a (.ins C dx fs)from hok a _ e);exact⟨mA,⟨ob,n,ne⟩,r,q,z,d⟩
end
structure Cls (K:Frag)(C:Addr):Prop where
 pg:PySem.W.plainGet K C Str.empty=true
 hd:PySem.W.hasDictIn K C=true
 po:PySem.W.plainOver K C=true
 sa:PySem.W.findIn K (.ref C) "__setattr__" = some (some (.builtin "object.__setattr__"))
theorem Cls.get {K:Frag}{C:Addr}(c:Cls K C)(f:Str):PySem.W.plainGet K C f=true:=c.pg
def BX (K:Frag)(C:Addr)(f:Str):Prop:=PySem.W.findIn K (.ref C) f=some none
structure Meth (K:Frag)(C:Addr)(m:Str)(f:Addr):Prop where
 at_:PySem.W.findIn K (.ref C) m=some (some (.ref f))
 fn:PySem.W.isFn K (.ref f)=true
 kp:PySem.W.keepIn K (.ref f)=true
section
variable {X:Cx}{aa:List (Addr×Obj)}{σ:St}{H:Hp}{s:Shared}{a C dx:Addr}{fs:List (Str×V)}{f:Str}{v:V}{A:Around}{E:Value->Shared->Prop}
theorem qL {m:Str}{g:Addr}{pl:Sem Bool}{Q:Value×List Value->Shared->Prop}(I:Inv X aa σ H s)(e:H a=some (.ins C dx fs))(c:Cls X.K C)(k:Meth X.K C m g)(l:fs.lookup m=none)
  (h:Q (.ref g,[.ref a]) s):wpAny (model X.prog X.w) A (getMethod (.ref a) m pl) Q E s:=by
 obtain⟨mA,O,r,_,_,_⟩:=su I.hok e;have hn:mA m=none:=oM.none_of (by rw[←l];exact r m);exact wn I.kIn O (c.get m) k.at_ k.fn hn h
theorem Inv.made (I:Inv X aa σ H s):Inv X aa σ (upd (upd H s.heap.objs.size (.own (s.heap.objs.size+1))) (s.heap.objs.size+1) (.ins C s.heap.objs.size []))
  { s with heap:=(s.heap.push PySem.W.emptyDict).push (PySem.W.instObj C s.heap.objs.size) }:=by
 have e1:(s.heap.push PySem.W.emptyDict).get? s.heap.objs.size=some PySem.W.emptyDict:=vY s.heap rfl;have e2:((s.heap.push PySem.W.emptyDict).push (PySem.W.instObj C s.heap.objs.size)).get? (s.heap.objs.size+1)=some (PySem.W.instObj C s.heap.objs.size):=by
  have:=vY (s.heap.push PySem.W.emptyDict) (o:=PySem.W.instObj C s.heap.objs.size) rfl;rwa [Heap.size_push]at this
 have e3:(s.heap.push PySem.W.emptyDict).Ns s.heap.objs.size (λ_=>none):=⟨PySem.W.emptyDict,#[],_,e1,rfl,(λe he=>absurd he (by simp)),λ_=>rfl⟩;have I1:=I.laid (a:=s.heap.objs.size) (o:=.own (s.heap.objs.size+1)) (h':=s.heap.push PySem.W.emptyDict) (t':=s.toks) (λb u q=>vZ _ q) (vT _) ⟨_,e1⟩;refine I1.laid (a:=s.heap.objs.size+1) (o:=.ins C s.heap.objs.size []) (t':=s.toks) (λb u q=>vZ _ q) (Nat.le_of_eq (Heap.size_push _ _)) ?_;have ne:s.heap.objs.size≠s.heap.objs.size+1:=vS (Nat.lt_succ_self _);refine⟨by rw[a8 ne,au],uN _,ne,e2,λ_=>none,(Heap.Ns1.of_empty e3).at λo q=>vZ _ q,λ_=>True.intro,λy hy=>absurd rfl hy⟩
end
def KE (K:Frag)(ta:TE)(f:Str):TE:=λσ H Q=>ta σ H λx H1=>∃a C dx fs v,x=.ref a/\H1 a=some (.ins C dx fs)/\Cls K C/\BX K C f/\fs.lookup f=some v/\Q v H1
section
variable {X:Cx}{o e value:Expr}{f:Str}{pos CT Lr:Pos}{ta tv:TE}
theorem AL {pl:Sem Bool}{m:Str}{dM:Pos}{args:List Expr}{aa:List (Addr×Obj)}{s:Shared}{σ:St}{H:Hp}{Q:Value->Shared->Prop}{te:TE}(he:PE X e te)(I:Inv X aa σ H s)
  (h:te σ H λx H1=>∃a C dx fs g,x=.ref a/\H1 a=some (.ins C dx fs)/\Cls X.K C/\Meth X.K C m g/\fs.lookup m=none /\
   ∀s1,Inv X aa σ H1 s1->wq X (callWith pos (.ref g) [.ref a] (backTo pos (starEach args X.env)) (backToKw pos (keywordEach [] X.env))) Q X.xe s1)
  (ht:eval (.Call (.Attribute e m dM) args [] pos) X.env=(do
   let ov ←eval e X.env
   standAt dM.atName
   let (f,first) ←holding [ov] (getMethod ov m pl)
   callWith pos f first (backTo pos (starEach args X.env)) (backToKw pos (keywordEach [] X.env)))):
  wq X (eval (.Call (.Attribute e m dM) args [] pos) X.env) Q X.xe s:=by
 refine PySem.W.methodCall_KW (pl:=pl) (bH (he aa s σ H _ I h) λu s1 ⟨x,H1,I1,rx,a,C,dx,fs,g,ex,ea,c,k,l,q⟩=>?_) ht;subst ex;obtain rfl:u=Value.ref a:=rx;exact qL I1 ea c k l (q s1 I1)
end
section
variable {X:Cx}{aa:List (Addr×Obj)}{σ:St}{H:Hp}{s:Shared}{A:Around}{E:Value->Shared->Prop}{Q:Value->Shared->Prop}{c:Value}{b:Bool}
inductive TyOf (K:Frag)(H:Hp):V->Value->Prop where
 |non:TyOf K H .non (.type "NoneType")
 |bl (x:Bool):TyOf K H (.bl x) (.type "bool")
 |int (i:Int):TyOf K H (.int i) (.type "int")
 |str (x:Str):TyOf K H (.str x) (.type "str")
 |flt (x:UInt64):TyOf K H (.flt x) (.type "float")
 |lst {a:Addr}{xs:List V}(e:H a=some (.lst xs)):TyOf K H (.ref a) (.type "list")
 |frz {a:Addr}{o:Obj}{xs:List V}(e:H a=some (.frz o (.lst xs))):TyOf K H (.ref a) (.type "list")
 |tup {a:Addr}{xs:List V}(e:H a=some (.tup xs)):TyOf K H (.ref a) (.type "tuple")
 |dK {a:Addr}{aZ:List (iE×V)}{ob:Obj}(e:H a=some (.dK aZ ob)):TyOf K H (.ref a) (.type "dict")
 |dT {a:Addr}{aZ:List (List iE×V)}(e:H a=some (.dT aZ)):TyOf K H (.ref a) (.type "dict")
 |ins {a C dx:Addr}{fs:List (Str×V)}(e:H a=some (.ins C dx fs)) (cl:Cls K C) (ha:PySem.W.findIn K (.ref C) "__class__" = some (some (.builtin "object.__class__")))
   (hn:PySem.W.specialIn K (.builtin "object.__class__") "__get__" = some (some (.builtin "getset_descriptor.__get__"))) (Jw:PySem.W.takesIn K (.builtin "object.__class__")=some true)
   (hm:PySem.W.mroIn K C (.type "object")=some true):TyOf K H (.ref a) (.ref C)
theorem dN (I:Inv X aa σ H s)(rx:aG x u)(ty:TyOf X.K H x t)(e:PySem.W.kitOne X.K t c=some b)(h:∀tk,Q (.bool b) { s with toks:=tk }):
  wpAny (model X.prog X.w) A (call (.builtin "isinstance") [u,c]) Q E s:=by
 cases ty with
 |non=>cases (show u=Value.none from rx);exact kia_one PySem.W.kitx_none I.kIn True.intro e (λz=>nomatch z) h
 |bl y=>cases (show u=Value.bool y from rx);exact kia_one PySem.W.kitx_bool I.kIn True.intro e (λz=>nomatch z) h
 |int i=>obtain⟨t,q⟩:=(show ∃t,u=Value.int i t from rx);cases q;exact kia_one PySem.W.kitx_int I.kIn True.intro e (λz=>nomatch z) h
 |str y=>obtain⟨t,q⟩:=(show ∃t,u=Value.str y t from rx);cases q;exact kia_one PySem.W.kitx_str I.kIn True.intro e (λz=>nomatch z) h
 |flt y=>obtain⟨t,q⟩:=(show ∃t,u=Value.float y t from rx);cases q;exact kia_one PySem.W.kitx_float I.kIn True.intro e (λz=>nomatch z) h
 |@lst a xs ea=>
  cases (show u=Value.ref a from rx)
  obtain⟨_,_,n,_,h1⟩:=(show bC X.prog X.w H s.heap a (.lst xs)from I.hok a _ ea);exact kia_one PySem.W.kitx_list I.kIn ⟨_,h1,rfl⟩ e (λz=>nomatch z) h
 |@frz a ob xs ea=>
  cases (show u=Value.ref a from rx)
  obtain⟨_,_,_,n,_,h1⟩:=(show bC X.prog X.w H s.heap a (.frz ob (.lst xs))from I.hok a _ ea);exact kia_one PySem.W.kitx_list I.kIn ⟨_,h1,rfl⟩ e (λz=>nomatch z) h
 |@tup a xs ea=>
  cases (show u=Value.ref a from rx)
  obtain⟨_,_,_,p⟩:=(show bC X.prog X.w H s.heap a (.tup xs)from I.hok a _ ea);obtain⟨o,h1,h2,_⟩:=p;exact kia_one PySem.W.kitx_tuple I.kIn ⟨o,h1,h2⟩ e (λz=>nomatch z) h
 |@dK a aZ ob ea=>
  cases (show u=Value.ref a from rx)
  obtain⟨_,_,_,vs,_,p⟩:=(show bC X.prog X.w H s.heap a (.dK aZ ob)from I.hok a _ ea);obtain⟨o,es,ep,h1,h2,_⟩:=p;exact kia_one PySem.W.kitx_dict I.kIn ⟨o,h1,h2.1⟩ e (λz=>nomatch z) h
 |@dT a aZ ea=>
  cases (show u=Value.ref a from rx)
  obtain⟨_,_,xs,_,o,es,ep,h1,h2,_⟩:=(show bC X.prog X.w H s.heap a (.dT aZ)from I.hok a _ ea);exact kia_one PySem.W.kitx_dict I.kIn ⟨o,h1,h2.1⟩ e (λz=>nomatch z) h
 |@ins a C dx fs ea cl ha hn Jw hm=>
  cases (show u=Value.ref a from rx)
  obtain⟨mA,O,_⟩:=su I.hok ea;obtain⟨od,J,_⟩:=O.look;exact kia_one (PySem.W.kitx_own (cl.get _) cl.hd ha hn Jw hm) I.kIn J e (λz=>nomatch z) h
end
structure dz (k:Nat)(A:Around):Prop where
 hd:A.handled=none
 dp:A.depth+3*k+5<recursionLimit
 un:A.units+16*k+200<cLine
theorem dz.mono (r:dz k A)(h:j<=k):dz j A:=⟨r.hd,by have:=r.dp;omega,by have:=r.un;omega⟩
theorem dz.deeper (r:dz (k+1) A)(env:Env):dz k (A.deeper env) :=
 ⟨r.hd,by have:=r.dp;show A.depth+1+3*k+5<_;omega,by have:=r.un;show A.units+3+16*k+200<_;omega⟩
theorem dz.depth (r:dz k A):A.depth<recursionLimit:=by have:=r.dp;omega
def Em:TA:=λ_ H Q=>Q [] H
def AM (ta:TE)(tr:TA):TA:=λσ H Q=>ta σ H λx H1=>tr σ H1 λxs H2=>Q (x::xs) H2
section
variable {X:Cx}{e:Expr}{es:List Expr}{te:TE}{t:TA}{pos:Pos}
theorem fN:PA X [] Em:=λ_ _ _ _ H Q I h=>Calls.spliced_nil ⟨[],H,I,.nil,h⟩
theorem dG (ha:PE X e te)(hr:PA X es t)(hs:starEach (e::es) X.env=(false,eval e X.env)::starEach es X.env:=by rfl):PA X (e::es) (AM te t):=by
 intro pos aa s σ H Q I h;rw[hs];show wpAny _ _ (spliced ((false,eval e X.env)::backTo pos (starEach es X.env))) _ _ s;refine Calls.spliced_cons (bH (ha aa s σ H _ I h) λu s1 ⟨x,H1,I1,r1,q1⟩=>?_);exact bH (hr pos aa s1 σ H1 _ I1 q1) λus s2 ⟨xs,H2,I2,r2,q2⟩=>⟨x::xs,H2,I2,.cons r1 r2,q2⟩
def GS (t:TA):TE:=λσ H Q=>t σ H λxs H1=>xs.length<=sizeLine/\∀p,H1 p=none->Q (.ref p) (upd H1 p (.tup xs))
def GU (t:TA):TE:=λσ H Q=>t σ H λxs H1=>xs.length<=sizeLine/\∀p,H1 p=none->Q (.ref p) (upd H1 p (.lst xs))
theorem BY {x1}(h:PA X es t):PE X (.Tuple es x1 pos) (GS t):=by
 intro aa s σ H Q I hq;refine wpAny_Tuple_spliced (bH (h pos aa s σ H _ I hq) λus s1 ⟨xs,H1,I1,r,z,q⟩=>⟨by rw[←r.length];exact z,?_⟩);have hf:H1 s1.heap.objs.size=none:=I1.hok.fresh (vT _);refine⟨.ref s1.heap.objs.size,upd H1 s1.heap.objs.size (.tup xs),I1.laid (t':=s1.toks) (λb u e=>vZ _ e) (vT _) ?_,rfl,q _ hf⟩;exact⟨z,us,r,⟨_,vY _ rfl,rfl,_,rfl⟩⟩
theorem BZ (h:PA X es t):PE X (.List es pos) (GU t):=by
 intro aa s σ H Q I hq;refine wpAny_List_spliced (bH (h pos aa s σ H _ I hq) λus s1 ⟨xs,H1,I1,r,z,q⟩=>⟨by rw[←r.length];exact z,?_⟩);have hf:H1 s1.heap.objs.size=none:=I1.hok.fresh (vT _);refine⟨.ref s1.heap.objs.size,upd H1 s1.heap.objs.size (.lst xs),I1.laid (t':=s1.toks) (λb u e=>vZ _ e) (vT _) ?_,rfl,q _ hf⟩;exact⟨z,us,0,r,vY _ rfl⟩
end
abbrev Sp:=List V->Hp->VK->XK->Prop
abbrev zh:=List Env->Hp->Shared->XK->Value->Shared->Prop
structure Env0 (P:Program)(w:World)(K:Frag)(mg:Str->Option Value)(base:Heap)(A:Around)(outer:List Env)(s:Shared)(H:Hp):Prop where
 frames:A.frames=some outer
 mod:Mod K mg base
 bs:∀b o,base.get? b=some o->s.heap.get? b=some o/\H b=none
 bsz:base.objs.size<=s.heap.objs.size
 funs:s.heap.FunFrames base outer
 frf:∀b∈v7 outer,H b=none
 hok:kl P w H s.heap
 bare:AllBare s.gens
def CE (outer:List Env)(P:Program)(w:World)(H:Hp)(s:Shared)(Q:VK)(u:Value)(s':Shared):Prop :=
 ∃v H',s'.os=s.os/\AllBare s'.gens/\Un (v7 outer) [] H H' s.heap s'.heap/\kl P w H' s'.heap/\aG v u/\Q v H'
def CR (CX:zh)(outer:List Env)(P:Program)(w:World)(H:Hp)(s:Shared)(Q:VK)(E:XK)(r:Result)(s':Shared):Prop :=
 match r with
 |.ok (.ret u)=>CE outer P w H s Q u s'
 |.ok _=>False
 |.error e=>CX outer H s E e s'
structure jG (P:Program)(w:World)(K:Frag)(mg:Str->Option Value)(base:Heap)(CX:zh)(k:Nat)(f:Addr)(fd:FuncData)(ps:List Str)(sp:Sp):Prop where
 len:∀vs H Q E,sp vs H Q E->vs.length=ps.length
 run:∀(A:Around)(outer:List Env)(s:Shared)(H:Hp)(args:Args)(us:List Value)(vs:List V)(Q:VK)(E:XK),dz k A->Env0 P w K mg base A outer s H->BindsTo s fd args (ps.zip us)->a9 vs us->sp vs H Q E ->
  codeAny (model P w) A (.call (.ref f) args) (CR CX outer P w H s Q E) s
theorem jG.imp {P:Program}{w:World}{K:Frag}{mg:Str->Option Value}{base:Heap}{CX:zh}{k:Nat}{f:Addr}{fd:FuncData}{ps:List Str}{sp Jx:Sp}(F:jG P w K mg base CX k f fd ps sp)
  (h:∀vs H Q E,Jx vs H Q E->sp vs H Q E):jG P w K mg base CX k f fd ps Jx :=
 ⟨λvs H Q E q=>F.len vs H Q E (h _ _ _ _ q),λA outer s H args us vs Q E hr he hb hv hs=>F.run A outer s H args us vs Q E hr he hb hv (h _ _ _ _ hs)⟩
section
variable {X:Cx}{aa:List (Addr×Obj)}{σ:St}{H:Hp}{s s':Shared}
theorem Inv.env0 (I:Inv X aa σ H s):Env0 X.prog X.w X.K X.mg X.base X.A X.stack s H :=
 ⟨I.ok.frames,I.ok.mod,I.bs,vR I.ok.bsz I.sz,I.stack,I.stkFree,I.hok,I.bare⟩
theorem Inv.after (I:Inv X aa σ H s)(h:CE X.stack X.prog X.w H s Q u s'):EP X aa σ Q u s':=by
 obtain⟨v,H',os,bare,un,hok,r,q⟩:=h;obtain⟨hh,g,d,t,HS⟩:=s';obtain rfl:HS=s.os:=os;exact⟨v,H',I.call (h':=hh) (g':=g) (d':=d) (t':=t) (ch:=[]) un hok bare (λb z=>absurd z (by simp)),r,q⟩
end
def En (sp:Sp)(vO:List V)(E:XK)(t:TA):TE:=λσ H Q=>t σ H λvs H1=>sp (vs++vO) H1 Q E
def Jf (C:Addr)(m:Str)(sp:Sp)(vO:List V)(E:XK)(ta:TE)(t:TA):TE:=λσ H Q=>ta σ H λx H1=>∃a dx fs,x=.ref a/\H1 a=some (.ins C dx fs)/\fs.lookup m=none /\
 t σ H1 λvs H2=>sp (x::(vs++vO)) H2 Q E
def Jg (C:Addr)(sp:Sp)(vO:List V)(E:XK)(t:TA):TE:=λσ H Q=>t σ H λvs H1=>∀x dx,H1 x=none->H1 dx=none->dx≠x ->
 sp (.ref x::(vs++vO)) (upd (upd H1 dx (.own x)) x (.ins C dx [])) (λv H2=>v=.non/\Q (.ref x) H2) E
def m9 (K:Frag)(fd:FuncData)(ps:List Str)(ds:List Value):Prop :=
 ∀(s:Shared)(us:List Value),K.In s.heap->(us++ds).length=ps.length->BindsTo s fd ⟨us,[]⟩ (ps.zip (us++ds))
theorem m9.all {K:Frag}{fd:FuncData}{ps:List Str}(h:∀us:List Value,us.length=ps.length->bindArgs fd ⟨us,[]⟩=pure (ps.zip us)):m9 K fd ps []:=λs us _ hl=>by
 rw[uQ]at hl ⊢;exact .of_eq (h us hl)
def qM (CX:zh)(X:Cx)(E:XK):Prop:=∀(aa:List (Addr×Obj))(σ:St)(H:Hp)(s:Shared)(e:Value)(s':Shared),Inv X aa σ H s->CX X.stack H s E e s'->X.xe e s'
section
variable {X:Cx}{CX:zh}{k:Nat}{f C:Addr}{fd:FuncData}{ps:List Str}{sp:Sp}{vO:List V}{ds:List Value}{E:XK}{x m:Str}{p pos dM:Pos}{e o:Expr}{es:List Expr}{ta:TE}{t:TA}
theorem Ca {aa:List (Addr×Obj)}{σ:St}{H:Hp}{s:Shared}{Q:VK}{us:List Value}{vs:List V}(F:jG X.prog X.w X.K X.mg X.base CX k f fd ps sp)(hr:dz k X.A)(hb:m9 X.K fd ps ds)(hd:a9 vO ds)(hx:qM CX X E)
  (I:Inv X aa σ H s) (r:a9 vs us) (h:sp (vs++vO) H Q E):wq X (call (.ref f) us) (EP X aa σ Q) X.xe s:=by
 have r2:a9 (vs++vO) (us++ds):=r.append hd;have hl:(us++ds).length=ps.length:=by rw[←r2.length];exact F.len _ _ _ _ h
 refine wpAny_call (codeAny_mono (F.run X.A X.stack s H ⟨us,[]⟩ (us++ds) (vs++vO) Q E hr I.env0 (hb s us I.kIn hl) r2 h) λr s' hq=>?_);cases r with
 |error e=>exact hx aa σ H s e s' I hq
 |ok fl=>
  cases fl with
  |ret u=>exact I.after hq
  |next=>exact False.elim hq
  |brk=>exact False.elim hq
  |cont=>exact False.elim hq
theorem zi (F:jG X.prog X.w X.K X.mg X.base CX k f fd ps sp)(hr:dz k X.A)(hg:Gl X x)(hm:X.mg x=some (.ref f))(hk:PySem.W.keepIn X.K (.ref f)=true)(hb:m9 X.K fd ps ds)(hd:a9 vO ds)(hx:qM CX X E)
  (ha:PA X (e::es) t) (qC:(x == ("__debug__" : Str))=false:=by decide) (he:starEach (e::es) X.env=(false,eval e X.env)::starEach es X.env:=by rfl) (kz:(backTo pos (starEach es X.env)).any (·.1)=false:=by rfl):
  PE X (.Call (.Name x p) (e::es) [] pos) (En sp vO E t):=by
 intro aa s σ H Q I h;refine wpAny_Call_Name_kw (sn I hg hm ?_ qC);refine PySem.W.callWith_K (h₀:=X.base) I.ok.mod.kin hk (bH (ha pos aa s σ H _ I h) λus s1 ⟨vs,H1,I1,r,q⟩=>⟨I1.kIn,?_⟩) he kz;exact Ca F hr hb hd hx I1 r q
end
structure FnScope (N P:List Str)(sc:Scope):Prop where
 kind:sc.kind=.function
 co:sc.isCoroutine=false
 gen:sc.isGenerator=false
 nd:N.Nodup
 pre:N.take P.length=P
 par:∀x∈P,sc.names.lookup x=some .local∨sc.names.lookup x=some .cell
 nofree:∀y∈sc.names,y.2≠.free
theorem mB {kindOf:Str->Option NameKind}{x:Str}:∀ {binds:List (Str×Value)}{m:Str->Option Value},(∀v,(x,v)∉binds)->bindL kindOf binds m x=m x
 |[],_,_=>rfl
 | (n,v)::r,m,h=>by
  unfold bindL;rw[mB λw hw=>h w (mZ _ hw)];split
  ·have:x≠n:=by rintro rfl;exact h v mX
   simp[this]
  ·rfl
theorem mC {kindOf:Str->Option NameKind}{x:Str}:∀ {binds:List (Str×Value)}{m:Str->Option Value},(∀v,(x,v)∉binds)->bindC kindOf binds m x=m x
 |[],_,_=>rfl
 | (n,v)::r,m,h=>by
  unfold bindC;rw[mC λw hw=>h w (mZ _ hw)];split
  ·rfl
  ·have:x≠n:=by rintro rfl;exact h v mX
   simp[this]
theorem mD {kindOf:Str->Option NameKind}{x:Str}{v:Value}:∀ {P:List Str}{vs:List Value}{i:Nat}{m:Str->Option Value},P.Nodup->P[i]? = some x->vs[i]? = some v->kindOf x=some .local ->
  bindL kindOf (P.zip vs) m x=some v
 |[],_,_,_,_,h,_,_=>by simp at h
 |_::_,[],_,_,_,_,h,_=>by simp at h
 |p::P,w::vs,0,m,nd,h1,h2,hk=>by
  simp at h1 h2;subst h1;subst h2;show bindL kindOf ((p,w)::P.zip vs) m p=_;unfold bindL;rw[mB λv hv=>(List.nodup_cons.mp nd).1 (List.of_mem_zip hv).1,if_pos hk];simp
 |p::P,w::vs,i+1,m,nd,h1,h2,hk=>by
  show bindL kindOf ((p,w)::P.zip vs) m x=_;unfold bindL;exact mD (i:=i) (List.nodup_cons.mp nd).2 (by simpa using h1) (by simpa using h2) hk
theorem mE {kindOf:Str->Option NameKind}{x:Str}{v:Value}:∀ {P:List Str}{vs:List Value}{i:Nat}{m:Str->Option Value},P.Nodup->P[i]? = some x->vs[i]? = some v->kindOf x≠some .local ->
  bindC kindOf (P.zip vs) m x=some v
 |[],_,_,_,_,h,_,_=>by simp at h
 |_::_,[],_,_,_,_,h,_=>by simp at h
 |p::P,w::vs,0,m,nd,h1,h2,hk=>by
  simp at h1 h2;subst h1;subst h2;show bindC kindOf ((p,w)::P.zip vs) m p=_;unfold bindC;rw[mC λv hv=>(List.nodup_cons.mp nd).1 (List.of_mem_zip hv).1,if_neg hk];simp
 |p::P,w::vs,i+1,m,nd,h1,h2,hk=>by
  show bindC kindOf ((p,w)::P.zip vs) m x=_;unfold bindC;exact mE (i:=i) (List.nodup_cons.mp nd).2 (by simpa using h1) (by simpa using h2) hk
noncomputable def gf (N:List Str)(vs:List V):St:=vs.map some++List.replicate (N.length - vs.length) none
noncomputable def jY (CX:zh)(P:Program)(w:World)(K:Frag)(mg:Str->Option Value)(base:Heap)(N:List Str)(qual:Str)(scope:Scope)(f:Addr)(cd:Value)(A:Around)(outer:List Env)(s:Shared)(H:Hp)(E:XK):Cx where
 prog:=P
 w:=w
 K:=K
 mg:=mg
 base:=base
 A:=A.deeper (envOfC qual scope s.heap.objs.size f cd)
 N:=N
 s₀:=s
 H₀:=H
 env:=envOfC qual scope s.heap.objs.size f cd
 outer:=outer
 stack:=envOfC qual scope s.heap.objs.size f cd::outer
 ex:=[]
 calm:=true
 fn:=λ_=>true
 pn:=[]
 xe:=λe s'=>wpAny (model P w) (A.deeper (envOfC qual scope s.heap.objs.size f cd)) (leaving (envOfC qual scope s.heap.objs.size f cd) e) (λ_ Ff=>CX outer H s E e Ff) (λe' Ff=>CX outer H s E e' Ff) s'
theorem oS {sc:Scope}{n:Nat}{x:Str}(h:sc.names.lookup x=some .cell):∃c,(cellsFrom n sc.names []).lookup x=some c:=by
 have q:=PySem.W.cellsFrom_some sc.names n [] (.inl h);exact Option.isSome_iff_exists.mp q
theorem ul {CX:zh}{P:Program}{w:World}{K:Frag}{mg:Str->Option Value}{base:Heap}{N ps:List Str}{qual:Str}{scope:Scope}{f:Addr}{cd:Value}{A:Around}{outer:List Env}{s s1:Shared}{H:Hp}{E:XK}{us:List Value}{vs:List V}
  (S:FnScope N ps scope) (hd:A.handled=none) (e0:Env0 P w K mg base A outer s H) (hl:vs.length=ps.length) (r:a9 vs us)
  (x:InCallC s s.heap.objs.size (bindL (envOfC qual scope s.heap.objs.size f cd).kindOf (ps.zip us) λ_=>none) (cellsFrom (s.heap.objs.size+1) scope.names []) (bindC (envOfC qual scope s.heap.objs.size f cd).kindOf (ps.zip us) λ_=>none) s1):
  Inv (jY CX P w K mg base N qual scope f cd A outer s H E) [] (gf N vs) H s1:=by
 have kz:ps.length<=N.length:=by have:=congrArg List.length S.pre;rw[List.length_take]at this;omega
 obtain⟨h1,tk,rfl,hk⟩:=x.done;have Fg:∀b:Addr,b∉(jY CX P w K mg base N qual scope f cd A outer s H E).ex:=λb z=>absurd (show b∈([]:List Addr)from z) (by simp);refine⟨⟨e0.mod,S.kind,rfl,rfl,vT _,λy z c h1 h2=>?_,λy hy=>?_,λy c _ h=>?_,λ_=>hd,Around.frames_deeper e0.frames,.inr ⟨rfl,rfl⟩,λb z=>absurd z (Fg b),e0.bs,e0.bsz,λb _ _=>Fg b,λb z=>absurd z (Fg b),e0.funs,e0.frf⟩,
  rfl,e0.bare,Un.kept hk,⟨_,x.toInCall.ns,λi y v h1 h2 h3=>?_⟩,λy c h=>⟨_,x.cell y c h⟩,e0.hok.fresh (vT _),λy c h=>?_,λp hp=>absurd (show p∈([]:List (Addr×Obj))from hp) (by simp),e0.hok.kept hk,?_⟩
 ·exact name_of_addr x.apart (PySem.mem_of_lookup h1) (PySem.mem_of_lookup h2)
 ·have hy:scope.names.lookup y=some .cell∨scope.names.lookup y=some .free:=hy;rcases hy with hy|hy
  ·exact oS hy
  ·exact absurd rfl (S.nofree _ (PySem.mem_of_lookup hy))
 ·exact Nat.le_of_lt (x.above y c (PySem.mem_of_lookup h))
 ·have hi:i<vs.length:=by
   unfold gf at h2;by_cases hi:i<vs.length
   ·exact hi
   ·rw[List.getElem?_append_right (by simpa using hi)]at h2;rw[List.getElem?_replicate]at h2;split at h2<;>cases h2
  have ha:vs[i]? = some v:=by
   unfold gf at h2;rw[List.getElem?_append_left (by simpa using hi),vA]at h2;cases e:vs[i]? with
   |none=>rw[e]at h2;cases h2
   |some a=>rw[e]at h2;cases h2;rfl
  obtain⟨u,hu,rv⟩:=r.get ha;have hp:ps[i]? = some y:=by
   rw[←S.pre,List.getElem?_take_of_lt (by omega)];exact h1
  have Jy:ps.Nodup:=by rw[←S.pre];exact S.nd.sublist (List.take_sublist _ _)
  refine⟨u,rv,?_⟩;rcases S.par y (List.mem_of_getElem? hp)with k|k
  ·exact .inl ⟨k,mD Jy hp hu k⟩
  ·obtain⟨c,e⟩:=oS (n:=s.heap.objs.size+1) k;refine .inr ⟨.inl k,c,e,?_⟩;have q:=x.cell y c e;rw[mE Jy hp hu (by show scope.names.lookup y≠_;rw[k];decide)]at q;exact q
 ·exact e0.hok.fresh (Nat.le_of_lt (x.above y c (PySem.mem_of_lookup h)))
 ·unfold gf;show _=N.length;rw[uZ,vH,List.length_replicate];omega
theorem AN {CX:zh}{P:Program}{w:World}{K:Frag}{mg:Str->Option Value}{base:Heap}{k:Nat}{f:Addr}{name qual:Str}{params:Arguments}{body:List Stmt}{scope:Scope}{dV kV doc pm cz ct oc:Value}{an od:Option Addr}
  {lX:Array (Option Value)}{N ps:List Str}{sp:Sp}(lk:K.lookup f=some ⟨oc,od,.func (fnOf name qual params body scope dV kV doc pm an cz ct),lX⟩) (jX:PySem.W.codeIn K cz qual=true) (S:FnScope N ps scope)
  (len:∀vs H Q E,sp vs H Q E->vs.length=ps.length)
  (y7:∀(A:Around)(outer:List Env)(s:Shared)(H:Hp)(vs:List V)(Q:VK)(E:XK),dz k (A.deeper (envOfC qual scope s.heap.objs.size f cz))->sp vs H Q E ->
   ∃t,nL (jY CX P w K mg base N qual scope f cz A outer s H E) body t/\t { nx:=λ_ H'=>Q .non H',rt:=Q } (gf N vs) H):
  jG P w K mg base CX (k+1) f (fnOf name qual params body scope dV kV doc pm an cz ct) ps sp:=by
 refine⟨len,λA outer s H args us vs Q E hr e0 hb r DA=>?_⟩;have hl:=len _ _ _ _ DA;have KX:K.In s.heap:=e0.mod.kin.keeps λb o e=>(e0.bs b o e).1;have Ls:s.heap.NoLimit:=e0.mod.nolimit.keeps λb o e=>(e0.bs b o e).1;have Fh:∀y∈ps.zip us,scope.names.lookup y.1=some .local∨(scope.names.lookup y.1=some .cell/\((cellsFrom (s.heap.objs.size+1) scope.names []).lookup y.1).isSome=true):=λ⟨n,v⟩ hy=>by
  rcases S.par n (List.of_mem_zip hy).1 with q|q
  ·exact .inl q
  ·exact .inr ⟨q,PySem.W.cellsFrom_some _ _ _ (.inl q)⟩
 refine codeAny_call_function hr.depth (KX _ _ lk) rfl S.co S.gen rfl (PySem.W.codeRec_of KX jX) (hb _ _ _ _ ?_);refine wpAny_newFunctionEnv_cells S.kind Fh λenv he s1 x=>?_;subst he;refine⟨Ls.keeps x.toInCall.keep,codeAny_func ?_⟩;obtain⟨t,ht,hq⟩:=y7 A outer s H vs Q E (hr.deeper _) DA;have I:Inv (jY CX P w K mg base N qual scope f cz A outer s H E) [] (gf N vs) H s1:=ul S hr.hd e0 hl r x;refine wpAny_mono (ht [] s1 (gf N vs) H _ I hq) (λfl s' hs=>?_) λe s' hs=>hs;have fin:∀ {σ':St}{H':Hp}{v:V}{u:Value},Inv (jY CX P w K mg base N qual scope f cz A outer s H E) [] σ' H' s'->aG v u->Q v H'->CE outer P w H s Q u s' :=
  λ{σ' H' v u} J rv q=>⟨v,H',J.os,J.bare,J.base,J.hok,rv,q⟩
 cases fl with
 |ret u=>
  obtain⟨v,σ',H',J,rv,q⟩:=hs;exact fin J rv q
 |next=>
  obtain⟨σ',H',J,q⟩:=hs;exact fin (v:=V.non) (u:=Value.none) J rfl q
 |brk=>
  obtain⟨_,_,_,q⟩:=hs;exact False.elim q
 |cont=>
  obtain⟨_,_,_,q⟩:=hs;exact False.elim q
section
variable {X:Cx}{x:Str}{p pos:Pos}{e:Expr}{es:List Expr}{t:TA}{id T:String}{r:List V->Hp->VK->Prop}
def Jh (r:List V->Hp->VK->Prop)(t:TA):TE:=λσ H Q=>t σ H λvs H1=>r vs H1 Q
theorem kF (hc:b7 X (.builtin id) r)(hg:Gl X x)(hm:X.mg x=none)(hv:bootBuiltins x=some (.builtin id))(ha:PA X (e::es) t)(hn:x ≠ "__name__":=by decide)(qC:(x == ("__debug__" : Str))=false:=by decide)
  (he:starEach (e::es) X.env=(false,eval e X.env)::starEach es X.env:=by rfl) (kz:(backTo pos (starEach es X.env)).any (·.1)=false:=by rfl):PE X (.Call (.Name x p) (e::es) [] pos) (Jh r t):=by
 intro aa s σ H Q I h;refine wpAny_Call_Name_kw (hZ I hg hm hv ?_ hn qC);exact PyProof.Rows.callWith_builtin1 (bH (ha pos aa s σ H _ I h) λus s1 ⟨vs,H1,I1,r1,q1⟩=>hc aa s1 σ H1 vs us Q I1 r1 q1) he kz
theorem j0 (hc:b7 X (.type T) r)(hg:Gl X x)(hm:X.mg x=none)(hv:bootBuiltins x=some (.type T))(ha:PA X (e::es) t)(hn:x ≠ "__name__":=by decide)(qC:(x == ("__debug__" : Str))=false:=by decide)
  (he:starEach (e::es) X.env=(false,eval e X.env)::starEach es X.env:=by rfl) (kz:(backTo pos (starEach es X.env)).any (·.1)=false:=by rfl):PE X (.Call (.Name x p) (e::es) [] pos) (Jh r t):=by
 intro aa s σ H Q I h;refine wpAny_Call_Name_kw (hZ I hg hm hv ?_ hn qC);exact PyProof.Rows.callWith_type1 (bH (ha pos aa s σ H _ I h) λus s1 ⟨vs,H1,I1,r1,q1⟩=>hc aa s1 σ H1 vs us Q I1 r1 q1) he kz
end
end L2
namespace HT
open PySem PyProof.Rows
section
open PySem.SeqAt
open PySem.AutoSeq1 (wpAny_loadPart')
open PySem.MeetsSeq PySem.MeetsSeq2 PySem.MeetsSeq3
end
section
variable {prog:Program}{w:World}{A:Around}{E:Value->Shared->Prop}{s:Shared}
theorem zj (ht:IsTup s.heap t vs.toArray)(hb:IsTup s.heap b ws.toArray)(hv:vs≠[])
  (h1:ws=[]->Q (.ref t) s) (h2:ws≠[]->Q (.ref s.heap.objs.size) { s with heap:=s.heap.push { cls:=.type "tuple",data:=.seq (vs++ws).toArray } })
  (hsz:vs.length+ws.length<=sizeLine):wpAny (model prog w) A (binaryOp .Add (.ref t) (.ref b)) Q E s:=by
 obtain⟨⟨cls,dd,data,sl⟩,ho,hc,n,hd⟩:=id ht;obtain⟨⟨Lu,Jz,data2,J0⟩,DB,Fi,n2,J2⟩:=id hb;simp only at hc hd Fi J2;subst hc hd Fi J2;have e:vs.toArray++ws.toArray=(vs++ws).toArray:=by simp
 by_cases hw:ws=[]
 ·exact concat_meets ⟨_,ho,rfl⟩ ⟨_,DB,rfl⟩ noFill_tuple_add seq_tuple_add PySem.F.slot_tuple_add PySem.F.entry_tuple_add (PySem.F.args_tuple_add_2 _ _)
   (tuple_addW1 t b vs.toArray ws.toArray n n2 dd Jz sl J0 (by simpa using hv) (by simp[hw])) ⟨ho,DB,h1 hw⟩
 ·refine concat_meets ⟨_,ho,rfl⟩ ⟨_,DB,rfl⟩ noFill_tuple_add seq_tuple_add PySem.F.slot_tuple_add PySem.F.entry_tuple_add (PySem.F.args_tuple_add_2 _ _)
   (tuple_addW2 t b vs.toArray ws.toArray n n2 dd Jz sl J0 (by simpa using hv) (by simpa using hw) (by rw[vG,vG];exact hsz)) ⟨ho,DB,?_⟩
  rw[e];exact h2 hw
noncomputable def bX (n d:Nat):Option Int->Nat
 |none=>d
 |some v=>if v<0 then (v+(n:Int)).toNat else min v.toNat n
theorem wt (n d:Nat):bX n d none=d:=rfl
theorem zk (n d k:Nat):bX n d (some (k:Int))=min k n:=by
 show(if(k:Int)<0 then ((k:Int)+(n:Int)).toNat else min (k:Int).toNat n)=min k n;rw[if_neg (by omega),Int.toNat_natCast]
theorem Cb (n d:Nat)(hd:d<=n)(o:Option Int):bX n d o<=n:=by
 cases o with
 |none=>exact hd
 |some v=>
  show(if v<0 then (v+(n:Int)).toNat else min v.toNat n)<=n;by_cases hv:v<0
  ·rw[if_pos hv];omega
  ·rw[if_neg hv];exact Nat.min_le_right _ _
theorem sv (v:Int)(n d:Nat):(if v<0 then max (v+(n:Int)) 0 else min v (n:Int))=((bX n d (some v):Nat):Int):=by
 show(if v<0 then max (v+(n:Int)) 0 else min v (n:Int))=(((if v<0 then (v+(n:Int)).toNat else min v.toNat n):Nat):Int);by_cases hv:v<0
 ·simp only[if_pos hv];omega
 ·simp only[if_neg hv];omega
theorem qN (lo hi:Option Int)(n:Nat):Builtin.Slice.sliceAdjust lo hi 1 (n:Int)=(((bX n 0 lo:Nat):Int),((bX n n hi:Nat):Int)):=by
 have h1:¬((1:Int)<0):=by omega
 unfold Builtin.Slice.sliceAdjust;simp only[h1,if_false];refine Prod.ext ?_ ?_
 ·cases lo with
  |none=>rfl
  |some v=>exact sv v n 0
 ·cases hi with
  |none=>rfl
  |some v=>exact sv v n n
theorem qO (i j:Nat):Builtin.Slice.slicePlaces (i:Int) (j:Int) 1=j - i:=by
 unfold Builtin.Slice.slicePlaces;have h1:(1:Int) > 0:=by omega
 simp only[h1,if_true,Int.ediv_one];split<;>omega
theorem kG (p:IsPart v o)(h:Q o s):wpAny (model prog w) A (Builtin.Slice.slicePartIndex v) Q E s:=by
 cases p with
 |none=>exact slicePart_none h
 |int i t=>exact slicePart_int h
theorem fj {sl:Addr}{vl vu:Value}{lo hi:Option Int}{n:Nat}{Q:Int×Int×Nat->Shared->Prop}(hs:s.heap.IsSliceOf sl vl vu .none)(pl:IsPart vl lo)(pu:IsPart vu hi)
  (h:Q (((bX n 0 lo:Nat):Int),1,bX n n hi - bX n 0 lo) s):wpAny (model prog w) A (Builtin.Slice.sliceApplied (.ref sl) (pure (n:Int))) Q E s:=by
 obtain⟨os,A5,G0,A6⟩:=id hs;unfold Builtin.Slice.sliceApplied Builtin.Slice.sliceFields;refine wX (wX (wpAny_field A5 A6 (x:=vl) rfl (wX (wpAny_field A5 A6 (x:=vu) rfl (wX (wpAny_field A5 A6 (x:=.none) rfl (wY ?_)))))));refine wX (slicePart_none ?_);show wpAny _ _ (if((1:Int) == 0)=true then _ else _) _ _ s;rw[if_neg (by decide)];refine wX (kG pl (wX (kG pu (wX (wY ?_)))));show wpAny _ _ (match Builtin.Slice.sliceAdjust lo hi 1 (n:Int) with|(lo,hi)=>pure (lo,(1:Int),Builtin.Slice.slicePlaces lo hi 1)) _ _ s;rw[qN lo hi n];show wpAny _ _ (pure (((bX n 0 lo:Nat):Int),(1:Int),Builtin.Slice.slicePlaces ((bX n 0 lo:Nat):Int) ((bX n n hi:Nat):Int) 1)) _ _ s;rw[qO];exact wY h
theorem wu (xs:Array Value)(i k:Nat):((List.range k).filterMap λ(m:Nat)=>xs[((i:Int)+(m:Int)*1).toNat]?).toArray=((xs.toList.drop i).take k).toArray:=by
 have e:(λ(m:Nat)=>xs[((i:Int)+(m:Int)*1).toNat]?)=λm=>xs[i+m]?:=by
  funext m;have:((i:Int)+(m:Int)*1).toNat=i+m:=by omega
  rw[this]
 rw[e];have:=pick_run xs i k;rw[List.filterMap_map]at this;have e2:((λx=>xs[x]?) ∘ λx=>i+x)=λm=>xs[i+m]?:=rfl;rw[e2]at this;rw[this]
theorem iL {t sl:Addr}{am:Array Value}{vl vu:Value}{lo hi:Option Int}{Q:Value->Shared->Prop}(ht:IsTup s.heap t am)(hs:s.heap.IsSliceOf sl vl vu .none)(pl:IsPart vl lo)(pu:IsPart vu hi)
  (hw:¬(bX am.size 0 lo=0/\bX am.size am.size hi=am.size))
  (h:Q (.ref s.heap.objs.size) { s with heap:=s.heap.push { cls:=.type "tuple",data:=.seq ((am.toList.drop (bX am.size 0 lo)).take (bX am.size am.size hi - bX am.size 0 lo)).toArray } })
  (hsz:am.size<=sizeLine):wpAny (model prog w) A (getItem (.ref t) (.ref sl)) Q E s:=by
 have ua:sizeOk (.seq ((am.toList.drop (bX am.size 0 lo)).take (bX am.size am.size hi - bX am.size 0 lo)).toArray):=by
  show((am.toList.drop (bX am.size 0 lo)).take (bX am.size am.size hi - bX am.size 0 lo)).toArray.size<=sizeLine
  rw[vG,List.length_take,List.length_drop,vF]
  omega
 have hj:bX am.size am.size hi<=am.size:=Cb _ _ (vT _) hi
 obtain⟨os,A5,G0,A6⟩:=id hs
 have Lv:s.TypeIs (.ref sl) "slice":=⟨os,A5,G0⟩
 unfold getItem
 try with_reducible refine wpAny_holding ?_
 first|refine wX (wY ?_)|skip
 refine wX (wpAny_sequenceKey ht.typeIs (by decide) ?_)
 refine wX (wpAny_callSpecial?_slot (name:=Str.ofString "__getitem__") ht.typeIs PyProof.Rows.slot_tuple_getitem
  (wpAny_call_entry PyProof.Rows.slot_tuple_getitem ht.typeIs entry_tuple_getitem ?_ (args_tuple_getitem _ _)))
 show wpAny _ _ (Builtin.Tuple.tupleItemsOf (.ref t)>>=_) _ _ s
 refine wX (tupleItemsOf_ ht ?_)
 refine wX (wpAny_typeOf Lv ?_)
 rw[if_pos (by decide)]
 refine wX (fj hs pl pu ?_)
 have DC:¬((((bX am.size 0 lo:Nat):Int) == 0 && (1:Int) == 1 && (bX am.size am.size hi - bX am.size 0 lo) == am.size)=true):=by
  intro q
  rw[vC,vC]at q
  have q1:((bX am.size 0 lo:Nat):Int)=0:=eq_of_beq q.1.1
  have q2:bX am.size am.size hi - bX am.size 0 lo=am.size:=eq_of_beq q.2
  exact hw ⟨by omega,by omega⟩
 show wpAny _ _ (if(((bX am.size 0 lo:Nat):Int) == 0 && (1:Int) == 1 && (bX am.size am.size hi - bX am.size 0 lo) == am.size)=true then _ else _) _ _ s
 rw[if_neg DC,wu]
 first
  |exact wX (m:=Builtin.Tuple.tupleExact _) (wpAny_newObj_type (wY ⟨_,rfl,wY h⟩) ua)
  |exact wX (m:=Builtin.Tuple.tupleExact _) (wpAny_newObj_type (wX (wY (wY ⟨_,rfl,wY h⟩))) ua)
  |exact wX (wX (m:=Builtin.Tuple.tupleExact _) (wpAny_newObj_type (wY (wY ⟨_,rfl,wY h⟩)) ua))
  |exact wX (wX (m:=Builtin.Tuple.tupleExact _) (wpAny_newObj_type (wY ⟨_,rfl,wY h⟩) ua))
end
end HT
namespace L2
open PySem PySem.Spec PyProof.Rows
abbrev TO:=St->Hp->(Option Int->Hp->Prop)->Prop
def PO (X:Cx)(e:Option Expr)(t:TO):Prop :=
 ∀(aa:List (Addr×Obj))(s:Shared)(σ:St)(H:Hp)(Q:Option Int->Hp->Prop),Inv X aa σ H s->t σ H Q ->
  wq X (evalPart e X.env) (λu s'=>∃o H',Inv X aa σ H' s'/\IsPart u o/\Q o H') X.xe s
def zm:TO:=λ_ H Q=>Q none H
def Eo (t:TE):TO:=λσ H Q=>t σ H λx H1=>∃i,x=.int i/\Q (some i) H1
section
variable {X:Cx}{e:Expr}{te:TE}{lo hi:Option Expr}{tl th:TO}{pos p2:Pos}
theorem zn:PO X none zm:=by
 intro aa s σ H Q I h;rw[evalPart_none];exact wY ⟨none,H,I,.none,h⟩
theorem zo (h:PE X e te):PO X (some e) (Eo te):=by
 intro aa s σ H Q I hw;rw[evalPart_some];refine bH (h aa s σ H _ I hw) λu s1 ⟨x,H1,I1,r1,q1⟩=>?_;obtain⟨i,rfl,q⟩:=q1;obtain⟨t,rfl⟩:=r1;exact⟨some i,H1,I1,.int i t,q⟩
def vE (X:Cx)(r:V->Option Int->Option Int->Hp->VK->Prop):Prop :=
 ∀(aa:List (Addr×Obj))(s:Shared)(σ:St)(H:Hp)(x:V)(v vl vu:Value)(lo hi:Option Int)(sl:Addr)(Q:VK),Inv X aa σ H s->aG x v->s.heap.IsSliceOf sl vl vu .none->IsPart vl lo->IsPart vu hi->r x lo hi H Q ->
  ∃T id,typeLookup (.type T) "__getitem__" = pure (some (.builtin id))/\s.TypeIs v T/\wq X (getItem v (.ref sl)) (EP X aa σ Q) X.xe s
theorem vE.or (h:vE X r)(h':vE X r'):vE X (λx lo hi H Q=>r x lo hi H Q∨r' x lo hi H Q):=by
 intro aa s σ H x v vl vu lo hi sl Q I rx hs pl pu q;rcases q with q|q
 ·exact h aa s σ H x v vl vu lo hi sl Q I rx hs pl pu q
 ·exact h' aa s σ H x v vl vu lo hi sl Q I rx hs pl pu q
def KG (r:V->Option Int->Option Int->Hp->VK->Prop)(te:TE)(tl th:TO):TE:=λσ H Q=>te σ H λx H1=>tl σ H1 λl H2=>th σ H2 λu H3=>r x l u H3 Q
theorem wv (hr:vE X r)(he:PE X e te)(hl:PO X lo tl)(hu:PO X hi th):PE X (.Subscript e (.Slice lo hi none p2) pos) (KG r te tl th):=by
 intro aa s σ H Q I h;refine Subscript_ (bH (he aa s σ H _ I h) λv s1 ⟨x,H1,I1,r1,q1⟩=>?_);refine wpAny_Slice (bH (hl aa s1 σ H1 _ I1 q1) λvl s2 ⟨l,H2,I2,pl,q2⟩=>bH (hu aa s2 σ H2 _ I2 q2) λvu s3 ⟨u,H3,I3,pu,q3⟩=>?_);rw[evalPart_none];refine wY ?_;have I4:Inv X aa σ H3 { s3 with heap:=s3.heap.push { cls:=.type "slice",data:=.fields #[vl,vu,.none] } }:=I3.kept (t':=s3.toks) λb ob q=>vZ _ q;obtain⟨T,id,hT,ht,hg⟩:=hr aa { s3 with heap:=s3.heap.push { cls:=.type "slice",data:=.fields #[vl,vu,.none] } } σ H3 x v vl vu l u s3.heap.objs.size Q I4 r1 (Heap.IsSliceOf.new ..) pl pu q3;show wq X (subscriptTail e (.Slice lo hi none p2) v (.ref s3.heap.objs.size)) (EP X aa σ Q) X.xe { s3 with heap:=s3.heap.push { cls:=.type "slice",data:=.fields #[vl,vu,.none] } };exact tail_any (ops:=[.ref s3.heap.objs.size,v]) ht hT hg (by with_unfolding_all rfl)
def lY (xs:List V)(lo hi:Option Int):List V:=(xs.drop (HT.bX xs.length 0 lo)).take (HT.bX xs.length xs.length hi - HT.bX xs.length 0 lo)
theorem jI (xs:List V)(lo hi:Option Int):(lY xs lo hi).length<=xs.length:=by
 unfold lY;rw[List.length_take,List.length_drop];omega
def GV (K:Frag):V->Option Int->Option Int->Hp->VK->Prop:=λx lo hi H Q=>∃a xs,x=.ref a/\fg K H a xs /\
 ¬(HT.bX xs.length 0 lo=0/\HT.bX xs.length xs.length hi=xs.length)/\∀p,H p=none->Q (.ref p) (upd H p (.tup (lY xs lo hi)))
theorem Cc:vE X (GV X.K):=by
 intro aa s σ H x v vl vu lo hi sl Q I rx hs pl pu h;obtain⟨a,xs,rfl,hx,hw,q⟩:=h;cases rx
 obtain⟨its,r,ht,hz⟩:=I.tuple hx;have bp:its.toArray.size=xs.length:=by rw[vG];exact r.length.symm
 refine⟨"tuple",_,PyProof.Rows.slot_tuple_getitem.lookup,ht.typeIs,?_⟩;refine HT.iL ht hs pl pu (by rw[bp];exact hw) ?_ (by rw[bp];exact hz);rw[bp];refine⟨.ref s.heap.objs.size,_,I.laid (t':=s.toks) (o:=.tup (lY xs lo hi)) (λb ob q=>vZ _ q) (vT _) ?_,rfl,q _ (I.hok.fresh (vT _))⟩;exact⟨vR (jI xs lo hi) hz,_,(r.drop (HT.bX xs.length 0 lo)).take (HT.bX xs.length xs.length hi - HT.bX xs.length 0 lo),IsTup.new _ _⟩
def Ep (K:Frag):R2:=λx y H Q=>∃a b xs ys,x=.ref a/\y=.ref b/\fg K H a xs/\fg K H b ys/\xs≠[]/\xs.length+ys.length<=sizeLine /\
 (ys=[]->Q (.ref a) H)/\(ys≠[]->∀p,H p=none->Q (.ref p) (upd H p (.tup (xs++ys))))
theorem a9.nil_iff (r:a9 xs us):us=[]↔xs=[]:=by
 cases r with
 |nil=>simp
 |cons _ _=>simp
theorem zp:bY X (binaryOp .Add) (Ep X.K):=by
 intro aa s σ H x y v u Q I rx ry h;obtain⟨a,b,xs,ys,rfl,rfl,ha,hb,hx,hz,q1,q2⟩:=h;cases rx
 cases ry
 obtain⟨its,r1,p1,_⟩:=I.tuple ha;obtain⟨vq,r2,p2,_⟩:=I.tuple hb;refine HT.zj p1 p2 (λz=>hx (r1.nil_iff.mp z)) (λz=>⟨.ref a,H,I,rfl,q1 (r2.nil_iff.mp z)⟩) (λz=>?_) (by rw[←r1.length,←r2.length];exact hz);refine⟨.ref s.heap.objs.size,_,I.laid (t':=s.toks) (o:=.tup (xs++ys)) (λb ob q=>vZ _ q) (vT _) ?_,rfl,q2 (λw=>z (r2.nil_iff.mpr w)) _ (I.hok.fresh (vT _))⟩;exact⟨by rw[uZ];exact hz,_,r1.append r2,IsTup.new _ _⟩
end
def ww (n:Nat)(i:Int):Option Nat:=if 0<=i then (if i<n then some i.toNat else none)else if -(n:Int)<=i then some (i+n).toNat else none
def mF {α:Type}(xs:List α)(i:Int):Option α:=(ww xs.length i).bind λj=>xs[j]?
theorem sw (h:ww n i=some j):seqIndex? i n=some j/\j<n/\-(n:Int)<=i/\i<n:=by
 unfold ww at h;by_cases h0:0<=i
 ·rw[if_pos h0]at h;by_cases h1:i<n
  ·rw[if_pos h1]at h;have e:i.toNat=j:=vK h;exact⟨by rw[seqIndex_of h0 h1,e],by omega,by omega,h1⟩
  ·rw[if_neg h1]at h;cases h
 ·rw[if_neg h0]at h;by_cases h1 : -(n:Int)<=i
  ·rw[if_pos h1]at h;have e:(i+n).toNat=j:=vK h;exact⟨by rw[seqIndex_neg (by omega) h1,e],by omega,h1,by omega⟩
  ·rw[if_neg h1]at h;cases h
theorem nO {α:Type}{xs:List α}{i:Int}{v:α}(h:mF xs i=some v):∃j,seqIndex? i xs.length=some j/\xs[j]? = some v/\j<xs.length/\-(xs.length:Int)<=i/\i<xs.length:=by
 unfold mF at h;cases e:ww xs.length i with
 |none=>rw[e]at h;cases h
 |some j=>
  rw[e]at h;obtain⟨h1,h2,h3,h4⟩:=sw e;exact⟨j,h1,h,h2,h3,h4⟩
theorem zq {α:Type}{xs:List α}{j:Nat}{v:α}(h:xs[j]? = some v):mF xs (j:Int)=some v:=by
 have hj:j<xs.length:=(vV h).1;have e:ww xs.length (j:Int)=some j:=by
  unfold ww;rw[if_pos (by omega),if_pos (by omega)];simp
 unfold mF;rw[e];exact h
def kq (b:Expr):Prop:=∀o i,subscripted b false o i=operate [o,i] (getItem o i)
def wx (X:Cx)(r:R2):Prop :=
 ∀(value slice:Expr)(aa:List (Addr×Obj))(s:Shared)(σ:St)(H:Hp)(x y:V)(v u:Value)(Q:VK),Inv X aa σ H s->aG x v->aG y u->r x y H Q ->
  subscripted slice false v u=operate [v,u] (getItem v u)->wq X (subscriptTail value slice v u) (EP X aa σ Q) X.xe s
def yF (X:Cx)(id:String)(r:V->List V->Hp->VK->Prop):Prop :=
 ∀(aa:List (Addr×Obj))(s:Shared)(σ:St)(H:Hp)(x:V)(xs:List V)(v:Value)(us:List Value)(Q:VK),Inv X aa σ H s->aG x v->a9 xs us->r x xs H Q ->
  wq X (call (.builtin id) (v::us)) (EP X aa σ Q) X.xe s
section
variable {X:Cx}{a b:Expr}{ta tb:TE}{pos:Pos}
theorem wx.or (h:wx X r)(h':wx X r'):wx X (λx y H Q=>r x y H Q∨r' x y H Q):=by
 intro value slice aa s σ H x y v u Q I rx ry q hs;rcases q with q|q
 ·exact h value slice aa s σ H x y v u Q I rx ry q hs
 ·exact h' value slice aa s σ H x y v u Q I rx ry q hs
theorem yF.or {id:String}{r r':V->List V->Hp->VK->Prop}(h:yF X id r)(h':yF X id r'):yF X id (λx xs H Q=>r x xs H Q∨r' x xs H Q):=by
 intro aa s σ H x xs v us Q I rx rs q;rcases q with q|q
 ·exact h aa s σ H x xs v us Q I rx rs q
 ·exact h' aa s σ H x xs v us Q I rx rs q
theorem wy (hr:wx X r)(ha:PE X a ta)(hb:PE X b tb)(hs:kq b):PE X (.Subscript a b pos) (Ge r ta tb):=by
 intro aa s σ H Q I h;exact Subscript_ (BQ ha hb I h λv u s2 x y H2 I2 rx ry q=>hr a b aa s2 σ H2 x y v u Q I2 rx ry q (hs _ _))
def GW (K:Frag):R2:=λx y H Q=>∃p xs i v,x=.ref p/\y=.int i/\eP K H p xs/\mF xs i=some v/\Q v H
def GY (K:Frag):R2:=λx y H Q=>∃p xs i v,x=.ref p/\y=.int i/\fg K H p xs/\mF xs i=some v/\Q v H
def GZ:R2:=λx y H Q=>∃z i c,x=.str z/\y=.int i/\z.length<=sizeLine/\mF z.cps.toList i=some c/\Q (.str ⟨#[c]⟩) H
theorem zr:wx X (GW X.K):=by
 intro value slice aa s σ H x y v u Q I rx ry h hs;obtain⟨p,xs,i,z,rfl,rfl,hq,he,q⟩:=h;cases rx
 obtain⟨t,rfl⟩:=ry;obtain⟨its,r,pl,hz⟩:=I.list hq;obtain⟨j,h1,h2,h3,h4,h5⟩:=nO he;obtain⟨w,ew,HU⟩:=r.get h2;have hl:=r.length;have hn:=jz;have fin:EP X aa σ Q w s:=⟨z,H,I,HU,q⟩;by_cases h0:0<=i
 ·have hj:i.toNat=j:=by
   rw[seqIndex_of h0 h5]at h1;exact vK h1
  exact item_listR pl.isList h0 (by omega) (by rw[hj];simpa using ew) fin hs
 ·have hj:(i+(its.toArray.size:Int)).toNat=j:=by
   rw[seqIndex_neg (by omega) h4]at h1;rw[vG,←hl];exact vK h1
  exact subscriptTail_builtinR (x:=w) pl.isList.typeIs slot_list_getitem.lookup
   (wpAny_getItem_list_neg (Q:=λr s'=>r=w/\EP X aa σ Q r s') pl.isList (by omega) (by rw[vG]<;>omega) (by omega) (by rw[hj];simpa using ew) ⟨rfl,fin⟩) hs
theorem wz:wx X (GY X.K):=by
 intro value slice aa s σ H x y v u Q I rx ry h hs;obtain⟨p,xs,i,z,rfl,rfl,hq,he,q⟩:=h;cases rx
 obtain⟨t,rfl⟩:=ry;obtain⟨its,r,pl,hz⟩:=I.tuple hq;obtain⟨j,h1,h2,h3,h4,h5⟩:=nO he;obtain⟨w,ew,HU⟩:=r.get h2;have hl:=r.length;have hn:=jz;have fin:EP X aa σ Q w s:=⟨z,H,I,HU,q⟩;exact subscriptTail_builtinR (x:=w) pl.typeIs slot_tuple_getitem.lookup
  (getItem_tuple (j:=j) (Q:=λr s'=>r=w/\EP X aa σ Q r s') pl (by omega) (by omega) (by rw[vG,←hl];exact h1) (by simpa using ew) ⟨rfl,fin⟩) hs
theorem qP:wx X GZ:=by
 intro value slice aa s σ H x y v u Q I rx ry h hs;obtain⟨z,i,c,rfl,rfl,hz,he,q⟩:=h;obtain⟨t,rfl⟩:=rx;obtain⟨t',rfl⟩:=ry;obtain⟨j,h1,h2,h3,h4,h5⟩:=nO he;have hl:z.cps.toList.length=z.length:=by simp[Str.length]
 rw[hl]at h1 h4 h5;have hn:=jz;exact tail_any (typeIs_str s z t) slot_str_getitem.lookup (getItem_str (c:=c) (by
  have e1:decide (i < -(2 ^ 63:Int))=false:=decide_eq_false (by omega);have e2:decide (i ≥ 2 ^ 63)=false:=decide_eq_false (by omega);rw[e1,e2,Bool.or_false]) (by rw[h1];simpa using h2) ⟨.str ⟨#[c]⟩,H,I.tok _,⟨_,rfl⟩,q⟩) hs
theorem qQ (its:List Value)(n j:Nat)(u:Value):Obj.mapSeq (·.setIfInBounds j u) { cls:=.type "list",data:=.seq its.toArray n }={ cls:=.type "list",data:=.seq (its.set j u).toArray n }:=by
 simp[Obj.mapSeq]
theorem Inv.lst (I:Inv X aa σ H s)(h:H p=some (.lst xs)):
  ∃(its:List Value)(n:Nat),a9 xs its/\s.heap.get? p=some { cls:=.type "list",data:=.seq its.toArray n }/\xs.length<=sizeLine:=by
 obtain⟨z,its,n,r,e⟩:=I.hok p _ h;exact⟨its,n,r,e,z⟩
theorem Inv.lstUpd {aa:List (Addr×Obj)}{σ:St}{H:Hp}{s:Shared}{p:Addr}{xs ys:List V}{its its':List Value}{n n':Nat}{f:Obj->Obj}(I:Inv X aa σ H s)(h:H p=some (.lst xs))
  (ho:s.heap.get? p=some { cls:=.type "list",data:=.seq its.toArray n }) (hf:f { cls:=.type "list",data:=.seq its.toArray n }={ cls:=.type "list",data:=.seq its'.toArray n' }) (r:a9 ys its') (hz:ys.length<=sizeLine) (t:Nat):
  Inv X aa σ (upd H p (.lst ys)) { s with heap:=s.heap.update p f,toks:=t }:=by
 have e:(s.heap.update p f).get? p=some { cls:=.type "list",data:=.seq its'.toArray n' }:=by
  rw[Heap.get?_update_self f ho (by rw[hf]<;>rfl),hf]
 refine I.write (x:=p) (e:=p) (by rw[h];trivial) (.inl rfl) (λb u hb q=>(Heap.get?_update_other _ _ (Ne.symm hb)).trans q) ⟨_,e⟩ ?_;exact⟨hz,its',n',r,e⟩
def Er:V->V->V->Hp->(Hp->Prop)->Prop:=λo i v H Q=>∃p xs k j,o=.ref p/\i=.int k/\H p=some (.lst xs)/\ww xs.length k=some j/\Q (upd H p (.lst (xs.set j v)))
theorem w5:DY X Er:=by
 intro aa s σ H o i v ov iv u Q I ro ri rv h;obtain⟨p,xs,k,j,rfl,rfl,hp,hj,q⟩:=h;cases ro
 obtain⟨t,rfl⟩:=ri;obtain⟨its,n,r,ho,hz⟩:=I.lst hp;obtain⟨h1,h2,h3,h4⟩:=sw hj;have hl:=r.length;have hn:=jz;have I':Inv X aa σ (upd H p (.lst (xs.set j v))) { s with heap:=s.heap.update p (Obj.mapSeq (·.setIfInBounds j u)) } :=
  I.lstUpd hp ho (qQ its n j u) (r.set rv j) (by rw[List.length_set];exact hz) s.toks
 by_cases h0:0<=k
 ·have hk:k.toNat=j:=by
   rw[seqIndex_of h0 h4]at h1;exact vK h1
  exact PySem.W.ki_setAt ho h0 (by omega) (by rw[vG,←hl];exact h4) (by rw[hk];exact⟨_,I',q⟩)
 ·have hk:(k+(its.toArray.size:Int)).toNat=j:=by
   rw[seqIndex_neg (by omega) h3]at h1;rw[vG,←hl];exact vK h1
  exact PySem.W.ki_setBack ho (by omega) (by rw[vG,←hl];exact h3) (by omega) (by rw[hk];exact⟨_,I',q⟩)
theorem nP (lo hi:Option Int)(n:Nat):(sliceBounds lo hi none n).1=((HT.bX n 0 lo:Nat):Int)/\(sliceBounds lo hi none n).2.1=((HT.bX n n hi:Nat):Int)/\(sliceBounds lo hi none n).2.2=1:=by
 refine⟨?_,?_,rfl⟩
 ·cases lo with
  |none=>simp[sliceBounds,HT.bX]
  |some i=>
   simp only[sliceBounds,HT.bX,Option.getD_none,show(1:Int) > 0 by decide,if_true];by_cases h:i<0
   ·simp only[h,if_true]<;>omega
   ·simp only[h,if_false]<;>omega
 ·cases hi with
  |none=>simp[sliceBounds,HT.bX]
  |some i=>
   simp only[sliceBounds,HT.bX,Option.getD_none,show(1:Int) > 0 by decide,if_true];by_cases h:i<0
   ·simp only[h,if_true]<;>omega
   ·simp only[h,if_false]<;>omega
theorem lZ (its:List Value)(lo hi:Option Int):slicePick its.toArray lo hi none=((its.drop (HT.bX its.length 0 lo)).take (HT.bX its.length its.length hi - HT.bX its.length 0 lo)).toArray:=by
 obtain⟨h1,h2,h3⟩:=nP lo hi its.toArray.size;unfold slicePick;rw[h1,h2,h3];simp only[sliceRange_one,pick_run,vG]<;>rfl
def Ha (K:Frag):V->Option Int->Option Int->Hp->VK->Prop:=λx lo hi H Q=>∃a xs,x=.ref a/\eP K H a xs/\∀p,H p=none->Q (.ref p) (upd H p (.lst (lY xs lo hi)))
theorem zu:vE X (Ha X.K):=by
 intro aa s σ H x v vl vu lo hi sl Q I rx hs pl pu h;obtain⟨a,xs,rfl,hx,q⟩:=h;cases rx
 obtain⟨its,r,ht,hz⟩:=I.list hx;have bp:=r.length;refine⟨"list",_,slot_list_getitem.lookup,ht.isList.typeIs,?_⟩;refine wpAny_getItem_list_slice ht.isList hs pl pu .none (by simp) ?_ (by rw[vG]<;>omega)
 rw[lZ,←bp];refine⟨.ref s.heap.objs.size,_,I.laid (t':=s.toks) (o:=.lst (lY xs lo hi)) (λb ob q=>vZ _ q) (vT _) ?_,rfl,q _ (I.hok.fresh (vT _))⟩;exact⟨vR (jI xs lo hi) hz,_,0,(r.drop (HT.bX xs.length 0 lo)).take (HT.bX xs.length xs.length hi - HT.bX xs.length 0 lo),vY _ rfl⟩
noncomputable def gU:V->Bool
 |.non=>true
 |.bl _=>true
 |.int _=>true
 |.str _=>true
 |_=>false
def yG:V->V->Bool
 |.non,.non=>true
 |.bl a,.bl b=>a == b
 |.bl a,.int b=>(if a then 1 else 0) == b
 |.int a,.bl b=>a == (if b then 1 else 0)
 |.int a,.int b=>a == b
 |.str a,.str b=>a == b
 |_,_=>false
theorem Cd (ry:aG y u)(rx:aG x v)(fy:gU y=true)(fx:gU x=true):SeqAt.EqAt A s u v (yG y x):=by
 cases y with
 |non=>
  cases ry
  cases x with
  |non=>cases rx;exact SeqAt.EqAt.same _
  |bl b=>cases rx;exact SeqAt.EqAt.none_bool b
  |int b=>obtain⟨t,rfl⟩:=rx;exact SeqAt.EqAt.none_int b t
  |str b=>obtain⟨t,rfl⟩:=rx;exact SeqAt.EqAt.none_str b t
  |_=>exact absurd (show false=true from fx) uX
 |bl a=>
  cases ry
  cases x with
  |non=>cases rx;exact SeqAt.EqAt.bool_none a
  |bl b=>cases rx;exact SeqAt.EqAt.bool_bool a b
  |int b=>obtain⟨t,rfl⟩:=rx;exact SeqAt.EqAt.bool_int a b t
  |str b=>obtain⟨t,rfl⟩:=rx;exact SeqAt.EqAt.bool_str a b t
  |_=>exact absurd (show false=true from fx) uX
 |int a=>
  obtain⟨t',rfl⟩:=ry;cases x with
  |non=>cases rx;exact SeqAt.EqAt.int_none a t'
  |bl b=>cases rx;exact SeqAt.EqAt.int_bool a t' b
  |int b=>obtain⟨t,rfl⟩:=rx;exact SeqAt.EqAt.int_int a t' b t
  |str b=>obtain⟨t,rfl⟩:=rx;exact SeqAt.EqAt.int_str a t' b t
  |_=>exact absurd (show false=true from fx) uX
 |str a=>
  obtain⟨t',rfl⟩:=ry;cases x with
  |non=>cases rx;exact SeqAt.EqAt.str_none a t'
  |bl b=>cases rx;exact SeqAt.EqAt.str_bool a t' b
  |int b=>obtain⟨t,rfl⟩:=rx;exact SeqAt.EqAt.str_int a t' b t
  |str b=>obtain⟨t,rfl⟩:=rx;exact SeqAt.EqAt.str_str a t' b t
  |_=>exact absurd (show false=true from fx) uX
 |_=>exact absurd (show false=true from fy) uX
def zv (x:V)(u:Value):Bool:=match u with
 |.none=>yG .non x
 |.bool b=>yG (.bl b) x
 |.int i _=>yG (.int i) x
 |.str z _=>yG (.str z) x
 |_=>false
theorem w6 (r:aG y u)(f:gU y=true):zv x u=yG y x:=by
 cases y with
 |non=>cases r;rfl
 |bl b=>cases r;rfl
 |int i=>obtain⟨t,rfl⟩:=r;rfl
 |str z=>obtain⟨t,rfl⟩:=r;rfl
 |_=>exact absurd (show false=true from f) uX
theorem nQ:∀ {xs:List V}{us:List Value},a9 xs us->xs.all gU=true->us.any (zv x)=xs.any λy=>yG y x
 |_,_,.nil,_=>rfl
 |y::xs,u::us,.cons r t,f=>by
  rw[List.all_cons,vC]at f;rw[List.any_cons,List.any_cons,w6 r f.1,nQ t f.2]
theorem kH (rx:aG x v)(fx:gU x=true):∀ {xs:List V}{us:List Value},a9 xs us->xs.all gU=true->∀u∈us,SeqAt.EqAt A s u v (zv x u)
 |_,_,.nil,_=>λu hu=>by cases hu
 |y::xs,u::us,.cons r t,f=>λu' hu=>by
  rw[List.all_cons,vC]at f;rcases vP hu with rfl|hu
  ·rw[w6 r f.1];exact Cd r rx f.1 fx
  ·exact kH rx fx t f.2 u' hu
noncomputable def Gf (x:V)(xs:List V):Bool:=xs.any λy=>yG y x
def KH (K:Frag)(Lx:Bool):R2:=λx y H Q=>∃p xs,y=.ref p/\(eP K H p xs∨fg K H p xs)/\gU x=true/\xs.all gU=true/\Q (.bl (if Lx then !Gf x xs else Gf x xs)) H
theorem um:bY X (compareOp .In) (KH X.K false):=by
 intro aa s σ H x y v u Q I rx ry h;obtain⟨p,xs,rfl,hq,fx,fs,q⟩:=h;cases ry
 rcases hq with hq|hq
 ·obtain⟨its,r,pl,hz⟩:=I.list hq;refine SeqAt.in_listAt (zv x) pl.isList (λw hw=>kH rx fx r fs w (by simpa using hw)) ⟨.bl _,H,I,rfl,?_⟩;rw[show its.toArray.any (zv x)=its.any (zv x) by simp,nQ r fs];exact q
 ·obtain⟨its,r,pl,hz⟩:=I.tuple hq;refine SeqAt.in_tupleAt (zv x) pl (λw hw=>kH rx fx r fs w (by simpa using hw)) ⟨.bl _,H,I,rfl,?_⟩;rw[show its.toArray.any (zv x)=its.any (zv x) by simp,nQ r fs];exact q
theorem nR:b7 X (.builtin "len") (λxs H Q=>∃p ys,xs=[.ref p]/\(eP X.K H p ys∨fg X.K H p ys)/\Q (.int ys.length) H):=by
 intro aa s σ H xs us Q I r h;obtain⟨p,ys,rfl,hq,q⟩:=h;obtain⟨u,rfl,rx⟩:=iK r;cases rx
 have hn:=jz;rcases hq with hq|hq
 ·obtain⟨its,r',pl,hz⟩:=I.list hq;have bp:=r'.length;exact Calls.call_len_list pl.isList (by simp only[vG]<;>omega) ⟨.int ys.length,H,I.tok _,⟨s.toks+1,by rw[vG,bp]⟩,q⟩
 ·obtain⟨its,r',pl,hz⟩:=I.tuple hq;have bp:=r'.length;exact len_tuple pl (by simp only[vG]<;>omega) ⟨.int ys.length,H,I.tok _,⟨s.toks+1,by rw[vG,bp]⟩,q⟩
theorem nU:b7 X (.builtin "len") (λxs H Q=>∃z,xs=[.str z]/\z.length<=sizeLine/\Q (.int z.length) H):=by
 intro aa s σ H xs us Q I r h;obtain⟨z,rfl,hz,q⟩:=h;obtain⟨u,rfl,t,rfl⟩:=iK r;have hn:=jz;exact len_str (by omega) ⟨.int z.length,H,I.tok _,⟨_,rfl⟩,q⟩
theorem b7.or (h:b7 X f r)(h':b7 X f r'):b7 X f (λxs H Q=>r xs H Q∨r' xs H Q):=by
 intro aa s σ H xs us Q I rs q;rcases q with q|q
 ·exact h aa s σ H xs us Q I rs q
 ·exact h' aa s σ H xs us Q I rs q
theorem nV:b7 X (.type "list") (λxs H Q=>∃p ys,xs=[.ref p]/\(eP X.K H p ys∨fg X.K H p ys)/\∀l,H l=none->Q (.ref l) (upd H l (.lst ys))):=by
 intro aa s σ H xs us Q I r h;obtain⟨p,ys,rfl,hq,q⟩:=h;obtain⟨u,rfl,rx⟩:=iK r;cases rx
 have fin:∀(its:List Value),a9 ys its->ys.length<=sizeLine->∀(h':Heap)(c':Nat),(∀b o',s.heap.get? b=some o'->h'.get? b=some o') ->
   h'.get? s.heap.objs.size=some { cls:=.type "list",dict:=none,data:=.seq its.toArray c',slots:=#[] }->EP X aa σ Q (.ref s.heap.objs.size) { s with heap:=h' }:=λits r' hz h' c' kp e=>
  ⟨.ref s.heap.objs.size,_,I.laid (t':=s.toks) kp (vT _) (show bC X.prog X.w _ h' _ (.lst ys)from ⟨hz,its,c',r',e⟩),rfl,q _ (I.hok.fresh (vT _))⟩
 rcases hq with hq|hq
 ·obtain⟨its,r',pl,hz⟩:=I.list hq;have bp:=r'.length;obtain⟨o,ho,hc,n,hd⟩:=pl.isList;exact call_list_seq p (.inl rfl) ho hc hd (λh' c' kp e=>fin its r' hz h' c' kp e) (by simp only[vG]<;>omega)
 ·obtain⟨its,r',pl,hz⟩:=I.tuple hq;have bp:=r'.length;obtain⟨o,ho,hc,n,hd⟩:=pl;exact call_list_seq p (.inr rfl) ho hc hd (λh' c' kp e=>fin its r' hz h' c' kp e) (by simp only[vG]<;>omega)
theorem ma:b7 X (.type "tuple") (λxs H Q=>∃p ys,xs=[.ref p]/\((eP X.K H p ys/\∀l,H l=none->Q (.ref l) (upd H l (.tup ys)))∨(fg X.K H p ys/\Q (.ref p) H))):=by
 intro aa s σ H xs us Q I r h;obtain⟨p,ys,rfl,h⟩:=h;obtain⟨u,rfl,rx⟩:=iK r;cases rx
 rcases h with⟨hq,q⟩|⟨hq,q⟩
 ·obtain⟨its,r',pl,hz⟩:=I.list hq;have bp:=r'.length;refine call_tuple_list pl.isList (λh' kp=>?_) (by simp only[vG]<;>omega)
  have I1:Inv X aa σ H { s with heap:=h' }:=I.kept (t':=s.toks) kp;have I2:Inv X aa σ (upd H h'.objs.size (.tup ys)) { s with heap:=h'.push { cls:=.type "tuple",data:=.seq its.toArray } } :=
   I1.laid (t':=s.toks) (λb o e=>vZ _ e) (vT _) (show bC X.prog X.w _ _ _ (.tup ys)from ⟨hz,its,r',IsTup.new _ _⟩)
  exact⟨.ref h'.objs.size,_,I2,rfl,q _ (I1.hok.fresh (vT _))⟩
 ·obtain⟨its,r',pl,hz⟩:=I.tuple hq;exact call_tuple_same pl ⟨.ref p,H,I,rfl,q⟩
def Hb (K:Frag)(T:String)(x:V)(H:Hp):Prop:=match x with
 |.str _=>T = "str"
 |.int _=>T = "int"
 |.ref p=>(T = "list"/\∃xs,eP K H p xs)∨(T = "tuple"/\∃o,K.lookup p=some o/\o.cls=.type "tuple"/\o.dict=none) ∨
   (T = "dict"/\((∃aZ ob,H p=some (.dK aZ ob))∨∃aZ,H p=some (.dT aZ)))∨(T = "set"/\∃S n,H p=some (.set S n))
 |_=>False
theorem w9 (I:Inv X aa σ H s)(r:aG x v)(ty:Hb X.K T x H):
  s.TypeIs v T/\∀a,v=.ref a->∃ob,s.heap.get? a=some ob/\ob.dict=none:=by
 cases x with
 |str z=>
  obtain⟨t,rfl⟩:=r;cases (show T = "str" from ty)
  exact⟨typeIs_str s z t,λ_ e=>nomatch e⟩
 |int i=>
  obtain⟨t,rfl⟩:=r;cases (show T = "int" from ty)
  exact⟨typeIs_int s i t,λ_ e=>nomatch e⟩
 |ref p=>
  cases r
  rcases ty with⟨rfl,xs,hq⟩|⟨rfl,o,hk,hc,hd⟩|⟨rfl,hk⟩|⟨rfl,S,n,hk⟩
  ·obtain⟨its,_,pl,_⟩:=I.list hq;refine⟨pl.isList.typeIs,λa e=>?_⟩;cases e
   obtain⟨o,n,e,c,hd,_⟩:=pl;exact⟨o,e,hd⟩
  ·refine⟨⟨o,I.kIn p o hk,hc⟩,λa e=>?_⟩;cases e
   exact⟨o,I.kIn _ o hk,hd⟩
  ·have z:∃o,s.heap.get? p=some o/\o.ExactDict:=by
    rcases hk with⟨aZ,Lm,hk⟩|⟨aZ,hk⟩
    ·obtain⟨_,_,_,_,_,o,_,_,e,ex,_⟩:=I.hok p _ hk;exact⟨o,e,ex⟩
    ·obtain⟨_,_,_,_,o,_,_,e,ex,_⟩:=I.hok p _ hk;exact⟨o,e,ex⟩
   obtain⟨o,e,ex⟩:=z;refine⟨⟨o,e,ex.1⟩,λa e2=>?_⟩;cases e2
   exact⟨o,e,ex.2.1⟩
  ·obtain⟨o,_,_,_,e,ex,_⟩:=I.hok p _ hk;refine⟨⟨o,e,ex.1⟩,λa e2=>?_⟩;cases e2
   exact⟨o,e,ex.2.1⟩
 |_=>exact False.elim ty
def Hd (K:Frag)(T:String)(r:V->List V->Hp->VK->Prop)(to:TE):TE:=λσ H Q=>to σ H λx H1=>Hb K T x H1/\r x [] H1 Q
def KI (K:Frag)(T:String)(r:V->List V->Hp->VK->Prop)(to:TE)(t:TA):TE:=λσ H Q=>to σ H λx H1=>Hb K T x H1/\t σ H1 λxs H2=>r x xs H2 Q
variable {o e:Expr}{es:List Expr}{to:TE}{t:TA}{name:Str}{dM c9:Pos}{T id:String}{r:V->List V->Hp->VK->Prop}
theorem Ce (pa:PlainAttrs T)(slot:Slot T name id)(yQ:typeOf (.builtin id)=pure (.type "method_descriptor"))(hm:yF X id r)(ho:PE X o to)
  (fH:attributeBase o name X.env (eval o X.env)=eval o X.env:=by rfl) (fJ:(dM.endLine == c9.line)=true:=by rfl):PE X (.Call (.Attribute o name dM) [] [] c9) (Hd X.K T r to):=by
 intro aa s σ H Q I h;refine wpAny_Call_method0_late fH fJ (bH (ho aa s σ H _ I h) λv s1 ⟨x,H1,I1,r1,ty,q1⟩=>?_);obtain⟨h1,h2⟩:=w9 I1 r1 ty;exact⟨T,id,pa,slot,yQ,h1,h2,Calls.callWith_builtin rfl (PySem.evalArgs_none (hm aa s1 σ H1 x [] v [] Q I1 r1 .nil q1))⟩
theorem sA (pa:PlainAttrs T)(slot:Slot T name id)(yQ:typeOf (.builtin id)=pure (.type "method_descriptor"))(hm:yF X id r)(ho:PE X o to)(ha:PA X (e::es) t)
  (fH:attributeBase o name X.env (eval o X.env)=eval o X.env:=by rfl)
  (oG:((backTo c9 (starEach (e::es) X.env)).all (λx=>!x.1) && (backToKw c9 (keywordEach [] X.env)).all (λx=>x.1.isSome)
   && decide ((e::es).length+([]:List Keyword).length+(if([]:List Keyword).isEmpty then 0 else 1)<30))=true:=by rfl)
  (fJ:(dM.endLine == c9.line)=true:=by rfl) (hs:starEach (e::es) X.env=(false,eval e X.env)::starEach es X.env:=by rfl) (CW:(backTo c9 (starEach es X.env)).any (·.1)=false:=by rfl):
  PE X (.Call (.Attribute o name dM) (e::es) [] c9) (KI X.K T r to t):=by
 intro aa s σ H Q I h;refine wpAny_Call_method_late fH oG fJ rfl (bH (ho aa s σ H _ I h) λv s1 ⟨x,H1,I1,r1,ty,q1⟩=>?_);obtain⟨h1,h2⟩:=w9 I1 r1 ty;refine⟨T,id,pa,slot,yQ,h1,h2,?_⟩;have hA:=ha c9 aa s1 σ H1 _ I1 q1;rw[hs]at hA ⊢;refine Calls.callWith_builtin (by show(false || (backTo c9 (starEach es X.env)).any (·.1))=false;rw[CW]<;>rfl) (Calls.evalArgs_plain ?_)
 exact bH hA λus s2 ⟨vs,H2,I2,r2,q2⟩=>hm aa s2 σ H2 x vs v us Q I2 r1 r2 q2
/- xs.append(e),list.index on a module's tuple .. are yF facts of 06m -/
end
def Gg (X:Cx)(id:String)(r:V->List V->Hp->VK->Prop):Prop :=
 ∀(aa:List (Addr×Obj))(s:Shared)(σ:St)(H:Hp)(x:V)(xs:List V)(v:Value)(us:List Value)(Q:VK),Inv X aa σ H s->aG x v->a9 xs us->r x xs H Q ->
  wq X (call (.builtin id) (v::us)) (EP X aa σ Q) X.xe s
theorem a9.one {x:V}{us:List Value}(h:a9 [x] us):∃u,us=[u]/\aG x u:=by
 cases h with
 |cons r h=>cases h;exact⟨_,rfl,r⟩
theorem a9.two {x y:V}{us:List Value}(h:a9 [x,y] us):∃u v,us=[u,v]/\aG x u/\aG y v:=by
 cases h with
 |cons r h=>
  obtain⟨v,rfl,q⟩:=a9.one h;exact⟨_,_,rfl,r,q⟩
theorem a9.zero:∀ {us:List Value},a9 [] us->us=[]
 |_,.nil=>rfl
theorem a9.dropLast (h:a9 xs us):a9 xs.dropLast us.dropLast:=by
 induction h with
 |nil=>exact .nil
 |cons r t ih=>
  cases t with
  |nil=>exact .nil
  |cons q t'=>exact .cons r ih
theorem a9.eraseIdx:∀ {xs:List V}{us:List Value}(i:Nat),a9 xs us->a9 (xs.eraseIdx i) (us.eraseIdx i)
 |_,_,_,.nil=>.nil
 |_,_,0,.cons _ t=>t
 |_,_,i+1,.cons r t=>.cons r (a9.eraseIdx i t)
theorem a9.reverse (h:a9 xs us):a9 xs.reverse us.reverse:=by
 induction h with
 |nil=>exact .nil
 |cons r t ih=>rw[List.reverse_cons,List.reverse_cons];exact a9.append ih (.cons r .nil)
theorem qR {α:Type}(l:List α):l.eraseIdx (l.length - 1)=l.dropLast:=by
 induction l with
 |nil=>rfl
 |cons a r ih=>
  cases r with
  |nil=>rfl
  |cons b r=>
   have e:(a::b::r).length - 1=((b::r).length - 1)+1:=by
    have h1:(a::b::r).length=r.length+2:=rfl;have h2:(b::r).length=r.length+1:=rfl;omega
   rw[e,List.eraseIdx_cons_succ,ih]
   all_goals rfl
section
variable {X:Cx}{aa:List (Addr×Obj)}{σ:St}{H:Hp}{s:Shared}{l b:Addr}{xs ys zs:List V}
theorem Inv.lset {its its':List Value}{n:Nat}{f:Array Value->Array Value}{t':Nat}(I:Inv X aa σ H s)(hH:H l=some (.lst xs))
  (e:s.heap.get? l=some { cls:=.type "list",data:=.seq its.toArray n }) (hf:f its.toArray=its'.toArray) (hv:a9 ys its') (hz:ys.length<=sizeLine):
  Inv X aa σ (upd H l (.lst ys)) { s with heap:=s.heap.update l (Obj.mapSeq f),toks:=t' }:=by
 have q:=PySem.IsL.update e f;rw[hf]at q;refine I.write (x:=l) (e:=l) (by rw[hH];exact trivial) (.inl rfl) (λb' u hb hu=>(Heap.get?_update_other s.heap (Obj.mapSeq f) (Ne.symm hb)).trans hu) ⟨_,q⟩ ?_;exact⟨hz,its',_,hv,q⟩
theorem Inv.lnew (I:Inv X aa σ H s)(hv:a9 ys its)(hz:ys.length<=sizeLine):
  Inv X aa σ (upd H s.heap.objs.size (.lst ys)) { s with heap:=s.heap.push { cls:=.type "list",data:=.seq its.toArray },toks:=t' } :=
 I.laid (λ_ _ q=>vZ _ q) (vT _) ⟨hz,its,0,hv,vY _ rfl⟩
theorem Inv.fresh (I:Inv X aa σ H s):H s.heap.objs.size=none:=I.hok.fresh (vT _)
theorem Inv.lstM (I:Inv X aa σ H s)(hH:H l=some (.lst xs)):xs.length<=sizeLine/\∃(its:List Value)(n:Nat),a9 xs its/\xs.length=its.length/\s.heap.get? l=some { cls:=.type "list",data:=.seq its.toArray n }:=by
 obtain⟨z,its,n,r,e⟩:=I.hok l _ hH;exact⟨z,its,n,r,r.length,e⟩
theorem wA (h:n<=sizeLine):Builtin.List.listTooLong n=false:=by
 unfold Builtin.List.listTooLong;exact decide_eq_false (by omega)
end
section
variable {X:Cx}
def sC:V->List V->Hp->VK->Prop:=λx vs H Q=>∃l xs y,x=.ref l/\vs=[y]/\H l=some (.lst xs)/\xs.length<sizeLine/\Q .non (upd H l (.lst (xs++[y])))
theorem mG:Gg X "list.append" sC:=by
 intro aa s σ H x vs v us Q I rx rv h;obtain⟨l,xs,y,rfl,rfl,hH,hz,q⟩:=h;cases rx
 obtain⟨u,rfl,ru⟩:=rv.one;obtain⟨z,its,n,r,hl,e⟩:=I.lstM hH;refine call_meets F.slot_list_append ⟨_,e,rfl⟩ F.entry_list_append (F.args_list_append_2 _ _) (PySem.list_append l its.toArray n u (by rw[vG];omega)) ⟨e,?_⟩;refine⟨.non,_,I.lset (its':=its++[u]) hH e (by simp) (r.append (.cons ru .nil)) ?_,rfl,q⟩;rw[uZ,List.length_singleton];omega
def zw:V->List V->Hp->VK->Prop:=λx vs H Q=>∃l b xs zs,x=.ref l/\vs=[.ref b]/\H l=some (.lst xs)/\H b=some (.lst zs)/\xs.length+zs.length<=sizeLine/\Q .non (upd H l (.lst (xs++zs)))
theorem uo:Gg X "list.extend" zw:=by
 intro aa s σ H x vs v us Q I rx rv h;obtain⟨l,b,xs,zs,rfl,rfl,hH,hB,hz,q⟩:=h;cases rx
 obtain⟨u,rfl,ru⟩:=rv.one;cases ru
 obtain⟨z,its,n,r,hl,e⟩:=I.lstM hH;obtain⟨z2,vq,n2,r2,Fj,e2⟩:=I.lstM hB;have hsz:its.toArray.size+vq.toArray.size<=sizeLine:=by rw[vG,vG];omega
 have Fk:¬(!its.toArray.isEmpty && Builtin.List.listTooLong (its.toArray.size+vq.toArray.size))=true:=by
  rw[wA hsz,Bool.and_false];exact uX
 refine call_meets F.slot_list_extend ⟨_,e,rfl⟩ F.entry_list_extend (F.args_list_extend_2 _ _)
  (AutoSeq1.list_extend_list_list_0 l its.toArray n b vq.toArray n2 Fk (by rw[vG];omega) (by omega)) ⟨e,e2,?_⟩
 refine⟨.non,_,I.lset (its':=its++vq) hH e (by simp) (r.append r2) ?_,rfl,q⟩;rw[uZ];omega
def He:V->List V->Hp->VK->Prop:=λx vs H Q=>∃l xs y,x=.ref l/\vs=[]/\H l=some (.lst xs)/\xs[xs.length - 1]? = some y/\Q y (upd H l (.lst xs.dropLast))
theorem Hf:Gg X "list.pop" He:=by
 intro aa s σ H x vs v us Q I rx rv h;obtain⟨l,xs,y,rfl,rfl,hH,hy,q⟩:=h;cases rx
 have HV:=rv.zero;subst HV;obtain⟨z,its,n,r,hl,e⟩:=I.lstM hH;obtain⟨u,hu,ru⟩:=r.get hy;have Ly:its.toArray[its.toArray.size - 1]? = some u:=by
  show its.toArray[its.length - 1]? = some u;rw[←Array.getElem?_toList,←hl];exact hu
 refine call_meets F.slot_list_pop ⟨_,e,rfl⟩ F.entry_list_pop (F.args_list_pop_1 _) (MeetsSeq.list_pop_last l its.toArray n u Ly (by rw[vG];omega)) ⟨e,?_⟩;refine⟨y,_,I.lset (its':=its.dropLast) hH e ?_ r.dropLast ?_,ru,q⟩
 ·show its.toArray.eraseIdxIfInBounds (its.toArray.size - 1)=its.dropLast.toArray;rw[vG,List.eraseIdxIfInBounds_toArray,qR]
 ·rw[List.length_dropLast];omega
def wB:V->List V->Hp->VK->Prop:=λx vs H Q=>∃l xs,x=.ref l/\vs=[]/\H l=some (.lst xs)/\Q .non (upd H l (.lst xs.reverse))
theorem qS:Gg X "list.reverse" wB:=by
 intro aa s σ H x vs v us Q I rx rv h;obtain⟨l,xs,rfl,rfl,hH,q⟩:=h;cases rx
 have HV:=rv.zero;subst HV;obtain⟨z,its,n,r,hl,e⟩:=I.lstM hH;refine call_meets F.slot_list_reverse ⟨_,e,rfl⟩ F.entry_list_reverse (F.args_list_reverse_1 _) (AutoSeq1.list_reverse_list_0 l its.toArray n (by rw[vG];omega)) ⟨e,?_⟩;refine⟨.non,_,I.lset (its':=its.reverse) hH e (by simp) r.reverse ?_,rfl,q⟩;rw[List.length_reverse];omega
end
end L2
namespace Att
open PySem PySem.W PySem.Calls PyProof.Rows
theorem jZ:∀(ns:List Int)(vs:List Value),WellAll P h vs (ns.map WData.int)->IntsAre vs ns:=by
 intro ns;induction ns with
 |nil=>
  intro vs w;rw[List.map_nil]at w;cases w
  exact .nil
 |cons n ns ih=>
  intro vs w;rw[List.map_cons]at w;cases w with
  |cons a b=>
   cases a
   exact .cons _ _ (ih _ b)
theorem uq {l:OpenLaw}{n:Nat}(hn:l.most=some n){P:Params}{h:Heap}{args:List WData}{vals:List Value}
  (qD:l.row.toRowW.claim.pre args=true) (HW:WellAll P h vals args):
  ∃a vs ns,vals=[Value.ref a]/\args=[WData.list (ns.map WData.int)]/\h.get? a=some { cls:=.type "list",data:=.seq vs.toArray }/\IntsAre vs ns/\ns.length<=n:=by
 have HX:WShape.hasAll [] args [.list .int]=true:=(pre_splitW qD).1;have hc:l.pre.holds [] { args:=args }=true:=(pre_splitW qD).2;obtain⟨d,r,rfl,h1,h2⟩:=hasAllW_cons HX;obtain rfl:=hasAllW_nil h2;obtain⟨xs,rfl,h3⟩:=hasW_list h1;obtain⟨ns,rfl⟩:=items_int h3;have bp:ns.length<=n:=by
  unfold OpenLaw.pre at hc;have h4:(WTm.not (.lt (.lit (.int (n:Int))) (.len (.arg 0)))).holds [] { args:=[.list (ns.map .int)] }=true:=by
   have h4:=(holds_andW hc).1;rw[hn]at h4;exact h4
  have h5:=condW_of h4 (w_not (w_lt w_lit (w_len_list (w_arg rfl))));rw[vH]at h5;refine Nat.le_of_not_lt λq=>?_;have q':(n:Int)<((ns.length:Nat):Int):=by omega
  first
   | (rw[decide_eq_true q']at h5;exact absurd h5 (by decide))
   | (simp at h5;omega)
 cases HW with
 |cons w1 w2=>
  cases w2
  cases w1 with
  |list ho lQ=>exact⟨_,_,ns,rfl,rfl,ho,jZ ns _ lQ,bp⟩
theorem ur (l:OpenLaw)(args:List WData):l.row.toRowW.claim.post args (.bool true) args=true :=
 postW_of (r:=l.row.toRowW) (X:=(true == true))
  (show WShape.has [] (.bool true) .bool=true by first|rfl|decide|simp[WShape.has,WShape.arms,WShape.armsAll])
  (show(WTm.eq .res (.lit (.bool true))).value [] { args:=args,res:=some (.bool true),after:=args }=some (.bool (true == true))from w_eq_bool (w_res rfl) w_lit) rfl
section
variable {prog:Program}{w:World}{A:Around}{E:Value->Shared->Prop}{s:Shared}{K:Frag}
theorem Es 
  (X:K.In s.heap) (hm:makesIn K C=true) (hi:findIn K (.ref C) "__init__" = some (some (.ref fI))) (hf:isFn K (.ref fI)=true)
  (h:codeAny (model prog w) (A.under (.builtin "type.__call__" ⟨.ref C::rest,kw⟩)) (.call (.ref fI) ⟨.ref (s.heap.objs.size+1)::rest,kw⟩) (InitBack (s.heap.objs.size+1) R)
   { s with heap:=(s.heap.push emptyDict).push (instObj C s.heap.objs.size) }):codeAny (model prog w) A (.call (.ref C) ⟨rest,kw⟩) R s:=by
 obtain⟨hh,g,d,t,os⟩:=s;exact make_core (makes_of X hm) (looks_findIn X hi) (λself=>bind_fn X self (beq_iff_eq.mp hf)) (.inl rfl) h
theorem Ds 
  (X:K.In s.heap) (I:PySem.W.InstAt s.heap x ox C (some (dictOf es n))) (hg:plainGet K C name=true) (hh:hasDictIn K C=true) (ha:findIn K (.ref C) name=some none)
  (hl:getL name es=some (some v)) (hv:handedIn v=true) (h:Q v { s with toks:=s.toks+1 }):wpAny (model prog w) A (getAttr (.ref x) name expr) Q E s :=
 get_value X I (plainGet_of hg).1 (findObj_own hh ha rfl hl) hv h
def Hg (h:Heap)(L d:Addr):List (Addr×Obj):=(List.range h.objs.size).filterMap λa=>if a=L∨a=d then none else (h.get? a).map λo=>(a,o)
end
end Att
namespace L2
open PySem PySem.Spec PyProof.Rows
theorem fm:∀ {vs:List Value}{ns:List Int},IntsAre vs ns->a9 (ns.map V.int) vs
 |_,_,.nil=>.nil
 |_,_,.cons n t h=>.cons ⟨t,rfl⟩ (fm h)
noncomputable def cV (s:Stmt):Arguments:=match s with
 |.FunctionDef _ a _ _ _ _ _ _ _ _=>a
 |_=>{ posonlyargs:=[],args:=[],vararg:=none,kwonlyargs:=[],kw_defaults:=[],kwarg:=none,defaults:=[] }
noncomputable def bD (s:Stmt):List Stmt:=match s with
 |.FunctionDef _ _ b _ _ _ _ _ _ _=>b
 |_=>[]
noncomputable def ay (s:Stmt):Scope:=match s with
 |.FunctionDef _ _ _ _ _ _ sc _ _ _=>sc
 |_=>{ kind:=.function,names:=[],isGenerator:=false,isCoroutine:=false }
abbrev qT:zh:=λ_ _ _ _ _ _=>False
abbrev E0:XK:=λ_ _ _=>False
theorem Et:qM qT X E0:=λ_ _ _ _ _ _ _ h=>h.elim
structure CY (K:Frag)(x qual:Str)(st:Stmt)(f:Addr)(fd:FuncData):Prop where
 ex:∃(oc:Value)(od:Option Addr)(kV doc pm:Value)(an:Option Addr)(cz ct:Value)(lX:Array (Option Value)),
  fd=fnOf x qual (cV st) (bD st) (ay st) .none kV doc pm an cz ct/\K.lookup f=some ⟨oc,od,.func fd,lX⟩/\PySem.W.codeIn K cz qual=true
 kp:PySem.W.keepIn K (.ref f)=true
section
variable {P:Program}{w:World}{K:Frag}{mg:Str->Option Value}{base:Heap}
theorem CY.ok {x qual:Str}{st:Stmt}{f:Addr}{fd:FuncData}{N ps:List Str}{k:Nat}{sp:Sp}(F:CY K x qual st f fd)(S:FnScope N ps (ay st))(len:∀vs H Q E,sp vs H Q E->vs.length=ps.length)
  (y7:∀(cz:Value)(A:Around)(outer:List Env)(s:Shared)(H:Hp)(vs:List V)(Q:VK)(E:XK),dz k (A.deeper (envOfC qual (ay st) s.heap.objs.size f cz))->sp vs H Q E ->
   ∃t,nL (jY qT P w K mg base N qual (ay st) f cz A outer s H E).nox (bD st) t/\t { nx:=λ_ H'=>Q .non H',rt:=Q } (gf N vs) H):jG P w K mg base qT (k+1) f fd ps sp:=by
 obtain⟨oc,od,kV,doc,pm,an,cz,ct,lX,rfl,lk,jX⟩:=F.ex;refine AN lk jX S len λA outer s H vs Q E hr DA=>?_;obtain⟨t,h,q⟩:=y7 cz A outer s H vs Q E hr DA;exact⟨t,h.nox,q⟩
theorem CY.binds {x qual:Str}{st:Stmt}{f:Addr}{fd:FuncData}{ps:List Str}(F:CY K x qual st f fd)
  (h:∀(kV doc pm:Value)(an:Option Addr)(cz ct:Value)(us:List Value),us.length=ps.length->bindArgs (fnOf x qual (cV st) (bD st) (ay st) .none kV doc pm an cz ct) ⟨us,[]⟩=pure (ps.zip us)):m9 K fd ps []:=by
 obtain⟨oc,od,kV,doc,pm,an,cz,ct,lX,rfl,lk,jX⟩:=F.ex;exact .all (h kV doc pm an cz ct)
theorem Cf {x qual:Str}{st:Stmt}{f:Addr}{oc:Value}{od an:Option Addr}{lX:Array (Option Value)}{kV doc pm cz ct:Value}(l:K.lookup f=some ⟨oc,od,.func (fnOf x qual (cV st) (bD st) (ay st) .none kV doc pm an cz ct),lX⟩)
  (c:PySem.W.codeIn K cz qual=true) (k:PySem.W.keepIn K (.ref f)=true):CY K x qual st f (fnOf x qual (cV st) (bD st) (ay st) .none kV doc pm an cz ct):=⟨⟨oc,od,kV,doc,pm,an,cz,ct,lX,rfl,l,c⟩,k⟩
end
def aF (H H':Hp):Prop:=∀b o,H b=some o->H' b=some o
theorem aF.refl (H:Hp):aF H H:=λ_ _ h=>h
theorem aF.trans (a:aF H H1)(b:aF H1 H2):aF H H2:=λc o h=>b c o (a c o h)
theorem aF.free (e:aF H H')(h:H' l=Option.none):H l=Option.none:=by
 cases q:H l with
 |none=>rfl
 |some o=>
  rw[e l o q]at h;cases h
theorem aF.seq {K:Frag}{H H':Hp}{a:Addr}{xs:List V}(e:aF H H')(h:eP K H a xs):eP K H' a xs:=by
 rcases h with (h|⟨o,h⟩)|h
 ·exact .inl (.inl (e _ _ h))
 ·exact .inl (.inr ⟨o,e _ _ h⟩)
 ·exact .inr h
section
variable {κ:Type}[DecidableEq κ]
noncomputable def Cg (aZ:List (κ×V))(k:κ):Option V:=(aZ.find? λkv=>decide (kv.1=k)).map (·.2)
theorem oM.getD (r:oM o u)(rd:aG d d'):aG (o.getD d) (u.getD d'):=by
 cases o with
 |none=>cases u with
  |none=>exact rd
  |some _=>exact(show False from r).elim
 |some _=>cases u with
  |none=>exact(show False from r).elim
  |some _=>exact r
theorem KV.length (r:KV aZ vs):aZ.length=vs.length:=Paired.length r
end
def Eu (H:Hp)(a:Addr)(y:V)(r:Option V):Prop :=
 (∃aZ k ob,Rd H a (.dK aZ ob)/\y=kV k/\r=Cg aZ k)∨∃aZ k b,Rd H a (.dT aZ)/\y=.ref b/\H b=some (.tup (k.map kV))/\r=Cg aZ k
theorem Eu.t (e:H a=some (.dT aZ))(eb:H b=some (.tup (k.map kV))):Eu H a (.ref b) (Cg aZ k):=.inr ⟨aZ,k,b,.inl e,rfl,eb,rfl⟩
end L2
namespace DL
open PySem L2
set_option linter.all false
abbrev St:=L2.St
inductive D where
 |non|bl (b:Bool)|int (i:Int)|str (x:Str)|ty (n:String)|tup (ds:List D)|lst (ds:List D)
  |dk (ks:List iE) (vs:List D)|dt (ks:List (List iE)) (vs:List D)
abbrev OB:=Option (D×Bool)
mutual
inductive Is (K:Frag)(H:Hp):V->D->Prop where
 |non:Is K H .non .non
 |bl (b:Bool):Is K H (.bl b) (.bl b)
 |int (i:Int):Is K H (.int i) (.int i)
 |str (x:Str):Is K H (.str x) (.str x)
 |ty (n:String):Is K H (.ty n) (.ty n)
 |tup {a:Addr}{vs:List V}{ds:List D}(h:fg K H a vs) (hs:IsL K H vs ds):Is K H (.ref a) (.tup ds)
 |lst {a:Addr}{vs:List V}{ds:List D}(h:eP K H a vs) (hs:IsL K H vs ds):Is K H (.ref a) (.lst ds)
 |dk {a:Addr}{ks:List iE}{vs:List V}{ds:List D}{ob:Obj}(h:H a=some (.dK (ks.zip vs) ob)) (hl:ks.length=vs.length) (hs:IsL K H vs ds):Is K H (.ref a) (.dk ks ds)
 |dt {a:Addr}{ks:List (List iE)}{vs:List V}{ds:List D}(h:H a=some (.dT (ks.zip vs))) (hl:ks.length=vs.length) (hs:IsL K H vs ds):Is K H (.ref a) (.dt ks ds)
inductive IsL (K:Frag)(H:Hp):List V->List D->Prop where
 |nil:IsL K H [] []
 |cons {v:V}{d:D}{vs:List V}{ds:List D}(h:Is K H v d) (hs:IsL K H vs ds):IsL K H (v::vs) (d::ds)
end
mutual
def aQ:D->Bool
 |.lst _=>false
 |.dk _ _=>false
 |.dt _ _=>false
 |.tup ds=>aV ds
 |_=>true
def aV:List D->Bool
 |[]=>true
 |d::ds=>aQ d && aV ds
end
@[simp] theorem Dt:aQ .non=true:=by simp only[aQ]
@[simp] theorem Ev (b:Bool):aQ (.bl b)=true:=by simp only[aQ]
@[simp] theorem Du (i:Int):aQ (.int i)=true:=by simp only[aQ]
@[simp] theorem Dv (x:Str):aQ (.str x)=true:=by simp only[aQ]
@[simp] theorem Ew (x:String):aQ (.ty x)=true:=by simp only[aQ]
@[simp] theorem mH (ds:List D):aQ (.tup ds)=aV ds:=by rw[aQ]
@[simp] theorem Dw (ds:List D):aQ (.lst ds)=false:=by rw[aQ]
@[simp] theorem Ex (ks:List iE)(ds:List D):aQ (.dk ks ds)=false:=by rw[aQ]
@[simp] theorem Ey (ks:List (List iE))(ds:List D):aQ (.dt ks ds)=false:=by rw[aQ]
@[simp] theorem Ch:aV []=true:=by rw[aV]
@[simp] theorem AO (d:D)(ds:List D):aV (d::ds)=(aQ d && aV ds):=by rw[aV]
section
variable {K:Frag}{H H':Hp}
mutual
theorem Is.keep (hT:∀a vs,fg K H a vs->fg K H' a vs)(hL:∀a vs,eP K H a vs->eP K H' a vs)(hK:∀a aZ ob,H a=some (.dK aZ ob)->H' a=some (.dK aZ ob))(hM:∀a aZ,H a=some (.dT aZ)->H' a=some (.dT aZ)):∀ {v:V}{d:D},Is K H v d->Is K H' v d
 |_,_,.non=>.non
 |_,_,.bl b=>.bl b
 |_,_,.int i=>.int i
 |_,_,.str x=>.str x
 |_,_,.ty x=>.ty x
 |_,_,.tup h hs=>.tup (hT _ _ h) (IsL.keep hT hL hK hM hs)
 |_,_,.lst h hs=>.lst (hL _ _ h) (IsL.keep hT hL hK hM hs)
 |_,_,.dk h hl hs=>.dk (hK _ _ _ h) hl (IsL.keep hT hL hK hM hs)
 |_,_,.dt h hl hs=>.dt (hM _ _ h) hl (IsL.keep hT hL hK hM hs)
theorem IsL.keep (hT:∀a vs,fg K H a vs->fg K H' a vs)(hL:∀a vs,eP K H a vs->eP K H' a vs)(hK:∀a aZ ob,H a=some (.dK aZ ob)->H' a=some (.dK aZ ob))(hM:∀a aZ,H a=some (.dT aZ)->H' a=some (.dT aZ)):∀ {vs:List V}{ds:List D},IsL K H vs ds->IsL K H' vs ds
 |_,_,.nil=>.nil
 |_,_,.cons h hs=>.cons (Is.keep hT hL hK hM h) (IsL.keep hT hL hK hM hs)
end
mutual
theorem Is.keepT (hT:∀a vs,fg K H a vs->fg K H' a vs):∀ {v:V}{d:D},Is K H v d->aQ d=true->Is K H' v d
 |_,_,.non,_=>.non
 |_,_,.bl b,_=>.bl b
 |_,_,.int i,_=>.int i
 |_,_,.str x,_=>.str x
 |_,_,.ty x,_=>.ty x
 |_,_,.tup h hs,n=>.tup (hT _ _ h) (IsL.keepT hT hs (by simpa using n))
 |_,_,.lst h hs,n=>by simp at n
 |_,_,.dk h hl hs,n=>by simp at n
 |_,_,.dt h hl hs,n=>by simp at n
theorem IsL.keepT (hT:∀a vs,fg K H a vs->fg K H' a vs):∀ {vs:List V}{ds:List D},IsL K H vs ds->aV ds=true->IsL K H' vs ds
 |_,_,.nil,_=>.nil
 |_,_,.cons h hs,n=>by
  simp at n;exact .cons (Is.keepT hT h n.1) (IsL.keepT hT hs n.2)
end
theorem aK (e:aF H H')(h:fg K H a xs):fg K H' a xs:=by
 rcases h with (h|⟨o,h⟩)|h
 ·exact .inl (.inl (e _ _ h))
 ·exact .inl (.inr ⟨o,e _ _ h⟩)
 ·exact .inr h
theorem Is.mono (h:Is K H v d)(e:aF H H'):Is K H' v d:=h.keep (λ_ _=>aK e) (λ_ _=>e.seq) (λ_ _ _ q=>e _ _ q) λ_ _ q=>e _ _ q
theorem IsL.mono (h:IsL K H v d)(e:aF H H'):IsL K H' v d:=h.keep (λ_ _=>aK e) (λ_ _=>e.seq) (λ_ _ _ q=>e _ _ q) λ_ _ q=>e _ _ q
theorem IsL.length:∀ {vs:List V}{ds:List D},IsL K H vs ds->vs.length=ds.length
 |_,_,.nil=>rfl
 |_,_,.cons _ t=>congrArg (· + 1) t.length
theorem IsL.get:∀ {vs:List V}{ds:List D}{i:Nat}{d:D},IsL K H vs ds->ds[i]? = some d->∃v,vs[i]? = some v/\Is K H v d
 |_,_,_,_,.nil,e=>by simp at e
 |_,_,0,_,.cons h _,e=>by simp at e;subst e;exact⟨_,rfl,h⟩
 |_,_,i+1,d,.cons _ t,e=>by
  obtain⟨u,h1,h2⟩:=t.get (i:=i) (d:=d) (by simpa using e);exact⟨u,by simpa using h1,h2⟩
theorem IsL.append:∀ {vs ws:List V}{ds es:List D},IsL K H vs ds->IsL K H ws es->IsL K H (vs++ws) (ds++es)
 |_,_,_,_,.nil,s=>s
 |_,_,_,_,.cons r t,s=>.cons r (t.append s)
theorem IsL.take:∀ {vs:List V}{ds:List D}(n:Nat),IsL K H vs ds->IsL K H (vs.take n) (ds.take n)
 |_,_,0,_=>by simpa using IsL.nil
 |_,_,_+1,.nil=>.nil
 |_,_,n+1,.cons r t=>.cons r (t.take n)
theorem IsL.drop:∀ {vs:List V}{ds:List D}(n:Nat),IsL K H vs ds->IsL K H (vs.drop n) (ds.drop n)
 |_,_,0,r=>r
 |_,_,_+1,.nil=>.nil
 |_,_,n+1,.cons _ t=>t.drop n
theorem IsL.reverse (h:IsL K H vs ds):IsL K H vs.reverse ds.reverse:=by
 cases h with
 |nil=>exact .nil
 |cons r t=>rw[List.reverse_cons,List.reverse_cons];exact t.reverse.append (.cons r .nil)
termination_by vs.length
decreasing_by all_goals simp
theorem IsL.set (h:Is K H v d):∀ {vs:List V}{ds:List D}(i:Nat),IsL K H vs ds->IsL K H (vs.set i v) (ds.set i d)
 |_,_,_,.nil=>.nil
 |_,_,0,.cons _ t=>.cons h t
 |_,_,i+1,.cons r t=>.cons r (IsL.set h i t)
theorem IsL.eraseIdx:∀ {vs:List V}{ds:List D}(i:Nat),IsL K H vs ds->IsL K H (vs.eraseIdx i) (ds.eraseIdx i)
 |_,_,_,.nil=>.nil
 |_,_,0,.cons _ t=>t
 |_,_,i+1,.cons r t=>.cons r (t.eraseIdx i)
theorem IsL.flat {vs:List V}{ns:List Int}(h:vs=ns.map V.int):IsL K H vs (ns.map D.int):=by
 subst h;induction ns with
 |nil=>exact .nil
 |cons n ns ih=>exact .cons (.int n) ih
end
structure Ext (B N H H':Hp):Prop where
 hh:aF H H'
 bn:aF B N
 nh:aF N H'
 new:∀a o,N a=some o->B a=some o∨H a=none
theorem Ext.refl (h:aF B H):Ext B B H H:=⟨.refl _,.refl _,h,λ_ _ e=>.inl e⟩
theorem Ext.trans (x:Ext B N H H1)(y:Ext N N2 H1 H2):Ext B N2 H H2 :=
 ⟨x.hh.trans y.hh,x.bn.trans y.bn,y.nh,λa o e=>(y.new a o e).elim (λq=>x.new a o q) λq=>.inr (x.hh.free q)⟩
theorem Ext.laid (h:aF B H)(hp:H p=none):Ext B (upd B p o) H (upd H p o):=by
 have hB:B p=none:=h.free hp;refine⟨λa u e=>?_,λa u e=>?_,λa u e=>?_,λa u e=>?_⟩
 ·rw[a8 (λq=>by subst q;rw[hp]at e;cases e)];exact e
 ·rw[a8 (λq=>by subst q;rw[hB]at e;cases e)];exact e
 ·by_cases q:a=p
  ·subst q;rw[au]at e ⊢;exact e
  ·rw[a8 q]at e ⊢;exact h _ _ e
 ·by_cases q:a=p
  ·subst q;exact .inr hp
  ·rw[a8 q]at e;exact .inl e
theorem Ext.grow (h:aF B H)(hh:aF H H'):Ext B B H H':=⟨hh,.refl _,h.trans hh,λ_ _ e=>.inl e⟩
abbrev Env:=List OB
abbrev FE:=Env->OB
abbrev FA:=Env->Option (List D)
abbrev FT:=Env->Option Bool
def Dx (K:Frag)(H N:Hp)(v:V)(d:D):Prop:=∃(a:Addr)(vs:List V)(ds:List D),v=.ref a/\d=.lst ds/\H a=none/\N a=some (.lst vs)/\IsL K N vs ds
theorem Dx.back (h:Dx K H' N v d)(e:aF H H'):Dx K H N v d:=let ⟨a,vs,ds,q,y,z,r⟩:=h;⟨a,vs,ds,q,y,e.free z,r⟩
noncomputable def oV:List Str:=["in_order","has_seal","is_first_death","bases_by","as_heard"]
noncomputable def Ci (x:Str):Str:=x ++ ".<locals>." ++ "<lambda>"
def Tb (K:Frag)(B:Hp):Prop:=∀x∈oV,∀c P,PySem.W.tabIn K x=some (c,P)->B P=some (.tbl (Ci x))
theorem Tb.mono (h:Tb K B)(e:aF B B'):Tb K B':=λx hx c P q=>e _ _ (h x hx c P q)
structure cU (K:Frag)(B:Hp)(σ:St)(ρ:Env):Prop where
 tb:Tb K B
 at':∀(i:Nat)(d:D)(b:Bool),ρ[i]? = some (some (d,b))->∃v,σ[i]? = some (some v)/\Is K B v d
theorem cU.mono (h:cU K B σ ρ)(e:aF B B'):cU K B' σ ρ:=⟨h.tb.mono e,λi d b q=>let ⟨v,h1,h2⟩:=h.at' i d b q;⟨v,h1,h2.mono e⟩⟩
def Fin (K:Frag)(B H:Hp)(d:D)(b:Bool)(Q:VK):Prop:=∀(v:V)(H' N:Hp),Ext B N H H'->Is K N v d->(b=true->Dx K H N v d)->Q v H'
def tD (K:Frag)(f:FE):TE:=λσ H Q=>∃(B:Hp)(ρ:Env)(d:D)(b:Bool),aF B H/\cU K B σ ρ/\f ρ=some (d,b)/\Fin K B H d b Q
def ut (K:Frag)(f:FT):TT:=λσ H Q=>∃(B:Hp)(ρ:Env)(c:Bool),aF B H/\cU K B σ ρ/\f ρ=some c/\∀H',aF H H'->Q c H'
def Ez (K:Frag)(f:FA):TA:=λσ H Q=>∃(B:Hp)(ρ:Env)(ds:List D),aF B H/\cU K B σ ρ/\f ρ=some ds/\∀(vs:List V)(H' N:Hp),Ext B N H H'->IsL K N vs ds->Q vs H'
def rD (K:Frag)(op:D->D->OB):R2:=λx y H Q=>∃(B:Hp)(dx dy d:D)(b:Bool),aF B H/\Is K B x dx/\Is K B y dy/\op dx dy=some (d,b)/\Fin K B H d b Q
def yH (K:Frag)(op:List D->OB):List V->Hp->VK->Prop:=λxs H Q=>∃(B:Hp)(ds:List D)(d:D)(b:Bool),aF B H/\IsL K B xs ds/\op ds=some (d,b)/\Fin K B H d b Q
theorem Fin.one (h:Fin K B H d false Q)(s:aF B H)(i:Is K B v d):Q v H:=h v H B (.refl s) i (by simp)
theorem Fin.into (h:Fin K B H d b Q)(x:Ext B N H H1):Fin K N H1 d b Q:=λv H' N' y i fr=>h v H' N' (x.trans y) i λe=>(fr e).back x.hh
@[simp] noncomputable def fC (d:D):FE:=λ_=>some (d,false)
@[simp] noncomputable def ag (i:Nat):FE:=λρ=>match ρ[i]? with|some (some (d,_))=>some (d,false)|_=>none
@[simp] noncomputable def f2 (op:D->D->OB)(fa fb:FE):FE:=λρ=>(fa ρ).bind λx=>(fb ρ).bind λy=>op x.1 y.1
@[simp] noncomputable def f1 (op:D->OB)(fa:FE):FE:=λρ=>(fa ρ).bind λx=>op x.1
@[simp] noncomputable def ah:FA:=λ_=>some []
@[simp] noncomputable def ae (fa:FE)(fr:FA):FA:=λρ=>(fa ρ).bind λx=>(fr ρ).bind λxs=>some (x.1::xs)
@[simp] noncomputable def fA (op:List D->OB)(fa:FA):FE:=λρ=>(fa ρ).bind op
theorem Cj (h:tD K (ag i) σ H Q):∃v,σ[i]? = some (some v)/\Q v H:=by
 obtain⟨B,ρ,d,b,s,r,e,q⟩:=h;unfold ag at e;split at e
 ·rename_i d' b' e';cases e
  obtain⟨v,h1,h2⟩:=r.at' i _ _ e';exact⟨v,h1,q.one s h2⟩
 ·cases e
theorem zx (h:tD K (f2 op fa fb) σ H Q):tD K fa σ H λx H1=>tD K fb σ H1 λy H2=>rD K op x y H2 Q:=by
 obtain⟨B,ρ,d,b,s,r,e,q⟩:=h;obtain⟨x,ex,e⟩:=oX e;obtain⟨y,ey,e⟩:=oX e;refine⟨B,ρ,x.1,x.2,s,r,ex,λv H1 N x1 i1 _=>⟨N,ρ,y.1,y.2,x1.nh,r.mono x1.bn,ey,λv2 H2 N2 x2 i2 _=>⟨N2,x.1,y.1,d,b,x2.nh,i1.mono x2.bn,i2,e,?_⟩⟩⟩;exact q.into (x1.trans x2)
theorem zy (h:tD K (fA op fa) σ H Q):Ez K fa σ H λxs H1=>yH K op xs H1 Q:=by
 obtain⟨B,ρ,d,b,s,r,e,q⟩:=h;obtain⟨x,ex,e⟩:=oX e;exact⟨B,ρ,x,s,r,ex,λv H1 N x1 i1=>⟨N,x,d,b,x1.nh,i1,e,q.into x1⟩⟩
theorem z0 (h:Ez K ah σ H Q):Q [] H:=by
 obtain⟨B,ρ,ds,s,r,e,q⟩:=h;cases e
 exact q [] H B (.refl s) .nil
theorem wC (h:Ez K (ae fa fr) σ H Q):tD K fa σ H λx H1=>Ez K fr σ H1 λxs H2=>Q (x::xs) H2:=by
 obtain⟨B,ρ,ds,s,r,e,q⟩:=h;obtain⟨x,ex,e⟩:=oX e;obtain⟨y,ey,e⟩:=oX e;cases e
 exact⟨B,ρ,x.1,x.2,s,r,ex,λv H1 N x1 i1 _=>⟨N,ρ,y,x1.nh,r.mono x1.bn,ey,λvs H2 N2 x2 i2=>q _ H2 N2 (x1.trans x2) (.cons (i1.mono x2.bn) i2)⟩⟩
@[simp] noncomputable def br (f:FE):FT:=λρ=>match f ρ with|some (.bl c,_)=>some c|_=>none
@[simp] noncomputable def gV (f g:FT):FT:=λρ=>match f ρ with|some true=>g ρ|some false=>some false|none=>none
@[simp] noncomputable def cw (f g:FT):FT:=λρ=>match f ρ with|some true=>some true|some false=>g ρ|none=>none
@[simp] noncomputable def bZ (f:FT):FT:=λρ=>(f ρ).map (!·)
open Classical in
noncomputable def cx (H:Hp)(P:Addr->Prop):Hp:=λa=>if P a then none else H a
theorem bI (h:¬P a):cx H P a=H a:=by unfold cx;rw[if_neg h]
theorem qU (h:P a):cx H P a=none:=by unfold cx;rw[if_pos h]
theorem kI (h:cx H P a=some o):¬P a/\H a=some o:=by
 by_cases q:P a
 ·rw[qU q]at h;cases h
 ·rw[bI q]at h;exact⟨q,h⟩
theorem bf:aF (cx H P) H:=λ_ _ e=>(kI e).2
theorem da (e:∀a o,H a=some o->¬P a->H' a=some o/\¬P' a):aF (cx H P) (cx H' P'):=λa o q=>by
 obtain⟨h1,h2⟩:=kI q;obtain⟨h3,h4⟩:=e a o h2 h1;rw[bI h4];exact h3
noncomputable def join (N N':Hp):Hp:=λa=>match N a with|some o=>some o|none=>N' a
theorem cC:aF N (join N N'):=λa o e=>by unfold join;rw[e]
theorem cn (e:N a=none):join N N' a=N' a:=by unfold join;rw[e]
def own (σ:St)(ρ:Env)(a:Addr):Prop:=∃(i:Nat)(d:D),ρ[i]? = some (some (d,true))/\σ[i]? = some (some (V.ref a))
inductive Bx (K:Frag)(C:Hp):HO->D->Prop where
 |lst {vs:List V}{ds:List D}(h:IsL K C vs ds):Bx K C (.lst vs) (.lst ds)
 |dk {ks:List iE}{vs:List V}{ds:List D}(hl:ks.length=vs.length) (h:IsL K C vs ds) {ob:Obj}:Bx K C (.dK (ks.zip vs) ob) (.dk ks ds)
 |dt {ks:List (List iE)}{vs:List V}{ds:List D}(hl:ks.length=vs.length) (h:IsL K C vs ds):Bx K C (.dT (ks.zip vs)) (.dt ks ds)
theorem Bx.mono (h:Bx K C o d)(e:aF C C'):Bx K C' o d:=by
 cases h with
 |lst h=>exact .lst (h.mono e)
 |dk hl h=>exact .dk hl (h.mono e)
 |dt hl h=>exact .dt hl (h.mono e)
theorem Bx.is (h:Bx K C o d)(e:C a=some o):Is K C (.ref a) d:=by
 cases h with
 |lst h=>exact .lst (eP.of e) h
 |dk hl h=>exact .dk e hl h
 |dt hl h=>exact .dt e hl h
structure c6 (K:Frag)(B0 H0 N H:Hp)(σ:St)(ρ:Env):Prop where
 bh:aF B0 H0
 tb:Tb K B0
 ext:Ext B0 N H0 H
 len:ρ.length=σ.length
 sh:∀(i:Nat)(d:D),ρ[i]? = some (some (d,false))->∃v,σ[i]? = some (some v)/\Is K (cx N (own σ ρ)) v d
 ow:∀(i:Nat)(d:D),ρ[i]? = some (some (d,true))->∃(a:Addr)(o:HO),σ[i]? = some (some (V.ref a))/\N a=some o/\H0 a=none/\Bx K (cx N (own σ ρ)) o d
 inj:∀(i j:Nat)(a:Addr)(d e:D),ρ[i]? = some (some (d,true))->ρ[j]? = some (some (e,true))->σ[i]? = some (some (V.ref a))->σ[j]? = some (some (V.ref a))->i=j
def qV (K:Frag)(B0 H0 H:Hp)(σ:St)(ρ:Env):Prop:=∃N,c6 K B0 H0 N H σ ρ
section
variable {K:Frag}{B0 H0 N H H':Hp}{σ:St}{ρ:Env}
theorem c6.owL (s:c6 K B0 H0 N H σ ρ)(i:Nat)(d:D)(q:ρ[i]? = some (some (.lst es,true)))(hd:d=.lst es:=by rfl):∃(a:Addr)(vs:List V)(ds:List D),d=.lst ds/\σ[i]? = some (some (V.ref a))/\N a=some (.lst vs)/\H0 a=none/\IsL K (cx N (own σ ρ)) vs ds:=by
 obtain⟨a,o,h1,h2,h3,h4⟩:=s.ow i _ q;cases h4 with
 |lst h4=>exact⟨a,_,es,hd,h1,h2,h3,h4⟩
def boxed:HO->Prop
 |.lst _|.dK _ _|.dT _=>True
 |_=>False
theorem Bx.boxed (h:Bx K C o d):boxed o:=by cases h<;>exact trivial
theorem c6.owned (s:c6 K B0 H0 N H σ ρ)(h:own σ ρ a):∃o,(N a=some o/\boxed o)/\H0 a=none:=by
 obtain⟨i,d,h1,h2⟩:=h;obtain⟨a',o,h3,h4,h5,h6⟩:=s.ow i d h1;rw[h2]at h3;cases h3;exact⟨o,⟨h4,h6.boxed⟩,h5⟩
theorem c6.rep (s:c6 K B0 H0 N H σ ρ):cU K N σ ρ:=⟨s.tb.mono s.ext.bn,λi d b q=>by
 cases b with
 |false=>obtain⟨v,h1,h2⟩:=s.sh i d q;exact⟨v,h1,h2.mono bf⟩
 |true=>
  obtain⟨a,o,h2,h3,_,h4⟩:=s.ow i d q;exact⟨_,h2,(h4.mono bf).is h3⟩⟩
noncomputable def me (ρ:Env):Env:=ρ.map λx=>match x with|some (d,false)=>some (d,false)|_=>none
theorem wE {i:Nat}{d:D}{b:Bool}(h:(me ρ)[i]? = some (some (d,b))):b=false/\ρ[i]? = some (some (d,false)):=by
 unfold me at h;rw[vA]at h;cases e:ρ[i]? with
 |none=>rw[e]at h;cases h
 |some x=>
  rw[e]at h;match x,h with
  |some (d',false),h=>cases h;exact⟨rfl,rfl⟩
  |some (d',true),h=>cases h
  |none,h=>cases h
theorem c6.tbC (s:c6 K B0 H0 N H σ ρ):Tb K (cx N (own σ ρ)):=λx hx c P q=>by
 have z:=s.tb.mono s.ext.bn x hx c P q;rw[bI]
 ·exact z
 ·intro y;obtain⟨o,⟨y,yb⟩,_⟩:=s.owned y;rw[z]at y;cases y;exact yb
theorem c6.repH (s:c6 K B0 H0 N H σ ρ):cU K (cx N (own σ ρ)) σ (me ρ):=⟨s.tbC,λi d b q=>by
 obtain⟨rfl,q2⟩:=wE q;exact s.sh i d q2⟩
theorem c6.grow (s:c6 K B0 H0 N H σ ρ)(x:Ext N N' H H'):c6 K B0 H0 N' H' σ ρ:=by
 have c:aF (cx N (own σ ρ)) (cx N' (own σ ρ)):=da λa o e q=>⟨x.bn a o e,q⟩;refine⟨s.bh,s.tb,s.ext.trans x,s.len,λi d q=>?_,λi d q=>?_,s.inj⟩
 ·obtain⟨v,h1,h2⟩:=s.sh i d q;exact⟨v,h1,h2.mono c⟩
 ·obtain⟨a,o,h2,h3,h4,h5⟩:=s.ow i d q;exact⟨a,o,h2,x.bn _ _ h3,h4,h5.mono c⟩
theorem c6.growH (s:c6 K B0 H0 N H σ ρ)(x:Ext (cx N (own σ ρ)) N' H H'):c6 K B0 H0 (join N N') H' σ ρ/\aF N' (cx (join N N') (own σ ρ)):=by
 have x':Ext N (join N N') H H':=by
  refine⟨x.hh,cC,λa o e=>?_,λa o e=>?_⟩
  ·cases q:N a with
   |some u=>
    have:join N N' a=some u:=cC _ _ q;rw[this]at e;cases e;exact x.hh _ _ (s.ext.nh _ _ q)
   |none=>rw[cn q]at e;exact x.nh _ _ e
  ·cases q:N a with
   |some u=>
    have:join N N' a=some u:=cC _ _ q;rw[this]at e;cases e;exact .inl rfl
   |none=>
    rw[cn q]at e;rcases x.new a o e with z|z
    ·have:=bf _ _ z;rw[q]at this;cases this
    ·exact .inr z
 refine⟨s.grow x',λa o e=>?_⟩;rcases x.new a o e with z|z
 ·obtain⟨z1,z2⟩:=kI z;rw[bI z1];exact cC _ _ z2
 ·have hN:N a=none:=s.ext.nh.free z;have:¬own σ ρ a:=λq=>by obtain⟨vs,⟨q,_⟩,_⟩:=s.owned q;rw[hN]at q;cases q
  rw[bI this,cn hN];exact e
noncomputable def unown (ρ:Env):Env:=ρ.map λx=>x.map λy=>(y.1,false)
theorem gH {i:Nat}{d:D}{b:Bool}(h:(unown ρ)[i]? = some (some (d,b))):b=false/\∃c,ρ[i]? = some (some (d,c)):=by
 unfold unown at h;rw[vA]at h;cases e:ρ[i]? with
 |none=>rw[e]at h;cases h
 |some x=>
  rw[e]at h;match x,h with
  |some (d',c),h=>cases h;exact⟨rfl,c,rfl⟩
  |none,h=>cases h
theorem mI {a:Addr}:¬own σ (unown ρ) a:=λ⟨i,d,h,_⟩=>by
 obtain⟨z,_⟩:=gH h;cases z
theorem c6.unown (s:c6 K B0 H0 N H σ ρ):c6 K B0 H0 N H σ (unown ρ):=by
 refine⟨s.bh,s.tb,s.ext,by unfold DL.unown;rw[vH];exact s.len,λi d q=>?_,λi d q=>?_,λi j a d e q=>?_⟩
 ·obtain⟨_,c,q⟩:=gH q;obtain⟨v,h1,h2⟩:=s.rep.at' i d c q;exact⟨v,h1,h2.mono λa o e=>by rw[bI mI];exact e⟩
 ·obtain⟨z,_⟩:=gH q;cases z
 ·obtain⟨z,_⟩:=gH q;cases z
theorem be {α:Type}{l:List α}{i j:Nat}{x y:α}(h:(l.set i x)[j]? = some y):(i=j/\x=y)∨(i≠j/\l[j]? = some y):=by
 by_cases e:i=j
 ·subst e;rw[List.getElem?_set]at h;split at h
  ·split at h
   ·exact .inl ⟨rfl,vK h⟩
   ·cases h
  ·contradiction
 ·rw[vB e]at h;exact .inr ⟨e,h⟩
theorem mJ {α β:Type}{l:List α}{m:List β}{i:Nat}{x y:α}(h:(l.set i x)[i]? = some y)(e:l.length=m.length):i<m.length:=by
 obtain⟨h,_⟩:=vV h;rw[List.length_set]at h;omega
theorem nW {i:Nat}{v:V}{x:OB}{a:Addr}(h:own (σ.set i (some v)) (ρ.set i x) a):(v=.ref a/\∃d,x=some (d,true))∨∃j,j≠i/\∃d,ρ[j]? = some (some (d,true))/\σ[j]? = some (some (V.ref a)):=by
 obtain⟨j,d,h1,h2⟩:=h;rcases be h1 with⟨e,q⟩|⟨e,q⟩
 ·rcases be h2 with⟨e2,q2⟩|⟨e2,q2⟩
  ·cases q2;exact .inl ⟨rfl,d,q⟩
  ·exact absurd e e2
 ·rcases be h2 with⟨e2,q2⟩|⟨e2,q2⟩
  ·exact absurd e2 e
  ·exact .inr ⟨j,λz=>e z.symm,d,q,q2⟩
theorem c6.bind (s:c6 K B0 H0 N H σ ρ){i:Nat}{v:V}{d:D}(h:Is K (cx N (own σ ρ)) v d):c6 K B0 H0 N H (σ.set i (some v)) (ρ.set i (some (d,false))):=by
 have o:∀a,own (σ.set i (some v)) (ρ.set i (some (d,false))) a->own σ ρ a:=λa q=>by
  rcases nW q with⟨_,d',p⟩|⟨j,_,d',q1,q2⟩
  ·cases p
  ·exact⟨j,d',q1,q2⟩
 have c:aF (cx N (own σ ρ)) (cx N (own (σ.set i (some v)) (ρ.set i (some (d,false))))):=da λa u e q=>⟨e,λz=>q (o a z)⟩;refine⟨s.bh,s.tb,s.ext,by simp[s.len],λj e q=>?_,λj e q=>?_,λj k a e f q q' h1 h2=>?_⟩
 ·rcases be q with⟨rfl,p⟩|⟨ne,p⟩
  ·cases p
   have hi:=mJ q s.len;exact⟨v,by simp[hi],h.mono c⟩
  ·obtain⟨w,h1,h2⟩:=s.sh j e p;exact⟨w,by rw[vB ne];exact h1,h2.mono c⟩
 ·rcases be q with⟨rfl,p⟩|⟨ne,p⟩
  ·cases p
  ·obtain⟨a,o,h1,h2,h3,h4⟩:=s.ow j e p;exact⟨a,o,by rw[vB ne];exact h1,h2,h3,h4.mono c⟩
 ·rcases be q with⟨rfl,p⟩|⟨ne,p⟩
  ·cases p
  ·rcases be q' with⟨rfl,p'⟩|⟨Fl,p'⟩
   ·cases p'
   ·rw[vB ne]at h1;rw[vB Fl]at h2;exact s.inj j k a e f p p' h1 h2
theorem c6.bindOwn (s:c6 K B0 H0 N H σ ρ){i:Nat}{a:Addr}{ob:HO}{dd:D}(hN:N a=some ob)(h0:H0 a=none)(DC:∀(j:Nat)(d:D),ρ[j]? = some (some (d,true))->σ[j]? ≠ some (some (V.ref a)))
  (HX:∀(j:Nat)(d:D),j≠i->ρ[j]? = some (some (d,false))->∃v,σ[j]? = some (some v)/\Is K (cx N (λb=>own σ ρ b∨b=a)) v d) (Lz:∀(j:Nat)(d:D),j≠i->ρ[j]? = some (some (d,true))->∃(a':Addr)(o:HO),σ[j]? = some (some (V.ref a'))/\N a'=some o/\Bx K (cx N (λb=>own σ ρ b∨b=a)) o d)
  (A6:Bx K (cx N (λb=>own σ ρ b∨b=a)) ob dd):c6 K B0 H0 N H (σ.set i (some (.ref a))) (ρ.set i (some (dd,true))):=by
 have o:∀b,own (σ.set i (some (V.ref a))) (ρ.set i (some (dd,true))) b->own σ ρ b∨b=a:=λb q=>by
  rcases nW q with⟨p,_⟩|⟨j,_,d',q1,q2⟩
  ·cases p;exact .inr rfl
  ·exact .inl ⟨j,d',q1,q2⟩
 have c:aF (cx N (λb=>own σ ρ b∨b=a)) (cx N (own (σ.set i (some (V.ref a))) (ρ.set i (some (dd,true))))):=da λb u e q=>⟨e,λz=>q (o b z)⟩;refine⟨s.bh,s.tb,s.ext,by simp[s.len],λj e q=>?_,λj e q=>?_,λj k b e f q q' h1 h2=>?_⟩
 ·rcases be q with⟨rfl,p⟩|⟨ne,p⟩
  ·cases p
  ·obtain⟨w,h1,h2⟩:=HX j e (Ne.symm ne) p;exact⟨w,by rw[vB ne];exact h1,h2.mono c⟩
 ·rcases be q with⟨rfl,p⟩|⟨ne,p⟩
  ·cases p
   have hi:=mJ q s.len;exact⟨a,ob,by simp[hi],hN,h0,A6.mono c⟩
  ·obtain⟨a',o',h1,h2,h4⟩:=Lz j e (Ne.symm ne) p;have h3:H0 a'=none:=by
    obtain⟨a2,_,k1,_,k3,_⟩:=s.ow j e p;rw[h1]at k1;cases k1;exact k3
   exact⟨a',o',by rw[vB ne];exact h1,h2,h3,h4.mono c⟩
 ·rcases be q with⟨rfl,p⟩|⟨ne,p⟩
  ·rcases be q' with⟨rfl,p'⟩|⟨Fl,p'⟩
   ·rfl
   ·rw[vB Fl]at h2;have L0:V.ref a=V.ref b:=by
     rcases be h1 with⟨_,z⟩|⟨z,_⟩
     ·exact vK z
     ·exact absurd rfl z
    cases L0
    exact absurd h2 (DC k f p')
  ·rcases be q' with⟨rfl,p'⟩|⟨Fl,p'⟩
   ·rw[vB ne]at h1;have HY:V.ref a=V.ref b:=by
     rcases be h2 with⟨_,z⟩|⟨z,_⟩
     ·exact vK z
     ·exact absurd rfl z
    cases HY
    exact absurd h1 (DC j e p)
   ·rw[vB ne]at h1;rw[vB Fl]at h2;exact s.inj j k b e f p p' h1 h2
end
inductive Res where
 |nx (ρ:Env)|rt (d:D) (b:Bool)|bk (ρ:Env)|ct (ρ:Env)
abbrev FS:=Env->Option Res
def E1 (K:Frag)(B0 H0:Hp)(E:Ends):Res->Prop
 |.nx ρ=>∀σ H,qV K B0 H0 H σ ρ->E.nx σ H
 |.rt d b=>∀v H N,Ext B0 N H0 H->Is K N v d->(b=true->Dx K H0 N v d)->E.rt v H
 |.bk ρ=>∀σ H,qV K B0 H0 H σ ρ->E.bk σ H
 |.ct ρ=>∀σ H,qV K B0 H0 H σ ρ->E.ct σ H
def mK (K:Frag)(g:FS):TS:=λE σ H=>∃(B0 H0:Hp)(ρ:Env)(r:Res),qV K B0 H0 H σ ρ/\g ρ=some r/\E1 K B0 H0 E r
section
variable {K:Frag}{B0 H0 N H H':Hp}{σ:St}{ρ:Env}{E:Ends}
theorem c6.writeB (s:c6 K B0 H0 N H σ ρ)(hi:ρ[i]? = some (some (d,true)))(hσ:σ[i]? = some (some (V.ref a)))(h:Bx K (cx N (own σ ρ)) ob dd):
  c6 K B0 H0 (upd N a ob) (upd H a ob) σ (ρ.set i (some (dd,true))):=by
 have oa:own σ ρ a:=⟨i,d,hi,hσ⟩;obtain⟨ws,hw,h0⟩:=s.owned oa;have b0:B0 a=none:=s.bh.free h0;have o:∀b,own σ (ρ.set i (some (dd,true))) b↔own σ ρ b:=λb=>by
  constructor
  ·rintro⟨j,e,q1,q2⟩;rcases be q1 with⟨rfl,p⟩|⟨_,p⟩
   ·exact⟨i,d,hi,q2⟩
   ·exact⟨j,e,p,q2⟩
  ·rintro⟨j,e,q1,q2⟩;by_cases z:i=j
   ·subst z;exact⟨i,dd,by rw[List.getElem?_set_self (vV hi).1],q2⟩
   ·exact⟨j,e,by rw[vB z];exact q1,q2⟩
 have c:aF (cx N (own σ ρ)) (cx (upd N a ob) (own σ (ρ.set i (some (dd,true))))):=da λb u e q=>by
  have ne:b≠a:=λz=>q (z ▸ oa);exact⟨by rw[a8 ne];exact e,λz=>q ((o b).mp z)⟩
 refine⟨s.bh,s.tb,⟨λb u e=>?_,λb u e=>?_,λb u e=>?_,λb u e=>?_⟩,by rw[List.length_set];exact s.len,λj e q=>?_,λj e q=>?_,λj k b e f q q' h1 h2=>?_⟩
 ·rw[a8 (λz=>by subst z;rw[h0]at e;cases e)];exact s.ext.hh _ _ e
 ·rw[a8 (λz=>by subst z;rw[b0]at e;cases e)];exact s.ext.bn _ _ e
 ·by_cases z:b=a
  ·subst z;rw[au]at e ⊢;exact e
  ·rw[a8 z]at e ⊢;exact s.ext.nh _ _ e
 ·by_cases z:b=a
  ·subst z;exact .inr h0
  ·rw[a8 z]at e;exact s.ext.new _ _ e
 ·rcases be q with⟨rfl,p⟩|⟨ne,p⟩
  ·cases p
  ·obtain⟨v,h1,h2⟩:=s.sh j e p;exact⟨v,h1,h2.mono c⟩
 ·rcases be q with⟨rfl,p⟩|⟨ne,p⟩
  ·cases p
   exact⟨a,ob,hσ,au,h0,h.mono c⟩
  ·obtain⟨a',o',h1,h2,h3,h4⟩:=s.ow j e p;have na:a'≠a:=λz=>by subst z;exact ne (s.inj i j _ d e hi p hσ h1)
   exact⟨a',o',h1,by rw[a8 na];exact h2,h3,h4.mono c⟩
 ·have get:∀ {j:Nat}{e:D},(ρ.set i (some (dd,true)))[j]? = some (some (e,true))->∃e',ρ[j]? = some (some (e',true)):=λ{j e} q=>by
   rcases be q with⟨rfl,p⟩|⟨ne,p⟩
   ·exact⟨d,hi⟩
   ·exact⟨e,p⟩
  obtain⟨e',q1⟩:=get q;obtain⟨f',q2⟩:=get q';exact s.inj j k b e' f' q1 q2 h1 h2
theorem c6.write (s:c6 K B0 H0 N H σ ρ)(hi:ρ[i]? = some (some (d,true)))(hσ:σ[i]? = some (some (V.ref a)))(h:IsL K (cx N (own σ ρ)) vs ds):
  c6 K B0 H0 (upd N a (.lst vs)) (upd H a (.lst vs)) σ (ρ.set i (some (.lst ds,true))):=s.writeB hi hσ (.lst h)
theorem c6.tups (s:c6 K B0 H0 N H σ ρ):∀a vs,fg K N a vs->fg K (cx N (own σ ρ)) a vs:=λa vs h=>by
 have key:∀u,N a=some u->¬boxed u->cx N (own σ ρ) a=some u:=λu e hu=>by
  rw[bI λz=>?_];exact e;obtain⟨ws,⟨q,qb⟩,_⟩:=s.owned z;rw[e]at q;cases q;exact hu qb
 rcases h with (h|⟨o,h⟩)|h
 ·exact .inl (.inl (key _ h (λq=>q)))
 ·exact .inl (.inr ⟨o,key _ h (λq=>q)⟩)
 ·exact .inr h
theorem c6.flat (s:c6 K B0 H0 N H σ ρ)(h:Is K N v d)(n:aQ d=true):Is K (cx N (own σ ρ)) v d:=h.keepT s.tups n
theorem c6.flats (s:c6 K B0 H0 N H σ ρ)(h:IsL K N v d)(n:aV d=true):IsL K (cx N (own σ ρ)) v d:=h.keepT s.tups n
theorem c6.rebase (s:c6 K B0 H0 N H σ ρ):c6 K (cx N (own σ ρ)) (cx H (own σ ρ)) N H σ ρ :=
 ⟨da λa o e q=>⟨s.ext.nh _ _ e,q⟩,s.tbC,⟨bf,bf,s.ext.nh,λa o e=>by
  by_cases q:own σ ρ a
  ·exact .inr (qU q)
  ·exact .inl (by rw[bI q];exact e)⟩,s.len,s.sh,λi d q=>by
   obtain⟨a,o,h1,h2,_,h4⟩:=s.ow i d q;exact⟨a,o,h1,h2,qU ⟨i,d,q,h1⟩,h4⟩,s.inj⟩
theorem c6.unbase (s:c6 K B0 H0 N H σ ρ)(t:c6 K (cx N (own σ ρ)) (cx H (own σ ρ)) N' H' σ' ρ'):c6 K B0 H0 N' H' σ' ρ':=by
 have h0:aF H0 (cx H (own σ ρ)):=λa o e=>by
  rw[bI λz=>?_];exact s.ext.hh _ _ e;obtain⟨_,_,q⟩:=s.owned z;rw[q]at e;cases e
 have b0:aF B0 (cx N (own σ ρ)):=λa o e=>by
  rw[bI λz=>?_];exact s.ext.bn _ _ e;obtain⟨_,_,q⟩:=s.owned z;rw[s.bh _ _ e]at q;cases q
 refine⟨s.bh,s.tb,⟨h0.trans t.ext.hh,b0.trans t.ext.bn,t.ext.nh,λa o e=>?_⟩,t.len,t.sh,λi d q=>?_,t.inj⟩
 ·rcases t.ext.new a o e with z|z
  ·exact s.ext.new a o (bf _ _ z)
  ·exact .inr (h0.free z)
 ·obtain⟨a,o,h1,h2,h3,h4⟩:=t.ow i d q;exact⟨a,o,h1,h2,h0.free h3,h4⟩
theorem c6.based (t:c6 K B0 H0 N H σ ρ):aF B0 (cx N (own σ ρ)):=λa o e=>by
 rw[bI λz=>?_];exact t.ext.bn _ _ e;obtain⟨_,_,q⟩:=t.owned z;rw[t.bh _ _ e]at q;cases q
@[simp] noncomputable def aC (g h:FS):FS:=λρ=>match g ρ with|some (.nx ρ')=>h ρ'|r=>r
@[simp] noncomputable def aY:FS:=λρ=>some (.nx ρ)
@[simp] noncomputable def eL (c:FT)(g h:FS):FS:=λρ=>match c ρ with|some true=>g ρ|some false=>h ρ|none=>none
@[simp] noncomputable def aW (f:FE):FS:=λρ=>(f ρ).map λx=>.rt x.1 x.2
@[simp] noncomputable def AQ:D->Bool
 |.dk _ _=>true
 |.dt _ _=>true
 |_=>false
@[simp] def iM (i:Nat):FS:=λρ=>match ρ[i]? with|some (some (d,b))=>some (.rt d (b && !AQ d))|_=>none
@[simp] def AR:D->Bool
 |.lst ds=>aV ds
 |_=>false
@[simp] def setE (ρ:Env)(i:Nat)(d:D)(b:Bool):Env :=
 if aQ d=true then ρ.set i (some (d,false))else if b=true/\AR d=true then ρ.set i (some (d,true))else (unown ρ).set i (some (d,false))
@[simp] def b8 (i:Nat)(f:FE):FS:=λρ=>(f ρ).map λx=>.nx (setE ρ i x.1 x.2)
@[simp] def Ji (i:Nat)(f:FE):FS:=λρ=>(f (me ρ)).map λx=>.nx (ρ.set i (some (x.1,false)))
@[simp] def ie (i:Nat)(f:FE):FS:=λρ=>match ρ[i]? with
 |some (some (.lst ds,true))=>(f ρ).bind λx=>if aQ x.1=true/\ds.length<sizeLine then some (.nx (ρ.set i (some (.lst (ds++[x.1]),true))))else none
 |_=>none
theorem z4 (q:mK K (aC g h) E σ H):DU (mK K g) (mK K h) E σ H:=by
 obtain⟨B0,H0,ρ,r,s,e,p⟩:=q;unfold aC at e;cases eg:g ρ with
 |none=>rw[eg]at e;cases e
 |some r1=>
  rw[eg]at e;cases r1 with
  |nx ρ'=>exact⟨B0,H0,ρ,.nx ρ',s,eg,λσ' H' s'=>⟨B0,H0,ρ',r,s',e,p⟩⟩
  |rt d b=>cases e;exact⟨B0,H0,ρ,_,s,eg,p⟩
  |bk ρ'=>cases e;exact⟨B0,H0,ρ,_,s,eg,p⟩
  |ct ρ'=>cases e;exact⟨B0,H0,ρ,_,s,eg,p⟩
theorem wF (q:mK K aY E σ H):AI E σ H:=by
 obtain⟨B0,H0,ρ,r,s,e,p⟩:=q;cases e
 exact p σ H s
theorem qV.grown (s:c6 K B0 H0 N H σ ρ)(h:aF H H'):qV K B0 H0 H' σ ρ:=⟨N,s.grow (.grow s.ext.nh h)⟩
theorem Ck (q:mK K (eL c g h) E σ H):DW (ut K c) (mK K g) (mK K h) E σ H:=by
 obtain⟨B0,H0,ρ,r,⟨N,s⟩,e,p⟩:=q;unfold eL at e;cases ec:c ρ with
 |none=>rw[ec]at e;cases e
 |some b=>
  rw[ec]at e;refine⟨N,ρ,b,s.ext.nh,s.rep,ec,λH1 h1=>?_⟩;cases b with
  |true=>rw[if_pos rfl];exact⟨B0,H0,ρ,r,.grown s h1,e,p⟩
  |false=>rw[if_neg (by decide)];exact⟨B0,H0,ρ,r,.grown s h1,e,p⟩
theorem z5 (q:mK K (aW f) E σ H):BH (tD K f) E σ H:=by
 obtain⟨B0,H0,ρ,r,⟨N,s⟩,e,p⟩:=q;obtain⟨x,ex,e⟩:=oY e;subst e;exact⟨N,ρ,x.1,x.2,s.ext.nh,s.rep,ex,λv H1 N1 x1 i1 f1=>p v H1 N1 (s.ext.trans x1) i1 λb=>(f1 b).back s.ext.hh⟩
theorem wG (q:mK K (iM i) E σ H):BH (DK i) E σ H:=by
 obtain⟨B0,H0,ρ,r,⟨N,s⟩,e,p⟩:=q;unfold iM at e;split at e
 ·rename_i d b ei;cases e
  cases b with
  |false=>
   obtain⟨v,h1,h2⟩:=s.sh i d ei;exact⟨v,h1,p v H N s.ext (h2.mono bf) (by simp)⟩
  |true=>
   obtain⟨a,o,h1,h2,h3,h4⟩:=s.ow i d ei;cases h4 with
   |lst h4=>exact⟨_,h1,p _ H N s.ext (.lst (eP.of h2) (h4.mono bf)) λ_=>⟨a,_,_,rfl,rfl,h3,h2,h4.mono bf⟩⟩
   |dk hl h4=>exact⟨_,h1,p _ H N s.ext (.dk h2 hl (h4.mono bf)) (by simp)⟩
   |dt hl h4=>exact⟨_,h1,p _ H N s.ext (.dt h2 hl (h4.mono bf)) (by simp)⟩
 ·cases e
theorem c6.setE (s:c6 K B0 H0 N H σ ρ)(x:Ext N N1 H H1)(h:Is K N1 v d)(f:b=true->Dx K H N1 v d):c6 K B0 H0 N1 H1 (σ.set i (some v)) (setE ρ i d b):=by
 have s1:=s.grow x;unfold DL.setE;by_cases hn:aQ d=true
 ·rw[if_pos hn];exact s1.bind (s1.flat h hn)
 ·rw[if_neg hn];by_cases hb:b=true/\AR d=true
  ·rw[if_pos hb];obtain⟨a,vs,ds,rfl,rfl,ha,hN,hs⟩:=f hb.1;have J3:N a=none:=s.ext.nh.free ha;have L1:¬own σ ρ a:=λz=>by obtain⟨ws,⟨q,_⟩,_⟩:=s.owned z;rw[J3]at q;cases q
   have c:aF (cx N (own σ ρ)) (cx N1 (λb=>own σ ρ b∨b=a)):=da λb u e q=>⟨x.bn _ _ e,λz=>z.elim q λz=>by subst z;rw[J3]at e;cases e⟩;refine s1.bindOwn hN (s.ext.hh.free ha) (λj e q z=>L1 ⟨j,e,q,z⟩) (λj e _ q=>?_) (λj e _ q=>?_) (.lst (hs.keepT (λt ts st=>?_) hb.2))
   ·obtain⟨w,h1,h2⟩:=s.sh j e q;exact⟨w,h1,h2.mono c⟩
   ·obtain⟨a',o',h1,h2,_,h4⟩:=s.ow j e q;exact⟨a',o',h1,x.bn _ _ h2,h4.mono c⟩
   ·have key:∀u,N1 t=some u->¬boxed u->cx N1 (λb=>own σ ρ b∨b=a) t=some u:=λu e hu=>by
     rw[bI λz=>?_];exact e;rcases z with z|z
     ·obtain⟨ws,⟨q,qb⟩,_⟩:=s1.owned z;rw[e]at q;cases q;exact hu qb
     ·subst z;rw[e]at hN;cases hN;exact hu trivial
    rcases st with (st|⟨o,st⟩)|st
    ·exact .inl (.inl (key _ st (λq=>q)))
    ·exact .inl (.inr ⟨o,key _ st (λq=>q)⟩)
    ·exact .inr st
  ·rw[if_neg hb];exact s1.unown.bind (h.mono λa o e=>by rw[bI mI];exact e)
theorem sD (q:mK K (b8 i f) E σ H):za (tD K f) (iI i) E σ H:=by
 obtain⟨B0,H0,ρ,r,⟨N,s⟩,e,p⟩:=q;obtain⟨x,ex,e⟩:=oY e;subst e;exact⟨N,ρ,x.1,x.2,s.ext.nh,s.rep,ex,λv H1 N1 x1 i1 f1=>p _ H1 ⟨N1,s.setE x1 i1 f1⟩⟩
theorem z6 (q:mK K (ie i f) E σ H):∃(a:Addr)(us:List V),σ[i]? = some (some (V.ref a))/\H a=some (.lst us)/\AM (tD K f) Em σ H λxs H2=>sC (.ref a) xs H2 λ_ H3=>E.nx σ H3:=by
 obtain⟨B0,H0,ρ,r,⟨N,s⟩,e,p⟩:=q;unfold ie at e;split at e
 ·rename_i ds ei;obtain⟨x,ex,e⟩:=oX e;split at e
  ·rename_i hx;cases e
   obtain⟨a,vs,wa,z,h1,h2,h3,h4⟩:=s.owL i _ ei;cases z
   refine⟨a,vs,h1,s.ext.nh _ _ h2,N,ρ,x.1,x.2,s.ext.nh,s.rep,ex,λv H1 N1 x1 i1 f1=>⟨a,vs,v,rfl,rfl,x1.hh _ _ (s.ext.nh _ _ h2),by rw[h4.length];exact hx.2,?_⟩⟩;have s1:=s.grow x1;obtain⟨a',G1,wa,z,k1,k2,_,k4⟩:=s1.owL i _ ei;cases z
   rw[h1]at k1;cases k1;rw[x1.bn _ _ h2]at k2;cases k2;exact p σ _ ⟨_,s1.write ei h1 (k4.append (.cons (s1.flat i1 hx.1) .nil))⟩
  ·cases e
 ·cases e
end
noncomputable def wH (c:FT)(g:FS):Nat->Env->Option Res
 |0,_=>none
 |n+1,ρ=>match c ρ with
  |some true=>match g ρ with
   |some (.nx ρ')=>wH c g n ρ'
   |some (.ct ρ')=>wH c g n ρ'
   |some (.bk ρ')=>some (.nx ρ')
   |r=>r
  |some false=>some (.nx ρ)
  |none=>none
def mf (K:Frag)(J:It)(B:Hp)(ds:List D):Prop:=∀(i:Nat)(H:Hp),aF B H ->
 (∀d,ds[i]? = some d->J.go i H/\∀x H',J.yld i H x H'->∃N,Ext B N H H'/\Is K N x d)/\(ds.length<=i->J.stop i H)
def Jj (K:Frag)(f:FA):TI:=λσ H R=>∃(B:Hp)(ρ:Env)(ds:List D),aF B H/\cU K B σ ρ/\f ρ=some ds/\∀(J:It)(H' N:Hp),Ext B N H H'->mf K J N ds->R J H'
abbrev FG:=D->Env->Option Env
def z7 (K:Frag)(tg:FG)(g:TG):Prop:=∀(B0 H0 N H:Hp)(σ:St)(ρ ρ':Env)(v:V)(d:D)(Q:St->Hp->Prop),c6 K B0 H0 N H σ ρ->Is K (cx N (own σ ρ)) v d->tg d ρ=some ρ' ->
 (∀σ' H',qV K B0 H0 H' σ' ρ'->Q σ' H')->g v σ H Q
@[simp] noncomputable def gj (i:Nat):FG:=λd ρ=>some (ρ.set i (some (d,false)))
theorem ft:z7 K (gj i) (iI i):=by
 intro B0 H0 N H σ ρ ρ' v d Q s h e k;cases e
 exact k _ H ⟨N,s.bind h⟩
noncomputable def dR (tg:FG)(g:FS):List D->Env->Option Res
 |[],ρ=>some (.nx ρ)
 |d::ds,ρ=>(tg d ρ).bind λρ1=>match g ρ1 with
  |some (.nx ρ')=>dR tg g ds ρ'
  |some (.ct ρ')=>dR tg g ds ρ'
  |some (.bk ρ')=>some (.nx ρ')
  |r=>r
@[simp] theorem wI (tg:FG)(g:FS)(ρ:Env):dR tg g [] ρ=some (.nx ρ):=by rw[dR]
@[simp] theorem mL (tg:FG)(g:FS)(d:D)(ds:List D)(ρ:Env):dR tg g (d::ds) ρ=(tg d ρ).bind λρ1=>match g ρ1 with
  |some (.nx ρ')=>dR tg g ds ρ'
  |some (.ct ρ')=>dR tg g ds ρ'
  |some (.bk ρ')=>some (.nx ρ')
  |r=>r:=by rw[dR]
@[simp] def iN (f:FA)(tg:FG)(g:FS):FS:=λρ=>(f (me ρ)).bind λds=>dR tg g ds ρ
theorem oW (ht:z7 K tg t)(s1:c6 K B0 H0 N H1 σ ρ)(c:aF N1 (cx N (own σ ρ)))(J1:mf K J N1 ds)(e:dR tg g ds ρ=some r)(p:E1 K B0 H0 E r):
  ∃W:Nat->Nat->St->Hp->Prop,(∃m,W 0 m σ H1)/\∀i m σ H,W i m σ H->(J.stop i H/\E.nx σ H)∨(J.go i H/\∃N:St->Hp->Prop,(∀σ' H',N σ' H'->∃m',m'<m/\W (i+1) m' σ' H')/\∀x H',J.yld i H x H'->t x σ H' λσ2 H2=>mK K g { E with nx:=N,ct:=N,bk:=E.nx } σ2 H2):=by
 refine⟨λi m σ H=>∃(N:Hp)(ρ:Env),c6 K B0 H0 N H σ ρ/\aF N1 (cx N (own σ ρ))/\m=ds.length - i/\i<=ds.length/\dR tg g (ds.drop i) ρ=some r,⟨ds.length,_,ρ,s1,c,rfl,uN _,e⟩,?_⟩;clear e s1 c;rintro i m σ H ⟨N,ρ,s,c,rfl,hi,e⟩;have hs:aF N1 H:=c.trans (bf.trans s.ext.nh);obtain⟨j1,j2⟩:=J1 i H hs;by_cases eO:i<ds.length
 ·obtain⟨go,yl⟩:=j1 ds[i] (by simp[eO]);rw[List.drop_eq_getElem_cons eO]at e;obtain⟨ρ1,e1,e⟩:=oX e;refine .inr ⟨go,λσ' H'=>∃(N:Hp)(ρ:Env),c6 K B0 H0 N H' σ' ρ/\aF N1 (cx N (own σ' ρ))/\dR tg g (ds.drop (i+1)) ρ=some r,λσ' H' ⟨N',ρ',s',c',e'⟩=>⟨_,by omega,N',ρ',s',c',rfl,eO,e'⟩,λx H' y=>?_⟩;obtain⟨N2,x2,i2⟩:=yl x H' y;have x3:Ext (cx N (own σ ρ)) (join (cx N (own σ ρ)) N2) H H':=by
   refine⟨x2.hh,cC,λa o e=>?_,λa o e=>?_⟩
   ·cases q:cx N (own σ ρ) a with
    |some u=>rw[cC _ _ q]at e;cases e;exact x2.hh _ _ (s.ext.nh _ _ (bf _ _ q))
    |none=>rw[cn q]at e;exact x2.nh _ _ e
   ·cases q:cx N (own σ ρ) a with
    |some u=>rw[cC _ _ q]at e;cases e;exact .inl rfl
    |none=>
     rw[cn q]at e;rcases x2.new a o e with z|z
     ·rw[c _ _ z]at q;cases q
     ·exact .inr z
  obtain⟨s2,c2⟩:=s.growH x3;have c3:aF N2 (join (cx N (own σ ρ)) N2):=λa o e=>by
   rcases x2.new a o e with z|z
   ·exact cC _ _ (c _ _ z)
   ·rw[cn ((bf.trans s.ext.nh).free z)];exact e
  have i3:=i2.mono (c3.trans c2);have c4:aF N1 (cx (join N (join (cx N (own σ ρ)) N2)) (own σ ρ)):=(x2.bn.trans c3).trans c2;refine ht _ _ _ _ _ _ _ _ _ _ s2.rebase i3 e1 λσ2 H2 ⟨N4,s4⟩=>?_;cases eg:g ρ1 with
  |none=>rw[eg]at e;cases e
  |some r1=>
   rw[eg]at e;refine⟨_,_,ρ1,r1,⟨N4,s4⟩,eg,?_⟩;have back:∀ {σ':St}{H':Hp}{ρ':Env}{N':Hp},c6 K _ _ N' H' σ' ρ'->c6 K B0 H0 N' H' σ' ρ'/\aF N1 (cx N' (own σ' ρ')):=λt=>⟨s2.unbase t,c4.trans t.based⟩;cases r1 with
   |nx ρ'=>exact λσ' H' ⟨N',t⟩=>⟨N',ρ',(back t).1,(back t).2,e⟩
   |ct ρ'=>exact λσ' H' ⟨N',t⟩=>⟨N',ρ',(back t).1,(back t).2,e⟩
   |bk ρ'=>cases e;exact λσ' H' ⟨N',t⟩=>p σ' H' ⟨N',(back t).1⟩
   |rt d b=>
    cases e
    intro v H' N' x' i' f';have y:=s2.rebase.ext;have h0:aF H0 (cx H' (λ_=>False)):=λa o e=>by rw[bI (λz=>z)];exact x'.hh _ _ (by
     rw[bI λz=>?_];exact s2.ext.hh _ _ e;obtain⟨_,_,q⟩:=s2.owned z;rw[q]at e;cases e)
    have MN:aF H0 (cx H' (λ_=>False)):=h0;have hH:aF H0 (cx H' (λ_=>False)):=h0;have hc:∀a,cx H' (λ_=>False) a=H' a:=λa=>bI (λz=>z);have hb:aF H0 (cx _ (own σ ρ)):=λa o e=>by
     rw[bI λz=>?_];exact s2.ext.hh _ _ e;obtain⟨_,_,q⟩:=s2.owned z;rw[q]at e;cases e
    have bb:aF B0 (cx _ (own σ ρ)):=λa o e=>by
     rw[bI λz=>?_];exact s2.ext.bn _ _ e;obtain⟨_,_,q⟩:=s2.owned z;rw[s2.bh _ _ e]at q;cases q
    refine p v H' N' ⟨hb.trans x'.hh,bb.trans x'.bn,x'.nh,λa o e=>?_⟩ i' λz=>(f' z).back hb;rcases x'.new a o e with z|z
    ·exact s2.ext.new a o (bf _ _ z)
    ·exact .inr (hb.free z)
 ·have ei:i=ds.length:=by omega
  subst ei;rw[List.drop_eq_nil_of_le (vT _)]at e;cases e
  exact .inl ⟨j2 (vT _),p σ H ⟨N,s⟩⟩
theorem z8 (ht:z7 K tg t)(q:mK K (iN f tg g) E σ H):BP (Jj K f) t (mK K g) E σ H:=by
 obtain⟨B0,H0,ρ,r,⟨N,s⟩,e,p⟩:=q;obtain⟨ds,ef,e⟩:=oX e;refine⟨cx N (own σ ρ),me ρ,ds,bf.trans s.ext.nh,s.repH,ef,λJ H1 N1 x1 J1=>?_⟩;obtain⟨s1,c⟩:=s.growH x1;exact oW ht s1 c J1 e p
def Gh (K:Frag)(f:FA):TI:=λσ H R=>∃(B:Hp)(ρ:Env)(ds:List D),aF B H/\cU K B σ ρ/\f ρ=some ds/\∀(J:It)(H' N:Hp),Ext B N H H'->(∀B',mf K J B' ds)->R J H'
@[simp] def jJ (f:FA)(tg:FG)(g:FS):FS:=λρ=>(f ρ).bind λds=>dR tg g ds ρ
theorem wJ (ht:z7 K tg t)(q:mK K (jJ f tg g) E σ H):BP (Gh K f) t (mK K g) E σ H:=by
 obtain⟨B0,H0,ρ,r,⟨N,s⟩,e,p⟩:=q;obtain⟨ds,ef,e⟩:=oX e;refine⟨N,ρ,ds,s.ext.nh,s.rep,ef,λJ H1 N1 x1 J1=>?_⟩;exact oW ht (s.grow x1) (aF.refl _) (J1 _) e p
end DL
namespace DL
open PySem PySem.Spec PyProof.Rows L2
abbrev JE (X:Cx)(e:Expr)(f:FE):Prop:=PE X e (tD X.K f)
abbrev JT (X:Cx)(e:Expr)(f:FT):Prop:=PT X e (ut X.K f)
abbrev JW (X:Cx)(e:Expr)(f:FT):Prop:=PW X e (ut X.K f)
abbrev JA (X:Cx)(es:List Expr)(f:FA):Prop:=PA X es (Ez X.K f)
abbrev JS (X:Cx)(st:Stmt)(g:FS):Prop:=PS X st (mK X.K g)
abbrev oI (X:Cx)(st:List Stmt)(g:FS):Prop:=nL X st (mK X.K g)
abbrev JI (X:Cx)(tg bM:Expr)(f:FA):Prop:=PI X tg bM (Jj X.K f)
def Cm (M:Model)(A:Around)(lR:List Expr)(m4:Expr)(env:PySem.Env)(acc:Value)(E:Value->Shared->Prop)(P:Shared->Prop):Shared->Prop :=
 wpAny M A (forIn lR true λc r=>if r=true then do let ok ←isTrue c env (eval c env);pure (ForInStep.yield ok)else pure (ForInStep.yield r))
  (λok s₃=>if ok=true then wpAny M A (eval m4 env) (λx=>wpAny M A (call (.builtin "list.append") [acc,x]) (λ_=>P) E) E s₃ else P s₃) E
theorem nX {E:Value->Shared->Prop}(hE:∀x s,¬E x s)(I:Nat->Shared->Prop)
  (CU:∀n s,I n s->wpAny (model prog w) A (pyNext it) (λr s₁=>match r with
   |none=>R (.ok .next) s₁
   |some v=>wpAny (model prog w) A (letOwnedTupleGo lP it v) (λ_=>wpAny (model prog w) A (assign lP env v) (λ_=>Cm (model prog w) A lR m4 env acc E λs=>∃m,m<n/\I m s) E) E s₁) E s)
  (n:Nat) (h:I n s):codeAny (model prog w) A (.compLoop (.ListComp m4 [⟨lP,bM,lR,0⟩] scope pos) 0 it acc env) R s:=by
 refine codeAny_loop rfl I (λn s hI=>?_) n h;show wpAny _ A ((compTurn (.ListComp m4 [⟨lP,bM,lR,0⟩] scope pos) 0 it acc env).onRaise (λx=>do noteFrame x env;theTreesLotGoes x)) _ _ s;refine wpAny_noted (wpAny_mono (E:=E) ?_ (λ_ _ q=>q) λ_ _ z=>(hE _ _ z).elim);rw[compTurn_list];refine wX (wpAny_standAt (wX (bH (CU n s hI) λr s₁ h₁=>?_)));cases r with
 |none=>exact wY h₁
 |some v=>
  refine wX (bH h₁ λ_ s₁ h₁=>wX (bH h₁ λ_ s₂ h₂=>wX (bH h₂ λok s₃ h₃=>?_)));cases ok with
  |false=>exact wY ⟨rfl,h₃⟩
  |true=>exact wX (wX (bH h₃ λx s₄ h₄=>wX (bH h₄ λ_ s₅ h₅=>wY (wY ⟨rfl,h₅⟩))))
theorem Ext.upd (x:Ext B N H H')(h:H a=none)(hN:N a=none):Ext B N H (upd H' a o) :=
 ⟨λb u e=>by rw[a8 (λz=>by subst z;rw[h]at e;cases e)];exact x.hh _ _ e,x.bn,λb u e=>by rw[a8 (λz=>by subst z;rw[hN]at e;cases e)];exact x.nh _ _ e,x.new⟩
noncomputable abbrev eQ (X:Cx)(N':List Str)(scope:Scope)(cl:List (Str×Addr))(C:Addr)(s₃:Shared)(H₃:Hp)(fp:List Addr):Cx :=
 { X with N:=N',s₀:=s₃,H₀:=H₃,env:=compEnvC scope cl C X.env,outer:=X.stack,stack:=X.stack,ex:=fp,fn:=λ_=>false,pn:=[],xe:=λ_ _=>False }
inductive jv (X:Cx)(N':List Str)(scope:Scope)(cl:List (Str×Addr)):Nat->List Nat->Prop where
 |nil {j:Nat}(h:N'.length=j):jv X N' scope cl j []
 |cons {j i:Nat}{r:List Nat}{x:Str}(h1:N'[j]? = some x) (h2:X.N[i]? = some x) (h3:X.env.kindOf x=some .cell∨X.env.kindOf x=some .free)
   (h4:(relabel scope X.env).names.lookup x=some .cell∨(relabel scope X.env).names.lookup x=some .free) (h5:cl.lookup x=X.env.cells.lookup x) (t:jv X N' scope cl (j+1) r):jv X N' scope cl j (i::r)
theorem jv.len:∀ {j:Nat}{cap:List Nat},jv X N' scope cl j cap->N'.length=j+cap.length
 |_,_,.nil h=>by rw[h];rfl
 |j,i::r,.cons _ _ _ _ _ t=>by rw[t.len,vD];omega
theorem jv.get:∀ {j:Nat}{cap:List Nat}{k i:Nat},jv X N' scope cl j cap->cap[k]? = some i->∃x,N'[j+k]? = some x/\X.N[i]? = some x/\(X.env.kindOf x=some .cell∨X.env.kindOf x=some .free) /\
  ((relabel scope X.env).names.lookup x=some .cell∨(relabel scope X.env).names.lookup x=some .free)/\cl.lookup x=X.env.cells.lookup x
 |_,_,_,_,.nil _,e=>by simp at e
 |j,_,0,_,.cons h1 h2 h3 h4 h5 _,e=>by simp at e;subst e;exact⟨_,h1,h2,h3,h4,h5⟩
 |j,_,k+1,i,.cons _ _ _ _ _ t,e=>by
  obtain⟨x,q,r⟩:=t.get (k:=k) (i:=i) (by simpa using e);exact⟨x,by rw[show j+(k+1)=j+1+k by omega];exact q,r⟩
structure CompSc (X:Cx)(scope:Scope)(cl:List (Str×Addr)):Prop where
 clos:closureFor scope X.env=pure cl
 nocell:∀y∈scope.names,y.2≠.cell
 kind:scope.kind=.function
 names:∀y∈scope.names,y.2=.local->scope.names.lookup y.1=some .local
 sub:∀x c,cl.lookup x=some c->X.env.cells.lookup x=some c
 has:∀x,((relabel scope X.env).names.lookup x=some .cell∨(relabel scope X.env).names.lookup x=some .free)->∃c,cl.lookup x=some c
noncomputable def cK:List (Str×NameKind)->List (Str×Addr)->List (Str×Addr)->List (Str×Addr)
 |[],_,cs=>cs
 | (n,k)::r,cells,cs=>cK r cells (if k == .free then (match cells.lookup n with|some c=>(n,c)::cs|none=>cs)else cs)
theorem uu:∀(names:List (Str×NameKind))(cs:List (Str×Addr)),(∀y∈names,y.2=.free->(env.cells.lookup y.1).isSome=true) ->
    (do let mut cs:=cs
        for (name,kind)in names do
          if kind == .free then cs:=(name,←cellOf env name)::cs
        return cs:Sem (List (Str×Addr)))=pure (cK names env.cells cs):=by
  intro names;induction names with
  |nil=>intro cs _;rfl
  |cons y r ih=>
    intro cs h;obtain⟨n,k⟩:=y;have Fp:=λcs=>ih cs λy hy=>h y (mZ _ hy);by_cases hk:k=.free
    . subst hk;have hc:=h (n,.free) mX rfl;cases q:env.cells.lookup n with
      |none=>rw[q]at hc;cases hc
      |some c=>
        have e1:cK ((n,.free)::r) env.cells cs=cK r env.cells ((n,c)::cs):=by
          rw[cK,q];rfl
        rw[e1,←Fp ((n,c)::cs)];have e2:cellOf env n=pure c:=by unfold cellOf;rw[q]
        simp only[List.forIn_cons,beq_self_eq_true,if_true,e2];rfl
    . have hb:(k == NameKind.free)=false:=by simpa using hk
      have e1:cK ((n,k)::r) env.cells cs=cK r env.cells cs:=by rw[cK,hb];rfl
      rw[e1,←Fp cs];simp only[List.forIn_cons,hb,uV,if_false];rfl
theorem kJ:∀(names:List (Str×NameKind))(cs:List (Str×Addr)),(∀y d,cs.lookup y=some d->cells.lookup y=some d)->(cK names cells cs).lookup x=some c->cells.lookup x=some c
 |[],cs,h,e=>h x c e
 | (n,k)::r,cs,h,e=>by
  rw[cK]at e;refine kJ r _ (λy d q=>?_) e;split at q
  ·split at q
   ·rename_i c' ec;rw[List.lookup_cons]at q;split at q
    ·rename_i hy;cases q
     rw[eq_of_beq hy];exact ec
    ·exact h y d q
   ·exact h y d q
  ·exact h y d q
theorem mM:∀(names:List (Str×NameKind))(cs:List (Str×Addr)),(cs.lookup x).isSome=true->((cK names cells cs).lookup x).isSome=true
 |[],cs,h=>h
 | (n,k)::r,cs,h=>by
  rw[cK];refine mM r _ ?_;split
  ·split
   ·rw[List.lookup_cons];split
    ·rfl
    ·exact h
   ·exact h
  ·exact h
theorem kK:∀(names:List (Str×NameKind))(cs:List (Str×Addr)),(x,NameKind.free)∈names->(cells.lookup x).isSome=true->((cK names cells cs).lookup x).isSome=true
 | (n,k)::r,cs,hm,hc=>by
  rw[cK];rcases vP hm with e|e
  ·cases e
   refine mM r _ ?_;cases q:cells.lookup x with
   |none=>rw[q]at hc;cases hc
   |some c=>simp
  ·exact kK r _ e hc
theorem ig {α:Type}{x:Str}{k:α}:∀ {l:List (Str×α)},l.lookup x=some k->(x,k)∈l
 | (n,j)::r,h=>by
  rw[List.lookup_cons]at h;split at h
  ·rename_i e;cases h
   rw[eq_of_beq e];exact mX
  ·exact mZ _ (ig h)
theorem Cn {X:Cx}{scope:Scope}(h1:∀y∈scope.names,y.2≠.cell)(h2:scope.kind=.function)(h3:∀y∈scope.names,y.2=.local->scope.names.lookup y.1=some .local)(Ib:(scope.names.all λy=>!(y.2 == NameKind.free) || (X.env.cells.lookup y.1).isSome)=true):
  CompSc X scope (cK scope.names X.env.cells []):=by
 have h4:∀y∈scope.names,y.2=.free->(X.env.cells.lookup y.1).isSome=true:=λy hy e=>by
  have:=List.all_eq_true.mp Ib y hy;rw[e]at this;simpa using this
 have frees:∀x,((relabel scope X.env).names.lookup x=some .cell∨(relabel scope X.env).names.lookup x=some .free)->(x,NameKind.free)∈scope.names:=λx h=>by
  have:∃k,(x,k)∈(relabel scope X.env).names/\(k=.cell∨k=.free):=by
   rcases h with h|h
   ·exact⟨_,ig h,.inl rfl⟩
   ·exact⟨_,ig h,.inr rfl⟩
  obtain⟨k,hm,hk⟩:=this;obtain⟨⟨n,j⟩,hj,e⟩:=List.mem_map.mp hm;dsimp only at e;split at e
  ·rename_i hc;rw[vC,vC]at hc;cases e
   rw[←eq_of_beq hc.1.1];exact hj
  ·cases e
   rcases hk with rfl|rfl
   ·exact absurd rfl (h1 _ hj)
   ·exact hj
 exact⟨uu scope.names [] h4,h1,h2,h3,λx c e=>kJ scope.names [] (λy d q=>by cases q) e,λx h=>by
  have:=kK (x:=x) scope.names [] (frees x h) (h4 _ (frees x h) rfl);exact Option.isSome_iff_exists.mp this⟩
theorem z9 {scope:Scope}{cells:List (Str×Addr)}{x:Str}(h:(x,NameKind.free)∈scope.names)(hc:(cells.lookup x).isSome=true):(cK scope.names cells []).lookup x=cells.lookup x:=by
 obtain⟨c,e⟩:=Option.isSome_iff_exists.mp (kK (x:=x) scope.names [] h hc);rw[e,kJ scope.names [] (λy d q=>by cases q) e]
noncomputable def uv (nT:Nat)(cap:List Nat)(σ:St):St:=List.replicate nT none++cap.map λi=>(σ[i]?).join
noncomputable def eT (nT:Nat)(cap:List Nat)(ρ:Env):Env:=List.replicate nT none++cap.map λi=>match ρ[i]? with|some (some (d,_))=>some (d,false)|_=>none
theorem sE {α:Type}{nT:Nat}{cap:List Nat}{f:Nat->Option α}{j:Nat}{v:α}(h:(List.replicate nT none++cap.map f)[j]? = some (some v)):∃k i,j=nT+k/\cap[k]? = some i/\f i=some v:=by
 by_cases hj:j<nT
 ·rw[List.getElem?_append_left (by simpa using hj),List.getElem?_replicate,if_pos hj]at h;cases h
 ·rw[List.getElem?_append_right (by simpa using Nat.not_lt.mp hj),List.length_replicate,vA]at h;obtain⟨i,h1,h2⟩:=oY h;exact⟨j - nT,i,by omega,h1,h2⟩
theorem zF {α:Type}{nT:Nat}{cap:List Nat}{f:Nat->Option α}{k i:Nat}{v:α}(h1:cap[k]? = some i)(h2:f i=some v):(List.replicate nT none++cap.map f)[nT+k]? = some (some v):=by
 rw[List.getElem?_append_right (by simp),List.length_replicate,vA,Nat.add_sub_cancel_left,h1];simp[h2]
theorem cU.caps {K:Frag}{B:Hp}{σ:St}{ρ:Env}{nT:Nat}{cap:List Nat}(h:cU K B σ ρ):cU K B (uv nT cap σ) (eT nT cap ρ):=⟨h.tb,λj d b q=>by
 obtain⟨k,i,rfl,h1,h2⟩:=sE q;split at h2
 ·rename_i d' b' e;cases h2
  obtain⟨v,g1,g2⟩:=h.at' i _ _ e;exact⟨v,zF h1 (by rw[g1];rfl),g2⟩
 ·cases h2⟩
noncomputable def dD (tg:FG)(c:FT)(fe:FE)(ρ:Env):List D->Option (List D)
 |[]=>some []
 |d::r=>(tg d ρ).bind λρ1=>(c ρ1).bind λb=>if b=true then (fe ρ1).bind λx=>(dD tg c fe ρ r).map (x.1 :: ·)else dD tg c fe ρ r
@[simp] theorem Dy (tg:FG)(c:FT)(fe:FE)(ρ:Env):dD tg c fe ρ []=some []:=by rw[dD]
@[simp] theorem qW (tg:FG)(c:FT)(fe:FE)(ρ:Env)(d:D)(r:List D):dD tg c fe ρ (d::r)=(tg d ρ).bind λρ1=>(c ρ1).bind λb=>if b=true then (fe ρ1).bind λx=>(dD tg c fe ρ r).map (x.1 :: ·)else dD tg c fe ρ r:=by rw[dD]
@[simp] def ca (fi:FA)(nT:Nat)(cap:List Nat)(tg:FG)(c:FT)(fe:FE):FE:=λρ=>(fi ρ).bind λam=>if am.length<=sizeLine then (dD tg c fe (eT nT cap ρ) am).map λds=>(.lst ds,true)else none
def AS (K:Frag)(n:Nat)(tg:FG)(g:TG):Prop:=∀(B H:Hp)(σ:St)(ρ ρ1:Env)(v:V)(d:D)(Q:St->Hp->Prop),(∀i,i<n->ρ[i]? = some none)->cU K B σ ρ->aF B H->Is K B v d->tg d ρ=some ρ1 ->
 ρ.length=σ.length->(∀σ1,cU K B σ1 ρ1->(∀B',cU K B' σ ρ->cU K B' σ1 ρ)->ρ.length=σ1.length->Q σ1 H)->g v σ H Q
theorem oZ {K:Frag}{n i:Nat}(hi:i<n):AS K n (gj i) (iI i):=by
 intro B H σ ρ ρ1 v d Q cl rep s h e hl k;cases e
 have vo:i<σ.length:=by
  have:=(vV (cl i hi)).1;omega
 refine k _ ⟨rep.tb,λj e b q=>?_⟩ ?_ (by simpa using hl)
 ·rcases be q with⟨rfl,p⟩|⟨ne,p⟩
  ·cases p
   exact⟨v,by simp[vo],h⟩
  ·obtain⟨w,h1,h2⟩:=rep.at' j e b p;exact⟨w,by rw[vB ne];exact h1,h2⟩
 ·intro B' Fq;refine⟨Fq.tb,λj e b q=>?_⟩;obtain⟨w,h1,h2⟩:=Fq.at' j e b q;have ne:i≠j:=λz=>by subst z;rw[cl i hi]at q;cases q
  exact⟨w,by rw[vB ne];exact h1,h2⟩
def JC (X:Cx)(lR:List Expr)(c:FT):Prop:=∀(aa:List (Addr×Obj))(s:Shared)(σ:St)(H:Hp)(Q:Bool->Hp->Prop),Inv X aa σ H s->ut X.K c σ H Q ->
 wq X (forIn lR true λc r=>if r=true then do let ok ←isTrue c X.env (eval c X.env);pure (ForInStep.yield ok)else pure (ForInStep.yield r)) (TP X aa σ Q) X.xe s
@[simp] noncomputable def gg:FT:=λ_=>some true
theorem ij:JC X [] gg:=by
 intro aa s σ H Q I h;obtain⟨B,ρ,c,sB,rep,e,q⟩:=h;cases e
 exact wpAny_tests_nil ⟨H,I,q H (.refl H)⟩
theorem kL (h:JT X e f):JC X [e] f:=λaa s σ H Q I q=>wpAny_tests_one (h aa s σ H Q I q)
inductive CI (Y:Cx)(tn:Nat->Heap->Prop)(fp:List Addr)(N1 H2:Hp)(κ:Env)(a:Addr)(l:List D->Option (List D))(am ds:List D)(s:Shared):Nat->Prop
 |mk (i:Nat) (N:Hp) (vs:List V) (es r:List D) (σ:St) (H:Hp) (I:Inv Y [] σ H s) (ti:tn i s.heap) (hn:∀b∈fp,H b=none) (hi:i<=am.length) (rp:cU Y.K N1 σ κ) (hl:κ.length=σ.length)
   (x:Ext N1 N H2 H) (n0:N a=none) (h0:H a=some (.lst vs)) (vl:vs.length<=i) (iv:IsL Y.K N vs es) (er:l (am.drop i)=some r) (ed:es++r=ds):CI Y tn fp N1 H2 κ a l am ds s (am.length - i)
theorem Ext.both (x:Ext N1 N H2 H)(y:Ext N1 N' H H'):Ext N (join N N') H H'/\aF N' (join N N'):=by
 refine⟨⟨y.hh,cC,λa o e=>?_,λa o e=>?_⟩,λa o e=>?_⟩
 ·cases z:N a with
  |some u'=>rw[cC _ _ z]at e;cases e;exact y.hh _ _ (x.nh _ _ z)
  |none=>rw[cn z]at e;exact y.nh _ _ e
 ·cases z:N a with
  |some u'=>rw[cC _ _ z]at e;cases e;exact .inl rfl
  |none=>
   rw[cn z]at e;exact(y.new a o e).elim (λz'=>by rw[x.bn _ _ z']at z;cases z) .inr
 ·exact(y.new a o e).elim (λz=>cC _ _ (x.bn _ _ z)) λz=>by rw[cn (x.nh.free z)];exact e
theorem Ext.off (x:Ext B N H H')(h:B a=none)(h':H a=some o):N a=none:=by
 cases z:N a with
 |none=>rfl
 |some u=>
  rcases x.new _ _ z with z|z
  ·rw[h]at z;cases z
  ·rw[h']at z;cases z
theorem uw {Y:Cx}(gi:Y.calm=true)(hE:∀x s,¬Y.xe x s)(hg:PG Y tg g)(y8:AS Y.K nT kA g)(hc:JC Y lR fc)(he:JE Y m4 fe)(T:Turn Y.prog Y.w Y.K tg J fp it tn)(Fs:∀i,i<nT->κ[i]? = some none)
  (J1:mf Y.K J N1 am) (hsz:am.length<=sizeLine) (hD:H2 a=none) (Ic:∀H',(∀b∈fp,H' b=none)->∀b∈fp,iJ Y [] H' b)
  (hR:∀s4 σ' H' N vs,Inv Y [] σ' H' s4->Ext N1 N H2 H'->N a=none->H' a=some (.lst vs)->IsL Y.K N vs ds->R (.ok .next) s4) (h:CI Y tn fp N1 H2 κ a (dD kA fc fe κ) am ds s am.length):
  codeAny (model Y.prog Y.w) Y.A (.compLoop (.ListComp m4 [⟨tg,bM,lR,0⟩] scope pos) 0 (.ref it) (.ref a) Y.env) R s:=by
 refine nX hE (λn s=>CI Y tn fp N1 H2 κ a (dD kA fc fe κ) am ds s n) (λn s' h=>?_) _ h;obtain⟨i,N,vs,es,r,σ',H',I',ti,hn,hi,rp,bp,x,G2,Ft,CZ,Fu,er,G3⟩:=h;have sH:aF N1 H':=x.bn.trans x.nh;by_cases eO:i<am.length
 ·obtain⟨go,yl⟩:=(J1 i H' sH).1 am[i] (by simp[eO]);refine bH (T.item Y rfl rfl rfl gi i [] s' σ' H' Y.xe I' (Ic _ hn) ti go) λq s4 ⟨u,eu,hq⟩=>?_;subst eu;refine bH hq λ_ s5 ⟨xv,H5,I5,rx,y5,t5,HR⟩=>?_;obtain⟨N5,x5,i5⟩:=yl xv H5 y5;obtain⟨x6,c5⟩:=x.both x5;have J4:(join N N5) a=none:=x6.off G2 Ft;have G4:aF (join N N5) H5:=x6.nh;rw[List.drop_eq_getElem_cons eO]at er;unfold dD at er;obtain⟨ρ1,e1,er⟩:=oX er;obtain⟨b,e2,er⟩:=oX er;have fin:∀(s9:Shared)(σ9:St)(H9 N9:Hp)(Fw:List V)(G5 r9:List D),Inv Y (jy fp s5.heap) σ9 H9 s9->cU Y.K N1 σ9 κ->κ.length=σ9.length->Ext N1 N9 H2 H9->N9 a=none->H9 a=some (.lst Fw) ->
    Fw.length<=i+1->IsL Y.K N9 Fw G5->dD kA fc fe κ (am.drop (i+1))=some r9->G5++r9=ds->∃m,m<am.length - i/\CI Y tn fp N1 H2 κ a (dD kA fc fe κ) am ds s9 m:=λs9 σ9 H9 N9 Fw G5 r9 I9 L3 l9 x9 n9 h9 v9 i9 L4 L5=>
   ⟨_,by omega,i+1,N9,Fw,G5,r9,σ9,H9,I9.pins_of λp hp=>by simp at hp,T.keep _ _ _ t5 λb hb o e=>(I9.pin (b,o) (mY _ (fM hb e))).1,λb hb=>by
    obtain⟨o,e,d⟩:=T.obj _ _ t5 b hb;exact(I9.pin (b,o) (mY _ (fM hb e))).2.1,eO,L3,l9,x9,n9,h9,v9,i9,L4,L5⟩
  refine bH (hg (jy fp s5.heap) s5 σ' H5 xv u (λσ6 H6=>H6=H5/\cU Y.K (join N N5) σ6 ρ1/\cU Y.K N1 σ6 κ/\κ.length=σ6.length) (I5.pinned (Ic _ HR) (T.obj _ _ t5)) rx
   (y8 (join N N5) H5 σ' κ ρ1 xv am[i] _ Fs (rp.mono (x.bn.trans cC)) G4 (i5.mono c5) e1 bp λσ1 r1 r2 l1=>⟨rfl,r1,r2 N1 rp,l1⟩)) λ_ s6 ⟨σ6,H6,I6,eH,J5,J6,l6⟩=>?_
  subst eH;have Ie:H6 a=some (.lst vs):=x5.hh _ _ Ft;refine bH (hc _ s6 σ6 H6 (λc H7=>c=b/\aF H6 H7) I6 ⟨join N N5,ρ1,b,G4,J5,e2,λH7 h7=>⟨rfl,h7⟩⟩) λok s7 ⟨H7,I7,eb,h7⟩=>?_;subst eb;have x7:Ext N1 (join N N5) H2 H7:=(x.trans x6).trans (.grow G4 h7);cases ok with
  |false=>
   rw[if_neg (by decide)]at er ⊢;exact fin s7 σ6 H7 (join N N5) vs es r I7 J6 l6 x7 J4 (h7 _ _ Ie) (Nat.le_succ_of_le CZ) (Fu.mono cC) er G3
  |true=>
   rw[if_pos rfl]at er ⊢;obtain⟨y,e3,er⟩:=oX er;obtain⟨r',e4,er⟩:=oY er;subst er;refine bH (he _ s7 σ6 H7 (λv H8=>∃N8,Ext (join N N5) N8 H7 H8/\Is Y.K N8 v y.1) I7 ⟨join N N5,ρ1,y.1,y.2,G4.trans h7,J5,e3,λv H8 N8 x8 i8 _=>⟨N8,x8,i8⟩⟩) λw8 s8 ⟨v8,H8,I8,r8,N8,x8,i8⟩=>?_;refine bH (mG _ s8 σ6 H8 (.ref a) [v8] (.ref a) [w8] (λ_ H9=>H9=upd H8 a (.lst (vs++[v8]))) I8 rfl (.cons r8 .nil) ⟨_,vs,v8,rfl,rfl,x8.hh _ _ (h7 _ _ Ie),by omega,rfl⟩) λ_ s9 ⟨_,H9,I9,_,e9⟩=>?_;subst e9;have J7:=x8.off J4 (h7 _ _ Ie);exact fin s9 σ6 _ N8 (vs++[v8]) (es++[y.1]) r' I9 J6 l6 ((x7.trans x8).upd hD J7) J7 au (by rw[uZ,List.length_singleton];omega) ((Fu.mono (cC.trans x8.bn)).append (.cons i8 .nil)) e4 (by rw[List.append_assoc];exact G3)
 ·obtain rfl:i=am.length:=by omega
  rw[List.drop_eq_nil_of_le (vT _)]at er;cases er
  rw[uQ]at G3;subst G3;refine bH (T.done Y rfl rfl rfl gi am.length [] s' σ' H' Y.xe I' (Ic _ hn) ti ((J1 _ H' sH).2 (vT _))) λq s4 ⟨hq,I9⟩=>?_;subst hq;exact hR s4 σ' H' N vs I9 x G2 Ft Fu
theorem kM {X:Cx}(gi:X.calm=true){tg bM m4:Expr}{lR:List Expr}{scope:Scope}{pos:Pos}{cl:List (Str×Addr)}{N':List Str}{nT:Nat}{cap:List Nat}{kA:FG}{g:TG}{fc:FT}{fe:FE}
  (S:CompSc X scope cl) (cp:jv X N' scope cl nT cap)
  (hg:∀C s H fp,PG (eQ X N' scope cl C s H fp) tg g) (y8:AS X.K nT kA g) (hc:∀C s H fp,JC (eQ X N' scope cl C s H fp) lR fc) (he:∀C s H fp,JE (eQ X N' scope cl C s H fp) m4 fe)
  {aa:List (Addr×Obj)}{σ:St}{H2:Hp}{s2:Shared}{it:Addr}{fp:List Addr}{tn:Nat->Heap->Prop}{J:It}{N1:Hp}{ρ:Env}{am ds:List D}{E:Value->Shared->Prop}
  (I2:Inv X aa σ H2 s2) (T:Turn X.prog X.w X.K tg J fp it tn) (fL:tn 0 s2.heap) (f2:∀b∈fp,iJ X aa H2 b)
  (rep:cU X.K N1 σ ρ) (sN:aF N1 H2) (J1:mf X.K J N1 am) (hsz:am.length<=sizeLine) (ec:dD kA fc fe (eT nT cap ρ) am=some ds) {RR:Value->Addr->Result->Shared->Prop}
  (L6:∀(Dd C:Addr)(s':Shared)(H' N:Hp)(vs:List V)(m:Str->Option Value),H2 Dd=none->Inv X aa σ H' s'->s'.heap.Ns C m->iJ X aa H' C->Ext N1 N H2 H'->N Dd=some (.lst vs)->IsL X.K N vs ds->RR (.ref Dd) C (.ok .next) s'):
  wq X (newList []) (λacc s₃=>wq X (newFunctionEnv scope X.env.globals cl [] X.env.qual none .none (some X.env)) (λFx s₄=>
   codeAny (model X.prog X.w) X.A (.compStart (.ListComp m4 [⟨tg,bM,lR,0⟩] scope pos) 0 (.ref it) acc { Fx with scope:=relabel scope X.env }) (RR acc Fx.locals) s₄) E s₃) E s2:=by
 refine wpAny_newObj_type (wpAny_newFunctionEnv S.nocell (by intro y hy;simp at hy) (λh₁ sj hsb₁=>?_) S.kind);dsimp only at sj hsb₁ ⊢;have hD:H2 s2.heap.objs.size=none:=I2.fresh;have I3:Inv X aa σ (upd H2 s2.heap.objs.size (.lst [])) { s2 with heap:=s2.heap.push { cls:=.type "list",dict:=none,data:=.seq ([]:List Value).toArray } }:=I2.lnew (t':=s2.toks) (ys:=[]) (its:=[]) .nil (uN _);generalize hH3:s2.heap.push { cls:=.type "list",dict:=none,data:=.seq ([]:List Value).toArray }=g3 at sj hsb₁ I3 ⊢;have hC:g3.objs.size=s2.heap.objs.size+1:=by rw[←hH3,Heap.size_push]
 have A7:∀b o,s2.heap.get? b=some o->g3.get? b=some o:=λb o e=>hH3 ▸ vZ _ e;have vt:∀b o,g3.get? b=some o->h₁.get? b=some o:=λb o e=>hsb₁.extBut b o (vS (vX e)) (vZ _ e);have D9:∀b o,g3.get? b=some o->b≠g3.objs.size:=λb o e=>vS (vX e);have J8:∀b∈fp,∃o,s2.heap.get? b=some o:=λb hb=>let ⟨o,e,_⟩:=T.obj 0 s2.heap fL b hb;⟨o,e⟩;have L7:∀b∈fp,b≠s2.heap.objs.size:=λb hb=>let ⟨o,e⟩:=J8 b hb;vS (vX e);have J9:∀b∈fp,b≠g3.objs.size:=λb hb=>let ⟨o,e⟩:=J8 b hb;D9 b o (A7 b o e);have JB:∀x c,X.env.cells.lookup x=some c->c≠g3.objs.size:=λx c e=>by
  obtain⟨v,z⟩:=I3.cell x c e;exact vS z.lt
 have L8:(upd H2 s2.heap.objs.size (HO.lst [])) g3.objs.size=none:=I3.hok.fresh (vT _);have stk:∀b∈v7 X.stack,∃o,s2.heap.get? b=some o:=λb hb=>by
  obtain⟨_,o,ho,_⟩:=(I2.stack).mem hb;exact⟨o,ho⟩
 -- the block's context
 let Y:Cx:=eQ X N' scope cl g3.objs.size { s2 with heap:=g3 } (upd H2 s2.heap.objs.size (.lst [])) fp;have ok:Y.Ok:=by
  refine⟨I2.ok.mod,?_,I2.ok.glob,I2.ok.blt,vT _,λx y c e1 e2=>I2.ok.inj x y c (S.sub x c e1) (S.sub y c e2),λx h=>S.has x h,λx c h=>absurd h uX,I2.ok.hd,I2.ok.frames,.inl rfl,λb hb=>⟨J9 b hb,λx c e=>(f2 b hb).2.2.2.2.1 x c (S.sub x c e)⟩,λb o e=>?_,?_,λb o e hb=>?_,λb hb hz=>?_,I3.stack,λb hb=>I3.stkFree b hb⟩
  ·show(relabel scope X.env).kind=.function;exact S.kind
  ·exact I3.bs b o e
  ·exact vR I3.ok.bsz I3.sz
  ·have h1:=(f2 b hb).2.2.2.1;rcases h1 with z|z
   ·exact I2.ok.noex b o e z
   ·exact absurd (vQ (vX e) (vR I2.ok.bsz z)) (Nat.lt_irrefl _)
  ·rcases vP (I2.stkSub b hz)with z|z
   ·exact(f2 b hb).2.1 z
   ·exact(f2 b hb).2.2.1 z
 have I4:Inv Y [] (uv nT cap σ) (upd H2 s2.heap.objs.size (.lst [])) { s2 with heap:=h₁,toks:=s2.toks+([]:List (Str×Value)).length }:=by
  refine⟨ok,rfl,I2.bare,Un.kept vt,⟨_,sj,λj x v e1 e2 e3=>?_⟩,λx c e=>?_,L8,λx c e=>I3.freeC x c (S.sub x c e),λp hp=>absurd (show p∈[]from hp) List.not_mem_nil,I3.hok.kept vt,?_⟩
  ·obtain⟨k,i,rfl,h1,h2⟩:=sE e2;obtain⟨y,g1,g2,JD,g4,g5⟩:=cp.get h1;have JF:N'[nT+k]? = some x:=e1;rw[g1]at JF;cases JF;have HY:σ[i]? = some (some v):=by
    cases q:σ[i]? with
    |none=>rw[q]at h2;cases h2
    |some z=>rw[q]at h2;have:z=some v:=h2;rw[this]
   obtain⟨m,_,hl⟩:=I3.loc;obtain⟨u,r,l⟩:=hl i _ v g2 HY (JD.elim (λz=>.inr (.inl z)) λz=>.inr (.inr z));refine⟨u,r,?_⟩;rcases l with⟨l,_⟩|⟨_,c,lc,ic⟩
   ·rcases JD with z|z<;>(rw[z]at l;cases l)
   ·refine .inr ⟨g4,c,by show cl.lookup _=some c;rw[g5];exact lc,?_⟩;obtain⟨o,ho,hd⟩:=ic;exact⟨o,vt _ _ ho,hd⟩
  ·obtain⟨v,o,ho,hd⟩:=I3.cell x c (S.sub x c e);exact⟨v,o,vt _ _ ho,hd⟩
  ·show(uv nT cap σ).length=N'.length;unfold uv;rw[cp.len];simp
 have jF:∀s₃:Shared,s₃={ s2 with heap:=h₁,toks:=s2.toks+([]:List (Str×Value)).length }->codeAny (model Y.prog Y.w) Y.A (.compLoop (.ListComp m4 [⟨tg,bM,lR,0⟩] scope pos) 0 (.ref it) (.ref s2.heap.objs.size) Y.env) (RR (.ref s2.heap.objs.size) g3.objs.size) s₃:=by
  rintro s₃ rfl;refine uw (Y:=Y) gi (λ_ _ z=>z) (hg _ _ _ _) y8 (hc _ _ _ _) (he _ _ _ _) T (λi hi=>?_) J1 hsz hD (λH' hn b hb=>⟨hn b hb,J9 b hb,ok.exfs b hb,.inl hb,λx c e=>(f2 b hb).2.2.2.2.1 x c (S.sub x c e),λp hp=>absurd (show p∈[]from hp) List.not_mem_nil⟩) (λs4 σ' H' N vs I9 x G2 Ft Fu=>?_)
   ⟨0,N1,[],[],ds,uv nT cap σ,_,I4,T.keep _ _ _ fL λb hb o e=>vt _ _ (A7 _ _ e),λb hb=>?_,uN _,rep.caps,?_,(Ext.refl sN).upd hD (sN.free hD),sN.free hD,au,uN _,.nil,by simpa using ec,rfl⟩
  ·unfold eT;rw[List.getElem?_append_left (by simpa using hi),List.getElem?_replicate,if_pos hi]
  ·obtain⟨m,hm,_⟩:=I9.loc;have k:aF N (upd N s2.heap.objs.size (.lst vs)):=λa o e=>by rw[a8 (λz=>by subst z;rw[G2]at e;cases e)];exact e
   refine L6 s2.heap.objs.size g3.objs.size s4 H' (upd N s2.heap.objs.size (.lst vs)) vs m hD (I2.call' (ch:=fp) I9.os ((Un.laid A7 (vT _) hD).trans I9.base) I9.hok I9.bare λb hb=>⟨(f2 b hb).2.2.2.1,(f2 b hb).2.1,(f2 b hb).2.2.2.2.1,(f2 b hb).2.2.2.2.2⟩) hm (I2.fpOk (by rw[hC];exact Nat.le_succ _) I9.free) ⟨x.hh,x.bn.trans k,λa o e=>?_,λa o e=>?_⟩ au (Fu.mono k)
   ·by_cases z:a=s2.heap.objs.size
    ·subst z;rw[au]at e;cases e;exact Ft
    ·rw[a8 z]at e;exact x.nh _ _ e
   ·by_cases z:a=s2.heap.objs.size
    ·subst z;exact .inr hD
    ·rw[a8 z]at e;exact x.new _ _ e
  ·rw[a8 (L7 b hb)];exact(f2 b hb).1
  ·unfold eT uv;simp
 exact codeAny_compStart_list (jF _ rfl) (T.self _ 0 _ _ _ (T.keep _ _ _ fL λb hb o e=>vt _ _ (A7 _ _ e)) (jF _ rfl))
theorem zG (gi:X.calm=true) 
  (S:CompSc X scope cl) (cp:jv X N' scope cl nT cap) (hi:JI X tg bM fi)
  (hg:∀C s H fp,PG (eQ X N' scope cl C s H fp) tg g) (y8:AS X.K nT kA g) (hc:∀C s H fp,JC (eQ X N' scope cl C s H fp) lR fc) (he:∀C s H fp,JE (eQ X N' scope cl C s H fp) m4 fe)
  (hs:∀x,foldedSetIterable bM X.env x=pure x:=by intro _;rfl):
  JE X (.ListComp m4 [⟨tg,bM,lR,0⟩] scope pos) (ca fi nT cap kA fc fe):=by
 intro aa s σ H Q I h;obtain⟨B,ρ,d,b,sB,rep,e,q⟩:=h;obtain⟨am,ei,e⟩:=oX e;have hsz:am.length<=sizeLine:=Decidable.byContradiction λz=>by rw[if_neg z]at e;cases e
 rw[if_pos hsz]at e;obtain⟨ds,ec,e⟩:=oY e;cases e
 rw[eval_ListComp];refine wpAny_comprehension_free (use:=none) rfl hs S.clos S.kind S.names (bH (hi aa s σ H (λJ H2=>∃N1,Ext B N1 H H2/\mf X.K J N1 am) I ⟨B,ρ,am,sB,rep,ei,λJ H2 N1 x1 j1=>⟨N1,x1,j1⟩⟩) λv s1 h1=>bH h1 λGy s2 h2=>?_);obtain⟨it,fp,tn,J,H2,e,I2,T,fL,f2,N1,x1,j1⟩:=h2;subst e;refine kM gi S cp hg y8 hc he I2 T fL f2 (rep.mono x1.bn) x1.nh j1 hsz ec (RR:=λacc C=>compPost (model X.prog X.w) X.A X.xe none (EP X aa σ Q) acc C) ?_;intro Dd C s' H' N vs m hD I' hm fC x hN hl;refine⟨m,hm,λh' gT=>⟨.ref Dd,H',?_,rfl,q _ H' N (x1.trans x) (.lst (eP.of hN) hl) λ_=>⟨Dd,vs,ds,rfl,rfl,x1.hh.free hD,hN,hl⟩⟩⟩;obtain⟨c0,c1,c2,c3,c4,c5⟩:=fC;exact I'.turned (t':=s'.toks) (λb o hb e=>(gT.2 b hb).trans e) c0 c1 c3 c4 c5
theorem zH (gi:X.calm=true) 
  (hN:X.N.Nodup) (Fy:X.N[i]? = some y) (hy:X.env.kindOf y=some .local)
  (A8:swapsWith (.ListComp m4 [⟨tg,bM,lR,0⟩] scope pos) (some (.Name y py)) spos.line X.env=pure true)
  (S:CompSc X scope cl) (cp:jv X N' scope cl nT cap) (hi:JI X tg bM fi)
  (hg:∀C s H fp,PG (eQ X N' scope cl C s H fp) tg g) (y8:AS X.K nT kA g) (hc:∀C s H fp,JC (eQ X N' scope cl C s H fp) lR fc) (he:∀C s H fp,JE (eQ X N' scope cl C s H fp) m4 fe)
  (hs:∀x,foldedSetIterable bM X.env x=pure x:=by intro _;rfl):
  JS X (.Assign [.Name y py] (.ListComp m4 [⟨tg,bM,lR,0⟩] scope pos) spos) (b8 i (ca fi nT cap kA fc fe)):=by
 intro aa s σ H E I h;have h2:za (tD X.K (ca fi nT cap kA fc fe)) (iI i) E σ H:=sD h;obtain⟨B,ρ,d,b,sB,rep,e,q⟩:=h2;obtain⟨am,ei,e⟩:=oX e;have hsz:am.length<=sizeLine:=Decidable.byContradiction λz=>by rw[if_neg z]at e;cases e
 rw[if_pos hsz]at e;obtain⟨ds,ec,e⟩:=oY e;cases e
 rw[exec_Assign_Name_used _ _ _ _ A8];refine wX (wpAny_standAt (wX ?_));show wpAny _ _ (do let _ ←comprehension (.ListComp m4 [⟨tg,bM,lR,0⟩] scope pos) scope X.env _ (newList []) false (eval bM X.env) (some (assign (.Name y py) X.env))) _ _ s;refine wX (wpAny_mono (wpAny_comprehension_free (use:=some (assign (.Name y py) X.env)) (Q:=λ_ s'=>SP X aa E .next s') rfl hs S.clos S.kind S.names
  (bH (hi aa s σ H (λJ H2=>∃N1,Ext B N1 H H2/\mf X.K J N1 am) I ⟨B,ρ,am,sB,rep,ei,λJ H2 N1 x1 j1=>⟨N1,x1,j1⟩⟩) λv s1 h1=>bH h1 λGy s2 h2=>?_)) (λ_ s' hq=>wY (wY hq)) λ_ _ e=>e)
 obtain⟨it,fp,tn,J,H2,e,I2,T,fL,f2,N1,x1,j1⟩:=h2;subst e;refine kM gi S cp hg y8 hc he I2 T fL f2 (rep.mono x1.bn) x1.nh j1 hsz ec (RR:=λacc C=>compPost (model X.prog X.w) X.A X.xe (some (assign (.Name y py) X.env)) (λ_ s'=>SP X aa E .next s') acc C) ?_;intro Dd C s' H' N vs m hD I' hm fC x JG hl;show wpAny _ _ (assign (.Name y py) X.env (.ref Dd)) _ _ s';obtain⟨c0,c1,c2,c3,c4,c5⟩:=fC;refine wpAny_assign_Name (m8 I' hN Fy (.inl hy) (r:=show aG (.ref Dd) (.ref Dd)from rfl) (λs9 I9 ⟨a,sb,ha⟩=>?_) (.inr hy));have nC:C≠a:=by
  rcases ha with z|z
  ·rw[z];exact c1
  ·exact λw=>c4 y a z w.symm
 refine⟨m,hm.sameBut sb nC,λh' gT=>⟨_,H',?_,q _ H' N (x1.trans x) (.lst (eP.of JG) hl) λ_=>⟨Dd,vs,ds,rfl,rfl,x1.hh.free hD,JG,hl⟩⟩⟩;exact I9.turned (t':=s9.toks) (λb o hb e=>(gT.2 b hb).trans e) c0 c1 c3 c4 c5
section
variable {X:Cx}{a b c e:Expr}{pos:Pos}
theorem PE.to (h:PE X e t)(k:∀σ H Q,t' σ H Q->t σ H Q):PE X e t':=λaa s σ H Q I q=>h aa s σ H Q I (k σ H Q q)
theorem PT.to (h:PT X e t)(k:∀σ H Q,t' σ H Q->t σ H Q):PT X e t':=λaa s σ H Q I q=>h aa s σ H Q I (k σ H Q q)
theorem PW.to (h:PW X e t)(k:∀σ H Q,t' σ H Q->t σ H Q):PW X e t':=λwh aa s σ H Q I q=>h wh aa s σ H Q I (k σ H Q q)
theorem PA.to (h:PA X es t)(k:∀σ H Q,t' σ H Q->t σ H Q):PA X es t':=λpos aa s σ H Q I q=>h pos aa s σ H Q I (k σ H Q q)
theorem PS.to {st:Stmt}{t t':TS}(h:PS X st t)(k:∀E σ H,t' E σ H->t E σ H):PS X st t':=λaa s σ H E I q=>h aa s σ H E I (k E σ H q)
theorem nL.to {st:List Stmt}{t t':TS}(h:nL X st t)(k:∀E σ H,t' E σ H->t E σ H):nL X st t':=λaa s σ H E I q=>h aa s σ H E I (k E σ H q)
theorem PI.to (h:PI X tg it t)(k:∀σ H Q,t' σ H Q->t σ H Q):PI X tg it t':=λaa s σ H Q I q=>h aa s σ H Q I (k σ H Q q)
theorem ux {K:Frag}{d:D}{v:V}(i:∀B,Is K B v d){σ:St}{H:Hp}{Q:VK}(h:tD K (fC d) σ H Q):tC v σ H Q:=by
 obtain⟨B,ρ,d',b,s,r,e,q⟩:=h;cases e
 exact q.one s (i B)
theorem af (i:Nat)(hN:X.N[i]? = some x:=by rfl)(hv:yE X.env.scope x:=by first|exact Or.inl rfl|exact Or.inr (Or.inl rfl)|exact Or.inr (Or.inr rfl))(hd:(x == ("__debug__" : Str))=false:=by decide)
  (jX:(x == ("__classdict__" : Str))=false:=by decide):JE X (.Name x pos) (ag i):=PE.to (jx hN hv hd jX) λ_ _ _ h=>Cj h
theorem ak:JE X (.Constant (.int i) j pos) (fC (.int i)):=PE.to B7 λ_ _ _ h=>ux (λ_=>.int i) h
theorem fu:JE X (.Constant (.bool i) j pos) (fC (.bl i)):=PE.to DM λ_ _ _ h=>ux (λ_=>.bl i) h
theorem fO:JE X (.Constant .none j pos) (fC .non):=PE.to B8 λ_ _ _ h=>ux (λ_=>.non) h
theorem aA:JE X (.Constant (.str x) j pos) (fC (.str x)):=PE.to B9 λ_ _ _ h=>ux (λ_=>.str x) h
theorem zI (hg:Gl X x)(hm:X.mg x=some u)(r:aG v u)(i:∀B,Is X.K B v d)(hd:(x == ("__debug__" : Str))=false:=by decide):JE X (.Name x pos) (fC d):=PE.to (kn hg hm r hd) λ_ _ _ h=>ux i h
theorem aq (ho:bY X (binaryOp op) (rD X.K f))(ha:JE X a fa)(hb:JE X b fb):JE X (.BinOp a op b pos) (f2 f fa fb):=PE.to (Ec ho ha hb) λ_ _ _ h=>zx h
theorem eU (ho:bY X (compareOp op) (rD X.K f))(ha:JE X a fa)(hb:JE X b fb)(hm:behindInMarks op b=false:=by first|exact kE _ (by decide) (by decide)|rfl):JE X (.Compare a [op] [b] pos) (f2 f fa fb):=PE.to (zg ho ha hb hm) λ_ _ _ h=>zx h
theorem nY {K:Frag}{f:FE}{σ:St}{H:Hp}{Q:Bool->Hp->Prop}(h:ut K (br f) σ H Q):tD K f σ H λx H'=>∃k,x=.bl k/\Q k H':=by
 obtain⟨B,ρ,c,s,r,e,q⟩:=h;unfold br at e;split at e
 ·rename_i c' b' ef;cases e
  refine⟨B,ρ,.bl c,b',s,r,ef,λv H' N x i _=>?_⟩;cases i
  exact⟨c,rfl,q H' x.hh⟩
 ·cases e
theorem aI (ho:bY X (compareOp op) (rD X.K f))(ha:JE X a fa)(hb:JE X b fb)(hm:behindInMarks op b=false:=by first|exact kE _ (by decide) (by decide)|rfl):JT X (.Compare a [op] [b] pos) (br (f2 f fa fb)) :=
 PT.to (sr ho ha hb hm) λ_ _ _ h=>zx (nY h)
theorem bO (h:JE X e f)(he:∀lO,isTrue e X.env lO=(do let v ←lO;standAt e.pos;holding [v] (truthy v)):=by intro _;rfl):JT X e (br f):=PT.to (BA h he) λ_ _ _ q=>nY q
@[simp] noncomputable def dS (f g:D->D->OB)(fa fb fc:FE):FE:=λρ=>(fa ρ).bind λx=>(fb ρ).bind λy=>match f x.1 y.1 with
 |some (.bl true,_)=>(fc ρ).bind λz=>g y.1 z.1
 |some (.bl false,_)=>some (.bl false,false)
 |_=>none
theorem pb {K:Frag}{f g:D->D->OB}{fa fb fc:FE}{σ:St}{H:Hp}{Q:VK}(h:tD K (dS f g fa fb fc) σ H Q):qJ (rD K f) (rD K g) (tD K fa) (tD K fb) (tD K fc) σ H Q:=by
 obtain⟨B,ρ,d,b,s,r,e,q⟩:=h;obtain⟨x,ex,e⟩:=oX e;obtain⟨y,ey,e⟩:=oX e;refine⟨B,ρ,x.1,x.2,s,r,ex,λv H1 N1 x1 i1 _=>⟨N1,ρ,y.1,y.2,x1.nh,r.mono x1.bn,ey,λv2 H2 N2 x2 i2 _=>?_⟩⟩;split at e
 ·rename_i b' ef;obtain⟨z,ez,e⟩:=oX e;refine⟨N2,x.1,y.1,.bl true,b',x2.nh,i1.mono x2.bn,i2,ef,λv3 H3 N3 x3 i3 _=>?_⟩;cases i3
  refine⟨true,rfl,?_⟩;rw[if_pos rfl];refine⟨N3,ρ,z.1,z.2,x3.nh,r.mono (x1.bn.trans (x2.bn.trans x3.bn)),ez,λv4 H4 N4 x4 i4 _=>⟨N4,y.1,z.1,d,b,x4.nh,i2.mono (x3.bn.trans x4.bn),i4,e,?_⟩⟩;exact q.into ((x1.trans x2).trans (x3.trans x4))
 ·rename_i b' ef;cases e
  refine⟨N2,x.1,y.1,.bl false,b',x2.nh,i1.mono x2.bn,i2,ef,λv3 H3 N3 x3 i3 _=>?_⟩;cases i3
  refine⟨false,rfl,?_⟩;rw[if_neg (by decide)];exact(q.into ((x1.trans x2).trans x3)).one x3.nh (.bl false)
 ·cases e
theorem pc (ho:bY X (compareOp op) (rD X.K f))(se:bY X (compareOp vp) (rD X.K g))(ha:JE X a fa)(hb:JE X b fb)(hc:JE X c fc)
  (hm:lastMarks [op,vp] [b,c]=false:=by with_unfolding_all rfl):JE X (.Compare a [op,vp] [b,c] pos) (dS f g fa fb fc):=PE.to (wk ho se ha hb hc hm) λ_ _ _ h=>pb h
theorem pd (ho:bY X (compareOp op) (rD X.K f))(se:bY X (compareOp vp) (rD X.K g))(ha:JE X a fa)(hb:JE X b fb)(hc:JE X c fc)
  (hm:lastMarks [op,vp] [b,c]=false:=by with_unfolding_all rfl):JT X (.Compare a [op,vp] [b,c] pos) (br (dS f g fa fb fc)):=PT.to (wl ho se ha hb hc hm) λ_ _ _ h=>pb (nY h)
theorem zJ {K:Frag}{f g:FT}{σ:St}{H:Hp}{Q:Bool->Hp->Prop}(h:ut K (gV f g) σ H Q):DN (ut K f) (ut K g) σ H Q:=by
 obtain⟨B,ρ,c,s,r,e,q⟩:=h;unfold gV at e;cases ef:f ρ with
 |none=>rw[ef]at e;cases e
 |some k=>
  rw[ef]at e;refine⟨B,ρ,k,s,r,ef,λH1 h1=>?_⟩;cases k with
  |true=>rw[if_pos rfl];exact⟨B,ρ,c,s.trans h1,r,e,λH2 h2=>q H2 (h1.trans h2)⟩
  |false=>rw[if_neg (by decide)];cases e;exact q H1 h1
theorem Co {K:Frag}{f g:FT}{σ:St}{H:Hp}{Q:Bool->Hp->Prop}(h:ut K (cw f g) σ H Q):Jb (ut K f) (ut K g) σ H Q:=by
 obtain⟨B,ρ,c,s,r,e,q⟩:=h;unfold cw at e;cases ef:f ρ with
 |none=>rw[ef]at e;cases e
 |some k=>
  rw[ef]at e;refine⟨B,ρ,k,s,r,ef,λH1 h1=>?_⟩;cases k with
  |false=>rw[if_neg (by decide)];exact⟨B,ρ,c,s.trans h1,r,e,λH2 h2=>q H2 (h1.trans h2)⟩
  |true=>rw[if_pos rfl];cases e;exact q H1 h1
theorem zK {K:Frag}{f:FT}{σ:St}{H:Hp}{Q:Bool->Hp->Prop}(h:ut K (bZ f) σ H Q):DO (ut K f) σ H Q:=by
 obtain⟨B,ρ,c,s,r,e,q⟩:=h;obtain⟨k,ek,e⟩:=oY e;subst e;exact⟨B,ρ,k,s,r,ek,λH1 h1=>q H1 h1⟩
variable {rest:List Expr}
theorem nZ (ha:JT X a f):JW X (.BoolOp .And [a] pos) f:=yX ha
theorem cD (ha:JT X a f):JW X (.BoolOp .Or [a] pos) f:=BB ha
theorem oe (ha:JT X a f)(hb:JW X (.BoolOp .And (b::rest) pos) g):JW X (.BoolOp .And (a::b::rest) pos) (gV f g):=PW.to (BC ha hb) λ_ _ _ h=>zJ h
theorem cR (ha:JT X a f)(hb:JW X (.BoolOp .Or (b::rest) pos) g):JW X (.BoolOp .Or (a::b::rest) pos) (cw f g):=PW.to (DQ ha hb) λ_ _ _ h=>Co h
theorem gk (h:JW X e f):JT X e f:=h.pt
theorem cb (ha:JT X a f):JT X (.UnaryOp .Not a pos) (bZ f):=PT.to (BD ha) λ_ _ _ h=>zK h
@[simp] noncomputable def j4 (f g:FE):FE:=λρ=>match f ρ with|some (.bl true,_)=>g ρ|some (.bl false,_)=>some (.bl false,false)|_=>none
@[simp] noncomputable def Cp (f g:FE):FE:=λρ=>match f ρ with|some (.bl true,_)=>some (.bl true,false)|some (.bl false,_)=>g ρ|_=>none
@[simp] noncomputable def wK (f:FE):FE:=λρ=>match f ρ with|some (.bl c,_)=>some (.bl (!c),false)|_=>none
theorem fP (ha:JE X a f)(hb:JE X (.BoolOp .And (b::rest) pos) g):JE X (.BoolOp .And (a::b::rest) pos) (j4 f g):=PE.to (BF ha hb) λσ H Q h=>by
 obtain⟨B,ρ,d,k,s,r,e,q⟩:=h;unfold j4 at e;split at e
 ·rename_i b' ef;refine⟨B,ρ,_,_,s,r,ef,λv H1 N1 x1 i1 _=>?_⟩;cases i1
  refine⟨true,rfl,?_⟩;rw[if_pos rfl];exact⟨N1,ρ,d,k,x1.nh,r.mono x1.bn,e,q.into x1⟩
 ·rename_i b' ef;cases e
  refine⟨B,ρ,_,_,s,r,ef,λv H1 N1 x1 i1 _=>?_⟩;cases i1
  refine⟨false,rfl,?_⟩;rw[if_neg (by decide)];exact(q.into x1).one x1.nh (.bl false)
 ·cases e
theorem wL (ha:JE X a f)(hb:JE X (.BoolOp .Or (b::rest) pos) g):JE X (.BoolOp .Or (a::b::rest) pos) (Cp f g):=PE.to (DT ha hb) λσ H Q h=>by
 obtain⟨B,ρ,d,k,s,r,e,q⟩:=h;unfold Cp at e;split at e
 ·rename_i b' ef;cases e
  refine⟨B,ρ,_,_,s,r,ef,λv H1 N1 x1 i1 _=>?_⟩;cases i1
  refine⟨true,rfl,?_⟩;rw[if_pos rfl];exact(q.into x1).one x1.nh (.bl true)
 ·rename_i b' ef;refine⟨B,ρ,_,_,s,r,ef,λv H1 N1 x1 i1 _=>?_⟩;cases i1
  refine⟨false,rfl,?_⟩;rw[if_neg (by decide)];exact⟨N1,ρ,d,k,x1.nh,r.mono x1.bn,e,q.into x1⟩
 ·cases e
theorem eV (h:JE X a f):JE X (.BoolOp op [a] pos) f:=BE h
theorem Cq (ha:JE X a f):JE X (.UnaryOp .Not a pos) (wK f):=PE.to (BG ha) λσ H Q h=>by
 obtain⟨B,ρ,d,k,s,r,e,q⟩:=h;unfold wK at e;split at e
 ·rename_i c b' ef;cases e
  refine⟨B,ρ,_,_,s,r,ef,λv H1 N1 x1 i1 _=>?_⟩;cases i1
  exact⟨c,rfl,(q.into x1).one x1.nh (.bl _)⟩
 ·cases e
variable {es:List Expr}
theorem ai:JA X [] ah:=PA.to fN λ_ _ _ h=>z0 h
theorem aj (ha:JE X e f)(hr:JA X es g)(hs:starEach (e::es) X.env=(false,eval e X.env)::starEach es X.env:=by rfl):JA X (e::es) (ae f g):=PA.to (dG ha hr hs) λ_ _ _ h=>wC h
@[simp] noncomputable def bN:List D->OB:=λds=>if ds.length<=sizeLine then some (.tup ds,false)else none
@[simp] noncomputable def aS:List D->OB:=λds=>if ds.length<=sizeLine then some (.lst ds,true)else none
theorem bP {x1}(h:JA X es f):JE X (.Tuple es x1 pos) (fA bN f):=PE.to (BY h) λσ H Q q=>by
 obtain⟨B,ρ,ds,s,r,e,k⟩:=zy q;refine⟨B,ρ,ds,s,r,e,λvs H1 N1 x1 i1=>?_⟩;obtain⟨B2,JH,d,b,s2,i2,e2,k2⟩:=k vs H1 N1 x1 i1;unfold bN at e2;split at e2
 ·rename_i hz;cases e2
  refine⟨by rw[i2.length];exact hz,λp hp=>k2 _ _ (upd B2 p (.tup vs)) (.laid s2 hp) (.tup (fg.of au) (i2.mono (Ext.laid s2 hp).bn)) (by simp)⟩
 ·cases e2
theorem bJ (h:JA X es f):JE X (.List es pos) (fA aS f):=PE.to (BZ h) λσ H Q q=>by
 obtain⟨B,ρ,ds,s,r,e,k⟩:=zy q;refine⟨B,ρ,ds,s,r,e,λvs H1 N1 x1 i1=>?_⟩;obtain⟨B2,JH,d,b,s2,i2,e2,k2⟩:=k vs H1 N1 x1 i1;unfold aS at e2;split at e2
 ·rename_i hz;cases e2
  refine⟨by rw[i2.length];exact hz,λp hp=>k2 _ _ (upd B2 p (.lst vs)) (.laid s2 hp) (.lst (eP.of au) (i2.mono (Ext.laid s2 hp).bn)) λ_=>⟨p,vs,JH,rfl,rfl,hp,au,i2.mono (Ext.laid s2 hp).bn⟩⟩
 ·cases e2
end
section
variable {X:Cx}
theorem gs (h:bY X f r)(k:∀x y H Q,r' x y H Q->r x y H Q):bY X f r':=λaa s σ H x y v u Q I rx ry q=>h aa s σ H x y v u Q I rx ry (k x y H Q q)
noncomputable def yI (f g:D->D->OB):D->D->OB:=λx y=>match f x y with|some r=>some r|none=>g x y
theorem kN (h:bY X s (rD X.K f))(h':bY X s (rD X.K g)):bY X s (rD X.K (yI f g)):=by
 intro aa st σ H x y v u Q I rx ry q;obtain⟨B,dx,dy,d,b,sB,ix,iy,e,q⟩:=q;unfold yI at e;split at e
 ·rename_i r ef;cases e
  exact h aa st σ H x y v u Q I rx ry ⟨B,dx,dy,_,_,sB,ix,iy,ef,q⟩
 ·exact h' aa st σ H x y v u Q I rx ry ⟨B,dx,dy,_,_,sB,ix,iy,e,q⟩
@[simp] noncomputable def pe (C:Int->Int->Bool)(g:Int->Int->D):D->D->OB
 |.int i,.int j=>if C i j=true then some (g i j,false)else none
 |_,_=>none
theorem iO (h:bY X s (rI C g))(hC:∀i j,C' i j=true->C i j)(hg:∀i j B,Is X.K B (g i j) (g' i j)):bY X s (rD X.K (pe C' g')):=by
 refine gs h λx y H Q q=>?_;obtain⟨B,dx,dy,d,b,sB,ix,iy,e,q⟩:=q;cases ix<;>try (cases e;done)
 cases iy<;>try (cases e;done)
 rename_i i j;simp only[pe]at e;split at e
 ·rename_i hc;cases e
  exact⟨i,j,rfl,rfl,hC i j hc,q.one sB (hg i j B)⟩
 ·cases e
theorem fw (h:bY X s (zc g))(hg:∀i j B,Is X.K B (g i j) (g' i j)):bY X s (rD X.K (pe (λ_ _=>true) g')):=by
 refine gs h λx y H Q q=>?_;obtain⟨B,dx,dy,d,b,sB,ix,iy,e,q⟩:=q;cases ix<;>try (cases e;done)
 cases iy<;>try (cases e;done)
 rename_i i j;simp only[pe,if_true]at e;cases e
 exact⟨i,j,rfl,rfl,q.one sB (hg i j B)⟩
abbrev Cr:D->D->OB:=pe (λ_ _=>true) λi j=>.int (i+j)
abbrev Cs:D->D->OB:=pe (λ_ _=>true) λi j=>.int (i - j)
abbrev E2:D->D->OB:=pe (λi j=>decide ((-18446744073709551616<i/\i<18446744073709551616)∨(-18446744073709551616<j/\j<18446744073709551616))) λi j=>.int (i*j)
abbrev bt:D->D->OB:=pe (λ_ j=>decide (0<j/\j<1073741824)) λi j=>.int (i / j)
abbrev aP:D->D->OB:=pe (λ_ j=>decide (0<j)) λi j=>.int (i % j)
abbrev Ct:D->D->OB:=pe (λi j=>decide (0<=j/\j<=1000000/\i.natAbs<18446744073709551616)) λi j=>.int (i ^ j.toNat)
abbrev Jk:D->D->OB:=pe (λ_ _=>true) λi j=>.bl (decide (i<j))
abbrev Hh:D->D->OB:=pe (λ_ _=>true) λi j=>.bl (decide (i<=j))
abbrev Dz:D->D->OB:=pe (λ_ _=>true) λi j=>.bl (decide (j<i))
abbrev Jl:D->D->OB:=pe (λ_ _=>true) λi j=>.bl (decide (j<=i))
theorem E3:bY X (binaryOp .Add) (rD X.K Cr):=fw BR λ_ _ _=>.int _
theorem AT:bY X (binaryOp .Sub) (rD X.K Cs):=fw BS λ_ _ _=>.int _
theorem E6:bY X (binaryOp .Mult) (rD X.K E2):=iO BU (λi j h=>by have h:=of_decide_eq_true h;unfold ze;omega) λ_ _ _=>.int _
theorem bj:bY X (binaryOp .FloorDiv) (rD X.K bt):=iO zf (λi j h=>by have h:=of_decide_eq_true h;unfold Ef;omega) λ_ _ _=>.int _
theorem bq:bY X (binaryOp .Mod) (rD X.K aP):=iO BV (λ_ _ h=>of_decide_eq_true h) λ_ _ _=>.int _
theorem E7:bY X (binaryOp .Pow) (rD X.K Ct):=iO BW (λi j h=>by have h:=of_decide_eq_true h;unfold Eg;omega) λ_ _ _=>.int _
theorem Hj:bY X (compareOp .Lt) (rD X.K Jk):=fw Eh λ_ _ _=>.bl _
theorem Hk:bY X (compareOp .LtE) (rD X.K Hh):=fw Ei λ_ _ _=>.bl _
theorem Cu:bY X (compareOp .Gt) (rD X.K Dz):=fw Ej λ_ _ _=>.bl _
theorem Hl:bY X (compareOp .GtE) (rD X.K Jl):=fw Ek λ_ _ _=>.bl _
@[simp] noncomputable def D0 (C:Str->Str->Bool)(g:Str->Str->D):D->D->OB
 |.str i,.str j=>if C i j=true then some (g i j,false)else none
 |_,_=>none
abbrev zL:D->D->OB:=D0 (λi j=>decide (i.length+j.length<=sizeLine)) λi j=>.str (i++j)
abbrev Gi:D->D->OB:=D0 (λ_ _=>true) λi j=>.bl (!decide (j.cps.toList<i.cps.toList))
theorem Cv:bY X (binaryOp .Add) (rD X.K zL):=by
 refine gs qK λx y H Q q=>?_;obtain⟨B,dx,dy,d,b,sB,ix,iy,e,q⟩:=q;cases ix<;>try (cases e;done)
 cases iy<;>try (cases e;done)
 rename_i i j;simp only[zL,D0]at e;split at e
 ·rename_i hc;cases e
  exact⟨i,j,rfl,rfl,of_decide_eq_true hc,q.one sB (.str _)⟩
 ·cases e
theorem E8:bY X (compareOp .LtE) (rD X.K Gi):=by
 intro aa s σ H x y v u Q I rx ry q;obtain⟨B,dx,dy,d,b,sB,ix,iy,e,q⟩:=q;cases ix<;>try (cases e;done)
 cases iy<;>try (cases e;done)
 rename_i i j;simp only[Gi,D0,if_true]at e;cases e
 obtain⟨t,rfl⟩:=rx;obtain⟨t',rfl⟩:=ry;exact PySem.P.le_str ⟨.bl _,H,I,rfl,q.one sB (.bl _)⟩
end
section
variable {X:Cx}{a b c e:Expr}{pos:Pos}{st:Stmt}{rest:List Stmt}
theorem fQ:oI X [] aY:=nL.to yY λ_ _ _ h=>wF h
theorem al (h1:JS X st g)(h2:oI X rest h):oI X (st::rest) (aC g h):=nL.to (wc h1 h2) λ_ _ _ q=>z4 q
theorem bu (h1:JS X st g):oI X [st] g:=yZ h1
theorem gW {c:Expr}{a b:List Stmt}{fc:FT}{g h:FS}(hc:JT X c fc)(ha:oI X a g)(hb:oI X b h):JS X (.If c a b pos) (eL fc g h):=PS.to (DX hc ha hb) λ_ _ _ q=>Ck q
theorem wM (he:JE X e f):JS X (.Return (some e) pos) (aW f):=PS.to (we he) λ_ _ _ q=>z5 q
theorem kr (i:Nat)(hN:X.N[i]? = some x:=by rfl)(hv:yE X.env.scope x:=by first|exact Or.inl rfl|exact Or.inr (Or.inl rfl)|exact Or.inr (Or.inr rfl))(hd:(x == ("__debug__" : Str))=false:=by decide)
  (jX:(x == ("__classdict__" : Str))=false:=by decide):JS X (.Return (some (.Name x p)) pos) (iM i):=PS.to (we (jx hN hv hd jX)) λ_ _ _ q=>wG q
theorem aR (hN:X.N.Nodup)(he:JE X e f)(hi:X.N[i]? = some x:=by rfl)(hx:B6 X.env.scope x:=by first|exact Or.inl rfl|exact Or.inr rfl)(hs:swapsWith e (some (.Name x p)) pos.line X.env=pure false:=by rfl)
  (hf:X.fn x=true∨X.env.scope.names.lookup x=some .local:=by first|exact .inl rfl|exact .inr rfl):JS X (.Assign [.Name x p] e pos) (b8 i f):=PS.to (BN hN hi hx he hs hf) λ_ _ _ q=>sD q
theorem Cw (hp:PassesOwn (model X.prog X.w) X.A X.env X.xe)(hc:X.calm=true)(hi:JI X tg bM fi)(hg:PG X tg t)(ht:z7 X.K kA t)(hb:oI X body g)
  (hs:∀x,foldedSetIterable bM X.env x=pure x:=by intro _;rfl):JS X (.For tg bM body [] pos) (iN fi kA g):=PS.to (wj hp hc hi hg hb hs) λ_ _ _ q=>z8 ht q
theorem zM (hp:PassesOwn (model X.prog X.w) X.A X.env X.xe)(hc:X.calm=true)(hi:PI X tg bM (Gh X.K fi))(hg:PG X tg t)(ht:z7 X.K kA t)(hb:oI X body g)
  (hs:∀x,foldedSetIterable bM X.env x=pure x:=by intro _;rfl):JS X (.For tg bM body [] pos) (jJ fi kA g):=PS.to (wj hp hc hi hg hb hs) λ_ _ _ q=>wJ ht q
theorem ik (he:JE X e f)(hN:X.N[i]? = some x:=by rfl)(hv:yE X.env.scope x:=by first|exact Or.inl rfl|exact Or.inr (Or.inl rfl)|exact Or.inr (Or.inr rfl))(hd:(x == ("__debug__" : Str))=false:=by decide)
  (jX:(x == ("__classdict__" : Str))=false:=by decide)
  (fH:attributeBase (.Name x p) "append" X.env (eval (.Name x p) X.env)=eval (.Name x p) X.env:=by rfl)
  (oG:((backTo c9 (starEach [e] X.env)).all (λx=>!x.1) && (backToKw c9 (keywordEach [] X.env)).all (λx=>x.1.isSome)
   && decide ([e].length+([]:List Keyword).length+(if([]:List Keyword).isEmpty then 0 else 1)<30))=true:=by rfl)
  (fJ:(dM.endLine == c9.line)=true:=by rfl) (hs:starEach [e] X.env=[(false,eval e X.env)]:=by rfl) (A8:swapsWith (.Call (.Attribute (.Name x p) "append" dM) [e] [] c9) none pos.line X.env=pure false:=by rfl):
  JS X (.Expr (.Call (.Attribute (.Name x p) "append" dM) [e] [] c9) pos) (ie i f):=by
 refine PS.to (nM (sA PySem.F.plainAttrs_list PySem.F.slot_list_append PySem.F.type_list_append mG (jx hN hv hd jX) (dG he fN hs) fH oG fJ hs rfl) A8) λE σ H q=>?_;obtain⟨a,us,h1,h2,k⟩:=z6 q;exact⟨_,h1,.inl ⟨rfl,us,eP.of h2⟩,k⟩
end
@[simp] noncomputable def aL (g:FS)(n k:Nat):List D->OB:=λds=>if ds.length=n then
 match g (ds.map (λd=>some (d,false))++List.replicate k none) with
 |some (.rt d b)=>some (d,b)
 |some (.nx _)=>some (.non,false)
 |_=>none
 else none
def AU (K:Frag)(f:List D->OB):Sp:=λvs H Q _=>∃(B:Hp)(ds:List D)(d:D)(b:Bool),(aF B H/\Tb K B)/\IsL K B vs ds/\f ds=some (d,b)/\Fin K B H d b Q
theorem pf {K:Frag}{B H:Hp}{vs:List V}{ds:List D}{N:List Str}(sB:aF B H)(tb:Tb K B)(i:IsL K B vs ds):c6 K B H B H (L2.gf N vs) (ds.map (λd=>some (d,false))++List.replicate (N.length - vs.length) none):=by
 have nf:∀(j:Nat)(d:D)(b:Bool),(ds.map (λd=>some (d,false))++List.replicate (N.length - vs.length) none:Env)[j]? = some (some (d,b))->b=false/\ds[j]? = some d:=λj d b e=>by
  by_cases hj:j<ds.length
  ·rw[List.getElem?_append_left (by simpa using hj),vA]at e;obtain⟨d',h1,h2⟩:=oY e;cases h2
   exact⟨rfl,h1⟩
  ·rw[List.getElem?_append_right (by simpa using Nat.not_lt.mp hj),List.getElem?_replicate]at e;split at e<;>cases e
 have no:∀a,¬own (L2.gf N vs) (ds.map (λd=>some (d,false))++List.replicate (N.length - vs.length) none) a:=λa ⟨j,d,h,_⟩=>by
  obtain⟨z,_⟩:=nf j d true h;cases z
 refine⟨sB,tb,.refl sB,?_,λj d e=>?_,λj d e=>?_,λj k a d e h=>?_⟩
 ·unfold L2.gf;rw[uZ,uZ,vH,vH,List.length_replicate,List.length_replicate,i.length]
 ·obtain⟨_,e1⟩:=nf j d false e;obtain⟨v,h1,h2⟩:=i.get e1;refine⟨v,?_,h2.mono λa o e=>by rw[bI (no a)];exact e⟩;unfold L2.gf;have hj:j<vs.length:=(vV h1).1;rw[List.getElem?_append_left (by simpa using hj),vA,h1]<;>rfl
 ·obtain⟨z,_⟩:=nf j d true e;cases z
 ·obtain⟨z,_⟩:=nf j d true h;cases z
section
variable {P:Program}{w:World}{K:Frag}{mg:Str->Option Value}{base:Heap}
theorem E9 {x qual:Str}{st:Stmt}{f:Addr}{fd:FuncData}{N ps:List Str}{k:Nat}{g:FS}(F:CY K x qual st f fd)(S:FnScope N ps (ay st))
  (hb:∀(cz:Value)(A:Around)(outer:List PySem.Env)(s:Shared)(H:Hp)(E:XK),dz k (A.deeper (envOfC qual (ay st) s.heap.objs.size f cz))->oI (jY qT P w K mg base N qual (ay st) f cz A outer s H E).nox (bD st) g):
  jG P w K mg base qT (k+1) f fd ps (AU K (aL g ps.length (N.length - ps.length))):=by
 have len:∀vs H Q E,AU K (aL g ps.length (N.length - ps.length)) vs H Q E->vs.length=ps.length:=λvs H Q E h=>by
  obtain⟨B,ds,d,b,sB,i,e,q⟩:=h;unfold aL at e;split at e
  ·rename_i hl;rw[i.length];exact hl
  ·cases e
 refine F.ok S len λcz A outer s H vs Q E hr h=>⟨_,hb cz A outer s H E hr,?_⟩;have bp:=len vs H Q E h;obtain⟨B,ds,d,b,sB,i,e,q⟩:=h;unfold aL at e;rw[if_pos (by rw[←i.length];exact bp)]at e;have s0:=pf (N:=N) sB.1 sB.2 i;rw[bp]at s0;split at e
 ·rename_i d' b' eg;cases e
  exact⟨B,H,_,_,⟨B,s0⟩,eg,λv H' N' x' i' f'=>q v H' N' x' i' f'⟩
 ·rename_i ρ' eg;cases e
  exact⟨B,H,_,_,⟨B,s0⟩,eg,λσ' H' ⟨N',s'⟩=>q .non H' N' s'.ext .non (by simp)⟩
 ·cases e
structure Fn (P:Program)(w:World)(K:Frag)(mg:Str->Option Value)(base:Heap)(k:Nat)(x:Str)(f:List D->OB):Prop where
 ex:∃(ad:Addr)(fd:FuncData)(ps:List Str),jG P w K mg base qT k ad fd ps (AU K f)/\mg x=some (.ref ad)/\PySem.W.keepIn K (.ref ad)=true/\m9 K fd ps []
theorem Fn.eq (F:Fn P w K mg base k x f)(h:∀ds r,f' ds=some r->f ds=some r):Fn P w K mg base k x f':=by
 obtain⟨ad,fd,ps,F1,h2⟩:=F.ex;exact⟨ad,fd,ps,F1.imp λvs H Q E ⟨B,ds,d,b,sB,i,e,q⟩=>⟨B,ds,d,b,sB,i,h _ _ e,q⟩,h2⟩
end
theorem sG (F:Fn X.prog X.w X.K X.mg X.base k x f)(hr:dz k X.A)(ha:JA X (e::es) fa)(hg:Gl X x:=by rfl)
  (qC:(x == ("__debug__" : Str))=false:=by decide) (he:starEach (e::es) X.env=(false,eval e X.env)::starEach es X.env:=by rfl) (kz:(backTo pos (starEach es X.env)).any (·.1)=false:=by rfl):
  JE X (.Call (.Name x p) (e::es) [] pos) (fA f fa):=by
 obtain⟨ad,fd,ps,F1,hm,hk,hb⟩:=F.ex;refine PE.to (zi F1 hr hg hm hk hb .nil Et ha qC he kz) λσ H Q q=>?_;obtain⟨B,ρ,d,b,s,r,e,q⟩:=q;obtain⟨ds,ex,e⟩:=oX e;exact⟨B,ρ,ds,s,r,ex,λvs H1 N1 x1 i1=>by
  show AU X.K f (vs++[]) H1 Q _;rw[uQ];exact⟨N1,ds,d,b,⟨x1.nh,r.tb.mono x1.bn⟩,i1,e,q.into x1⟩⟩
mutual
@[simp] def cm:D->D->Bool
 |.non,.non=>true
 |.bl a,.bl b=>a == b
 |.bl a,.int b=>decide ((if a then 1 else 0)=b)
 |.int a,.bl b=>decide (a=(if b then 1 else 0))
 |.int a,.int b=>decide (a=b)
 |.str a,.str b=>decide (a=b)
 |.tup xs,.tup ys=>gl xs ys
 |.lst xs,.lst ys=>gl xs ys
 |_,_=>false
@[simp] def gl:List D->List D->Bool
 |[],[]=>true
 |x::xs,y::ys=>cm x y && gl xs ys
 |_,_=>false
end
@[simp] theorem ph (a:Str)(b:Str):cm (.str a) (.str b)=decide (a=b):=by simp only[cm]
@[simp] noncomputable def aJ:Nat->D->Bool
 |_,.non=>true
 |_,.bl _=>true
 |_,.int _=>true
 |_,.str _=>true
 |_,.ty _=>false
 |_,.dk _ _=>false
 |_,.dt _ _=>false
 |0,.tup _=>false
 |0,.lst _=>false
 |n+1,.tup ds=>ds.all (aJ n)
 |n+1,.lst ds=>ds.all (aJ n)
theorem pi:∀ {xs ys:List D},gl xs ys=true->xs.length=ys.length
 |[],[],_=>rfl
 |x::xs,y::ys,h=>by
  simp only[gl,vC]at h;rw[vD,vD,pi h.2]
 |[],_::_,h=>by simp[gl]at h
 |_::_,[],h=>by simp[gl]at h
theorem sI (h:xs.length≠ys.length):gl xs ys=false:=by
 cases e:gl xs ys with
 |false=>rfl
 |true=>exact absurd (pi e) h
theorem io (f:Nat->Bool):∀ {xs ys:List D},xs.length=ys.length->(∀(j:Nat) x y,xs[j]? = some x->ys[j]? = some y->f j=cm x y)->(List.range xs.length).all f=gl xs ys
 |[],[],_,_=>by simp[gl]
 |x::xs,y::ys,hl,h=>by
  have e:=io (λj=>f (j+1)) (xs:=xs) (ys:=ys) (by simpa using hl) λj a b h1 h2=>h (j+1) a b (by simpa using h1) (by simpa using h2);rw[vD,List.range_succ_eq_map,List.all_cons,List.all_map,gl,←h 0 x y rfl rfl,←e];rfl
 |[],_::_,hl,_=>by simp at hl
 |_::_,[],hl,_=>by simp at hl
section
variable {X:Cx}{aa:List (Addr×Obj)}{σ:St}{H:Hp}{s:Shared}
theorem sJ (I:Inv X aa σ H s)(h1:fg X.K H a vs)(h2:eP X.K H a ws):False:=by
 obtain⟨its,_,⟨o,e,c,_⟩,_⟩:=I.tuple h1;obtain⟨its',_,⟨o',n',e',c',_⟩,_⟩:=I.list h2;rw[e]at e';cases e';rw[c]at c';injection c' with z;exact absurd z (by decide)
theorem sK (I:Inv X aa σ H s)(e:s.heap.get? a=some o)(d:o.data=.seq its n):(∀aZ ob,H a≠some (.dK aZ ob))/\∀aZ,H a≠some (.dT aZ):=by
 refine⟨λaZ ob h=>?_,λaZ h=>?_⟩
 ·obtain⟨_,_,_,_,_,o',es,ep,e',_,d',_⟩:=(show bC X.prog X.w H s.heap a (.dK aZ ob)from I.hok a _ h);rw[e]at e';cases e';rw[d]at d';cases d'
 ·obtain⟨_,_,_,_,o',es,ep,e',_,d',_⟩:=(show bC X.prog X.w H s.heap a (.dT aZ)from I.hok a _ h);rw[e]at e';cases e';rw[d]at d';cases d'
theorem pq (I:Inv X aa σ H s)(h1:fg X.K H a vs):(∀aZ ob,H a≠some (.dK aZ ob))/\∀aZ,H a≠some (.dT aZ):=by
 obtain⟨its,_,⟨o,e,c,n,d⟩,_⟩:=I.tuple h1;exact sK I e d
theorem pr (I:Inv X aa σ H s)(h1:eP X.K H a vs):(∀aZ ob,H a≠some (.dK aZ ob))/\∀aZ,H a≠some (.dT aZ):=by
 obtain⟨its,_,p,_⟩:=I.list h1;obtain⟨o,e,c,n,d⟩:=p.isList;exact sK I e d
theorem sL (I:Inv X aa σ H s):∀(n:Nat){v:V}{d d':D},Is X.K H v d->Is X.K H v d'->aJ n d=true->cm d d'=true:=by
 have lists:∀ {p:D->Bool}(ih:∀ {v:V}{d d':D},Is X.K H v d->Is X.K H v d'->p d=true->cm d d'=true) {vs:List V}{ds wa:List D},IsL X.K H vs ds->IsL X.K H vs wa->ds.all p=true->gl ds wa=true:=by
  intro p ih vs;induction vs with
  |nil=>intro ds wa h h' _;cases h;cases h';simp[gl]
  |cons v vs L9=>
   intro ds wa h h' hp;cases h with
   |cons h1 h2=>
    cases h' with
    |cons h3 h4=>
     rw[List.all_cons,vC]at hp;rw[gl,ih h1 h3 hp.1,L9 h2 h4 hp.2];rfl
 intro n;induction n with
 |zero=>
  intro v d d' h h' hp;cases h<;>cases h'<;>first|(simp[aJ]at hp;done)|simp[cm]
 |succ n ih=>
  intro v d d' h h' hp;cases h with
  |tup h1 h2=>
   cases h' with
   |tup h3 h4=>
    rw[I.tuple_inj h3 h1]at h4;rw[cm];exact lists ih h2 h4 (by simpa [aJ]using hp)
   |lst h3 h4=>exact(sJ I h1 h3).elim
   |dk h3 _ _=>exact((pq I h1).1 _ _ h3).elim
   |dt h3 _ _=>exact((pq I h1).2 _ h3).elim
  |lst h1 h2=>
   cases h' with
   |lst h3 h4=>
    rw[I.list_inj h3 h1]at h4;rw[cm];exact lists ih h2 h4 (by simpa [aJ]using hp)
   |tup h3 h4=>exact(sJ I h3 h1).elim
   |dk h3 _ _=>exact((pr I h1).1 _ _ h3).elim
   |dt h3 _ _=>exact((pr I h1).2 _ h3).elim
  |ty=>simp[aJ]at hp
  |dk=>simp[aJ]at hp
  |dt=>simp[aJ]at hp
  |_=>cases h'<;>simp[cm]
theorem AV {α:Type}{p:α->Bool}{l:List α}{j:Nat}{x:α}(h:l.all p=true)(e:l[j]? = some x):p x=true:=List.all_eq_true.mp h x (List.mem_of_getElem? e)
theorem pv {A:Around}{p:D->Bool}(ih:∀ {v1 v2:V}{d1 d2:D}{u1 u2:Value},p d1=true->p d2=true->Is X.K H v1 d1->Is X.K H v2 d2->aG v1 u1->aG v2 u2->SeqAt.EqAt A s u1 u2 (cm d1 d2))
  {vs ws:List V}{ds es:List D}{its m6:List Value}(i1:IsL X.K H vs ds) (i2:IsL X.K H ws es) (r1:a9 vs its) (r2:a9 ws m6) (p1:ds.all p=true) (p2:es.all p=true):
  ∀j (h1:j<its.toArray.size) (h2:j<m6.toArray.size),SeqAt.EqAt A s its.toArray[j] m6.toArray[j] (cm (ds.getD j .non) (es.getD j .non)):=by
 intro j h1 h2;rw[vG]at h1 h2;have l1:=r1.length;have l2:=r2.length;have l3:=i1.length;have l4:=i2.length;have hv:j<vs.length:=by omega
 have hw:j<ws.length:=by omega
 have hd:j<ds.length:=by omega
 have he:j<es.length:=by omega
 obtain⟨u,e1,q1⟩:=r1.get (i:=j) (x:=vs[j]) (by simp[hv]);obtain⟨u',e2,q2⟩:=r2.get (i:=j) (x:=ws[j]) (by simp[hw]);obtain⟨v,e3,q3⟩:=i1.get (i:=j) (d:=ds[j]) (by simp[hd]);obtain⟨w,e4,q4⟩:=i2.get (i:=j) (d:=es[j]) (by simp[he]);have a1:its.toArray[j]=u:=by have z:=(vV e1).2;simpa using z
 have a2:m6.toArray[j]=u':=by have z:=(vV e2).2;simpa using z
 have a3:vs[j]=v:=by simpa [hv]using e3
 have a4:ws[j]=w:=by simpa [hw]using e4
 have a5:ds.getD j .non=ds[j]:=by simp[List.getD,hd]
 have a6:es.getD j .non=es[j]:=by simp[List.getD,he]
 rw[a1,a2,a5,a6];exact ih (AV p1 (j:=j) (by simp[hd])) (AV p2 (j:=j) (by simp[he])) (a3 ▸ q3) (a4 ▸ q4) q1 q2
theorem sM {xs ys:List D}(j:Nat)(x y:D)(h1:xs[j]? = some x)(h2:ys[j]? = some y):cm (xs.getD j .non) (ys.getD j .non)=cm x y:=by
 simp[List.getD,h1,h2]
abbrev Hm (A:Around)(s:Shared)(u1 u2:Value)(b:Bool):Prop:=SeqAt.RcAt A s u1 u2 b/\SeqAt.EqAt A s u1 u2 b/\SeqAt.RcNeAt A s u1 u2 (!b)
theorem sO {a1 a2:Addr}(rc:SeqAt.RcAt A s (.ref a1) (.ref a2) b)(rn:SeqAt.RcNeAt A s (.ref a1) (.ref a2) (!b))(h:a1=a2->b=true):Hm A s (.ref a1) (.ref a2) b:=by
 refine⟨rc,?_,rn⟩;by_cases ha:a1=a2
 ·subst ha;rw[h rfl];exact SeqAt.EqAt.same _
 ·exact SeqAt.EqAt.of_refs ha rc
theorem px (p1:aJ 0 d1=true)(p2:aJ 0 d2=true)(i1:Is X.K H v1 d1)(i2:Is X.K H v2 d2)(r1:aG v1 u1)(r2:aG v2 u2):Hm A s u1 u2 (cm d1 d2):=by
 cases i1 with
 |non=>
  cases r1
  cases i2 with
  |non=>cases r2;rw[cm];exact⟨.none_none,.same _,.none_none⟩
  |bl b=>cases r2;simp only[cm];exact⟨.none_bool _,.none_bool _,.none_bool _⟩
  |int b=>obtain⟨t',rfl⟩:=r2;simp only[cm];exact⟨.none_int _ _,.none_int _ _,.none_int _ _⟩
  |str b=>obtain⟨t',rfl⟩:=r2;simp only[cm];exact⟨.none_str _ _,.none_str _ _,.none_str _ _⟩
  |_=>simp at p2
 |bl a=>
  cases r1
  cases i2 with
  |non=>cases r2;simp only[cm];exact⟨.bool_none _,.bool_none _,.bool_none _⟩
  |bl b=>cases r2;rw[cm];exact⟨.bool_bool _ _,.bool_bool _ _,.bool_bool _ _⟩
  |int b=>obtain⟨t',rfl⟩:=r2;rw[cm,←Bool.beq_eq_decide_eq];exact⟨.bool_int _ _ _,.bool_int _ _ _,.bool_int _ _ _⟩
  |str b=>obtain⟨t',rfl⟩:=r2;simp only[cm];exact⟨.bool_str _ _ _,.bool_str _ _ _,.bool_str _ _ _⟩
  |_=>simp at p2
 |int a=>
  obtain⟨t,rfl⟩:=r1;cases i2 with
  |non=>cases r2;simp only[cm];exact⟨.int_none _ _,.int_none _ _,.int_none _ _⟩
  |bl b=>cases r2;rw[cm,←Bool.beq_eq_decide_eq];exact⟨.int_bool _ _ _,.int_bool _ _ _,.int_bool _ _ _⟩
  |int b=>obtain⟨t',rfl⟩:=r2;rw[cm,←Bool.beq_eq_decide_eq];exact⟨.int_int _ _ _ _,.int_int _ _ _ _,.int_int _ _ _ _⟩
  |str b=>obtain⟨t',rfl⟩:=r2;simp only[cm];exact⟨.int_str _ _ _ _,.int_str _ _ _ _,.int_str _ _ _ _⟩
  |_=>simp at p2
 |str a=>
  obtain⟨t,rfl⟩:=r1;cases i2 with
  |non=>cases r2;simp only[cm];exact⟨.str_none _ _,.str_none _ _,.str_none _ _⟩
  |bl b=>cases r2;simp only[cm];exact⟨.str_bool _ _ _,.str_bool _ _ _,.str_bool _ _ _⟩
  |int b=>obtain⟨t',rfl⟩:=r2;simp only[cm];exact⟨.str_int _ _ _ _,.str_int _ _ _ _,.str_int _ _ _ _⟩
  |str b=>obtain⟨t',rfl⟩:=r2;rw[cm,←Bool.beq_eq_decide_eq];exact⟨.str_str _ _ _ _,.str_str _ _ _ _,.str_str _ _ _ _⟩
  |_=>simp at p2
 |_=>simp at p1
theorem AW (I:Inv X aa σ H s):∀(n:Nat){A:Around}{v1 v2:V}{d1 d2:D}{u1 u2:Value},A.units+n<cLine->aJ n d1=true->aJ n d2=true->Is X.K H v1 d1->Is X.K H v2 d2->aG v1 u1->aG v2 u2->Hm A s u1 u2 (cm d1 d2):=by
 intro n;induction n with
 |zero=>exact λ_ p1 p2 i1 i2 r1 r2=>px p1 p2 i1 i2 r1 r2
 |succ n ih=>
  intro A v1 v2 d1 d2 u1 u2 hu p1 p2 i1 i2 r1 r2;have cJ:A.units<cLine:=by omega
  have Fp:∀ {v1 v2:V}{d1 d2:D}{u1 u2:Value},aJ n d1=true->aJ n d2=true->Is X.K H v1 d1->Is X.K H v2 d2->aG v1 u1->aG v2 u2->SeqAt.EqAt A.in1 s u1 u2 (cm d1 d2):=λp1 p2 i1 i2 r1 r2=>(ih (A:=A.in1) (by show A.units+1+n<cLine;omega) p1 p2 i1 i2 r1 r2).2.1;by_cases f2:aJ 0 d2=true
  ·by_cases f1:aJ 0 d1=true
   ·exact px f1 f2 i1 i2 r1 r2
   ·cases i1 with
    |tup h1 k1=>
     cases r1
     obtain⟨its,A9,t1,z1⟩:=I.tuple h1;cases i2 with
     |non=>cases r2;simp only[cm];exact⟨.tuple_none t1 cJ,.tuple_none t1 cJ,.tuple_none t1 cJ⟩
     |bl=>cases r2;simp only[cm];exact⟨.tuple_bool _ t1 cJ,.tuple_bool _ t1 cJ,.tuple_bool _ t1 cJ⟩
     |int=>obtain⟨t,rfl⟩:=r2;simp only[cm];exact⟨.tuple_int _ _ t1 cJ,.tuple_int _ _ t1 cJ,.tuple_int _ _ t1 cJ⟩
     |str=>obtain⟨t,rfl⟩:=r2;simp only[cm];exact⟨.tuple_str _ _ t1 cJ,.tuple_str _ _ t1 cJ,.tuple_str _ _ t1 cJ⟩
     |_=>simp at f2
    |lst h1 k1=>
     cases r1
     obtain⟨its,A9,t1,z1⟩:=I.list h1;replace t1:=t1.isList;cases i2 with
     |non=>cases r2;simp only[cm];exact⟨.list_none t1 cJ,.list_none t1 cJ,.list_none t1 cJ⟩
     |bl=>cases r2;simp only[cm];exact⟨.list_bool _ t1 cJ,.list_bool _ t1 cJ,.list_bool _ t1 cJ⟩
     |int=>obtain⟨t,rfl⟩:=r2;simp only[cm];exact⟨.list_int _ _ t1 cJ,.list_int _ _ t1 cJ,.list_int _ _ t1 cJ⟩
     |str=>obtain⟨t,rfl⟩:=r2;simp only[cm];exact⟨.list_str _ _ t1 cJ,.list_str _ _ t1 cJ,.list_str _ _ t1 cJ⟩
     |_=>simp at f2
    |_=>simp at f1 p1
  ·cases i2 with
   |tup h2 k2=>
    cases r2
    obtain⟨m6,Fz,t2,z2⟩:=I.tuple h2;cases i1 with
    |tup h1 k1=>
     cases r1
     obtain⟨its,A9,t1,z1⟩:=I.tuple h1;rename_i a2 ws es a1 vs ds;have he:=pv (A:=A.in1) (p:=aJ n) Fp k1 k2 A9 Fz (by simpa using p1) (by simpa using p2);have Ig:((List.range (min its.toArray.size m6.toArray.size)).all (λj=>cm (ds.getD j .non) (es.getD j .non)) && its.toArray.size == m6.toArray.size)=cm (.tup ds) (.tup es):=by
      rw[cm,vG,vG,←A9.length,←Fz.length,k1.length,k2.length];by_cases hl:ds.length=es.length
      ·rw[←hl,Nat.min_self,beq_self_eq_true,Bool.and_true];exact io _ hl λj x y e1 e2=>sM j x y e1 e2
      ·rw[sI hl,beq_eq_false_iff_ne.mpr hl,Bool.and_false]
     have rc:=SeqAt.RcAt.tuples t1 t2 cJ he;have rn:=SeqAt.RcNeAt.tuples t1 t2 cJ he;rw[Ig]at rc rn;exact sO rc rn λe=>by subst e;exact sL I (n+1) (.tup h1 k1) (.tup h2 k2) p1
    |lst h1 k1=>cases r1;obtain⟨its,A9,t1,z1⟩:=I.list h1;simp only[cm];exact⟨.list_tuple t1.isList t2 cJ,.list_tuple t1.isList t2 cJ,.list_tuple t1.isList t2 cJ⟩
    |non=>cases r1;simp only[cm];exact⟨.none_tuple t2 cJ,.none_tuple t2 cJ,.none_tuple t2 cJ⟩
    |bl=>cases r1;simp only[cm];exact⟨.bool_tuple _ t2 cJ,.bool_tuple _ t2 cJ,.bool_tuple _ t2 cJ⟩
    |int=>obtain⟨t,rfl⟩:=r1;simp only[cm];exact⟨.int_tuple _ _ t2 cJ,.int_tuple _ _ t2 cJ,.int_tuple _ _ t2 cJ⟩
    |str=>obtain⟨t,rfl⟩:=r1;simp only[cm];exact⟨.str_tuple _ _ t2 cJ,.str_tuple _ _ t2 cJ,.str_tuple _ _ t2 cJ⟩
    |_=>simp at p1
   |lst h2 k2=>
    cases r2
    obtain⟨m6,Fz,t2,z2⟩:=I.list h2;replace t2:=t2.isList;cases i1 with
    |lst h1 k1=>
     cases r1
     obtain⟨its,A9,t1,z1⟩:=I.list h1;replace t1:=t1.isList;rename_i a2 ws es a1 vs ds;have he:=pv (A:=A.in1) (p:=aJ n) Fp k1 k2 A9 Fz (by simpa using p1) (by simpa using p2);have both:SeqAt.RcAt A s (.ref a1) (.ref a2) (cm (.lst ds) (.lst es))/\SeqAt.RcNeAt A s (.ref a1) (.ref a2) (!cm (.lst ds) (.lst es)):=by
      have hz:its.toArray.size=ds.length/\m6.toArray.size=es.length:=by rw[vG,vG,←A9.length,←Fz.length,k1.length,k2.length];exact⟨rfl,rfl⟩
      by_cases hl:ds.length=es.length
      ·have Ig:(List.range its.toArray.size).all (λj=>cm (ds.getD j .non) (es.getD j .non))=cm (.lst ds) (.lst es):=by
        rw[cm,hz.1];exact io _ hl λj x y e1 e2=>sM j x y e1 e2
       have hs:=(hz.1.trans hl).trans hz.2.symm;have rc:=SeqAt.RcAt.lists t1 t2 hs cJ he;have rn:=SeqAt.RcNeAt.lists t1 t2 hs cJ he;rw[Ig]at rc rn;exact⟨rc,rn⟩
      ·have hs:(its.toArray.size != m6.toArray.size)=true:=by rw[hz.1,hz.2];exact bne_iff_ne.mpr hl
       rw[cm,sI hl];exact⟨.lists_lengths t1 t2 hs cJ,.lists_lengths t1 t2 hs cJ⟩
     exact sO both.1 both.2 λe=>by subst e;exact sL I (n+1) (.lst h1 k1) (.lst h2 k2) p1
    |tup h1 k1=>cases r1;obtain⟨its,A9,t1,z1⟩:=I.tuple h1;simp only[cm];exact⟨.tuple_list t1 t2 cJ,.tuple_list t1 t2 cJ,.tuple_list t1 t2 cJ⟩
    |non=>cases r1;simp only[cm];exact⟨.none_list t2 cJ,.none_list t2 cJ,.none_list t2 cJ⟩
    |bl=>cases r1;simp only[cm];exact⟨.bool_list _ t2 cJ,.bool_list _ t2 cJ,.bool_list _ t2 cJ⟩
    |int=>obtain⟨t,rfl⟩:=r1;simp only[cm];exact⟨.int_list _ _ t2 cJ,.int_list _ _ t2 cJ,.int_list _ _ t2 cJ⟩
    |str=>obtain⟨t,rfl⟩:=r1;simp only[cm];exact⟨.str_list _ _ t2 cJ,.str_list _ _ t2 cJ,.str_list _ _ t2 cJ⟩
    |_=>simp at p1
   |_=>simp at f2 p2
@[simp] def eZ:D->D->OB:=λx y=>if aJ 40 x=true/\aJ 40 y=true then some (.bl (cm x y),false)else none
@[simp] def yJ:D->D->OB:=λx y=>if aJ 40 x=true/\aJ 40 y=true then some (.bl (!cm x y),false)else none
theorem dU (hu:X.A.units+40<cLine):bY X (compareOp .Eq) (rD X.K eZ):=by
 intro aa s σ H x y v u Q I rx ry q;obtain⟨B,dx,dy,d,b,sB,ix,iy,e,q⟩:=q;unfold eZ at e;split at e
 ·rename_i hp;cases e
  exact(AW I 40 hu hp.1 hp.2 (ix.mono sB) (iy.mono sB) rx ry).1 _ _ _ _ ⟨.bl _,H,I,rfl,q.one sB (.bl _)⟩
 ·cases e
theorem uy (hu:X.A.units+40<cLine):bY X (compareOp .NotEq) (rD X.K yJ):=by
 intro aa s σ H x y v u Q I rx ry q;obtain⟨B,dx,dy,d,b,sB,ix,iy,e,q⟩:=q;unfold yJ at e;split at e
 ·rename_i hp;cases e
  exact(AW I 40 hu hp.1 hp.2 (ix.mono sB) (iy.mono sB) rx ry).2.2 _ _ _ _ ⟨.bl _,H,I,rfl,q.one sB (.bl _)⟩
 ·cases e
end
section
variable {X:Cx}{a b e:Expr}{pos:Pos}
theorem sP {K:Frag}{H:Hp}{vs:List V}{ds:List D}{i:Int}{d:D}(h:IsL K H vs ds)(e:mF ds i=some d):∃v,mF vs i=some v/\Is K H v d:=by
 unfold mF at e ⊢;rw[h.length];cases q:ww ds.length i with
 |none=>rw[q]at e;cases e
 |some j=>rw[q]at e;exact h.get e
@[simp] def db:D->D->OB
 |.lst ds,.int i=>(mF ds i).map λd=>(d,false)
 |.tup ds,.int i=>(mF ds i).map λd=>(d,false)
 |.str z,.int i=>if z.length<=sizeLine then (mF z.cps.toList i).map λc=>(.str ⟨#[c]⟩,false)else none
 |_,_=>none
theorem Hn:wx X (rD X.K db):=by
 intro value slice aa s σ H x y v u Q I rx ry q hs;obtain⟨B,dx,dy,d,b,sB,ix,iy,e,q⟩:=q;cases ix<;>try (cases e;done)
 all_goals (cases iy<;>try (cases e;done))
 ·simp only[db]at e;split at e
  ·rename_i hz;obtain⟨c,e1,e2⟩:=oY e;cases e2
   exact qP value slice aa s σ H _ _ v u Q I rx ry ⟨_,_,c,rfl,rfl,hz,e1,q.one sB (.str _)⟩ hs
  ·cases e
 ·rename_i h hl i;simp only[db]at e;obtain⟨c,e1,e2⟩:=oY e;cases e2
  obtain⟨w,h1,h2⟩:=sP hl e1;exact wz value slice aa s σ H _ _ v u Q I rx ry ⟨_,_,_,w,rfl,rfl,aK sB h,h1,q.one sB h2⟩ hs
 ·rename_i h hl i;simp only[db]at e;obtain⟨c,e1,e2⟩:=oY e;cases e2
  obtain⟨w,h1,h2⟩:=sP hl e1;exact zr value slice aa s σ H _ _ v u Q I rx ry ⟨_,_,_,w,rfl,rfl,sB.seq h,h1,q.one sB h2⟩ hs
theorem cL (ha:JE X a fa)(hb:JE X b fb)(hs:kq b:=by intro _ _;rfl):JE X (.Subscript a b pos) (f2 db fa fb):=PE.to (wy Hn ha hb hs) λ_ _ _ h=>zx h
abbrev FO:=Env->Option (Option Int)
def KJ (K:Frag)(f:FO):TO:=λσ H Q=>∃(B:Hp)(ρ:Env)(o:Option Int),aF B H/\cU K B σ ρ/\f ρ=some o/\∀H',aF H H'->Q o H'
abbrev JO (X:Cx)(e:Option Expr)(f:FO):Prop:=PO X e (KJ X.K f)
@[simp] noncomputable def gX:FO:=λ_=>some none
@[simp] noncomputable def gt (f:FE):FO:=λρ=>match f ρ with|some (.int i,_)=>some (some i)|_=>none
theorem iP:JO X none gX:=λaa s σ H Q I h=>zn aa s σ H Q I (by
 obtain⟨B,ρ,o,sB,r,e,q⟩:=h;cases e
 exact q H (.refl H))
theorem iQ (h:JE X e f):JO X (some e) (gt f):=λaa s σ H Q I q=>zo h aa s σ H Q I (by
 obtain⟨B,ρ,o,sB,r,e,q⟩:=q;unfold gt at e;split at e
 ·rename_i i b' ef;cases e
  refine⟨B,ρ,_,_,sB,r,ef,λv H1 N1 x1 i1 _=>?_⟩;cases i1
  exact⟨i,rfl,q H1 x1.hh⟩
 ·cases e)
def kO (ds:List D)(lo hi:Option Int):List D:=(ds.drop (HT.bX ds.length 0 lo)).take (HT.bX ds.length ds.length hi - HT.bX ds.length 0 lo)
theorem og {K:Frag}{H:Hp}{vs:List V}{ds:List D}{lo hi:Option Int}(h:IsL K H vs ds):IsL K H (lY vs lo hi) (kO ds lo hi):=by
 unfold lY kO;rw[h.length];exact(h.drop _).take _
theorem b7.to (h:b7 X f r)(k:∀xs H Q,r' xs H Q->r xs H Q):b7 X f r':=λaa s σ H xs us Q I rs q=>h aa s σ H xs us Q I rs (k xs H Q q)
variable {es:List Expr}{x:Str}{p:Pos}{id T:String}
theorem ar (hc:b7 X (.builtin id) (yH X.K f))(hm:X.mg x=none)(hv:bootBuiltins x=some (.builtin id))(ha:JA X (e::es) fa)(hg:Gl X x:=by rfl)(hn:x ≠ "__name__":=by decide)(qC:(x == ("__debug__" : Str))=false:=by decide)
  (he:starEach (e::es) X.env=(false,eval e X.env)::starEach es X.env:=by rfl) (kz:(backTo pos (starEach es X.env)).any (·.1)=false:=by rfl):JE X (.Call (.Name x p) (e::es) [] pos) (fA f fa):=PE.to (kF hc hg hm hv ha hn qC he kz) λ_ _ _ h=>zy h
theorem j5 (hc:b7 X (.type T) (yH X.K f))(hm:X.mg x=none)(hv:bootBuiltins x=some (.type T))(ha:JA X (e::es) fa)(hg:Gl X x:=by rfl)(hn:x ≠ "__name__":=by decide)(qC:(x == ("__debug__" : Str))=false:=by decide)
  (he:starEach (e::es) X.env=(false,eval e X.env)::starEach es X.env:=by rfl) (kz:(backTo pos (starEach es X.env)).any (·.1)=false:=by rfl):JE X (.Call (.Name x p) (e::es) [] pos) (fA f fa):=PE.to (j0 hc hg hm hv ha hn qC he kz) λ_ _ _ h=>zy h
@[simp] noncomputable def c7:List D->OB
 |[.lst ds]=>some (.int ds.length,false)
 |[.tup ds]=>some (.int ds.length,false)
 |[.str z]=>if z.length<=sizeLine then some (.int z.length,false)else none
 |_=>none
theorem dE:b7 X (.builtin "len") (yH X.K c7):=by
 refine b7.to (b7.or nR nU) λxs H Q q=>?_;obtain⟨B,ds,d,b,sB,i,e,q⟩:=q;cases i with
 |nil=>simp[c7]at e
 |cons i1 i2=>
  cases i2 with
  |cons _ _=>cases i1<;>simp[c7]at e
  |nil=>
   cases i1<;>try (simp[c7]at e;done)
   ·simp only[c7]at e;split at e
    ·rename_i hz;cases e
     exact .inr ⟨_,rfl,hz,q.one sB (.int _)⟩
    ·cases e
   ·rename_i h hl;simp only[c7]at e;cases e
    refine .inl ⟨_,_,rfl,.inr (aK sB h),?_⟩;rw[hl.length];exact q.one sB (.int _)
   ·rename_i h hl;simp only[c7]at e;cases e
    refine .inl ⟨_,_,rfl,.inl (sB.seq h),?_⟩;rw[hl.length];exact q.one sB (.int _)
theorem cS (hm:X.mg x=none)(hv:bootBuiltins x=some (.type n))(hg:Gl X x:=by rfl)(hn:x ≠ "__name__":=by decide)(hd:(x == ("__debug__" : Str))=false:=by decide):JE X (.Name x pos) (fC (.ty n)) :=
 PE.to (yW hg hm hv (v:=.ty n) rfl hn hd) λ_ _ _ h=>ux (λ_=>.ty n) h
end
theorem EA (hr:dz k A):A.units+40<cLine:=by have:=hr.un;omega
section
variable {X:Cx}{a b e:Expr}{pos:Pos}{x:Str}{p:Pos}
theorem ce (h:∃u v,X.mg x=some u/\aG v u/\∀B,Is X.K B v d)(hg:Gl X x:=by rfl)(hd:(x == ("__debug__" : Str))=false:=by decide):JE X (.Name x pos) (fC d):=by
 obtain⟨u,v,hm,r,i⟩:=h;exact zI hg hm r i hd
@[simp] noncomputable def sQ:D->D->OB
 |.int i,.int j=>some (.int (i+j),false)
 |.str i,.str j=>if i.length+j.length<=sizeLine then some (.str (i++j),false)else none
 |_,_=>none
theorem zN:bY X (binaryOp .Add) (rD X.K sQ):=by
 refine gs (r:=rD X.K (yI Cr zL)) (kN E3 Cv) λx y H Q q=>?_;obtain⟨B,dx,dy,d,b,sB,ix,iy,e,q⟩:=q;refine⟨B,dx,dy,d,b,sB,ix,iy,?_,q⟩;cases dx<;>try (cases e;done)
 all_goals (cases dy<;>try (cases e;done))
 all_goals (simp[sQ]at e;simp[yI,Cr,zL,pe,D0,e])
@[simp] def gS:D->D->OB:=E2
theorem ip:bY X (binaryOp .Mult) (rD X.K gS):=E6
@[simp] def yK:D->D->OB:=Jk
theorem pz:bY X (compareOp .Lt) (rD X.K yK):=Hj
@[simp] noncomputable def p0:D->D->OB
 |.int i,.int j=>some (.bl (decide (i<=j)),false)
 |.str i,.str j=>some (.bl (!decide (j.cps.toList<i.cps.toList)),false)
 |_,_=>none
theorem iR:bY X (compareOp .LtE) (rD X.K p0):=by
 refine gs (r:=rD X.K (yI Hh Gi)) (kN Hk E8) λx y H Q q=>?_;obtain⟨B,dx,dy,d,b,sB,ix,iy,e,q⟩:=q;refine⟨B,dx,dy,d,b,sB,ix,iy,?_,q⟩;cases dx<;>try (cases e;done)
 all_goals (cases dy<;>try (cases e;done))
 all_goals (simp[p0]at e;simp[yI,Hh,Gi,pe,D0,e])
@[simp] noncomputable def kc:D->D->Option Bool
 |.non,.non=>some true
 |_,.non=>some false
 |.bl a,.bl b=>some (a == b)
 |_,.bl _=>some false
 |_,_=>none
@[simp] def Gj:D->D->OB:=λx y=>(kc x y).map λb=>(.bl b,false)
@[simp] def iq:D->D->OB:=λx y=>(kc x y).map λb=>(.bl (!b),false)
theorem sR {K:Frag}{B:Hp}{x y:V}{v u:Value}{dx dy:D}{k:Bool}(ix:Is K B x dx)(iy:Is K B y dy)(rx:aG x v)(ry:aG y u)(e:kc dx dy=some k):plainIs v u=true/\(v == u)=k:=by
 cases iy<;>(first|(cases dx<;>simp[kc]at e;done)|skip)
 all_goals (cases ix)
 all_goals (first|(obtain⟨t,rfl⟩:=rx)|cases rx)
 all_goals (cases ry)
 all_goals (simp only[kc,Option.some.injEq]at e;subst e)
 all_goals (first|exact⟨rfl,rfl⟩|skip)
 all_goals (rename_i c d;cases c<;>cases d<;>exact⟨rfl,rfl⟩)
theorem Cy:bY X (compareOp .Is) (rD X.K Gj):=by
 intro aa s σ H x y v u Q I rx ry q;obtain⟨B,dx,dy,d,b,sB,ix,iy,e,q⟩:=q;obtain⟨k,ek,e⟩:=oY e;cases e
 obtain⟨h1,h2⟩:=sR ix iy rx ry ek;refine wpAny_is_plain h1 ⟨.bl k,H,I,by rw[h2];rfl,q.one sB (.bl _)⟩
theorem sS:bY X (compareOp .IsNot) (rD X.K iq):=by
 intro aa s σ H x y v u Q I rx ry q;obtain⟨B,dx,dy,d,b,sB,ix,iy,e,q⟩:=q;obtain⟨k,ek,e⟩:=oY e;cases e
 obtain⟨h1,h2⟩:=sR ix iy rx ry ek;refine wpAny_isNot_plain h1 ⟨.bl (!k),H,I,by rw[h2];rfl,q.one sB (.bl _)⟩
@[simp] noncomputable def dW:D->Bool
 |.non=>true|.bl _=>true|.int _=>true|.str _=>true
 |_=>false
noncomputable def AX (x:D)(ds:List D):Bool:=ds.any λy=>cm y x
@[simp] noncomputable def gY:D->Option (List D)
 |.lst ds=>some ds
 |.tup ds=>some ds
 |_=>none
@[simp] def sT:D->D->OB:=λx y=>(gY y).bind λds=>if dW x=true/\ds.all dW=true then some (.bl (AX x ds),false)else none
theorem qX {K:Frag}{B:Hp}{v:V}{d:D}(i:Is K B v d)(h:dW d=true):gU v=true:=by
 cases i<;>first|rfl|(simp[dW]at h)
theorem Ho {K:Frag}{B:Hp}{v w:V}{d e:D}(i:Is K B v d)(j:Is K B w e)(h:dW d=true)(h':dW e=true):yG v w=cm d e:=by
 cases i<;>(first|(simp[dW]at h;done)|skip)
 all_goals (cases j<;>(first|(simp[dW]at h';done)|skip))
 all_goals (simp only[yG,cm,Bool.beq_eq_decide_eq])
theorem wN {K:Frag}{B:Hp}:∀ {vs:List V}{ds:List D},IsL K B vs ds->ds.all dW=true->vs.all gU=true
 |_,_,.nil,_=>rfl
 |_,_,.cons i t,h=>by
  rw[List.all_cons,vC]at h;rw[List.all_cons,qX i h.1,wN t h.2];rfl
theorem Cz {K:Frag}{B:Hp}{v:V}{d:D}(j:Is K B v d)(hd:dW d=true):∀ {vs:List V}{ds:List D},IsL K B vs ds->ds.all dW=true->Gf v vs=AX d ds
 |_,_,.nil,_=>rfl
 |_,_,.cons i t,h=>by
  rw[List.all_cons,vC]at h;have e:=Cz j hd t h.2;unfold Gf AX at *;rw[List.any_cons,List.any_cons,e,Ho i j h.1 hd]
theorem sU:bY X (compareOp .In) (rD X.K sT):=by
 refine gs um λx y H Q q=>?_;obtain⟨B,dx,dy,d,b,sB,ix,iy,e,q⟩:=q;obtain⟨ds,es,e⟩:=oX e;split at e
 ·rename_i hf;cases e
  cases iy<;>simp only[gY]at es<;>try (cases es;done)
  ·rename_i h hl;cases es
   exact⟨_,_,rfl,.inr (aK sB h),qX ix hf.1,wN hl hf.2,by rw[if_neg (by decide),Cz ix hf.1 hl hf.2];exact q.one sB (.bl _)⟩
  ·rename_i h hl;cases es
   exact⟨_,_,rfl,.inl (sB.seq h),qX ix hf.1,wN hl hf.2,by rw[if_neg (by decide),Cz ix hf.1 hl hf.2];exact q.one sB (.bl _)⟩
 ·cases e
theorem dc:bootBuiltins "len" = some (.builtin "len"):=PySem.boot_len
theorem aB:bootBuiltins "isinstance" = some (.builtin "isinstance"):=by decide +kernel
theorem wO:bootBuiltins "min" = some (.builtin "min"):=by decide +kernel
theorem p5:bootBuiltins "all" = some (.builtin "all"):=by decide +kernel
theorem wP:bootBuiltins "int" = some (.type "int"):=by decide +kernel
theorem wQ:bootBuiltins "bool" = some (.type "bool"):=by decide +kernel
theorem wR:bootBuiltins "str" = some (.type "str"):=by decide +kernel
theorem kP:bootBuiltins "list" = some (.type "list"):=by decide +kernel
theorem dH:bootBuiltins "tuple" = some (.type "tuple"):=by decide +kernel
@[simp] noncomputable def KL:List D->OB
 |[.int i,.int j]=>some (.int (if j > i then j else i),false)
 |_=>none
@[simp] noncomputable def mh:List D->OB
 |[.int i,.int j]=>some (.int (if j<i then j else i),false)
 |_=>none
theorem wS {K:Frag}{B:Hp}{xs:List V}{i j:Int}(h:IsL K B xs [.int i,.int j]):xs=[.int i,.int j]:=by
 cases h with
 |cons h1 h2=>cases h1;cases h2 with|cons h3 h4=>cases h3;cases h4;rfl
theorem wT (hc:X.calm=true:=by rfl):b7 X (.builtin "min") (yH X.K mh):=by
 refine b7.to (uj hc) λxs H Q q=>?_;obtain⟨B,ds,d,b,sB,i,e,q⟩:=q;match ds,e with
 |[.int i',.int j'],e=>simp only[mh]at e;cases e;exact⟨i',j',wS i,q.one sB (.int _)⟩
@[simp] noncomputable def dX:D->String
 |.non=>"NoneType" | .bl _=>"bool" | .int _=>"int" | .str _=>"str" | .ty _=>"type" | .tup _=>"tuple" | .lst _=>"list" | .dk _ _=>"dict" | .dt _ _=>"dict"
@[simp] noncomputable def qY:D->Bool
 |.ty _=>true
 |_=>false
@[simp] noncomputable def sV (t n:String):OB :=
 if n = "int" then some (.bl (t == "int" || t == "bool"),false)else if n = "bool" then some (.bl (t == "bool"),false)else if n = "str" then some (.bl (t == "str"),false)
 else if n = "list" then some (.bl (t == "list"),false)else if n = "tuple" then some (.bl (t == "tuple"),false)else none
@[simp] def a7:List D->OB
 |[d,.ty n]=>if qY d=true then none else sV (dX d) n
 |_=>none
theorem zO {aa:List (Addr×Obj)}{σ:St}{H:Hp}{s:Shared}{A:Around}{E:Value->Shared->Prop}{Q:Value->Shared->Prop}{c:Value}{b:Bool}{v:V}{d:D}{u:Value}(I:Inv X aa σ H s)(i:Is X.K H v d)(hd:∀n,d≠.ty n)(rx:aG v u)(e:PySem.W.kitOne X.K (.type (dX d)) c=some b)(h:∀tk,Q (.bool b) { s with toks:=tk }):
  wpAny (model X.prog X.w) A (call (.builtin "isinstance") [u,c]) Q E s:=by
 cases i with
 |non=>exact dN I rx .non e h
 |bl y=>exact dN I rx (.bl y) e h
 |int y=>exact dN I rx (.int y) e h
 |str y=>exact dN I rx (.str y) e h
 |ty n=>exact absurd rfl (hd n)
 |dk h1 _ _=>exact dN I rx (.dK h1) e h
 |dt h1 _ _=>exact dN I rx (.dT h1) e h
 |tup ht _=>
  cases rx
  obtain⟨its,_,⟨o,h1,h2,_⟩,_⟩:=I.tuple ht;exact kia_one PySem.W.kitx_tuple I.kIn ⟨o,h1,h2⟩ e (λz=>nomatch z) h
 |lst hl _=>
  cases rx
  obtain⟨its,_,⟨o,n,h1,h2,_⟩,_⟩:=I.list hl;exact kia_one PySem.W.kitx_list I.kIn ⟨o,h1,h2⟩ e (λz=>nomatch z) h
theorem wU (K:Frag)(d:D)(hd:∀n,d≠.ty n):
  PySem.W.kitOne K (.type (dX d)) (.type "int")=some (dX d == "int" || dX d == "bool")/\PySem.W.kitOne K (.type (dX d)) (.type "bool")=some (dX d == "bool")/\PySem.W.kitOne K (.type (dX d)) (.type "str")=some (dX d == "str") /\
   PySem.W.kitOne K (.type (dX d)) (.type "list")=some (dX d == "list")/\PySem.W.kitOne K (.type (dX d)) (.type "tuple")=some (dX d == "tuple"):=by
 cases d<;>(first|exact absurd rfl (hd _)|skip)
 all_goals (simp only[dX];refine⟨?_,?_,?_,?_,?_⟩<;>kernel_rfl)
theorem aD:b7 X (.builtin "isinstance") (yH X.K a7):=by
 intro aa s σ H xs us Q I rs q;obtain⟨B,ds,d,b,sB,i,e,q⟩:=q;cases i with
 |nil=>cases e
 |cons i1 i=>cases i with
 |nil=>cases e
 |cons i2 i=>
  cases i2<;>try (cases e;done)
  cases i<;>try (cases e;done)
  rename_i dx n;obtain⟨u1,u2,rfl,r1,r2⟩:=wm rs;cases r2
  simp only[a7]at e;split at e
  ·cases e
  ·rename_i ht;have hd:∀n,dx≠.ty n:=λn z=>by subst z;exact ht rfl
   obtain⟨k1,k2,k3,k4,k5⟩:=wU X.K dx hd;have fin:∀ {k:Bool},PySem.W.kitOne X.K (.type (dX dx)) (.type n)=some k->Fin X.K B H (.bl k) false Q->wq X (call (.builtin "isinstance") [u1,.type n]) (EP X aa σ Q) X.xe s:=λ{k} hk q=>
    zO I (i1.mono sB) hd r1 hk λtk=>⟨.bl k,H,I.tok tk,rfl,q.one sB (.bl k)⟩
   unfold sV at e;split at e
   ·rename_i z;subst z;cases e;exact fin k1 q
   split at e
   ·rename_i z;subst z;cases e;exact fin k2 q
   split at e
   ·rename_i z;subst z;cases e;exact fin k3 q
   split at e
   ·rename_i z;subst z;cases e;exact fin k4 q
   split at e
   ·rename_i z;subst z;cases e;exact fin k5 q
   ·cases e
@[simp] def wV (f:FE):FA:=λρ=>(f ρ).bind λx=>gY x.1
theorem sW (h:JE X e f):JI X tg e (wV f):=by
 intro aa s σ H R I q;obtain⟨B,ρ,ds,sB,r,e',q⟩:=q;obtain⟨x,ex,es⟩:=oX e';obtain⟨xd,xb⟩:=x;cases xd<;>simp only[gY]at es<;>try (cases es;done)
 ·cases es
  refine BO h aa s σ H R I ⟨B,ρ,_,_,sB,r,ex,λv H1 N1 x1 i1 _=>?_⟩;cases i1 with
  |@tup a vs _ ht hl=>
   refine⟨a,rfl,⟨vs,aK x1.nh ht⟩,q _ H1 N1 x1 λi H2 s2=>⟨λd ed=>?_,λbp=>⟨vs,aK s2 ht,by rw[hl.length];exact bp⟩⟩⟩;obtain⟨v,ev,iv⟩:=hl.get ed;refine⟨⟨vs,v,aK s2 ht,ev⟩,λy H3 hy=>?_⟩;obtain⟨rfl,hy⟩:=hy;have:=hy vs (aK s2 ht);rw[ev]at this;cases this;exact⟨N1,.refl s2,iv⟩
 ·cases es
  refine zb h aa s σ H R I ⟨B,ρ,_,_,sB,r,ex,λv H1 N1 x1 i1 _=>?_⟩;cases i1 with
  |@lst a vs _ ht hl=>
   refine⟨a,rfl,⟨vs,x1.nh.seq ht⟩,q _ H1 N1 x1 λi H2 s2=>⟨λd ed=>?_,λbp=>⟨vs,s2.seq ht,by rw[hl.length];exact bp⟩⟩⟩;obtain⟨v,ev,iv⟩:=hl.get ed;refine⟨⟨vs,v,s2.seq ht,ev⟩,λy H3 hy=>?_⟩;obtain⟨rfl,hy⟩:=hy;have:=hy vs (s2.seq ht);rw[ev]at this;cases this;exact⟨N1,.refl s2,iv⟩
noncomputable def dY (lo:Int)(n:Nat):List D:=(List.range n).map λ(k:Nat)=>.int (lo+(k:Int))
theorem wW {K:Frag}{B:Hp}(lo:Int)(n:Nat):mf K (Gd lo n) B (dY lo n):=by
 intro i H s;unfold dY;refine⟨λd ed=>?_,λhl=>by rw[vH,List.length_range]at hl;exact hl⟩;rw[vA]at ed;obtain⟨k,ek,ed⟩:=oY ed;have hk:=vV ek;obtain⟨eO,hk⟩:=hk;rw[List.length_range]at eO;rw[List.getElem_range]at hk;subst hk;subst ed;refine⟨eO,λx H' hy=>?_⟩;obtain⟨rfl,rfl⟩:=hy;exact⟨B,.refl s,.int _⟩
@[simp] def eW (f:FE):FA:=λρ=>match f ρ with
 |some (.int j,_)=>if -1000<=j/\j<=1000 then some (dY 0 j.toNat)else none
 |_=>none
theorem iS (hm:X.mg "range" = none)(h:JE X a f)(hg:Gl X "range":=by rfl)(hs:starEach [a] X.env=[(false,eval a X.env)]:=by rfl):PI X tg (.Call (.Name "range" p) [a] [] pos) (Gh X.K (eW f)):=by
 refine PI.to (ug hg hm (aj h ai hs) hs) λσ H R q=>?_;obtain⟨B,ρ,ds,sB,r,e',q⟩:=q;unfold eW at e';split at e'
 ·rename_i j b' ef;split at e'
  ·rename_i hj;cases e'
   refine⟨B,ρ,[.int j],sB,r,by simp[ae,ah,ef],λvs H1 N1 x1 i1=>?_⟩;cases i1 with
   |cons i1 i2=>
    cases i1;cases i2
    exact⟨j,rfl,by omega,by omega,q _ H1 N1 x1 λ_=>wW 0 j.toNat⟩
  ·cases e'
 ·cases e'
theorem wZ (hm:X.mg "range" = none)(h:JE X a f)(hg:Gl X "range":=by rfl)(hs:starEach [a] X.env=[(false,eval a X.env)]:=by rfl):JI X tg (.Call (.Name "range" p) [a] [] pos) (eW f) :=
 PI.to (iS hm h hg hs) λσ H R ⟨B,ρ,ds,sB,r,e',q⟩=>⟨B,ρ,ds,sB,r,e',λJ H' N x h=>q J H' N x (h _)⟩
end
def eJ (K:Frag)(x:Str)(st:Stmt):Prop:=∃(f:Addr)(fd:FuncData),CY K x x st f fd/\nsIn K mainGlobals x=some (some (.ref f))
theorem def_mk {K:Frag}{x:Str}{st:Stmt}{f:Addr}{oc:Value}{od an:Option Addr}{lX:Array (Option Value)}{kV doc pm cz ct:Value}(a:nsIn K mainGlobals x=some (some (.ref f)))
  (l:K.lookup f=some ⟨oc,od,.func (fnOf x x (cV st) (bD st) (ay st) .none kV doc pm an cz ct),lX⟩) (c:PySem.W.codeIn K cz x=true) (k:PySem.W.keepIn K (.ref f)=true):eJ K x st:=⟨f,_,Cf l c k,a⟩
section
variable {P:Program}{w:World}{K:Frag}{mg:Str->Option Value}{base:Heap}
theorem eJ.fn {x:Str}{st:Stmt}{N ps:List Str}{k:Nat}{g:FS}{h:Heap}(F:eJ K x st)(X:K.In h)(G:h.Ns mainGlobals mg)(S:FnScope N ps (ay st))
  (ub:∀(kV doc pm:Value)(an:Option Addr)(cz ct:Value)(us:List Value),us.length=ps.length->bindArgs (fnOf x x (cV st) (bD st) (ay st) .none kV doc pm an cz ct) ⟨us,[]⟩=pure (ps.zip us))
  (hb:∀(f:Addr)(cz:Value)(A:Around)(outer:List PySem.Env)(s:Shared)(H:Hp)(E:XK),dz k (A.deeper (envOfC x (ay st) s.heap.objs.size f cz))->oI (jY qT P w K mg base N x (ay st) f cz A outer s H E).nox (bD st) g):
  Fn P w K mg base (k+1) x (aL g ps.length (N.length - ps.length)):=by
 obtain⟨f,fd,F1,a⟩:=F;exact⟨f,fd,ps,E9 F1 S (hb f),mg_of X G a,F1.kp,F1.binds ub⟩
end
def EB (H:Hp):Prop:=∀b,H b=none∨(∃o xs,H b=some (.frz o (.lst xs)))∨∃q,H b=some (.tbl q)
noncomputable def kQ (gq:List (Addr×Str))(G:Hp):Hp:=λb=>match gq.lookup b with|some q=>some (.tbl q)|none=>G b
theorem de (e:gq.lookup b=some q):kQ gq G b=some (.tbl q):=by unfold kQ;rw[e]
theorem fz (e:gq.lookup b=none):kQ gq G b=G b:=by unfold kQ;rw[e]
theorem uz {P:Program}{w:World}{K:Frag}{mg mb:Str->Option Value}{k:Nat}{fa a:Addr}{fd:FuncData}{x:Str}{sp:Sp}{s₁:Shared}{vs:List Value}{ns:List Int}(gq:List (Addr×Str))
  (ht:∀b q,gq.lookup b=some q->s₁.heap.get? b=some (PySem.W.tabObj #[])/\isCodeTable s₁.heap b) (LA:PySem.W.noTabs K=true)
  (KX:K.In s₁.heap) (F0:s₁.heap.Ns mainGlobals mg) (hb:s₁.heap.Ns builtinsNs mb) (LB:∀x:Str,x ≠ "__name__"->mb x=bootBuiltins x) (Ih:s₁.heap.NoLimit)
  (Ii:∃bm ob,mg "__builtins__" = some (.ref bm)/\bm≠builtinsNs/\s₁.heap.get? bm=some ob/\ob.cls=.type "module"/\ob.dict=some builtinsNs/\ob.data=.plain) (hg:s₁.gens=#[])
  (ha:s₁.heap.get? a=some { cls:=.type "list",data:=.seq vs.toArray }) (hi:IntsAre vs ns) (hl:ns.length<=sizeLine) (hr:dz k callerA)
  (F:∀base:Heap,K.In base->base.Ns mainGlobals mg->jG P w K mg base qT k fa fd [x] sp) (F3:∀(s:Shared)(u:Value),BindsTo s fd ⟨[u],[]⟩ [(x,u)])
  (DA:∀H:Hp,(∀b q,gq.lookup b=some q->H b=some (.tbl q))->eP K H a (ns.map V.int)->sp [.ref a] H (λv _=>v=.bl true) λ_ _ _=>False):
  codeAny (model P w) callerA (.call (.ref fa) ⟨[.ref a],[]⟩) (λr s'=>r=.ok (.ret (.bool true))/\OldK s₁.heap s'.heap/\s'.os=s₁.os/\AllBare s'.gens) s₁:=by
 have rv:=L2.fm hi;have Ij:=hi.length;have F4:∀H:Hp,EB H->(∀b q,gq.lookup b=some q->H b=some (.tbl q))->eP K H a (ns.map V.int)->kl P w H s₁.heap->(∀b q,H b=some (.tbl q)->s₁.heap.get? b=some (PySem.W.tabObj #[])/\isCodeTable s₁.heap b) ->
   (∀b o u,H b=some (.frz o u)->b=a)->(∀b o u,H b=some (.frz o u)->K.lookup b=none) ->
   codeAny (model P w) callerA (.call (.ref fa) ⟨[.ref a],[]⟩) (λr s'=>r=.ok (.ret (.bool true))/\OldK s₁.heap s'.heap/\s'.os=s₁.os/\AllBare s'.gens) s₁:=by
  intro H hO hT hS hok hA hB hK;have Fg:∀ {b:Addr}{o:Obj},s₁.heap.get? b=some o->(o.cls≠.none)->(o.cls≠.type "list")->H b=none:=λ{b o} e d d'=>by
   rcases hO b with q|⟨ob,xs,q⟩|⟨u,q⟩
   ·exact q
   ·have e':b=a:=hB b _ _ q;subst e';rw[ha]at e;cases e;exact absurd rfl d'
   ·rw[(hA b u q).1]at e;cases e;exact absurd rfl d
  have LC:∀ {b:Addr}{o:Obj}{es:Array DictEntry}{ep:Nat},s₁.heap.get? b=some o->o.data=.dict es ep->H b=none:=λ{b o es ep} e d=>by
   rcases hO b with q|⟨ob,xs,q⟩|⟨u,q⟩
   ·exact q
   ·have e':b=a:=hB b _ _ q;subst e';rw[ha]at e;cases e;cases d
   ·rw[(hA b u q).1]at e;cases e;cases d
  have G6:∀ {b:Addr}{m:Str->Option Value},s₁.heap.Ns b m->(oN s₁.heap H).Ns b m:=λ{b m} ⟨o,es,ep,e,d,r⟩=>⟨o,es,ep,kD e (LC e d),d,r⟩;have JJ:K.In (oN s₁.heap H):=λb o e=>kD (KX b o e) (by
   rcases hO b with q|⟨ob,xs,q⟩|⟨u,q⟩
   ·exact q
   ·rw[hK b _ _ q]at e;cases e
   ·have z:=(hA b u q).1;rw[KX b o e]at z;cases z
    have:=List.all_eq_true.mp LA _ (PySem.W.mem_of_lookupK e);simp at this)
  have hM:Mod K mg (oN s₁.heap H):=⟨JJ,G6 F0,⟨mb,G6 hb,LB⟩,let ⟨mc,h1,h2⟩:=Ih;⟨mc,G6 h1,h2⟩,by
   obtain⟨bm,ob,b1,b2,b3,b4,b5⟩:=Ii;exact⟨bm,ob,b1,b2,kD b3 (Fg b3 (by rw[b4];exact λz=>nomatch z) (by rw[b4];intro z;injection z with z;exact absurd z (by decide))),b4,b5⟩⟩
  have e0:Env0 P w K mg (oN s₁.heap H) callerA [] s₁ H:=⟨rfl,hM,λb o e=>yU e,Nat.le_of_eq (ue _ _),trivial,λb hb=>absurd (show b∈([]:List Addr)from hb) (by simp),hok,.of_eq hg⟩;refine codeAny_mono ((F _ JJ (G6 F0)).run callerA [] s₁ H ⟨[.ref a],[]⟩ [.ref a] [.ref a] _ _ hr e0 (F3 s₁ (.ref a)) (.cons rfl .nil) (DA H hT hS)) λr s' h=>?_;cases r with
  |error e=>exact False.elim h
  |ok fl=>
   cases fl with
   |next=>exact False.elim h
   |brk=>exact False.elim h
   |cont=>exact False.elim h
   |ret u=>
    obtain⟨v,H',os,bare,un,F5,r',q⟩:=h;have q':v=.bl true:=q;subst q';obtain rfl:u=Value.bool true:=r';have kp:∀b o,H b=none->s₁.heap.get? b=some o->s'.heap.get? b=some o:=λb o n e=>un.keep b o e n (by intro z;exact absurd (show b∈([]:List Addr)from z) (by simp)) (by simp);refine⟨rfl,⟨λb o e=>?_,λb o e=>un.there b o e (by simp)⟩,os,bare⟩;rcases hO b with z|⟨ob,xs,z⟩|⟨u,z⟩
    ·exact .inl (kp b o z e)
    ·have z2:=un.frzs b ob _ z;obtain⟨e1,_⟩:=hok b _ z;obtain⟨e2,_⟩:=F5 b _ z2;rw[e]at e1;cases e1;exact .inl e2
    ·obtain⟨e1,e2⟩:=hA b u z;rw[e]at e1;cases e1;obtain⟨ps,e3,_⟩:=F5 b _ (un.tbls b u z);exact .inr (.inl ⟨e2,rfl,#[],ps,rfl,by simpa using e3⟩)
 have Db:∀q,gq.lookup a≠some q:=λq z=>by
  have:=(ht a q z).1;rw[ha]at this;cases this
 have ta:gq.lookup a=none:=by
  cases z:gq.lookup a with
  |none=>rfl
  |some q=>exact absurd z (Db q)
 have Br:∀(G:Hp) b q,gq.lookup b=some q->bC P w (kQ gq G) s₁.heap b (.tbl q):=λG b q z=>⟨#[],(ht b q z).1,trivial,λpos cv c=>by cases c⟩;cases hk:K.lookup a with
 |some o=>
  have e:=KX a o hk;rw[ha]at e;cases e
  refine F4 (kQ gq λ_=>none) (λb=>?_) (λb q z=>de z) (.inr ⟨_,vs.toArray,_,hk,rfl,rfl,rfl,by rw[vG,Ij];exact hl,by simpa using rv⟩) (λb u z=>?_) (λb q z=>?_) (λb o u z=>?_) λb o u z=>?_
  all_goals cases zt:gq.lookup b with
   |none=>first|exact .inl (fz zt)|(rw[fz zt]at z;cases z)
   |some q'=>first|exact .inr (.inr ⟨q',de zt⟩)|(rw[de zt]at z;cases z;done)|(rw[de zt]at z;cases z;first|exact Br _ b _ zt|exact ht b _ zt)
 |none=>
  refine F4 (kQ gq λb=>if b=a then some (.frz { cls:=.type "list",data:=.seq vs.toArray } (.lst (ns.map V.int)))else none) (λb=>?_) (λb q z=>de z) (.inl (.inr ⟨{ cls:=.type "list",data:=.seq vs.toArray },by rw[fz ta,if_pos rfl]⟩)) (λb u z=>?_) (λb q z=>?_) (λb o u z=>?_) λb o u z=>?_
  all_goals cases zt:gq.lookup b with
   |some q'=>first|exact .inr (.inr ⟨q',de zt⟩)|(rw[de zt]at z;cases z;done)|(rw[de zt]at z;cases z;first|exact Br _ b _ zt|exact ht b _ zt)
   |none=>
    first
    |rw[fz zt]at z
    |rw[fz zt]
    by_cases hb:b=a
    ·first
     |rw[if_pos hb]at z
     |rw[if_pos hb]
     first
     |exact .inr (.inl ⟨_,_,rfl⟩)
     | (cases z;subst hb;exact⟨ha,by rw[vH];exact hl,vs,_,rv,ha⟩)
     |exact hb
     | (rw[hb];exact hk)
     |cases z
    ·first
     | (rw[if_neg hb]at z;cases z)
     |exact .inl (if_neg hb)
noncomputable def oh (L:List (Str×Option (Addr×Addr))):List (Addr×Str):=L.filterMap λp=>p.2.map λq=>(q.2,Ci p.1)
structure kB (K:Frag)(L:List (Str×Option (Addr×Addr))):Prop where
 names:L=oV.map λx=>(x,PySem.W.tabIn K x)
 apart:((oh L).map (·.1)).Nodup
 none:PySem.W.noTabs K=true
theorem gZ {α β:Type}[BEq α][LawfulBEq α]:∀ {l:List (α×β)}{a:α}{b:β},(l.map (·.1)).Nodup->(a,b)∈l->l.lookup a=some b
 | (c,d)::l,a,b,nd,h=>by
  rw[List.lookup_cons];rcases vP h with e|h
  ·cases e;simp
  ·have ne:a≠c:=λz=>(List.nodup_cons.mp nd).1 (by rw[←z];exact List.mem_map.mpr ⟨(a,b),h,rfl⟩);rw[show(a == c)=false by simpa using ne];exact gZ (List.nodup_cons.mp nd).2 h
theorem gu {α β:Type}[BEq α][LawfulBEq α]:∀ {l:List (α×β)}{a:α}{b:β},l.lookup a=some b->(a,b)∈l
 | (c,d)::l,a,b,h=>by
  rw[List.lookup_cons]at h;cases e:a == c with
  |true=>rw[e]at h;cases h;rw[eq_of_beq e];exact mX
  |false=>rw[e]at h;exact mZ _ (gu h)
theorem kB.tb {K:Frag}{L:List (Str×Option (Addr×Addr))}(F:kB K L){H:Hp}(h:∀b q,(oh L).lookup b=some q->H b=some (.tbl q)):Tb K H:=λx hx c P e=>by
 refine h P (Ci x) (gZ F.apart ?_);rw[F.names];exact List.mem_filterMap.mpr ⟨(x,PySem.W.tabIn K x),List.mem_map.mpr ⟨x,hx,rfl⟩,by rw[e];rfl⟩
theorem tab_no {K:Frag}{x:Str}(e:nsIn K mainGlobals x=some none):PySem.W.tabIn K x=none:=by unfold PySem.W.tabIn;rw[e]
theorem tabs_fit {K:Frag}{t0 t1 t2 t3 t4:Option (Addr×Addr)}(h0:PySem.W.tabIn K "in_order" = t0)(h1:PySem.W.tabIn K "has_seal" = t1)(h2:PySem.W.tabIn K "is_first_death" = t2)(h3:PySem.W.tabIn K "bases_by" = t3)(h4:PySem.W.tabIn K "as_heard" = t4)
  (ap:((oh [("in_order",t0),("has_seal",t1),("is_first_death",t2),("bases_by",t3),("as_heard",t4)]).map (·.1)).Nodup) (nt:PySem.W.noTabs K=true):kB K [("in_order",t0),("has_seal",t1),("is_first_death",t2),("bases_by",t3),("as_heard",t4)] :=
 ⟨by subst h0;subst h1;subst h2;subst h3;subst h4;rfl,ap,nt⟩
theorem eJ.law {P:Program}{w:World}{K:Frag}{mg:Str->Option Value}{x y:Str}{st:Stmt}{N:List Str}{k:Nat}{g:FS}{h:Heap}{fa:Addr}(F:eJ K x st)(X:K.In h)(G:h.Ns mainGlobals mg)(Ik:mg x=some (.ref fa))(S:FnScope N [y] (ay st))
  (ub:∀(kV doc pm:Value)(an:Option Addr)(cz ct:Value)(u:Value),bindArgs (fnOf x x (cV st) (bD st) (ay st) .none kV doc pm an cz ct) ⟨[u],[]⟩=pure [(y,u)])
  (hb:∀(base:Heap),K.In base->base.Ns mainGlobals mg->∀(f:Addr)(cz:Value)(A:Around)(outer:List PySem.Env)(s:Shared)(H:Hp)(E:XK),dz k (A.deeper (envOfC x (ay st) s.heap.objs.size f cz))->oI (jY qT P w K mg base N x (ay st) f cz A outer s H E).nox (bD st) g):
  ∃fd:FuncData,(∀(s:Shared)(u:Value),BindsTo s fd ⟨[u],[]⟩ [(y,u)])/\∀base:Heap,K.In base->base.Ns mainGlobals mg->jG P w K mg base qT (k+1) fa fd [y] (AU K (aL g 1 (N.length - 1))):=by
 obtain⟨f,fd,F1,a⟩:=F;have e:=Ik.symm.trans (mg_of X G a);cases e
 refine⟨fd,λs u=>?_,λbase kb nb=>E9 F1 S (hb base kb nb _)⟩;obtain⟨oc,od,kV,doc,pm,an,cz,ct,lX,rfl,lk,jX⟩:=F1.ex;exact .of_eq (ub kV doc pm an cz ct u)
section
variable {X:Cx}{a b e:Expr}{pos:Pos}{x:Str}{p:Pos}
@[simp] noncomputable def zP:D->D->OB
 |.lst xs,.lst ys=>if xs.length+ys.length<=sizeLine then some (.lst (xs++ys),true)else none
 |_,_=>none
theorem C0:bY X (binaryOp .Add) (rD X.K zP):=by
 intro aa s σ H x y v u Q I rx ry q;obtain⟨B,dx,dy,d,bb,sB,ix,iy,ee,q⟩:=q;cases ix<;>try (cases ee;done)
 all_goals (cases iy<;>try (cases ee;done))
 rename_i l vs ds h hl l' ws es h' yR;simp only[zP]at ee;split at ee
 ·rename_i hz;cases ee
  cases rx
  cases ry
  obtain⟨its,r1,p1,z1⟩:=I.list (sB.seq h);obtain⟨m6,r2,p2,z2⟩:=I.list (sB.seq h');obtain⟨⟨c1,d1,t1,s1⟩,o1,e1,n1,k1⟩:=p1.isList;obtain⟨⟨c2,d2,t2,s2⟩,o2,e2,n2,k2⟩:=p2.isList;dsimp only at e1 k1 e2 k2;subst e1;subst k1;subst e2;subst k2;have hsz:its.toArray.size+m6.toArray.size<=sizeLine:=by
   rw[vG,vG,←r1.length,←r2.length,hl.length,yR.length];exact hz
  have ea:its.toArray++m6.toArray=(its++m6).toArray:=by simp
  refine concat_meets ⟨_,o1,rfl⟩ ⟨_,o2,rfl⟩ noFill_list_add seq_list_add PySem.F.slot_list_add PySem.F.entry_list_add (PySem.F.args_list_add_2 _ _) (list_addW l l' its.toArray m6.toArray n1 n2 d1 d2 s1 s2 hsz) ⟨o1,o2,?_⟩;rw[ea];have xt:=Ext.laid (o:=.lst (vs++ws)) sB I.fresh;have il:=(hl.append yR).mono xt.bn;exact⟨.ref s.heap.objs.size,_,I.lnew (t':=s.toks) (r1.append r2) (by rw[uZ,hl.length,yR.length];exact hz),rfl,q _ _ _ xt (.lst (eP.of au) il) λ_=>⟨_,_,_,rfl,rfl,I.fresh,au,il⟩⟩
 ·cases ee
@[simp] noncomputable def zQ:D->D->OB
 |.tup xs,.tup ys=>if xs.length+ys.length<=sizeLine/\xs.isEmpty=false then some (.tup (xs++ys),false)else none
 |_,_=>none
theorem C1:bY X (binaryOp .Add) (rD X.K zQ):=by
 refine gs zp λx y H Q q=>?_;obtain⟨B,dx,dy,d,bb,sB,ix,iy,ee,q⟩:=q;cases ix<;>try (cases ee;done)
 all_goals (cases iy<;>try (cases ee;done))
 rename_i l vs ds h hl l' ws es h' yR;simp only[zQ]at ee;split at ee
 ·rename_i hz;cases ee
  have l1:=hl.length;have l2:=yR.length;refine⟨l,l',vs,ws,rfl,rfl,aK sB h,aK sB h',λz=>?_,by omega,λz=>?_,λ_ pp hp=>?_⟩
  ·subst z;cases hl
   simp at hz
  ·subst z;cases yR
   rw[uQ]at q;exact q.one sB (.tup h hl)
  ·have xt:=Ext.laid (o:=.tup (vs++ws)) sB hp;exact q _ _ _ xt (.tup (fg.of au) ((hl.append yR).mono xt.bn)) (by simp)
 ·cases ee
@[simp] noncomputable def xa:D->D->OB
 |.bl i,.int j=>some (.int ((if i=true then 1 else 0)+j),false)
 |.int i,.bl j=>some (.int (i+b2i j),false)
 |_,_=>none
theorem C2:bY X (binaryOp .Add) (rD X.K xa):=by
 intro aa s σ H x y v u Q I rx ry q;obtain⟨B,dx,dy,d,bb,sB,ix,iy,ee,q⟩:=q;cases ix<;>try (cases ee;done)
 all_goals (cases iy<;>try (cases ee;done))
 ·simp only[xa]at ee;cases ee
  cases rx
  obtain⟨t,rfl⟩:=ry;exact IntBool.add_bool_int ⟨.int _,H,I.tok _,⟨_,rfl⟩,q.one sB (.int _)⟩
 ·simp only[xa]at ee;cases ee
  exact ui aa s σ H _ _ v u Q I rx ry ⟨_,_,rfl,rfl,q.one sB (.int _)⟩
@[simp] noncomputable def bv:D->D->OB
 |.int i,.int j=>some (.int (i+j),false)
 |.str i,.str j=>if i.length+j.length<=sizeLine then some (.str (i++j),false)else none
 |.lst xs,.lst ys=>if xs.length+ys.length<=sizeLine then some (.lst (xs++ys),true)else none
 |.tup xs,.tup ys=>if xs.length+ys.length<=sizeLine/\xs.isEmpty=false then some (.tup (xs++ys),false)else none
 |.bl i,.int j=>some (.int ((if i=true then 1 else 0)+j),false)
 |.int i,.bl j=>some (.int (i+b2i j),false)
 |_,_=>none
theorem bg:bY X (binaryOp .Add) (rD X.K bv):=by
 refine gs (r:=rD X.K (yI sQ (yI zP (yI zQ xa)))) (kN zN (kN C0 (kN C1 C2))) λx y H Q q=>?_;obtain⟨B,dx,dy,d,bb,sB,ix,iy,ee,q⟩:=q;refine⟨B,dx,dy,d,bb,sB,ix,iy,?_,q⟩;cases dx<;>try (cases ee;done)
 all_goals (cases dy<;>try (cases ee;done))
 all_goals (simp[bv]at ee;simp[yI,sQ,zP,zQ,xa,ee])
@[simp] noncomputable def Hq:D->Option Bool
 |.bl b=>some b
 |_=>none
def qZ:List D->Option (List Bool)
 |[]=>some []
 |d::ds=>(Hq d).bind λb=>(qZ ds).map (b :: ·)
@[simp] theorem EC:qZ []=some []:=rfl
@[simp] theorem u0 (d:D)(ds:List D):qZ (d::ds)=(Hq d).bind λb=>(qZ ds).map (b :: ·):=rfl
theorem sX {K:Frag}{B:Hp}:∀ {vs:List V}{ds:List D}{bs:List Bool}{its:List Value},L2.a9 vs its->IsL K B vs ds->qZ ds=some bs->its=bs.map Value.bool
 |_,_,_,_,.nil,.nil,e=>by cases e;rfl
 |_,_,_,_,.cons r rr,.cons i ii,e=>by
  rw[u0]at e;obtain⟨b,e1,e⟩:=oX e;obtain⟨bs,e2,e⟩:=oY e;subst e;cases i<;>simp only[Hq]at e1<;>try (cases e1;done)
  cases e1
  cases r
  rw[sX rr ii e2];rfl
@[simp] def mi:List D->OB
 |[.lst ds]=>(qZ ds).map λbs=>(.bl (bs.all id),false)
 |_=>none
theorem p6 (hc:X.calm=true:=by rfl):b7 X (.builtin "all") (yH X.K mi):=by
 intro aa s σ H xs us Q I rs q;obtain⟨B,ds,d,bb,sB,i,ee,q⟩:=q;cases i with
 |nil=>cases ee
 |cons i1 i=>
  cases i with
  |cons _ _=>cases i1<;>cases ee
  |nil=>
   cases i1<;>try (cases ee;done)
   rename_i l vs es h hl;obtain⟨bs,eb,ee⟩:=oY ee;cases ee
   obtain⟨u1,rfl,r1⟩:=iK rs;cases r1
   obtain⟨its,rv,p1,z1⟩:=I.list (sB.seq h);have ei:=sX rv hl eb;have eO:l<s.heap.objs.size:=by obtain⟨_,e0,_⟩:=p1.isList;exact vX e0
   refine call_all_walk (wpAny_pyIter_list p1.isList ⟨_,_,_,_,_,_,λj=>(bs[j]?).getD true,rfl,Walks.list (A:=X.A.in1) (I.ok.hd hc) s.heap.objs.size l (vS eO) its.toArray,⟨⟨_,vY _ rfl,rfl,rfl⟩,p1.isList.push _⟩,λj v s' Q' E' hP hQ=>?_,λh' tk hk=>?_⟩)
   ·have JK:its[j]? = some v:=by simpa using hP
    rw[ei,vA]at JK;obtain⟨c,e1,e2⟩:=oY JK;subst e2;dsimp only at hQ;rw[e1]at hQ;exact wpAny_truthy_bool hQ
   ·have ea:((List.range its.toArray.size).all λj=>(bs[j]?).getD true)=bs.all id:=by
     rw[vG,ei,vH];exact LSm.range_all bs
    rw[ea];refine⟨.bl _,H,I.kept λc o e0=>?_,rfl,q.one sB (.bl _)⟩;exact hk c o (λhm=>by rw[List.mem_singleton.mp hm]at e0;exact Nat.lt_irrefl _ (vX e0)) (vZ _ e0)
end
noncomputable def Gk (z:Str):It:=⟨λi _=>i<z.cps.size,λi H v H'=>H'=H/\∃c,z.cps[i]? = some c/\v=.str ⟨#[c]⟩,λi _=>z.cps.size<=i⟩
theorem p7 {P:Program}{w:World}{K:Frag}{tg:Expr}(z:Str)(t:Tok)(it:Addr):Turn P w K tg (Gk z) [it] it (λi h=>h.IsStrIter it "str_ascii_iterator" z t i) where
 mem:=List.mem_singleton.mpr rfl
 obj:=λi h st b hb=>by
  have eb:=List.mem_singleton.mp hb;subst eb;obtain⟨o,e1,_,d1⟩:=st;exact⟨o,e1,λv zz=>by rw[d1]at zz;cases zz⟩
 keep:=λi h h' st k=>let ⟨o,e1,r⟩:=st;⟨o,k it (List.mem_singleton.mpr rfl) o e1,r⟩
 item:=by
  intro X hP hw hK hc i aa s σ H E I hf st hg;subst hP hw hK;have Dc:i<z.cps.size:=hg;obtain⟨f0,f1,f2,f3,f4,f5⟩:=hf it (List.mem_singleton.mpr rfl);refine wpAny_pyNext_ascii_item st (c:=z.cps[i]) (by simp[Dc]) λh' ax sb=>?_;obtain⟨o,e1,c1,d1⟩:=id ax;exact⟨_,rfl,oR (s:={ s with heap:=h',toks:=s.toks+1 }) e1 c1 d1 (by decide) ⟨.str ⟨#[z.cps[i]]⟩,H,I.turned (λb o hb e2=>(sb.2 b hb).trans e2) f0 f1 f3 f4 f5,⟨_,rfl⟩,⟨rfl,_,by simp[Dc],rfl⟩,ax,λb hb=>(hf b hb).1⟩⟩
 done:=by
  intro X hP hw hK hc i aa s σ H E I hf st hg;subst hP hw hK;have Dc:z.cps.size<=i:=hg;obtain⟨f0,f1,f2,f3,f4,f5⟩:=hf it (List.mem_singleton.mpr rfl);exact wpAny_pyNext_ascii_end (I.ok.hd hc) st (by simp;omega) λh' eb=>⟨rfl,I.turned (t':=s.toks) (λb o hb e2=>eb b o hb e2) f0 f1 f3 f4 f5⟩
 self:=λ_ _ _ _ _ st h=>wpAny_pyIter_striter_ascii st h
theorem p8 {P:Program}{w:World}{K:Frag}{tg:Expr}(z:Str)(t:Tok)(it:Addr):Turn P w K tg (Gk z) [it] it (λi h=>h.IsStrIter it "str_iterator" z t i) where
 mem:=List.mem_singleton.mpr rfl
 obj:=λi h st b hb=>by
  have eb:=List.mem_singleton.mp hb;subst eb;obtain⟨o,e1,_,d1⟩:=st;exact⟨o,e1,λv zz=>by rw[d1]at zz;cases zz⟩
 keep:=λi h h' st k=>let ⟨o,e1,r⟩:=st;⟨o,k it (List.mem_singleton.mpr rfl) o e1,r⟩
 item:=by
  intro X hP hw hK hc i aa s σ H E I hf st hg;subst hP hw hK;have Dc:i<z.cps.size:=hg;obtain⟨f0,f1,f2,f3,f4,f5⟩:=hf it (List.mem_singleton.mpr rfl);refine wpAny_pyNext_wide_item st (c:=z.cps[i]) (by simp[Dc]) λh' ax sb=>?_;obtain⟨o,e1,c1,d1⟩:=id ax;exact⟨_,rfl,oR (s:={ s with heap:=h',toks:=s.toks+1 }) e1 c1 d1 (by decide) ⟨.str ⟨#[z.cps[i]]⟩,H,I.turned (λb o hb e2=>(sb.2 b hb).trans e2) f0 f1 f3 f4 f5,⟨_,rfl⟩,⟨rfl,_,by simp[Dc],rfl⟩,ax,λb hb=>(hf b hb).1⟩⟩
 done:=by
  intro X hP hw hK hc i aa s σ H E I hf st hg;subst hP hw hK;have Dc:z.cps.size<=i:=hg;obtain⟨f0,f1,f2,f3,f4,f5⟩:=hf it (List.mem_singleton.mpr rfl);exact wpAny_pyNext_wide_end (I.ok.hd hc) st (by simp;omega) λh' eb=>⟨rfl,I.turned (t':=s.toks) (λb o hb e2=>eb b o hb e2) f0 f1 f3 f4 f5⟩
 self:=λ_ _ _ _ _ st h=>wpAny_pyIter_striter_wide st h
section
variable {X:Cx}{a b e:Expr}{pos:Pos}{x:Str}{p:Pos}{tg:Expr}
theorem xc {l:Expr}{tl:TE}(hl:PE X l tl):PI X tg l (λσ H R=>tl σ H λx H1=>∃z,x=.str z/\R (Gk z) H1):=by
 intro aa s σ H R I h;refine bH (hl aa s σ H _ I h) λv s1 ⟨x,H1,I1,r1,q1⟩=>?_;obtain⟨z,rfl,q⟩:=q1;obtain⟨t,rfl⟩:=r1;have fp:∀b∈[s1.heap.objs.size],iJ X aa H1 b:=λb hb=>by
  rw[List.mem_singleton.mp hb];exact I1.fpOk (vT _) (I1.hok.fresh (vT _))
 cases ha:z.cps.all (· < 128) with
 |true=>exact wpAny_pyIter_ascii ha ⟨_,[s1.heap.objs.size],_,_,H1,rfl,I1.kept (t':=s1.toks) λb o e=>vZ _ e,p7 z t _,⟨_,vY _ rfl,rfl,rfl⟩,fp,q⟩
 |false=>exact wpAny_pyIter_wide ha ⟨_,[s1.heap.objs.size],_,_,H1,rfl,I1.kept (t':=s1.toks) λb o e=>vZ _ e,p8 z t _,⟨_,vY _ rfl,rfl,rfl⟩,fp,q⟩
noncomputable def p9 (z:Str):List D:=z.cps.toList.map λc=>.str ⟨#[c]⟩
theorem xf {K:Frag}{B:Hp}(z:Str):mf K (Gk z) B (p9 z):=by
 intro i H s;refine⟨λd ed=>?_,λhl=>by unfold p9 at hl;show z.cps.size<=i;simpa using hl⟩;unfold p9 at ed;rw[vA]at ed;obtain⟨c,ec,rfl⟩:=oY ed;have JL:z.cps[i]? = some c:=by simpa using ec
 refine⟨(Array.getElem?_eq_some_iff.mp JL).1,λv H' hy=>?_⟩;obtain⟨rfl,c',e1,rfl⟩:=hy;rw[JL]at e1;cases e1;exact⟨B,.refl s,.str _⟩
@[simp] def C3:D->Option (List D)
 |.lst ds=>some ds
 |.tup ds=>some ds
 |.str z=>some (p9 z)
 |_=>none
@[simp] def cE (f:FE):FA:=λρ=>(f ρ).bind λx=>C3 x.1
theorem cM (h:JE X e f):JI X tg e (cE f):=by
 intro aa s σ H R I q;obtain⟨B,ρ,ds,sB,r,e',q⟩:=q;obtain⟨xx,ex,es⟩:=oX e';obtain⟨xd,xb⟩:=xx;cases xd with
 |lst l=>exact sW h aa s σ H R I ⟨B,ρ,ds,sB,r,by unfold wV;rw[ex];exact es,q⟩
 |tup l=>exact sW h aa s σ H R I ⟨B,ρ,ds,sB,r,by unfold wV;rw[ex];exact es,q⟩
 |str z=>
  cases es
  refine xc h aa s σ H R I ⟨B,ρ,_,_,sB,r,ex,λv H1 N1 x1 i1 _=>?_⟩;cases i1
  exact⟨z,rfl,q _ H1 N1 x1 (xf z)⟩
 |_=>cases es
theorem zR:vE X (λx lo hi H Q=>∃z,x=.str z/\z.length<=sizeLine/\Q (.str (Txt.slice z lo hi)) H):=by
 intro aa s σ H x v vl vu lo hi sl Q I rx hs pl pu h;obtain⟨z,rfl,hz,q⟩:=h;obtain⟨t,rfl⟩:=rx;have fin:∀lo hi,Q (.str (Txt.slice z lo hi)) H->(Txt.slice z lo hi).length<=sizeLine/\∀t' k,EP X aa σ Q (.str (Txt.slice z lo hi) t') { s with toks:=k }:=λlo hi q=>
  ⟨vR (Txt.slice_le z _ _) hz,λt' k=>⟨.str _,H,I.tok k,⟨t',rfl⟩,q⟩⟩
 refine⟨"str",_,PySem.F.slot_str_getitem.lookup,typeIs_str _ _ _,?_⟩;cases pl with
 |none=>
  cases pu with
  |none=>exact wpAny_getItem_str_slice (l:=none) (u:=none) (st:=none) hs rfl (post_val_or_str (fin _ _ q))
  |int j tj=>exact wpAny_getItem_str_slice (l:=none) (u:=some (j,tj)) (st:=none) hs rfl (post_val_or_str (fin _ _ q))
 |int i ti=>
  cases pu with
  |none=>exact wpAny_getItem_str_slice (l:=some (i,ti)) (u:=none) (st:=none) hs rfl (post_val_or_str (fin _ _ q))
  |int j tj=>exact wpAny_getItem_str_slice (l:=some (i,ti)) (u:=some (j,tj)) (st:=none) hs rfl (post_val_or_str (fin _ _ q))
theorem u6 {A:Around}{E:Value->Shared->Prop}{s:Shared}{prog:Program}{w:World}{t sl:Addr}{am:Array Value}{vl vu:Value}{lo hi:Option Int}{Q:Value->Shared->Prop}(ht:IsTup s.heap t am)(hs:s.heap.IsSliceOf sl vl vu .none)(pl:IsPart vl lo)(pu:IsPart vu hi)
  (h0:HT.bX am.size 0 lo=0) (h1:HT.bX am.size am.size hi=am.size) (h:Q (.ref t) s):wpAny (model prog w) A (getItem (.ref t) (.ref sl)) Q E s:=by
 obtain⟨os,A5,G0,A6⟩:=id hs
 have hT:s.TypeIs (.ref sl) "slice":=⟨os,A5,G0⟩
 unfold getItem
 try with_reducible refine wpAny_holding ?_
 first|refine wX (wY ?_)|skip
 refine wX (wpAny_sequenceKey ht.typeIs (by decide) ?_)
 refine wX (wpAny_callSpecial?_slot (name:=Str.ofString "__getitem__") ht.typeIs PyProof.Rows.slot_tuple_getitem (wpAny_call_entry PyProof.Rows.slot_tuple_getitem ht.typeIs entry_tuple_getitem ?_ (args_tuple_getitem _ _)))
 show wpAny _ _ (Builtin.Tuple.tupleItemsOf (.ref t)>>=_) _ _ s
 refine wX (tupleItemsOf_ ht ?_)
 refine wX (wpAny_typeOf hT ?_)
 rw[if_pos (by decide)]
 refine wX (HT.fj hs pl pu ?_)
 have LD:(((HT.bX am.size 0 lo:Nat):Int) == 0 && (1:Int) == 1 && (HT.bX am.size am.size hi - HT.bX am.size 0 lo) == am.size)=true:=by
  rw[h0,h1];simp
 show wpAny _ _ (if(((HT.bX am.size 0 lo:Nat):Int) == 0 && (1:Int) == 1 && (HT.bX am.size am.size hi - HT.bX am.size 0 lo) == am.size)=true then _ else _) _ _ s
 rw[if_pos LD]
 refine wX ?_
 unfold Builtin.Tuple.tupleIsExact
 refine wX (wpAny_typeOf ht.typeIs (wY ?_))
 show wpAny _ _ (if((Value.type "tuple") == Value.type "tuple")=true then _ else _) _ _ s
 rw[if_pos (by decide)]
 refine wX (wpAny_rule ?_)
 exact wY ⟨_,rfl,wY h⟩
theorem zS:vE X (λx lo hi H Q=>∃a xs,x=.ref a/\fg X.K H a xs/\HT.bX xs.length 0 lo=0/\HT.bX xs.length xs.length hi=xs.length/\Q (.ref a) H):=by
 intro aa s σ H x v vl vu lo hi sl Q I rx hs pl pu h;obtain⟨a,xs,rfl,hx,h0,h1,q⟩:=h;cases rx
 obtain⟨its,r,ht,hz⟩:=I.tuple hx;have bp:its.toArray.size=xs.length:=by rw[vG];exact r.length.symm
 refine⟨"tuple",_,PyProof.Rows.slot_tuple_getitem.lookup,ht.typeIs,?_⟩;exact u6 ht hs pl pu (by rw[bp];exact h0) (by rw[bp];exact h1) ⟨.ref a,H,I,rfl,q⟩
@[simp] def yL (fa:FE)(fl fh:FO):FE:=λρ=>(fa ρ).bind λx=>(fl ρ).bind λl=>(fh ρ).bind λh=>match x.1 with
 |.lst ds=>some (.lst (kO ds l h),true)
 |.tup ds=>some (.tup (kO ds l h),false)
 |.str z=>if z.length<=sizeLine then some (.str (Txt.slice z l h),false)else none
 |_=>none
theorem ra {ds:List D}{lo hi:Option Int}(h0:HT.bX ds.length 0 lo=0)(h1:HT.bX ds.length ds.length hi=ds.length):kO ds lo hi=ds:=by
 unfold kO;rw[h0,h1];simp
theorem gv {lo hi:Option Expr}{p2:Pos}{fa:FE}{fl fh:FO}(ha:JE X e fa)(hl:JO X lo fl)(hh:JO X hi fh):JE X (.Subscript e (.Slice lo hi none p2) pos) (yL fa fl fh):=by
 refine PE.to (wv (vE.or (vE.or zu Cc) (vE.or zR zS)) ha hl hh) λσ H Q q=>?_;obtain⟨B,ρ,d,b,sB,r,e,q⟩:=q;obtain⟨x,ex,e⟩:=oX e;obtain⟨l,el,e⟩:=oX e;obtain⟨h,eh,e⟩:=oX e;refine⟨B,ρ,x.1,x.2,sB,r,ex,λv H1 N1 x1 i1 _=>⟨N1,ρ,l,x1.nh,r.mono x1.bn,el,λH2 h2=>⟨N1,ρ,h,x1.nh.trans h2,r.mono x1.bn,eh,λH3 h3=>?_⟩⟩⟩;have s3:aF N1 H3:=x1.nh.trans (h2.trans h3);have q3:=q.into (x1.trans (.grow x1.nh (h2.trans h3)));obtain⟨xd,xb⟩:=x;dsimp only at e i1;cases i1 with
 |@tup a' vs ds hs hv=>
  cases e
  by_cases hw:HT.bX ds.length 0 l=0/\HT.bX ds.length ds.length h=ds.length
  ·rw[ra hw.1 hw.2]at q3;exact .inr (.inr ⟨a',vs,rfl,aK s3 hs,by rw[hv.length];exact hw.1,by rw[hv.length];exact hw.2,q3.one s3 (.tup hs hv)⟩)
  ·refine .inl (.inr ⟨a',vs,rfl,aK s3 hs,by rw[hv.length];exact hw,λp hp=>?_⟩);have x4:=Ext.laid (o:=.tup (lY vs l h)) s3 hp;exact q3 _ _ _ x4 (.tup (fg.of au) ((og hv).mono x4.bn)) (by simp)
 |@lst a' vs ds hs hv=>
  cases e
  refine .inl (.inl ⟨a',vs,rfl,s3.seq hs,λp hp=>?_⟩);have x4:=Ext.laid (o:=.lst (lY vs l h)) s3 hp;exact q3 _ _ _ x4 (.lst (eP.of au) ((og hv).mono x4.bn)) λ_=>⟨p,_,_,rfl,rfl,hp,au,(og hv).mono x4.bn⟩
 |str z=>
  dsimp only at e;split at e
  ·rename_i hz;cases e
   exact .inr (.inl ⟨z,rfl,hz,q3.one s3 (.str _)⟩)
  ·cases e
 |_=>cases e
theorem const_int {K:Frag}{y:Str}{i:Int}{t:Tok}(e:nsIn K mainGlobals y=some (some (.int i t))):∃u v,nsIn K mainGlobals y=some (some u)/\aG v u/\∀B,Is K B v (.int i):=⟨_,.int i,e,⟨t,rfl⟩,λ_=>.int i⟩
noncomputable def oi:Value->D->Bool
 |.none,.non=>true
 |.bool a,.bl b=>a == b
 |.int i _,.int j=>decide (i=j)
 |.str i _,.str j=>decide (i=j)
 |_,_=>false
def fR:List Value->List D->Bool
 |[],[]=>true
 |u::us,d::ds=>oi u d && fR us ds
 |_,_=>false
theorem gI {K:Frag}{B:Hp}:∀ {u:Value}{d:D},oi u d=true->∃v,aG v u/\Is K B v d
 |.none,.non,_=>⟨.non,rfl,.non⟩
 |.bool a,.bl b,h=>by
  have:a=b:=eq_of_beq h;subst this;exact⟨.bl a,rfl,.bl a⟩
 |.int i t,.int j,h=>by
  have:i=j:=of_decide_eq_true h;subst this;exact⟨.int i,⟨t,rfl⟩,.int i⟩
 |.str i t,.str j,h=>by
  have:i=j:=of_decide_eq_true h;subst this;exact⟨.str i,⟨t,rfl⟩,.str i⟩
theorem fT {K:Frag}:∀ {us:List Value}{ds:List D},fR us ds=true->∃vs,L2.a9 vs us/\∀B,IsL K B vs ds
 |[],[],_=>⟨[],.nil,λ_=>.nil⟩
 |u::us,d::ds,h=>by
  rw[fR,vC]at h;obtain⟨vs,r,i⟩:=fT (K:=K) h.2;obtain⟨v,r1,_⟩:=gI (K:=K) (B:=λ_=>none) h.1;refine⟨v::vs,.cons r1 r,λB=>?_⟩;obtain⟨v',Il,i'⟩:=gI (K:=K) (B:=B) h.1;have:v'=v:=by have z1:=r1.abs;rw[Il.abs]at z1;exact vK z1
  subst this;exact .cons i' (i B)
theorem const_tup {K:Frag}{y:Str}{a:Addr}{od:Option Addr}{its:Array Value}{n:Nat}{lX:Array (Option Value)}{ds:List D}(e:nsIn K mainGlobals y=some (some (.ref a)))
  (l:K.lookup a=some ⟨.type "tuple",od,.seq its n,lX⟩) (h:(decide (its.size<=1000) && fR its.toList ds)=true):∃u v,nsIn K mainGlobals y=some (some u)/\aG v u/\∀B,Is K B v (.tup ds):=by
 rw[vC]at h;obtain⟨vs,r,i⟩:=fT (K:=K) h.2;exact⟨_,.ref a,e,rfl,λB=>.tup (.inr ⟨_,its,n,l,rfl,rfl,Nat.le_of_lt (Nat.lt_of_le_of_lt (of_decide_eq_true h.1) (by decide)),r⟩) (i B)⟩
end
section
variable {X:Cx}{a b o e:Expr}{pos:Pos}{x:Str}{p:Pos}{tg:Expr}
theorem C4 {name:Str}{id:String}{dM c9:Pos}{op:D->D->OB}{fo fe:FE}(slot:Slot "str" name id)(yQ:typeOf (.builtin id)=pure (.type "method_descriptor"))
  (hm:yF X id (λx xs H Q=>∃y,xs=[y]/\rD X.K op x y H Q)) (y9:∀dx dy r,op dx dy=some r->∃z,dx=.str z) (ho:JE X o fo) (he:JE X e fe)
  (fH:attributeBase o name X.env (eval o X.env)=eval o X.env:=by rfl)
  (oG:((backTo c9 (starEach [e] X.env)).all (λx=>!x.1) && (backToKw c9 (keywordEach [] X.env)).all (λx=>x.1.isSome)
   && decide ([e].length+([]:List Keyword).length+(if([]:List Keyword).isEmpty then 0 else 1)<30))=true:=by rfl)
  (fJ:(dM.endLine == c9.line)=true:=by rfl) (hs:starEach [e] X.env=[(false,eval e X.env)]:=by rfl):
  JE X (.Call (.Attribute o name dM) [e] [] c9) (f2 op fo fe):=by
 refine PE.to (sA PySem.F.plainAttrs_str slot yQ hm ho (dG he fN hs) fH oG fJ hs rfl) λσ H Q q=>?_;obtain⟨B,ρ,d,bb,sB,r,ee,q⟩:=q;obtain⟨x1,ex,ee⟩:=oX ee;obtain⟨y1,ey,ee⟩:=oX ee;obtain⟨z,hz⟩:=y9 _ _ _ ee;refine⟨B,ρ,x1.1,x1.2,sB,r,ex,λv H1 N1 Im i1 _=>?_⟩;rw[hz]at i1;cases i1
 refine⟨show "str" = "str" from rfl,N1,ρ,y1.1,y1.2,Im.nh,r.mono Im.bn,ey,λv2 H2 N2 uc i2 _=>⟨v2,rfl,N2,.str z,y1.1,d,bb,uc.nh,.str z,i2,by rw[←hz];exact ee,q.into (Im.trans uc)⟩⟩
@[simp] noncomputable def C5:D->Option Str
 |.str z=>some z
 |_=>none
def eM:List D->Option (List Str)
 |[]=>some []
 |d::ds=>(C5 d).bind λz=>(eM ds).map (z :: ·)
@[simp] theorem D1:eM []=some []:=rfl
@[simp] theorem rb (d:D)(ds:List D):eM (d::ds)=(C5 d).bind λz=>(eM ds).map (z :: ·):=rfl
@[simp] theorem D2 (zs:List Str):eM (zs.map D.str)=some zs:=by
 induction zs with
 |nil=>rfl
 |cons z zs ih=>simp[ih]
theorem fB {K:Frag}{B:Hp}:∀ {vs:List V}{ds:List D}{zs:List Str}{its:List Value},L2.a9 vs its->IsL K B vs ds->eM ds=some zs->StrsAre its zs
 |_,_,_,_,.nil,.nil,e=>by cases e;exact .nil
 |_,_,_,_,.cons r rr,.cons i ii,e=>by
  rw[rb]at e;obtain⟨z,e1,e⟩:=oX e;obtain⟨zs,e2,e⟩:=oY e;subst e;cases i<;>simp only[C5]at e1<;>try (cases e1;done)
  cases e1
  obtain⟨t,rfl⟩:=r;exact .cons _ t (fB rr ii e2)
@[simp] def iT:D->D->OB
 |.str sep,.lst ds=>(eM ds).bind λzs=>if(zs.map (·.length)).sum+zs.length*sep.length<=16777216 then some (.str (Txt.join sep zs),false)else none
 |.str sep,.tup ds=>(eM ds).bind λzs=>if(zs.map (·.length)).sum+zs.length*sep.length<=16777216 then some (.str (Txt.join sep zs),false)else none
 |_,_=>none
theorem C6:yF X "str.join" (λx xs H Q=>∃y,xs=[y]/\rD X.K iT x y H Q):=by
 intro aa s σ H x xs v us Q I rx rs h;obtain⟨y,rfl,B,dx,dy,d,bb,sB,ix,iy,ee,q⟩:=h;obtain⟨u1,rfl,r1⟩:=iK rs;cases ix<;>(try (simp[iT]at ee;done))
 obtain⟨t,rfl⟩:=rx;cases iy<;>(try (simp[iT]at ee;done))
 ·rename_i h hl;simp only[iT]at ee;obtain⟨zs,ez,ee⟩:=oX ee;split at ee
  ·rename_i hok;cases ee
   cases r1
   obtain⟨its,rv,p1,z1⟩:=I.tuple (aK sB h);exact join_tuple p1 (by simpa using fB rv hl ez) hok λt' k=>⟨.str _,H,I.tok k,⟨t',rfl⟩,q.one sB (.str _)⟩
  ·cases ee
 ·rename_i h hl;simp only[iT]at ee;obtain⟨zs,ez,ee⟩:=oX ee;split at ee
  ·rename_i hok;cases ee
   cases r1
   obtain⟨its,rv,p1,z1⟩:=I.list (sB.seq h);exact join_list p1.isList (by simpa using fB rv hl ez) hok λt' k=>⟨.str _,H,I.tok k,⟨t',rfl⟩,q.one sB (.str _)⟩
  ·cases ee
theorem xg (dx dy:D)(r:D×Bool)(h:iT dx dy=some r):∃z,dx=.str z:=by
 cases dx<;>first|exact⟨_,rfl⟩|(cases dy<;>simp[iT]at h)
noncomputable def dF:List Nat->List D->Env->Option Env
 |[],[],ρ=>some ρ
 |i::is,d::ds,ρ=>dF is ds (ρ.set i (some (d,false)))
 |_,_,_=>none
@[simp] theorem mN (ρ:Env):dF [] [] ρ=some ρ:=by rw[dF]
@[simp] theorem ir (i:Nat)(is:List Nat)(d:D)(ds:List D)(ρ:Env):dF (i::is) (d::ds) ρ=dF is ds (ρ.set i (some (d,false))):=by rw[dF]
@[simp] theorem ED (d:D)(ds:List D)(ρ:Env):dF [] (d::ds) ρ=none:=by simp only[dF]
@[simp] theorem EE (i:Nat)(is:List Nat)(ρ:Env):dF (i::is) [] ρ=none:=by simp only[dF]
@[simp] def re (is:List Nat):FG:=λd ρ=>match d with|.tup ds=>dF is ds ρ|_=>none
def kR:List Nat->BI
 |[]=>DZ
 |i::is=>AJ (iI i) (kR is)
theorem xh:aF (cx N (own σ ρ)) (cx N (own (σ.set i (some v)) (ρ.set i (some (d,false))))):=da λa u e q=>⟨e,λz=>q (by
 rcases nW z with⟨_,d',p⟩|⟨j,_,d',q1,q2⟩
 ·cases p
 ·exact⟨j,d',q1,q2⟩)⟩
theorem mO {K:Frag}:∀ {is:List Nat}{vs:List V}{ds:List D}{B0 H0 N H:Hp}{σ:St}{ρ ρ':Env}{Q:St->Hp->Prop},c6 K B0 H0 N H σ ρ->IsL K (cx N (own σ ρ)) vs ds->dF is ds ρ=some ρ'->(∀σ',c6 K B0 H0 N H σ' ρ'->Q σ' H)->kR is vs σ H Q
 |[],_,_,_,_,_,_,_,_,_,_,s,.nil,e,k=>by
  rw[mN]at e;cases e;exact⟨rfl,k _ s⟩
 |[],_,_,_,_,_,_,_,_,_,_,_,.cons _ _,e,_=>by simp at e
 |_::_,_,_,_,_,_,_,_,_,_,_,_,.nil,e,_=>by simp at e
 |i::is,_,_,_,_,_,_,_,_,_,_,s,.cons h hs,e,k=>by
  rw[ir]at e;exact⟨_,_,rfl,mO (s.bind h) (hs.mono xh) e k⟩
theorem j6:∀ {is:List Nat}{ds:List D}{ρ ρ':Env},dF is ds ρ=some ρ'->ds.length=is.length
 |[],[],_,_,_=>rfl
 |_::_,_::_,_,_,e=>by rw[ir]at e;simp[j6 e]
 |[],_::_,_,_,e=>by simp at e
 |_::_,[],_,_,e=>by simp at e
theorem AY {K:Frag}{is:List Nat}:z7 K (re is) (BK K is.length (kR is)):=by
 intro B0 H0 N H σ ρ ρ' v d Q s h e k;cases h with
 |@tup a vs ds ht hl=>
  have e':dF is ds ρ=some ρ':=e;exact⟨a,vs,rfl,aK (bf.trans s.ext.nh) ht,by rw[hl.length];exact j6 e',mO s hl e' λσ' s'=>k σ' H ⟨N,s'⟩⟩
 |_=>cases e
theorem mP {K:Frag}{n:Nat}{B H:Hp}{ρ0:Env}{Q:St->Hp->Prop}(cl:∀i,i<n->ρ0[i]? = some none):∀ {is:List Nat}{vs:List V}{ds:List D}{σ:St}{ρ ρ1:Env},(∀i∈is,i<n)->cU K B σ ρ->IsL K B vs ds->dF is ds ρ=some ρ1->ρ.length=σ.length->ρ.length=ρ0.length ->
  (∀σ1,cU K B σ1 ρ1->(∀B',cU K B' σ ρ0->cU K B' σ1 ρ0)->ρ0.length=σ1.length->Q σ1 H)->kR is vs σ H Q
 |[],_,_,_,_,_,_,rp,.nil,e,l1,l2,k=>by
  rw[mN]at e;cases e;exact⟨rfl,k _ rp (λ_ z=>z) (by omega)⟩
 |[],_,_,_,_,_,_,_,.cons _ _,e,_,_,_=>by simp at e
 |_::_,_,_,_,_,_,_,_,.nil,e,_,_,_=>by simp at e
 |i::is,_,_,σ,ρ,_,hn,rp,.cons (v:=v) h hs,e,l1,l2,k=>by
  rw[ir]at e;have hi:=hn i mX;have vo:i<σ.length:=by
   have:=(vV (cl i hi)).1;omega
  refine⟨_,_,rfl,mP cl (λj hj=>hn j (mZ _ hj)) ⟨rp.tb,λj d b q=>?_⟩ hs e (by simpa using l1) (by simpa using l2) λσ1 r1 r2 l=>k σ1 r1 (λB' z=>r2 B' ⟨z.tb,λj d b q=>?_⟩) l⟩
  ·rcases be q with⟨rfl,pp⟩|⟨ne,pp⟩
   ·cases pp
    exact⟨v,by simp[vo],h⟩
   ·obtain⟨w,h1,h2⟩:=rp.at' j d b pp;exact⟨w,by rw[vB ne];exact h1,h2⟩
  ·obtain⟨w,h1,h2⟩:=z.at' j d b q;have ne:i≠j:=λz=>by subst z;rw[cl i hi]at q;cases q
   exact⟨w,by rw[vB ne];exact h1,h2⟩
theorem AZ {K:Frag}{n:Nat}{is:List Nat}(hn:∀i∈is,i<n):AS K n (re is) (BK K is.length (kR is)):=by
 intro B H σ ρ ρ1 v d Q cl rep s h e hl k;cases h with
 |@tup a vs ds ht hv=>
  have e':dF is ds ρ=some ρ1:=e;exact⟨a,vs,rfl,aK s ht,by rw[hv.length];exact j6 e',mP cl hn rep hv e' hl rfl k⟩
 |_=>cases e
end
section
variable {prog:Program}{w:World}{A:Around}{E:Value->Shared->Prop}{s:Shared}
theorem rf (st:s.heap.IsTupleIter it l i)(ht:s.heap.IsTuple l am)(hv:am[i]? = some v)
  (k:∀h',h'.IsTupleIter it l (i+1)->Heap.SameBut it s.heap h'->Q v { s with heap:=h' }):wpAny (model prog w) A (Builtin.SmallTypes.nextOf (.ref it)) Q E s:=by
 obtain⟨o1,g1,c1,d1⟩:=id st;obtain⟨o2,g2,_,n2,d2⟩:=ht;unfold Builtin.SmallTypes.nextOf;refine wX (wpAny_callSpecial?_slot (name:=Str.ofString "__next__") st.typeIs PySem.F.slot_tuple_iterator_next (wpAny_call_entry PySem.F.slot_tuple_iterator_next st.typeIs PySem.F.entry_tuple_iterator_next ?_ (PySem.F.args_tuple_iterator_next_1 _)));show wpAny _ _ (field (.ref it) 0>>=_) _ _ _;refine wX (wpAny_field g1 d1 (x:=.ref l) rfl ?_);show wpAny _ _ (if(Value.ref l == Value.none)=true then _ else _) _ _ _;rw[if_neg (λz=>uX z:¬((Value.ref l == Value.none)=true))];show wpAny _ _ (field (.ref it) 1>>=_) _ _ _;refine wX (wpAny_field g1 d1 (x:=.int i 0) rfl ?_);show wpAny _ _ (seqItems? (.ref l)>>=_) _ _ _;refine wX (wpAny_seqItems g2 d2 ?_);simp only[hv,Int.toNat_natCast];refine wX (wpAny_setField g1 d1 (by simp) (wY ⟨v,rfl,wY (k _ ?_ (vW ..))⟩));exact⟨_,Heap.get?_update_self _ g1 (Obj.isFreed_of_fields (Obj.data_mapFields d1 _)),(Obj.cls_mapFields ..).trans c1,by rw[Obj.data_mapFields d1];simp[rawInt]⟩
theorem u7 (hA:A.handled=none)(st:s.heap.IsTupleIter it l i)(ht:s.heap.IsTuple l am)(hv:am[i]? = none)
  (k:∀h' x,Heap.ExtBut it s.heap h'->(∃o,h'.get? x=some o/\o.cls=.type "StopIteration")->E (.ref x) { s with heap:=h' }):wpAny (model prog w) A (Builtin.SmallTypes.nextOf (.ref it)) Q E s:=by
 obtain⟨o1,g1,c1,d1⟩:=id st;obtain⟨o2,g2,_,n2,d2⟩:=ht;unfold Builtin.SmallTypes.nextOf;refine wX (wpAny_callSpecial?_slot (name:=Str.ofString "__next__") st.typeIs PySem.F.slot_tuple_iterator_next (wpAny_call_entry PySem.F.slot_tuple_iterator_next st.typeIs PySem.F.entry_tuple_iterator_next ?_ (PySem.F.args_tuple_iterator_next_1 _)));show wpAny _ _ (field (.ref it) 0>>=_) _ _ _;refine wX (wpAny_field g1 d1 (x:=.ref l) rfl ?_);show wpAny _ _ (if(Value.ref l == Value.none)=true then _ else _) _ _ _;rw[if_neg (λz=>uX z:¬((Value.ref l == Value.none)=true))];show wpAny _ _ (field (.ref it) 1>>=_) _ _ _;refine wX (wpAny_field g1 d1 (x:=.int i 0) rfl ?_);show wpAny _ _ (seqItems? (.ref l)>>=_) _ _ _;refine wX (wpAny_seqItems g2 d2 ?_);simp only[hv,Int.toNat_natCast];refine wX (wpAny_rule (wX (wpAny_setField g1 d1 (by simp) ?_)));show wpAny _ _ (newExc (.type "StopIteration") []>>=_) _ _ _;refine wX ?_;simp only[newTuple,newExc];refine wX (wpAny_newObj_type ?_ (by size_fits));refine wX (m:=firstArgMember _ _) (wpAny_of_eq (a:=Value.none) (by first|(simp only[firstArgMember];rfl)|rfl) ?_);refine wpAny_newObj_type ?_ (by size_fits);simp only[raiseNew];refine wX (wpAny_handled ?_);first|rw[hA]|rw[show A.in1.handled=none from hA]
 exact wX (wY (wpAny_throw (k _ _ (((vW ..).extBut.push _).push _) ⟨_,vY _ rfl,rfl⟩)))
end
def iF:Bool->Heap->Addr->Addr->Nat->Prop
 |true,h,it,a,i=>h.IsListIter it a i
 |false,h,it,a,i=>h.IsTupleIter it a i
def iu:Bool->Heap->Addr->Array Value->Prop
 |true,h,a,am=>h.IsList a am
 |false,h,a,am=>h.IsTuple a am
def ke (k:Bool)(K:Frag)(H:Hp)(a:Addr)(xs:List V):Prop:=match k with|true=>eP K H a xs|false=>fg K H a xs
theorem iF.ob (st:iF k h it a i):∃o,h.get? it=some o/\∀v,o.data≠.cell v:=by
 cases k<;>(obtain⟨o,g,_,d⟩:=st;exact⟨o,g,λv z=>by rw[d]at z;cases z⟩)
theorem iF.upon (st:iF k h it a i)(g:∀o,h.get? it=some o->h'.get? it=some o):iF k h' it a i:=by
 cases k<;>(obtain⟨o,e,r⟩:=st;exact⟨o,g o e,r⟩)
theorem iu.upon (st:iu k h a am)(g:∀o,h.get? a=some o->h'.get? a=some o):iu k h' a am:=by
 cases k<;>(obtain⟨o,e,r⟩:=st;exact⟨o,g o e,r⟩)
theorem iu.lt (st:iu k h a am):a<h.objs.size:=by
 cases k<;>(obtain⟨o,e,r⟩:=st;exact vX e)
theorem ke.same {k:Bool}{K:Frag}{H H':Hp}{a:Addr}{xs:List V}(h:ke k K H a xs)(e:aF H H'):ke k K H' a xs:=by
 cases k
 ·exact aK e h
 ·exact e.seq h
theorem ke.vals (I:Inv X aa σ H s)(h:ke k X.K H a xs):∃its:List Value,a9 xs its/\iu k s.heap a its.toArray/\xs.length<=sizeLine:=by
 cases k
 ·exact I.tuple h
 ·obtain⟨its,r,p,z⟩:=I.list h;exact⟨its,r,p.isList,z⟩
theorem ke.inj (I:Inv X aa σ H s)(h:ke k X.K H a xs)(h':ke k X.K H a ys):xs=ys:=by
 cases k
 ·exact I.tuple_inj h h'
 ·exact I.list_inj h h'
section
variable {prog:Program}{w:World}{A:Around}{E:Value->Shared->Prop}{s:Shared}
theorem dO (st:iF k s.heap it l i)(ht:iu k s.heap l am)(hv:am[i]? = some v)
  (q:∀h',iF k h' it l (i+1)->Heap.SameBut it s.heap h'->Q v { s with heap:=h' }):wpAny (model prog w) A (Builtin.SmallTypes.nextOf (.ref it)) Q E s:=by
 cases k
 ·exact rf st ht hv q
 ·exact wpAny_nextOf_list_item st ht hv q
theorem iU (hA:A.handled=none)(st:iF k s.heap it l i)(ht:iu k s.heap l am)(hv:am[i]? = none)
  (q:∀h' x,Heap.ExtBut it s.heap h'->(∃o,h'.get? x=some o/\o.cls=.type "StopIteration")->E (.ref x) { s with heap:=h' }):wpAny (model prog w) A (Builtin.SmallTypes.nextOf (.ref it)) Q E s:=by
 cases k
 ·exact u7 hA st ht hv q
 ·exact wpAny_nextOf_list_end hA st ht hv q
end
noncomputable def Gm (k:Bool)(l:Addr):Obj:={ cls:=.type (if k=true then "list_iterator" else "tuple_iterator"),data:=.fields #[.ref l,.int 0 0] }
theorem sY (ht:iu k s.heap l am)
  (q:Q (.ref s.heap.objs.size) { s with heap:=s.heap.push (Gm k l) }):wpAny (model prog w) A (pyIter (.ref l)) Q E s:=by
 cases k
 ·exact wpAny_pyIter_tuple ht q
 ·exact wpAny_pyIter_list ht q
theorem iu.push (st:iu k h a am)(o:Obj):iu k (h.push o) a am:=st.upon λ_ e=>vZ _ e
section
variable (k1 k2:Bool) (h:Heap) (l1 l2:Addr)
abbrev zA:Heap:=h.push (Gm k1 l1)
abbrev zB:Heap:=(zA k1 h l1).push (Gm k2 l2)
abbrev zC:Heap:=(zB k1 k2 h l1 l2).push { cls:=.type "tuple",data:=.seq #[.ref h.objs.size,.ref (zA k1 h l1).objs.size] }
abbrev zD:Heap:=(zC k1 k2 h l1 l2).push { cls:=.type "tuple",data:=.seq #[.none,.none] }
abbrev zE:Heap:=(zD k1 k2 h l1 l2).push { cls:=.type "zip",data:=.fields #[.none,.bool false,.bool false,.ref (zB k1 k2 h l1 l2).objs.size,.ref (zC k1 k2 h l1 l2).objs.size] }
end
theorem rg (k1 k2:Bool)(l1 l2:Addr)(xs ys:Array Value):Meets (Builtin.«zip.__new__» ⟨[.type "zip",.ref l1,.ref l2],[]⟩) (λ_ R s=>iu k1 s.heap l1 xs/\iu k2 s.heap l2 ys /\
   R (.ok (.ret (.ref (zD k1 k2 s.heap l1 l2).objs.size))) { s with heap:=zE k1 k2 s.heap l1 l2 }) :=
 .of_wp λprog w A R s hs=>by
  obtain⟨hp,g,d,tk,os⟩:=s;obtain⟨q1,q2,hs⟩:=hs;have yA:=sub_zip;have p1:iu k1 (Shared.heap ⟨hp,g,d,tk,os⟩) l1 xs:=q1;have p2:iu k2 (Shared.heap ⟨hp.push (Gm k1 l1),g,d,tk,os⟩) l2 ys:=iu.push q2 _;wp_walk using sY p1,sY p2;exact⟨_,rfl,hs⟩
section
variable {prog:Program}{w:World}{A:Around}{E:Value->Shared->Prop}{s:Shared}
theorem sZ (q1:iu k1 s.heap l1 xs)(q2:iu k2 s.heap l2 ys)
  (q:∀h',IsZip h' (s.heap.objs.size+4) (s.heap.objs.size+2) (s.heap.objs.size+3) .none->IsPair h' (s.heap.objs.size+2) (.ref s.heap.objs.size) (.ref (s.heap.objs.size+1))->IsPair h' (s.heap.objs.size+3) .none .none ->
   iF k1 h' s.heap.objs.size l1 0->iF k2 h' (s.heap.objs.size+1) l2 0->(∀c o,s.heap.get? c=some o->h'.get? c=some o)->Q (.ref (s.heap.objs.size+4)) { s with heap:=h' }):
  wpAny (model prog w) A (call (.type "zip") [.ref l1,.ref l2]) Q E s:=by
 refine callType_new PySem.F.called_zip (by decide) (PySem.F.typeCall_zip_2 _ _) (PySem.F.newCall_zip_2 _ _) (λobj=>PySem.F.args_object_init_3 obj _ _) PySem.F.entry_zip_new (rg k1 k2 l1 l2 xs ys) ⟨q1,q2,?_⟩;have n1:(zA k1 s.heap l1).objs.size=s.heap.objs.size+1:=Heap.size_push ..;have n2:(zB k1 k2 s.heap l1 l2).objs.size=s.heap.objs.size+2:=by rw[Heap.size_push,n1]
 have n3:(zC k1 k2 s.heap l1 l2).objs.size=s.heap.objs.size+3:=by rw[Heap.size_push,n2]
 have n4:(zD k1 k2 s.heap l1 l2).objs.size=s.heap.objs.size+4:=by rw[Heap.size_push,n3]
 have u5:∀ {c o},(zD k1 k2 s.heap l1 l2).get? c=some o->(zE k1 k2 s.heap l1 l2).get? c=some o:=λe=>vZ _ e;have u4:∀ {c o},(zC k1 k2 s.heap l1 l2).get? c=some o->(zE k1 k2 s.heap l1 l2).get? c=some o:=λe=>u5 (vZ _ e);have u3:∀ {c o},(zB k1 k2 s.heap l1 l2).get? c=some o->(zE k1 k2 s.heap l1 l2).get? c=some o:=λe=>u4 (vZ _ e);have u2:∀ {c o},(zA k1 s.heap l1).get? c=some o->(zE k1 k2 s.heap l1 l2).get? c=some o:=λe=>u3 (vZ _ e);have u1:∀ {c o},s.heap.get? c=some o->(zE k1 k2 s.heap l1 l2).get? c=some o:=λe=>u2 (vZ _ e);have g5:(zE k1 k2 s.heap l1 l2).get? (zD k1 k2 s.heap l1 l2).objs.size=some _:=vY _ rfl;have g4:(zE k1 k2 s.heap l1 l2).get? (zC k1 k2 s.heap l1 l2).objs.size=some _:=u5 (vY _ rfl);have g3:(zE k1 k2 s.heap l1 l2).get? (zB k1 k2 s.heap l1 l2).objs.size=some _:=u4 (vY _ rfl);have g2:(zE k1 k2 s.heap l1 l2).get? (zA k1 s.heap l1).objs.size=some _:=u3 (vY _ (by cases k2<;>rfl))
 have g1:(zE k1 k2 s.heap l1 l2).get? s.heap.objs.size=some _:=u2 (vY _ (by cases k1<;>rfl))
 rw[n2,n3,n4]at g5;rw[n1,n2]at g3;rw[n3]at g4;rw[n1]at g2;show _/\_;rw[n4];refine⟨⟨_,g5,rfl⟩,q _ g5 g3 g4 ?_ ?_ λc o e=>u1 e⟩
 ·cases k1<;>exact⟨_,g1,rfl,rfl⟩
 ·cases k2<;>exact⟨_,g2,rfl,rfl⟩
structure ZApart (z TI TO i1 i2:Addr):Prop where
 tz:TI≠z
 oz:TO≠z
 az:i1≠z
 bz:i2≠z
 oa:TO≠i1
 ob:TO≠i2
 to:TI≠TO
 ta:TI≠i1
 tb:TI≠i2
 ab:i1≠i2
theorem pA {k1 k2:Bool}{z TI TO i1 i2 l1 l2:Addr}{j:Nat}{xs ys:Array Value}{x y a b:Value}{Q:Value->Shared->Prop}(D:ZApart z TI TO i1 i2)(m1:l1≠z/\l1≠TO/\l1≠i1)(m2:l2≠z/\l2≠TO/\l2≠i1/\l2≠i2)
  (hz:IsZip s.heap z TI TO .none) (hI:IsPair s.heap TI (.ref i1) (.ref i2)) (hO:IsPair s.heap TO a b) (t1:iF k1 s.heap i1 l1 j) (t2:iF k2 s.heap i2 l2 j) (q1:iu k1 s.heap l1 xs) (q2:iu k2 s.heap l2 ys) (hx:xs[j]? = some x) (hy:ys[j]? = some y)
  (q:∀h',IsZip h' z TI TO (rawInt s.heap.objs.size)->IsPair h' TO x y->iF k1 h' i1 l1 (j+1)->iF k2 h' i2 l2 (j+1)->IsPair h' s.heap.objs.size x y->h'.objs.size=s.heap.objs.size+1 ->
   (∀c o,c≠z->c≠TO->c≠i1->c≠i2->s.heap.get? c=some o->h'.get? c=some o)->Q (.ref s.heap.objs.size) { s with heap:=h' }):
  wpAny (model prog w) A (Builtin.«zip.__next__» ⟨[.ref z],[]⟩) (λfin s'=>∃v,fin=.done (.ret v)/\Q v s') E s:=by
 show wpAny _ _ (field (.ref z) 2>>=_) _ _ s;refine wX (wpAny_field hz rfl (x:=.bool false) rfl ?_);show wpAny _ _ (field (.ref z) 3>>=_) _ _ s;refine wX (wpAny_field hz rfl (x:=.ref TI) rfl (wX (wpAny_seqItems hI rfl ?_)));show wpAny _ _ (Builtin.SmallTypes.ownedTupleIsFree (.ref z)>>=_) _ _ s;refine wX ?_;unfold Builtin.SmallTypes.ownedTupleIsFree;refine wX (wpAny_field hz rfl (x:=.none) rfl (wY ?_));simp only[if_true];refine wX (wpAny_rule (wX (wpAny_field hz rfl (x:=.ref TO) rfl (wX (wpAny_setField_rec hz (by simp) λg1 hz1 s1=>?_)))));replace hz1:IsZip g1 z TI TO .ellipsis:=hz1;refine wX ?_;simp only[List.forIn_cons,List.forIn_nil,List.zipIdx_cons,List.zipIdx_nil];refine wX (wX (wpAny_onRaise ?_));show wpAny _ _ (Builtin.SmallTypes.nextOf (.ref i1)>>=_) _ _ { s with heap:=g1 };refine wX (dO (s:={ s with heap:=g1 }) (t1.upon λo e=>s1.extBut _ _ D.az e) (q1.upon λo e=>s1.extBut _ _ m1.1 e) hx λg2 t12 s2=>wY ?_);have F6:IsPair g2 TO a b:=s2.extBut _ _ D.oa (s1.extBut _ _ D.oz hO);refine wX (wpAny_seqItems F6 rfl (wX (wpAny_updateSeq_pair F6 λg3 hO3 s3=>?_)));replace hO3:IsPair g3 TO x b:=hO3;refine wX (wpAny_letGo (wY (wX (wX (wpAny_onRaise ?_)))));show wpAny _ _ (Builtin.SmallTypes.nextOf (.ref i2)>>=_) _ _ { s with heap:=g3 };have De:∀ {c o},c≠z->c≠TO->c≠i1->s.heap.get? c=some o->g3.get? c=some o:=λc1 c2 c3 e=>s3.extBut _ _ c2 (s2.extBut _ _ c3 (s1.extBut _ _ c1 e));refine wX (dO (s:={ s with heap:=g3 }) (t2.upon λo e=>De D.bz D.ob.symm D.ab.symm e) (q2.upon λo e=>De m2.1 m2.2.1 m2.2.2.1 e) hy λg4 t24 s4=>wY ?_);have JM:IsPair g4 TO x b:=s4.extBut _ _ D.ob hO3;refine wX (wpAny_seqItems JM rfl (wX (wpAny_updateSeq_pair JM λg5 hO5 s5=>?_)));replace hO5:IsPair g5 TO x y:=hO5;refine wX (wpAny_letGo (wY (wY (wX (wpAny_seqItems hO5 rfl (wX (wpAny_newTuple ?_)))))));have sz:g5.objs.size=s.heap.objs.size:=by rw[s5.1,s4.1,s3.1,s2.1,s1.1]
 have LF:∀c o,c≠z->c≠TO->c≠i1->c≠i2->s.heap.get? c=some o->g5.get? c=some o:=λc o c1 c2 c3 c4 e=>s5.extBut _ _ c2 (s4.extBut _ _ c4 (De c1 c2 c3 e));have JN:IsZip g5 z TI TO .ellipsis:=s5.extBut _ _ D.oz.symm (s4.extBut _ _ D.bz.symm (s3.extBut _ _ D.oz.symm (s2.extBut _ _ D.az.symm hz1)));have LG:iF k1 g5 i1 l1 (j+1):=t12.upon λo e=>s5.extBut _ _ D.oa.symm (s4.extBut _ _ D.ab (s3.extBut _ _ D.oa.symm e));have LH:iF k2 g5 i2 l2 (j+1):=t24.upon λo e=>s5.extBut _ _ D.ob.symm e;have JP:z<g5.objs.size:=vX JN;show wpAny _ _ (Builtin.SmallTypes.ownedTupleHandOut (.ref z) (.ref g5.objs.size)>>=_) _ _ { s with heap:=g5.push { cls:=.type "tuple",data:=.seq #[x,y] } };refine wX ?_;unfold Builtin.SmallTypes.ownedTupleHandOut;have LJ:IsZip (g5.push { cls:=.type "tuple",data:=.seq #[x,y] }) z TI TO .ellipsis:=vZ _ JN;refine wX (wpAny_setField_rec LJ (by simp) λg7 hz7 s7=>?_);replace hz7:IsZip g7 z TI TO (rawInt g5.objs.size):=hz7;refine wpAny_setField_rec hz7 (by simp) λg8 hz8 s8=>?_;replace hz8:IsZip g8 z TI TO (rawInt g5.objs.size):=hz8;have G7:∀c o,c≠z->g5.get? c=some o->g8.get? c=some o:=λc o c1 e=>s8.extBut _ _ c1 (s7.extBut _ _ c1 (vZ _ e));have JQ:IsPair g8 g5.objs.size x y:=s8.extBut _ _ (Nat.ne_of_gt JP) (s7.extBut _ _ (Nat.ne_of_gt JP) (vY _ rfl));have JR:g8.objs.size=g5.objs.size+1:=by rw[s8.1,s7.1,Heap.size_push]
 rw[sz]at hz8 JQ JR;refine wY ⟨_,rfl,?_⟩;show Q (.ref g5.objs.size) _;rw[sz];exact q g8 hz8 (G7 _ _ D.oz hO5) (LG.upon λo e=>G7 _ o D.az e) (LH.upon λo e=>G7 _ o D.bz e) JQ JR λc o c1 c2 c3 c4 e=>G7 c o c1 (LF c o c1 c2 c3 c4 e)
end
section
variable {prog:Program}{w:World}{A:Around}{E:Value->Shared->Prop}{s:Shared}
theorem td {k1 k2:Bool}{z TI TO i1 i2 l1 l2:Addr}{j:Nat}{xs ys:Array Value}{a b:Value}{Q:PySem.Fin->Shared->Prop}(hA:A.handled=none)(D:ZApart z TI TO i1 i2)(m1:l1≠z/\l1≠TO/\l1≠i1)(m2:l2≠z/\l2≠TO/\l2≠i1/\l2≠i2)
  (hz:IsZip s.heap z TI TO .none) (hI:IsPair s.heap TI (.ref i1) (.ref i2)) (hO:IsPair s.heap TO a b) (t1:iF k1 s.heap i1 l1 j) (t2:iF k2 s.heap i2 l2 j) (q1:iu k1 s.heap l1 xs) (q2:iu k2 s.heap l2 ys) (he:xs[j]? = none∨ys[j]? = none)
  (q:∀h' x,(∀c o,c≠z->c≠TO->c≠i1->c≠i2->s.heap.get? c=some o->h'.get? c=some o)->(∃o,h'.get? x=some o/\o.cls=.type "StopIteration")->E (.ref x) { s with heap:=h' }):
  wpAny (model prog w) A (Builtin.«zip.__next__» ⟨[.ref z],[]⟩) Q E s:=by
 show wpAny _ _ (field (.ref z) 2>>=_) _ _ s;refine wX (wpAny_field hz rfl (x:=.bool false) rfl ?_);show wpAny _ _ (field (.ref z) 3>>=_) _ _ s;refine wX (wpAny_field hz rfl (x:=.ref TI) rfl (wX (wpAny_seqItems hI rfl ?_)));show wpAny _ _ (Builtin.SmallTypes.ownedTupleIsFree (.ref z)>>=_) _ _ s;refine wX ?_;unfold Builtin.SmallTypes.ownedTupleIsFree;refine wX (wpAny_field hz rfl (x:=.none) rfl (wY ?_));simp only[if_true];refine wX (wpAny_rule (wX (wpAny_field hz rfl (x:=.ref TO) rfl (wX (wpAny_setField_rec hz (by simp) λg1 hz1 s1=>?_)))));replace hz1:IsZip g1 z TI TO .ellipsis:=hz1;refine wX ?_;simp only[List.forIn_cons,List.forIn_nil,List.zipIdx_cons,List.zipIdx_nil];refine wX (wX (wpAny_onRaise ?_));show wpAny _ _ (Builtin.SmallTypes.nextOf (.ref i1)>>=_) _ _ { s with heap:=g1 };cases hx:xs[j]? with
 |none=>
  refine wX (iU (s:={ s with heap:=g1 }) hA (t1.upon λo e=>s1.extBut _ _ D.az e) (q1.upon λo e=>s1.extBut _ _ m1.1 e) hx λg2 x s2 hX=>?_);obtain⟨oU,eX,cX⟩:=hX;have G8:IsZip g2 z TI TO .ellipsis:=s2 _ _ D.az.symm hz1;have nz:x≠z:=λz'=>by subst z';rw[G8]at eX;cases eX;simp at cX
  exact wpAny_setField_rec G8 (by simp) λg3 _ s3=>q g3 x (λc o c1 _ c3 _ e=>s3.extBut _ _ c1 (s2 _ _ c3 (s1.extBut _ _ c1 e))) ⟨oU,s3.extBut _ _ nz eX,cX⟩
 |some v=>
  have hy:ys[j]? = none:=by
   rcases he with h|h
   ·rw[hx]at h;cases h
   ·exact h
  refine wX (dO (s:={ s with heap:=g1 }) (t1.upon λo e=>s1.extBut _ _ D.az e) (q1.upon λo e=>s1.extBut _ _ m1.1 e) hx λg2 t12 s2=>wY ?_);have F6:IsPair g2 TO a b:=s2.extBut _ _ D.oa (s1.extBut _ _ D.oz hO);refine wX (wpAny_seqItems F6 rfl (wX (wpAny_updateSeq_pair F6 λg3 hO3 s3=>?_)));refine wX (wpAny_letGo (wY (wX (wX (wpAny_onRaise ?_)))));show wpAny _ _ (Builtin.SmallTypes.nextOf (.ref i2)>>=_) _ _ { s with heap:=g3 };have De:∀ {c o},c≠z->c≠TO->c≠i1->s.heap.get? c=some o->g3.get? c=some o:=λc1 c2 c3 e=>s3.extBut _ _ c2 (s2.extBut _ _ c3 (s1.extBut _ _ c1 e));refine wX (iU (s:={ s with heap:=g3 }) hA (t2.upon λo e=>De D.bz D.ob.symm D.ab.symm e) (q2.upon λo e=>De m2.1 m2.2.1 m2.2.2.1 e) hy λg4 x s4 hX=>?_);obtain⟨oU,eX,cX⟩:=hX;have JU:IsZip g4 z TI TO .ellipsis:=s4 _ _ D.bz.symm (s3.extBut _ _ D.oz.symm (s2.extBut _ _ D.az.symm hz1));have nz:x≠z:=λz'=>by subst z';rw[JU]at eX;cases eX;simp at cX
  exact wpAny_setField_rec JU (by simp) λg5 _ s5=>q g5 x (λc o c1 c2 c3 c4 e=>s5.extBut _ _ c1 (s4 _ _ c4 (De c1 c2 c3 e))) ⟨oU,s5.extBut _ _ nz eX,cX⟩
end
theorem oj {X:Cx}{aa:List (Addr×Obj)}{σ:St}{H:Hp}{s:Shared}{h':Heap}{t':Nat}{ch:List Addr}(I:Inv X aa σ H s)(f:∀b∈ch,iJ X aa H b)(k:∀b o,b∉ch->s.heap.get? b=some o->h'.get? b=some o):Inv X aa σ H { s with heap:=h',toks:=t' }:=by
 have Bo:∀b u,H b=some u->b∉ch:=λb u e z=>by rw[(f b z).1]at e;cases e
 refine I.step (g':=s.gens) (d':=s.drawn) (ch:=ch) (λb hb=>?_) (λb o _ _ hc e _=>k b o hc e) (λb o _ _ hc e _=>⟨o.slots,k b o hc e⟩) (λ_ _ _ _ n=>n)
  (λb o hc e=>⟨o,k b o hc e⟩) (λ_ _ e=>e) (λ_ _ _ e=>e) (λ_ _ e=>e) (λm hm=>?_) (λb u e=>?_) I.bare
 ·obtain⟨_,f1,_,f3,f4,f5⟩:=f b hb;exact⟨f3,f1,f4,f5⟩
 ·obtain⟨o,es,ep,ho,r⟩:=hm;exact⟨o,es,ep,k _ o (λz=>(f _ z).2.1 rfl) ho,r⟩
 ·refine(I.hok b u e).stay (λc v hc q=>k c v ?_ q) (λ_ q=>q) (λ_ _ q=>q) λ_ _ _ q=>q;rcases hc with z|z
  ·rw[z];exact Bo b u e
  ·exact Bo c _ z
theorem Ba {X:Cx}{aa:List (Addr×Obj)}{σ:St}{H:Hp}{s:Shared}{h':Heap}{t':Nat}{ch:List Addr}{a:Addr}{ob:HO}(I:Inv X aa σ H s)(f:∀b∈ch,iJ X aa H b)(k:∀b o,b∉ch->s.heap.get? b=some o->h'.get? b=some o)(ha:s.heap.objs.size<=a)
  (new:bC X.prog X.w (upd H a ob) h' a ob):Inv X aa σ (upd H a ob) { s with heap:=h',toks:=t' }:=by
 have hn:H a=none:=I.hok.fresh ha;have Bo:∀b u,H b=some u->b∉ch:=λb u e z=>by rw[(f b z).1]at e;cases e
 have na:∀b o,s.heap.get? b=some o->b≠a:=λb o e=>vS (vQ (vX e) ha);refine I.step (g':=s.gens) (d':=s.drawn) (ch:=ch) (λb hb=>?_) (λb o _ _ hc e _=>k b o hc e) (λb o _ _ hc e _=>⟨o.slots,k b o hc e⟩) (λb o _ e n=>by rw[a8 (na b o e)];exact n)
  (λb o hc e=>⟨o,k b o hc e⟩) (λb xs e=>by rw[a8 (ba e hn)];exact e) (λb o u e=>by rw[a8 (ba e hn)];exact e) (λb ps e=>by rw[a8 (ba e hn)];exact e) (λm hm=>?_) (λb u e=>?_) I.bare
 ·obtain⟨_,f1,_,f3,f4,f5⟩:=f b hb;exact⟨f3,f1,f4,f5⟩
 ·obtain⟨o,es,ep,ho,r⟩:=hm;exact⟨o,es,ep,k _ o (λz=>(f _ z).2.1 rfl) ho,r⟩
 ·by_cases hb:b=a
  ·subst hb;rw[au]at e;cases e;exact new
  ·rw[a8 hb]at e;refine(I.hok b u e).stay (λc v hc q=>k c v ?_ q) (λc q=>?_) (λc xs q=>?_) λc o xs q=>?_
   ·rcases hc with z|z
    ·rw[z];exact Bo b u e
    ·exact Bo c _ z
   ·rw[a8 (ba q hn)];exact q
   ·rw[a8 (ba q hn)];exact q
   ·rw[a8 (ba q hn)];exact q
noncomputable def Hr (K:Frag)(k1 k2:Bool)(a1 a2:Addr):It :=
  ⟨λi H=>∃xs ys x y,ke k1 K H a1 xs/\ke k2 K H a2 ys/\xs[i]? = some x/\ys[i]? = some y,
   λi H v H'=>∃T x y,v=.ref T/\H T=none/\H'=upd H T (.tup [x,y])/\(∀xs,ke k1 K H a1 xs->xs[i]? = some x)/\(∀ys,ke k2 K H a2 ys->ys[i]? = some y),
   λi H=>∃xs ys,ke k1 K H a1 xs/\ke k2 K H a2 ys/\(xs.length<=i∨ys.length<=i)⟩
theorem xi {P:Program}{w:World}{K:Frag}{es:List Expr}{kt:Nat}{pt:Pos}{k1 k2:Bool}{a1 a2 z TI TO i1 i2:Addr}(D:ZApart z TI TO i1 i2)(m1:a1≠z/\a1≠TO/\a1≠i1)(m2:a2≠z/\a2≠TO/\a2≠i1/\a2≠i2):
  Turn P w K (.Tuple es kt pt) (Hr K k1 k2 a1 a2) [z,TI,TO,i1,i2] z (λi h=>IsZip h z TI TO .none/\IsPair h TI (.ref i1) (.ref i2)/\(∃a b,IsPair h TO a b)/\iF k1 h i1 a1 i/\iF k2 h i2 a2 i) where
 mem:=by simp
 obj:=λi h st b hb=>by
  obtain⟨hz,hI,⟨a,c,hO⟩,t1,t2⟩:=st;simp at hb;rcases hb with rfl|rfl|rfl|rfl|rfl
  ·exact⟨_,hz,λv z=>by cases z⟩
  ·exact⟨_,hI,λv z=>by cases z⟩
  ·exact⟨_,hO,λv z=>by cases z⟩
  ·exact t1.ob
  ·exact t2.ob
 keep:=λi h h' st k=>by
  obtain⟨hz,hI,⟨a,c,hO⟩,t1,t2⟩:=st;exact⟨k z (by simp) _ hz,k TI (by simp) _ hI,⟨a,c,k TO (by simp) _ hO⟩,t1.upon λo e=>k i1 (by simp) o e,t2.upon λo e=>k i2 (by simp) o e⟩
 item:=by
  intro X hP hw hK hc i aa s σ H E I hf st hg;subst hP hw hK;obtain⟨hz,hI,⟨a,c,hO⟩,t1,t2⟩:=st;obtain⟨xs,ys,x,y,q1,q2,hx,hy⟩:=hg;obtain⟨its,r1,p1,z1⟩:=q1.vals I;obtain⟨m6,r2,p2,z2⟩:=q2.vals I;obtain⟨u,hu,ru⟩:=r1.get hx;obtain⟨v,hv,rv⟩:=r2.get hy;have hT:s.TypeIs (.ref z) "zip":=⟨_,hz,rfl⟩;have fresh:H s.heap.objs.size=none:=I.hok.fresh (vT _);have lt:∀ {c o},s.heap.get? c=some o->c≠s.heap.objs.size:=λe=>vS (vX e);have l1:i1≠s.heap.objs.size:=by obtain⟨o,e,_⟩:=t1.ob;exact lt e
  have l2:i2≠s.heap.objs.size:=by obtain⟨o,e,_⟩:=t2.ob;exact lt e
  unfold pyNext;refine wX (wpAny_attempt (wpAny_callSpecial?_slot (name:=Str.ofString "__next__") hT PySem.F.slot_zip_next (wpAny_call_entry PySem.F.slot_zip_next hT PySem.F.entry_zip_next (pA D m1 m2 hz hI hO t1 t2 p1 p2 (by simpa using hu) (by simpa using hv) λh' b1 b2 b3 b4 b5 b6 bk=>wY ?_) (PySem.F.args_zip_next_1 _))));refine⟨_,rfl,wpAny_letOwnedTupleGo_zip (s:={ s with heap:=h' }) b1 λh2 c1 s2=>?_⟩;have DD:Heap.SameBut z h' h2:=s2;have kk:∀b o,b∉[z,TI,TO,i1,i2]->s.heap.get? b=some o->h2.get? b=some o:=λb o hb e=>
   DD.extBut _ _ (λq=>hb (by simp[q])) (bk b o (λq=>hb (by simp[q])) (λq=>hb (by simp[q])) (λq=>hb (by simp[q])) (λq=>hb (by simp[q])) e)
  have I1:Inv X aa σ H { s with heap:=h2 }:=oj (t':=s.toks) I hf kk;have zT:s.heap.objs.size≠z:=(lt hz).symm;have new:bC X.prog X.w (upd H s.heap.objs.size (.tup [x,y])) h2 s.heap.objs.size (.tup [x,y]):=⟨by show 2<=sizeLine;decide,[u,v],.cons ru (.cons rv .nil),⟨_,DD.extBut _ _ zT b5,rfl,_,rfl⟩⟩;refine⟨.ref s.heap.objs.size,upd H s.heap.objs.size (.tup [x,y]),?_,rfl,⟨_,x,y,rfl,fresh,rfl,λzs hq=>by rw[ke.inj I hq q1];exact hx,λzs hq=>by rw[ke.inj I hq q2];exact hy⟩,?_,λb hb=>?_⟩
  ·exact Ba (s:=s) (t':=s.toks) I hf kk (vT _) new
  ·exact⟨c1,DD.extBut _ _ D.tz (bk _ _ D.tz D.to D.ta D.tb hI),⟨_,_,DD.extBut _ _ D.oz b2⟩,b3.upon λo e=>DD.extBut _ _ D.az e,b4.upon λo e=>DD.extBut _ _ D.bz e⟩
  ·have DE:b≠s.heap.objs.size:=by
    simp at hb;rcases hb with rfl|rfl|rfl|rfl|rfl
    ·exact lt hz
    ·exact lt hI
    ·exact lt hO
    ·exact l1
    ·exact l2
   rw[a8 DE];exact(hf b hb).1
 done:=by
  intro X hP hw hK hc i aa s σ H E I hf st hg;subst hP hw hK;obtain⟨hz,hI,⟨a,c,hO⟩,t1,t2⟩:=st;obtain⟨xs,ys,q1,q2,hl⟩:=hg;obtain⟨its,r1,p1,z1⟩:=q1.vals I;obtain⟨m6,r2,p2,z2⟩:=q2.vals I;have hT:s.TypeIs (.ref z) "zip":=⟨_,hz,rfl⟩;have n1:=r1.length;have n2:=r2.length;unfold pyNext;refine wX (wpAny_attempt (wpAny_callSpecial?_slot (name:=Str.ofString "__next__") hT PySem.F.slot_zip_next (wpAny_call_entry PySem.F.slot_zip_next hT PySem.F.entry_zip_next (td (I.ok.hd hc) D m1 m2 hz hI hO t1 t2 p1 p2 (hl.imp (λq=>by simp;omega) λq=>by simp;omega) λh' x hk hX=>?_) (PySem.F.args_zip_next_1 _))));obtain⟨o,eo,co⟩:=hX;refine wX (wpAny_isInstance (T:="StopIteration") (b:=true) ⟨o,eo,co⟩ isSubtype_stop (wY ⟨rfl,?_⟩));exact oj (t':=s.toks) I hf λb o hb e=>hk b o (λq=>hb (by simp[q])) (λq=>hb (by simp[q])) (λq=>hb (by simp[q])) (λq=>hb (by simp[q])) e
 self:=λ_ _ _ _ _ st h=>wpAny_pyIter_zip st.1 h
section
variable {X:Cx}{a b e:Expr}{pos:Pos}{p:Pos}
theorem Bb:bootBuiltins "zip" = some (.type "zip"):=by decide +kernel
def EF (K:Frag)(ta:TA):TI:=λσ H R=>ta σ H λvs H1=>∃(k1 k2:Bool)(l1 l2:Addr)(xs ys:List V),vs=[.ref l1,.ref l2]/\ke k1 K H1 l1 xs/\ke k2 K H1 l2 ys/\R (Hr K k1 k2 l1 l2) H1
theorem C7 {es:List Expr}{kt:Nat}{pt:Pos}{ta:TA}(hg:Gl X "zip")(hm:X.mg "zip" = none)(ha:PA X [a,b] ta)(hs:starEach [a,b] X.env=[(false,eval a X.env),(false,eval b X.env)]:=by rfl)(kC:starEach [b] X.env=[(false,eval b X.env)]:=by rfl):
  PI X (.Tuple es kt pt) (.Call (.Name "zip" p) [a,b] [] pos) (EF X.K ta):=by
 intro aa s σ H R I h;refine Call_ (hZ I hg hm Bb (PyProof.Rows.callWith_type1 (bH (ha pos aa s σ H _ I h) λus s1 ⟨vs,H1,I1,r1,q1⟩=>?_) (by rw[hs,kC]) (by rw[kC];rfl)));obtain⟨k1,k2,l1,l2,xs,ys,rfl,h1,h2,q⟩:=q1;obtain⟨u1,u2,rfl,Io,Ip⟩:=r1.two;cases Io
 cases Ip
 obtain⟨its,v1,p1,z1⟩:=h1.vals I1;obtain⟨m6,v2,p2,z2⟩:=h2.vals I1;have Aj:=p1.lt;have AA:=p2.lt;refine sZ p1 p2 λh' c1 c2 c3 c4 c5 ck=>?_;have D:ZApart (s1.heap.objs.size+4) (s1.heap.objs.size+2) (s1.heap.objs.size+3) s1.heap.objs.size (s1.heap.objs.size+1):=by
  constructor<;>(intro z;exact absurd z (by first|exact vS (Nat.add_lt_add_left (by decide) _)|exact Nat.ne_of_gt (Nat.add_lt_add_left (by decide) _)|exact vS (Nat.lt_add_of_pos_right (by decide))|exact Nat.ne_of_gt (Nat.lt_add_of_pos_right (by decide))))
 have nf:∀ {l:Addr}(n:Nat),l<s1.heap.objs.size->l≠s1.heap.objs.size+n:=λn hl=>vS (vQ hl (Nat.le_add_right _ n));refine wpAny_pyIter_zip c1 ⟨s1.heap.objs.size+4,[s1.heap.objs.size+4,s1.heap.objs.size+2,s1.heap.objs.size+3,s1.heap.objs.size,s1.heap.objs.size+1],_,_,H1,rfl,I1.kept (t':=s1.toks) ck,
  xi D ⟨nf 4 Aj,nf 3 Aj,nf 0 Aj⟩ ⟨nf 4 AA,nf 3 AA,nf 0 AA,nf 1 AA⟩,⟨c1,c2,⟨_,_,c3⟩,c4,c5⟩,λb hb=>?_,q⟩
 have AB:s1.heap.objs.size<=b:=by
  simp at hb;rcases hb with rfl|rfl|rfl|rfl|rfl
  ·exact Nat.le_add_right _ 4
  ·exact Nat.le_add_right _ 2
  ·exact Nat.le_add_right _ 3
  ·exact vT _
  ·exact Nat.le_add_right _ 1
 exact I1.fpOk AB (I1.hok.fresh AB)
noncomputable def ej (xs ys:List D):List D:=List.zipWith (λx y=>.tup [x,y]) xs ys
@[simp] def u8 (fa fb:FE):FA:=λρ=>(fa ρ).bind λx=>(fb ρ).bind λy=>(gY x.1).bind λxs=>(gY y.1).map λys=>ej xs ys
theorem tf {K:Frag}{B:Hp}{v:V}{d:D}{ds:List D}(h:Is K B v d)(e:gY d=some ds):∃k a vs,v=.ref a/\ke k K B a vs/\IsL K B vs ds:=by
 cases h with
 |tup ht hl=>cases e;exact⟨false,_,_,rfl,ht,hl⟩
 |lst ht hl=>cases e;exact⟨true,_,_,rfl,ht,hl⟩
 |_=>cases e
theorem C8 {H s}(I:Inv X aa σ H s)(h1:ke k1 X.K N l1 vs)(i1:IsL X.K N vs ds)(h2:ke k2 X.K N l2 ws)(i2:IsL X.K N ws es):mf X.K (Hr X.K k1 k2 l1 l2) N (ej ds es):=by
 intro i H' sm;have n1:=i1.length;have n2:=i2.length;refine⟨λd ed=>?_,λhl=>⟨vs,ws,h1.same sm,h2.same sm,?_⟩⟩
 ·unfold ej at ed;rw[List.getElem?_zipWith]at ed;cases e1:ds[i]? with
  |none=>rw[e1]at ed;simp at ed
  |some x=>
   cases e2:es[i]? with
   |none=>rw[e1,e2]at ed;simp at ed
   |some y=>
    rw[e1,e2]at ed;simp at ed;subst ed;obtain⟨v,ev,iv⟩:=i1.get e1;obtain⟨w,ew,iw⟩:=i2.get e2;refine⟨⟨vs,ws,v,w,h1.same sm,h2.same sm,ev,ew⟩,λr H2 hy=>?_⟩;obtain⟨T,v',w',rfl,hT,rfl,f1,f2⟩:=hy;have e3:=f1 vs (h1.same sm);have e4:=f2 ws (h2.same sm);rw[ev]at e3;cases e3;rw[ew]at e4;cases e4;have xt:=Ext.laid (o:=.tup [v,w]) sm hT;exact⟨_,xt,.tup (fg.of au) (.cons (iv.mono xt.bn) (.cons (iw.mono xt.bn) .nil))⟩
 ·unfold ej at hl;rw[List.length_zipWith]at hl;omega
theorem xj {es:List Expr}{kt:Nat}{pt:Pos}{fa fb:FE}(hm:X.mg "zip" = none)(ha:JE X a fa)(hb:JE X b fb)(hg:Gl X "zip":=by rfl)(hs:starEach [a,b] X.env=[(false,eval a X.env),(false,eval b X.env)]:=by rfl)(kC:starEach [b] X.env=[(false,eval b X.env)]:=by rfl):
  JI X (.Tuple es kt pt) (.Call (.Name "zip" p) [a,b] [] pos) (u8 fa fb):=by
 intro aa s σ H R I q;refine C7 hg hm (aj ha (aj hb ai kC) (by rw[hs,kC])) hs kC aa s σ H R I ?_;obtain⟨B,ρ,ds,sB,r,ee,q⟩:=q;obtain⟨x1,ex,ee⟩:=oX ee;obtain⟨y1,ey,ee⟩:=oX ee;obtain⟨xs,Iq,ee⟩:=oX ee;obtain⟨ys,Ir,ee⟩:=oY ee;subst ee;refine⟨B,ρ,[x1.1,y1.1],sB,r,by simp[ae,ah,ex,ey],λvs H1 N1 xt i1=>?_⟩;cases i1 with
 |cons j1 j2=>
  cases j2 with
  |cons j2 j3=>
   cases j3
   obtain⟨k1,l1,us,rfl,s1,m1⟩:=tf j1 Iq;obtain⟨k2,l2,ws,rfl,s2,m2⟩:=tf j2 Ir;exact⟨k1,k2,l1,l2,us,ws,rfl,s1.same xt.nh,s2.same xt.nh,q _ H1 N1 xt (C8 I s1 m1 s2 m2)⟩
end
noncomputable def unown1 (ρ:Env)(i:Nat):Env:=match ρ[i]? with
 |some (some (d,true))=>ρ.set i (some (d,false))
 |_=>ρ
theorem c6.unown1 {K:Frag}{B0 H0 N H:Hp}{σ:St}{ρ:Env}(s:c6 K B0 H0 N H σ ρ)(i:Nat):c6 K B0 H0 N H σ (unown1 ρ i):=by
 unfold DL.unown1;split
 ·rename_i d hd;obtain⟨a,ob,h1,h2,h3,h4⟩:=s.ow i d hd;have get:∀ {j:Nat}{e:D}{b:Bool},(ρ.set i (some (d,false)))[j]? = some (some (e,b))->(i=j/\e=d/\b=false)∨(i≠j/\ρ[j]? = some (some (e,b))):=λq=>by
   rcases be q with⟨z,p⟩|⟨z,p⟩
   ·cases p;exact .inl ⟨z,rfl,rfl⟩
   ·exact .inr ⟨z,p⟩
  have o:∀c,own σ (ρ.set i (some (d,false))) c->own σ ρ c/\c≠a:=λc ⟨j,e,q1,q2⟩=>by
   rcases get q1 with⟨_,_,z⟩|⟨ne,q⟩
   ·cases z
   ·exact⟨⟨j,e,q,q2⟩,λz=>by subst z;exact ne (s.inj i j _ _ _ hd q h1 q2)⟩
  have c:aF (cx N (own σ ρ)) (cx N (own σ (ρ.set i (some (d,false))))):=da λb u e q=>⟨e,λz=>q (o b z).1⟩;have na:¬own σ (ρ.set i (some (d,false))) a:=λz=>(o a z).2 rfl;refine⟨s.bh,s.tb,s.ext,by rw[List.length_set];exact s.len,λj e q=>?_,λj e q=>?_,λj k b e f q q' z1 z2=>?_⟩
  ·rcases get q with⟨rfl,rfl,_⟩|⟨_,q⟩
   ·exact⟨_,h1,(h4.mono c).is (by rw[bI na];exact h2)⟩
   ·obtain⟨v,k1,k2⟩:=s.sh j e q;exact⟨v,k1,k2.mono c⟩
  ·rcases get q with⟨_,_,z⟩|⟨_,q⟩
   ·cases z
   ·obtain⟨a',o',k1,k2,k3,k4⟩:=s.ow j e q;exact⟨a',o',k1,k2,k3,k4.mono c⟩
  ·rcases get q with⟨_,_,z⟩|⟨_,q⟩
   ·cases z
   ·rcases get q' with⟨_,_,z⟩|⟨_,q'⟩
    ·cases z
    ·exact s.inj j k b e f q q' z1 z2
 ·exact s
@[simp] noncomputable def Gn (is:List Nat)(g:FS):FS:=λρ=>g (is.foldl unown1 ρ)
theorem c6.unowns {K:Frag}{B0 H0 N H:Hp}{σ:St}:∀(is:List Nat){ρ:Env},c6 K B0 H0 N H σ ρ->c6 K B0 H0 N H σ (is.foldl DL.unown1 ρ)
 |[],_,s=>s
 |i::is,_,s=>c6.unowns is (s.unown1 i)
theorem C9 {K:Frag}{is:List Nat}{g:FS}{E:Ends}{σ:St}{H:Hp}(q:mK K (Gn is g) E σ H):mK K g E σ H:=by
 obtain⟨B0,H0,ρ,r,⟨N,s⟩,e,p⟩:=q;exact⟨B0,H0,_,r,⟨N,s.unowns is⟩,e,p⟩
theorem EG {X:Cx}{st:Stmt}{g:FS}(is:List Nat)(h:JS X st g):JS X st (Gn is g):=PS.to h λ_ _ _ q=>C9 q
@[simp] noncomputable def rh:FS:=λ_=>none
section
variable {X:Cx}{pos:Pos}
theorem pB {st:Stmt}:JS X st rh:=λaa s σ H E I q=>by
 obtain⟨B0,H0,ρ,r,_,e,_⟩:=q;cases e
end
inductive CRows (K:Frag)(P:Params):List DictEntry->List (Str×D)->Prop where
 |nil:CRows K P [] []
 |tup {x:Str}{t:Tok}{h:Int}{a:Addr}{its:Array Value}{n:Nat}{lX:Array (Option Value)}{ds:List D}{r:List DictEntry}{aZ:List (Str×D)}(hh:h=PyData.keyHash P x)
   (l:K.lookup a=some ⟨.type "tuple",none,.seq its n,lX⟩) (f:(decide (its.size<=1000) && fR its.toList ds)=true) (tl:CRows K P r aZ):CRows K P (⟨h,.str x t,.ref a⟩::r) ((x,.tup ds)::aZ)
 |flat {x:Str}{t:Tok}{h:Int}{u:Value}{d:D}{r:List DictEntry}{aZ:List (Str×D)}(hh:h=PyData.keyHash P x) (f:oi u d=true) (tl:CRows K P r aZ):CRows K P (⟨h,.str x t,u⟩::r) ((x,d)::aZ)
theorem CRows.lit {K:Frag}{P:Params}:∀ {es:List DictEntry}{aZ:List (Str×D)},CRows K P es aZ->PySem.W.KeysLit P es
 |_,_,.nil=>trivial
 |_,_,.tup hh _ _ tl=>⟨⟨_,_,rfl,hh⟩,tl.lit⟩
 |_,_,.flat hh _ tl=>⟨⟨_,_,rfl,hh⟩,tl.lit⟩
theorem CRows.find {K:Frag}{P:Params}(y:Str):∀ {es:List DictEntry}{aZ:List (Str×D)},CRows K P es aZ->match aZ.lookup y with
  |none=>es.find? (λe=>Value.isStrOf y e.key)=none
  |some d=>∃e v,es.find? (λe=>Value.isStrOf y e.key)=some e/\aG v e.val/\∀B,Is K B v d
 |_,_,.nil=>rfl
 |_,_,.tup (x:=x) (t:=t) (a:=a) (ds:=ds) hh l f tl=>by
  by_cases e:y=x
  ·subst e;rw[List.lookup_cons_self];rw[vC]at f;obtain⟨vs,r,i⟩:=fT (K:=K) f.2;exact⟨_,.ref a,List.find?_cons_of_pos (by simp[Value.isStrOf]),rfl,λB=>.tup (.inr ⟨_,_,_,l,rfl,rfl,Nat.le_of_lt (Nat.lt_of_le_of_lt (of_decide_eq_true f.1) (by decide)),r⟩) (i B)⟩
  ·have ih:=tl.find y;rw[List.lookup_cons,beq_eq_false_iff_ne.mpr e];have nf:Value.isStrOf y (Value.str x t)=false:=by
    rw[Bool.eq_false_iff];intro z;obtain⟨t',q⟩:=Value.isStrOf_shape z;injection q with q1;exact e q1.symm
   simp only[List.find?_cons,nf];exact ih
 |_,_,.flat (x:=x) (t:=t) (u:=u) (d:=d) hh f tl=>by
  by_cases e:y=x
  ·subst e;rw[List.lookup_cons_self];obtain⟨v,r1,_⟩:=gI (K:=K) (B:=λ_=>none) f;refine⟨_,v,List.find?_cons_of_pos (by simp[Value.isStrOf]),r1,λB=>?_⟩;obtain⟨v',Il,i'⟩:=gI (K:=K) (B:=B) f;have:v'=v:=by have z1:=r1.abs;rw[Il.abs]at z1;exact vK z1
   subst this;exact i'
  ·have ih:=tl.find y;rw[List.lookup_cons,beq_eq_false_iff_ne.mpr e];have nf:Value.isStrOf y (Value.str x t)=false:=by
    rw[Bool.eq_false_iff];intro z;obtain⟨t',q⟩:=Value.isStrOf_shape z;injection q with q1;exact e q1.symm
   simp only[List.find?_cons,nf];exact ih
def iV (K:Frag)(P:Params)(a:Addr)(aZ:List (Str×D)):Prop:=∃es n,K.lookup a=some ⟨.type "dict",none,.dict es n,#[]⟩/\CRows K P es.toList aZ/\(a == sysModules)=false
theorem const_dict {K:Frag}{P:Params}{y:Str}{a:Addr}{es:Array DictEntry}{n:Nat}{aZ:List (Str×D)}(e:nsIn K mainGlobals y=some (some (.ref a)))(l:K.lookup a=some ⟨.type "dict",none,.dict es n,#[]⟩)(r:CRows K P es.toList aZ)(s:(a == sysModules)=false):
  ∃a,nsIn K mainGlobals y=some (some (.ref a))/\iV K P a aZ:=⟨a,e,es,n,l,r,s⟩
section
variable {X:Cx}{a b e:Expr}{pos:Pos}{x:Str}{p:Pos}
theorem iV.map {aa:List (Addr×Obj)}{σ:St}{H:Hp}{s:Shared}{d:Addr}{aZ:List (Str×D)}(I:Inv X aa σ H s)(h:iV X.K X.w.params d aZ):∃f:Str->Option Value,s.heap.MapOf (strKind X.prog X.w) d f/\(d == sysModules)=false /\
  ∀y,match aZ.lookup y with|none=>f y=none|some dd=>∃u v,f y=some u/\aG v u/\∀B,Is X.K B v dd:=by
 obtain⟨es,n,l,r,sm⟩:=h;refine⟨_,PySem.W.mapOf_K I.kIn l r.lit,sm,λy=>?_⟩;have:=r.find y;have ff:findBy Value.isStrOf es y=(es.toList.find? λe=>Value.isStrOf y e.key).map (·.val):=by
  unfold findBy;obtain⟨es⟩:=es;rw[List.find?_toArray]
 cases hl:aZ.lookup y with
 |none=>rw[hl]at this;dsimp only at this ⊢;rw[ff,this];rfl
 |some dd=>
  rw[hl]at this;obtain⟨en,v,e1,e2,e3⟩:=this;exact⟨en.val,v,by rw[ff,e1];rfl,e2,e3⟩
@[simp] noncomputable def gm (aZ:List (Str×D)):D->OB
 |.str y=>(aZ.lookup y).map λd=>(d,false)
 |_=>none
@[simp] noncomputable def kS (aZ:List (Str×D)):D->OB
 |.str y=>some (.bl (!(aZ.lookup y).isSome),false)
 |_=>none
theorem om (h:∃d,X.mg x=some (.ref d)/\iV X.K X.w.params d aZ)(hb:JE X b f)(hg:Gl X x:=by rfl)(hd:(x == ("__debug__" : Str))=false:=by decide)(hs:kq b:=by intro _ _;rfl):JE X (.Subscript (.Name x p) b pos) (f1 (gm aZ) f):=by
 obtain⟨d,hm,cd⟩:=h;have ix:wx X (λx y H Q=>∃z dd,x=.ref d/\y=.str z/\aZ.lookup z=some dd/\∀v,(∀B,Is X.K B v dd)->Q v H):=by
  intro value slice aa s σ H x y v u Q I rx ry q hs;obtain⟨z,dd,rfl,rfl,el,q⟩:=q;cases rx
  obtain⟨t,rfl⟩:=ry;obtain⟨f,hM,sm,hf⟩:=cd.map I;have:=hf z;rw[el]at this;obtain⟨u,v,e1,e2,e3⟩:=this;exact tail_any hM.typeIs slot_dict_getitem.lookup (wpAny_getItem_of (strKind_is X.prog X.w z t) hM e1 ⟨v,H,I.tok _,e2,q v e3⟩) hs
 refine PE.to (wy ix (kn (v:=.ref d) hg hm rfl hd) hb hs) λσ H Q q=>?_;obtain⟨B,ρ,d',bb,sB,r,ee,q⟩:=q;obtain⟨x1,ex,ee⟩:=oX ee;refine⟨B,ρ,x1.1,x1.2,sB,r,ex,λv H1 N1 xt i1 _=>?_⟩;obtain⟨xd,xb⟩:=x1;cases i1<;>try (simp[gm]at ee;done)
 rename_i z _;simp only[gm]at ee;obtain⟨dd,e1,e2⟩:=oY ee;cases e2
 exact⟨z,_,rfl,rfl,e1,λv hv=>(q.into xt).one xt.nh (hv _)⟩
@[simp] noncomputable def dI:List D->OB
 |[.lst ds]=>some (.lst ds,true)
 |[.tup ds]=>some (.lst ds,true)
 |_=>none
@[simp] noncomputable def et:List D->OB
 |[.lst ds]=>some (.tup ds,false)
 |[.tup ds]=>some (.tup ds,false)
 |_=>none
theorem xk:b7 X (.type "list") (yH X.K dI):=by
 refine b7.to nV λxs H Q q=>?_;obtain⟨B,ds,d,bb,sB,i,ee,q⟩:=q;cases i with
 |nil=>simp[dI]at ee
 |cons i1 i2=>
  cases i2 with
  |cons _ _=>cases i1<;>simp[dI]at ee
  |nil=>
   cases i1<;>try (simp[dI]at ee;done)
   ·rename_i l0 vs es h hl;simp only[dI]at ee;cases ee
    refine⟨_,_,rfl,.inr (aK sB h),λl hp=>?_⟩;have xt:=Ext.laid (o:=.lst vs) sB hp;exact q _ _ _ xt (.lst (eP.of au) (hl.mono xt.bn)) λ_=>⟨_,_,_,rfl,rfl,hp,au,hl.mono xt.bn⟩
   ·rename_i l0 vs es h hl;simp only[dI]at ee;cases ee
    refine⟨_,_,rfl,.inl (sB.seq h),λl hp=>?_⟩;have xt:=Ext.laid (o:=.lst vs) sB hp;exact q _ _ _ xt (.lst (eP.of au) (hl.mono xt.bn)) λ_=>⟨_,_,_,rfl,rfl,hp,au,hl.mono xt.bn⟩
theorem zU:b7 X (.type "tuple") (yH X.K et):=by
 refine b7.to ma λxs H Q q=>?_;obtain⟨B,ds,d,bb,sB,i,ee,q⟩:=q;cases i with
 |nil=>simp[et]at ee
 |cons i1 i2=>
  cases i2 with
  |cons _ _=>cases i1<;>simp[et]at ee
  |nil=>
   cases i1<;>try (simp[et]at ee;done)
   ·rename_i l0 vs es h hl;simp only[et]at ee;cases ee
    exact⟨_,_,rfl,.inr ⟨aK sB h,q.one sB (.tup h hl)⟩⟩
   ·rename_i l0 vs es h hl;simp only[et]at ee;cases ee
    refine⟨_,_,rfl,.inl ⟨sB.seq h,λl hp=>?_⟩⟩;have xt:=Ext.laid (o:=.tup vs) sB hp;exact q _ _ _ xt (.tup (fg.of au) (hl.mono xt.bn)) (by simp)
end
section
variable {X:Cx}{a b e:Expr}{pos:Pos}{x:Str}{p:Pos}
@[simp] def xl (i:Nat)(fk fv:FE):FS:=λρ=>match ρ[i]? with
 |some (some (.lst ds,true))=>(fv ρ).bind λv=>(fk ρ).bind λk=>match k.1 with
  |.int j=>(ww ds.length j).bind λn=>if aQ v.1=true then some (.nx (ρ.set i (some (.lst (ds.set n v.1),true))))else none
  |_=>none
 |_=>none
theorem CA (hv:JE X e fv)(hk:JE X k fk)(hN:X.N[i]? = some y:=by rfl)(Iu:yE X.env.scope y:=by first|exact Or.inl rfl|exact Or.inr (Or.inl rfl)|exact Or.inr (Or.inr rfl))(hd:(y == ("__debug__" : Str))=false:=by decide)
  (jX:(y == ("__classdict__" : Str))=false:=by decide)
  (ha:∀v,assign (.Subscript (.Name y py) k pt) X.env v=(do
   let ov ←holding [v] (eval (.Name y py) X.env)
   let iv ←holding [v,ov] (eval k X.env)
   standAt pt
   holding [v,ov,iv] (setItem ov iv v)
   release [v,ov,iv] []):=by intro _;rfl)
  (hs:swapsWithSole [.Subscript (.Name y py) k pt] e pos.line X.env=pure false:=by rfl) (hw:swappedStores [.Subscript (.Name y py) k pt] e X.env=pure none:=by rfl)
  (h1:(assignEach [.Subscript (.Name y py) k pt] X.env).map (·.2)=[assign (.Subscript (.Name y py) k pt) X.env]:=by rfl):JS X (.Assign [.Subscript (.Name y py) k pt] e pos) (xl i fk fv):=by
 refine PS.to (BM hv (BL (jx hN Iu hd jX) hk w5 ha) hs hw h1) λE σ H q=>?_;obtain⟨B0,H0,ρ,r,⟨N,s⟩,ee,p⟩:=q;unfold xl at ee;split at ee
 ·rename_i ds ei;obtain⟨v,ev,ee⟩:=oX ee;obtain⟨kk,ek,ee⟩:=oX ee;obtain⟨kd,kb⟩:=kk;cases kd with
  |int j=>
   dsimp only at ee;obtain⟨n,en,ee⟩:=oX ee;split at ee
   ·rename_i hn;cases ee
    refine⟨N,ρ,v.1,v.2,s.ext.nh,s.rep,ev,λv1 H1 N1 x1 i1 _=>?_⟩;have s1:=s.grow x1;obtain⟨l,vs,wa,z,h1,h2,h3,h4⟩:=s1.owL i _ ei;cases z
    refine⟨_,h1,N1,ρ,_,_,s1.ext.nh,s1.rep,ek,λkv H2 N2 x2 i2 _=>?_⟩;cases i2
    have s2:=s1.grow x2;obtain⟨l',G1,wa,z,k1,k2,k3,k4⟩:=s2.owL i _ ei;cases z
    rw[h1]at k1;cases k1;exact⟨l,G1,j,n,rfl,rfl,s2.ext.nh _ _ k2,by rw[k4.length];exact en,p σ _ ⟨_,s2.write ei h1 (IsL.set (s2.flat (i1.mono x2.bn) hn) n k4)⟩⟩
   ·cases ee
  |_=>cases ee
 ·cases ee
@[simp] noncomputable def zV (i:Nat)(g:List D->Option (List D)):FS:=λρ=>match ρ[i]? with
 |some (some (.lst ds,true))=>(g ds).map λes=>.nx (ρ.set i (some (.lst es,true)))
 |_=>none
theorem rj (hN:X.N[i]? = some y:=by rfl)(hv:yE X.env.scope y:=by first|exact Or.inl rfl|exact Or.inr (Or.inl rfl)|exact Or.inr (Or.inr rfl))(hd:(y == ("__debug__" : Str))=false:=by decide)
  (jX:(y == ("__classdict__" : Str))=false:=by decide) (fH:attributeBase (.Name y py) "reverse" X.env (eval (.Name y py) X.env)=eval (.Name y py) X.env:=by rfl)
  (fJ:(dM.endLine == c9.line)=true:=by rfl) (A8:swapsWith (.Call (.Attribute (.Name y py) "reverse" dM) [] [] c9) none pos.line X.env=pure false:=by rfl):
  JS X (.Expr (.Call (.Attribute (.Name y py) "reverse" dM) [] [] c9) pos) (zV i λds=>some ds.reverse):=by
 refine PS.to (nM (Ce PySem.F.plainAttrs_list PySem.F.slot_list_reverse PySem.F.type_list_reverse qS (jx hN hv hd jX) fH fJ) A8) λE σ H q=>?_;obtain⟨B0,H0,ρ,r,⟨N,s⟩,ee,p⟩:=q;unfold zV at ee;split at ee
 ·rename_i ds ei;cases ee
  obtain⟨l,vs,wa,z,h1,h2,h3,h4⟩:=s.owL i _ ei;cases z
  exact⟨_,h1,.inl ⟨rfl,vs,eP.of (s.ext.nh _ _ h2)⟩,l,vs,rfl,rfl,s.ext.nh _ _ h2,p σ _ ⟨_,s.write ei h1 h4.reverse⟩⟩
 ·cases ee
@[simp] def mj (i:Nat)(f:FE):FS:=λρ=>match ρ[i]? with
 |some (some (.lst ds,true))=>(f ρ).bind λx=>match x.1 with
  |.lst es=>if x.2=true/\aV es=true/\ds.length+es.length<=sizeLine then some (.nx (ρ.set i (some (.lst (ds++es),true))))else none
  |_=>none
 |_=>none
theorem rl (he:JE X e f)(hN:X.N[i]? = some y:=by rfl)(hv:yE X.env.scope y:=by first|exact Or.inl rfl|exact Or.inr (Or.inl rfl)|exact Or.inr (Or.inr rfl))(hd:(y == ("__debug__" : Str))=false:=by decide)
  (jX:(y == ("__classdict__" : Str))=false:=by decide)
  (fH:attributeBase (.Name y py) "extend" X.env (eval (.Name y py) X.env)=eval (.Name y py) X.env:=by rfl)
  (oG:((backTo c9 (starEach [e] X.env)).all (λx=>!x.1) && (backToKw c9 (keywordEach [] X.env)).all (λx=>x.1.isSome)
   && decide ([e].length+([]:List Keyword).length+(if([]:List Keyword).isEmpty then 0 else 1)<30))=true:=by rfl)
  (fJ:(dM.endLine == c9.line)=true:=by rfl) (hs:starEach [e] X.env=[(false,eval e X.env)]:=by rfl) (A8:swapsWith (.Call (.Attribute (.Name y py) "extend" dM) [e] [] c9) none pos.line X.env=pure false:=by rfl):
  JS X (.Expr (.Call (.Attribute (.Name y py) "extend" dM) [e] [] c9) pos) (mj i f):=by
 refine PS.to (nM (sA PySem.F.plainAttrs_list PySem.F.slot_list_extend PySem.F.type_list_extend uo (jx hN hv hd jX) (dG he fN hs) fH oG fJ hs rfl) A8) λE σ H q=>?_;obtain⟨B0,H0,ρ,r,⟨N,s⟩,ee,p⟩:=q;unfold mj at ee;split at ee
 ·rename_i ds ei;obtain⟨v,ev,ee⟩:=oX ee;obtain⟨vd,vb⟩:=v;cases vd with
  |lst es=>
   dsimp only at ee;split at ee
   ·rename_i hc;cases ee
    obtain⟨l,vs,wa,z,h1,h2,h3,h4⟩:=s.owL i _ ei;cases z
    refine⟨_,h1,.inl ⟨rfl,vs,eP.of (s.ext.nh _ _ h2)⟩,N,ρ,_,_,s.ext.nh,s.rep,ev,λv1 H1 N1 x1 i1 f1=>?_⟩;obtain⟨l2,ws,si,rfl,z,g1,g2,g3⟩:=f1 hc.1;cases z
    have s1:=s.grow x1;obtain⟨l',G1,wa,z,k1,k2,_,k4⟩:=s1.owL i _ ei;cases z
    rw[h1]at k1;cases k1;exact⟨l,l2,G1,ws,rfl,rfl,s1.ext.nh _ _ k2,x1.nh _ _ g2,by rw[k4.length,g3.length];exact hc.2.2,p σ _ ⟨_,s1.write ei h1 (k4.append (s1.flats g3 hc.2.1))⟩⟩
   ·cases ee
  |_=>cases ee
 ·cases ee
end
open AutoSeq1 (wpAny_loadPart')
set_option maxRecDepth 100000
end DL
namespace DL
open PySem PySem.Spec PyProof.Rows
def fU (xs:Array Nat):Prop:=xs.toList.Pairwise (· < ·)
theorem fU.lt {xs:Array Nat}(h:fU xs){i j a b:Nat}(hi:xs[i]? = some a)(hj:xs[j]? = some b)(l:i<j):a<b:=by
 obtain⟨h1,e1⟩:=Array.getElem?_eq_some_iff.mp hi;obtain⟨h2,e2⟩:=Array.getElem?_eq_some_iff.mp hj;have:=List.pairwise_iff_getElem.mp h i j (by simpa using h1) (by simpa using h2) l;simp only[Array.getElem_toList]at this;rw[←e1,←e2];exact this
theorem kT {xs:Array Nat}(h:fU xs)(j:Nat):∀(fuel lo hi:Nat),hi<=xs.size->lo<=hi->hi - lo<=fuel->(∀i a,i<lo->xs[i]? = some a->a<j)->(∀i a,hi<=i->xs[i]? = some a->j<=a) ->
  (SetTable.below.go xs j fuel lo hi<=xs.size/\(∀i a,i<SetTable.below.go xs j fuel lo hi->xs[i]? = some a->a<j)/\∀i a,SetTable.below.go xs j fuel lo hi<=i->xs[i]? = some a->j<=a)
 |0,lo,hi,h1,h2,h3,h4,h5=>by
  have:lo=hi:=by omega
  subst this;exact⟨h1,h4,h5⟩
 |fuel+1,lo,hi,h1,h2,h3,h4,h5=>by
  unfold SetTable.below.go;by_cases hl:lo<hi
  ·rw[if_pos hl];have hm:(lo+hi) / 2<xs.size:=by omega
   have em:xs[(lo+hi) / 2]? = some (xs.getD ((lo+hi) / 2) j):=by rw[Array.getD_eq_getD_getElem?,Array.getElem?_eq_getElem hm];rfl
   show(if xs.getD ((lo+hi) / 2) j<j then _ else _)<=_/\_;by_cases hc:xs.getD ((lo+hi) / 2) j<j
   ·rw[if_pos hc];refine kT h j fuel _ _ h1 (by omega) (by omega) (λi a hia ha=>?_) h5;by_cases hx:i=(lo+hi) / 2
    ·rw[hx,em]at ha;cases ha;exact hc
    ·exact Nat.lt_trans (h.lt ha em (by omega)) hc
   ·rw[if_neg hc];refine kT h j fuel _ _ (by omega) (by omega) (by omega) h4 λi a hia ha=>?_;by_cases hx:i=(lo+hi) / 2
    ·rw[hx,em]at ha;cases ha;omega
    ·have:=h.lt em ha (by omega);omega
  ·rw[if_neg hl];have:lo=hi:=by omega
   subst this;exact⟨h1,h4,h5⟩
theorem kU {xs:Array Nat}(h:fU xs)(j:Nat):SetTable.below xs j<=xs.size/\(∀i a,i<SetTable.below xs j->xs[i]? = some a->a<j)/\∀i a,SetTable.below xs j<=i->xs[i]? = some a->j<=a :=
 kT h j xs.size 0 xs.size (vT _) (uN _) (by omega) (λ_ _ h=>absurd h (Nat.not_lt_zero _)) λi a h1 h2=>by
  have:=(Array.getElem?_eq_some_iff.mp h2).1;omega
theorem rm {xs:Array Nat}(h:fU xs){i a:Nat}(e:xs[i]? = some a):SetTable.below xs (a+1)=i+1:=by
 obtain⟨h1,h2,h3⟩:=kU h (a+1);have hi:=(Array.getElem?_eq_some_iff.mp e).1;by_cases c:SetTable.below xs (a+1)<i+1
 ·have:=h3 i a (by omega) e;omega
 ·by_cases c2:i+1<SetTable.below xs (a+1)
  ·obtain⟨b,hb⟩:∃b,xs[i+1]? = some b:=⟨_,Array.getElem?_eq_getElem (by omega)⟩;have:=h2 (i+1) b c2 hb;have:=h.lt e hb (by omega);omega
  ·omega
theorem rq {xs:Array Nat}(h:fU xs):SetTable.below xs 0=0:=by
 obtain⟨h1,h2,_⟩:=kU h 0;by_cases c:0<SetTable.below xs 0
 ·obtain⟨b,hb⟩:∃b,xs[0]? = some b:=⟨_,Array.getElem?_eq_getElem (by omega)⟩;exact absurd (h2 0 b c hb) (Nat.not_lt_zero _)
 ·omega
theorem xm {xs:Array Nat}(h:fU xs){j:Nat}(hj:xs[SetTable.below xs j]? ≠ some j):fU (SetTable.insertAt xs (SetTable.below xs j) j):=by
 obtain⟨h1,h2,h3⟩:=kU h j;have e:(SetTable.insertAt xs (SetTable.below xs j) j).toList=xs.toList.take (SetTable.below xs j)++j::xs.toList.drop (SetTable.below xs j):=by
  unfold SetTable.insertAt;simp[Array.toList_extract,List.extract];exact List.take_of_length_le (by simp)
 unfold fU;rw[e,List.pairwise_append,List.pairwise_cons];have lo:∀a∈xs.toList.take (SetTable.below xs j),a<j:=λa ha=>by
  obtain⟨i,hi⟩:=List.mem_iff_getElem?.mp ha;rw[List.getElem?_take]at hi;split at hi
  ·rename_i hl;exact h2 i a hl (by simpa using hi)
  ·cases hi
 have up:∀a∈xs.toList.drop (SetTable.below xs j),j<a:=λa ha=>by
  obtain⟨i,hi⟩:=List.mem_iff_getElem?.mp ha;rw[List.getElem?_drop,Array.getElem?_toList]at hi;have h4:=h3 _ a (by omega) hi;rcases Nat.lt_or_eq_of_le h4 with h5|h5
  ·exact h5
  ·subst h5;by_cases h0:i=0
   ·subst h0;exact absurd hi hj
   ·obtain⟨b,hb⟩:∃b,xs[SetTable.below xs j]? = some b:=⟨_,Array.getElem?_eq_getElem (by have:=(Array.getElem?_eq_some_iff.mp hi).1;omega)⟩;have:=h3 _ b (vT _) hb;have:=h.lt hb hi (by omega);omega
 refine⟨List.Pairwise.sublist (List.take_sublist _ _) h,⟨up,List.Pairwise.sublist (List.drop_sublist _ _) h⟩,λa ha b hb=>?_⟩;rcases vP hb with rfl|hb
 ·exact lo a ha
 ·exact Nat.lt_trans (lo a ha) (up b hb)
theorem iz {t:SetTable}{f:Nat->Int}{h:Int}:∀(fuel:Nat)(p:SetTable.Probe)(j:Nat)(d:Option Nat),(∀d,p.dummy=some d->t.place[SetTable.below t.place d]? ≠ some d)->SetTable.probe.go t f h fuel p=some (.empty j d)->t.place[SetTable.below t.place j]? ≠ some j/\∀e,d=some e->t.place[SetTable.below t.place e]? ≠ some e
 |0,_,_,_,_,h=>by simp[SetTable.probe.go]at h
 |fuel+1,p,j,d,hd,hg=>by
  unfold SetTable.probe.go at hg;cases hs:t.slot p.j with
  |empty=>
   rw[hs]at hg;cases hg
   refine⟨λz=>?_,hd⟩;unfold SetTable.slot at hs;simp[z]at hs
  |dummy=>
   rw[hs]at hg;refine iz fuel _ j d (λe he=>?_) hg;have:e=p.j:=by
    unfold SetTable.advance at he;split at he<;>exact(vK he).symm
   subst this;intro z;unfold SetTable.slot at hs;simp[z]at hs
  |live i=>
   rw[hs]at hg;dsimp only at hg;split at hg
   ·cases hg
   ·refine iz fuel _ j d (λe he=>hd e ?_) hg;unfold SetTable.advance at he;split at he<;>exact he
theorem xn {t:SetTable}{h:Int}{j:Nat}{w:Bool}(e:t.freeSlot h=some (j,w)):t.place[SetTable.below t.place j]? ≠ some j:=by
 unfold SetTable.freeSlot at e;split at e
 ·rename_i j' d hp;obtain⟨h1,h2⟩:=iz _ _ _ _ (λd hd=>by cases hd) hp;cases e
  cases d with
  |none=>exact h1
  |some d=>exact h2 d rfl
 ·cases e
theorem fW (n:Nat):fU (Array.range n):=by unfold fU;rw[Array.toList_range];exact List.pairwise_lt_range
theorem u9 {mask finger F7:Nat}{led pl:Bool}{Df:Array Int}{t:SetTable}{o:Array Nat}(e:SetTable.laid mask finger F7 led pl Df=some (t,o)):fU t.place:=by
 unfold SetTable.laid at e;obtain⟨ow,_,e⟩:=oX e;cases e
 unfold fU;show(List.map _ _).Pairwise _;refine List.pairwise_map.mpr ?_;refine List.Pairwise.filterMap _ (λa b h x hx y hy=>?_) List.pairwise_lt_range;obtain⟨_,_,rfl⟩:=oY hx;obtain⟨_,_,rfl⟩:=oY hy;exact h
theorem uA (t:SetTable)(es:Array (Int×Value))(n:Nat):(relayAll t es n).2.1.led=t.led:=by
 unfold relayAll;split
 ·rename_i t' order h;unfold SetTable.relaid SetTable.laid at h;obtain⟨ow,_,h⟩:=oX h;cases h
  dsimp only;split<;>rfl
 ·rfl
theorem rz (t:SetTable)(es:Array (Int×Value))(n:Nat)(h:fU t.place):fU (relayAll t es n).2.1.place:=by
 unfold relayAll;split
 ·rename_i t' order e;dsimp only;split
  ·exact u9 e
  ·exact fW _
 ·exact fW _
theorem xo (t:SetTable)(es:Array (Int×Value))(hh:Int)(x:Value)(h:fU t.place):fU (layNew t es hh x).2.1.place:=by
 unfold layNew;split
 ·rename_i slot wd e;dsimp only[SetTable.put,SetTable.orStandIn];repeat' (first|exact xm h (xn e)|exact fW _|split)
 ·exact fW _
theorem zW (t:SetTable)(es:Array (Int×Value))(h:Int)(x:Value):(layNew t es h x).2.1.led=t.led:=by
 unfold layNew;split
 ·dsimp only[SetTable.put,SetTable.orStandIn];repeat' (first|rfl|split)
 ·rfl
structure TabT (w:World)(es:Array (Int×Value))(t:SetTable):Prop where
 fits:t.fits es.size=true
 led:t.led = !w.params.followText "set-order"
 rise:fU t.place
structure KOf {prog:Program}{w:World}{κ:Type}[DecidableEq κ](kd:PySem.KeyKind prog w κ)(kf:Value->κ)(mk:κ->Tok->Value):Prop where
 is:∀k t,kd.is k (mk k t)=true
 of:∀ {k v},kd.is k v=true->∃t,v=mk k t
 kf:∀k t,kf (mk k t)=k
 sc:∀k t,(mk k t).scannable=true
def eY {prog:Program}{w:World}{κ:Type}[DecidableEq κ](kd:PySem.KeyKind prog w κ)(kf:Value->κ)(h:Heap)(a:Addr)(ts:List κ):Prop :=
 ∃o es ep t,h.get? a=some o/\o.ExactSet/\o.data=.set es ep t/\ElemsOf kd es.toList/\(es.toList.map (λe=>kf e.2)).Perm ts/\ts.Nodup/\ts.length<scanBound/\TabT w es t
noncomputable def fX {κ:Type}[DecidableEq κ](ts:List κ)(x:κ):List κ:=if x∈ts then ts else ts++[x]
theorem xp {κ:Type}[DecidableEq κ](ts:List κ)(x:κ):(fX ts x).length<=ts.length+1:=by unfold fX;split<;>simp
section
variable {prog:Program}{w:World}{A:Around}{E:Value->Shared->Prop}{s:Shared}{κ:Type}[DecidableEq κ] {kd:PySem.KeyKind prog w κ}{kf:Value->κ}{mk:κ->Tok->Value}
theorem KOf.key (K0:KOf kd kf mk)(h:kd.is k v=true):kf v=k:=by obtain⟨t,rfl⟩:=K0.of h;exact K0.kf _ _
theorem mQ (K0:KOf kd kf mk){es:Array (Int×Value)}{ts:List κ}(yS:ElemsOf kd es.toList)(hp:(es.toList.map (λe=>kf e.2)).Perm ts)(k:κ):k∈ts ↔ ∃e∈es.toList,kd.is k e.2=true:=by
 rw[←hp.mem_iff,List.mem_map];constructor
 ·rintro⟨e,he,rfl⟩;obtain⟨⟨k',hk,_⟩,_⟩:=yS e he;exact⟨e,he,by rw[K0.key hk];exact hk⟩
 ·rintro⟨e,he,hk⟩;exact⟨e,he,K0.key hk⟩
theorem mR {h:Heap}{a:Addr}{o:Obj}{es:Array (Int×Value)}{ep:Nat}{t:SetTable}(ho:h.get? a=some o)(hd:o.data=.set es ep t)(si:Array (Int×Value))(t':SetTable):
  (h.update a (Obj.putSet si t')).get? a=some { o with data:=.set si (ep+1) t' }:=by
 have:=Heap.get?_update_self (Obj.putSet si t') ho (by rw[putSet_of si t' hd];rfl);rw[putSet_of si t' hd]at this;exact this
theorem kW {g:Bool->Sem Unit}(hg:∀(b:Bool)(s₁:Shared)(Q':Unit->Shared->Prop),Q' () s₁->wpAny (model prog w) A (g b) Q' E s₁)
  {a:Addr}{o:Obj}{es:Array (Int×Value)}{ep:Nat}{t:SetTable}(ho:s.heap.get? a=some o) (wb:o.ExactSet) (hd:o.data=.set es ep t)
  {jw:Array (Int×Value)}{t2:SetTable}{ts:List κ}(vw:ElemsOf kd jw.toList) (Dg:(jw.toList.map (λe=>kf e.2)).Perm ts) (nd:ts.Nodup)
  (yB:ts.length<scanBound) (LK:t2.fits jw.size=true) (Fj:t2.led = !w.params.followText "set-order") (kz:fU t2.place) {qE:Bool}{R:Option Bool->Shared->Prop}
  (h:∀h',Heap.SameBut a s.heap h'->eY kd kf h' a ts->R (some true) { s with heap:=h' }):
  wpAny (model prog w) A (do
    storeSet a jw t2
    if(!qE && t2.tooFull)=true then do
      g (relayAll t2 jw (SetTable.grown jw.size)).2.2
      storeSet a (relayAll t2 jw (SetTable.grown jw.size)).1 (relayAll t2 jw (SetTable.grown jw.size)).2.1
      pure (some true)
     else pure (some true)) R E s:=by
 have JV:jw.size=ts.length:=by rw[←Dg.length_eq,vH,vF]
 refine wX (wpAny_storeSet_of ho hd ?_ (fits_of_scanBound (by rw[JV];exact yB)));have DF:=mR ho hd jw t2;have F8:=vW s.heap a (Obj.putSet jw t2);split
 ·have hp:=relayAll_perm t2 jw (SetTable.grown jw.size);have Iv:=relayAll_fits t2 jw (SetTable.grown jw.size);have AB:=uA t2 jw (SetTable.grown jw.size);have Iw:=rz t2 jw (SetTable.grown jw.size) kz;generalize hRl:relayAll t2 jw (SetTable.grown jw.size)=Rl at hp Iv AB Iw ⊢;obtain⟨G9,t3,JX⟩:=Rl;dsimp only at hp Iv AB Iw ⊢;have Ix:ElemsOf kd G9.toList:=vw.perm hp;have hsz:G9.size=jw.size:=by rw[←vF,hp.length_eq,vF]
  refine wX (hg _ _ _ ?_);refine wX (wpAny_storeSet_of DF rfl ?_ (fits_of_scanBound (by rw[hsz,JV];exact yB)));have DB:=mR DF rfl G9 t3;exact wY (h _ (F8.trans (vW _ a _)) ⟨_,G9,_,t3,DB,wb,rfl,Ix,(hp.map _).trans Dg,nd,yB,Iv,AB.trans Fj,Iw⟩)
 ·exact wY (h _ F8 ⟨_,jw,_,t2,DF,wb,rfl,vw,Dg,nd,yB,LK,Fj,kz⟩)
theorem r0 (K0:KOf kd kf mk){a:Addr}{ts:List κ}{k:κ}{tk:Tok}{Q:Bool->Shared->Prop}(hS:eY kd kf s.heap a ts)(F9:ts.length+1<scanBound)
  (h:∀b h',Heap.SameBut a s.heap h'->eY kd kf h' a (fX ts k)->Q b { s with heap:=h' }):
  wpAny (model prog w) A (setAddHashed a (mk k tk) (kd.hash k)) Q E s:=by
 have hS0:=hS;obtain⟨o,es,ep,t,ho,wb,hd,yS,oH,nd,hb,hf,yC,kz⟩:=hS;have A4:kd.is k (mk k tk)=true:=K0.is k tk;have sz:es.size=ts.length:=by rw[←oH.length_eq,vH,vF]
 unfold setAddHashed setAddHashedIn;refine wpAny_holding (wX (wpAny_setState_of ho hd hf ?_));dsimp only;rw[byScan_of (x:=mk k tk) (K0.sc k tk) (by rw[sz];exact hb) yS];simp only[↓reduceIte];unfold setAddByScan;refine wX ?_;refine wX (wpAny_rule ?_);refine wX (wpAny_setScan_of A4 ho hd hf yS ?_);cases hr:List.findIdx? (λe=>kd.is k e.2) es.toList with
 |some j=>
  dsimp only;obtain⟨hj,LL,_⟩:=List.findIdx?_eq_some_iff_getElem.mp hr;have hm:k∈ts:=(mQ K0 yS oH k).mpr ⟨es.toList[j],List.getElem_mem hj,LL⟩;refine wY (wY ?_);have e:fX ts k=ts:=by unfold fX;rw[if_pos hm]
  exact h false s.heap (Heap.SameBut.refl a s.heap) (by rw[e];exact hS0)
 |none=>
  dsimp only;have hm:k∉ts:=λz=>by
   obtain⟨e,he,hp⟩:=(mQ K0 yS oH k).mp z;have:=List.findIdx?_eq_none_iff.mp hr e he;rw[hp]at this;exact Bool.noConfusion this
  have ea:fX ts k=ts++[k]:=by unfold fX;rw[if_neg hm]
  have LM:∀(b:Bool){s₁:Shared}{Q':Unit->Shared->Prop},Q' () s₁->wpAny (model prog w) A (match b with|true=>rule "set.scan.the-table-gave-way" | false=>pure ()) Q' E s₁ :=
   λb s₁ Q' hq=>by cases b<;>first|exact wY hq|exact wpAny_rule hq
  have fK:=layNew_perm t es (kd.hash k) (mk k tk);have qF:=layNew_fits t es (kd.hash k) (mk k tk);have FD:=xo t es (kd.hash k) (mk k tk) kz;have Bt:=zW t es (kd.hash k) (mk k tk);generalize hL:layNew t es (kd.hash k) (mk k tk)=L at fK qF Bt FD ⊢;obtain⟨jw,t1,qE,FC⟩:=L;dsimp only at fK qF Bt FD ⊢;rw[Array.toList_push]at fK;have vw:ElemsOf kd jw.toList:=(yS.push A4 (K0.sc k tk)).perm fK;have Dg:(jw.toList.map (λe=>kf e.2)).Perm (ts++[k]):=(fK.map _).trans (by rw[List.map_append,List.map_singleton,K0.kf];exact oH.append_right _);have Iy:(ts++[k]).Nodup:=by
   rw[List.nodup_append];refine⟨nd,by simp,λx hx y hy=>?_⟩;rw[List.mem_singleton]at hy;subst hy;exact λz=>hm (z ▸ hx)
  have yB:(ts++[k]).length<scanBound:=by rw[uZ];exact F9
  refine wX (LM _ ?_);have Dh:∀h',Heap.SameBut a s.heap h'->eY kd kf h' a (ts++[k])->Q true { s with heap:=h' }:=λh' hsb vx=>h true h' hsb (by rw[ea];exact vx);have gw:∀(b:Bool)(s₁:Shared)(Q':Unit->Shared->Prop),Q' () s₁->wpAny (model prog w) A (match b with|true=>rule "set.scan.the-table-gave-way" | false=>pure ()) Q' E s₁:=λb s₁ Q' hq=>by cases b<;>first|exact wY hq|exact wpAny_rule hq
  split
  ·refine wX ?_;rw[hashByValue_scannable 8 (x:=mk k tk) (K0.sc k tk)];refine wY ?_;cases plainKind (mk k tk) with
   |false=>exact kW gw ho wb hd vw Dg Iy yB (SetTable.fits_plain_off qF) (Bt.trans yC) FD λh' hsb vx=>wY (Dh h' hsb vx)
   |true=>exact kW gw ho wb hd vw Dg Iy yB qF (Bt.trans yC) FD λh' hsb vx=>wY (Dh h' hsb vx)
  ·refine wX (wY ?_);exact kW gw ho wb hd vw Dg Iy yB qF (Bt.trans yC) FD λh' hsb vx=>wY (Dh h' hsb vx)
end
section
variable {κ:Type}[DecidableEq κ] {ts:List κ}{x y:κ}
def cy (ss:List κ):List κ:=ss.foldl fX []
theorem r6 (h:ts.Nodup)(x:κ):(fX ts x).Nodup:=by
 unfold fX;split
 ·exact h
 ·rename_i hm;rw[List.nodup_append];refine⟨h,by simp,λy hy z hz=>?_⟩;rw[List.mem_singleton]at hz;subst hz;exact λe=>hm (e ▸ hy)
theorem xq:y∈fX ts x↔y∈ts∨y=x:=by
 unfold fX;split
 ·rename_i hm;exact⟨.inl,λz=>z.elim id λe=>e ▸ hm⟩
 ·simp
theorem oo (ss:List κ):∀ts:List κ,(ss.foldl fX ts).length<=ts.length+ss.length:=by
 induction ss with
 |nil=>intro ts;simp
 |cons x r ih=>intro ts;rw[List.foldl_cons];have:=ih (fX ts x);have:=xp ts x;simp only[vD];omega
theorem iW (ss:List κ):(cy ss).length<=ss.length:=by have:=oo ss [];simpa [cy]using this
theorem uB (ss:List κ)(x:κ):cy (ss++[x])=fX (cy ss) x:=by unfold cy;rw[List.foldl_append];rfl
end
theorem StrsAre.at:∀ {vs:List Value}{ss:List Str},StrsAre vs ss->∀(i:Nat)(v:Value),vs[i]? = some v->∃x t,v=.str x t/\ss[i]? = some x
 |_,_,.nil,i,v,h=>by simp at h
 |_,_,.cons x t hr,0,v,h=>by simp at h;exact⟨x,t,h.symm,rfl⟩
 |_,_,.cons x t hr,i+1,v,h=>by
  simp only[List.getElem?_cons_succ]at h;exact StrsAre.at hr i v h
theorem eY.at {prog:Program}{w:World}{κ:Type}[DecidableEq κ]{kd:PySem.KeyKind prog w κ}{kf:Value->κ}{ts:List κ}(x:eY kd kf h a ts)(k:∀o,h.get? a=some o->h'.get? a=some o):eY kd kf h' a ts:=by
 obtain⟨o,es,ep,t,ho,r⟩:=x;exact⟨o,es,ep,t,k o ho,r⟩
section
variable {prog:Program}{w:World}{A:Around}{R:Result->Shared->Prop}{I:Addr}{fp wr:List Addr}{G:Array GenState->Array GenState->Prop}{n:Nat}{P:Nat->Value->Prop}{St:Nat->Shared->Prop}{κ:Type}[DecidableEq κ] {kd:PySem.KeyKind prog w κ}{kf:Value->κ}{mk:κ->Tok->Value}
theorem oq (K0:KOf kd kf mk)(W:WalksS prog w A.in1 I fp wr G n P St)(S:Addr)(ud:S∉fp)(ss:List κ)(hn:ss.length=n)
  (Di:∀i v,P i v->∃x t,v=mk x t/\ss[i]? = some x) (hb:n+1<scanBound):
  ∀(k i:Nat)(s:Shared),n - i=k->i<=n->St i s->eY kd kf s.heap S (cy (ss.take i)) ->
   (∀s',Moved (S::wr) G s s'->eY kd kf s'.heap S (cy ss)->R (.ok (.ret .none)) s') ->
   codeAny (model prog w) A (.builtin "set.update.loop" ⟨[.ref S,.ref I],[]⟩) R s:=by
 have JY:S∉wr:=λh=>ud (W.sub _ h);have yA:∀b∈wr,b∈S::wr:=λb hb=>mZ _ hb;intro k;induction k with
 |zero=>
  intro i s hk hi nK hS hR;have Dj:i=n:=by omega
  subst Dj;refine codeAny_builtin PyProof.Rows.F.entry_set_update_loop ?_;rw[Around.under_plainId PyProof.Rows.F.plain_set_update_loop _];show wpAny _ A.in1 (pyNext (.ref I)>>=_) _ _ s;refine wX (W.done s _ _ nK λs' hm=>?_);show wpAny _ A.in1 (ret Value.none) _ _ s';refine wY (hR s' (hm.mono yA) ?_);rw[List.take_of_length_le (by omega)]at hS;exact hS.at λo e=>hm.heap S _ JY e
 |succ k ih=>
  intro i s hk hi nK hS hR;have eO:i<n:=by omega
  refine codeAny_builtin PyProof.Rows.F.entry_set_update_loop ?_;rw[Around.under_plainId PyProof.Rows.F.plain_set_update_loop _];show wpAny _ A.in1 (pyNext (.ref I)>>=_) _ _ s;refine wX (W.item i s _ _ eO nK λv s' hP hst' hm=>?_);obtain⟨x,t,rfl,hx⟩:=Di i v hP;have vx:eY kd kf s'.heap S (cy (ss.take i)):=hS.at λo e=>hm.heap S _ JY e;show wpAny _ A.in1 (holding [mk x t] (setAdd S (mk x t))>>=_) _ _ s';refine wX (wpAny_holding ?_);unfold setAdd;refine wpAny_holding ?_;refine wX (kd.pyHash (k:=x) (K0.is x t) ?_);have hl:(cy (ss.take i)).length+1<scanBound:=by have:=iW (ss.take i);rw[List.length_take]at this;omega
  refine r0 K0 (s:={ s' with toks:=s'.toks+1 }) vx hl λb h' hsb Bu=>?_;have GA:eY kd kf h' S (cy (ss.take (i+1))):=by
   rw[List.take_add_one,hx,Option.toList_some,uB];exact Bu
  refine wY ⟨plainId_quiet PyProof.Rows.F.plain_set_update_loop _,ih (i+1) _ (by omega) eO (W.frame _ s' _ _ hst' (Nat.le_succ _) λb hb o e=>?_) GA λFf hm'' hS''=>?_⟩
  ·rw[hsb.2 b (λh:b=S=>ud (by rw[←h];exact hb))];exact e
  ·refine hR Ff (Moved.trans W.gtrans ((hm.mono yA).then_heap (Nat.le_succ _) λb o hb e=>?_) hm'') hS'';rw[hsb.2 b (λh:b=S=>hb (by rw[h];exact mX))];exact e
end
section
variable {prog:Program}{w:World}{A:Around}{E:Value->Shared->Prop}{s:Shared}{κ:Type}[DecidableEq κ] {kd:PySem.KeyKind prog w κ}{kf:Value->κ}{mk:κ->Tok->Value}
noncomputable abbrev cB (w:World):Obj:={ cls:=.type "set",dict:=none,data:=.set #[] 0 (.fresh 0 0 (!w.params.followText "set-order")) }
theorem pC (a:Value) 
  (h:Q₁ (.ref s.heap.objs.size) { s with heap:=s.heap.push (cB w) }):
  codeAny (model prog w) A (.call (.builtin "set.__new__") ⟨[.type "set",a],[]⟩) (wants Q₁ E) s:=by
 refine codeAny_of_tree ?_;show wpAny _ A.in1 (do checkBuiltinCall "set.__new__" ⟨[.type "set",a],[]⟩;again (.builtin "set.__new__" ⟨[.type "set",a],[]⟩)) _ _ s;refine wX (wpAny_of_eq (PySem.F.newCall_set_1 a) (wY ⟨plainId_quiet PySem.F.plain_set_new _,codeAny_builtin PySem.F.entry_set_new ?_⟩));rw[Around.under_plainId PySem.F.plain_set_new _];unfold Builtin.«set.__new__» Builtin.Frozenset.newClass;have yA:=sub_set_self;obtain⟨hp,g,d,tk,os⟩:=s;dsimp only;wp_walk;refine wpAny_askSetting (wY ?_);dsimp only;simp only[newObj];refine wX (wpAny_alloc (wY ?_));exact wY h
set_option maxHeartbeats 3200000 in
theorem ml (K0:KOf kd kf mk){ss:List κ}
  (hh:A.handled=none) (hl:s.heap.IsList l am) (Di:∀(i:Nat)(v:Value),am[i]? = some v->∃x t,v=mk x t/\ss[i]? = some x) (bp:ss.length=am.size) (hb:am.size+1<scanBound)
  (h:∀(h':Heap)(tk:Nat),eY kd kf h' s.heap.objs.size (cy ss) ->
   (∀b o,b<s.heap.objs.size->s.heap.get? b=some o->h'.get? b=some o)->Q (.ref s.heap.objs.size) { s with heap:=h',toks:=tk }):
  wpAny (model prog w) A (call (.type "set") [.ref l]) Q E s:=by
 obtain⟨c,tl,LN⟩:=PySem.F.called_set.mro;have JZ:=PySem.F.called_set.made;have yA:=PySem.F.called_set.sub;refine wpAny_call (codeAny_of_tree ?_);show wpAny _ _ (callAny (.type "set") _) _ _ _;refine wY ⟨Code.quiet_builtin _ (by decide +kernel),codeAny_builtin PySem.F.entry_type_call ?_⟩;rw[Around.under_plain (weight_type_call_type "set" [.ref l] []) rfl];have h1:=PySem.F.called_set.notType;have h2:=PySem.F.called_set.canCreate;have MO:=PySem.F.typeCall_set_1 (.ref l);repeat (any_goals (first|assumption|wp_step))
 refine codeAny_mono (pC (.ref l) (E:=E) (Q₁:=λobj s₁=>obj=.ref s.heap.objs.size/\s₁={ s with heap:=s.heap.push (cB w) }) ⟨rfl,rfl⟩) λr s₁ hr=>?_;cases r with
 |error e=>exact hr
 |ok fl=>
  cases fl with
  |ret obj=>
   obtain⟨rfl,rfl⟩:=hr;have hS:(s.heap.push (cB w)).get? s.heap.objs.size=some (cB w):=vY _ rfl;have hT:Shared.TypeIs { s with heap:=s.heap.push (cB w) } (.ref s.heap.objs.size) "set":=⟨_,hS,rfl⟩;have MP:=PySem.F.called_set.init.lookup;have MQ:=PySem.F.called_set.init.bind (.ref s.heap.objs.size);repeat (any_goals (first|assumption|wp_step))
   refine codeAny_mono (codeAny_call_builtin (R:=wants (λr s₂=>r=.none/\∃h' tk,s₂={ s with heap:=h',toks:=tk } /\
     eY kd kf h' s.heap.objs.size (cy ss) /\
     (∀b o,b<s.heap.objs.size->s.heap.get? b=some o->h'.get? b=some o)) E) PySem.F.called_set.init.plain PySem.F.entry_set_init (check_set_init_1 hT ?_)) λr₂ s₂ hr₂=>?_
   ·obtain⟨ol,Ka,Kb,nl,GB⟩:=hl;obtain⟨LO,FF,Kc,Dk⟩:=ol;simp only at Kb GB;subst Kb;subst GB;have I0:(s.heap.push (cB w)).get? l=some { cls:=.type "list",dict:=FF,data:=.seq am nl,slots:=Dk }:=vZ _ Ka;have LQ:=PySem.F.sub_list_set;have LR:=PySem.F.sub_list_frozenset;have DE:(Value.type "list" == Value.type "dict")=false:=by decide
    have Bt:(s.heap.push (cB w)).IsList l am:=⟨_,I0,rfl,nl,rfl⟩;unfold Builtin.«set.__init__» noKeywords Builtin.Frozenset.updateFrom;generalize hPI:pyIter=PI;wp_walk;subst hPI;refine wpAny_pyIter_list Bt ?_;refine wX (wpAny_runValue ?_);have Kd:l<s.heap.objs.size:=vX Ka;have LS:A.in1.in1.in1.handled=none:=by simp[hh]
    have IA:l≠(s.heap.push (cB w)).objs.size:=by
     rw[Heap.size_push];exact vS (Nat.lt_succ_of_lt Kd)
    have ud:s.heap.objs.size∉[(s.heap.push (cB w)).objs.size,l]:=by
     rw[Heap.size_push];simp only[List.mem_cons,List.mem_singleton,List.not_mem_nil,or_false,not_or];exact⟨vS (Nat.lt_succ_self _),Nat.ne_of_gt Kd⟩
    refine oq K0 ((Walks.list LS _ l IA am).toS) s.heap.objs.size
     ud ss bp Di hb (am.size - 0) 0 _ (by omega) (uN _)
     ⟨⟨_,vY _ rfl,rfl,rfl⟩,(Bt.push _)⟩ ?hS0 ?hR
    case hS0=>
     have IB:((s.heap.push (cB w)).push { cls:=.type "list_iterator",data:=.fields #[.ref l,.int 0 0] }).get? s.heap.objs.size
       = some (cB w):=vZ _ hS
     exact⟨_,#[],0,_,IB,⟨rfl,rfl,rfl⟩,rfl,λe he=>by simp at he,List.Perm.refl _,List.nodup_nil,(by show(0:Nat)<scanBound;decide),rfl,rfl,List.Pairwise.nil⟩
    case hR=>
     intro s' hm vx
     obtain⟨h',g',d',LU,HS⟩:=s'
     have eg:g'=s.gens:=hm.gens
     have ed:d'=s.drawn:=hm.drawn
     have eo:HS=s.os:=hm.os
     subst eg;subst ed;subst eo
     show wpAny _ _ _ _ _ _
     refine wY ?_
     show wpAny _ _ (ret Value.none) _ _ _
     refine wY ⟨rfl,h',LU,rfl,vx,λb o hb e=>?_⟩
     have yB:b≠s.heap.objs.size:=vS hb
     have Ke:b≠(s.heap.push (cB w)).objs.size:=by
      rw[Heap.size_push];exact vS (Nat.lt_succ_of_lt hb)
     exact hm.heap b o (by simp only[List.mem_cons,List.mem_singleton,List.not_mem_nil,or_false,not_or];exact⟨yB,Ke⟩) (vZ _ (vZ _ e))
   ·cases r₂ with
    |error e=>exact hr₂
    |ok fl₂=>
     cases fl₂ with
     |ret r=>
      obtain⟨rfl,h',tk,rfl,vx,Bv⟩:=hr₂;repeat (any_goals (first|assumption|wp_step))
      exact h _ _ vx Bv
     |_=>exact hr₂.elim
  |_=>exact hr.elim
end
open Sem (wp)
section
variable {M:Model}{A:Around}{E:Value->Shared->Prop}{s:Shared}
theorem zX (hn:n≠0)(h:∀k d,k<n->Q k { s with drawn:=d }):wpAny M A (choose src n) Q E s:=by
 intro Γ p hG;unfold choose;rw[Sem.wp_choose];refine⟨hn,?_⟩;have:=h _ (s.drawn.bump src) (Nat.mod_lt (M.w.draws src (s.drawn.get src)) (Nat.pos_of_ne_zero hn));simpa using this
end
theorem iX {α:Type}:∀(l:List α)(i:Nat),i<l.length->(l.eraseIdx i).length=l.length - 1:=λl i h=>by rw[List.length_eraseIdx,if_pos h]
theorem i0 {α:Type}:∀(l:List α)(i:Nat)(x:α),l[i]? = some x->(x::l.eraseIdx i).Perm l
 |[],i,x,h=>by simp at h
 |a::l,0,x,h=>by simp at h;subst h;exact List.Perm.refl _
 |a::l,i+1,x,h=>by
  rw[List.eraseIdx_cons_succ];simp only[List.getElem?_cons_succ]at h;exact(List.Perm.swap a x _).trans ((i0 l i x h).cons a)
theorem tm {α:Type}:∀(n:Nat)(xs:List α)(s:Shared)(Q:List α->Shared->Prop),xs.length=n->(∀ys d,ys.Perm xs->Q ys { s with drawn:=d })->wpAny M A (drawOrder n xs) Q E s
 |0,xs,s,Q,hl,h=>by
  have:xs=[]:=List.eq_nil_of_length_eq_zero hl;subst this;exact wY (h [] s.drawn (List.Perm.refl _))
 |n+1,[],s,Q,hl,h=>by simp at hl
 |n+1,x::r,s,Q,hl,h=>by
  show wpAny M A (choose .order (x::r).length>>=λi=>match (x::r)[i]? with
   |some x'=>(do return x'::(←drawOrder n ((x::r).eraseIdx i)))
   |none=>unsupported "internal:drawOrder") Q E s
  refine wX (zX (by simp) λk d hk=>?_);obtain⟨y,hy⟩:∃y,(x::r)[k]? = some y:=⟨_,vU hk⟩;rw[hy];refine wX (tm n _ _ _ (by rw[iX _ _ hk,hl];rfl) λys d' hp=>wY (h _ _ ((hp.cons y).trans (i0 _ _ _ hy))))
theorem tq {α:Type}(next:Nat->Nat):∀(fuel k:Nat)(left:List α)(out:Array α),left.length=fuel->(pickOrder.go next fuel k left out).toList.Perm (out.toList++left)
 |0,k,left,out,hl=>by
  have:left=[]:=List.eq_nil_of_length_eq_zero hl;subst this;unfold pickOrder.go;simp
 |fuel+1,k,left,out,hl=>by
  unfold pickOrder.go;have hk:next k % left.length<left.length:=Nat.mod_lt _ (by omega);obtain⟨y,hy⟩:∃y,left[next k % left.length]? = some y:=⟨_,vU hk⟩;rw[hy];dsimp only;refine(tq next fuel (k+1) _ _ (by rw[iX _ _ hk];omega)).trans ?_;rw[Array.toList_push,List.append_assoc];exact(i0 _ _ _ hy).append_left _
theorem uC {α:Type}(next:Nat->Nat)(xs:Array α):(pickOrder next xs).toList.Perm xs.toList:=by
 have:=tq next xs.size 0 xs.toList #[] (by simp);simpa [pickOrder]using this
theorem aM:Slot "set_iterator" "__next__" "set_iterator.__next__" :=
 .of (owner:="set_iterator") (n:="__next__") (by rw[typeLookup_type,builtinLookup_eq_fast];kernel_rfl) (by decide +kernel) (by decide +kernel) (by decide +kernel)
  (by first|exact .inl (by decide +kernel)|exact .inr (by decide +kernel)) (by rw[isSubtype_type];kernel_rfl)
theorem cN:entryFor table "set_iterator.__next__" = some Builtin.«set_iterator.__next__»:=entryFor_of_tree (by kernel_rfl)
theorem cW (a:Value):argsOk "set_iterator.__next__" ⟨[a],[]⟩:=by unfold argsOk;kernel_rfl
theorem hJ:Slot "set_iterator" "__iter__" "set_iterator.__iter__" :=
 .of (owner:="set_iterator") (n:="__iter__") (by rw[typeLookup_type,builtinLookup_eq_fast];kernel_rfl) (by decide +kernel) (by decide +kernel) (by decide +kernel)
  (by first|exact .inl (by decide +kernel)|exact .inr (by decide +kernel)) (by rw[isSubtype_type];kernel_rfl)
theorem kX:entryFor table "set_iterator.__iter__" = some Builtin.«dict_keyiterator.__iter__» :=
 entryFor_alias (id':="dict_keyiterator.__iter__") (by kernel_rfl) rfl (by decide +kernel) (by kernel_rfl)
theorem mm (a:Value):argsOk "set_iterator.__iter__" ⟨[a],[]⟩:=by unfold argsOk;kernel_rfl
theorem kg:entryFor table "set.__iter__" = some Builtin.«frozenset.__iter__» :=
 entryFor_alias (id':="frozenset.__iter__") (by kernel_rfl) rfl (by decide +kernel) (by kernel_rfl)
noncomputable abbrev i6 (fst:Value)(i:Nat)(S:Addr)(n ep:Nat):Obj:={ cls:=.type "set_iterator",data:=.fields #[fst,.int i 0,.ref S,.int n 0,.int ep 0] }
section
variable {prog:Program}{w:World}{A:Around}{E:Value->Shared->Prop}{s:Shared}{it S:Addr}{i ep:Nat}{o:Obj}{es:Array (Int×Value)}{t:SetTable}
theorem cf (ho:s.heap.get? it=some (i6 fst i S n ep)):s.TypeIs (.ref it) "set_iterator":=⟨_,ho,rfl⟩
theorem ot {k k':Nat}{x:Value}{Q:Option Value->Shared->Prop}(ho:s.heap.get? it=some (i6 (.int k 0) i S es.size ep))
  (hS:s.heap.get? S=some o) (hd:o.data=.set es ep t) (hf:t.fits es.size=true)
  (hN:∀(A':Around)(E':Value->Shared->Prop)(Q':Option (Value×Nat)->Shared->Prop),Q' (some (x,k')) s->wpAny (model prog w) A' (setNext S k i ep) Q' E' s)
  (hQ:∀h',h'.get? it=some (i6 (.int k' 0) (i+1) S es.size ep)->Heap.SameBut it s.heap h'->Q (some x) { s with heap:=h' }):
  wpAny (model prog w) A (pyNext (.ref it)) Q E s:=by
 unfold pyNext;refine wX (wpAny_attempt (wpAny_callSpecial?_slot (name:=Str.ofString "__next__") (cf ho) aM
  (wpAny_call_entry aM (cf ho) cN ?_ (cW _))))
 show wpAny _ _ (fieldsOf (.ref it)>>=_) _ _ s;refine wX (wpAny_fieldsOf ho rfl ?_);show wpAny _ _ (setEntries S>>=_) _ _ s;refine wX (wpAny_setEntries_of hS hd hf ?_);rw[if_neg (by simp)];show wpAny _ _ (setNext S _ _ _>>=_) _ _ s;simp only[Int.toNat_natCast];refine wX (hN _ _ _ ?_);dsimp only;refine wX (wpAny_setField_rec ho (by simp) λh1 e1 b1=>?_);refine wX (wpAny_setField_rec e1 (by simp) λh2 e2 b2=>?_);exact wY ⟨x,rfl,wY (hQ h2 (by simpa [rawInt,i6]using e2) (b1.trans b2))⟩
theorem ou {k:Nat}{Q:Option Value->Shared->Prop}(hh:A.handled=none)(ho:s.heap.get? it=some (i6 (.int k 0) i S es.size ep))
  (hS:s.heap.get? S=some o) (hd:o.data=.set es ep t) (hf:t.fits es.size=true)
  (hN:∀(A':Around)(E':Value->Shared->Prop)(Q':Option (Value×Nat)->Shared->Prop),Q' none s->wpAny (model prog w) A' (setNext S k i ep) Q' E' s)
  (hQ:∀h',Heap.ExtBut it s.heap h'->Q none { s with heap:=h' }):
  wpAny (model prog w) A (pyNext (.ref it)) Q E s:=by
 unfold pyNext;refine wX (wpAny_attempt (wpAny_callSpecial?_slot (name:=Str.ofString "__next__") (cf ho) aM
  (wpAny_call_entry aM (cf ho) cN ?_ (cW _))))
 show wpAny _ _ (fieldsOf (.ref it)>>=_) _ _ s;refine wX (wpAny_fieldsOf ho rfl ?_);show wpAny _ _ (setEntries S>>=_) _ _ s;refine wX (wpAny_setEntries_of hS hd hf ?_);rw[if_neg (by simp)];show wpAny _ _ (setNext S _ _ _>>=_) _ _ s;simp only[Int.toNat_natCast];refine wX (hN _ _ _ ?_);dsimp only;refine wX (wpAny_setField_rec ho (by simp) λh1 e1 b1=>?_);refine wX ?_;simp only[newExc,newTuple];refine wX (wpAny_newObj_type ?_ (by size_fits));refine wX (m:=firstArgMember _ _) (wpAny_of_eq (a:=Value.none) (by first|rfl|(simp only[firstArgMember];rfl)) ?_);refine wpAny_newObj_type ?_ (by size_fits);simp only[raiseNew];refine wX (wpAny_handled ?_);rw[show A.in1.handled=none from hh];refine wX (wY (wpAny_throw ?_));refine wX (wpAny_isInstance (T:="StopIteration") (b:=true) ⟨_,vY _ rfl,rfl⟩ isSubtype_stop ?_);exact wY (hQ _ ((b1.extBut.push _).push _))
theorem mn {T:Addr}{pl:List Nat}{p:Nat}{x:Int×Value}{nt:Nat}{Q:Option Value->Shared->Prop}(ho:s.heap.get? it=some (i6 (.ref T) i S es.size ep))
  (hT:s.heap.get? T=some (seqObj "tuple" (pl.map λ(p:Nat)=>Value.int p 0).toArray nt))
  (hS:s.heap.get? S=some o) (hd:o.data=.set es ep t) (hf:t.fits es.size=true) (hp:pl[i]? = some p) (hx:es[p]? = some x)
  (hQ:∀h',h'.get? it=some (i6 (.ref T) (i+1) S es.size ep)->Heap.SameBut it s.heap h'->Q (some x.2) { s with heap:=h' }):
  wpAny (model prog w) A (pyNext (.ref it)) Q E s:=by
 unfold pyNext;refine wX (wpAny_attempt (wpAny_callSpecial?_slot (name:=Str.ofString "__next__") (cf ho) aM
  (wpAny_call_entry aM (cf ho) cN ?_ (cW _))))
 show wpAny _ _ (fieldsOf (.ref it)>>=_) _ _ s;refine wX (wpAny_fieldsOf ho rfl ?_);show wpAny _ _ (setEntries S>>=_) _ _ s;refine wX (wpAny_setEntries_of hS hd hf ?_);rw[if_neg (by simp)];show wpAny _ _ (seqItems? (.ref T)>>=_) _ _ s;refine wX (wpAny_seqItems hT rfl ?_);have e1:(pl.map λ(p:Nat)=>Value.int p 0).toArray[(i:Int).toNat]? = some (.int p 0):=by simp[hp]
 dsimp only;rw[e1];dsimp only;have e2:wpAny (model prog w) A.in1 (setNextDrawn S (p:Int).toNat (ep:Int).toNat) (λy s'=>y=x.2/\s'=s) (λ_ _=>False) s:=by
  unfold setNextDrawn;refine wX (wpAny_setState_of hS hd hf ?_);dsimp only;rw[if_neg (by simp)];simp only[Int.toNat_natCast,hx];exact wY ⟨rfl,rfl⟩
 refine wX (wpAny_mono e2 (λy s' hy=>?_) λ_ _ z=>z.elim);obtain⟨rfl,rfl⟩:=hy;refine wX (wpAny_setField_rec ho (by simp) λh1 e1 b1=>?_);exact wY ⟨_,rfl,wY (hQ h1 (by simpa [rawInt,i6]using e1) b1)⟩
theorem mo {T:Addr}{pl:List Nat}{nt:Nat}{Q:Option Value->Shared->Prop}(hh:A.handled=none)(ho:s.heap.get? it=some (i6 (.ref T) i S es.size ep))
  (hT:s.heap.get? T=some (seqObj "tuple" (pl.map λ(p:Nat)=>Value.int p 0).toArray nt))
  (hS:s.heap.get? S=some o) (hd:o.data=.set es ep t) (hf:t.fits es.size=true) (hp:pl[i]? = none)
  (hQ:∀h',Heap.ExtBut it s.heap h'->Q none { s with heap:=h' }):
  wpAny (model prog w) A (pyNext (.ref it)) Q E s:=by
 unfold pyNext;refine wX (wpAny_attempt (wpAny_callSpecial?_slot (name:=Str.ofString "__next__") (cf ho) aM
  (wpAny_call_entry aM (cf ho) cN ?_ (cW _))))
 show wpAny _ _ (fieldsOf (.ref it)>>=_) _ _ s;refine wX (wpAny_fieldsOf ho rfl ?_);show wpAny _ _ (setEntries S>>=_) _ _ s;refine wX (wpAny_setEntries_of hS hd hf ?_);rw[if_neg (by simp)];show wpAny _ _ (seqItems? (.ref T)>>=_) _ _ s;refine wX (wpAny_seqItems hT rfl ?_);have e1:(pl.map λ(p:Nat)=>Value.int p 0).toArray[(i:Int).toNat]? = none:=by simpa using hp
 dsimp only;rw[e1];dsimp only;refine wX (wpAny_setField_rec ho (by simp) λh0 e0 b0=>?_);refine wX (wpAny_setField_rec e0 (by simp) λh1 e1 b1=>?_);refine wX ?_;simp only[newExc,newTuple];refine wX (wpAny_newObj_type ?_ (by size_fits));refine wX (m:=firstArgMember _ _) (wpAny_of_eq (a:=Value.none) (by first|rfl|(simp only[firstArgMember];rfl)) ?_);refine wpAny_newObj_type ?_ (by size_fits);simp only[raiseNew];refine wX (wpAny_handled ?_);rw[show A.in1.handled=none from hh];refine wX (wY (wpAny_throw ?_));refine wX (wpAny_isInstance (T:="StopIteration") (b:=true) ⟨_,vY _ rfl,rfl⟩ isSubtype_stop ?_);exact wY (hQ _ (((b0.trans b1).extBut.push _).push _))
theorem pD (ho:s.heap.get? it=some (i6 fst i S n ep))(h:Q (.ref it) s):wpAny (model prog w) A (pyIter (.ref it)) Q E s:=by
 refine wpAny_pyIter_slot (cf ho) hJ (wpAny_call_entry hJ (cf ho) kX ?_ (mm _));show wpAny _ _ (ret (.ref it)) _ _ s;exact wY ⟨_,rfl,"set_iterator",_,cf ho,aM.lookup,h⟩
end
section
variable {prog:Program}{w:World}{A:Around}{E:Value->Shared->Prop}{s:Shared}{it S:Addr}{i k ep:Nat}{o:Obj}{es:Array (Int×Value)}{t:SetTable}
theorem mS (hS:s.heap.get? S=some o)(hd:o.data=.set es ep t)(hf:t.fits es.size=true)(hb:w.params.followText "set-order" = true)
  (h:Q (((pickOrder (w.params.setOrder S ep) es)[i]?).map λe=>(e.2,k)) s):wpAny (model prog w) A (setNext S k i ep) Q E s:=by
 unfold setNext;refine wX (wpAny_setState_of hS hd hf ?_);dsimp only;unfold setsByText;refine wX (wX (wpAny_askSetting (wY ?_)));show wpAny _ _ (if w.params.followText "set-order" = true then _ else _) _ _ _;rw[if_pos hb,if_neg (by simp)];unfold setWalk setsByText;refine wX (wX (wpAny_setState_of hS hd hf ?_));dsimp only;refine wX (wX (wpAny_askSetting (wY ?_)));show wpAny _ _ (if w.params.followText "set-order" = true then _ else _) _ _ _;rw[if_pos hb];refine wX (wpAny_askSetting (wY ?_));exact wY h
theorem kY (hS:s.heap.get? S=some o)(hd:o.data=.set es ep t)(hf:t.fits es.size=true)(hb:w.params.followText "set-order" = false)(hl:t.led=true)(hz:(!t.plain && decide (es.size > 1))=false)
  (h:Q (match es[SetTable.below t.place k]?,t.place[SetTable.below t.place k]? with
   |some (_,x),some j=>some (x,j+1)
   |_,_=>none) s):wpAny (model prog w) A (setNext S k i ep) Q E s:=by
 unfold setNext;refine wX (wpAny_setState_of hS hd hf ?_);dsimp only;unfold setsByText;refine wX (wX (wpAny_askSetting (wY ?_)));show wpAny _ _ (if w.params.followText "set-order" = true then _ else _) _ _ _;rw[if_neg (by rw[hb];simp)];show wpAny _ _ (if(!t.plain && decide (es.size > 1))=true then _ else _) _ _ _;rw[if_neg (by rw[hz];simp)];show wpAny _ _ ((if(!t.led && !es.isEmpty)=true then unsupported "set:maker-not-led" else pure ())>>=_) _ _ _;rw[hl,if_neg (by simp)];refine wX (wY ?_);exact wY h
theorem mT (hh:A.handled=none)(hd:o.data=.set es ep t)(hf:t.fits es.size=true)(DE:S≠it)(vs:List Value)(hv:vs.length=es.size)(sl:Nat->Nat)
  (hN:∀i x,vs[i]? = some x->∀(A':Around)(E':Value->Shared->Prop)(s:Shared)(Q':Option (Value×Nat)->Shared->Prop),s.heap.get? S=some o->Q' (some (x,sl (i+1))) s->wpAny (model prog w) A' (setNext S (sl i) i ep) Q' E' s)
  (hE:∀(A':Around)(E':Value->Shared->Prop)(s:Shared)(Q':Option (Value×Nat)->Shared->Prop),s.heap.get? S=some o->Q' none s->wpAny (model prog w) A' (setNext S (sl es.size) es.size ep) Q' E' s):
  Walks prog w A it [it,S] [it] es.size (λi v=>vs[i]? = some v) (λi h=>h.get? it=some (i6 (.int (sl i) 0) i S es.size ep)/\h.get? S=some o) where
 sub:=λb hb=>by simp at hb;simp[hb]
 frame:=λ_ _ _ st hk=>⟨hk it (by simp) _ st.1,hk S (by simp) _ st.2⟩
 item:=λi s Q E hi st hQ=>by
  obtain⟨x,hx⟩:∃x,vs[i]? = some x:=⟨_,vU (by omega)⟩;refine ot st.1 st.2 hd hf (λA' E' Q' q=>hN i x hx A' E' s Q' st.2 q) λh' h1 h2=>?_;exact hQ x h' s.toks hx ⟨h1,h2.extBut S _ DE st.2⟩ λb u hb e=>h2.extBut b u (λz=>hb (by simp[z])) e
 done:=λs Q E st hQ=>ou hh st.1 st.2 hd hf (λA' E' Q' q=>hE A' E' s Q' st.2 q) λh' h1=>hQ h' s.toks λb u hb e=>h1 b u (λz=>hb (by simp[z])) e
 self:=λ_ _ _ _ st hQ=>pD st.1 hQ
theorem rA {T:Addr}{pl:List Nat}{nt:Nat}(hh:A.handled=none)(hd:o.data=.set es ep t)(hf:t.fits es.size=true)(DE:S≠it)(LV:T≠it)(hp:pl.Perm (List.range es.size)):
  Walks prog w A it [it,S,T] [it] es.size (λi v=>(pl.map λp=>(es.getD p (0,.none)).2)[i]? = some v)
   (λi h=>h.get? it=some (i6 (.ref T) i S es.size ep)/\h.get? S=some o/\h.get? T=some (seqObj "tuple" (pl.map λ(p:Nat)=>Value.int p 0).toArray nt)) where
 sub:=λb hb=>by simp at hb;simp[hb]
 frame:=λ_ _ _ st hk=>⟨hk it (by simp) _ st.1,hk S (by simp) _ st.2.1,hk T (by simp) _ st.2.2⟩
 item:=λi s Q E hi st hQ=>by
  have bp:pl.length=es.size:=by rw[hp.length_eq,List.length_range]
  obtain⟨p,hx⟩:∃p,pl[i]? = some p:=⟨_,vU (by omega)⟩;have LW:p<es.size:=List.mem_range.mp (hp.mem_iff.mp (List.mem_of_getElem? hx));have he:es[p]? = some (es.getD p (0,.none)):=by rw[Array.getD_eq_getD_getElem?,Array.getElem?_eq_getElem LW];rfl
  refine mn st.1 st.2.2 st.2.1 hd hf hx he λh' h1 h2=>?_;exact hQ _ h' s.toks (by simp[hx]) ⟨h1,h2.extBut S _ DE st.2.1,h2.extBut T _ LV st.2.2⟩ λb u hb e=>h2.extBut b u (λz=>hb (by simp[z])) e
 done:=λs Q E st hQ=>by
  have bp:pl.length=es.size:=by rw[hp.length_eq,List.length_range]
  exact mo hh st.1 st.2.2 st.2.1 hd hf (List.getElem?_eq_none (by omega)) λh' h1=>hQ h' s.toks λb u hb e=>h1 b u (λz=>hb (by simp[z])) e
 self:=λ_ _ _ _ st hQ=>pD st.1 hQ
end
theorem rB {α:Type}(es:Array α)(d:α):(List.range es.size).map (λp=>es.getD p d)=es.toList:=by
 apply List.ext_getElem?;intro i;by_cases h:i<es.size
 ·simp[h,Array.getD_eq_getD_getElem?]
 ·simp[h]
section
variable {prog:Program}{w:World}{A:Around}{E:Value->Shared->Prop}{s:Shared}
theorem xr {κ:Type}[DecidableEq κ]{kd:PySem.KeyKind prog w κ}{kf:Value->κ}{mk:κ->Tok->Value}(K0:KOf kd kf mk){S:Addr}{ts:List κ}{Q:Value->Shared->Prop}(hS:eY kd kf s.heap S ts)
  (hQ:∀(h':Heap)(d:Drawn)(it:Addr)(vs:List Value)(fp:List Addr)(St:Nat->Heap->Prop),(∀A',A'.handled=none->Walks prog w A' it fp [it] ts.length (λi v=>vs[i]? = some v) St)->St 0 h' ->
   (∀b u,s.heap.get? b=some u->h'.get? b=some u)->s.heap.objs.size<=it->(∀b∈fp,b=S∨s.heap.objs.size<=b)->vs.length=ts.length->(vs.map kf).Perm ts->(∀v∈vs,∃x t,v=mk x t) ->
   Q (.ref it) { s with heap:=h',drawn:=d }):wpAny (model prog w) A (pyIter (.ref S)) Q E s:=by
 obtain⟨o,es,ep,t,ho,wb,hd,yS,hp,nd,hb,hf,yC,kz⟩:=hS;have sz:es.size=ts.length:=by rw[←hp.length_eq,vH,vF]
 have Dl:S<s.heap.objs.size:=vX ho;have Kf:s.TypeIs (.ref S) "set":=⟨_,ho,wb.1⟩;have yD:∀e∈es.toList,∃x t,e.2=mk x t:=λe he=>by
  obtain⟨⟨k,hk,_⟩,_⟩:=yS e he;obtain⟨t,q⟩:=K0.of hk;exact⟨k,t,q⟩
 refine wpAny_pyIter_slot Kf PySem.F.slot_set_iter (wpAny_call_entry PySem.F.slot_set_iter Kf kg ?_ (PySem.F.args_set_iter_1 _));show wpAny _ _ (Builtin.Frozenset.sizeOf S>>=_) _ _ s;unfold Builtin.Frozenset.sizeOf;refine wX (wX (wpAny_setEntries_of ho hd hf (wY ?_)));unfold setDrawn setsByText;refine wX (wX (wpAny_setState_of ho hd hf ?_));dsimp only;refine wX (wX (wpAny_askSetting (wY (wY ?_))));show wpAny _ _ (if(!w.params.followText "set-order" && (!t.plain && decide (es.size > 1)))=true then _ else _) _ _ _;have Dm:(es.toList.map (·.2)).map kf=es.toList.map (λe=>kf e.2):=by rw[List.map_map];rfl
 by_cases Bw:w.params.followText "set-order" = true
 ·rw[if_neg (by rw[Bw];simp)];refine wX (wY ?_);refine wX (wpAny_setEpoch_of ho hd hf ?_);have pp:=uC (w.params.setOrder S ep) es;have bp:((pickOrder (w.params.setOrder S ep) es).toList.map (·.2)).length=es.size:=by rw[vH,pp.length_eq,vF]
  refine wX (wpAny_newObj_type (wY ⟨_,rfl,"set_iterator",_,⟨_,vY _ rfl,rfl⟩,aM.lookup,?_⟩));refine hQ _ s.drawn s.heap.objs.size ((pickOrder (w.params.setOrder S ep) es).toList.map (·.2)) [s.heap.objs.size,S] (λi h=>h.get? s.heap.objs.size=some (i6 (.int ((λ_=>0:Nat->Nat) i:Nat) 0) i S es.size ep)/\h.get? S=some o) (λA' hA=>?_) ?_ (λb u e=>vZ _ e) (vT _) (λb hb=>?_) (bp.trans sz) ?_ ?_
  ·rw[←sz];exact mT hA hd hf (vS Dl) _ bp (λ_=>0) (λi x hx A' E' s Q' h1 h2=>mS h1 hd hf Bw (by
    rw[vA,Array.getElem?_toList]at hx;obtain⟨e,he,rfl⟩:=oY hx;rw[he];exact h2)) (λA' E' s Q' h1 h2=>mS h1 hd hf Bw (by
    rw[Array.getElem?_eq_none (by rw[←vF,pp.length_eq,vF];exact vT _)];exact h2))
  ·exact⟨vY _ rfl,vZ _ ho⟩
  ·simp only[List.mem_cons,List.not_mem_nil,or_false]at hb;rcases hb with rfl|rfl
   ·exact .inr (vT _)
   ·exact .inl rfl
  ·refine List.Perm.trans ?_ hp;rw[←Dm];exact(pp.map _).map _
  ·intro v hv;obtain⟨e,he,rfl⟩:=List.mem_map.mp hv;exact yD e (pp.mem_iff.mp he)
 ·rw[Bool.not_eq_true]at Bw;have hl:t.led=true:=by rw[yC,Bw];rfl
  by_cases h1:(!t.plain && decide (es.size > 1))=false
  ·rw[if_neg (by rw[h1];simp)];refine wX (wY ?_);refine wX (wpAny_setEpoch_of ho hd hf ?_);refine wX (wpAny_newObj_type (wY ⟨_,rfl,"set_iterator",_,⟨_,vY _ rfl,rfl⟩,aM.lookup,?_⟩));have FH:∀i,i<=es.size->SetTable.below t.place (if i=0 then 0 else t.place.getD (i - 1) 0+1)=i:=λi hi=>by
    by_cases h0:i=0
    ·rw[if_pos h0,rq kz,h0]
    ·rw[if_neg h0,rm kz (i:=i - 1) (by rw[Array.getD_eq_getD_getElem?,Array.getElem?_eq_getElem (by have:t.place.size=es.size:=by { simp only[SetTable.fits,vC,beq_iff_eq,decide_eq_true_eq]at hf;exact hf.1 };omega)];rfl)];omega
   have MR:t.place.size=es.size:=by
    simp only[SetTable.fits,vC,beq_iff_eq,decide_eq_true_eq]at hf;exact hf.1
   refine hQ _ s.drawn s.heap.objs.size (es.toList.map (·.2)) [s.heap.objs.size,S] (λi h=>h.get? s.heap.objs.size=some (i6 (.int ((λi=>if i=0 then 0 else t.place.getD (i - 1) 0+1:Nat->Nat) i:Nat) 0) i S es.size ep)/\h.get? S=some o) (λA' hA=>?_) ?_ (λb u e=>vZ _ e) (vT _) (λb hb=>?_) (by rw[vH,vF,sz]) (by rw[Dm];exact hp) ?_
   ·rw[←sz];refine mT hA hd hf (vS Dl) _ (by simp) (λi=>if i=0 then 0 else t.place.getD (i - 1) 0+1) (λi x hx A' E' s Q' q1 q2=>kY q1 hd hf Bw hl h1 ?_) (λA' E' s Q' q1 q2=>kY q1 hd hf Bw hl h1 ?_)
    ·rw[FH i (by have:=(vV hx).1;simp at this;omega)];rw[vA,Array.getElem?_toList]at hx;obtain⟨e,he,rfl⟩:=oY hx;have hi:=(Array.getElem?_eq_some_iff.mp he).1;rw[he,show t.place[i]? = some (t.place.getD i 0) by rw[Array.getD_eq_getD_getElem?,Array.getElem?_eq_getElem (by omega)];rfl];exact q2
    ·rw[FH es.size (vT _),Array.getElem?_eq_none (vT _)];exact q2
   ·exact⟨vY _ rfl,vZ _ ho⟩
   ·simp only[List.mem_cons,List.not_mem_nil,or_false]at hb;rcases hb with rfl|rfl
    ·exact .inr (vT _)
    ·exact .inl rfl
   ·intro v hv;obtain⟨e,he,rfl⟩:=List.mem_map.mp hv;exact yD e he
  ·rw[if_pos (by rw[Bw];simpa using h1)];refine wX (tm es.size (List.range es.size) _ _ (by simp) λpl d pp=>?_);refine wX (wpAny_newTuple ?_ (by rw[vH,pp.length_eq,List.length_range,sz];exact fits_of_scanBound hb));refine wX (wpAny_setEpoch_of (vZ _ ho) hd hf ?_);refine wX (wpAny_newObj_type (wY ⟨_,rfl,"set_iterator",_,⟨_,vY _ rfl,rfl⟩,aM.lookup,?_⟩));have hsz:(s.heap.push (seqObj "tuple" (pl.map λ(p:Nat)=>Value.int p 0).toArray 0)).objs.size=s.heap.objs.size+1:=size_push' _ _;have fK:((pl.map λp=>(es.getD p (0,.none)).2)).Perm (es.toList.map (·.2)):=by
    have:=(pp.map λp=>es.getD p (0,Value.none)).map (·.2);rw[rB]at this;rw[List.map_map]at this;exact this
   refine hQ _ d _ (pl.map λp=>(es.getD p (0,.none)).2) [(s.heap.push (seqObj "tuple" (pl.map λ(p:Nat)=>Value.int p 0).toArray 0)).objs.size,S,s.heap.objs.size] (λi h=>h.get? (s.heap.push (seqObj "tuple" (pl.map λ(p:Nat)=>Value.int p 0).toArray 0)).objs.size=some (i6 (.ref s.heap.objs.size) i S es.size ep)/\h.get? S=some o/\h.get? s.heap.objs.size=some (seqObj "tuple" (pl.map λ(p:Nat)=>Value.int p 0).toArray 0)) (λA' hA=>?_) ?_ (λb u e=>vZ _ (vZ _ e)) ?_ (λb hb=>?_) ?_ ?_ ?_
   ·rw[←sz];exact rA (nt:=0) hA hd hf (by show S≠(s.heap.push _).objs.size;rw[size_push'];exact vS (Nat.lt_succ_of_lt Dl)) (by show s.heap.objs.size≠(s.heap.push _).objs.size;rw[size_push'];exact vS (Nat.lt_succ_self _)) pp
   ·exact⟨vY _ rfl,vZ _ (vZ _ ho),vZ _ (vY _ rfl)⟩
   ·show s.heap.objs.size<=(s.heap.push _).objs.size;rw[size_push'];omega
   ·simp only[List.mem_cons,List.not_mem_nil,or_false]at hb;rcases hb with rfl|rfl|rfl
    ·refine .inr ?_;show s.heap.objs.size<=(s.heap.push _).objs.size;rw[size_push'];omega
    ·exact .inl rfl
    ·exact .inr (vT _)
   ·rw[fK.length_eq,vH,vF,sz]
   ·exact((fK.map kf).trans (by rw[Dm])).trans hp
   ·intro v hv;obtain⟨e,he,rfl⟩:=List.mem_map.mp (fK.mem_iff.mp hv);exact yD e he
end
theorem uD (h:ItemsOf (λi v=>vs[i]? = some v) acc vs.length):acc.toList=vs:=by
 apply List.ext_getElem?;intro i;by_cases hi:i<acc.size
 ·have e:acc[i]? = some acc[i]:=Array.getElem?_eq_getElem hi;rw[Array.getElem?_toList,e,h.2 i _ e]
 ·rw[List.getElem?_eq_none (by rw[vF];omega),List.getElem?_eq_none (by rw[←h.1];omega)]
section
variable {prog:Program}{w:World}{A:Around}{E:Value->Shared->Prop}{s:Shared}{κ:Type}[DecidableEq κ] {kd:PySem.KeyKind prog w κ}{kf:Value->κ}{mk:κ->Tok->Value}
theorem pE (K0:KOf kd kf mk)(hh:A.handled=none)(hS:eY kd kf s.heap S ts)
  (hQ:∀s' vs,(∀b u,s.heap.get? b=some u->s'.heap.get? b=some u)->s'.gens=s.gens->s'.os=s.os->vs.length=ts.length->(vs.map kf).Perm ts->(∀v∈vs,∃x t,v=mk x t)->Q vs s'):
  wpAny (model prog w) A (collect (.ref S)) Q E s:=by
 have yQ:∀(s1:Shared),eY kd kf s1.heap S ts->s1.TypeIs (.ref S) "set":=λs1 h=>by
  obtain⟨o,_,_,_,ho,wb,_⟩:=h;exact⟨o,ho,wb.1⟩
 have eO:S<s.heap.objs.size:=by obtain⟨o,_,_,_,ho,_⟩:=hS;exact vX ho
 have FI:ts.length<scanBound:=by obtain⟨_,_,_,_,_,_,_,_,_,_,h,_⟩:=hS;exact h
 unfold collect;refine wX (wpAny_runValue (codeAny_builtin PySem.F.entry_proto_collect ?_));rw[Around.under_plainId PySem.F.plain_proto_collect _];show wpAny _ A.in1 (newList []>>=λl=>again (.builtin "list.__iadd__" ⟨[l,.ref S],[]⟩)) _ _ s;refine wX (wpAny_newObj_type ?_);refine wY ⟨plainId_quiet PySem.F.plain_list_iadd _,codeAny_builtin PySem.F.entry_list_iadd ?_⟩;rw[Around.under_plainId PySem.F.plain_list_iadd _];show wpAny _ A.in1 (Builtin.List.listExtendWith (.ref s.heap.objs.size) (.ref S) (.ref s.heap.objs.size)) _ _ _;unfold Builtin.List.listExtendWith;have IC:eY kd kf (s.heap.push { cls:=.type "list",data:=.seq ([]:List Value).toArray }) S ts:=hS.at λo e=>vZ _ e;refine wX (wpAny_typeOf (yQ _ IC) ?_);have Kg:s.heap.objs.size≠S:=Nat.ne_of_gt eO;have h1:Builtin.List.listSameRef (.ref s.heap.objs.size) (.ref S)=false:=by simp[Builtin.List.listSameRef,Kg]
 have h2:(Value.type "set" == Value.type "list")=false:=by decide
 have h3:(Value.type "set" == Value.type "tuple")=false:=by decide
 simp only[h1,h2,h3,Bool.or_false,uV,if_false];refine wX (xr K0 (s:={ s with heap:=s.heap.push { cls:=.type "list",data:=.seq ([]:List Value).toArray } }) IC λh' d it vs fp St W nK hk GC hfp CZ fK y9=>?_);have Bu:eY kd kf h' S ts:=IC.at λo e=>hk _ _ e;refine wX (wpAny_holding ?_);unfold Builtin.List.listLengthHint;refine wX (wpAny_specialOf (yQ _ Bu) PySem.F.slot_set_len.lookup ?_);wp_delta;refine wX (wpAny_isInstance (yQ _ Bu) sub_set_self ?_);show wpAny _ A.in1 (typeOf (Value.ref S)>>=_) _ _ _;refine wX (wpAny_typeOf (yQ _ Bu) ?_);refine wY ?_;rw[if_pos (by decide)];refine wX (wpAny_rule ?_);refine wX ?_;have FJ:(s.heap.push { cls:=.type "list",data:=.seq ([]:List Value).toArray }).objs.size=s.heap.objs.size+1:=size_push' _ _;have Kh:h'.get? s.heap.objs.size=some { cls:=.type "list",data:=.seq ([]:List Value).toArray }:=hk _ _ (vY _ rfl);show wpAny _ A.in1 (updateSeq s.heap.objs.size (·.push .none)>>=λ_=>updateSeq s.heap.objs.size (·.pop)) _ _ _;refine wX (wpAny_updateSeq Kh rfl ?_);have Ki:=Heap.get?_update_self (Obj.mapSeq (·.push Value.none)) Kh rfl;refine wpAny_updateSeq Ki rfl ?_;have LX:=Heap.get?_update_self (Obj.mapSeq (·.pop)) Ki rfl;have ud:s.heap.objs.size∉fp:=λhm=>by
  rcases hfp _ hm with z|z
  ·exact Kg z
  ·rw[FJ]at z;exact absurd z (Nat.not_succ_le_self _)
 have Kj:∀b u,b≠s.heap.objs.size->h'.get? b=some u ->
   ((h'.update s.heap.objs.size (Obj.mapSeq (·.push Value.none))).update s.heap.objs.size (Obj.mapSeq (·.pop))).get? b=some u :=
  λb u hb e=>(Heap.get?_update_other _ _ (Ne.symm hb)).trans ((Heap.get?_update_other _ _ (Ne.symm hb)).trans e)
 have W0:=W A.in1 hh;refine wY ⟨plainId_quiet PySem.F.plain_extend_loop _,codeAny_extend_loopS W0.toS (fits_of_scanBound FI) _ ud _ ts.length 0 _ _ _ rfl (uN _)
  (W0.frame 0 _ _ nK λb hb u e=>Kj b u (λz=>ud (z ▸ hb)) e) LX (ItemsOf.nil _) λs' acc' c' hm hL' hacc=>?_⟩
 show wpAny _ A (load s.heap.objs.size>>=_) _ _ s';refine wX (wpAny_load hL' ?_);rw[←CZ]at hacc;refine wY ?_;show Q acc'.toList s';rw[uD hacc];refine hQ s' vs (λb u e=>hm.heap b u (λhb=>?_) (Kj b u (vS (vX e)) (hk _ _ (vZ _ e)))) hm.gens hm.os CZ fK y9;have hl:=vX e;simp only[List.mem_cons,List.not_mem_nil,or_false]at hb;rcases hb with rfl|rfl
 ·exact absurd hl (Nat.lt_irrefl _)
 ·rw[FJ]at GC;exact absurd (vQ hl (Nat.le_of_succ_le GC)) (Nat.lt_irrefl _)
def pF (prog:Program)(w:World)(kf:Value->κ)(mk:κ->Tok->Value)(bd:Nat)(R:List κ->List Value->Prop):Prop:=∀ {E:Value->Shared->Prop}{ts:List κ}{vs:List Value}{A:Around}{s:Shared}{a:Addr}{P},(∀v∈vs,∃x t,v=mk x t)->(vs.map kf).Perm ts->vs.length<bd ->
 s.heap.get? a=some (seqObj "list" vs.toArray 0)->(∀out:Array Value,R ts out.toList->P (.done (.ret .none)) { s with heap:=sortedHeap s.heap a vs out })->wpAny (model prog w) A (Builtin.«list.sort» ⟨[.ref a],[]⟩) P E s
theorem rC (K0:KOf kd kf mk)(so:pF prog w kf mk bd R)(ub:bd<=4000)(hh:A.handled=none)(hS:eY kd kf s.heap S ts)(vy:ts.length<bd)
  (hQ:∀(s1:Shared)(h':Heap)(a:Addr)(out:Array Value)(n:Nat),(∀b u,s.heap.get? b=some u->s1.heap.get? b=some u)->s1.os=s.os->s1.gens=s.gens->(∀b u,s1.heap.get? b=some u->h'.get? b=some u)->s1.heap.objs.size<=a->h'.get? a=some (seqObj "list" out n) ->
   R ts out.toList->Q (.ref a) { s1 with heap:=h' }):
  wpAny (model prog w) A (call (.builtin "sorted") [.ref S]) Q E s:=by
 refine Calls.call_function_entry kind_sorted plain_sorted entry_sorted (args_sorted1 _) ?_;unfold Builtin.«sorted»;refine wX (m:=checkCount "sorted" 1 1 _) (wY ?_);refine wX (pE K0 (A:=A.in1) (by exact hh) hS λs1 vs hk hg A5 CZ fK y9=>?_);refine wX (wpAny_newList ?_ (by rw[CZ,sizeLine_eq];omega));have Fd:(s1.heap.push (seqObj "list" vs.toArray 0)).get? s1.heap.objs.size=some (seqObj "list" vs.toArray 0):=vY _ rfl;show wpAny _ _ _ _ _ { s1 with heap:=s1.heap.push (seqObj "list" vs.toArray 0) };refine wX (wpAny_holding (wpAny_call_entry slot_list_sort ⟨_,Fd,rfl⟩ entry_list_sort (so y9 fK (by rw[CZ];exact vy) Fd λout hr=>⟨_,rfl,?_⟩) (args_list_sort _)));obtain⟨e,he⟩:=sortedHeap_at (out:=out) Fd;refine wY ⟨_,rfl,hQ s1 _ _ _ e hk A5 hg (λb u q=>?_) (vT _) he hr⟩;have hl:=vX q;rw[sortedHeap_old (vS hl) (by rw[size_push'];exact Nat.lt_succ_of_lt hl)];exact vZ _ q
end
end DL
namespace DL
open PySem PySem.Spec PyProof.Rows L2
def oy (a b:Str):Prop:=¬b.cps.toList<a.cps.toList
theorem tt:ltCps b.cps.toList a.cps.toList=false↔oy a b:=by rw[ltCps_eq,decide_eq_false_iff_not];rfl
theorem mU (h:oy a b)(k:oy b c):oy a c:=by
 unfold oy at *;exact List.not_lt.mpr (List.le_trans (List.not_lt.mp h) (List.not_lt.mp k))
theorem xu (h:oy a b)(k:oy b a):a=b:=by
 have e:a.cps.toList=b.cps.toList:=List.le_antisymm (List.not_lt.mp h) (List.not_lt.mp k);obtain⟨a⟩:=a;obtain⟨b⟩:=b;have:a=b:=Array.toList_inj.mp e;rw[this]
noncomputable def rE (x:Str):List Str->List Str
 |[]=>[x]
 |y::r=>if ltCps y.cps.toList x.cps.toList then y::rE x r else x::y::r
noncomputable def iY (l:List Str):List Str:=l.foldr rE []
theorem j7 (x:Str):∀l,(rE x l).Perm (x::l)
 |[]=>List.Perm.refl _
 |y::r=>by
  unfold rE;split
  ·exact((j7 x r).cons y).trans (List.Perm.swap x y r)
  ·exact List.Perm.refl _
theorem e8:∀l,(iY l).Perm l
 |[]=>List.Perm.refl _
 |x::l=>(j7 x (iY l)).trans ((e8 l).cons x)
theorem mV (x:Str):∀l,l.Pairwise oy->(rE x l).Pairwise oy
 |[],_=>by simp[rE]
 |y::r,h=>by
  obtain⟨h1,h2⟩:=List.pairwise_cons.mp h;unfold rE;split
  ·rename_i hl;refine List.pairwise_cons.mpr ⟨λz hz=>?_,mV x r h2⟩;rcases vP ((j7 x r).mem_iff.mp hz)with rfl|hz
   ·rw[ltCps_eq,decide_eq_true_eq]at hl;exact λk=>List.lt_irrefl _ (List.lt_trans hl k)
   ·exact h1 z hz
  ·rename_i hl;rw[Bool.not_eq_true]at hl;have DG:oy x y:=tt.mp hl;refine List.pairwise_cons.mpr ⟨λz hz=>?_,h⟩;rcases vP hz with rfl|hz
   ·exact DG
   ·exact mU DG (h1 z hz)
theorem kZ:∀l,(iY l).Pairwise oy
 |[]=>List.Pairwise.nil
 |x::l=>mV x _ (kZ l)
theorem jK:∀(l:List Str)(p:Str),risingS p l=true->(p::l).Pairwise oy
 |[],p,_=>List.pairwise_singleton _ _
 |x::r,p,h=>by
  have h':(!ltCps x.cps.toList p.cps.toList && risingS x r)=true:=h;rw[vC]at h';have Kk:oy p x:=tt.mp (by simpa using h'.1);have ih:=jK r x h'.2;refine List.pairwise_cons.mpr ⟨λz hz=>?_,ih⟩;rcases vP hz with rfl|hz
  ·exact Kk
  ·exact mU Kk ((List.pairwise_cons.mp ih).1 z hz)
theorem pG:∀(l:List Str),sortedS l=true->l.Pairwise oy
 |[],_=>List.Pairwise.nil
 |x::r,h=>jK r x h
theorem pH (a:Str):oy a a:=List.lt_irrefl _
theorem la:∀(l1 l2:List Str),l1.Perm l2->l1.Pairwise oy->l2.Pairwise oy->l1=l2
 |[],l2,p,_,_=>(List.nil_perm.mp p).symm
 |x::r1,[],p,_,_=>absurd p.length_eq (by simp)
 |x::r1,y::r2,p,h1,h2=>by
  have DG:oy x y:=by
   rcases vP (p.mem_iff.mpr (mX ..))with z|z
   ·rw[z];exact pH _
   ·exact(List.pairwise_cons.mp h1).1 y z
  have ID:oy y x:=by
   rcases vP (p.mem_iff.mp (mX ..))with z|z
   ·rw[z];exact pH _
   ·exact(List.pairwise_cons.mp h2).1 x z
  have e:=xu DG ID;subst e;rw[la r1 r2 (List.Perm.cons_inv p) (List.pairwise_cons.mp h1).2 (List.pairwise_cons.mp h2).2]
theorem uE (p:l'.Perm l)(h:sortedS l'=true):l'=iY l:=la _ _ (p.trans (e8 l).symm) (pG _ h) (kZ l)
section
variable {X:Cx}
noncomputable def pI {prog:Program}{w:World}{κ:Type}[DecidableEq κ](kd:PySem.KeyKind prog w κ)(kf:Value->κ)(S:Addr)(ts:List κ):HO:=.ext λh=>eY kd kf h S ts
theorem uF (I:Inv X aa σ H s)(k:∀b u,s.heap.get? b=some u->s1.heap.get? b=some u)(ho:s1.os=s.os)(hg:s1.gens=s.gens):Inv X aa σ H s1:=by
 have I1:=I.step (g':=s.gens) (d':=s1.drawn) (t':=s1.toks) (h':=s1.heap) (H':=H) (ch:=[]) (λ_ z=>nomatch z) (λb o _ _ _ e _=>k b o e) (λb o _ _ _ e _=>⟨o.slots,k b o e⟩) (λ_ _ _ _ n=>n)
  (λb o _ e=>⟨o,k b o e⟩) (λ_ _ e=>e) (λ_ _ _ e=>e) (λ_ _ e=>e) (λm hm=>?_) (I.hok.kept k) I.bare
 ·obtain⟨h1,g1,d1,t1,o1⟩:=s1;cases ho;cases hg
  exact I1
 ·obtain⟨o,es,ep,ho,r⟩:=hm;exact⟨o,es,ep,k _ o ho,r⟩
variable {κ:Type}[DecidableEq κ] {kd:PySem.KeyKind X.prog X.w κ}{kf:Value->κ}{mk:κ->Tok->Value}{sf:List κ->List κ}{mv:κ->V}
def xw (mk:κ->Tok->Value)(its:List Value)(ss:List κ):Prop:=its.length=ss.length/\∀(i:Nat)(v:Value),its[i]? = some v->∃x t,v=mk x t/\ss[i]? = some x
theorem jL (K0:KOf kd kf mk)(hc:X.calm=true):b7 X (.type "set") (λxs H Q=>∃p ys ss,xs=[.ref p]/\eP X.K H p ys/\(∀its,a9 ys its->xw mk its ss)/\ss.length<4000/\∀S,H S=none->Q (.ref S) (upd H S (pI kd kf S (cy ss)))):=by
 intro aa s σ H xs us Q I r h;obtain⟨p,ys,ss,rfl,hq,hs,vy,q⟩:=h;obtain⟨u,rfl,rx⟩:=iK r;cases rx
 obtain⟨its,r',pl,hz⟩:=I.list hq;obtain⟨bp,nK⟩:=hs its r';refine ml K0 (I.ok.hd hc) pl.isList (by simpa using nK) (by simp[bp]) (by simp only[vG];unfold scanBound;omega) λh' tk hS hk=>?_;refine⟨.ref s.heap.objs.size,_,I.laid (t':=tk) (λb u e=>hk b u (vX e) e) (vT _) ?_,rfl,q _ (I.hok.fresh (vT _))⟩;refine⟨hS,?_,λh1 h2 z k=>z.at k⟩;obtain⟨o,_,_,_,ho,_⟩:=hS;exact⟨o,ho⟩
theorem kh (K0:KOf kd kf mk)(so:pF X.prog X.w kf mk bd λts=>a9 ((sf ts).map mv))(sl:∀ts,(sf ts).length=ts.length)(ub:bd<=4000)(hc:X.calm=true):b7 X (.builtin "sorted") (λxs H Q=>∃S ts,xs=[.ref S]/\H S=some (pI kd kf S ts)/\ts.length<bd/\∀l,H l=none->Q (.ref l) (upd H l (.lst ((sf ts).map mv)))):=by
 intro aa s σ H xs us Q I r h;obtain⟨S,ts,rfl,hS,vy,q⟩:=h;obtain⟨u,rfl,rx⟩:=iK r;cases rx
 refine rC K0 so ub (I.ok.hd hc) (I.hok S _ hS).1 vy λs1 h' a out n k1 ho hg k2 hp he hv=>?_;have I1:=uF I k1 ho hg;refine⟨.ref a,_,I1.laid (t':=s1.toks) k2 hp (show bC X.prog X.w _ h' _ (.lst _)from ⟨?_,out.toList,n,hv,he⟩),rfl,q _ (I1.hok.fresh hp)⟩;rw[vH,sl,sizeLine_eq];omega
end
theorem Jm {prog:Program}{w:World}:KOf (PySem.strKind prog w) strOf .str:=⟨strKind_is prog w,λh=>Value.isStrOf_shape h,λ_ _=>rfl,λ_ _=>rfl⟩
theorem mW:∀ {its:List Value}{zs:List Str},StrsAre its zs->a9 (zs.map V.str) its
 |_,_,.nil=>.nil
 |_,_,.cons x t r=>.cons ⟨t,rfl⟩ (mW r)
theorem KN {prog:Program}{w:World}:pF prog w strOf .str 64 λts=>a9 ((iY ts).map V.str):=λh1 h2 h3 ho h=>by
 have nK:=strsAre_map _ h1;refine list_sort_treeK strKind_oneLt ho nK.keysOf (λv₁ v₂ rest e=>keyKind_strs (by rw[←e];exact nK)) h3 λax a1 a2=>?_;obtain⟨IE,b1,b2,b3⟩:=sorted_out_str nK a1 a2;have e:=uE (b2.trans h2) b3;subst e;exact h _ (mW b1)
theorem uG (ts:List Str):(iY ts).length=ts.length:=(e8 ts).length_eq
theorem StrsAre.keys (h:StrsAre its ss):xw .str its ss:=⟨by rw[←h.strs,vH],StrsAre.at h⟩
@[simp] def lb:D->OB
 |.lst ds=>(eM ds).bind λss=>if ss.length<64 then some (.lst ((iY (cy ss)).map .str),true)else none
 |_=>none
@[simp] def iZ:D->OB
 |.lst ds=>(eM ds).bind λss=>if ss.length<4000 then some (.int ((cy ss).length:Nat),false)else none
 |_=>none
theorem xy:bootBuiltins "sorted" = some (.builtin "sorted"):=by decide +kernel
theorem Bc:bootBuiltins "set" = some (.type "set"):=by decide +kernel
theorem pJ {K:Frag}{N:Hp}:∀(zs:List Str),IsL K N (zs.map V.str) (zs.map D.str)
 |[]=>.nil
 |z::zs=>.cons (.str z) (pJ zs)
@[simp] def pK {κ:Type}[DecidableEq κ](ef:List D->Option (List κ))(sf:List κ->List κ)(md:κ->D)(bd:Nat):D->OB
 |.lst ds=>(ef ds).bind λss=>if ss.length<bd then some (.lst ((sf (cy ss)).map md),true)else none
 |_=>none
section
variable {X:Cx}{e:Expr}{pos pos2 p p2:Pos}{κ:Type}[DecidableEq κ] {kd:PySem.KeyKind X.prog X.w κ}{kf:Value->κ}{mk:κ->Tok->Value}{sf:List κ->List κ}{mv:κ->V}{md:κ->D}{ef:List D->Option (List κ)}
theorem pL (K0:KOf kd kf mk)(so:pF X.prog X.w kf mk bd λts=>a9 ((sf ts).map mv))(sl:∀ts,(sf ts).length=ts.length)(im:∀ {N:Hp}(zs:List κ),IsL X.K N (zs.map mv) (zs.map md))(ka:∀ {B ys ds its ss},a9 ys its->IsL X.K B ys ds->ef ds=some ss->xw mk its ss)
  (ub:bd<=4000) (hc:X.calm=true) (m1:X.mg "sorted" = none) (m2:X.mg "set" = none) (he:JE X e f) (g1:Gl X "sorted":=by rfl) (g2:Gl X "set":=by rfl)
  (h1:starEach [e] X.env=(false,eval e X.env)::starEach [] X.env:=by rfl):JE X (.Call (.Name "sorted" p) [.Call (.Name "set" p2) [e] [] pos2] [] pos) (f1 (pK ef sf md bd) f):=by
 refine PE.to (kF (kh K0 so sl ub hc) g1 m1 xy (dG (j0 (jL K0 hc) g2 m2 Bc (dG he fN h1) (he:=h1)) fN)) λσ H Q q=>?_;obtain⟨B,ρ,d',bb,sB,r,ee,q⟩:=q;obtain⟨x1,ex,ee⟩:=oX ee;refine⟨B,ρ,x1.1,x1.2,sB,r,ex,λv H1 N1 xt i1 fr=>?_⟩;obtain⟨xd,xb⟩:=x1;cases i1<;>try (simp[pK]at ee;done)
 rename_i l0 vs ds h hl;simp only[pK]at ee;obtain⟨ss,ez,ee⟩:=oX ee;split at ee
 ·rename_i vy;cases ee
  refine⟨_,_,ss,rfl,xt.nh.seq h,λits r'=>ka r' hl ez,by omega,λS hS=>⟨S,_,rfl,au,Nat.lt_of_le_of_lt (iW ss) vy,λl yR=>?_⟩⟩;have x2:=Ext.laid (o:=pI kd kf S (cy ss)) xt.nh hS;have x3:=Ext.laid (o:=.lst ((sf (cy ss)).map mv)) x2.nh yR;have GD:H l=none:=((xt.trans x2).hh).free yR;exact q _ _ _ ((xt.trans x2).trans x3) (.lst (eP.of au) (im _)) λ_=>⟨_,_,_,rfl,rfl,GD,au,im _⟩
 ·cases ee
theorem rF (hc:X.calm=true)(m1:X.mg "sorted" = none)(m2:X.mg "set" = none)(he:JE X e f)(g1:Gl X "sorted":=by rfl)(g2:Gl X "set":=by rfl)
  (h1:starEach [e] X.env=(false,eval e X.env)::starEach [] X.env:=by rfl):JE X (.Call (.Name "sorted" p) [.Call (.Name "set" p2) [e] [] pos2] [] pos) (f1 lb f):=by
 rw[show lb=pK eM iY .str 64 from funext λd=>by cases d<;>rfl]
 exact pL Jm KN uG pJ (λr' hl ez=>StrsAre.keys (fB r' hl ez)) (by decide) hc m1 m2 he g1 g2 h1
end
end DL
namespace DL
open PySem PySem.Spec PySem.W PyProof.Rows
inductive Run (n:Nat)(lt:Nat->Nat->Bool){α:Type}:KasT α->α->Prop where
 |ret (a:α):Run n lt (.ret a) a
 |ask {i j:Nat}{k:Bool->KasT α}{a:α}(hi:i<n) (hj:j<n) (h:Run n lt (k (lt i j)) a):Run n lt (.ask i j k) a
theorem Run.bind {n:Nat}{lt:Nat->Nat->Bool}{α β:Type}{t:KasT α}{f:α->KasT β}{a:α}{b:β}(h:Run n lt t a)(k:Run n lt (f a) b):Run n lt (t.bind f) b:=by
 induction h with
 |ret a=>exact k
 |ask hi hj _ ih=>exact .ask hi hj (ih k)
section
variable {n:Nat}{rk:Nat->Int}
structure Arr (n:Nat)(p:Array Nat):Prop where
 size:p.size=n
 perm:p.toList.Perm (List.range n)
theorem Arr.lt {p:Array Nat}(h:Arr n p){k:Nat}(hk:k<n):p.getD k 0<n:=by
 have Bv:k<p.size:=by rw[h.size];exact hk
 have:p.getD k 0=p[k]:=by rw[Array.getD_eq_getD_getElem?,Array.getElem?_eq_getElem Bv];rfl
 rw[this];exact List.mem_range.mp (h.perm.mem_iff.mp (by simp))
end
theorem uH {a b c:List Int}(h:a<b)(k:b<c):a<c:=List.lt_trans h k
theorem uJ {a b c:List Int}(h:¬b<a)(k:¬c<b):¬c<a:=List.not_lt.mpr (List.le_trans (List.not_lt.mp h) (List.not_lt.mp k))
theorem xz {a b:List Int}(h:¬b<a)(k:¬a<b):a=b:=List.le_antisymm (List.not_lt.mp h) (List.not_lt.mp k)
section
variable {α:Type}(f:α->List Int)
def zY (a b:α):Prop:=¬f b<f a
noncomputable def rG (x:α):List α->List α
 |[]=>[x]
 |y::r=>if f y<f x then y::rG x r else x::y::r
noncomputable def nc (l:List α):List α:=l.foldr (rG f) []
theorem j8 (x:α):∀l,(rG f x l).Perm (x::l)
 |[]=>List.Perm.refl _
 |y::r=>by
  unfold rG;split
  ·exact((j8 x r).cons y).trans (List.Perm.swap x y r)
  ·exact List.Perm.refl _
theorem fY:∀l,(nc f l).Perm l
 |[]=>List.Perm.refl _
 |x::l=>(j8 f x (nc f l)).trans ((fY l).cons x)
theorem ng (x:α):∀l,l.Pairwise (zY f)->(rG f x l).Pairwise (zY f)
 |[],_=>by simp[rG]
 |y::r,h=>by
  obtain⟨h1,h2⟩:=List.pairwise_cons.mp h;unfold rG;split
  ·rename_i hl;refine List.pairwise_cons.mpr ⟨λz hz=>?_,ng x r h2⟩;rcases vP ((j8 f x r).mem_iff.mp hz)with rfl|hz
   ·exact λk=>List.lt_irrefl _ (uH hl k)
   ·exact h1 z hz
  ·rename_i hl;refine List.pairwise_cons.mpr ⟨λz hz=>?_,h⟩;rcases vP hz with rfl|hz
   ·exact hl
   ·exact uJ hl (h1 z hz)
theorem lf:∀l,(nc f l).Pairwise (zY f)
 |[]=>List.Pairwise.nil
 |x::l=>ng f x _ (lf l)
theorem ni:∀(l1 l2:List α),(∀x∈l1,∀y∈l1,f x=f y->x=y)->l1.Perm l2->l1.Pairwise (zY f)->l2.Pairwise (zY f)->l1=l2
 |[],l2,_,p,_,_=>(List.nil_perm.mp p).symm
 |x::r1,[],_,p,_,_=>absurd p.length_eq (by simp)
 |x::r1,y::r2,hi,p,h1,h2=>by
  have hy:y∈x::r1:=p.mem_iff.mpr (mX ..);have DG:zY f x y:=by
   rcases vP hy with z|z
   ·rw[z];exact List.lt_irrefl _
   ·exact(List.pairwise_cons.mp h1).1 y z
  have ID:zY f y x:=by
   rcases vP (p.mem_iff.mp (mX ..))with z|z
   ·rw[z];exact List.lt_irrefl _
   ·exact(List.pairwise_cons.mp h2).1 x z
  have e:x=y:=hi x (mX ..) y hy (xz DG ID);subst e;rw[ni r1 r2 (λa ha b hb=>hi a (mZ _ ha) b (mZ _ hb)) (List.Perm.cons_inv p) (List.pairwise_cons.mp h1).2 (List.pairwise_cons.mp h2).2]
theorem x0 (hi:∀x∈l,∀y∈l,f x=f y->x=y)(p:l'.Perm l)(h:l'.Pairwise (zY f)):l'=nc f l :=
 ni f _ _ (λx hx y hy=>hi x (p.mem_iff.mp hx) y (p.mem_iff.mp hy)) (p.trans (fY f l).symm) h (lf f l)
end
inductive At where
 |i (n:Int)
 |s (z:Str)
noncomputable def KO:At->List Int
 |.i n=>[n]
 |.s z=>z.cps.toList.map (λ(c:Nat)=>(c:Int)+1)++[0]
noncomputable def EH (xs:List At):List Int:=xs.flatMap KO
noncomputable def CB:List At->List At->Option Bool
 |[],ys=>some (!ys.isEmpty)
 |_::_,[]=>some false
 |.i a::xs,.i b::ys=>if a=b then CB xs ys else some (decide (a<b))
 |.s a::xs,.s b::ys=>if a=b then CB xs ys else some (decide (a.cps.toList<b.cps.toList))
 |_::_,_::_=>none
noncomputable def EI (ks:List (List At)):Bool:=ks.all λx=>ks.all λy=>(CB x y).isSome
def KP:At->Value->Prop
 |.i n,v=>∃t,v=.int n t
 |.s z,v=>∃t,v=.str z t
def EJ (h:Heap)(xs:List At)(v:Value):Prop:=∃a o its n,v=.ref a/\h.get? a=some o/\o.cls=.type "tuple"/\o.data=.seq its n/\Paired KP xs its.toList
noncomputable def xA (ks:List (List At)):Bool:=ks.all (λx=>match x with|.i _::_=>true|_=>false) || ks.all (λx=>match x with|.s _::_=>true|_=>false)
end DL
namespace DL
open PySem PySem.Spec PySem.W PyProof.Rows L2
noncomputable def EK:D->Option At
 |.int n=>some (.i n)
 |.str z=>some (.s z)
 |_=>none
def rH:List D->Option (List At)
 |[]=>some []
 |d::ds=>(EK d).bind λa=>(rH ds).map (a :: ·)
def Hs:D->Option (List At)
 |.tup es=>rH es
 |_=>none
def Bd:List D->Option (List (List At))
 |[]=>some []
 |d::ds=>(Hs d).bind λa=>(Bd ds).map (a :: ·)
noncomputable def jM:List D->Option (List Int)
 |[]=>some []
 |.int n::ds=>(jM ds).map (n :: ·)
 |_::_=>none
def gy (ns:List Int):List Int:=nc (λn=>[n]) ns
section
variable {X:Cx}
theorem tu {K:Frag}{B:Hp}:∀ {vs:List V}{ds:List D}{ns:List Int}{its:List Value},a9 vs its->IsL K B vs ds->jM ds=some ns->IntsAre its ns
 |_,_,_,_,.nil,.nil,h=>by simp only[jM]at h;cases h;exact .nil
 |_,_,_,_,.cons r rr,.cons i ii,h=>by
  cases i<;>simp only[jM]at h<;>try (cases h;done)
  obtain⟨t,h2,h⟩:=oY h;subst h;obtain⟨u,rfl⟩:=r;exact .cons _ u (tu rr ii h2)
theorem fm:∀ {its:List Value}{zs:List Int},IntsAre its zs->a9 (zs.map V.int) its
 |_,_,.nil=>.nil
 |_,_,.cons x t r=>.cons ⟨t,rfl⟩ (fm r)
theorem pM {K:Frag}{N:Hp}:∀(zs:List Int),IsL K N (zs.map V.int) (zs.map D.int)
 |[]=>.nil
 |z::zs=>.cons (.int z) (pM zs)
theorem xB (p:l'.Perm l)(h:l'.Pairwise (·<=·)):l'=gy l:=by
 refine x0 _ (λx _ y _ e=>by injection e) p (h.imp λ{a b} hab=>?_);unfold zY;intro z;rw[List.cons_lt_cons_iff]at z;rcases z with z|⟨_,z⟩
 ·omega
 ·exact List.lt_irrefl _ z
end
end DL
namespace DL
open PySem PySem.Spec PyProof.Rows L2
section
variable {X:Cx}{e:Expr}{pos pos2 p p2:Pos}
theorem mq:b7 X (.builtin "len") (λxs H Q=>∃S ts,xs=[.ref S]/\H S=some (pI (PySem.strKind X.prog X.w) strOf S ts)/\Q (.int (ts.length:Nat)) H):=by
 intro aa s σ H xs us Q I r h;obtain⟨S,ts,rfl,hS,q⟩:=h;obtain⟨u,rfl,rx⟩:=iK r;cases rx
 have hT:eY (PySem.strKind X.prog X.w) strOf s.heap S ts:=(I.hok S _ hS).1;obtain⟨o,es,ep,t,ho,wb,hd,yS,hp,nd,hb,hf,_⟩:=hT;have sz:es.size=ts.length:=by rw[←hp.length_eq,vH,vF]
 have Kl:ts.length<4096:=hb;exact PySem.call_len_set ho wb hd hf (by rw[sz];omega) ⟨.int (ts.length:Nat),H,I.tok _,⟨_,by rw[sz]⟩,q⟩
theorem uK (hc:X.calm=true)(m1:X.mg "len" = none)(m2:X.mg "set" = none)(he:JE X e f)(g1:Gl X "len":=by rfl)(g2:Gl X "set":=by rfl)
  (h1:starEach [e] X.env=(false,eval e X.env)::starEach [] X.env:=by rfl):JE X (.Call (.Name "len" p) [.Call (.Name "set" p2) [e] [] pos2] [] pos) (f1 iZ f):=by
 refine PE.to (kF mq g1 m1 dc (dG (j0 (jL Jm hc) g2 m2 Bc (dG he fN h1) (he:=h1)) fN)) λσ H Q q=>?_;obtain⟨B,ρ,d',bb,sB,r,ee,q⟩:=q;obtain⟨x1,ex,ee⟩:=oX ee;refine⟨B,ρ,x1.1,x1.2,sB,r,ex,λv H1 N1 xt i1 fr=>?_⟩;obtain⟨xd,xb⟩:=x1;cases i1<;>try (simp[iZ]at ee;done)
 rename_i l0 vs ds h hl;simp only[iZ]at ee;obtain⟨ss,ez,ee⟩:=oX ee;split at ee
 ·rename_i vy;cases ee
  refine⟨_,_,ss,rfl,xt.nh.seq h,λits r'=>StrsAre.keys (fB r' hl ez),vy,λS hS=>⟨S,_,rfl,au,?_⟩⟩;have x2:=Ext.laid (o:=pI (PySem.strKind X.prog X.w) strOf S (cy ss)) xt.nh hS;exact(q.into (xt.trans x2)).one (xt.trans x2).nh (.int _)
 ·cases ee
end
section
variable {X:Cx}{a:Expr}{pos:Pos}{x:Str}{p:Pos}{d:Addr}{aZ:List (Str×D)}
theorem uL (cd:iV X.K X.w.params d aZ):bY X (compareOp .NotIn) (λx y H Q=>∃z,x=.str z/\y=.ref d/\Q (.bl (!(aZ.lookup z).isSome)) H):=by
 rintro aa s σ H _ _ v u Q I rx ry ⟨z,rfl,rfl,q⟩;cases ry
 obtain⟨t,rfl⟩:=rx;obtain⟨f,hM,sm,hf⟩:=cd.map I;refine wpAny_notIn_of (strKind_is X.prog X.w z t) sm hM ⟨.bl (!(aZ.lookup z).isSome),H,I.tok _,?_,q⟩;have:=hf z;cases el:aZ.lookup z with
 |none=>rw[el]at this;dsimp only at this;rw[this];rfl
 |some dd=>rw[el]at this;obtain⟨_,_,e1,_⟩:=this;rw[e1];rfl
theorem uM (h:∃d,X.mg x=some (.ref d)/\iV X.K X.w.params d aZ)(ha:JE X a f)(hg:Gl X x:=by rfl)(hd:(x == ("__debug__" : Str))=false:=by decide)(hm:behindInMarks .NotIn (.Name x p)=false:=by rfl):JT X (.Compare a [.NotIn] [.Name x p] pos) (br (f1 (kS aZ) f)):=by
 obtain⟨d,hmg,cd⟩:=h;refine PT.to (sr (uL cd) ha (kn (v:=.ref d) hg hmg rfl hd) hm) λσ H Q q=>?_;obtain⟨B,ρ,d',bb,sB,r,ee,q⟩:=nY q;obtain⟨x1,ex,ee⟩:=oX ee;refine⟨B,ρ,x1.1,x1.2,sB,r,ex,λv H1 N1 xt i1 fr=>?_⟩;obtain⟨xd,xb⟩:=x1;cases i1<;>try (simp[kS]at ee;done)
 rename_i z;simp only[kS]at ee;cases ee
 exact⟨z,rfl,rfl,(q.into xt).one xt.nh (.bl _)⟩
end
section
variable {prog:Program}{w:World}{A:Around}{E:Value->Shared->Prop}{s:Shared}
theorem rJ {a:Addr}{o:Obj}{its:Array Value}{n:Nat}{x:Value}{e:Value->Bool}{j:Nat}{P:PySem.Fin->Shared->Prop}(ho:s.heap.get? a=some o)(hd:o.data=.seq its n)
  (he:∀y∈its,MeetsSeq.EqGives y x (e y)) (hj:j<its.size) (GC:e its[j]=true) (DC:∀m (hm:m<its.size),m<j->e its[m]=false)
  (h:P (.done (.ret (.int j s.toks))) { s with toks:=s.toks+1 }):wpAny (model prog w) A (Builtin.«tuple.index» ⟨[.ref a,x],[]⟩) P E s:=by
 show wpAny _ _ (Builtin.Tuple.tupleItemsOf (.ref a)>>=_) _ _ s;refine wX (wpAny_tupleItemsOf ho hd ?_);dsimp only;refine wX (wY (wX (wY (wX ?_))));rw[Std.Legacy.Range.forIn_eq_forIn_range'];refine wpAny_forIn_list _
  (λrest r s'=>r.1=none/\s'=s/\∃i,i<=j/\rest=List.range' i (its.size - i))
  _ ?_ ?_ _ _ ⟨rfl,rfl,0,uN _,?_⟩
 ·rintro k rest r s' ⟨hr,rfl,i,hi,hz⟩;have eO:i<its.size:=by omega
  obtain⟨m,hm⟩:∃m,its.size - i=m+1:=⟨its.size - i - 1,by omega⟩;rw[hm,List.range'_succ]at hz;injection hz with z1 z2;have z1:=z1.symm;subst z1;subst z2;have hg:its[i]? = some its[i]:=by simp[eO]
  simp only[hg];refine wX (he _ (Array.getElem_mem eO) prog w _ _ _ _ ?_);by_cases hij:i=j
  ·subst hij;rw[GC];simp only[if_true];refine wX ?_;show wpAny _ _ (mkInt (i:Int)>>=λv=>ret v) _ _ _;exact wX (wpAny_mkInt (wY (wY (wY h))))
  ·rw[DC i eO (by omega)];simp only[uV,if_false];exact wY ⟨rfl,rfl,i+1,by omega,by rw[show its.size - (i+1)=m by omega]⟩
 ·rintro⟨r1,r2⟩ s' ⟨hr,rfl,i,hi,hz⟩;exfalso;have:(List.range' i (its.size - i)).length=0:=by rw[←hz];rfl
  rw[List.length_range']at this;omega
 ·simp
end
theorem CRows.findT {K:Frag}{P:Params}(y:Str){ds:List D}:∀ {es:List DictEntry}{aZ:List (Str×D)},CRows K P es aZ->aZ.lookup y=some (.tup ds) ->
  ∃e a its n lX,es.find? (λe=>Value.isStrOf y e.key)=some e/\e.val=.ref a/\K.lookup a=some ⟨.type "tuple",none,.seq its n,lX⟩/\fR its.toList ds=true
 |_,_,.nil,h=>by simp at h
 |_,_,.tup (x:=x) (t:=t) (a:=a) (ds:=wa) hh l f tl,h=>by
  by_cases e:y=x
  ·subst e;rw[List.lookup_cons_self]at h;cases h
   rw[vC]at f;exact⟨_,a,_,_,_,List.find?_cons_of_pos (by simp[Value.isStrOf]),rfl,l,f.2⟩
  ·rw[List.lookup_cons,beq_eq_false_iff_ne.mpr e]at h;have nf:Value.isStrOf y (Value.str x t)=false:=by
    rw[Bool.eq_false_iff];intro z;obtain⟨t',q⟩:=Value.isStrOf_shape z;injection q with q1;exact e q1.symm
   simp only[List.find?_cons,nf];exact tl.findT y h
 |_,_,.flat (x:=x) (t:=t) (u:=u) (d:=d) hh f tl,h=>by
  by_cases e:y=x
  ·subst e;rw[List.lookup_cons_self]at h;cases h
   cases u<;>simp[oi]at f
  ·rw[List.lookup_cons,beq_eq_false_iff_ne.mpr e]at h;have nf:Value.isStrOf y (Value.str x t)=false:=by
    rw[Bool.eq_false_iff];intro z;obtain⟨t',q⟩:=Value.isStrOf_shape z;injection q with q1;exact e q1.symm
   simp only[List.find?_cons,nf];exact tl.findT y h
section
variable {X:Cx}{b e:Expr}{pos:Pos}{x:Str}{p:Pos}
def Ht (K:Frag):V->List V->Hp->VK->Prop:=λx xs H Q=>∃(a:Addr)(o:Obj)(its:Array Value)(n:Nat)(zs:List Str)(y:Str),x=.ref a/\xs=[.str y]/\K.lookup a=some o/\o.cls=.type "tuple"/\o.data=.seq its n/\StrsAre its.toList zs/\zs.findIdx (· == y)<zs.length/\Q (.int (zs.findIdx (· == y):Nat)) H
noncomputable def Be (y:Str):Value->Bool
 |.str z _=>z == y
 |_=>false
theorem tw:∀ {its:List Value}{zs:List Str},StrsAre its zs->∀(i:Nat)(hi:i<its.length),∃(h:i<zs.length)(t:Tok),its[i]=.str zs[i] t
 |_,_,.cons z t h,0,_=>⟨by simp,t,rfl⟩
 |_,_,.cons z t h,i+1,hi=>by
  obtain⟨h',t',e⟩:=tw h i (by simpa using hi);exact⟨by simpa using h',t',by simpa using e⟩
 |_,_,.nil,i,hi=>by simp at hi
theorem pN:∀ {its:List Value}{zs:List Str},StrsAre its zs->its.length=zs.length
 |_,_,.nil=>rfl
 |_,_,.cons _ _ h=>by rw[vD,vD,pN h]
theorem xC:yF X "tuple.index" (Ht X.K):=by
 intro aa s σ H x xs v us Q I rx rv h;obtain⟨a,o,its,n,zs,y,rfl,rfl,lk,hc,hd,hz,hk,q⟩:=h;cases rx
 obtain⟨u,rfl,⟨t,rfl⟩⟩:=rv.one;have ho:=I.kIn a o lk;have hl:=pN hz;rw[vF]at hl;have at':∀(i:Nat)(hi:i<its.size),∃(h:i<zs.length)(t:Tok),its[i]=.str zs[i] t:=λi hi=>by
  obtain⟨h',t',e⟩:=tw hz i (by simpa using hi);exact⟨h',t',by simpa using e⟩
 refine wpAny_call_entry PySem.F.slot_tuple_index ⟨o,ho,hc⟩ PySem.F.entry_tuple_index (rJ (e:=Be y) (j:=zs.findIdx (· == y)) ho hd (λz hm=>?_) (by omega) ?_ (λm hm eO=>?_) ⟨_,rfl,.int (zs.findIdx (· == y):Nat),H,I.tok _,⟨_,rfl⟩,q⟩) (PySem.F.args_tuple_index_2 _ _)
 ·obtain⟨i,hi,rfl⟩:=Array.mem_iff_getElem.mp hm;obtain⟨_,t',e'⟩:=at' i hi;rw[e'];exact eqGives_str _ _ _ _
 ·obtain⟨_,t',e'⟩:=at' (zs.findIdx (· == y)) (by omega);rw[e'];exact List.findIdx_getElem (p:=(· == y)) (w:=hk)
 ·obtain⟨_,t',e'⟩:=at' m hm;rw[e'];have:=List.not_of_lt_findIdx (p:=(· == y)) (xs:=zs) eO;simpa [Be]using this
@[simp] def lg (aZ:List (Str×D)):D->D->OB
 |.str y,.str z=>match aZ.lookup y with
  |some (.tup ds)=>(eM ds).bind λzs=>if zs.findIdx (· == z)<zs.length then some (.int (zs.findIdx (· == z):Nat),false)else none
  |_=>none
 |_,_=>none
theorem zZ {aZ:List (Str×D)}{f g:FE}{dM c9:Pos}(h:∃d,X.mg x=some (.ref d)/\iV X.K X.w.params d aZ)(hb:JE X b f)(he:JE X e g)(hg:Gl X x:=by rfl)(qC:(x == ("__debug__" : Str))=false:=by decide)(hs:kq b:=by intro _ _;rfl)
  (fH:attributeBase (.Subscript (.Name x p) b pos) "index" X.env (eval (.Subscript (.Name x p) b pos) X.env)=eval (.Subscript (.Name x p) b pos) X.env:=by rfl)
  (oG:((backTo c9 (starEach [e] X.env)).all (λx=>!x.1) && (backToKw c9 (keywordEach [] X.env)).all (λx=>x.1.isSome)
   && decide ([e].length+([]:List Keyword).length+(if([]:List Keyword).isEmpty then 0 else 1)<30))=true:=by rfl)
  (fJ:(dM.endLine == c9.line)=true:=by rfl) (nK:starEach [e] X.env=[(false,eval e X.env)]:=by rfl):
  JE X (.Call (.Attribute (.Subscript (.Name x p) b pos) "index" dM) [e] [] c9) (f2 (lg aZ) f g):=by
 obtain⟨d,hm,cd⟩:=h;have ix:wx X (λx y H Q=>∃z ds,x=.ref d/\y=.str z/\aZ.lookup z=some (.tup ds)/\∀a its n lX,X.K.lookup a=some ⟨.type "tuple",none,.seq its n,lX⟩->fR its.toList ds=true->Q (.ref a) H):=by
  intro value slice aa s σ H x y v u Q I rx ry q hs;obtain⟨z,ds,rfl,rfl,el,q⟩:=q;cases rx
  obtain⟨t,rfl⟩:=ry;obtain⟨es,n,l,r,sm⟩:=cd;have hM:=PySem.W.mapOf_K (prog:=X.prog) (w:=X.w) I.kIn l r.lit;obtain⟨en,a,its,n',lX,e1,e2,e3,e4⟩:=r.findT z el;have ff:findBy Value.isStrOf es z=some (.ref a):=by
   unfold findBy;obtain⟨es⟩:=es;rw[List.find?_toArray,e1,←e2];rfl
  exact tail_any hM.typeIs slot_dict_getitem.lookup (wpAny_getItem_of (strKind_is X.prog X.w z t) hM ff ⟨.ref a,H,I.tok _,rfl,q a _ _ _ e3 e4⟩) hs
 refine PE.to (sA (T:="tuple") PySem.F.plainAttrs_tuple PySem.F.slot_tuple_index PySem.F.type_tuple_index xC (wy ix (kn (v:=.ref d) hg hm rfl qC) hb hs) (dG he fN nK) fH oG fJ nK rfl) λσ H Q q=>?_;obtain⟨B,ρ,d',bb,sB,r,ee,q⟩:=q;obtain⟨x1,ex,ee⟩:=oX ee;obtain⟨y1,ey,ee⟩:=oX ee;obtain⟨xd,xb⟩:=x1;obtain⟨yd,yb⟩:=y1;cases xd with
 |str z=>
  cases yd with
  |str y=>
   refine⟨B,ρ,_,xb,sB,r,ex,λv H1 N1 xt i1 _=>?_⟩;cases i1
   simp only[lg]at ee;split at ee
   ·rename_i ds el;obtain⟨zs,ez,ee⟩:=oX ee;split at ee
    ·rename_i hk;cases ee
     refine⟨z,ds,rfl,rfl,el,λa its n lX l fl=>⟨.inr (.inl ⟨rfl,_,l,rfl,rfl⟩),N1,ρ,_,yb,xt.nh,r.mono xt.bn,ey,λv2 H2 N2 uc i2 _=>?_⟩⟩;cases i2
     obtain⟨vs,rv,iv⟩:=fT (K:=X.K) fl;exact⟨a,_,its,n,zs,y,rfl,rfl,l,rfl,rfl,fB rv (iv N2) ez,hk,(q.into (xt.trans uc)).one uc.nh (.int _)⟩
    ·cases ee
   ·cases ee
  |_=>simp[lg]at ee
 |_=>simp[lg]at ee
end
open PySem.W (tabIn tabObj CodeHd kla_fn kla_obj kla_eval kla_makeFunction kla_makeFunctionHit kla_callFunE kla_codeExpr envX)
section
variable {P:Program}{w:World}{K:Frag}{mg:Str->Option Value}{base:Heap}
theorem eJ.fnL {x:Str}{st:Stmt}{N ps:List Str}{k:Nat}{g:FS}{h:Heap}(F:eJ K x st)(X:K.In h)(G:h.Ns mainGlobals mg)(S:FnScope N ps (ay st))
  (ub:∀(kV doc pm:Value)(an:Option Addr)(cz ct:Value)(us:List Value),us.length=ps.length->bindArgs (fnOf x x (cV st) (bD st) (ay st) .none kV doc pm an cz ct) ⟨us,[]⟩=pure (ps.zip us))
  (hb:∀(f:Addr)(cz:Value)(A:Around)(outer:List PySem.Env)(s:Shared)(H:Hp)(E:XK),(∀c P,tabIn K x=some (c,P)->cz=.ref c)->dz k (A.deeper (envOfC x (ay st) s.heap.objs.size f cz))->oI (jY qT P w K mg base N x (ay st) f cz A outer s H E).nox (bD st) g):
  Fn P w K mg base (k+1) x (aL g ps.length (N.length - ps.length)):=by
 obtain⟨f,fd,F1,a⟩:=F;have F2:=F1;obtain⟨oc,od,kV,doc,pm,an,cz,ct,lX,rfl,lk,jX⟩:=F2.ex;have hc:∀c P,tabIn K x=some (c,P)->cz=.ref c:=λc P e=>by
  unfold tabIn at e;simp only[a,lk]at e;split at e
  ·rename_i c' _;split at e
   ·split at e
    ·cases e;rfl
    ·cases e
   ·cases e
  ·cases e
 have len:∀vs H Q E,AU K (aL g ps.length (N.length - ps.length)) vs H Q E->vs.length=ps.length:=λvs H Q E h=>by
  obtain⟨B,ds,d,b,sB,i,e,q⟩:=h;unfold aL at e;split at e
  ·rename_i hl;rw[i.length];exact hl
  ·cases e
 refine⟨f,_,ps,AN lk jX S len λA outer s H vs Q E hr h=>⟨_,nL.nox (hb f cz A outer s H E hc hr),?_⟩,mg_of X G a,F1.kp,F1.binds ub⟩;have bp:=len vs H Q E h;obtain⟨B,ds,d,b,sB,i,e,q⟩:=h;unfold aL at e;rw[if_pos (by rw[←i.length];exact bp)]at e;have s0:=pf (N:=N) sB.1 sB.2 i;rw[bp]at s0;split at e
 ·rename_i d' b' eg;cases e
  exact⟨B,H,_,_,⟨B,s0⟩,eg,λv H' N' x' i' f'=>q v H' N' x' i' f'⟩
 ·rename_i ρ' eg;cases e
  exact⟨B,H,_,_,⟨B,s0⟩,eg,λσ' H' ⟨N',s'⟩=>q .non H' N' s'.ext .non (by simp)⟩
 ·cases e
end
inductive lU (X:Cx)(N':List Str)(scope:Scope)(cl:List (Str×Addr)):Nat->List Nat->Prop where
 |nil {j:Nat}(h:N'.length=j):lU X N' scope cl j []
 |cons {j i:Nat}{r:List Nat}{x:Str}(h1:N'[j]? = some x) (h2:X.N[i]? = some x) (h3:X.env.kindOf x=some .cell∨X.env.kindOf x=some .free)
   (h4:scope.names.lookup x=some .free) (h5:cl.lookup x=X.env.cells.lookup x) (t:lU X N' scope cl (j+1) r):lU X N' scope cl j (i::r)
theorem lU.len:∀ {j:Nat}{cap:List Nat},lU X N' scope cl j cap->N'.length=j+cap.length
 |_,_,.nil h=>by rw[h];rfl
 |j,i::r,.cons _ _ _ _ _ t=>by rw[t.len,vD];omega
theorem lU.get:∀ {j:Nat}{cap:List Nat}{k i:Nat},lU X N' scope cl j cap->cap[k]? = some i->∃x,N'[j+k]? = some x/\X.N[i]? = some x/\(X.env.kindOf x=some .cell∨X.env.kindOf x=some .free) /\
  scope.names.lookup x=some .free/\cl.lookup x=X.env.cells.lookup x
 |_,_,_,_,.nil _,e=>by simp at e
 |j,_,0,_,.cons h1 h2 h3 h4 h5 _,e=>by simp at e;subst e;exact⟨_,h1,h2,h3,h4,h5⟩
 |j,_,k+1,i,.cons _ _ _ _ _ t,e=>by
  obtain⟨x,q,r⟩:=t.get (k:=k) (i:=i) (by simpa using e);exact⟨x,by rw[show j+(k+1)=j+1+k by omega];exact q,r⟩
end DL
namespace DL
open PySem PySem.Spec PySem.W PyProof.Rows L2
noncomputable def EL (f:D->Option D):List D->Option (List D)
 |[]=>some []
 |d::ds=>(f d).bind λx=>(EL f ds).map (x :: ·)
def xD (ks:List (List At))(ds:List D):List D:=(nc (λp:List At×D=>EH p.1) (ks.zip ds)).map (·.2)
@[simp] def xE (kd:List D->Option (List (List At)))(ok:List (List At)->Bool)(f:FE)(kf:Env->D->Option D):FE:=λρ=>(f ρ).bind λx=>match x.1 with
 |.lst ds=>(EL (kf ρ) ds).bind λLY=>(kd LY).bind λks=>if ks.length<64/\EI ks=true/\ok ks=true/\(ks.map EH).Nodup then some (.lst (xD ks ds),true)else none
 |_=>none
@[simp] abbrev Hu:FE->(Env->D->Option D)->FE:=xE Bd xA
section
variable {prog:Program}{w:World}{A:Around}{E:Value->Shared->Prop}{s:Shared}{op:CmpOp}
theorem EJ.type (h:EJ s.heap xs v):s.TypeIs v "tuple":=by
 obtain⟨a,o,its,n,rfl,ho,hc,_⟩:=h;exact⟨o,ho,hc⟩
end
end DL
namespace DL
open PySem PySem.Spec PyProof.Rows L2
section
variable {X:Cx}
@[simp] def ja:List D->OB
 |[d,.tup [.ty n,.ty m]]=>if qY d=true then none else if n = "list"/\m = "tuple" then some (.bl (dX d == "list" || dX d == "tuple"),false)else none
 |_=>none
theorem uO (K:Frag)(d:D)(hd:∀n,d≠.ty n):PySem.W.kitAny K (.type (dX d)) [.type "list",.type "tuple"]=some (dX d == "list" || dX d == "tuple"):=by
 obtain⟨_,_,_,k4,k5⟩:=wU K d hd;unfold PySem.W.kitAny;rw[k4];cases dX d == "list" with
 |true=>rfl
 |false=>
  unfold PySem.W.kitAny;rw[k5];cases dX d == "tuple" with
  |true=>rfl
  |false=>rfl
theorem xF (I:Inv X aa σ H s)(i:Is X.K H v d)(hd:∀n,d≠.ty n)(rx:aG v u)(ht:IsTup s.heap tp its.toArray)(e:PySem.W.kitAny X.K (.type (dX d)) its=some b)(h:∀tk,Q (.bool b) { s with toks:=tk }):
  wpAny (model X.prog X.w) A (call (.builtin "isinstance") [u,.ref tp]) Q E s:=by
 obtain⟨⟨cls,dd,data,sl⟩,ho,hc,n,Km⟩:=id ht;dsimp only at hc Km;subst hc;subst Km;cases i with
 |non=>cases (show u=Value.none from rx);exact PySem.W.kia_tup PySem.W.kitx_none I.kIn True.intro ho e (λz=>nomatch z) h
 |bl y=>cases (show u=Value.bool y from rx);exact PySem.W.kia_tup PySem.W.kitx_bool I.kIn True.intro ho e (λz=>nomatch z) h
 |int i=>obtain⟨t,q⟩:=(show ∃t,u=Value.int i t from rx);cases q;exact PySem.W.kia_tup PySem.W.kitx_int I.kIn True.intro ho e (λz=>nomatch z) h
 |str y=>obtain⟨t,q⟩:=(show ∃t,u=Value.str y t from rx);cases q;exact PySem.W.kia_tup PySem.W.kitx_str I.kIn True.intro ho e (λz=>nomatch z) h
 |ty n=>exact absurd rfl (hd n)
 |dk h1 _ _=>
  cases rx
  obtain⟨_,_,_,vs,_,o,es,ep,e1,e2,_⟩:=(show bC X.prog X.w H s.heap _ (.dK _ _)from I.hok _ _ h1);exact PySem.W.kia_tup PySem.W.kitx_dict I.kIn ⟨o,e1,e2.1⟩ ho e (λz=>nomatch z) h
 |dt h1 _ _=>
  cases rx
  obtain⟨_,_,xs,_,o,es,ep,e1,e2,_⟩:=(show bC X.prog X.w H s.heap _ (.dT _)from I.hok _ _ h1);exact PySem.W.kia_tup PySem.W.kitx_dict I.kIn ⟨o,e1,e2.1⟩ ho e (λz=>nomatch z) h
 |tup ht _=>
  cases rx
  obtain⟨its,_,⟨o,h1,h2,_⟩,_⟩:=I.tuple ht;exact PySem.W.kia_tup PySem.W.kitx_tuple I.kIn ⟨o,h1,h2⟩ ho e (λz=>nomatch z) h
 |lst hl _=>
  cases rx
  obtain⟨its,_,⟨o,n,h1,h2,_⟩,_⟩:=I.list hl;exact PySem.W.kia_tup PySem.W.kitx_list I.kIn ⟨o,h1,h2⟩ ho e (λz=>nomatch z) h
theorem uP:b7 X (.builtin "isinstance") (yH X.K ja):=by
 intro aa s σ H xs us Q I rs q;obtain⟨B,ds,d,b,sB,i,e,q⟩:=q;cases i with
 |nil=>cases e
 |@cons _ dx _ _ i1 i=>
  cases i with
  |nil=>cases e
  |cons i2 i=>
   cases i with
   |cons _ _=>simp[ja]at e
   |nil=>
    cases i2<;>try (cases e;done)
    rename_i hs hl;cases hl with
    |nil=>cases e
    |cons j1 hl=>
     cases j1<;>try (cases e;done)
     cases hl with
     |nil=>cases e
     |cons j2 hl=>
      cases j2<;>try (cases e;done)
      cases hl with
      |cons _ _=>simp[ja]at e
      |nil=>
       obtain⟨u1,u2,rfl,r1,r2⟩:=wm rs;simp only[ja]at e;split at e
       ·cases e
       ·rename_i ht;have hd:∀n,dx≠.ty n:=λn z=>by subst z;exact ht rfl
        split at e
        ·rename_i hh;obtain⟨rfl,rfl⟩:=hh;cases e
         cases r2
         obtain⟨its,rv,p,_⟩:=I.tuple (aK sB hs);obtain⟨w1,w2,rfl,LZ,Ma⟩:=rv.two;cases LZ
         cases Ma
         exact xF I (i1.mono sB) hd r1 p (uO X.K dx hd) λtk=>⟨.bl _,H,I.tok tk,rfl,q.one sB (.bl _)⟩
        ·cases e
end
@[simp] noncomputable def Bf:D->Option iE
 |.int i=>some (.inl i)
 |.str x=>some (.inr x)
 |_=>none
noncomputable def xG {κ:Type}[DecidableEq κ]:List κ->List D->κ->Option D
 |k'::ks,d::ds,k=>if k'=k then some d else xG ks ds k
 |_,_,_=>none
section
variable {X:Cx}{o e i:Expr}{pos:Pos}
@[simp] def MJ:D->D->OB
 |.dk ks vs,y=>(Bf y).bind λk=>(xG ks vs k).map λd=>(d,false)
 |_,_=>none
@[simp] def MK:D->D->OB
 |y,.dk ks vs=>(Bf y).map λk=>(.bl (xG ks vs k).isSome,false)
 |_,_=>none
end
section
variable {prog:Program}{w:World}{A:Around}{E:Value->Shared->Prop}{s:Shared}
abbrev j9 (h:Heap)(z TI TO T0:Addr)(f:Bool):Prop:=h.get? z=some { cls:=.type "zip",dict:=none,data:=.fields #[rawInt T0,.bool f,.bool false,.ref TI,.ref TO],slots:=#[] }
theorem xH (e:s.heap.get? a=some o)(h:Q (some o) s):wpAny (model prog w) A (loadIfAlive a) Q E s:=by
 intro Γ p hΓ;unfold loadIfAlive;simp only[Sem.wp];rw[e];exact h
theorem nj {z TI TO T0:Addr}{f:Bool}{oT:Obj}{Q:Bool->Shared->Prop}(hz:j9 s.heap z TI TO T0 f)(hT:s.heap.get? T0=some oT)
  (q:∀h',j9 h' z TI TO T0 true->Heap.SameBut z s.heap h'->Q false { s with heap:=h' }):wpAny (model prog w) A (Builtin.SmallTypes.ownedTupleIsFree (.ref z)) Q E s:=by
 unfold Builtin.SmallTypes.ownedTupleIsFree;refine wX (wpAny_field hz rfl (x:=rawInt T0) rfl ?_);show wpAny _ _ (loadIfAlive ((T0:Int).toNat)>>=_) _ _ _;rw[Int.toNat_natCast];refine wX (xH hT ?_);simp only[Option.isNone_some,uV,if_false];refine wX (wpAny_field hz rfl (x:=.bool f) rfl ?_);cases f with
 |true=>
  rw[if_neg (show ¬((Value.bool true != Value.bool true)=true)from uX)];exact wY (q s.heap hz (.refl _ _))
 |false=>
  rw[if_pos (show((Value.bool false != Value.bool true)=true)from rfl)];refine wX (wpAny_setField_rec hz (by simp) λh' hz' s'=>wY (q h' hz' s'))
end
section
variable {prog:Program}{w:World}{A:Around}{E:Value->Shared->Prop}{s:Shared}
theorem uR {k1 k2:Bool}{z TI TO T0 i1 i2 l1 l2:Addr}{f:Bool}{oT:Obj}{j:Nat}{xs ys:Array Value}{x y:Value}{Q:Value->Shared->Prop}(D:ZApart z TI TO i1 i2)(m1:l1≠z/\l1≠TO/\l1≠i1)(m2:l2≠z/\l2≠TO/\l2≠i1/\l2≠i2)
  (hz:j9 s.heap z TI TO T0 f) (hT:s.heap.get? T0=some oT) (hI:IsPair s.heap TI (.ref i1) (.ref i2)) (t1:iF k1 s.heap i1 l1 j) (t2:iF k2 s.heap i2 l2 j) (q1:iu k1 s.heap l1 xs) (q2:iu k2 s.heap l2 ys) (hx:xs[j]? = some x) (hy:ys[j]? = some y)
  (q:∀h',j9 h' z TI TO T0 true->iF k1 h' i1 l1 (j+1)->iF k2 h' i2 l2 (j+1)->IsPair h' s.heap.objs.size x y ->
   (∀c o,c≠z->c≠i1->c≠i2->s.heap.get? c=some o->h'.get? c=some o)->Q (.ref s.heap.objs.size) { s with heap:=h' }):
  wpAny (model prog w) A (Builtin.«zip.__next__» ⟨[.ref z],[]⟩) (λfin s'=>∃v,fin=.done (.ret v)/\Q v s') E s:=by
 show wpAny _ _ (field (.ref z) 2>>=_) _ _ s;refine wX (wpAny_field hz rfl (x:=.bool false) rfl ?_);show wpAny _ _ (field (.ref z) 3>>=_) _ _ s;refine wX (wpAny_field hz rfl (x:=.ref TI) rfl (wX (wpAny_seqItems hI rfl ?_)));show wpAny _ _ (Builtin.SmallTypes.ownedTupleIsFree (.ref z)>>=_) _ _ s;refine wX (nj hz hT λg1 hz1 s1=>?_);simp only[uV,if_false];refine wX ?_;simp only[←Array.forIn_toList,List.forIn_cons,List.forIn_nil];refine wX (wX (wpAny_holding ?_));show wpAny _ _ (Builtin.SmallTypes.nextOf (.ref i1)>>=_) _ _ { s with heap:=g1 };refine wX (dO (s:={ s with heap:=g1 }) (t1.upon λo e=>s1.extBut _ _ D.az e) (q1.upon λo e=>s1.extBut _ _ m1.1 e) hx λg2 t12 s2=>wY ?_);refine wY (wX (wX (wpAny_holding ?_)));show wpAny _ _ (Builtin.SmallTypes.nextOf (.ref i2)>>=_) _ _ { s with heap:=g2 };have Dn:∀ {c o},c≠z->c≠i1->s.heap.get? c=some o->g2.get? c=some o:=λc1 c3 e=>s2.extBut _ _ c3 (s1.extBut _ _ c1 e);refine wX (dO (s:={ s with heap:=g2 }) (t2.upon λo e=>Dn D.bz D.ab.symm e) (q2.upon λo e=>Dn m2.1 m2.2.2.1 e) hy λg4 t24 s4=>wY ?_);refine wY (wY ?_);refine wX (wpAny_newTuple (hsz:=(by decide:2<=sizeLine)) ?_);have sz:g4.objs.size=s.heap.objs.size:=by rw[s4.1,s2.1,s1.1]
 have Mb:∀c o,c≠z->c≠i1->c≠i2->s.heap.get? c=some o->g4.get? c=some o:=λc o c1 c3 c4 e=>s4.extBut _ _ c4 (Dn c1 c3 e);refine wY ⟨_,rfl,?_⟩;show Q (.ref g4.objs.size) { s with heap:=g4.push { cls:=.type "tuple",data:=.seq #[x,y] } };have hp:IsPair (g4.push { cls:=.type "tuple",data:=.seq #[x,y] }) g4.objs.size x y:=vY _ rfl;rw[sz]at hp ⊢;exact q _ (vZ _ (s4.extBut _ _ D.bz.symm (s2.extBut _ _ D.az.symm hz1))) (t12.upon λo e=>vZ _ (s4.extBut _ _ D.ab e)) (t24.upon λo e=>vZ _ e) hp λc o c1 c3 c4 e=>vZ _ (Mb c o c1 c3 c4 e)
theorem xI {k1 k2:Bool}{z TI TO T0 i1 i2 l1 l2:Addr}{f:Bool}{oT:Obj}{j:Nat}{xs ys:Array Value}{Q:PySem.Fin->Shared->Prop}(hA:A.handled=none)(D:ZApart z TI TO i1 i2)(m1:l1≠z/\l1≠TO/\l1≠i1)(m2:l2≠z/\l2≠TO/\l2≠i1/\l2≠i2)
  (hz:j9 s.heap z TI TO T0 f) (hT:s.heap.get? T0=some oT) (hI:IsPair s.heap TI (.ref i1) (.ref i2)) (t1:iF k1 s.heap i1 l1 j) (t2:iF k2 s.heap i2 l2 j) (q1:iu k1 s.heap l1 xs) (q2:iu k2 s.heap l2 ys) (he:xs[j]? = none∨ys[j]? = none)
  (q:∀h' x,(∀c o,c≠z->c≠i1->c≠i2->s.heap.get? c=some o->h'.get? c=some o)->(∃o,h'.get? x=some o/\o.cls=.type "StopIteration")->E (.ref x) { s with heap:=h' }):
  wpAny (model prog w) A (Builtin.«zip.__next__» ⟨[.ref z],[]⟩) Q E s:=by
 show wpAny _ _ (field (.ref z) 2>>=_) _ _ s;refine wX (wpAny_field hz rfl (x:=.bool false) rfl ?_);show wpAny _ _ (field (.ref z) 3>>=_) _ _ s;refine wX (wpAny_field hz rfl (x:=.ref TI) rfl (wX (wpAny_seqItems hI rfl ?_)));show wpAny _ _ (Builtin.SmallTypes.ownedTupleIsFree (.ref z)>>=_) _ _ s;refine wX (nj hz hT λg1 hz1 s1=>?_);simp only[uV,if_false];refine wX ?_;simp only[←Array.forIn_toList,List.forIn_cons,List.forIn_nil];refine wX (wX (wpAny_holding ?_));show wpAny _ _ (Builtin.SmallTypes.nextOf (.ref i1)>>=_) _ _ { s with heap:=g1 };cases hx:xs[j]? with
 |none=>
  exact wX (iU (s:={ s with heap:=g1 }) hA (t1.upon λo e=>s1.extBut _ _ D.az e) (q1.upon λo e=>s1.extBut _ _ m1.1 e) hx λg2 x s2 hX=>q g2 x (λc o c1 c3 _ e=>s2 _ _ c3 (s1.extBut _ _ c1 e)) hX)
 |some v=>
  have hy:ys[j]? = none:=by
   rcases he with h|h
   ·rw[hx]at h;cases h
   ·exact h
  refine wX (dO (s:={ s with heap:=g1 }) (t1.upon λo e=>s1.extBut _ _ D.az e) (q1.upon λo e=>s1.extBut _ _ m1.1 e) hx λg2 t12 s2=>wY ?_);refine wY (wX (wX (wpAny_holding ?_)));show wpAny _ _ (Builtin.SmallTypes.nextOf (.ref i2)>>=_) _ _ { s with heap:=g2 };have Dn:∀ {c o},c≠z->c≠i1->s.heap.get? c=some o->g2.get? c=some o:=λc1 c3 e=>s2.extBut _ _ c3 (s1.extBut _ _ c1 e);exact wX (iU (s:={ s with heap:=g2 }) hA (t2.upon λo e=>Dn D.bz D.ab.symm e) (q2.upon λo e=>Dn m2.1 m2.2.2.1 e) hy λg4 x s4 hX=>q g4 x (λc o c1 c3 c4 e=>s4 _ _ c4 (Dn c1 c3 e)) hX)
end
structure ZA (k1 k2:Bool)(z TI TO i1 i2 l1 l2:Addr):Prop where
 D:ZApart z TI TO i1 i2
 m1:l1≠z/\l1≠TO/\l1≠i1
 m2:l2≠z/\l2≠TO/\l2≠i1/\l2≠i2
def xJ (k1 k2:Bool)(z TI TO i1 i2 l1 l2 S:Addr)(i:Nat)(h:Heap):Prop :=
 IsPair h TI (.ref i1) (.ref i2)/\iF k1 h i1 l1 i/\iF k2 h i2 l2 i/\((IsZip h z TI TO .none/\∃a b,IsPair h TO a b)∨∃T0 f oT oO,j9 h z TI TO T0 f/\h.get? T0=some oT/\T0∉[z,TI,TO,i1,i2]/\T0≠S/\h.get? TO=some oO)
theorem xJ.keep {k1 k2:Bool}{z TI TO i1 i2 l1 l2 S:Addr}{i:Nat}{h h':Heap}(st:xJ k1 k2 z TI TO i1 i2 l1 l2 S i h)(hS:S∉[z,TI,TO,i1,i2])(k:∀b o,b≠S->h.get? b=some o->h'.get? b=some o):xJ k1 k2 z TI TO i1 i2 l1 l2 S i h':=by
 obtain⟨a1,a2,a3,a4⟩:=st;have n:∀ {b},b∈[z,TI,TO,i1,i2]->b≠S:=λhb e=>hS (e ▸ hb);refine⟨k _ _ (n (by simp)) a1,a2.upon λo e=>k _ o (n (by simp)) e,a3.upon λo e=>k _ o (n (by simp)) e,?_⟩;rcases a4 with⟨b1,a,b,b2⟩|⟨T0,f,oT,oO,b1,b2,b3,b4,b5⟩
 ·exact .inl ⟨k _ _ (n (by simp)) b1,a,b,k _ _ (n (by simp)) b2⟩
 ·exact .inr ⟨T0,f,oT,oO,k _ _ (n (by simp)) b1,k _ _ b4 b2,b3,b4,k _ _ (n (by simp)) b5⟩
section
variable {prog:Program}{w:World}{A:Around}{E:Value->Shared->Prop}{s:Shared}{k1 k2:Bool}{z TI TO i1 i2 l1 l2 S:Addr}{j:Nat}{xs ys:Array Value}
theorem xJ.ty (st:xJ k1 k2 z TI TO i1 i2 l1 l2 S j h):∃o,h.get? z=some o/\o.cls=.type "zip":=by
 obtain⟨_,_,_,a4⟩:=st;rcases a4 with⟨b1,_⟩|⟨T0,f,oT,oO,b1,_⟩
 ·exact⟨_,b1,rfl⟩
 ·exact⟨_,b1,rfl⟩
theorem xK (Z:ZA k1 k2 z TI TO i1 i2 l1 l2)(hS:S<s.heap.objs.size)(st:xJ k1 k2 z TI TO i1 i2 l1 l2 S j s.heap)(q1:iu k1 s.heap l1 xs)(q2:iu k2 s.heap l2 ys)(hx:xs[j]? = some x)(hy:ys[j]? = some y)
  (q:∀h',xJ k1 k2 z TI TO i1 i2 l1 l2 S (j+1) h'->IsPair h' s.heap.objs.size x y->(∀c o,c∉[z,TI,TO,i1,i2]->s.heap.get? c=some o->h'.get? c=some o)->Q (some (.ref s.heap.objs.size)) { s with heap:=h' }):
  wpAny (model prog w) A (pyNext (.ref z)) Q E s:=by
 have hT:s.TypeIs (.ref z) "zip":=st.ty;obtain⟨hI,t1,t2,a4⟩:=st;have lt:∀ {c o},s.heap.get? c=some o->s.heap.objs.size≠c:=λe=>Nat.ne_of_gt (vX e);obtain⟨o1,e1,_⟩:=t1.ob;obtain⟨o2,e2,_⟩:=t2.ob;unfold pyNext;rcases a4 with⟨hz,a,b,hO⟩|⟨T0,f,oT,oO,hz,h0,n0,nS,hO⟩
 ·refine wX (wpAny_attempt (wpAny_callSpecial?_slot (name:=Str.ofString "__next__") hT PySem.F.slot_zip_next (wpAny_call_entry PySem.F.slot_zip_next hT PySem.F.entry_zip_next (pA Z.D Z.m1 Z.m2 hz hI hO t1 t2 q1 q2 hx hy λh' b1 b2 b3 b4 b5 b6 bk=>wY ?_) (PySem.F.args_zip_next_1 _))));refine q h' ⟨bk _ _ Z.D.tz Z.D.to Z.D.ta Z.D.tb hI,b3,b4,.inr ⟨_,false,_,_,b1,b5,?_,Nat.ne_of_gt hS,b2⟩⟩ b5 λc o hc e=>bk c o (λz=>hc (by simp[z])) (λz=>hc (by simp[z])) (λz=>hc (by simp[z])) (λz=>hc (by simp[z])) e;simp only[List.mem_cons,List.not_mem_nil,or_false,not_or];exact⟨lt hz,lt hI,lt hO,lt e1,lt e2⟩
 ·refine wX (wpAny_attempt (wpAny_callSpecial?_slot (name:=Str.ofString "__next__") hT PySem.F.slot_zip_next (wpAny_call_entry PySem.F.slot_zip_next hT PySem.F.entry_zip_next (uR Z.D Z.m1 Z.m2 hz h0 hI t1 t2 q1 q2 hx hy λh' b1 b3 b4 b5 bk=>wY ?_) (PySem.F.args_zip_next_1 _))));exact q h' ⟨bk _ _ Z.D.tz Z.D.ta Z.D.tb hI,b3,b4,.inr ⟨T0,true,oT,oO,b1,bk _ _ (λz=>n0 (by simp[z])) (λz=>n0 (by simp[z])) (λz=>n0 (by simp[z])) h0,n0,nS,bk _ _ Z.D.oz Z.D.oa Z.D.ob hO⟩⟩ b5 λc o hc e=>bk c o (λz=>hc (by simp[z])) (λz=>hc (by simp[z])) (λz=>hc (by simp[z])) e
theorem xL (hA:A.handled=none)(Z:ZA k1 k2 z TI TO i1 i2 l1 l2)(st:xJ k1 k2 z TI TO i1 i2 l1 l2 S j s.heap)(q1:iu k1 s.heap l1 xs)(q2:iu k2 s.heap l2 ys)(he:xs[j]? = none∨ys[j]? = none)
  (q:∀h',(∀c o,c∉[z,TI,TO,i1,i2]->s.heap.get? c=some o->h'.get? c=some o)->Q none { s with heap:=h' }):wpAny (model prog w) A (pyNext (.ref z)) Q E s:=by
 have hT:s.TypeIs (.ref z) "zip":=st.ty;obtain⟨hI,t1,t2,a4⟩:=st;unfold pyNext;rcases a4 with⟨hz,a,b,hO⟩|⟨T0,f,oT,oO,hz,h0,n0,nS,hO⟩
 ·refine wX (wpAny_attempt (wpAny_callSpecial?_slot (name:=Str.ofString "__next__") hT PySem.F.slot_zip_next (wpAny_call_entry PySem.F.slot_zip_next hT PySem.F.entry_zip_next (td hA Z.D Z.m1 Z.m2 hz hI hO t1 t2 q1 q2 he λh' x hk hX=>?_) (PySem.F.args_zip_next_1 _))));obtain⟨o,eo,co⟩:=hX;exact wX (wpAny_isInstance (T:="StopIteration") (b:=true) ⟨o,eo,co⟩ isSubtype_stop (wY (q h' λc o hc e=>hk c o (λz=>hc (by simp[z])) (λz=>hc (by simp[z])) (λz=>hc (by simp[z])) (λz=>hc (by simp[z])) e)))
 ·refine wX (wpAny_attempt (wpAny_callSpecial?_slot (name:=Str.ofString "__next__") hT PySem.F.slot_zip_next (wpAny_call_entry PySem.F.slot_zip_next hT PySem.F.entry_zip_next (xI hA Z.D Z.m1 Z.m2 hz h0 hI t1 t2 q1 q2 he λh' x hk hX=>?_) (PySem.F.args_zip_next_1 _))));obtain⟨o,eo,co⟩:=hX;exact wX (wpAny_isInstance (T:="StopIteration") (b:=true) ⟨o,eo,co⟩ isSubtype_stop (wY (q h' λc o hc e=>hk c o (λz=>hc (by simp[z])) (λz=>hc (by simp[z])) (λz=>hc (by simp[z])) e)))
end
theorem xM (h:a≠b):upd (upd H a o) b u=upd (upd H b u) a o:=by
 funext c;unfold upd;by_cases h1:c=b
 ·by_cases h2:c=a
  ·exact absurd (h2.symm.trans h1) h
  ·rw[if_pos h1,if_neg h2,if_pos h1]
 ·rw[if_neg h1];by_cases h2:c=a
  ·rw[if_pos h2,if_pos h2]
  ·rw[if_neg h2,if_neg h2,if_neg h1]
theorem pO (h:H a=none):aF H (upd H a o):=λb u e=>by rw[a8 (ba e h)];exact e
theorem uS (h:(ej ds es)[i]? = some d):(ej ds es).take (i+1)=(ej ds es).take i++[d]:=by
 rw[List.take_add_one,h];rfl
theorem rK:typeLookup (.type "zip") "__len__" = pure none:=by rw[typeLookup_type,builtinLookup_eq_fast];kernel_rfl
theorem pP:typeLookup (.type "zip") "__length_hint__" = pure none:=by rw[typeLookup_type,builtinLookup_eq_fast];kernel_rfl
section
variable {X:Cx}{aa:List (Addr×Obj)}{σ:St}{B H0:Hp}{A:Around}{R:Result->Shared->Prop}{k1 k2:Bool}{z TI TO i1 i2 l1 l2 S:Addr}{us ws:List V}{ds es:List D}
theorem uT (hA:A.handled=none)(Z:ZA k1 k2 z TI TO i1 i2 l1 l2)(hS:S∉[z,TI,TO,i1,i2])(h1:ke k1 X.K B l1 us)(j1:IsL X.K B us ds)(h2:ke k2 X.K B l2 ws)(j2:IsL X.K B ws es)
  (hR:∀Hc N vs s',Inv X aa σ (upd Hc S (.lst vs)) s'->Hc S=none->Ext B N H0 Hc->IsL X.K N vs (ej ds es)->R (.ok (.ret .none)) s'):
  ∀(k i:Nat)(s:Shared)(Hc N:Hp)(vs:List V),(ej ds es).length - i=k->i<=(ej ds es).length->Inv X aa σ (upd Hc S (.lst vs)) s->Hc S=none->Ext B N H0 Hc->(∀b∈[z,TI,TO,i1,i2],iJ X aa (upd Hc S (.lst vs)) b) ->
   xJ k1 k2 z TI TO i1 i2 l1 l2 S i s.heap->IsL X.K N vs ((ej ds es).take i) ->
   codeAny (model X.prog X.w) A (.builtin "list.extend.loop" ⟨[.ref S,.ref z,.none],[]⟩) R s:=by
 have n1:=j1.length;have n2:=j2.length;have nz:(ej ds es).length=min ds.length es.length:=by unfold ej;rw[List.length_zipWith]
 intro k;induction k with
 |zero=>
  intro i s Hc N vs hk hi I hc xt fp st il;have Dj:i=(ej ds es).length:=by omega
  have sm:aF B (upd Hc S (.lst vs)):=(xt.bn.trans xt.nh).trans (pO hc);obtain⟨its,r1,p1,z1⟩:=(h1.same sm).vals I;obtain⟨m6,r2,p2,z2⟩:=(h2.same sm).vals I;have e1:=r1.length;have e2:=r2.length;refine codeAny_builtin PySem.F.entry_extend_loop ?_;rw[Around.under_plainId PySem.F.plain_extend_loop _];show wpAny _ A.in1 (pyNext (.ref z)>>=_) _ _ s;refine wX (xL (A:=A.in1) hA Z st p1 p2 ?_ λh' Bv=>?_)
  ·by_cases q:ds.length<=es.length
   ·left;simp;omega
   ·right;simp;omega
  ·refine wY (hR Hc N vs _ (oj (t':=s.toks) I fp Bv) hc xt ?_);rw[Dj,List.take_length]at il;exact il
 |succ k ih=>
  intro i s Hc N vs hk hi I hc xt fp st il;have eO:i<(ej ds es).length:=by omega
  have sm:aF B (upd Hc S (.lst vs)):=(xt.bn.trans xt.nh).trans (pO hc);obtain⟨its,r1,p1,z1⟩:=(h1.same sm).vals I;obtain⟨m6,r2,p2,z2⟩:=(h2.same sm).vals I;have d1:i<ds.length:=by omega
  have d2:i<es.length:=by omega
  obtain⟨x,hx,ix⟩:=j1.get (vU d1);obtain⟨y,hy,iy⟩:=j2.get (vU d2);obtain⟨u,hu,ru⟩:=r1.get hx;obtain⟨v,hv,rv⟩:=r2.get hy;have el:(ej ds es)[i]? = some (.tup [ds[i],es[i]]):=by
   unfold ej;rw[List.getElem?_zipWith,vU d1,vU d2]
  obtain⟨zl,acc,c,Mc,MS,eS⟩:=I.lstM au;have Kn:S<s.heap.objs.size:=vX eS;refine codeAny_builtin PySem.F.entry_extend_loop ?_;rw[Around.under_plainId PySem.F.plain_extend_loop _];show wpAny _ A.in1 (pyNext (.ref z)>>=_) _ _ s;refine wX (xK (A:=A.in1) Z Kn st p1 p2 (by simpa using hu) (by simpa using hv) λh' ax hp Bv=>?_);have fr:upd Hc S (.lst vs) s.heap.objs.size=none:=I.hok.fresh (vT _);have nS:s.heap.objs.size≠S:=Nat.ne_of_gt Kn;have Ko:Hc s.heap.objs.size=none:=by rw[a8 nS]at fr;exact fr
  have new:bC X.prog X.w (upd (upd Hc S (.lst vs)) s.heap.objs.size (.tup [x,y])) h' s.heap.objs.size (.tup [x,y]):=⟨by show 2<=sizeLine;decide,[u,v],.cons ru (.cons rv .nil),⟨_,hp,rfl,_,rfl⟩⟩;have I1:Inv X aa σ (upd (upd Hc S (.lst vs)) s.heap.objs.size (.tup [x,y])) { s with heap:=h' }:=Ba (s:=s) (t':=s.toks) I fp Bv (vT _) new;rw[xM nS.symm]at I1;have Kp:h'.get? S=some { cls:=.type "list",data:=.seq acc.toArray c }:=Bv S _ hS eS;have uc:Ext B (upd N s.heap.objs.size (.tup [x,y])) H0 (upd Hc s.heap.objs.size (.tup [x,y])):=xt.trans (Ext.laid xt.nh Ko);have vl:vs.length=i:=by rw[il.length,List.length_take];omega
  have zs:=zl;show wpAny _ A.in1 (updateSeq S (·.push (Value.ref s.heap.objs.size))>>=_) _ _ _;refine wX ?_;have lz:(vs++[V.ref s.heap.objs.size]).length<=sizeLine:=by
   rw[uZ,vl];have a1:=z1;show i+1<=sizeLine;omega
  have I2:=I1.lset (t':=s.toks) (ys:=vs++[.ref s.heap.objs.size]) (its':=acc++[.ref s.heap.objs.size]) (f:=(·.push (Value.ref s.heap.objs.size))) au Kp (by simp) (Mc.append (.cons (show aG (.ref _) (.ref _)from rfl) .nil)) lz;rw[kj]at I2;refine wpAny_updateSeq Kp rfl (wY ⟨plainId_quiet PySem.F.plain_extend_loop _,ih (i+1) _ _ _ (vs++[.ref s.heap.objs.size]) (by omega) eO I2 (by rw[a8 nS.symm];exact hc) uc (λb hb=>?_) (ax.keep hS λb o hb e=>(Heap.get?_update_other _ _ (Ne.symm hb)).trans e) ?_⟩) (by simp;omega) (by simp;omega)
  ·obtain⟨f0,f1,f2,f3,f4,f5⟩:=fp b hb;refine⟨?_,f1,f2,f3,f4,f5⟩;have nb:b≠S:=λe=>hS (e ▸ hb);rw[a8 nb]at f0 ⊢;have nT:b≠s.heap.objs.size:=by
    obtain⟨hI,t1,t2,a4⟩:=st;obtain⟨o1,e1,_⟩:=t1.ob;obtain⟨o2,e2,_⟩:=t2.ob;simp only[List.mem_cons,List.not_mem_nil,or_false]at hb;have lt:∀ {c o},s.heap.get? c=some o->c≠s.heap.objs.size:=λe=>vS (vX e);have hO:∃o,s.heap.get? TO=some o/\∃o,s.heap.get? z=some o:=by
     rcases a4 with⟨hz,a,b,hO⟩|⟨T0,f,oT,oO,hz,h0,n0,nS,hO⟩
     ·exact⟨_,hO,_,hz⟩
     ·exact⟨_,hO,_,hz⟩
    obtain⟨o3,e3,o4,e4⟩:=hO;rcases hb with rfl|rfl|rfl|rfl|rfl
    ·exact lt e4
    ·exact lt hI
    ·exact lt e3
    ·exact lt e1
    ·exact lt e2
   rw[a8 nT];exact f0
  ·rw[uS el];exact(il.mono (Ext.laid xt.nh Ko).bn).append (.cons (.tup (fg.of au) (.cons (ix.mono uc.bn) (.cons (iy.mono uc.bn) .nil))) .nil)
end
section
variable {X:Cx}{aa:List (Addr×Obj)}{σ:St}{B H:Hp}{s:Shared}{k1 k2:Bool}{z TI TO i1 i2 l1 l2:Addr}{us ws:List V}{ds es:List D}
theorem mr (hA:X.A.handled=none)(I:Inv X aa σ H s)(Z:ZA k1 k2 z TI TO i1 i2 l1 l2)(fp:∀b∈[z,TI,TO,i1,i2],iJ X aa H b)
  (hI:IsPair s.heap TI (.ref i1) (.ref i2)) (t1:iF k1 s.heap i1 l1 0) (t2:iF k2 s.heap i2 l2 0) (hz:IsZip s.heap z TI TO .none) (hO:IsPair s.heap TO a b)
  (sB:aF B H) (h1:ke k1 X.K B l1 us) (j1:IsL X.K B us ds) (h2:ke k2 X.K B l2 ws) (j2:IsL X.K B ws es)
  (q:∀(S:Addr)(Hc N:Hp)(vs:List V),Hc S=none->Ext B N H Hc->IsL X.K N vs (ej ds es)->Q (.ref S) (upd Hc S (.lst vs))):
  wq X (call (.type "list") [.ref z]) (EP X aa σ Q) X.xe s:=by
 have lt:∀ {c o},s.heap.get? c=some o->s.heap.objs.size≠c:=λe=>Nat.ne_of_gt (vX e);have ud:s.heap.objs.size∉[z,TI,TO,i1,i2]:=by
  obtain⟨o1,e1,_⟩:=t1.ob;obtain⟨o2,e2,_⟩:=t2.ob;simp only[List.mem_cons,List.not_mem_nil,or_false,not_or];exact⟨lt hz,lt hI,lt hO,lt e1,lt e2⟩
 have nz:s.heap.objs.size≠z:=lt hz;have Md:xJ k1 k2 z TI TO i1 i2 l1 l2 s.heap.objs.size 0 s.heap:=⟨hI,t1,t2,.inl ⟨hz,a,b,hO⟩⟩;have hc:H s.heap.objs.size=none:=I.fresh;refine callType_codes (Q₁:=λobj s₁=>obj=.ref s.heap.objs.size/\s₁={ s with heap:=s.heap.push { cls:=.type "list",data:=.seq #[] } }) PySem.F.called_list (PySem.F.typeCall_list_1 _) PySem.F.entry_list_init
  (code_list_new _ ⟨rfl,rfl⟩) λobj s₁ h₁=>?_
 obtain⟨rfl,rfl⟩:=h₁;have hS:(s.heap.push { cls:=.type "list",data:=.seq #[] }).get? s.heap.objs.size=some { cls:=.type "list",data:=.seq ([]:List Value).toArray }:=vY _ rfl;have I1:Inv X aa σ (upd H s.heap.objs.size (.lst [])) { s with heap:=s.heap.push { cls:=.type "list",data:=.seq #[] } }:=I.lnew (t':=s.toks) (its:=[]) .nil (uN _);have Me:xJ k1 k2 z TI TO i1 i2 l1 l2 s.heap.objs.size 0 (s.heap.push { cls:=.type "list",data:=.seq #[] }):=Md.keep ud λb o _ e=>vZ _ e;refine⟨⟨_,hS,rfl⟩,PySem.F.args_list_init_2 _ _,?_⟩;show wpAny _ _ (do let old ←Builtin.List.listItems (.ref s.heap.objs.size);Builtin.List.listUpdate (.ref s.heap.objs.size) (λ_=>#[]);letGo old.toList.reverse;Builtin.List.listExtendWith (.ref s.heap.objs.size) (.ref z) .none) _ _ _;refine wX ?_;unfold Builtin.List.listItems;refine wX (wpAny_seqItems hS rfl (wY ?_));show wpAny _ _ (updateSeq s.heap.objs.size (λ_=>#[])>>=λ_=>letGo (#[]:Array Value).toList.reverse>>=λ_=>Builtin.List.listExtendWith (.ref s.heap.objs.size) (.ref z) .none) _ _ _;refine wX (wpAny_updateSeq hS rfl ?_);have I2:=I1.lset (t':=s.toks) (ys:=[]) (its':=[]) (f:=λ_=>#[]) au hS rfl .nil (uN _);have fL:=Me.keep (h':=(s.heap.push { cls:=.type "list",data:=.seq #[] }).update s.heap.objs.size (Obj.mapSeq λ_=>(#[]:Array Value))) ud λb o hb e=>(Heap.get?_update_other _ _ (Ne.symm hb)).trans e;rw[kj]at I2;generalize hg2:(s.heap.push { cls:=.type "list",data:=.seq #[] }).update s.heap.objs.size (Obj.mapSeq λ_=>(#[]:Array Value))=g2 at I2 fL ⊢;obtain⟨_,vq,c2,v2,_,Bu⟩:=I2.lstM au;have e2:=v2.zero;subst e2;refine wX (wpAny_letGo ?_);unfold Builtin.List.listExtendWith;refine wX (wpAny_typeOf (T:="zip") fL.ty ?_);have jH:Builtin.List.listSameRef (.ref s.heap.objs.size) (.ref z)=false:=by simp[Builtin.List.listSameRef,nz]
 have kC:(Value.type "zip" == Value.type "list")=false:=by decide
 have yT:(Value.type "zip" == Value.type "tuple")=false:=by decide
 simp only[jH,kC,yT,Bool.or_false,uV,if_false];have G8:IsZip g2 z TI TO .none:=by
  rw[←hg2];exact(Heap.get?_update_other _ _ nz).trans (vZ _ hz)
 refine wX (wpAny_pyIter_zip G8 ?_);refine wX (wpAny_holding ?_);unfold Builtin.List.listLengthHint;refine wX (wpAny_specialOf (T:="zip") fL.ty rK ?_);show wpAny _ _ (specialOf (Value.ref z) (Str.ofString "__length_hint__")>>=_) _ _ _;refine wX (wpAny_specialOf (T:="zip") fL.ty pP ?_);refine wY ?_;show wpAny _ _ (rule "list.extend.makes-room" >>= λ_=>Builtin.List.listTouch (.ref s.heap.objs.size)>>=λ_=>
  again (.builtin "list.extend.loop" ⟨[.ref s.heap.objs.size,.ref z,.none],[]⟩)) _ _ _
 refine wX (wpAny_rule ?_);refine wX ?_;show wpAny _ _ (updateSeq s.heap.objs.size (·.push .none)>>=λ_=>updateSeq s.heap.objs.size (·.pop)) _ _ _;refine wX (wpAny_updateSeq Bu rfl ?_);have I3:=I2.lset (t':=s.toks) (ys:=[.non]) (its':=[.none]) (f:=(·.push .none)) au Bu rfl (.cons (show aG .non .none from rfl) .nil) (by show 1<=sizeLine;decide);have iG:=fL.keep (h':=g2.update s.heap.objs.size (Obj.mapSeq (·.push .none))) ud λb o hb e=>(Heap.get?_update_other _ _ (Ne.symm hb)).trans e;rw[kj]at I3;generalize hg3:g2.update s.heap.objs.size (Obj.mapSeq (·.push .none))=g3 at I3 iG ⊢;obtain⟨_,Mf,c3,v3,_,GA⟩:=I3.lstM au;obtain⟨n3,rfl,r3⟩:=v3.one;cases r3
 refine wpAny_updateSeq (hz:=by simp<;>decide) GA rfl ?_
 have I4:=I3.lset (t':=s.toks) (ys:=[]) (its':=[]) (f:=(·.pop)) au GA rfl .nil (uN _);have vz:=iG.keep (h':=g3.update s.heap.objs.size (Obj.mapSeq (·.pop))) ud λb o hb e=>(Heap.get?_update_other _ _ (Ne.symm hb)).trans e;rw[kj]at I4;refine wY ⟨plainId_quiet PySem.F.plain_extend_loop _,uT (A:=X.A.in1) (B:=B) (H0:=H) hA Z ud h1 j1 h2 j2 (λHc N vs s' I' Gw xt il=>?_) _ 0 _ H B [] rfl (uN _) I4 hc (Ext.refl sB) (λb hb=>?_) vz .nil⟩
 ·exact⟨rfl,.ref s.heap.objs.size,_,I',rfl,q _ Hc N vs Gw xt il⟩
 ·obtain⟨f0,f1⟩:=fp b hb;refine⟨?_,f1⟩;have nb:b≠s.heap.objs.size:=λe=>ud (e ▸ hb);rw[a8 nb];exact f0
end
@[simp] def Jn (fa fb:FE):FE:=λρ=>(u8 fa fb ρ).map λds=>(.lst ds,true)
section
variable {X:Cx}{a b:Expr}{pos p pos2 p2:Pos}
theorem rL (IF:X.calm=true)(hl:X.mg "list" = none)(hm:X.mg "zip" = none)(ha:JE X a fa)(hb:JE X b fb)(Mh:Gl X "list":=by rfl)(hg:Gl X "zip":=by rfl)
  (hs:starEach [a,b] X.env=[(false,eval a X.env),(false,eval b X.env)]:=by rfl) (kC:starEach [b] X.env=[(false,eval b X.env)]:=by rfl)
  (yT:starEach [.Call (.Name "zip" p2) [a,b] [] pos2] X.env=[(false,eval (.Call (.Name "zip" p2) [a,b] [] pos2) X.env)]:=by rfl):
  JE X (.Call (.Name "list" p) [.Call (.Name "zip" p2) [a,b] [] pos2] [] pos) (Jn fa fb):=by
 intro aa s σ H Q I q;obtain⟨B,ρ,d,bb,sB,r,ee,fin⟩:=q;obtain⟨zs,Kq,e2⟩:=oY ee;cases e2
 clear ee;have ee:=Kq;clear Kq;obtain⟨x1,ex,ee⟩:=oX ee;obtain⟨y1,ey,ee⟩:=oX ee;obtain⟨xs,Iq,ee⟩:=oX ee;obtain⟨ys,Ir,ee⟩:=oY ee;subst ee;refine wpAny_Call_Name_kw (hZ I Mh hl kP ?_ (by decide) (by decide));refine PyProof.Rows.callWith_type1 ?_ (by rw[yT];rfl) rfl;rw[yT];show wpAny _ _ (spliced ((false,eval (.Call (.Name "zip" p2) [a,b] [] pos2) X.env)::backTo pos [])) _ _ s;refine Calls.spliced_cons ?_;refine wpAny_Call_Name_kw (hZ I hg hm Bb ?_ (by decide) (by decide));refine PyProof.Rows.callWith_type1 (bH (aj ha (aj hb ai kC) (by rw[hs,kC]) pos2 aa s σ H (λvs H1=>∃N1,Ext B N1 H H1/\IsL X.K N1 vs [x1.1,y1.1]) I ⟨B,ρ,[x1.1,y1.1],sB,r,by simp[ae,ah,ex,ey],λvs H1 N1 xt i1=>⟨N1,xt,i1⟩⟩) λus s1 ⟨vs,H1,I1,r1,N1,xt,il⟩=>?_) (by rw[hs,kC]) (by rw[kC];rfl);cases il with
 |cons j1 j2=>
  cases j2 with
  |cons j2 j3=>
   cases j3
   obtain⟨k1,l1,MT,rfl,h1,m1⟩:=tf j1 Iq;obtain⟨k2,l2,MU,rfl,h2,m2⟩:=tf j2 Ir;obtain⟨u1,u2,rfl,Io,Ip⟩:=r1.two;cases Io
   cases Ip
   obtain⟨its,v1,p1,z1⟩:=(h1.same xt.nh).vals I1;obtain⟨m6,v2,p2,z2⟩:=(h2.same xt.nh).vals I1;have Aj:=p1.lt;have AA:=p2.lt;refine sZ p1 p2 λh' c1 c2 c3 c4 c5 ck=>?_;have D:ZApart (s1.heap.objs.size+4) (s1.heap.objs.size+2) (s1.heap.objs.size+3) s1.heap.objs.size (s1.heap.objs.size+1):=by
    constructor<;>(intro z;exact absurd z (by first|exact vS (Nat.add_lt_add_left (by decide) _)|exact Nat.ne_of_gt (Nat.add_lt_add_left (by decide) _)|exact vS (Nat.lt_add_of_pos_right (by decide))|exact Nat.ne_of_gt (Nat.lt_add_of_pos_right (by decide))))
   have nf:∀ {l:Addr}(n:Nat),l<s1.heap.objs.size->l≠s1.heap.objs.size+n:=λn hl=>vS (vQ hl (Nat.le_add_right _ n));refine Calls.spliced_nil ?_;refine mr (s:={ s1 with heap:=h' }) (k1:=k1) (k2:=k2) (B:=N1) (H:=H1) (I1.ok.hd IF) (I1.kept (t':=s1.toks) ck) ⟨D,⟨nf 4 Aj,nf 3 Aj,nf 0 Aj⟩,⟨nf 4 AA,nf 3 AA,nf 0 AA,nf 1 AA⟩⟩ (λb hb=>?_) c2 c4 c5 c1 c3 xt.nh h1 m1 h2 m2 λS Hc N vs hS uc il2=>?_
   ·have AB:s1.heap.objs.size<=b:=by
     simp at hb;rcases hb with rfl|rfl|rfl|rfl|rfl
     ·exact Nat.le_add_right _ 4
     ·exact Nat.le_add_right _ 2
     ·exact Nat.le_add_right _ 3
     ·exact vT _
     ·exact Nat.le_add_right _ 1
    exact I1.fpOk AB (I1.hok.fresh AB)
   ·have x3:=(xt.trans uc).trans (Ext.laid (o:=.lst vs) uc.nh hS);have Kr:=il2.mono (Ext.laid (o:=.lst vs) uc.nh hS).bn;exact fin _ _ _ x3 (.lst (eP.of au) Kr) λ_=>⟨_,_,_,rfl,rfl,(xt.trans uc).hh.free hS,au,Kr⟩
end
end DL
namespace L2
open PySem PySem.Spec PyProof.Rows
theorem KV.get {aZ:List (iE×V)}{vs:List (iE×Value)}(r:KV aZ vs){i:Nat}{k:iE}{x:V}(h:aZ[i]? = some (k,x)):∃u,vs[i]? = some (k,u)/\aG x u:=by
 unfold KV at r;induction r generalizing i with
 |nil=>simp at h
 |@cons p q ps qs hq t ih=>
  cases i with
  |zero=>
   cases (show p=(k,x)from vK h)
   obtain⟨q1,q2⟩:=q;exact⟨q2,by rw[show k=q1 from hq.1];rfl,hq.2⟩
  |succ i=>exact ih h
end L2
namespace DL
open PySem PySem.Spec PyProof.Rows L2
@[simp] abbrev gn (i:Nat)(j:Int):FE:=f2 db (ag i) (fC (.int j))
theorem bU (F:Fn X.prog X.w X.K X.mg X.base k x f)(hr:dz j X.A)(ha:JA X (e::es) fa)(hj:k<=j:=by decide)(hg:Gl X x:=by rfl)(qC:(x == ("__debug__" : Str))=false:=by decide)(he:starEach (e::es) X.env=(false,eval e X.env)::starEach es X.env:=by rfl)(kz:(backTo pos (starEach es X.env)).any (·.1)=false:=by rfl):JE X (.Call (.Name x p) (e::es) [] pos) (fA f fa):=sG F (hr.mono hj) ha hg qC he kz
theorem EM (h1:∀y∈scope.names,y.2≠.cell:=by decide +kernel)(h2:scope.kind=.function:=by rfl)(h3:∀y∈scope.names,y.2=.local->scope.names.lookup y.1=some .local:=by decide +kernel)(Ib:(scope.names.all λy=>!(y.2 == NameKind.free) || (X.env.cells.lookup y.1).isSome)=true:=by rfl):CompSc X scope (cK scope.names X.env.cells []):=Cn h1 h2 h3 Ib
theorem Jo (h1:N'[j]? = some x)(h2:X.N[i]? = some x)(t:jv X N' scope (cK scope.names X.env.cells []) (j+1) r)(h3:X.env.kindOf x=some .cell∨X.env.kindOf x=some .free:=by exact Or.inl rfl)(h4:(relabel scope X.env).names.lookup x=some .cell∨(relabel scope X.env).names.lookup x=some .free:=by exact Or.inl rfl)(hf:(x,NameKind.free)∈scope.names:=by decide +kernel)(hc:(X.env.cells.lookup x).isSome=true:=by rfl):jv X N' scope (cK scope.names X.env.cells []) j (i::r):=.cons h1 h2 h3 h4 (z9 hf hc) t
end DL
namespace DL
open PySem PySem.Spec PySem.W PyProof.Rows L2
def Hv:D->Option (List At)
 |.tup [.int n,.tup es]=>(rH es).map (.i n :: ·)
 |_=>none
def Bg:List D->Option (List (List At))
 |[]=>some []
 |d::ds=>(Hv d).bind λa=>(Bg ds).map (a :: ·)
@[simp] abbrev Hw:FE->(Env->D->Option D)->FE:=xE Bg λ_=>true
end DL
namespace DL
open PySem PySem.Spec PyProof.Rows L2
def EN:Nat->(List Value->Prop)->Prop
 |0,P=>P []
 |n+1,P=>∀a,EN n λl=>P (a::l)
theorem CC:∀n P,EN n P->∀us:List Value,us.length=n->P us
 |0,_,h,[],_=>h
 |n+1,_,h,a::us,e=>CC n _ (h a) us (Nat.succ.inj e)
section
variable {P:Program}{w:World}{K:Frag}{mg:Str->Option Value}{base:Heap}
def KC (K:Frag)(mg:Str->Option Value)(x:Str)(c:D):Prop:=∃u v,mg x=some u/\aG v u/\∀B,Is K B v c
def KD (w:World)(K:Frag)(mg:Str->Option Value)(x:Str)(c:List (Str×D)):Prop:=∃d,mg x=some (.ref d)/\iV K w.params d c
theorem kc_of {x:Str}{c:D}{h:Heap}(X:K.In h)(G:h.Ns mainGlobals mg)(k:∃u v,nsIn K mainGlobals x=some (some u)/\aG v u/\∀B,Is K B v c):KC K mg x c:=let ⟨u,v,e,r⟩:=k;⟨u,v,mg_of X G e,r⟩
theorem kd_of {x:Str}{c:List (Str×D)}{h:Heap}(X:K.In h)(G:h.Ns mainGlobals mg)(k:∃d,nsIn K mainGlobals x=some (some (.ref d))/\iV K w.params d c):KD w K mg x c:=let ⟨d,e,r⟩:=k;⟨d,mg_of X G e,r⟩
theorem eJ.fqL {x:Str}{st:Stmt}{k:Nat}{F':List D->OB}(F:eJ K x st)(B:∃h,K.In h/\h.Ns mainGlobals mg)(g:FS)(N:List Str)(n:Nat)
  (hb:∀ {f:Addr}{cz:Value}{A:Around}{outer:List PySem.Env}{s:Shared}{H:Hp}{E:XK},N.Nodup->dz k (A.deeper (envOfC x (ay st) s.heap.objs.size f cz))->(A.deeper (envOfC x (ay st) s.heap.objs.size f cz)).units+40<cLine->(∀c P,PySem.W.tabIn K x=some (c,P)->cz=.ref c)->oI (jY qT P w K mg base N x (ay st) f cz A outer s H E).nox (bD st) g)
  (S:FnScope N (N.take n) (ay st):=by refine⟨rfl,rfl,rfl,?_,rfl,?_,?_⟩<;>decide +kernel)
  (ub:∀(kV doc pm:Value)(an:Option Addr)(cz ct:Value)(us:List Value),us.length=(N.take n).length->bindArgs (fnOf x x (cV st) (bD st) (ay st) .none kV doc pm an cz ct) ⟨us,[]⟩=pure ((N.take n).zip us):=by
   exact λ_ _ _ _ _ _=>CC _ _ (by(repeat intro);rfl))
  (e:aL g (N.take n).length (N.length - (N.take n).length)=F':=by rfl):
  Fn P w K mg base (k+1) x F':=let ⟨_,X,G⟩:=B;e ▸ F.fnL X G S ub λ_ _ _ _ _ _ _ hc hr=>hb S.nd hr (EA hr) hc
theorem eJ.fq {x:Str}{st:Stmt}{k:Nat}{F':List D->OB}(F:eJ K x st)(B:∃h,K.In h/\h.Ns mainGlobals mg)(g:FS)(N:List Str)(n:Nat)
  (hb:∀ {f:Addr}{cz:Value}{A:Around}{outer:List PySem.Env}{s:Shared}{H:Hp}{E:XK},N.Nodup->dz k (A.deeper (envOfC x (ay st) s.heap.objs.size f cz))->(A.deeper (envOfC x (ay st) s.heap.objs.size f cz)).units+40<cLine->oI (jY qT P w K mg base N x (ay st) f cz A outer s H E).nox (bD st) g)
  (S:FnScope N (N.take n) (ay st):=by refine⟨rfl,rfl,rfl,?_,rfl,?_,?_⟩<;>decide +kernel)
  (ub:∀(kV doc pm:Value)(an:Option Addr)(cz ct:Value)(us:List Value),us.length=(N.take n).length->bindArgs (fnOf x x (cV st) (bD st) (ay st) .none kV doc pm an cz ct) ⟨us,[]⟩=pure ((N.take n).zip us):=by
   exact λ_ _ _ _ _ _=>CC _ _ (by(repeat intro);rfl))
  (e:aL g (N.take n).length (N.length - (N.take n).length)=F':=by rfl):
  Fn P w K mg base (k+1) x F':=F.fqL B g N n (λn r u _=>hb n r u) S ub e
end
section
variable {X:Cx}{x:Str}{pos:Pos}
theorem yM (i:Nat)(hN:X.N.Nodup)(hi:X.N[i]? = some x:=by rfl)(hx:B6 X.env.scope x:=by first|exact Or.inl rfl|exact Or.inr rfl)(hf:X.fn x=true∨X.env.scope.names.lookup x=some .local:=by first|exact .inl rfl|exact .inr rfl):PG X (.Name x pos) (iI i):=sq hN hi hx hf
theorem D4 {fp}(i:Nat)(hN:N'.Nodup:=by decide +kernel)(hi:(eQ X N' scope cl C s H fp).N[i]? = some x:=by rfl)(hx:B6 (eQ X N' scope cl C s H fp).env.scope x:=by exact Or.inl rfl)(hf:(eQ X N' scope cl C s H fp).fn x=true∨(eQ X N' scope cl C s H fp).env.scope.names.lookup x=some .local:=by first|exact .inl rfl|exact .inr rfl):PG (eQ X N' scope cl C s H fp) (.Name x pos) (iI i):=sq hN hi hx hf
theorem jb (N':List Str)(hi:JI X tg bM fi)(hc:∀ {C s H fp},JC (eQ X N' scope (cK scope.names X.env.cells []) C s H fp) lR fc)(he:∀ {C s H fp},JE (eQ X N' scope (cK scope.names X.env.cells []) C s H fp) m4 fe)
  (y8:AS X.K nT kA g:=by first|exact oZ (by decide)|exact AZ (by decide)) (hg:∀ {C s H fp},PG (eQ X N' scope (cK scope.names X.env.cells []) C s H fp) tg g:=by intros;first|exact D4 0|exact nN rfl (cZ (D4 0) (cZ (D4 1) ko)))
  (cp:jv X N' scope (cK scope.names X.env.cells []) nT cap:=by repeat first|exact .nil rfl|refine Jo rfl rfl ?_)
  (S:CompSc X scope (cK scope.names X.env.cells []):=by exact EM) (gi:X.calm=true:=by rfl)
  (hs:∀x,foldedSetIterable bM X.env x=pure x:=by intro _;rfl):
  JE X (.ListComp m4 [⟨tg,bM,lR,0⟩] scope pos) (ca fi nT cap kA fc fe):=zG gi S cp hi (λ_ _ _ _=>hg) y8 (λ_ _ _ _=>hc) (λ_ _ _ _=>he) hs
theorem xN (N':List Str)(hN:X.N.Nodup)(hi:JI X tg bM fi)(hc:∀ {C s H fp},JC (eQ X N' scope (cK scope.names X.env.cells []) C s H fp) lR fc)(he:∀ {C s H fp},JE (eQ X N' scope (cK scope.names X.env.cells []) C s H fp) m4 fe)
  (y8:AS X.K nT kA g:=by first|exact oZ (by decide)|exact AZ (by decide)) (hg:∀ {C s H fp},PG (eQ X N' scope (cK scope.names X.env.cells []) C s H fp) tg g:=by intros;first|exact D4 0|exact nN rfl (cZ (D4 0) (cZ (D4 1) ko)))
  (cp:jv X N' scope (cK scope.names X.env.cells []) nT cap:=by repeat first|exact .nil rfl|refine Jo rfl rfl ?_)
  (Fy:X.N[i]? = some y:=by rfl) (hy:X.env.kindOf y=some .local:=by rfl)
  (A8:swapsWith (.ListComp m4 [⟨tg,bM,lR,0⟩] scope pos) (some (.Name y py)) spos.line X.env=pure true:=by rfl)
  (S:CompSc X scope (cK scope.names X.env.cells []):=by exact EM) (gi:X.calm=true:=by rfl)
  (hs:∀x,foldedSetIterable bM X.env x=pure x:=by intro _;rfl):
  JS X (.Assign [.Name y py] (.ListComp m4 [⟨tg,bM,lR,0⟩] scope pos) spos) (b8 i (ca fi nT cap kA fc fe)):=zH gi hN Fy hy A8 S cp hi (λ_ _ _ _=>hg) y8 (λ_ _ _ _=>hc) (λ_ _ _ _=>he) hs
theorem pQ (hi:JI X tg bM fi)(hg:PG X tg t)(ht:z7 X.K kA t)(hb:oI X body g)(hp:PassesOwn (model X.prog X.w) X.A X.env X.xe:=by exact PassesOwn.never)(hc:X.calm=true:=by rfl)
  (hs:∀x,foldedSetIterable bM X.env x=pure x:=by intro _;rfl):JS X (.For tg bM body [] pos) (iN fi kA g):=Cw hp hc hi hg ht hb hs
theorem xO (hi:PI X tg bM (Gh X.K fi))(hg:PG X tg t)(ht:z7 X.K kA t)(hb:oI X body g)(hp:PassesOwn (model X.prog X.w) X.A X.env X.xe:=by exact PassesOwn.never)(hc:X.calm=true:=by rfl)
  (hs:∀x,foldedSetIterable bM X.env x=pure x:=by intro _;rfl):JS X (.For tg bM body [] pos) (jJ fi kA g):=zM hp hc hi hg ht hb hs
end
@[simp] abbrev fV (i:Nat)(g:FA):FA:=ae (ag i) g
@[simp] abbrev fI (n:Int):FE:=fC (.int n)
@[simp] abbrev fS (s:PySem.Str):FE:=fC (.str s)
section
variable {X:Cx}{es:List Expr}{g:FA}{pos:Pos}
theorem aH {x:Str}{p:Pos}(i:Nat)(hr:JA X es g)(hN:X.N[i]? = some x:=by rfl)(hv:yE X.env.scope x:=by first|exact Or.inl rfl|exact Or.inr (Or.inl rfl)|exact Or.inr (Or.inr rfl))(hd:(x == ("__debug__" : Str))=false:=by decide)(jX:(x == ("__classdict__" : Str))=false:=by decide)
  (hs:starEach (.Name x p::es) X.env=(false,eval (.Name x p) X.env)::starEach es X.env:=by rfl):JA X (.Name x p::es) (fV i g):=aj (af i hN hv hd jX) hr hs
theorem eK {i:Int}{j:Nat}(hr:JA X es g):JA X (.Constant (.int i) j pos::es) (ae (fC (.int i)) g):=aj ak hr
theorem bi (F:Fn X.prog X.w X.K X.mg X.base k x f)(hr:dz j X.A)(ha:JA X (e::es) g:=by repeat first|exact ai|refine aH _ ?_|refine aj aA ?_)(hj:k<=j:=by decide)(hg:Gl X x:=by rfl)(qC:(x == ("__debug__" : Str))=false:=by decide)(he:starEach (e::es) X.env=(false,eval e X.env)::starEach es X.env:=by rfl)(kz:(backTo pos (starEach es X.env)).any (·.1)=false:=by rfl):JE X (.Call (.Name x p) (e::es) [] pos) (fA f g):=sG F (hr.mono hj) ha hg qC he kz
theorem bE (he:JE X e f):oI X [.Return (some e) pos] (aW f):=bu (wM he)
theorem bV {c:Expr}{fc:FT}(hc:JT X c fc)(he:JE X e f):JS X (.If c [.Return (some e) p] [] pos) (eL fc (aW f) aY):=gW hc (bu (wM he)) fQ
theorem bK (i:Nat)(hN:X.N[i]? = some x:=by rfl)(hv:yE X.env.scope x:=by first|exact Or.inl rfl|exact Or.inr (Or.inl rfl)|exact Or.inr (Or.inr rfl))(hd:(x == ("__debug__" : Str))=false:=by decide)(jX:(x == ("__classdict__" : Str))=false:=by decide):JE X (.Subscript (.Name x p) (.Constant (.int n) j q) pos) (gn i n):=cL (af i hN hv hd jX) ak
end
end DL
namespace TS
open PySem PyProof.Rows
noncomputable def bW:Bool->Keyed->Array Keyed->Nat->Nat->Nat->StateT SortSt Sem (Option Nat):=sortPriv% PySem.Builtin.gallop
noncomputable def Aa (left:Bool)(key:Keyed)(dv:Array Keyed)(base i:Nat):StateT SortSt Sem (Option Bool):=do
 let x ←elem' dv (base+i)
 if left then lt' x key else return (←lt' key x).map (!·)
theorem rM (left:Bool)(key:Keyed)(dv:Array Keyed)(base n hint:Nat):bW left key dv base n hint=(do
 let mut lastofs:=0
 let mut ofs:=1
 let mut lo:=0
 let mut hi:=0
 let some right ←Aa left key dv base hint|return none
 if right then
  let maxofs:=n - hint
  for _ in [0:n] do
   if ofs ≥ maxofs then break
   let some more ←Aa left key dv base (hint+ofs)|return none
   if !more then break
   lastofs:=ofs
   ofs:=2*ofs+1
  lo:=hint+lastofs+1
  hi:=hint+min ofs maxofs
 else
  let maxofs:=hint+1
  for _ in [0:n] do
   if ofs ≥ maxofs then break
   let some found ←Aa left key dv base (hint - ofs)|return none
   if found then break
   lastofs:=ofs
   ofs:=2*ofs+1
  lo:=hint+1 - min ofs maxofs
  hi:=hint - lastofs
 for _ in [0:n] do
  if lo ≥ hi then break
  let m:=lo+(hi - lo) / 2
  let some more ←Aa left key dv base m|return none
  if more then lo:=m+1 else hi:=m
 return some hi):=rfl
section
variable {prog:Program}{w:World}{A:Around}{E:Value->Shared->Prop}{s:Shared}
noncomputable def EO (left:Bool)(key:Keyed)(dv:Array Keyed)(base n lo₀ FK:Nat):StateT SortSt Sem (Option Nat):=do
 let mut lo:=lo₀
 let mut hi:=FK
 for _ in [0:n] do
  if lo ≥ hi then break
  let m:=lo+(hi - lo) / 2
  let some more ←Aa left key dv base m|return none
  if more then lo:=m+1 else hi:=m
 return some hi
variable {left:Bool}{key:Keyed}{dv:Array Keyed}{base n hint:Nat}{st:SortSt}{Q:Option Nat->SortSt->Prop}{P:Nat->Bool}
theorem pR (hb:∀i,i<n->∀Q:Option Bool->SortSt->Prop,Q (some (P i)) st->wpS (model prog w) A E s (Aa left key dv base i) Q st)
  (mono:∀i j,i<=j->j<n->P j=true->P i=true) {lo hi:Nat}(Mi:lo<=hi) (hn:hi<=n) (h1:∀i,i<lo->P i=true) (h2:∀i,hi<=i->i<n->P i=false)
  (h:∀k,k<=n->(∀i,i<k->P i=true)->(∀i,k<=i->i<n->P i=false)->Q (some k) st):wpS (model prog w) A E s (EO left key dv base n lo hi) Q st:=by
 unfold EO;refine wpS_bind (wpS_mono (wpS_forRange (I:=λx c ax=>ax=st/\∃l r,c=(none,l,r)/\l<=r/\r<=n/\r - l<=n - x/\(∀i,i<l->P i=true)/\(∀i,r<=i->i<n->P i=false))
  (Q:=λc ax=>ax=st/\∃l,c=(none,l,l)/\l<=n/\(∀i,i<l->P i=true)/\(∀i,l<=i->i<n->P i=false)) ?step ?fin ⟨rfl,lo,hi,rfl,Mi,hn,by omega,h1,h2⟩) ?post)
 case fin=>
  rintro c ax ⟨rfl,l,r,rfl,a1,a2,a3,a4,a5⟩
  have e:l=r:=by omega
  subst e
  exact⟨rfl,l,rfl,a2,a4,a5⟩
 case post=>
  rintro c ax ⟨rfl,l,rfl,a2,a4,a5⟩
  exact wpS_pure (h l a2 a4 a5)
 case step=>
  rintro x c ax _ hx ⟨rfl,l,r,rfl,a1,a2,a3,a4,a5⟩
  dsimp only
  by_cases hge:l ≥ r
  ·rw[if_pos hge]
   have e:l=r:=by omega
   subst e
   exact wpS_pure ⟨rfl,l,rfl,a2,a4,a5⟩
  ·rw[if_neg hge]
   refine wpS_bind (hb _ (by omega) _ ?_)
   dsimp only
   cases hp:P (l+(r - l) / 2) with
   |true=>
    rw[if_pos rfl]
    exact wpS_pure ⟨rfl,_,_,rfl,by omega,a2,by omega,λi hi=>mono i _ (by omega) (by omega) hp,a5⟩
   |false=>
    rw[if_neg (by decide)]
    refine wpS_pure ⟨rfl,_,_,rfl,by omega,by omega,by omega,a4,λi hi hn=>?_⟩
    cases hq:P i with
    |false=>rfl
    |true=>rw[mono _ i hi hn hq]at hp;cases hp
theorem lh (hb:∀i,i<n->∀Q:Option Bool->SortSt->Prop,Q (some (P i)) st->wpS (model prog w) A E s (Aa left key dv base i) Q st)
  (mono:∀i j,i<=j->j<n->P j=true->P i=true) (hh:hint<n)
  (h:∀k,k<=n->(∀i,i<k->P i=true)->(∀i,k<=i->i<n->P i=false)->Q (some k) st):wpS (model prog w) A E s (bW left key dv base n hint) Q st:=by
 have FL:∀i j,i<=j->j<n->P i=false->P j=false:=λi j hij hj hp=>by
  cases hq:P j with
  |false=>rfl
  |true=>rw[mono i j hij hj hq]at hp;cases hp
 rw[rM];refine wpS_bind (hb hint hh _ ?_);dsimp only;cases hr:P hint with
 |true=>
  rw[if_pos rfl];refine wpS_bind (wpS_mono (wpS_forRange (I:=λx c ax=>ax=st/\∃l o,c=(none,l,o)/\x+1<=o/\l<o/\l<n - hint/\P (hint+l)=true)
   (Q:=λc ax=>ax=st/\∃l o,c=(none,l,o)/\l<o/\l<n - hint/\P (hint+l)=true/\(o<n - hint->P (hint+o)=false)) ?step ?fin ⟨rfl,0,1,rfl,by omega,by omega,by omega,hr⟩) ?post)
  case fin=>
   rintro c ax ⟨rfl,l,o,rfl,a1,a2,a3,a4⟩
   exact⟨rfl,l,o,rfl,a2,a3,a4,λz=>by omega⟩
  case step=>
   rintro x c ax _ hx ⟨rfl,l,o,rfl,a1,a2,a3,a4⟩
   dsimp only
   by_cases hge:o ≥ n - hint
   ·rw[if_pos hge]
    exact wpS_pure ⟨rfl,l,o,rfl,a2,a3,a4,λz=>by omega⟩
   ·rw[if_neg hge]
    refine wpS_bind (hb _ (by omega) _ ?_)
    dsimp only
    cases hp:P (hint+o) with
    |true=>rw[if_neg (by decide)];exact wpS_pure ⟨rfl,o,_,rfl,by omega,by omega,by omega,hp⟩
    |false=>rw[if_pos (by decide)];exact wpS_pure ⟨rfl,l,o,rfl,a2,a3,a4,λ_=>hp⟩
  case post=>
   rintro c ax ⟨rfl,l,o,rfl,a2,a3,a4,a5⟩
   refine pR hb mono (lo:=hint+l+1) (hi:=hint+min o (n - hint)) (by omega) (by omega) (λi hi=>mono i _ (by omega) (by omega) a4) (λi hi hn=>?_) h
   exact FL (hint+o) i (by omega) hn (a5 (by omega))
 |false=>
  rw[if_neg (by decide)];refine wpS_bind (wpS_mono (wpS_forRange (I:=λx c ax=>ax=st/\∃l o,c=(none,l,o)/\x+1<=o/\l<o/\l<=hint/\P (hint - l)=false)
   (Q:=λc ax=>ax=st/\∃l o,c=(none,l,o)/\l<o/\l<=hint/\P (hint - l)=false/\(o<=hint->P (hint - o)=true)) ?step ?fin ⟨rfl,0,1,rfl,by omega,by omega,by omega,hr⟩) ?post)
  case fin=>
   rintro c ax ⟨rfl,l,o,rfl,a1,a2,a3,a4⟩
   exact⟨rfl,l,o,rfl,a2,a3,a4,λz=>by omega⟩
  case step=>
   rintro x c ax _ hx ⟨rfl,l,o,rfl,a1,a2,a3,a4⟩
   dsimp only
   by_cases hge:o ≥ hint+1
   ·rw[if_pos hge]
    exact wpS_pure ⟨rfl,l,o,rfl,a2,a3,a4,λz=>by omega⟩
   ·rw[if_neg hge]
    refine wpS_bind (hb _ (by omega) _ ?_)
    dsimp only
    cases hp:P (hint - o) with
    |true=>rw[if_pos rfl];exact wpS_pure ⟨rfl,l,o,rfl,a2,a3,a4,λ_=>hp⟩
    |false=>rw[if_neg (by decide)];exact wpS_pure ⟨rfl,o,_,rfl,by omega,by omega,by omega,hp⟩
  case post=>
   rintro c ax ⟨rfl,l,o,rfl,a2,a3,a4,a5⟩
   refine pR hb mono (lo:=hint+1 - min o (hint+1)) (hi:=hint - l) (by omega) (by omega) (λi hi=>?_) (λi hi hn=>FL (hint - l) i (by omega) hn a4) h
   exact mono i (hint - o) (by omega) (by omega) (a5 (by omega))
end
noncomputable def bF:Nat->StateT SortSt Sem Unit:=sortPriv% PySem.Builtin.setMinGallop
noncomputable def li:Array Keyed->Array Keyed->StateT SortSt Sem (Array Keyed):=sortPriv% PySem.Builtin.mergeLo
theorem cr (g:Nat):bF g=modify λs=>SortSt.mk' (kindOf s) (arrOf s) (pendingOf s) g (failedOf s):=rfl
theorem pS (a b:Array Keyed):li a b=(do
 rule "list.sort.merge-lo"
 let total:=a.size+b.size
 let done (out:Array Keyed) (ia ib:Nat):=out++a.extract ia a.size++b.extract ib b.size
 let lastOfA (out:Array Keyed) (ia ib:Nat):=out++b.extract ib b.size++a.extract ia a.size
 let mut out:Array Keyed:=#[←elem' b 0]
 let mut ia:=0
 let mut ib:=1
 if ib == b.size then return done out ia ib
 if ia+1 == a.size then return lastOfA out ia ib
 let mut minGallop:=gallopOf (←get)
 for _ in [0:total] do
  let mut acount:=0
  let mut bcount:=0
  for _ in [0:total] do
   let some bWins ←lt' (←elem' b ib) (←elem' a ia)|return done out ia ib
   if bWins then
    out:=out.push (←elem' b ib);ib:=ib+1;bcount:=bcount+1;acount:=0
    if ib == b.size then return done out ia ib
    if bcount ≥ minGallop then break
   else
    out:=out.push (←elem' a ia);ia:=ia+1;acount:=acount+1;bcount:=0
    if ia+1 == a.size then return lastOfA out ia ib
    if acount ≥ minGallop then break
  rule "list.sort.gallop"
  minGallop:=minGallop+1
  for _ in [0:total] do
   if minGallop > 1 then minGallop:=minGallop - 1
   bF minGallop
   let some k ←bW false (←elem' b ib) a ia (a.size - ia) 0|return done out ia ib
   acount:=k
   if k > 0 then
    out:=out++a.extract ia (ia+k);ia:=ia+k
    if ia+1 == a.size then return lastOfA out ia ib
    if ia == a.size then return done out ia ib
   out:=out.push (←elem' b ib);ib:=ib+1
   if ib == b.size then return done out ia ib
   let some k ←bW true (←elem' a ia) b ib (b.size - ib) 0|return done out ia ib
   bcount:=k
   if k > 0 then
    out:=out++b.extract ib (ib+k);ib:=ib+k
    if ib == b.size then return done out ia ib
   out:=out.push (←elem' a ia);ia:=ia+1
   if ia+1 == a.size then return lastOfA out ia ib
   if acount<7 && bcount<7 then break
  minGallop:=minGallop+1
  bF minGallop
 unsupported "internal:list.sort.merge-bound"):=rfl
noncomputable abbrev key (p:Keyed):Int:=numOf p.1
def le (p q:Keyed):Prop:=key p<=key q
def lj (l:List Keyed):Prop:=∀p∈l,∃n t,p.1=.int n t
variable {R:Keyed->Keyed->Prop}
structure MI (R:Keyed->Keyed->Prop)(A B o A' B':List Keyed):Prop where
 pm:(o++A'++B').Perm (A++B)
 s1:(o++A').Pairwise R
 s2:(o++B').Pairwise R
theorem MI.a {A B o x A' B':List Keyed}(h:MI R A B o (x++A') B')(hl:∀p∈x,∀q∈B',R p q):MI R A B (o++x) A' B':=by
 refine⟨by simpa using h.pm,by simpa using h.s1,?_⟩;have s1:=h.s1;have s2:=h.s2;rw[←List.append_assoc]at s1;refine List.pairwise_append.mpr ⟨(List.pairwise_append.mp s1).1,(List.pairwise_append.mp s2).2.1,λp hp q hq=>?_⟩;rcases List.mem_append.mp hp with hp|hp
 ·exact(List.pairwise_append.mp s2).2.2 p hp q hq
 ·exact hl p hp q hq
theorem MI.swap {A B o A' B':List Keyed}(h:MI R A B o A' B'):MI R B A o B' A' :=
 ⟨by
  have:(o++B'++A').Perm (o++A'++B'):=by
   rw[List.append_assoc,List.append_assoc];exact List.Perm.append_left _ List.perm_append_comm
  exact this.trans (h.pm.trans List.perm_append_comm),h.s2,h.s1⟩
theorem MI.b {A B o x A' B':List Keyed}(h:MI R A B o A' (x++B'))(hl:∀p∈x,∀q∈A',R p q):MI R A B (o++x) A' B':=(h.swap.a hl).swap
def Mg (R:Keyed->Keyed->Prop)(A B r:List Keyed):Prop:=r.Perm (A++B)/\r.Pairwise R
theorem MI.doneB {A B o A':List Keyed}(h:MI R A B o A' []):Mg R A B (o++A'):=⟨by simpa using h.pm,h.s1⟩
theorem MI.doneA {A B o B':List Keyed}(h:MI R A B o [] B'):Mg R A B (o++B'):=⟨by simpa using h.pm,h.s2⟩
theorem MI.last {A B o B':List Keyed}{x:Keyed}(h:MI R A B o [x] B')(hl:∀p∈B',R p x):Mg R A B (o++B'++[x]):=by
 have:=(show MI R A B o [x] (B'++[]) by simpa using h).b λp hp q hq=>by simp at hq;subst hq;exact hl p hp
 exact this.doneB
theorem jc {a:Array Keyed}{i k:Nat}{p:Keyed}(h:p∈(a.toList.drop i).take k):∃j,i<=j/\j<i+k/\j<a.size/\key p=K a j:=by
 obtain⟨j,hj,e⟩:=List.mem_iff_getElem.mp h;rw[List.length_take,List.length_drop,vF]at hj;rw[List.getElem_take,List.getElem_drop]at e;refine⟨i+j,by omega,by omega,by omega,?_⟩;rw[K_eq (by omega)];subst e;rfl
theorem ll {a:Array Keyed}{i:Nat}{p:Keyed}(h:p∈a.toList.drop i):∃j,i<=j/\j<a.size/\key p=K a j:=by
 obtain⟨j,hj,e⟩:=List.mem_iff_getElem.mp h;rw[List.length_drop,vF]at hj;rw[List.getElem_drop]at e;refine⟨i+j,by omega,by omega,?_⟩;rw[K_eq (by omega)];subst e;rfl
theorem dw (a:Array Keyed)(i j:Nat):(a.extract i j).toList=(a.toList.drop i).take (j - i):=by
 rw[Array.toList_extract,List.extract_eq_take_drop]
theorem gJ (a:Array Keyed)(i:Nat):(a.extract i a.size).toList=a.toList.drop i:=by
 rw[dw,List.take_of_length_le];rw[List.length_drop,vF];exact vT _
theorem ku {a:Array Keyed}{i:Nat}(h:i<a.size):a.toList.drop i=[a[i]]++a.toList.drop (i+1):=by
 rw[List.drop_eq_getElem_cons (by simpa using h)];simp
theorem lm (a:Array Keyed)(i k:Nat):a.toList.drop i=(a.toList.drop i).take k++a.toList.drop (i+k):=by
 rw[←List.drop_drop,List.take_append_drop]
def jN (a:Array Keyed):Prop:=∀i j,i<=j->j<a.size->K a i<=K a j
def Sm (st ax:SortSt):Prop:=kindOf ax=oneType'/\arrOf ax=arrOf st/\pendingOf ax=pendingOf st/\failedOf ax=failedOf st
section
variable {prog:Program}{w:World}{A:Around}{E:Value->Shared->Prop}{s:Shared}{st:SortSt}
theorem o0 {x y:Keyed}{Q:Option Bool->SortSt->Prop}(hk:kindOf st=oneType')(hx:∃n t,x.1=.int n t)(hy:∃n t,y.1=.int n t)(h:Q (some (decide (key x<key y))) st):wpS (model prog w) A E s (lt' x y) Q st:=by
 obtain⟨a,t,e1⟩:=hx;obtain⟨b,u,e2⟩:=hy;rw[lt'_eq];refine wpS_bind (wpS_get ?_);rw[hk,keyLt'_oneType,e1,e2];refine wpS_bind (wpS_lift (wpAny_attempt (oneLt_int ⟨rfl,?_⟩)));refine wpS_pure ?_;have:key x=a:=by show numOf x.1=a;rw[e1];rfl
 have h2:key y=b:=by show numOf y.1=b;rw[e2];rfl
 rw[this,h2]at h;exact h
theorem aN {dv:Array Keyed}{i:Nat}{Q:Keyed->SortSt->Prop}(h:i<dv.size)(hq:Q dv[i] st):wpS (model prog w) A E s (elem' dv i) Q st:=by
 rw[elem'_eq,getElem?_pos dv i h];exact wpS_pure hq
theorem lj.at {a:Array Keyed}(h:lj a.toList){i:Nat}(hi:i<a.size):∃n t,a[i].1=.int n t:=h _ (by simp)
theorem ln {x:Keyed}{dv:Array Keyed}{base n hint:Nat}{Q:Option Nat->SortSt->Prop}(hk:kindOf st=oneType')(hx:∃n t,x.1=.int n t)(hi:lj dv.toList)(hs:∀i j,i<=j->j<n->K dv (base+i)<=K dv (base+j))(hn:base+n<=dv.size)(hh:hint<n)
  (h:∀k,k<=n->(∀i,i<k->K dv (base+i)<key x)->(∀i,k<=i->i<n->key x<=K dv (base+i))->Q (some k) st):wpS (model prog w) A E s (bW true x dv base n hint) Q st:=by
 refine lh (P:=λi=>decide (K dv (base+i)<key x)) (λi Dj Q hq=>?_) (λi j hij hj hp=>?_) hh λk h1 h2 h3=>h k h1 (λi hi=>by simpa using h2 i hi) λi hi hj=>by simpa using h3 i hi hj
 ·unfold Aa;refine wpS_bind (aN (by omega) ?_);rw[if_pos rfl];refine o0 hk (hi.at (by omega)) hx ?_;show Q (some (decide (numOf _<_))) st;rw[←K_eq];exact hq
 ·simp only[decide_eq_true_eq]at hp ⊢;exact Int.lt_of_le_of_lt (hs i j hij hj) hp
theorem lq {x:Keyed}{dv:Array Keyed}{base n hint:Nat}{Q:Option Nat->SortSt->Prop}(hk:kindOf st=oneType')(hx:∃n t,x.1=.int n t)(hi:lj dv.toList)(hs:∀i j,i<=j->j<n->K dv (base+i)<=K dv (base+j))(hn:base+n<=dv.size)(hh:hint<n)
  (h:∀k,k<=n->(∀i,i<k->K dv (base+i)<=key x)->(∀i,k<=i->i<n->key x<K dv (base+i))->Q (some k) st):wpS (model prog w) A E s (bW false x dv base n hint) Q st:=by
 refine lh (P:=λi=>!decide (key x<K dv (base+i))) (λi Dj Q hq=>?_) (λi j hij hj hp=>?_) hh λk h1 h2 h3=>h k h1 (λi hi=>by simpa using h2 i hi) λi hi hj=>by simpa using h3 i hi hj
 ·unfold Aa;refine wpS_bind (aN (by omega) ?_);rw[if_neg (by decide)];refine wpS_bind (o0 hk hx (hi.at (by omega)) (wpS_pure ?_));show Q (some (!decide (_<numOf _))) st;rw[←K_eq];exact hq
 ·simp only[Bool.not_eq_true',decide_eq_false_iff_not]at hp ⊢;exact λz=>hp (Int.lt_of_lt_of_le z (hs i j hij hj))
end
abbrev M:=StateT SortSt Sem
abbrev T2:=Option (Array Keyed)×Array Keyed×Nat×Nat×Nat×Nat×Nat
abbrev T1:=Option (Array Keyed)×Array Keyed×Nat×Nat×Nat×Nat
noncomputable def dn (a b out:Array Keyed)(ia ib:Nat):Array Keyed:=out++a.extract ia a.size++b.extract ib b.size
noncomputable def lastA (a b out:Array Keyed)(ia ib:Nat):Array Keyed:=out++b.extract ib b.size++a.extract ia a.size
def Go (a b out:Array Keyed)(ia ib mg ac bc:Nat):M (ForInStep T2):=do
 let x ←elem' a ia
 if(ia+1+1 == a.size)=true then pure (.done (some (lastA a b (out.push x) (ia+1) ib),out.push x,ia+1,ib,mg,ac,bc))
 else if(decide (ac<7) && decide (bc<7))=true then pure (.done (none,out.push x,ia+1,ib,mg,ac,bc))
 else pure (.yield (none,out.push x,ia+1,ib,mg,ac,bc))
def Gp (a b out:Array Keyed)(ia ib mg ac bc:Nat):M (ForInStep T2):=do
 let x ←elem' b ib
 if(ib+1 == b.size)=true then pure (.done (some (dn a b (out.push x) ia (ib+1)),out.push x,ia,ib+1,mg,ac,bc))
 else do
  let some k ←bW true (←elem' a ia) b (ib+1) (b.size - (ib+1)) 0|pure (.done (some (dn a b (out.push x) ia (ib+1)),out.push x,ia,ib+1,mg,ac,bc))
  if k > 0 then
   if(ib+1+k == b.size)=true then pure (.done (some (dn a b (out.push x++b.extract (ib+1) (ib+1+k)) ia (ib+1+k)),out.push x++b.extract (ib+1) (ib+1+k),ia,ib+1+k,mg,ac,k))
   else Go a b (out.push x++b.extract (ib+1) (ib+1+k)) ia (ib+1+k) mg ac k
  else Go a b (out.push x) ia (ib+1) mg ac k
def Gq (a b out:Array Keyed)(ia ib mg ac bc:Nat):M (ForInStep T2):=do
 bF mg
 let some k ←bW false (←elem' b ib) a ia (a.size - ia) 0|pure (.done (some (dn a b out ia ib),out,ia,ib,mg,ac,bc))
 if k > 0 then
  if(ia+k+1 == a.size)=true then pure (.done (some (lastA a b (out++a.extract ia (ia+k)) (ia+k) ib),out++a.extract ia (ia+k),ia+k,ib,mg,k,bc))
  else if(ia+k == a.size)=true then pure (.done (some (dn a b (out++a.extract ia (ia+k)) (ia+k) ib),out++a.extract ia (ia+k),ia+k,ib,mg,k,bc))
  else Gp a b (out++a.extract ia (ia+k)) (ia+k) ib mg k bc
 else Gp a b out ia ib mg k bc
def Hx (a b:Array Keyed)(mg:Nat)(c:T1):M (ForInStep T1):=do
 let some w ←lt' (←elem' b c.2.2.2.1) (←elem' a c.2.2.1)|pure (.done (some (dn a b c.2.1 c.2.2.1 c.2.2.2.1),c.2))
 if w then do
  let x ←elem' b c.2.2.2.1
  if(c.2.2.2.1+1 == b.size)=true then pure (.done (some (dn a b (c.2.1.push x) c.2.2.1 (c.2.2.2.1+1)),c.2.1.push x,c.2.2.1,c.2.2.2.1+1,0,c.2.2.2.2.2+1))
  else if c.2.2.2.2.2+1 ≥ mg then pure (.done (none,c.2.1.push x,c.2.2.1,c.2.2.2.1+1,0,c.2.2.2.2.2+1))
  else pure (.yield (none,c.2.1.push x,c.2.2.1,c.2.2.2.1+1,0,c.2.2.2.2.2+1))
 else do
  let x ←elem' a c.2.2.1
  if(c.2.2.1+1+1 == a.size)=true then pure (.done (some (lastA a b (c.2.1.push x) (c.2.2.1+1) c.2.2.2.1),c.2.1.push x,c.2.2.1+1,c.2.2.2.1,c.2.2.2.2.1+1,0))
  else if c.2.2.2.2.1+1 ≥ mg then pure (.done (none,c.2.1.push x,c.2.2.1+1,c.2.2.2.1,c.2.2.2.2.1+1,0))
  else pure (.yield (none,c.2.1.push x,c.2.2.1+1,c.2.2.2.1,c.2.2.2.2.1+1,0))
structure Lo (a b:Array Keyed):Prop where
 ia:lj a.toList
 ib:lj b.toList
 sa:jN a
 sb:jN b
 last:∀j,j<b.size->K b j<=K a (a.size - 1)
def LI (a b out:Array Keyed)(ia ib:Nat):Prop:=MI le a.toList b.toList out.toList (a.toList.drop ia) (b.toList.drop ib)
abbrev mw (a b r:Array Keyed):Prop:=Mg le a.toList b.toList r.toList
section
variable {a b out:Array Keyed}{ia ib k:Nat}
theorem LI.takeA (h:LI a b out ia ib){x:Int}(h1:∀i,i<k->K a (ia+i)<=x)(h2:∀j,ib<=j->j<b.size->x<=K b j):LI a b (out++a.extract ia (ia+k)) (ia+k) ib:=by
 unfold LI at h ⊢;rw[lm a ia k]at h;rw[Array.toList_append,dw,Nat.add_sub_cancel_left];refine h.a λp hp q hq=>?_;obtain⟨j,j1,j2,_,e⟩:=jc hp;obtain⟨i,i1,i2,e2⟩:=ll hq;show key p<=key q;rw[e,e2];have:=h1 (j - ia) (by omega);rw[show ia+(j - ia)=j by omega]at this;exact Int.le_trans this (h2 i i1 i2)
theorem LI.swap (h:LI a b out ia ib):LI b a out ib ia:=MI.swap h
theorem LI.takeB (h:LI a b out ia ib){x:Int}(h1:∀i,i<k->K b (ib+i)<=x)(h2:∀j,ia<=j->j<a.size->x<=K a j):LI a b (out++b.extract ib (ib+k)) ia (ib+k):=(h.swap.takeA h1 h2).swap
theorem xP (out a:Array Keyed)(h:ia<a.size):out.push a[ia]=out++a.extract ia (ia+1):=by
 apply Array.ext';rw[Array.toList_push,Array.toList_append,dw,Nat.add_sub_cancel_left,ku h];rfl
theorem LI.pushA (h:LI a b out ia ib)(hi:ia<a.size)(h2:∀j,ib<=j->j<b.size->K a ia<=K b j):LI a b (out.push a[ia]) (ia+1) ib:=by
 rw[xP out a hi];exact h.takeA (λi hi=>by rw[show ia+i=ia by omega];exact Int.le_refl _) h2
theorem LI.pushB (h:LI a b out ia ib)(hi:ib<b.size)(h2:∀j,ia<=j->j<a.size->K b ib<=K a j):LI a b (out.push b[ib]) ia (ib+1):=(h.swap.pushA hi h2).swap
theorem LI.dnB (h:LI a b out ia ib)(e:ib=b.size):mw a b (dn a b out ia ib):=by
 unfold LI at h;unfold mw dn;rw[Array.toList_append,Array.toList_append,gJ,gJ];have z:b.toList.drop ib=[]:=List.drop_eq_nil_of_le (by simp[e]);rw[z]at h ⊢;rw[uQ];exact h.doneB
theorem LI.dnA (h:LI a b out ia ib)(e:ia=a.size):mw a b (dn a b out ia ib):=by
 unfold LI at h;unfold mw dn;rw[Array.toList_append,Array.toList_append,gJ,gJ];have z:a.toList.drop ia=[]:=List.drop_eq_nil_of_le (by simp[e]);rw[z]at h ⊢;rw[uQ];exact h.doneA
theorem LI.lastA (h:LI a b out ia ib)(e:ia+1=a.size)(L:Lo a b):mw a b (lastA a b out ia ib):=by
 unfold LI at h;unfold mw TS.lastA;rw[Array.toList_append,Array.toList_append,gJ,gJ];have z:a.toList.drop ia=[a[ia]]:=by rw[ku (by omega),List.drop_eq_nil_of_le (by simp;omega),uQ]
 rw[z]at h ⊢;refine h.last λp hp=>?_;obtain⟨j,_,j2,e2⟩:=ll hp;show key p<=key _;rw[e2];have:=L.last j j2;rw[show a.size - 1=ia by omega,K_eq (xs:=a) (i:=ia) (by omega)]at this;exact this
end
def P2 (a b:Array Keyed)(st:SortSt)(n:Nat)(c:T2)(ax:SortSt):Prop:=Sm st ax/\match c.1 with
 |some r=>mw a b r
 |none=>LI a b c.2.1 c.2.2.1 c.2.2.2.1/\c.2.2.1+1<a.size/\c.2.2.2.1<b.size/\n<=c.2.2.1+c.2.2.2.1
def P1 (a b:Array Keyed)(st:SortSt)(n:Nat)(c:T1)(ax:SortSt):Prop:=Sm st ax/\match c.1 with
 |some r=>mw a b r
 |none=>LI a b c.2.1 c.2.2.1 c.2.2.2.1/\c.2.2.1+1<a.size/\c.2.2.2.1<b.size/\n<=c.2.2.1+c.2.2.2.1
section
variable {prog:Program}{w:World}{A:Around}{E:Value->Shared->Prop}{s:Shared}{a b out:Array Keyed}{ia ib mg ac bc n:Nat}{st ax:SortSt}
theorem tx (L:Lo a b)(h:LI a b out ia ib)(h1:ia+1<a.size)(h2:ib<b.size)(hx:∀j,ib<=j->j<b.size->K a ia<=K b j)(hs:Sm st ax)(hn:n<=ia+ib):
  wpS (model prog w) A E s (Go a b out ia ib mg ac bc) (λr t=>match r with|.done c=>P2 a b st n c t|.yield c=>c.1=none/\P2 a b st n c t) ax:=by
 unfold Go;refine wpS_bind (aN (by omega) ?_);have h':=h.pushA (by omega) hx;by_cases e:ia+1+1=a.size
 ·rw[if_pos (by simpa using e)];exact wpS_pure ⟨hs,h'.lastA e L⟩
 ·rw[if_neg (by simpa using e)];split
  ·exact wpS_pure ⟨hs,h',by show ia+1+1<_;omega,h2,by show n<=ia+1+ib;omega⟩
  ·exact wpS_pure ⟨rfl,hs,h',by show ia+1+1<_;omega,h2,by show n<=ia+1+ib;omega⟩
theorem t6 (L:Lo a b)(h:LI a b out ia ib)(h1:ia+1<a.size)(h2:ib<b.size)(hx:∀j,ia<=j->j<a.size->K b ib<=K a j)(hs:Sm st ax)(hn:n<=ia+ib):
  wpS (model prog w) A E s (Gp a b out ia ib mg ac bc) (λr t=>match r with|.done c=>P2 a b st n c t|.yield c=>c.1=none/\P2 a b st n c t) ax:=by
 unfold Gp;refine wpS_bind (aN h2 ?_);have h':=h.pushB h2 hx;by_cases e:ib+1=b.size
 ·rw[if_pos (by simpa using e)];exact wpS_pure ⟨hs,h'.dnB e⟩
 ·rw[if_neg (by simpa using e)];refine wpS_bind (aN (by omega) (wpS_bind (ln hs.1 (L.ia.at (by omega)) L.ib (λi j hij hj=>L.sb _ _ (by omega) (by omega)) (by omega) (by omega) λk k1 k2 k3=>?_)));have ek:key a[ia]=K a ia:=(K_eq (by omega)).symm;rw[ek]at k2 k3;dsimp only;by_cases k0:k > 0
  ·rw[if_pos k0];have DH:=h'.takeB (k:=k) (λi hi=>Int.le_of_lt (k2 i hi)) (λj hj hz=>L.sa _ _ hj hz);by_cases e2:ib+1+k=b.size
   ·rw[if_pos (by simpa using e2)];exact wpS_pure ⟨hs,DH.dnB e2⟩
   ·rw[if_neg (by simpa using e2)];refine tx L DH h1 (by omega) (λj j1 j2=>?_) hs (by omega);have:=k3 (j - (ib+1)) (by omega) (by omega);rwa [show ib+1+(j - (ib+1))=j by omega]at this
  ·rw[if_neg k0];refine tx L h' h1 (by omega) (λj j1 j2=>?_) hs (by omega);have:=k3 (j - (ib+1)) (by omega) (by omega);rwa [show ib+1+(j - (ib+1))=j by omega]at this
theorem Sm.gal (h:Sm st ax)(g:Nat):Sm st (SortSt.mk' (kindOf ax) (arrOf ax) (pendingOf ax) g (failedOf ax)):=h
theorem t7 (L:Lo a b)(h:LI a b out ia ib)(h1:ia+1<a.size)(h2:ib<b.size)(hs:Sm st ax)(hn:n<=ia+ib):
  wpS (model prog w) A E s (Gq a b out ia ib mg ac bc) (λr t=>match r with|.done c=>P2 a b st n c t|.yield c=>c.1=none/\P2 a b st n c t) ax:=by
 unfold Gq;rw[cr];refine wpS_bind (wpS_modify ?_);replace hs:=hs.gal mg;refine wpS_bind (aN h2 (wpS_bind (lq hs.1 (L.ib.at h2) L.ia (λi j hij hj=>L.sa _ _ (by omega) (by omega)) (by omega) (by omega) λk k1 k2 k3=>?_)));have ek:key b[ib]=K b ib:=(K_eq h2).symm;rw[ek]at k2 k3;have Ks:∀j,ia+k<=j->j<a.size->K b ib<=K a j:=λj j1 j2=>by
  have:=k3 (j - ia) (by omega) (by omega);rw[show ia+(j - ia)=j by omega]at this;exact Int.le_of_lt this
 dsimp only;by_cases k0:k > 0
 ·rw[if_pos k0];have h':=h.takeA (k:=k) k2 (λj j1 j2=>L.sb _ _ j1 j2);by_cases e:ia+k+1=a.size
  ·rw[if_pos (by simpa using e)];exact wpS_pure ⟨hs,h'.lastA e L⟩
  ·rw[if_neg (by simpa using e)];by_cases e2:ia+k=a.size
   ·rw[if_pos (by simpa using e2)];exact wpS_pure ⟨hs,h'.dnA e2⟩
   ·rw[if_neg (by simpa using e2)];exact t6 L h' (by omega) h2 Ks hs (by omega)
 ·rw[if_neg k0];obtain rfl:k=0:=by omega
  exact t6 L h h1 h2 Ks hs (by omega)
theorem Ab (L:Lo a b)(h:LI a b out ia ib)(h1:ia+1<a.size)(h2:ib<b.size)(hs:Sm st ax)(hn:n<=ia+ib):
  wpS (model prog w) A E s (Hx a b mg (none,out,ia,ib,ac,bc)) (λr t=>match r with|.done c=>P1 a b st (n+1) c t|.yield c=>c.1=none/\P1 a b st (n+1) c t) ax:=by
 unfold Hx;dsimp only;refine wpS_bind (aN h2 (wpS_bind (aN (by omega) (wpS_bind (o0 hs.1 (L.ib.at h2) (L.ia.at (by omega)) ?_)))));have e1:key b[ib]=K b ib:=(K_eq h2).symm;have e2:key a[ia]=K a ia:=(K_eq (by omega)).symm;dsimp only;rw[e1,e2];by_cases c:K b ib<K a ia
 ·rw[if_pos (by simpa using c)];refine wpS_bind (aN h2 ?_);have h':=h.pushB h2 λj j1 j2=>Int.le_trans (Int.le_of_lt c) (L.sa _ _ j1 j2);by_cases e:ib+1=b.size
  ·rw[if_pos (by simpa using e)];exact wpS_pure ⟨hs,h'.dnB e⟩
  ·rw[if_neg (by simpa using e)];split
   ·exact wpS_pure ⟨hs,h',h1,by show ib+1<_;omega,by show n+1<=ia+(ib+1);omega⟩
   ·exact wpS_pure ⟨rfl,hs,h',h1,by show ib+1<_;omega,by show n+1<=ia+(ib+1);omega⟩
 ·rw[if_neg (by simpa using c)];refine wpS_bind (aN (by omega) ?_);have h':=h.pushA (by omega) λj j1 j2=>Int.le_trans (Int.not_lt.mp c) (L.sb _ _ j1 j2);by_cases e:ia+1+1=a.size
  ·rw[if_pos (by simpa using e)];exact wpS_pure ⟨hs,h'.lastA e L⟩
  ·rw[if_neg (by simpa using e)];split
   ·exact wpS_pure ⟨hs,h',by show ia+1+1<_;omega,h2,by show n+1<=ia+1+ib;omega⟩
   ·exact wpS_pure ⟨rfl,hs,h',by show ia+1+1<_;omega,h2,by show n+1<=ia+1+ib;omega⟩
theorem pT {Q:Array Keyed->SortSt->Prop}(L:Lo a b)(ha:0<a.size)(hb:0<b.size)(h0:K b 0<=K a 0)(hs:Sm st st)(h:∀r t,mw a b r->Sm st t->Q r t):wpS (model prog w) A E s (li a b) Q st:=by
 rw[pS];refine wpS_bind (wpS_lift (wpAny_rule ⟨rfl,?_⟩));refine wpS_bind (aN hb ?_);have l0:LI a b #[] 0 0:=⟨by simp,by
  show(a.toList).Pairwise le;rw[List.pairwise_iff_getElem];intro i j hi hj hij;have:=L.sa i j (by omega) (by simpa using hj);rw[K_eq (by simpa using hi),K_eq (by simpa using hj)]at this;simpa [le]using this,by
  show(b.toList).Pairwise le;rw[List.pairwise_iff_getElem];intro i j hi hj hij;have:=L.sb i j (by omega) (by simpa using hj);rw[K_eq (by simpa using hi),K_eq (by simpa using hj)]at this;simpa [le]using this⟩
 have l1:LI a b #[b[0]] 0 1:=l0.pushB hb λj _ j2=>Int.le_trans h0 (L.sa 0 j (by omega) j2);by_cases e1:1=b.size
 ·rw[if_pos (by simpa using e1)];exact wpS_pure (h _ _ (l1.dnB e1) hs)
 rw[if_neg (by simpa using e1)];by_cases e2:0+1=a.size
 ·rw[if_pos (by simpa using e2)];exact wpS_pure (h _ _ (l1.lastA e2 L) hs)
 rw[if_neg (by simpa using e2)];refine wpS_bind (wpS_get ?_);refine wpS_bind (wpS_mono (wpS_forRange (I:=λx c ax=>c.1=none/\Sm st ax/\LI a b c.2.1 c.2.2.1 c.2.2.2.1/\c.2.2.1+1<a.size/\c.2.2.2.1<b.size/\x<=c.2.2.1+c.2.2.2.1)
  (Q:=λc ax=>Sm st ax/\∃r,c.1=some r/\mw a b r) ?step ?fin ⟨rfl,hs,l1,by show 0+1<_;omega,by show 1<_;omega,by show 0<=_;omega⟩) ?post)
 case fin=>
  rintro⟨c,out,ia,ib,mg⟩ ax ⟨rfl,_,_,h1,h2,h3⟩
  dsimp only at h1 h2 h3
  omega
 case post=>
  rintro⟨c,out,ia,ib,mg⟩ ax ⟨gT,r,rfl,hr⟩
  exact wpS_pure (h _ _ hr gT)
 case step=>
  rintro x ⟨c,out,ia,ib,mg⟩ ax _ hx ⟨rfl,jH,l2,h1,h2,h3⟩
  dsimp only at l2 h1 h2 h3
  refine wpS_bind (wpS_mono (wpS_forRange (I:=λy c ax=>c.1=none/\P1 a b st (x+y) c ax) (Q:=λc ax=>P1 a b st (x+1) c ax) ?step1 ?fin1 ⟨rfl,jH,l2,h1,h2,h3⟩) ?post1)
  case fin1=>
   rintro⟨c,out,ia,ib,ac,bc⟩ ax ⟨rfl,_,_,h1,h2,h3⟩
   dsimp only at h1 h2 h3
   omega
  case step1=>
   rintro y ⟨c,out,ia,ib,ac,bc⟩ ax _ hy ⟨rfl,jH,l2,h1,h2,h3⟩
   show wpS _ _ _ _ (Hx a b mg (none,out,ia,ib,ac,bc)) _ _
   refine wpS_mono (Ab L l2 h1 h2 jH h3) λr t hr=>?_
   cases r with
   |yield c=>exact hr
   |done c=>
    obtain⟨c1,c2⟩:=c
    cases c1 with
    |some r=>exact hr
    |none=>
     obtain⟨r1,r2,r3,r4,r5⟩:=hr
     exact⟨r1,r2,r3,r4,by dsimp only at r5 ⊢;omega⟩
  case post1=>
   rintro⟨c,out,ia,ib,ac,bc⟩ ax ⟨jH,hp⟩
   cases c with
   |some r=>exact wpS_pure ⟨jH,r,rfl,hp⟩
   |none=>
    dsimp -zeta only
    refine wpS_bind (wpS_lift (wpAny_rule ⟨rfl,?_⟩))
    refine wpS_bind (wpS_mono (wpS_forRange (I:=λy c ax=>c.1=none/\P2 a b st (x+1) c ax) (Q:=λc ax=>P2 a b st (x+1) c ax) ?step2 ?fin2 ⟨rfl,jH,hp⟩) ?post2)
    case fin2=>exact λc ax h=>h.2
    case step2=>
     rintro y ⟨c,out,ia,ib,mg,ac,bc⟩ ax _ _ ⟨rfl,jH,l2,h1,h2,h3⟩
     show wpS _ _ _ _ (if mg > 1 then Gq a b out ia ib (mg - 1) ac bc else Gq a b out ia ib mg ac bc) _ _
     split
     ·exact wpS_mono (t7 L l2 h1 h2 jH h3) λr t hr=>by cases r<;>exact hr
     ·exact wpS_mono (t7 L l2 h1 h2 jH h3) λr t hr=>by cases r<;>exact hr
    case post2=>
     rintro⟨c,out,ia,ib,mg,ac,bc⟩ ax ⟨jH,hp⟩
     cases c with
     |some r=>exact wpS_pure ⟨jH,r,rfl,hp⟩
     |none=>
      dsimp only
      rw[cr]
      exact wpS_bind (wpS_modify (wpS_pure ⟨rfl,jH.gal _,hp⟩))
end
noncomputable def lr:Array Keyed->Array Keyed->StateT SortSt Sem (Array Keyed):=sortPriv% PySem.Builtin.mergeHi
theorem pU (a b:Array Keyed):lr a b=(do
 rule "list.sort.merge-hi"
 let total:=a.size+b.size
 let done (out:Array Keyed) (na nb:Nat):=a.extract 0 na++b.extract 0 nb++out.reverse
 let firstOfB (out:Array Keyed) (na nb:Nat):=b.extract 0 nb++a.extract 0 na++out.reverse
 let mut na:=a.size - 1
 let mut nb:=b.size
 let mut out:Array Keyed:=#[←elem' a na]
 if na == 0 then return done out na nb
 if nb == 1 then return firstOfB out na nb
 let mut minGallop:=gallopOf (←get)
 for _ in [0:total] do
  let mut acount:=0
  let mut bcount:=0
  for _ in [0:total] do
   let some aWins ←lt' (←elem' b (nb - 1)) (←elem' a (na - 1))|return done out na nb
   if aWins then
    na:=na - 1;out:=out.push (←elem' a na);acount:=acount+1;bcount:=0
    if na == 0 then return done out na nb
    if acount ≥ minGallop then break
   else
    nb:=nb - 1;out:=out.push (←elem' b nb);bcount:=bcount+1;acount:=0
    if nb == 1 then return firstOfB out na nb
    if bcount ≥ minGallop then break
  rule "list.sort.gallop"
  minGallop:=minGallop+1
  for _ in [0:total] do
   if minGallop > 1 then minGallop:=minGallop - 1
   bF minGallop
   let some at_ ←bW false (←elem' b (nb - 1)) a 0 na (na - 1)|return done out na nb
   let k:=na - at_
   acount:=k
   if k > 0 then
    out:=out++(a.extract at_ na).reverse;na:=at_
    if na == 0 then return done out na nb
   nb:=nb - 1;out:=out.push (←elem' b nb)
   if nb == 1 then return firstOfB out na nb
   let some at_ ←bW true (←elem' a (na - 1)) b 0 nb (nb - 1)|return done out na nb
   let k:=nb - at_
   bcount:=k
   if k > 0 then
    out:=out++(b.extract at_ nb).reverse;nb:=at_
    if nb == 1 then return firstOfB out na nb
    if nb == 0 then return done out na nb
   na:=na - 1;out:=out.push (←elem' a na)
   if na == 0 then return done out na nb
   if acount<7 && bcount<7 then break
  minGallop:=minGallop+1
  bF minGallop
 unsupported "internal:list.sort.merge-bound"):=rfl
abbrev U2:=Option (Array Keyed)×Nat×Nat×Array Keyed×Nat×Nat×Nat
abbrev U1:=Option (Array Keyed)×Nat×Nat×Array Keyed×Nat×Nat
noncomputable def dh (a b out:Array Keyed)(na nb:Nat):Array Keyed:=a.extract 0 na++b.extract 0 nb++out.reverse
noncomputable def fstB (a b out:Array Keyed)(na nb:Nat):Array Keyed:=b.extract 0 nb++a.extract 0 na++out.reverse
def Gr (a b out:Array Keyed)(na nb mg ac bc:Nat):M (ForInStep U2):=do
 let x ←elem' a (na - 1)
 if(na - 1 == 0)=true then pure (.done (some (dh a b (out.push x) (na - 1) nb),na - 1,nb,out.push x,mg,ac,bc))
 else if(decide (ac<7) && decide (bc<7))=true then pure (.done (none,na - 1,nb,out.push x,mg,ac,bc))
 else pure (.yield (none,na - 1,nb,out.push x,mg,ac,bc))
def CD (a b out:Array Keyed)(na nb mg ac bc:Nat):M (ForInStep U2):=do
 let x ←elem' b (nb - 1)
 if(nb - 1 == 1)=true then pure (.done (some (fstB a b (out.push x) na (nb - 1)),na,nb - 1,out.push x,mg,ac,bc))
 else do
  let some k ←bW true (←elem' a (na - 1)) b 0 (nb - 1) (nb - 1 - 1)|pure (.done (some (dh a b (out.push x) na (nb - 1)),na,nb - 1,out.push x,mg,ac,bc))
  if nb - 1 - k > 0 then
   if(k == 1)=true then pure (.done (some (fstB a b (out.push x++(b.extract k (nb - 1)).reverse) na k),na,k,out.push x++(b.extract k (nb - 1)).reverse,mg,ac,nb - 1 - k))
   else if(k == 0)=true then pure (.done (some (dh a b (out.push x++(b.extract k (nb - 1)).reverse) na k),na,k,out.push x++(b.extract k (nb - 1)).reverse,mg,ac,nb - 1 - k))
   else Gr a b (out.push x++(b.extract k (nb - 1)).reverse) na k mg ac (nb - 1 - k)
  else Gr a b (out.push x) na (nb - 1) mg ac (nb - 1 - k)
def Gs (a b out:Array Keyed)(na nb mg ac bc:Nat):M (ForInStep U2):=do
 bF mg
 let some k ←bW false (←elem' b (nb - 1)) a 0 na (na - 1)|pure (.done (some (dh a b out na nb),na,nb,out,mg,ac,bc))
 if na - k > 0 then
  if(k == 0)=true then pure (.done (some (dh a b (out++(a.extract k na).reverse) k nb),k,nb,out++(a.extract k na).reverse,mg,na - k,bc))
  else CD a b (out++(a.extract k na).reverse) k nb mg (na - k) bc
 else CD a b out na nb mg (na - k) bc
def Hy (a b:Array Keyed)(mg na nb:Nat)(out:Array Keyed)(ac bc:Nat):M (ForInStep U1):=do
 let some w ←lt' (←elem' b (nb - 1)) (←elem' a (na - 1))|pure (.done (some (dh a b out na nb),na,nb,out,ac,bc))
 if w then do
  let x ←elem' a (na - 1)
  if(na - 1 == 0)=true then pure (.done (some (dh a b (out.push x) (na - 1) nb),na - 1,nb,out.push x,ac+1,0))
  else if ac+1 ≥ mg then pure (.done (none,na - 1,nb,out.push x,ac+1,0))
  else pure (.yield (none,na - 1,nb,out.push x,ac+1,0))
 else do
  let x ←elem' b (nb - 1)
  if(nb - 1 == 1)=true then pure (.done (some (fstB a b (out.push x) na (nb - 1)),na,nb - 1,out.push x,0,bc+1))
  else if bc+1 ≥ mg then pure (.done (none,na,nb - 1,out.push x,0,bc+1))
  else pure (.yield (none,na,nb - 1,out.push x,0,bc+1))
def ge (p q:Keyed):Prop:=key q<=key p
structure Hi (a b:Array Keyed):Prop where
 ia:lj a.toList
 ib:lj b.toList
 sa:jN a
 sb:jN b
 fst:∀j,j<a.size->K b 0<=K a j
def HI (a b out:Array Keyed)(na nb:Nat):Prop:=MI ge a.toList b.toList out.toList (a.toList.take na).reverse (b.toList.take nb).reverse
theorem ls {a:Array Keyed}{n:Nat}{p:Keyed}(h:p∈(a.toList.take n).reverse):∃j,j<n/\j<a.size/\key p=K a j:=by
 have h:p∈(a.toList.drop 0).take n:=by simpa using h
 obtain⟨j,_,j2,j3,e⟩:=jc h;exact⟨j,by omega,j3,e⟩
theorem xQ (a:Array Keyed){k n:Nat}(h:k<=n):(a.toList.take n).reverse=((a.toList.drop k).take (n - k)).reverse++(a.toList.take k).reverse:=by
 rw[←List.reverse_append];congr 1;rw[←List.drop_take,show a.toList.take k=(a.toList.take n).take k by rw[List.take_take,Nat.min_eq_left h]];exact(List.take_append_drop k _).symm
section
variable {a b out:Array Keyed}{na nb k:Nat}
theorem HI.takeA (h:HI a b out na nb)(hk:k<=na){x:Int}(h1:∀j,k<=j->j<na->j<a.size->x<=K a j)(h2:∀j,j<nb->j<b.size->K b j<=x):HI a b (out++(a.extract k na).reverse) k nb:=by
 unfold HI at h ⊢;rw[xQ a hk]at h;rw[Array.toList_append,Array.toList_reverse,dw];refine h.a λp hp q hq=>?_;obtain⟨j,j1,j2,j3,e⟩:=jc (List.mem_reverse.mp hp);obtain⟨i,i1,i2,e2⟩:=ls hq;show key q<=key p;rw[e,e2];exact Int.le_trans (h2 i i1 i2) (h1 j j1 (by omega) j3)
theorem HI.swap (h:HI a b out na nb):HI b a out nb na:=MI.swap h
theorem HI.takeB (h:HI a b out na nb)(hk:k<=nb){x:Int}(h1:∀j,k<=j->j<nb->j<b.size->x<=K b j)(h2:∀j,j<na->j<a.size->K a j<=x):HI a b (out++(b.extract k nb).reverse) na k:=(h.swap.takeA hk h1 h2).swap
theorem xR (out a:Array Keyed){i n:Nat}(hi:i<a.size)(e:n=i+1):out.push a[i]=out++(a.extract i n).reverse:=by
 subst e;apply Array.ext';rw[Array.toList_push,Array.toList_append,Array.toList_reverse,dw,Nat.add_sub_cancel_left,ku hi];rfl
theorem HI.pushA (h:HI a b out na nb)(h0:0<na)(hi:na - 1<a.size)(h2:∀j,j<nb->j<b.size->K b j<=K a (na - 1)):HI a b (out.push a[na - 1]) (na - 1) nb:=by
 rw[xR out a hi (n:=na) (by omega)];exact h.takeA (by omega) (λj j1 j2 _=>by rw[show j=na - 1 by omega];exact Int.le_refl _) h2
theorem HI.pushB (h:HI a b out na nb)(h0:0<nb)(hi:nb - 1<b.size)(h2:∀j,j<na->j<a.size->K a j<=K b (nb - 1)):HI a b (out.push b[nb - 1]) na (nb - 1):=(h.swap.pushA h0 hi h2).swap
theorem Mg.rev {A B r:List Keyed}(h:Mg ge A B r):Mg le A B r.reverse:=⟨(List.reverse_perm r).trans h.1,List.pairwise_reverse.mpr h.2⟩
theorem uU (a:Array Keyed)(n:Nat):(a.extract 0 n).toList=a.toList.take n:=by rw[dw];rfl
theorem HI.dhA (h:HI a b out na nb)(e:na=0):mw a b (dh a b out na nb):=by
 unfold HI at h;unfold mw dh;subst e;have:=h.doneA.rev;rw[Array.toList_append,Array.toList_append,uU,uU,Array.toList_reverse];simpa using this
theorem HI.dhB (h:HI a b out na nb)(e:nb=0):mw a b (dh a b out na nb):=by
 unfold HI at h;unfold mw dh;subst e;have:=h.doneB.rev;rw[Array.toList_append,Array.toList_append,uU,uU,Array.toList_reverse];simpa using this
theorem HI.fstB (h:HI a b out na nb)(e:nb=1)(hb:0<b.size)(L:Hi a b):mw a b (fstB a b out na nb):=by
 unfold HI at h;unfold mw TS.fstB;subst e;have z:(b.toList.take 1).reverse=[b[0]]:=by
  have:b.toList=[b[0]]++b.toList.drop 1:=by have:=ku hb;simpa using this
  rw[this];rfl
 rw[z]at h;have:=(h.swap.last λp hp=>?_).rev
 ·have z2:b.toList.take 1=[b[0]]:=by rw[←List.reverse_reverse (b.toList.take 1),z];rfl
  rw[Array.toList_append,Array.toList_append,uU,uU,Array.toList_reverse,z2];refine⟨?_,by simpa using this.2⟩;have:=this.1.trans List.perm_append_comm;simpa using this
 ·obtain⟨j,_,j2,e2⟩:=ls hp;show key _<=key p;rw[e2];have:=L.fst j j2;rw[K_eq (xs:=b) hb]at this;exact this
end
def V2 (a b:Array Keyed)(st:SortSt)(n:Nat)(c:U2)(ax:SortSt):Prop:=Sm st ax/\match c.1 with
 |some r=>mw a b r
 |none=>HI a b c.2.2.2.1 c.2.1 c.2.2.1/\(0<c.2.1/\c.2.1<=a.size)/\(1<c.2.2.1/\c.2.2.1<=b.size)/\c.2.1+c.2.2.1<=n
def V1 (a b:Array Keyed)(st:SortSt)(n:Nat)(c:U1)(ax:SortSt):Prop:=Sm st ax/\match c.1 with
 |some r=>mw a b r
 |none=>HI a b c.2.2.2.1 c.2.1 c.2.2.1/\(0<c.2.1/\c.2.1<=a.size)/\(1<c.2.2.1/\c.2.2.1<=b.size)/\c.2.1+c.2.2.1<=n
section
variable {prog:Program}{w:World}{A:Around}{E:Value->Shared->Prop}{s:Shared}{a b out:Array Keyed}{na nb mg ac bc n:Nat}{st ax:SortSt}
theorem t8 (h:HI a b out na nb)(h1:0<na/\na<=a.size)(h2:1<nb/\nb<=b.size)(hx:∀j,j<nb->j<b.size->K b j<=K a (na - 1))(hs:Sm st ax)(hn:na+nb<=n):
  wpS (model prog w) A E s (Gr a b out na nb mg ac bc) (λr t=>match r with|.done c=>V2 a b st n c t|.yield c=>c.1=none/\V2 a b st n c t) ax:=by
 unfold Gr;refine wpS_bind (aN (by omega) ?_);have h':=h.pushA h1.1 (by omega) hx;by_cases e:na - 1=0
 ·rw[if_pos (by simpa using e)];exact wpS_pure ⟨hs,h'.dhA e⟩
 ·rw[if_neg (by simpa using e)];split
  ·exact wpS_pure ⟨hs,h',by show 0<na - 1/\na - 1<=_;omega,h2,by show na - 1+nb<=n;omega⟩
  ·exact wpS_pure ⟨rfl,hs,h',by show 0<na - 1/\na - 1<=_;omega,h2,by show na - 1+nb<=n;omega⟩
theorem t9 (L:Hi a b)(h:HI a b out na nb)(h1:0<na/\na<=a.size)(h2:1<nb/\nb<=b.size)(hx:∀j,j<na->j<a.size->K a j<=K b (nb - 1))(hs:Sm st ax)(hn:na+nb<=n):
  wpS (model prog w) A E s (CD a b out na nb mg ac bc) (λr t=>match r with|.done c=>V2 a b st n c t|.yield c=>c.1=none/\V2 a b st n c t) ax:=by
 unfold CD;refine wpS_bind (aN (by omega) ?_);have h':=h.pushB (by omega) (by omega) hx;by_cases e:nb - 1=1
 ·rw[if_pos (by simpa using e)];exact wpS_pure ⟨hs,h'.fstB e (by omega) L⟩
 ·rw[if_neg (by simpa using e)];refine wpS_bind (aN (by omega) (wpS_bind (ln hs.1 (L.ia.at (by omega)) L.ib (λi j hij hj=>L.sb _ _ (by omega) (by omega)) (by omega) (by omega) λk k1 k2 k3=>?_)));have ek:key a[na - 1]=K a (na - 1):=(K_eq (by omega)).symm;rw[ek]at k2 k3;simp only[Nat.zero_add]at k2 k3;dsimp only;by_cases k0:nb - 1 - k > 0
  ·rw[if_pos k0];have DH:=h'.takeB (k:=k) (by omega) (λj j1 j2 _=>k3 j j1 j2) (λj hj hz=>L.sa _ _ (by omega) (by omega));by_cases e2:k=1
   ·rw[if_pos (by simpa using e2)];exact wpS_pure ⟨hs,DH.fstB e2 (by omega) L⟩
   ·rw[if_neg (by simpa using e2)];by_cases e3:k=0
    ·rw[if_pos (by simpa using e3)];exact wpS_pure ⟨hs,DH.dhB e3⟩
    ·rw[if_neg (by simpa using e3)];exact t8 DH h1 (by omega) (λj j1 j2=>Int.le_of_lt (k2 j j1)) hs (by omega)
  ·rw[if_neg k0];exact t8 h' h1 (by omega) (λj j1 j2=>Int.le_of_lt (k2 j (by omega))) hs (by omega)
theorem tE (L:Hi a b)(h:HI a b out na nb)(h1:0<na/\na<=a.size)(h2:1<nb/\nb<=b.size)(hs:Sm st ax)(hn:na+nb<=n):
  wpS (model prog w) A E s (Gs a b out na nb mg ac bc) (λr t=>match r with|.done c=>V2 a b st n c t|.yield c=>c.1=none/\V2 a b st n c t) ax:=by
 unfold Gs;rw[cr];refine wpS_bind (wpS_modify ?_);replace hs:=hs.gal mg;refine wpS_bind (aN (by omega) (wpS_bind (lq hs.1 (L.ib.at (by omega)) L.ia (λi j hij hj=>L.sa _ _ (by omega) (by omega)) (by omega) (by omega) λk k1 k2 k3=>?_)));have ek:key b[nb - 1]=K b (nb - 1):=(K_eq (by omega)).symm;rw[ek]at k2 k3;simp only[Nat.zero_add]at k2 k3;dsimp only;by_cases k0:na - k > 0
 ·rw[if_pos k0];have h':=h.takeA (k:=k) (by omega) (λj j1 j2 _=>Int.le_of_lt (k3 j j1 j2)) (λj j1 j2=>L.sb _ _ (by omega) (by omega));by_cases e:k=0
  ·rw[if_pos (by simpa using e)];exact wpS_pure ⟨hs,h'.dhA e⟩
  ·rw[if_neg (by simpa using e)];exact t9 L h' (by omega) h2 (λj j1 j2=>k2 j j1) hs (by omega)
 ·rw[if_neg k0];exact t9 L h h1 h2 (λj j1 j2=>k2 j (by omega)) hs (by omega)
theorem Ac (L:Hi a b)(h:HI a b out na nb)(h1:0<na/\na<=a.size)(h2:1<nb/\nb<=b.size)(hs:Sm st ax)(hn:na+nb<=n+1):
  wpS (model prog w) A E s (Hy a b mg na nb out ac bc) (λr t=>match r with|.done c=>V1 a b st n c t|.yield c=>c.1=none/\V1 a b st n c t) ax:=by
 unfold Hy;refine wpS_bind (aN (by omega) (wpS_bind (aN (by omega) (wpS_bind (o0 hs.1 (L.ib.at (by omega)) (L.ia.at (by omega)) ?_)))));have e1:key b[nb - 1]=K b (nb - 1):=(K_eq (by omega)).symm;have e2:key a[na - 1]=K a (na - 1):=(K_eq (by omega)).symm;dsimp only;rw[e1,e2];by_cases c:K b (nb - 1)<K a (na - 1)
 ·rw[if_pos (by simpa using c)];refine wpS_bind (aN (by omega) ?_);have h':=h.pushA h1.1 (by omega) λj j1 j2=>Int.le_trans (L.sb j (nb - 1) (by omega) (by omega)) (Int.le_of_lt c);by_cases e:na - 1=0
  ·rw[if_pos (by simpa using e)];exact wpS_pure ⟨hs,h'.dhA e⟩
  ·rw[if_neg (by simpa using e)];split
   ·exact wpS_pure ⟨hs,h',by show 0<na - 1/\na - 1<=_;omega,h2,by show na - 1+nb<=n;omega⟩
   ·exact wpS_pure ⟨rfl,hs,h',by show 0<na - 1/\na - 1<=_;omega,h2,by show na - 1+nb<=n;omega⟩
 ·rw[if_neg (by simpa using c)];refine wpS_bind (aN (by omega) ?_);have h':=h.pushB (by omega) (by omega) λj j1 j2=>Int.le_trans (L.sa j (na - 1) (by omega) (by omega)) (Int.not_lt.mp c);by_cases e:nb - 1=1
  ·rw[if_pos (by simpa using e)];exact wpS_pure ⟨hs,h'.fstB e (by omega) L⟩
  ·rw[if_neg (by simpa using e)];split
   ·exact wpS_pure ⟨hs,h',h1,by show 1<nb - 1/\nb - 1<=_;omega,by show na+(nb - 1)<=n;omega⟩
   ·exact wpS_pure ⟨rfl,hs,h',h1,by show 1<nb - 1/\nb - 1<=_;omega,by show na+(nb - 1)<=n;omega⟩
theorem jO {a:Array Keyed}(h:jN a):a.toList.Pairwise le:=by
 rw[List.pairwise_iff_getElem];intro i j hi hj hij;have:=h i j (by omega) (by simpa using hj);rw[K_eq (by simpa using hi),K_eq (by simpa using hj)]at this;simpa [le]using this
theorem pV {Q:Array Keyed->SortSt->Prop}(L:Hi a b)(ha:0<a.size)(hb:0<b.size)(h0:K b (b.size - 1)<=K a (a.size - 1))(hs:Sm st st)(h:∀r t,mw a b r->Sm st t->Q r t):wpS (model prog w) A E s (lr a b) Q st:=by
 rw[pU];refine wpS_bind (wpS_lift (wpAny_rule ⟨rfl,?_⟩));refine wpS_bind (aN (by omega) ?_);have tk:∀c:Array Keyed,c.toList.take c.size=c.toList:=λc=>List.take_of_length_le (by simp);have l0:HI a b #[] a.size b.size:=by
  unfold HI;rw[tk,tk];exact⟨by simpa using(List.reverse_perm a.toList).append (List.reverse_perm b.toList),List.pairwise_reverse.mpr (jO L.sa),List.pairwise_reverse.mpr (jO L.sb)⟩
 have l1:HI a b #[a[a.size - 1]] (a.size - 1) b.size:=l0.pushA ha (by omega) λj j1 j2=>Int.le_trans (L.sb j (b.size - 1) (by omega) (by omega)) h0;by_cases e1:a.size - 1=0
 ·rw[if_pos (by simpa using e1)];exact wpS_pure (h _ _ (l1.dhA e1) hs)
 rw[if_neg (by simpa using e1)];by_cases e2:b.size=1
 ·rw[if_pos (by simpa using e2)];exact wpS_pure (h _ _ (l1.fstB e2 hb L) hs)
 rw[if_neg (by simpa using e2)];refine wpS_bind (wpS_get ?_);refine wpS_bind (wpS_mono (wpS_forRange (I:=λx c ax=>c.1=none/\Sm st ax/\HI a b c.2.2.2.1 c.2.1 c.2.2.1/\(0<c.2.1/\c.2.1<=a.size)/\(1<c.2.2.1/\c.2.2.1<=b.size)/\c.2.1+c.2.2.1+x<=a.size+b.size)
  (Q:=λc ax=>Sm st ax/\∃r,c.1=some r/\mw a b r) ?step ?fin ⟨rfl,hs,l1,by show 0<a.size - 1/\a.size - 1<=a.size;omega,by show 1<b.size/\b.size<=b.size;omega,by show a.size - 1+b.size+0<=_;omega⟩) ?post)
 case fin=>
  rintro⟨c,na,nb,out,mg⟩ ax ⟨rfl,_,_,h1,h2,h3⟩
  dsimp only at h1 h2 h3
  omega
 case post=>
  rintro⟨c,na,nb,out,mg⟩ ax ⟨gT,r,rfl,hr⟩
  exact wpS_pure (h _ _ hr gT)
 case step=>
  rintro x ⟨c,na,nb,out,mg⟩ ax _ hx ⟨rfl,jH,l2,h1,h2,h3⟩
  dsimp only at l2 h1 h2 h3
  refine wpS_bind (wpS_mono (wpS_forRange (I:=λy c ax=>c.1=none/\V1 a b st (a.size+b.size - x - y) c ax/\x+y<=a.size+b.size) (Q:=λc ax=>V1 a b st (a.size+b.size - x - 1) c ax) ?step1 ?fin1 ⟨rfl,⟨jH,l2,h1,h2,by dsimp only;omega⟩,by omega⟩) ?post1)
  case fin1=>
   rintro⟨c,na,nb,out,ac,bc⟩ ax ⟨rfl,⟨_,_,h1,h2,h3⟩,h4⟩
   dsimp only at h1 h2 h3
   omega
  case step1=>
   rintro y ⟨c,na,nb,out,ac,bc⟩ ax _ hy ⟨rfl,⟨jH,l2,h1,h2,h3⟩,h4⟩
   dsimp only at l2 h1 h2 h3
   show wpS _ _ _ _ (Hy a b mg na nb out ac bc) _ _
   refine wpS_mono (Ac (n:=a.size+b.size - x - (y+1)) L l2 h1 h2 jH (by omega)) λr t hr=>?_
   cases r with
   |yield c=>exact⟨hr.1,hr.2,by omega⟩
   |done c=>
    obtain⟨c1,c2⟩:=c
    cases c1 with
    |some r=>exact hr
    |none=>
     obtain⟨r1,r2,r3,r4,r5⟩:=hr
     exact⟨r1,r2,r3,r4,by dsimp only at r5 ⊢;omega⟩
  case post1=>
   rintro⟨c,na,nb,out,ac,bc⟩ ax ⟨jH,hp⟩
   cases c with
   |some r=>exact wpS_pure ⟨jH,r,rfl,hp⟩
   |none=>
    dsimp -zeta only
    refine wpS_bind (wpS_lift (wpAny_rule ⟨rfl,?_⟩))
    refine wpS_bind (wpS_mono (wpS_forRange (I:=λy c ax=>c.1=none/\V2 a b st (a.size+b.size - x - 1) c ax) (Q:=λc ax=>V2 a b st (a.size+b.size - x - 1) c ax) ?step2 ?fin2 ⟨rfl,jH,hp⟩) ?post2)
    case fin2=>exact λc ax h=>h.2
    case step2=>
     rintro y ⟨c,na,nb,out,mg,ac,bc⟩ ax _ _ ⟨rfl,jH,l2,h1,h2,h3⟩
     show wpS _ _ _ _ (if mg > 1 then Gs a b out na nb (mg - 1) ac bc else Gs a b out na nb mg ac bc) _ _
     split
     ·exact wpS_mono (tE L l2 h1 h2 jH h3) λr t hr=>by cases r<;>exact hr
     ·exact wpS_mono (tE L l2 h1 h2 jH h3) λr t hr=>by cases r<;>exact hr
    case post2=>
     rintro⟨c,na,nb,out,mg,ac,bc⟩ ax ⟨jH,hp⟩
     cases c with
     |some r=>exact wpS_pure ⟨jH,r,rfl,hp⟩
     |none=>
      dsimp only
      rw[cr]
      obtain⟨p1,p2,p3,p4⟩:=hp
      exact wpS_bind (wpS_modify (wpS_pure ⟨rfl,jH.gal _,p1,p2,p3,by dsimp only at p4 ⊢;omega⟩))
end
theorem pW (i:Nat):mergeAt' i=(do
 let s ←get
 let (some (sa,na,FM),some (sb,nb,_)):=((pendingOf s)[i]?,(pendingOf s)[i+1]?)|unsupported "internal:list.sort.pending"
 set (setPending s (((pendingOf s).setIfInBounds i (sa,na+nb,FM)).eraseIdxIfInBounds (i+1)))
 let some k ←bW false (←elem' (arrOf s) sb) (arrOf s) sa na 0|return false
 let (sa,na):=(sa+k,na - k)
 if na == 0 then return true
 let some nb ←bW true (←elem' (arrOf s) (sa+na - 1)) (arrOf s) sb nb (nb - 1)|return false
 if nb == 0 then return true
 let x:=(arrOf s).extract sa sb
 let y:=(arrOf s).extract sb (sb+nb)
 let merged ←if na<=nb then li x y else lr x y
 modify λs=>setArr s (merged.toList.zipIdx.foldl (λa (p,j)=>a.setIfInBounds (sa+j) p) (arrOf s))
 return (failedOf (←get)).isNone):=rfl
theorem Ad {l:List Keyed}{i:Nat}(p:Keyed)(h:i<l.length):l.set i p=l.take i++p::l.drop (i+1):=List.set_eq_take_append_cons_drop.trans (if_pos h)
theorem tF (sa:Nat):∀(m:List Keyed)(c:Nat)(dv:Array Keyed),sa+c+m.length<=dv.size ->
  ((m.zipIdx c).foldl (λ(a:Array Keyed) (pj:Keyed×Nat)=>a.setIfInBounds (sa+pj.2) pj.1) dv).toList=dv.toList.take (sa+c)++m++dv.toList.drop (sa+c+m.length)
 |[],c,dv,_=>by simp
 |p::m,c,dv,h=>by
  rw[vD]at h;rw[List.zipIdx_cons,List.foldl_cons,tF sa m (c+1) _ (by rw[Array.size_setIfInBounds];omega)];rw[Array.toList_setIfInBounds,Ad p (by rw[vF];dsimp only;omega)];dsimp only;have hl:(dv.toList.take (sa+c)).length=sa+c:=by rw[List.length_take,vF];omega
  have e1:(dv.toList.take (sa+c)++p::dv.toList.drop (sa+c+1)).take (sa+(c+1))=dv.toList.take (sa+c)++[p]:=by
   rw[show sa+(c+1)=(dv.toList.take (sa+c)).length+1 by omega,List.take_length_add_append];rfl
  have e2:(dv.toList.take (sa+c)++p::dv.toList.drop (sa+c+1)).drop (sa+(c+1)+m.length)=dv.toList.drop (sa+c+(m.length+1)):=by
   rw[show sa+(c+1)+m.length=(dv.toList.take (sa+c)).length+(m.length+1) by omega,List.drop_length_add_append,List.drop_succ_cons,List.drop_drop];congr 1;omega
  rw[e1,e2];simp
theorem jP {a:Array Keyed}{i j m:Nat}(h:i+m<j)(hj:j<=a.size):K (a.extract i j) m=K a (i+m):=by
 apply K_congr;rw[Array.getElem?_extract_of_lt (by omega),getElem?_pos]
theorem SortedTo.of {a:Array Keyed}(h:a.toList.Pairwise le):jN a:=by
 intro i j hij hj;rcases Nat.eq_or_lt_of_le hij with e|e
 ·subst e;exact Int.le_refl _
 ·have:=List.pairwise_iff_getElem.mp h i j (by simp;omega) (by simpa using hj) e;rw[K_eq (by omega),K_eq hj];simpa [le]using this
structure FN (a₀:Array Keyed)(n1 n2 p1 p2:Nat)(st:SortSt):Prop where
 perm:(arrOf st).Perm a₀
 kind:kindOf st=oneType'
 failed:failedOf st=none
 pend:pendingOf st=#[(0,n1,p1),(n1,n2,p2)]
 size:n1+n2=a₀.size
 pos:0<n1/\0<n2
 s1:∀i j,i<=j->j<n1->K (arrOf st) i<=K (arrOf st) j
 s2:∀i j,n1<=i->i<=j->j<n1+n2->K (arrOf st) i<=K (arrOf st) j
section
variable {prog:Program}{w:World}{A:Around}{E:Value->Shared->Prop}{s:Shared}{a₀:Array Keyed}{n1 n2 p1 p2:Nat}{st:SortSt}
theorem Ae {t:SortSt}{Q:PUnit->SortSt->Prop}(h:Q ⟨⟩ t):wpS (model prog w) A E s (set t:StateT SortSt Sem PUnit) Q st:=by
 unfold wpS;rw[StateT.run_set];exact wY ⟨rfl,h⟩
theorem pX {Q:Bool->SortSt->Prop}(h0:IntKeys a₀)(T:FN a₀ n1 n2 p1 p2 st)
  (h:∀ax,(arrOf ax).Perm a₀->failedOf ax=none->pendingOf ax=#[(0,n1+n2,p1)]->SortedTo (arrOf ax) a₀.size->Q true ax):wpS (model prog w) A E s (mergeAt' 0) Q st:=by
 have hz:(arrOf st).size=n1+n2:=by rw[T.perm.size_eq,T.size]
 have hI:lj (arrOf st).toList:=λp hp=>h0 p ((Array.perm_iff_toList_perm.mp T.perm).mem_iff.mp hp);obtain⟨q1,q2⟩:=T.pos;have MV:=T.size;rw[pW];refine wpS_bind (wpS_get ?_);have g0:(#[(0,n1,p1),(n1,n2,p2)]:Array (Nat×Nat×Nat))[0]? = some (0,n1,p1):=rfl;have g1:(#[(0,n1,p1),(n1,n2,p2)]:Array (Nat×Nat×Nat))[0+1]? = some (n1,n2,p2):=rfl;rw[T.pend,g0,g1];dsimp -zeta only;refine wpS_bind (Ae ?_);refine wpS_bind (aN (by omega) (wpS_bind (lq T.kind (hI.at (by omega)) hI (λi j hij hj=>T.s1 _ _ (by omega) (by omega)) (by omega) (by omega) λk k1 k2 k3=>?_)));dsimp -zeta only;simp only[Nat.zero_add]at k2 k3 ⊢;have ek:key (arrOf st)[n1]=K (arrOf st) n1:=(K_eq (by omega)).symm;rw[ek]at k2 k3;have ep:((#[(0,n1,p1),(n1,n2,p2)]:Array (Nat×Nat×Nat)).setIfInBounds 0 (0,n1+n2,p1)).eraseIdxIfInBounds 1=#[(0,n1+n2,p1)]:=by apply Array.ext';simp[Array.eraseIdxIfInBounds]
 rw[ep];by_cases e1:n1 - k=0
 ·rw[if_pos (by simpa using e1)];refine wpS_pure (h _ T.perm T.failed rfl λi j hij hj=>?_);show K (arrOf st) i<=K (arrOf st) j;by_cases c1:j<n1
  ·exact T.s1 i j hij c1
  ·by_cases c2:i<n1
   ·exact Int.le_trans (k2 i (by omega)) (T.s2 n1 j (vT _) (by omega) (by omega))
   ·exact T.s2 i j (by omega) hij (by omega)
 rw[if_neg (by simpa using e1)];refine wpS_bind (aN (by omega) (wpS_bind (ln T.kind (hI.at (by omega)) hI (λi j hij hj=>T.s2 _ _ (by omega) (by omega) (by omega)) (by omega) (by omega) λm m1 m2 m3=>?_)));have em:key ((arrOf st)[k+(n1 - k) - 1]'(by omega))=K (arrOf st) (n1 - 1):=by
  refine(K_eq (by omega)).symm.trans ?_;rw[show k+(n1 - k) - 1=n1 - 1 by omega]
 rw[em]at m2 m3;dsimp only;by_cases e2:m=0
 ·rw[if_pos (by simpa using e2)];refine wpS_pure (h _ T.perm T.failed rfl λi j hij hj=>?_);show K (arrOf st) i<=K (arrOf st) j;by_cases c1:j<n1
  ·exact T.s1 i j hij c1
  ·by_cases c2:i<n1
   ·have:=m3 (j - n1) (by omega) (by omega);rw[show n1+(j - n1)=j by omega]at this;exact Int.le_trans (T.s1 i (n1 - 1) (by omega) (by omega)) this
   ·exact T.s2 i j (by omega) hij (by omega)
 rw[if_neg (by simpa using e2)];have hx:((arrOf st).extract k n1).size=n1 - k:=by rw[Array.size_extract];omega
 have hy:((arrOf st).extract n1 (n1+m)).size=m:=by rw[Array.size_extract];omega
 have ix:lj ((arrOf st).extract k n1).toList:=λp hp=>hI p (by rw[dw]at hp;exact List.mem_of_mem_drop (List.mem_of_mem_take hp));have iy:lj ((arrOf st).extract n1 (n1+m)).toList:=λp hp=>hI p (by rw[dw]at hp;exact List.mem_of_mem_drop (List.mem_of_mem_take hp));have sx:jN ((arrOf st).extract k n1):=λi j hij hj=>by
  rw[hx]at hj;rw[jP (by omega) (by omega),jP (by omega) (by omega)];exact T.s1 _ _ (by omega) (by omega)
 have sy:jN ((arrOf st).extract n1 (n1+m)):=λi j hij hj=>by
  rw[hy]at hj;rw[jP (by omega) (by omega),jP (by omega) (by omega)];exact T.s2 _ _ (by omega) (by omega) (by omega)
 have below:∀j,j<m->K ((arrOf st).extract n1 (n1+m)) j<=K ((arrOf st).extract k n1) (((arrOf st).extract k n1).size - 1):=λj hj=>by
  rw[hx,jP (by omega) (by omega),jP (by omega) (by omega),show k+(n1 - k - 1)=n1 - 1 by omega];exact Int.le_of_lt (m2 j hj)
 have above:∀j,j<n1 - k->K ((arrOf st).extract n1 (n1+m)) 0<=K ((arrOf st).extract k n1) j:=λj hj=>by
  rw[jP (by omega) (by omega),jP (by omega) (by omega)];exact Int.le_of_lt (k3 (k+j) (by omega) (by omega))
 have fin:∀(r:Array Keyed)(t:SortSt),mw ((arrOf st).extract k n1) ((arrOf st).extract n1 (n1+m)) r->Sm (setPending st #[(0,n1+n2,p1)]) t->wpS (model prog w) A E s (do
   modify λs=>setArr s (List.foldl (λa x=>a.setIfInBounds (k+x.snd) x.fst) (arrOf s) r.toList.zipIdx)
   let __do_lift ←get
   pure (failedOf __do_lift).isNone) Q t:=λr t hr ht=>by
  obtain⟨t1,t2,t3,t4⟩:=ht;refine wpS_bind (wpS_modify (wpS_bind (wpS_get ?_)));have Kt:failedOf t=none:=t4.trans T.failed;have Ku:arrOf t=arrOf st:=t2;show wpS _ _ _ _ (pure (failedOf t).isNone) _ _;rw[Kt];have hl:r.toList.length=(n1 - k)+m:=by
   rw[hr.1.length_eq,uZ,vF,vF,hx,hy]
  have pa:=tF k r.toList 0 (arrOf st) (by rw[hl];omega);rw[hl,show k+0=k by omega,show k+(n1 - k+m)=n1+m by omega]at pa;have Mj:(arrOf st).toList=(arrOf st).toList.take k++(((arrOf st).extract k n1).toList++((arrOf st).extract n1 (n1+m)).toList)++(arrOf st).toList.drop (n1+m):=by
   rw[dw,dw,show n1+m - n1=m by omega];have z1:=lm (arrOf st) n1 m;have z2:=lm (arrOf st) k (n1 - k);rw[show k+(n1 - k)=n1 by omega,z1]at z2;rw[List.append_assoc,List.append_assoc,←z2,List.take_append_drop]
  refine wpS_pure (h _ ?_ Kt t3 ?_)
  ·show(List.foldl (λ(a:Array Keyed) (x:Keyed×Nat)=>a.setIfInBounds (k+x.snd) x.fst) (arrOf t) r.toList.zipIdx).Perm a₀;rw[Ku];refine Array.Perm.trans (Array.perm_iff_toList_perm.mpr ?_) T.perm;rw[pa];refine List.Perm.trans ?_ (List.Perm.of_eq Mj.symm);exact((List.Perm.refl _).append hr.1).append (List.Perm.refl _)
  ·show SortedTo (List.foldl (λ(a:Array Keyed) (x:Keyed×Nat)=>a.setIfInBounds (k+x.snd) x.fst) (arrOf t) r.toList.zipIdx) a₀.size;rw[Ku];have ps:(List.foldl (λ(a:Array Keyed) (x:Keyed×Nat)=>a.setIfInBounds (k+x.snd) x.fst) (arrOf st) r.toList.zipIdx).toList.Pairwise le:=by
    rw[pa];have FP:∀p∈r.toList,(∃j,k<=j/\j<n1/\key p=K (arrOf st) j)∨∃j,n1<=j/\j<n1+m/\key p=K (arrOf st) j:=λp hp=>by
     rcases List.mem_append.mp (hr.1.mem_iff.mp hp)with hp|hp
     ·rw[dw]at hp;obtain⟨j,j1,j2,_,e⟩:=jc hp;exact .inl ⟨j,j1,by omega,e⟩
     ·rw[dw]at hp;obtain⟨j,j1,j2,_,e⟩:=jc hp;exact .inr ⟨j,j1,by omega,e⟩
    have IG:∀p∈(arrOf st).toList.drop (n1+m),∃j,n1+m<=j/\j<n1+n2/\key p=K (arrOf st) j:=λp hp=>by
     obtain⟨j,j1,j2,e⟩:=ll hp;exact⟨j,j1,by omega,e⟩
    have FQ:∀p∈(arrOf st).toList.take k,∃j,j<k/\key p=K (arrOf st) j:=λp hp=>by
     obtain⟨j,j1,j2,e⟩:=ls (List.mem_reverse.mpr hp);exact⟨j,j1,e⟩
    have Kv:∀j,n1+m<=j->j<n1+n2->K (arrOf st) (n1 - 1)<=K (arrOf st) j:=λj j1 j2=>by
     have:=m3 (j - n1) (by omega) (by omega);rwa [show n1+(j - n1)=j by omega]at this
    refine List.pairwise_append.mpr ⟨List.pairwise_append.mpr ⟨?_,hr.2,λp hp q hq=>?_⟩,?_,λp hp q hq=>?_⟩
    ·rw[List.pairwise_iff_getElem];intro i j hi hj hij;rw[List.length_take,vF]at hi hj;have:=T.s1 i j (by omega) (by omega);rw[K_eq (by omega),K_eq (by omega)]at this;rw[List.getElem_take,List.getElem_take];simpa [le]using this
    ·obtain⟨i,i1,e⟩:=FQ p hp;show key p<=key q;rcases FP q hq with⟨j,j1,j2,e2⟩|⟨j,j1,j2,e2⟩
     ·rw[e,e2];exact T.s1 i j (by omega) j2
     ·rw[e,e2];exact Int.le_trans (k2 i i1) (T.s2 n1 j (vT _) j1 (by omega))
    ·rw[List.pairwise_iff_getElem];intro i j hi hj hij;rw[List.length_drop,vF]at hi hj;have:=T.s2 (n1+m+i) (n1+m+j) (by omega) (by omega) (by omega);rw[K_eq (by omega),K_eq (by omega)]at this;rw[List.getElem_drop,List.getElem_drop];simpa [le]using this
    ·obtain⟨j,j1,j2,e2⟩:=IG q hq;show key p<=key q;rw[e2];rcases List.mem_append.mp hp with hp|hp
     ·obtain⟨i,i1,e⟩:=FQ p hp;rw[e];exact Int.le_trans (T.s1 i (n1 - 1) (by omega) (by omega)) (Kv j j1 j2)
     ·rcases FP p hp with⟨i,i1,i2,e⟩|⟨i,i1,i2,e⟩
      ·rw[e];exact Int.le_trans (T.s1 i (n1 - 1) (by omega) (by omega)) (Kv j j1 j2)
      ·rw[e];exact T.s2 i j i1 (by omega) j2
   intro i j hij hj;refine SortedTo.of ps i j hij ?_;have:=congrArg List.length pa;rw[uZ,uZ,List.length_take,List.length_drop,vF,hl,vF]at this;omega
 have Kw:Sm (setPending st #[(0,n1+n2,p1)]) (setPending st #[(0,n1+n2,p1)]):=⟨T.kind,rfl,rfl,rfl⟩;split
 ·exact wpS_bind (pT ⟨ix,iy,sx,sy,λj hj=>below j (by omega)⟩ (by omega) (by omega) (above 0 (by omega)) Kw fin)
 ·refine wpS_bind (pV ⟨ix,iy,sx,sy,λj hj=>above j (by omega)⟩ (by omega) (by omega) ?_ Kw fin);rw[hy];exact below (m - 1) (by omega)
end
structure Bs (a₀:Array Keyed)(lo:Nat)(s₀ st:SortSt):Prop where
 perm:(arrOf st).Perm a₀
 kind:kindOf st=oneType'
 failed:failedOf st=none
 pend:pendingOf st=pendingOf s₀
 low:∀i,i<lo->K (arrOf st) i=K (arrOf s₀) i
section
variable {a₀:Array Keyed}{st s₀:SortSt}{lo n:Nat}{xs:Array Keyed}
theorem Bs.size (h:Bs a₀ lo s₀ st):(arrOf st).size=a₀.size:=h.perm.size_eq
theorem Bs.setArr (h:Bs a₀ lo s₀ st){xs:Array Keyed}(hp:xs.Perm (arrOf st))(hl:∀i,i<lo->K xs i=K (arrOf st) i):Bs a₀ lo s₀ (setArr st xs) :=
 ⟨hp.trans h.perm,h.kind,h.failed,h.pend,λi hi=>(hl i hi).trans (h.low i hi)⟩
theorem Bs.at (h:Bs a₀ lo s₀ st)(h0:IntKeys a₀){i:Nat}(hi:i<a₀.size):∃t q,(arrOf st)[i]? = some (.int (K (arrOf st) i) t,q):=by
 have Fy:i<(arrOf st).size:=by rw[h.size];exact hi
 obtain⟨n,t,hn⟩:=h0 (arrOf st)[i] ((Array.perm_iff_toList_perm.mp h.perm).mem_iff.mp (by simp));refine⟨t,(arrOf st)[i].2,?_⟩;have e:(arrOf st)[i]? = some (arrOf st)[i]:=getElem?_pos _ i Fy;have e2:(arrOf st)[i]=(.int n t,(arrOf st)[i].2):=Prod.ext hn rfl;unfold K;rw[e,e2];rfl
def Sg (xs:Array Keyed)(lo n:Nat):Prop:=∀i j,i<=j->j<n->K xs (lo+i)<=K xs (lo+j)
def Ns (xs:Array Keyed)(lo n:Nat):Prop:=∀i j,i<=j->j<n->K xs (lo+j)<=K xs (lo+i)
theorem Sg.one:Sg xs lo 1:=λi j _ hj=>by rw[show i=j by omega];exact Int.le_refl _
theorem Sg.more (h:Sg xs lo n)(hn:1<=n)(c:K xs (lo+n - 1)<=K xs (lo+n)):Sg xs lo (n+1):=λi j hij hj=>by
 by_cases e:j<n
 ·exact h i j hij e
 ·rw[show j=n by omega];by_cases e2:i=n
  ·rw[e2];exact Int.le_refl _
  ·refine Int.le_trans (h i (n - 1) (by omega) (by omega)) ?_;rw[show lo+(n - 1)=lo+n - 1 by omega];exact c
theorem Ns.more (h:Ns xs lo n)(hn:1<=n)(c:K xs (lo+n)<=K xs (lo+n - 1)):Ns xs lo (n+1):=λi j hij hj=>by
 by_cases e:j<n
 ·exact h i j hij e
 ·rw[show j=n by omega];by_cases e2:i=n
  ·rw[e2];exact Int.le_refl _
  ·refine Int.le_trans c ?_;rw[show lo+n - 1=lo+(n - 1) by omega];exact h i (n - 1) (by omega) (by omega)
end
abbrev D5:=Option (Option Nat)×Nat
abbrev EQ:=Option (Option Nat)×Nat×Nat
noncomputable def Af (lo _:Nat)(c:D5):M (ForInStep D5):=do
 let some smaller ←ltAt' (lo+c.2) (lo+c.2 - 1)|pure (.done (some none,c.2))
 if smaller then pure (.done (none,c.2))else pure (.yield (none,c.2+1))
noncomputable def CF (lo _:Nat)(c:EQ):M (ForInStep EQ):=do
 let some smaller ←ltAt' (lo+c.2.1) (lo+c.2.1 - 1)|pure (.done (some none,c.2.1,c.2.2))
 if smaller then
  if c.2.2 > 0 then do
   reverseSlice' (lo+c.2.1 - (c.2.2+1)) (lo+c.2.1)
   pure (.yield (none,c.2.1+1,0))
  else pure (.yield (none,c.2.1+1,0))
 else do
  let some larger ←ltAt' (lo+c.2.1 - 1) (lo+c.2.1)|pure (.done (some none,c.2.1,c.2.2))
  if larger then pure (.done (none,c.2.1,c.2.2))else pure (.yield (none,c.2.1+1,c.2.2+1))
section
variable {prog:Program}{w:World}{A:Around}{E:Value->Shared->Prop}{s:Shared}{a₀:Array Keyed}{st s₀:SortSt}{lo a n cA:Nat}
theorem jd {i j:Nat}{Q:Option Bool->SortSt->Prop}(hB:Bs a₀ lo s₀ st)(h0:IntKeys a₀)(hi:i<a₀.size)(hj:j<a₀.size)
  (h:Q (some (decide (K (arrOf st) i<K (arrOf st) j))) st):wpS (model prog w) A E s (ltAt' i j) Q st:=by
 obtain⟨t,p,e1⟩:=hB.at h0 hi;obtain⟨u,q,e2⟩:=hB.at h0 hj;exact wpS_ltAt hB.kind e1 e2 h
theorem tG {Q:D5->SortSt->Prop}(h0:IntKeys a₀)(hn:lo+cA<=a₀.size)(ha:1<=a)(Mk:a<=cA)(hB:Bs a₀ lo s₀ st)(hs:Sg (arrOf st) lo a)
  (h:∀n,a<=n->n<=cA->Sg (arrOf st) lo n->(n=cA∨K (arrOf st) (lo+n)<K (arrOf st) (lo+n - 1))->Q (none,n) st):wpS (model prog w) A E s (forIn [a:cA] ((none,a):D5) (Af lo)) Q st:=by
 refine wpS_forRange (I:=λx c ax=>ax=st/\c=(none,x)/\Sg (arrOf st) lo x) ?step ?fin ⟨rfl,rfl,hs⟩
 case fin=>
  rintro c ax ⟨rfl,rfl,gT⟩
  rw[show max a cA=cA by omega]at gT ⊢
  exact h cA Mk (vT _) gT (.inl rfl)
 case step=>
  rintro x c ax hax hxn ⟨rfl,rfl,gT⟩
  unfold Af
  refine wpS_bind (jd hB h0 (by dsimp only;omega) (by dsimp only;omega) ?_)
  dsimp only
  by_cases c:K (arrOf ax) (lo+x)<K (arrOf ax) (lo+x - 1)
  ·rw[if_pos (by simpa using c)]
   exact wpS_pure (h x hax (by omega) gT (.inr c))
  ·rw[if_neg (by simpa using c)]
   exact wpS_pure ⟨rfl,rfl,gT.more (by omega) (Int.not_lt.mp c)⟩
theorem xS {Q:Option Nat->SortSt->Prop}(h0:IntKeys a₀)(hn:lo+cA<=a₀.size)(h1:1<=n)(AD:n<=cA)(hB:Bs a₀ lo s₀ st)(hs:Ns (arrOf st) lo n)
  (h:∀m ax,Bs a₀ lo s₀ ax->1<=m->m<=cA->Sg (arrOf ax) lo m->Q (some m) ax):
  wpS (model prog w) A E s (do
   reverseSlice' lo (lo+n)
   let mut n:=n
   for _ in [n:cA] do
    let some smaller ←ltAt' (lo+n) (lo+n - 1)|return none
    if smaller then break
    n:=n+1
   return some n) Q st:=by
 have hsz:lo+n<=(arrOf st).size:=by rw[hB.size];omega
 refine wpS_bind (wpS_reverse ?_);have iH:Bs a₀ lo s₀ (setArr st (mirror (arrOf st) lo (lo+n) ((lo+n - lo) / 2))):=hB.setArr (mirror_perm _ _ _ _) λi hi=>by rw[K_mirror hsz,if_neg (by omega)]
 refine wpS_bind ?_;show wpS _ _ _ _ (forIn [n:cA] ((none,n):D5) (Af lo)) _ _;refine tG h0 hn h1 AD iH ?_ λm hm1 hm2 hsm _=>wpS_pure (h m _ iH (by omega) hm2 hsm);intro i j hij hj;show K (mirror (arrOf st) lo (lo+n) ((lo+n - lo) / 2)) (lo+i)<=K (mirror (arrOf st) lo (lo+n) ((lo+n - lo) / 2)) (lo+j);rw[K_mirror hsz,K_mirror hsz,if_pos (by omega),if_pos (by omega)];have:=hs (n - 1 - j) (n - 1 - i) (by omega) (by omega);rwa [show lo+(n - 1 - i)=lo+(lo+n) - 1 - (lo+i) by omega,show lo+(n - 1 - j)=lo+(lo+n) - 1 - (lo+j) by omega]at this
theorem Ag {Q:EQ->SortSt->Prop}(h0:IntKeys a₀)(hn:lo+cA<=a₀.size)(h1:1<=n)(AD:n<=cA)(hB:Bs a₀ lo s₀ st)(hs:Ns (arrOf st) lo n)
  (h:∀m lV ax,Bs a₀ lo s₀ ax->n<=m->m<=cA->Ns (arrOf ax) lo m->lV+1<=m->(∀i,lo+m - (lV+1)<=i->i<lo+m->K (arrOf ax) i=K (arrOf ax) (lo+m - 1))->Q (none,m,lV) ax):
  wpS (model prog w) A E s (forIn [n:cA] ((none,n,0):EQ) (CF lo)) Q st:=by
 refine wpS_forRange (I:=λx c ax=>∃lV,c=(none,x,lV)/\Bs a₀ lo s₀ ax/\Ns (arrOf ax) lo x/\lV+1<=x /\
   (∀i,lo+x - (lV+1)<=i->i<lo+x->K (arrOf ax) i=K (arrOf ax) (lo+x - 1))) ?step ?fin ⟨0,rfl,hB,hs,by omega,λi h1 h2=>by congr 1;omega⟩
 case fin=>
  rintro c ax ⟨lV,rfl,iH,gT,hq,he⟩
  rw[show max n cA=cA by omega]at gT hq he ⊢
  exact h cA lV ax iH AD (vT _) gT hq he
 case step=>
  rintro x c ax hax hxn ⟨lV,rfl,iH,gT,hq,he⟩
  unfold CF
  have hsz:lo+x<=(arrOf ax).size:=by rw[iH.size];omega
  refine wpS_bind (jd iH h0 (by dsimp only;omega) (by dsimp only;omega) ?_)
  dsimp only
  by_cases c:K (arrOf ax) (lo+x)<K (arrOf ax) (lo+x - 1)
  ·rw[if_pos (by simpa using c)]
   by_cases hneq:lV > 0
   ·rw[if_pos hneq]
    have km:=K_mirror_equal hsz he
    refine wpS_bind (wpS_reverse (wpS_pure ⟨0,rfl,iH.setArr (mirror_perm _ _ _ _) (λi _=>km i),?_,by omega,λi h1 h2=>by congr 1;omega⟩))
    refine Ns.more (λi j hij hj=>?_) (by omega) ?_
    ·show K (mirror (arrOf ax) _ _ _) _<=K (mirror (arrOf ax) _ _ _) _
     rw[km,km];exact gT i j hij hj
    ·show K (mirror (arrOf ax) _ _ _) _<=K (mirror (arrOf ax) _ _ _) _
     rw[km,km];exact Int.le_of_lt c
   ·rw[if_neg hneq]
    exact wpS_pure ⟨0,rfl,iH,gT.more (by omega) (Int.le_of_lt c),by omega,λi h1 h2=>by congr 1;omega⟩
  ·rw[if_neg (by simpa using c)]
   refine wpS_bind (jd iH h0 (by omega) (by omega) ?_)
   dsimp only
   by_cases c2:K (arrOf ax) (lo+x - 1)<K (arrOf ax) (lo+x)
   ·rw[if_pos (by simpa using c2)]
    exact wpS_pure (h x lV ax iH hax (by omega) gT hq he)
   ·rw[if_neg (by simpa using c2)]
    have IH:K (arrOf ax) (lo+x)=K (arrOf ax) (lo+x - 1):=by omega
    refine wpS_pure ⟨lV+1,rfl,iH,gT.more (by omega) (by omega),by omega,λi h1 h2=>?_⟩
    rw[show lo+(x+1) - 1=lo+x by omega]
    by_cases GF:i=lo+x
    ·subst GF;rfl
    ·rw[IH];exact he i (by omega) (by omega)
theorem xT {Q:Option Nat->SortSt->Prop}(h0:IntKeys a₀)(hn:lo+cA<=a₀.size)(AD:n+1<=cA)(hB:Bs a₀ lo s₀ st)(hs:Ns (arrOf st) lo (n+1))
  (h:∀m ax,Bs a₀ lo s₀ ax->1<=m->m<=cA->Sg (arrOf ax) lo m->Q (some m) ax):
  wpS (model prog w) A E s (do
   rule "list.sort.descending-run"
   let mut n:=n+1
   let mut lV:=0
   for _ in [n:cA] do
    let some smaller ←ltAt' (lo+n) (lo+n - 1)|return none
    if smaller then
     if lV > 0 then reverseSlice' (lo+n - (lV+1)) (lo+n)
     lV:=0
    else
     let some larger ←ltAt' (lo+n - 1) (lo+n)|return none
     if larger then break
     lV:=lV+1
    n:=n+1
   if lV > 0 then reverseSlice' (lo+n - (lV+1)) (lo+n)
   reverseSlice' lo (lo+n)
   for _ in [n:cA] do
    let some smaller ←ltAt' (lo+n) (lo+n - 1)|return none
    if smaller then break
    n:=n+1
   return some n) Q st:=by
 refine wpS_bind (wpS_lift (wpAny_rule ⟨rfl,?_⟩));refine wpS_bind ?_;show wpS _ _ _ _ (forIn [n+1:cA] ((none,n+1,0):EQ) (CF lo)) _ _;refine Ag h0 hn (by omega) AD hB hs λm lV ax iH hm1 hm2 gT hq he=>?_;have hsz:lo+m<=(arrOf ax).size:=by rw[iH.size];omega
 dsimp only;by_cases hneq:lV > 0
 ·rw[if_pos hneq];have km:=K_mirror_equal hsz he;refine wpS_bind (wpS_reverse (xS h0 hn (by omega) hm2 (iH.setArr (mirror_perm _ _ _ _) λi _=>km i) (λi j hij hj=>?_) h));show K (mirror (arrOf ax) _ _ _) _<=K (mirror (arrOf ax) _ _ _) _;rw[km,km];exact gT i j hij hj
 ·rw[if_neg hneq];exact xS h0 hn (by omega) hm2 iH gT h
theorem tH {Q:Option Nat->SortSt->Prop}(h0:IntKeys a₀)(hn:lo+cA<=a₀.size)(h1:1<=cA)(hB:Bs a₀ lo s₀ st)
  (h:∀m ax,Bs a₀ lo s₀ ax->1<=m->m<=cA->Sg (arrOf ax) lo m->Q (some m) ax):wpS (model prog w) A E s (countRun' lo cA) Q st:=by
 rw[countRun'_eq];refine wpS_bind ?_;show wpS _ _ _ _ (forIn [1:cA] ((none,1):D5) (Af lo)) _ _;refine tG h0 hn (vT 1) h1 hB Sg.one λn hn1 hn2 hsn hor=>?_;dsimp only;by_cases AD:n=cA
 ·rw[if_pos (by simpa using AD)];exact wpS_pure (h n st hB hn1 hn2 hsn)
 ·rw[if_neg (by simpa using AD)];have eO:=hor.resolve_left AD;by_cases hgt:n > 1
  ·rw[if_pos hgt];refine wpS_bind (jd hB h0 (by omega) (by omega) ?_);dsimp only;by_cases c:K (arrOf st) lo<K (arrOf st) (lo+n - 1)
   ·rw[if_pos (by simpa using c)];exact wpS_pure (h n st hB hn1 hn2 hsn)
   ·rw[if_neg (by simpa using c)];have hsz:lo+n<=(arrOf st).size:=by rw[hB.size];omega
    have lQ:∀k,lo<=k->k<lo+n->K (arrOf st) k=K (arrOf st) (lo+n - 1):=λk k1 k2=>by
     have a1:=hsn 0 (k - lo) (by omega) (by omega);have a2:=hsn (k - lo) (n - 1) (by omega) (by omega);rw[show lo+(k - lo)=k by omega]at a1 a2;rw[show lo+(n - 1)=lo+n - 1 by omega]at a2;rw[Nat.add_zero]at a1;omega
    have km:=K_mirror_equal hsz lQ;refine wpS_bind (wpS_reverse (xT h0 hn (by omega) (hB.setArr (mirror_perm _ _ _ _) λi _=>km i) (Ns.more (λi j hij hj=>?_) (by omega) ?_) h))
    ·show K (mirror (arrOf st) _ _ _) _<=K (mirror (arrOf st) _ _ _) _;rw[km,km,lQ _ (by omega) (by omega),lQ (lo+i) (by omega) (by omega)];exact Int.le_refl _
    ·show K (mirror (arrOf st) _ _ _) _<=K (mirror (arrOf st) _ _ _) _;rw[km,km];exact Int.le_of_lt eO
  ·rw[if_neg hgt];obtain rfl:n=1:=by omega
   refine xT h0 hn (by omega) hB (Ns.more (λi j hij hj=>?_) (vT _) (Int.le_of_lt eO)) h;rw[show i=j by omega];exact Int.le_refl _
theorem tI {ok:Nat}{Q:Bool->SortSt->Prop}(h0:IntKeys a₀)(hn:lo+n<=a₀.size)(hok:ok<=n)(hB:Bs a₀ lo s₀ st)(hs:Sg (arrOf st) lo ok)
  (h:∀ax,Bs a₀ lo s₀ ax->Sg (arrOf ax) lo n->Q true ax):wpS (model prog w) A E s (binarySort' lo n ok) Q st:=by
 rw[binarySort'_eq];refine wpS_bind (wpS_mono (wpS_forRange (I:=λk c ax=>c=(none,())/\Bs a₀ lo s₀ ax/\Sg (arrOf ax) lo (min k n))
  (Q:=λc ax=>c=(none,())/\Bs a₀ lo s₀ ax/\Sg (arrOf ax) lo n) ?step ?fin ?init) ?post)
 case post=>
  rintro c ax ⟨rfl,iH,gT⟩
  exact wpS_pure (h ax iH gT)
 case init=>
  refine⟨rfl,hB,λi j hij hj=>?_⟩
  by_cases h1:ok=0
  ·rw[show i=j by omega];exact Int.le_refl _
  ·exact hs i j hij (by omega)
 case fin=>
  rintro c ax ⟨hc,iH,gT⟩
  refine⟨hc,iH,?_⟩
  rwa [show min (max (max ok 1) n) n=n by omega]at gT
 case step=>
  rintro k c ax hak hkn ⟨rfl,iH,gT⟩
  rw[show min k n=k by omega]at gT
  refine wpS_bind (wpS_mono (wpS_forRange (I:=λx c st''=>st''=ax/\∃l r,c=(none,l,r)/\l<=r/\r<=k/\r - l<=k - x /\
    (∀i,i<l->K (arrOf ax) (lo+i)<=K (arrOf ax) (lo+k))/\(∀i,r<=i->i<k->K (arrOf ax) (lo+k)<K (arrOf ax) (lo+i)))
   (Q:=λc st''=>st''=ax/\∃l r,c=(none,l,r)/\l<=k /\
    (∀i,i<l->K (arrOf ax) (lo+i)<=K (arrOf ax) (lo+k))/\(∀i,l<=i->i<k->K (arrOf ax) (lo+k)<K (arrOf ax) (lo+i))) ?istep ?ifin ?iinit) ?ipost)
  case iinit=>exact⟨rfl,0,k,rfl,by omega,by omega,by omega,λi hi=>by omega,λi h1 h2=>by omega⟩
  case ifin=>
   rintro c st'' ⟨rfl,l,r,rfl,Ml,II,hm,Dp,DI⟩
   obtain rfl:l=r:=by omega
   exact⟨rfl,l,l,rfl,II,Dp,DI⟩
  case istep=>
   rintro x c st'' _ Kx ⟨rfl,l,r,rfl,Ml,II,hm,Dp,DI⟩
   dsimp only
   by_cases hge:l ≥ r
   ·rw[if_pos hge]
    obtain rfl:l=r:=by omega
    exact wpS_pure ⟨rfl,l,l,rfl,II,Dp,DI⟩
   ·rw[if_neg hge]
    refine wpS_bind (jd iH h0 (by omega) (by omega) ?_)
    dsimp only
    by_cases c:K (arrOf st'') (lo+k)<K (arrOf st'') (lo+(l+r) / 2)
    ·rw[if_pos (by simpa using c)]
     exact wpS_pure ⟨rfl,l,(l+r) / 2,rfl,by omega,by omega,by omega,Dp,λi h1 h2=>Int.lt_of_lt_of_le c (gT _ _ h1 h2)⟩
    ·rw[if_neg (by simpa using c)]
     exact wpS_pure ⟨rfl,(l+r) / 2+1,r,rfl,by omega,by omega,by omega,λi h1=>Int.le_trans (gT i ((l+r) / 2) (by omega) (by omega)) (Int.not_lt.mp c),DI⟩
  case ipost=>
   rintro c st'' ⟨rfl,l,r,rfl,Ky,Dp,DI⟩
   show wpS _ _ _ _ (do moveDown' (lo+k) (lo+l);pure (ForInStep.yield (none,()))) _ _
   rw[moveDown'_eq]
   have IJ:lo+k<(arrOf st'').size:=by rw[iH.size];omega
   refine wpS_bind (wpS_modify (wpS_pure ⟨rfl,iH.setArr (bubble_perm _ _ _) (λi hi=>?_),?_⟩))
   ·rw[K_bubble IJ (by omega),if_neg (by omega),if_neg (by omega)]
   rw[show min (k+1) n=k+1 by omega]
   intro i j hij hj
   show K (bubble (arrOf st'') (lo+k) (lo+k - (lo+l))) (lo+i)<=K (bubble (arrOf st'') (lo+k) (lo+k - (lo+l))) (lo+j)
   rw[K_bubble IJ (by omega),K_bubble IJ (by omega),show lo+k - (lo+k - (lo+l))=lo+l by omega]
   have kC:∀p q,lo<=p->p<=q->q<lo+k->K (arrOf st'') p<=K (arrOf st'') q:=λp q p1 p2 p3=>by
    have:=gT (p - lo) (q - lo) (by omega) (by omega);rwa [show lo+(p - lo)=p by omega,show lo+(q - lo)=q by omega]at this
   have Fj:∀p,lo<=p->p<lo+l->K (arrOf st'') p<=K (arrOf st'') (lo+k):=λp p1 p2=>by
    have:=Dp (p - lo) (by omega);rwa [show lo+(p - lo)=p by omega]at this
   have Kz:∀p,lo+l<=p->p<lo+k->K (arrOf st'') (lo+k)<=K (arrOf st'') p:=λp p1 p2=>by
    have:=DI (p - lo) (by omega) (by omega);rw[show lo+(p - lo)=p by omega]at this;exact Int.le_of_lt this
   repeat' split
   all_goals first
    | (exfalso;omega)
    |exact Int.le_refl _
    |exact Fj _ (by omega) (by omega)
    |exact Kz _ (by omega) (by omega)
    |exact kC _ _ (by omega) (by omega) (by omega)
end
theorem rN {n:Nat}(h1:64<=n)(h2:n<127):minRun' n n 0=(n+1) / 2:=by
 obtain⟨f,hf⟩:∃f,n=f+1+1:=⟨n - 2,by omega⟩;have e:minRun' (f+1+1) n 0=(n+1) / 2:=by
  rw[minRun'_succ,if_neg (by omega),minRun'_succ,if_pos (by omega)];omega
 rwa [←hf]at e
structure One (a₀:Array Keyed)(n:Nat)(st:SortSt):Prop where
 perm:(arrOf st).Perm a₀
 kind:kindOf st=oneType'
 failed:failedOf st=none
 pend:pendingOf st=#[(0,n,0)]
 sg:Sg (arrOf st) 0 n
section
variable {prog:Program}{w:World}{A:Around}{E:Value->Shared->Prop}{s:Shared}{a₀:Array Keyed}{st:SortSt}
theorem uW {Q:Unit->SortSt->Prop}(h0:IntKeys a₀)(hB:SBase a₀ st)(vy:64<=a₀.size)(Dq:a₀.size<127)
  (h:∀ax,(arrOf ax).Perm a₀->failedOf ax=none->SortedTo (arrOf ax) a₀.size->Q () ax):wpS (model prog w) A E s sortRuns' Q st:=by
 rw[sortRuns'_eq];refine wpS_bind (wpS_get ?_);dsimp only;simp only[hB.size,rN vy Dq];refine wpS_bind (wpS_mono (wpS_forRange
  (I:=λx c ax=>(x=0/\c=(none,0)/\SBase a₀ ax)∨(x=1/\∃n,c=(none,n)/\n<a₀.size/\(a₀.size+1) / 2<=n/\One a₀ n ax)∨(1<=x/\c=(none,a₀.size)/\(One a₀ a₀.size ax∨∃n1 n2 p1 p2,FN a₀ n1 n2 p1 p2 ax)))
  (Q:=λc ax=>c=(none,a₀.size)/\(One a₀ a₀.size ax∨∃n1 n2 p1 p2,FN a₀ n1 n2 p1 p2 ax)) ?step ?fin (.inl ⟨rfl,rfl,hB⟩)) ?post)
 case fin=>
  rintro c ax (⟨hx,_,_⟩|⟨hx,_⟩|⟨_,hc,hD⟩)
  ·omega
  ·omega
  ·exact⟨hc,hD⟩
 case step=>
  rintro x c ax _ hx (⟨rfl,rfl,iH⟩|⟨rfl,n,rfl,n1,n2,O⟩|⟨MW,rfl,hD⟩)
  ·dsimp only
   rw[if_neg (by omega)]
   simp only[Nat.sub_zero,Nat.zero_add]
   refine wpS_bind (tH h0 (s₀:=ax) (lo:=0) (by omega) (by omega) ⟨iH.perm,iH.kind,iH.failed,rfl,λ_ _=>rfl⟩ λm fL AE hm1 hm2 kC=>?_)
   dsimp only
   by_cases eO:m<(a₀.size+1) / 2
   ·rw[if_pos eO]
    simp only[show min a₀.size ((a₀.size+1) / 2)=(a₀.size+1) / 2 by omega]
    refine wpS_bind (wpS_lift (wpAny_rule ⟨rfl,?_⟩))
    refine wpS_bind (tI h0 (s₀:=ax) (lo:=0) (by omega) (by omega) AE kC λiG v0 yT=>?_)
    rw[if_neg (by decide)]
    refine wpS_bind (wpS_get ?_)
    have hp:pendingOf iG=#[]:=v0.pend.trans iH.pend
    have hb:(pendingOf iG).back? = none:=by rw[hp];rfl
    rw[hb]
    dsimp only
    exact wpS_bind (wpS_modify (wpS_pure (.inr (.inl ⟨by decide,_,rfl,by omega,by omega,v0.perm,v0.kind,v0.failed,by show(pendingOf iG).push _=_;rw[hp];rfl,yT⟩))))
   ·rw[if_neg eO]
    refine wpS_bind (wpS_get ?_)
    have hp:pendingOf fL=#[]:=AE.pend.trans iH.pend
    have hb:(pendingOf fL).back? = none:=by rw[hp];rfl
    rw[hb]
    dsimp only
    refine wpS_bind (wpS_modify (wpS_pure ?_))
    have O:One a₀ m (setPending fL ((pendingOf fL).push (0,m,0))):=⟨AE.perm,AE.kind,AE.failed,by show(pendingOf fL).push _=_;rw[hp];rfl,kC⟩
    by_cases e:m=a₀.size
    ·subst e;exact .inr (.inr ⟨by decide,rfl,.inl O⟩)
    ·exact .inr (.inl ⟨by decide,_,rfl,by omega,by omega,O⟩)
  ·dsimp only
   rw[if_neg (by omega)]
   simp only[show min (a₀.size - n) ((a₀.size+1) / 2)=a₀.size - n by omega]
   refine wpS_bind (tH h0 (s₀:=ax) (lo:=n) (by omega) (by omega) ⟨O.perm,O.kind,O.failed,rfl,λ_ _=>rfl⟩ λm fL AE hm1 hm2 kC=>?_)
   dsimp only
   have two:∀iG,Bs a₀ n ax iG->Sg (arrOf iG) n (a₀.size - n)->∀pw,FN a₀ n (a₀.size - n) pw 0 (setPending (setPending iG #[(0,n,pw)]) #[(0,n,pw),(n,a₀.size - n,0)]):=λiG v0 yT pw=>
    ⟨v0.perm,v0.kind,v0.failed,rfl,by omega,by omega,λi j hij hj=>by
     show K (arrOf iG) i<=K (arrOf iG) j;rw[v0.low i (by omega),v0.low j hj];have:=O.sg i j hij hj;rwa [Nat.zero_add,Nat.zero_add]at this,λi j hi hij hj=>by
     show K (arrOf iG) i<=K (arrOf iG) j;have:=yT (i - n) (j - n) (by omega) (by omega);rwa [show n+(i - n)=i by omega,show n+(j - n)=j by omega]at this⟩
   have jF:∀(pw:Nat)(iG:SortSt),pendingOf iG=#[(0,n,0)]->(pendingOf iG).size=1/\(pendingOf iG).modify ((pendingOf iG).size - 1) (λx=>(x.fst,x.2.fst,pw))=#[(0,n,pw)]:=λpw iG hp=>by
    rw[hp];exact⟨rfl,rfl⟩
   by_cases eO:m<(a₀.size+1) / 2
   ·rw[if_pos eO]
    refine wpS_bind (wpS_lift (wpAny_rule ⟨rfl,?_⟩))
    refine wpS_bind (tI h0 (s₀:=ax) (lo:=n) (by omega) (by omega) AE kC λiG v0 yT=>?_)
    rw[if_neg (by decide)]
    refine wpS_bind (wpS_get ?_)
    have hp:pendingOf iG=#[(0,n,0)]:=v0.pend.trans O.pend
    have hb:(pendingOf iG).back? = some (0,n,0):=by rw[hp];rfl
    rw[hb]
    dsimp only
    refine wpS_bind (wpS_mono (wpS_forRange (I:=λx c vz=>c=(none,())/\vz=iG) (Q:=λc vz=>c=(none,())/\vz=iG) ?_ (λ_ _ z=>z) ⟨rfl,rfl⟩) ?_)
    ·rintro x c vz _ _ ⟨rfl,rfl⟩
     refine wpS_bind (wpS_get ?_)
     rw[if_neg (by rw[hp];simp)]
     exact wpS_pure ⟨rfl,rfl⟩
    ·rintro c vz ⟨rfl,rfl⟩
     dsimp only
     refine wpS_bind (wpS_modify ?_)
     rw[(jF _ _ hp).2]
     refine wpS_bind (wpS_modify (wpS_pure (.inr (.inr ⟨by decide,by congr 1;omega,.inr ⟨n,a₀.size - n,_,0,two _ v0 yT _⟩⟩))))
   ·rw[if_neg eO]
    obtain rfl:m=a₀.size - n:=by omega
    refine wpS_bind (wpS_get ?_)
    have hp:pendingOf fL=#[(0,n,0)]:=AE.pend.trans O.pend
    have hb:(pendingOf fL).back? = some (0,n,0):=by rw[hp];rfl
    rw[hb]
    dsimp only
    refine wpS_bind (wpS_mono (wpS_forRange (I:=λx c vz=>c=(none,())/\vz=fL) (Q:=λc vz=>c=(none,())/\vz=fL) ?_ (λ_ _ z=>z) ⟨rfl,rfl⟩) ?_)
    ·rintro x c vz _ _ ⟨rfl,rfl⟩
     refine wpS_bind (wpS_get ?_)
     rw[if_neg (by rw[hp];simp)]
     exact wpS_pure ⟨rfl,rfl⟩
    ·rintro c vz ⟨rfl,rfl⟩
     dsimp only
     refine wpS_bind (wpS_modify ?_)
     rw[(jF _ _ hp).2]
     refine wpS_bind (wpS_modify (wpS_pure (.inr (.inr ⟨by decide,by congr 1;omega,.inr ⟨n,a₀.size - n,_,0,two _ AE kC _⟩⟩))))
  ·dsimp only
   rw[if_pos (vT _)]
   exact wpS_pure ⟨rfl,hD⟩
 case post=>
  rintro c ax ⟨rfl,hD⟩
  dsimp only
  refine wpS_bind (wpS_mono (wpS_forRange (I:=λx c fL=>c=(none,())/\(One a₀ a₀.size fL∨(x=0/\∃n1 n2 p1 p2,FN a₀ n1 n2 p1 p2 fL)∨((arrOf fL).Perm a₀/\failedOf fL=none/\(pendingOf fL).size=1/\SortedTo (arrOf fL) a₀.size)))
   (Q:=λc fL=>c=(none,())/\(arrOf fL).Perm a₀/\failedOf fL=none/\SortedTo (arrOf fL) a₀.size) ?_ ?_ ⟨rfl,hD.imp id λz=>.inl ⟨rfl,z⟩⟩) ?_)
  ·rintro x c fL _ _ ⟨rfl,hD⟩
   refine wpS_bind (wpS_get ?_)
   rcases hD with O|⟨rfl,n1,n2,p1,p2,T⟩|⟨d1,d2,d3,d4⟩
   ·rw[if_pos (by rw[O.pend];exact vT 1)]
    exact wpS_pure ⟨rfl,O.perm,O.failed,λi j hij hj=>by have:=O.sg i j hij hj;rwa [Nat.zero_add,Nat.zero_add]at this⟩
   ·rw[if_neg (by rw[T.pend];simp)]
    simp only[T.pend]
    refine wpS_bind ?_
    show wpS _ _ _ _ (mergeAt' 0) _ _
    refine pX h0 T λiG a1 a2 a3 a4=>?_
    rw[if_neg (by decide)]
    exact wpS_pure ⟨rfl,.inr (.inr ⟨a1,a2,by rw[a3];rfl,a4⟩)⟩
   ·rw[if_pos (by rw[d3];exact vT 1)]
    exact wpS_pure ⟨rfl,d1,d2,d4⟩
  ·rintro c fL ⟨rfl,hD⟩
   rcases hD with O|⟨z,_⟩|⟨d1,d2,d3,d4⟩
   ·exact⟨rfl,O.perm,O.failed,λi j hij hj=>by have:=O.sg i j hij hj;rwa [Nat.zero_add,Nat.zero_add]at this⟩
   ·omega
   ·exact⟨rfl,d1,d2,d4⟩
  ·rintro c fL ⟨rfl,d1,d2,d3⟩
   exact wpS_pure (h _ d1 d2 d3)
end
theorem mx {prog:Program}{w:World}{A:Around}{E:Value->Shared->Prop}{s:Shared}{a:Addr}{vs:List Value}{ns:List Int}{n:Nat}{P:Fin->Shared->Prop}(ho:s.heap.get? a=some (seqObj "list" vs.toArray n))
  (hI:IntsAre vs ns) (Dq:vs.length<127)
  (h:∀(out:Array Value)(DJ:List Int),IntsAre out.toList DJ->DJ.Perm ns->DJ.Pairwise (·<=·)->P (.done (.ret .none)) { s with heap:=sortedHeap s.heap a vs out }):
  wpAny (model prog w) A (Builtin.«list.sort» ⟨[.ref a],[]⟩) P E s:=by
 by_cases vy:vs.length<64
 ·exact list_sort_tree ho hI vy h
 rw[list_sort_plain];have ha:a<s.heap.objs.size:=vX ho;refine wX (listItems_at ho rfl ?_);refine wX (listUpdate_at ho rfl ?_);obtain⟨e1,DF⟩:∃e1,(s.heap.update a (Obj.mapSeq λ_=>#[])).get? a=some (seqObj "list" #[] e1):=⟨_,get?_update_seq ho (λ_=>#[])⟩;refine wX (seqEpoch_at DF rfl ?_);refine wX (wpAny_newTuple ?_);refine wX (wpAny_newList ?_);refine wpAny_holding ?_;have K1:(((s.heap.update a (Obj.mapSeq λ_=>#[])).push (seqObj "tuple" vs.toArray 0)).push (seqObj "list" #[] 0)).get? a=some (seqObj "list" #[] e1):=by
  rw[Heap.get?_push_ne _ _ _ (by rw[size_push',Heap.size_update];exact vS (Nat.lt_succ_of_lt ha)),Heap.get?_push_ne _ _ _ (by rw[Heap.size_update];exact vS ha)];exact DF
 show wpAny (model prog w) A _ P E { s with heap:=((s.heap.update a (Obj.mapSeq λ_=>#[])).push (seqObj "tuple" vs.toArray 0)).push (seqObj "list" #[] 0) };dsimp only;have hsz:¬vs.toArray.size<2:=by rw[vG];omega
 rw[if_neg hsz,if_neg hsz];obtain⟨v₁,v₂,rest,rfl⟩:∃v₁ v₂ rest,vs=v₁::v₂::rest:=by
  match vs,vy with
  |[],h=>exact absurd (show 0<64 by decide) h
  |[_],h=>exact absurd (show 1<64 by decide) h
  |v₁::v₂::rest,_=>exact⟨v₁,v₂,rest,rfl⟩
 rw[keyKind_ints hI];refine wX (wY ?_);refine wX (wpAny_mono (uW (a₀:=pairsOf (v₁::v₂::rest)) (st:=SortSt.mk' oneType' ((v₁::v₂::rest).toArray.zip (v₁::v₂::rest).toArray) #[] 7 none)
  (Q:=λ_ ax=>(arrOf ax).Perm (pairsOf (v₁::v₂::rest))/\failedOf ax=none/\SortedTo (arrOf ax) (pairsOf (v₁::v₂::rest)).size)
  hI.intKeys ⟨Array.Perm.refl _,rfl,rfl,rfl⟩ (by rw[pairsOf_size];omega) (by rw[pairsOf_size];exact Dq) λax a1 a2 a3=>⟨a1,a2,a3⟩) ?_ λ_ _ e=>e)
 rintro⟨⟨⟩,ax⟩ s' ⟨rfl,hp,hf,hs⟩;dsimp only;refine wX (seqEpoch_at K1 rfl ?_);refine wX (listUpdate_at K1 rfl ?_ (hsz2:=by refine vR (Nat.le_of_eq ((Array.size_map ..).trans (hp.size_eq.trans (pairsOf_size _)))) ?_;rw[sizeLine_eq];omega));rw[hf];simp only[bne_self_eq_false,uV,if_false];obtain⟨DJ,h1,h2,h3⟩:=sorted_out hI hp hs;exact wY (h _ DJ h1 h2 h3)
end TS
namespace DL
open PySem PySem.Spec PySem.W PyProof.Rows L2
noncomputable def xU:Value->Int
 |.int n _=>n
 |_=>0
theorem KQ {prog:Program}{w:World}:KOf (PySem.intKind prog w) xU .int:=⟨intKind_is prog w,λh=>Value.isInt_shape h,λ_ _=>rfl,λ_ _=>rfl⟩
theorem pY:∀(vs:List Value),(∀v∈vs,∃x t,v=.int x t)->IntsAre vs (vs.map xU)
 |[],_=>.nil
 |v::vs,h=>by
  obtain⟨x,t,rfl⟩:=h v mX;exact .cons x t (pY vs λu hu=>h u (mZ _ hu))
theorem KR {prog:Program}{w:World}:pF prog w xU .int 127 λts=>a9 ((gy ts).map V.int):=λh1 h2 h3 ho h=>
 TS.mx ho (pY _ h1) h3 λout DJ a1 a2 a3=>h out (by have e:=xB (a2.trans h2) a3;subst e;exact fm a1)
theorem IntsAre.at:∀ {vs:List Value}{ss:List Int},IntsAre vs ss->∀(i:Nat)(v:Value),vs[i]? = some v->∃x t,v=.int x t/\ss[i]? = some x
 |_,_,.nil,i,v,h=>by simp at h
 |_,_,.cons x t hr,0,v,h=>by simp at h;exact⟨x,t,h.symm,rfl⟩
 |_,_,.cons x t hr,i+1,v,h=>by
  simp only[List.getElem?_cons_succ]at h;exact IntsAre.at hr i v h
@[simp] def je:D->OB:=pK jM gy .int 127
theorem jQ {X:Cx}{e:Expr}{pos pos2 p p2:Pos}(hc:X.calm=true)(m1:X.mg "sorted" = none)(m2:X.mg "set" = none)(he:JE X e f)(g1:Gl X "sorted":=by rfl)(g2:Gl X "set":=by rfl)
  (h1:starEach [e] X.env=(false,eval e X.env)::starEach [] X.env:=by rfl):JE X (.Call (.Name "sorted" p) [.Call (.Name "set" p2) [e] [] pos2] [] pos) (f1 je f) :=
 pL KQ KR (λts=>(fY _ ts).length_eq) pM (λr' hl ez=>have h:=tu r' hl ez;⟨IntsAre.length h,IntsAre.at h⟩) (by decide) hc m1 m2 he g1 g2 h1
def ER (ns:List Int):Prop:=∀i∈ns,Builtin.Int.intBits i<=1048576
abbrev CG:D->D->OB:=pe (λi j=>decide (Builtin.Int.intBits i<=2097152/\Builtin.Int.intBits j<=2097152)) λi j=>.int (i*j)
theorem CH {X:Cx}:bY X (binaryOp .Mult) (rD X.K CG):=iO (C:=λi j=>Builtin.Int.intBits i<=2097152/\Builtin.Int.intBits j<=2097152) (g:=λi j=>.int (i*j)) (Ed λ_ _ _ _ _ _ _ hc q=>mul_int q (IntMulOk.of_le hc.1 hc.2 (by decide))) (λ_ _ h=>of_decide_eq_true h) λ_ _ _=>.int _
theorem CJ {ns:List Int}(h:WData.layableAll [WData.list (ns.map WData.int)]=true):ER ns:=λi hi=>by
 have h1:(WData.list (ns.map WData.int)).layable=true:=layableW_arg h _ (List.mem_singleton.mpr rfl);have h2:=layableW_item h1 (WData.int i) (List.mem_map.mpr ⟨i,hi,rfl⟩);unfold WData.layable at h2;have h3:=of_decide_eq_true (vC _ _ ▸ h2).2;unfold WData.weight at h3;unfold Builtin.Int.intBits;omega
theorem walkB {l:PySem.W.OpenLaw}{q:Program}{FR:List Str}{XP:(Str->Option Value)->Heap->Prop}{YP:World->Heap->Prop}{d:DefRec}{K:Params->Frag}{k:Nat}{x:Str}{f:List D->OB}{L:List (Str×Option (Addr×Addr))}(hn:l.most=some 63)(Mm:d.params.defaults=[])(hr:dz k callerA)
  (hY:∀(w:World)(h:Heap),YP w h->(K w.params).In h) (hT:∀w:World,kB (K w.params) L) (hD:(L.all λp=>p.2.isNone || ((recsOf q).find? λe=>e.name == p.1).isSome)=true)
  (F:∀(w:World)(mg:Str->Option Value)(fa:Addr)(h:Heap),(K w.params).In h->h.Ns mainGlobals mg->mg d.name=some (.ref fa) ->
   ∃fd:FuncData,(∀(s:Shared)(u:Value),BindsTo s fd ⟨[u],[]⟩ [(x,u)])/\∀base:Heap,(K w.params).In base->base.Ns mainGlobals mg->jG l.prog w (K w.params) mg base qT k fa fd [x] (AU (K w.params) f))
  (ht:∀ns:List Int,ns.length<=63->ER ns->∃b,f [.lst (ns.map .int)]=some (.bl true,b)):PySem.W.WalkO q FR XP YP l.row.toRowW d [] (λf vs=>PySem.call f vs):=by
 intro w s₀ s₁ mg mb G Y fa o pm cd doc dV kV ho hd jX hD' hmg hg args vals as qD hlay hrd HW Dp;obtain rfl:dV=.none:=Dflts.none hD' Mm;obtain rfl:kV=.none:=Dflts.noKw hD';obtain⟨a,vs,ns,rfl,rfl,IK,FU,bp⟩:=Att.uq hn qD HW;have KX:=hY w _ Y;obtain⟨fd,hb,hF⟩:=F w mg fa _ KX G.T.g hmg;refine enter_call (codeAny_mono (uz (oh L) (λb u e=>?_) (hT w).none KX G.T.g G.T.b G.T.builtins G.T.nolimit G.T.bmain hg IK FU (vR bp (by decide)) hr hF hb λH hH hS=>?_) λr s' hq=>?_)
 ·obtain⟨p,hp,e2⟩:=List.mem_filterMap.mp (gu e);obtain⟨⟨c,P⟩,e3,e4⟩:=oY e2;cases e4
  have IL:=List.all_eq_true.mp hD p hp;rw[e3]at IL;rw[Option.isNone_some,Bool.false_or]at IL;obtain⟨r,Mn⟩:=Option.isSome_iff_exists.mp IL;have Mo:PySem.W.tabIn (K w.params) p.1=some (c,P):=by
   rw[(hT w).names]at hp;obtain⟨y,_,rfl⟩:=List.mem_map.mp hp;exact e3
  obtain⟨h1,h2⟩:=PySem.W.tab_of G.T KX Mn Mo;exact⟨h2,(h1.tab h2).isCodeTable⟩
 ·obtain⟨b,e⟩:=ht ns bp (CJ hlay);exact⟨H,_,_,b,⟨.refl H,(hT w).tb hH⟩,.cons (.lst hS (.flat rfl)) .nil,e,λv H' N x' i' _=>by cases i';rfl⟩
 ·obtain⟨rfl,h2,h3,h4⟩:=hq;exact⟨.inl ⟨.bool true,.bool true,[],rfl,λ_=>rfl,.bool true,Att.ur l _,λ_=>⟨List.Pairwise.nil,λ_ hm=>(nomatch hm)⟩⟩,h2,h3,h4⟩
structure OneK (α:Type)[DecidableEq α] where
 v:α->V
 ev:Value->α->Bool
 as:List D->Option (List α)
 rel:∀ {a:α}{u:Value},aG (v a) u->∀b,ev u b=decide (a=b)
 eq:∀ {A:Around}{s:Shared}{a b:α}{u u':Value},aG (v a) u->aG (v b) u'->PySem.SeqAt.EqAt A s u u' (ev u b)
 is:∀ {K:Frag}{B:Hp}{ws:List V}{ds:List D}{l:List α},IsL K B ws ds->as ds=some l->ws=l.map v
end DL
namespace DL
open PySem L2
theorem jf (I:Nat->Env->Prop)(ds:List D)(ρ0:Env)(h0:I 0 ρ0)
  (step:∀i d ρ,ds[i]? = some d->I i ρ->∃ρ1 ρ',tg d ρ=some ρ1/\(g ρ1=some (.nx ρ')∨g ρ1=some (.ct ρ'))/\I (i+1) ρ'):
  ∃ρ',dR tg g ds ρ0=some (.nx ρ')/\I ds.length ρ':=by
 have key:∀(es:List D)(i:Nat)(ρ:Env),ds.drop i=es->i+es.length=ds.length->I i ρ->∃ρ',dR tg g es ρ=some (.nx ρ')/\I ds.length ρ':=by
  intro es;induction es with
  |nil=>intro i ρ e hl h;refine⟨ρ,by rw[wI],?_⟩;rw[←hl];exact h
  |cons d es ih=>
   intro i ρ e hl h;have hd:ds[i]? = some d:=by
    have:(ds.drop i)[0]? = some d:=by rw[e];rfl
    rwa [List.getElem?_drop,Nat.add_zero]at this
   obtain⟨ρ1,ρ',h1,h2,h3⟩:=step i d ρ hd h;have he:ds.drop (i+1)=es:=by rw[←List.drop_drop,e];rfl
   obtain⟨ρ2,k1,k2⟩:=ih (i+1) ρ' he (by simp at hl;omega) h3;refine⟨ρ2,?_,k2⟩;rw[mL,h1];rcases h2 with h2|h2<;>simp only[vJ,h2]<;>exact k1
 exact key ds 0 ρ0 (by simp) (by simp) h0
theorem lu (n:Nat)(I:Nat->Env->Prop)(ρ0:Env)(h0:I 0 ρ0)
  (step:∀(i:Nat) ρ,i<n->I i ρ->∃ρ1 ρ',tg (.int (i:Int)) ρ=some ρ1/\(g ρ1=some (.nx ρ')∨g ρ1=some (.ct ρ'))/\I (i+1) ρ'):
  ∃ρ',dR tg g (dY 0 n) ρ0=some (.nx ρ')/\I n ρ':=by
 have hl:(dY 0 n).length=n:=by simp[dY]
 obtain⟨ρ',h1,h2⟩:=jf (tg:=tg) (g:=g) I (dY 0 n) ρ0 h0 λi d ρ hd h=>by
  unfold dY at hd;rw[vA]at hd;obtain⟨k,hk,hd⟩:=oY hd;obtain⟨eO,hk⟩:=vV hk;rw[List.length_range]at eO;rw[List.getElem_range]at hk;subst hk;rw[Int.zero_add]at hd;subst hd;exact step i ρ eO h
 rw[hl]at h2;exact⟨ρ',h1,h2⟩
theorem jA {α:Type}{xs:List α}{j:Nat}(h:j<xs.length):mF xs (j:Int)=some xs[j]:=zq (by simp[h])
theorem o5 {α:Type}{xs:List α}{i:Int}(h0:0<=i)(h:i.toNat<xs.length):mF xs i=some xs[i.toNat]:=by
 have:=jA h;rwa [Int.toNat_of_nonneg h0]at this
@[simp] theorem bw (xs:List Int):aV (xs.map D.int)=true:=by
 induction xs with
 |nil=>simp
 |cons x xs ih=>simp[ih]
@[simp] theorem yN (n:Nat)(xs:List Int):(xs.map D.int).all (aJ n)=true:=by
 induction xs with
 |nil=>simp
 |cons x xs ih=>simpa using ih
@[simp] theorem Ah (xs:List Int):(xs.map D.int).all dW=true:=by
 induction xs with
 |nil=>simp
 |cons x xs ih=>simpa using ih
theorem uY (n:Nat):dY 0 n=((List.range n).map λ(k:Nat)=>(k:Int)).map D.int:=by
 unfold dY;rw[List.map_map];apply List.map_congr_left;intro k _;simp
mutual
def jg:D->D->Bool
 |.non,.non=>true
 |.bl a,.bl b=>a == b
 |.int a,.int b=>decide (a=b)
 |.str a,.str b=>decide (a=b)
 |.ty a,.ty b=>decide (a=b)
 |.tup xs,.tup ys=>lv xs ys
 |.lst xs,.lst ys=>lv xs ys
 |_,_=>false
def lv:List D->List D->Bool
 |[],[]=>true
 |x::xs,y::ys=>jg x y && lv xs ys
 |_,_=>false
end
mutual
theorem tJ:∀ {x y:D},jg x y=true->x=y
 |.non,.non,_=>rfl
 |.bl a,.bl b,h=>by simp[jg]at h;rw[h]
 |.int a,.int b,h=>by simp[jg]at h;rw[h]
 |.str a,.str b,h=>by simp[jg]at h;rw[h]
 |.ty a,.ty b,h=>by simp[jg]at h;rw[h]
 |.tup xs,.tup ys,h=>by rw[jg]at h;rw[lx h]
 |.lst xs,.lst ys,h=>by rw[jg]at h;rw[lx h]
theorem lx:∀ {xs ys:List D},lv xs ys=true->xs=ys
 |[],[],_=>rfl
 |x::xs,y::ys,h=>by
  rw[lv,vC]at h;rw[tJ h.1,lx h.2]
end
def ES (r:OB)(d:D)(b:Bool):Bool:=match r with
 |some (e,c)=>jg e d && c == b
 |none=>false
theorem gz (h:ES r d b=true):r=some (d,b):=by
 unfold ES at h;split at h
 ·rw[vC]at h;rw[tJ h.1,eq_of_beq h.2]
 ·cases h
section
variable {f:FE}{c:FT}{g g' h:FS}{ρ ρ':Env}{i:Nat}{d:D}{b:Bool}{r:Option Res}{ds:List D}
theorem aw (hl:ds.length=n)(e:g (ds.map (λd=>some (d,false))++List.replicate k none)=some (.rt d b)):aL g n k ds=some (d,b):=by
 unfold aL;rw[if_pos hl,e]
theorem nk (n:aQ d=true):setE ρ i d b=ρ.set i (some (d,false)):=by unfold setE;rw[if_pos n]
theorem pZ (n:aV ds=true):setE ρ i (.lst ds) true=ρ.set i (some (.lst ds,true)):=by
 unfold setE;rw[if_neg (by simp),if_pos ⟨rfl,by simpa using n⟩]
theorem Bh (e:f ρ=some (d,b))(k:h (setE ρ i d b)=r):aC (b8 i f) h ρ=r:=by simp[e];exact k
theorem rO (e:f ρ=some (d,b))(n:aQ d=true)(k:h (ρ.set i (some (d,false)))=r):aC (b8 i f) h ρ=r:=Bh e (by rw[nk n];exact k)
theorem cO (e:f ρ=some (.lst ds,true))(n:aV ds=true)(k:h (ρ.set i (some (.lst ds,true)))=r):aC (b8 i f) h ρ=r:=Bh e (by rw[pZ n];exact k)
theorem cG (e:g ρ=some (.nx ρ'))(k:h ρ'=r):aC g h ρ=r:=by unfold aC;rw[e];exact k
theorem Hz (e:g ρ=some (.rt d b)):aC g h ρ=some (.rt d b):=by unfold aC;rw[e]
theorem my (e:c ρ=some true)(k:g ρ=r):eL c g g' ρ=r:=by unfold eL;rw[e];exact k
theorem ly (e:c ρ=some false)(k:g' ρ=r):eL c g g' ρ=r:=by unfold eL;rw[e];exact k
theorem eA (e:c ρ=some true)(k:g ρ=some (.rt d b)):aC (eL c g g') h ρ=some (.rt d b):=Hz (my e k)
theorem av (e:c ρ=some false)(k:h ρ=r):aC (eL c g aY) h ρ=r:=cG (ly e rfl) k
theorem aE (e:f ρ=some (d,b)):aW f ρ=some (.rt d b):=by simp[e]
theorem kx (e:ρ[i]? = some (some (d,b)))(hb:AQ d=false:=by rfl):iM i ρ=some (.rt d b):=by simp only[iM,e,hb];simp
theorem qa (e:f ρ=some (d,b))(n:aQ d=true):b8 i f ρ=some (.nx (ρ.set i (some (d,false)))):=by
 show(f ρ).map _=_;rw[e,Option.map_some,nk n]
theorem tK (e:f ρ=some (.lst ds,true))(n:aV ds=true):b8 i f ρ=some (.nx (ρ.set i (some (.lst ds,true)))):=by
 show(f ρ).map _=_;rw[e,Option.map_some,pZ n]
theorem i7 (e:ρ[i]? = some (some (.lst ds,true)))(ef:f ρ=some (d,b))(n:aQ d=true)(l:ds.length<sizeLine):ie i f ρ=some (.nx (ρ.set i (some (.lst (ds++[d]),true)))):=by
 simp[e,ef,n,l]
theorem l5 (e:fi ρ=some ds)(k:dR tg g ds ρ=some (.nx ρ')):jJ fi tg g ρ=some (.nx ρ'):=by unfold jJ;rw[e];exact k
theorem jh (e:fi (me ρ)=some ds)(k:dR tg g ds ρ=some (.nx ρ')):iN fi tg g ρ=some (.nx ρ'):=by unfold iN;rw[e];exact k
theorem gK {f:FE}{j:Nat}(e:f ρ=some (.int j,b))(hj:j<=1000):eW f ρ=some (dY 0 j):=by
 unfold eW;rw[e];simp only[];rw[if_pos (by omega)];simp
theorem bo (e:f ρ=some (.bl x,b)):br f ρ=some x:=by unfold br;rw[e]
theorem ao (e:fa ρ=some ds)(k:F ds=x):fA F fa ρ=x:=by unfold fA;rw[e,vJ];exact k
theorem ji {f1 g1:D->D->OB}{fa fb fc:FE}{x y z:D}{b1 b2 b3 b4 p q:Bool}(ea:fa ρ=some (x,b1))(eb:fb ρ=some (y,b2))(ec:fc ρ=some (z,b3))(e1:f1 x y=some (.bl p,b4))(e2:p=true->g1 y z=some (.bl q,false)):dS f1 g1 fa fb fc ρ=some (.bl (p && q),false):=by
 unfold dS;rw[ea,eb,ec];simp only[vJ,e1];cases p
 ·rfl
 ·exact e2 rfl
theorem g6 {f1 f2:FE}{p q b1:Bool}(e1:f1 ρ=some (.bl p,b1))(e2:p=true->f2 ρ=some (.bl q,false)):j4 f1 f2 ρ=some (.bl (p && q),false):=by
 unfold j4;rw[e1];cases p
 ·rfl
 ·exact e2 rfl
theorem tL {f1 f2:FE}{p q b1:Bool}(e1:f1 ρ=some (.bl p,b1))(e2:p=false->f2 ρ=some (.bl q,false)):Cp f1 f2 ρ=some (.bl (p || q),false):=by
 unfold Cp;rw[e1];cases p
 ·exact e2 rfl
 ·rfl
theorem Ai {f1:FE}{p b1:Bool}(e1:f1 ρ=some (.bl p,b1)):wK f1 ρ=some (.bl (!p),false):=by
 unfold wK;rw[e1]
theorem aO (e1:f ρ=some (d,b))(e2:fr ρ=some xs):ae f fr ρ=some (d::xs):=by
 unfold ae;rw[e1,vJ,e2,vJ]
theorem df (e1:fa ρ=some (x,b1))(e2:fb ρ=some (y,b2))(e3:op x y=z):f2 op fa fb ρ=z:=by
 unfold f2;rw[e1,vJ,e2,vJ];exact e3
theorem cP (e1:c1 ρ=some p)(e2:p=true->c2 ρ=some q):gV c1 c2 ρ=some (p && q):=by
 unfold gV;rw[e1];cases p
 ·rfl
 ·exact e2 rfl
theorem b9 (e1:c1 ρ=some p)(e2:p=false->c2 ρ=some q):cw c1 c2 ρ=some (p || q):=by
 unfold cw;rw[e1];cases p
 ·exact e2 rfl
 ·rfl
theorem dJ (e1:c1 ρ=some p):bZ c1 ρ=some (!p):=by
 unfold bZ;rw[e1];rfl
end
theorem Aj (a c:Nat):decide ([a]<[c])=decide (a<c):=by
 congr 1;rw[List.cons_lt_cons_iff];simp
@[simp] theorem tM (a c:Nat):p0 (.str ⟨#[a]⟩) (.str ⟨#[c]⟩)=some (.bl (decide (a<=c)),false):=by
 unfold p0;show some (D.bl (!decide ([c]<[a])),false)=_;rw[Aj];congr 3;by_cases h:c<a
 ·rw[decide_eq_true h,decide_eq_false (by omega)];rfl
 ·rw[decide_eq_false h,decide_eq_true (by omega)];rfl
theorem cg (h:n<=100000):n<sizeLine:=Nat.lt_of_le_of_lt h (by decide)
theorem ci (h:n<=100000):n<=sizeLine:=Nat.le_of_lt (cg h)
theorem nn {α:Type}(l:List α)(g:α->D)(p:α->Bool)(h:α->D)(e:fi ρ=some (l.map g))(hl:l.length<=100000)
  (k:∀x∈l,∃ρ1,tg (g x) (eT nT cap ρ)=some ρ1/\c ρ1=some (p x)/\(p x=true->∃b,fe ρ1=some (h x,b))):ca fi nT cap tg c fe ρ=some (.lst ((l.filter p).map h),true):=by
 have key:∀l':List α,(∀x∈l',x∈l)->dD tg c fe (eT nT cap ρ) (l'.map g)=some ((l'.filter p).map h):=by
  intro l';induction l' with
  |nil=>intro _;simp
  |cons x l' ih=>
   intro hm;obtain⟨ρ1,h1,h2,h3⟩:=k x (hm x mX);have ih:=ih λy hy=>hm y (mZ _ hy);rw[List.map_cons,qW,h1,vJ,h2,vJ];cases hp:p x with
   |false=>simp[hp,ih]
   |true=>
    obtain⟨b,h4⟩:=h3 hp;simp[hp,ih,h4]
 unfold ca;rw[e,vJ,if_pos (ci (by simpa using hl)),key l λ_ h=>h,Option.map_some]
theorem l7 {α:Type}(l:List α)(g:α->D)(h:α->D)(e:fi ρ=some (l.map g))(hl:l.length<=100000)
  (k:∀x∈l,∃ρ1,tg (g x) (eT nT cap ρ)=some ρ1/\∃b,fe ρ1=some (h x,b)):ca fi nT cap tg gg fe ρ=some (.lst (l.map h),true):=by
 have:=nn (c:=gg) (fe:=fe) l g (λ_=>true) h e hl λx hx=>by
  obtain⟨ρ1,h1,h2⟩:=k x hx;exact⟨ρ1,h1,rfl,λ_=>h2⟩
 rw[List.filter_eq_self.mpr λ_ _=>rfl]at this;exact this
@[simp] theorem qc {α:Type}(f:α->Bool)(l:List α):qZ (l.map λx=>.bl (f x))=some (l.map f):=by
 induction l with
 |nil=>rfl
 |cons x l ih=>simp[ih]
theorem qP (h0:0<=i)(h:i.toNat<z.cps.size)(hz:z.length<=100000):db (.str z) (.int i)=some (.str ⟨#[z.cps.toList.getD i.toNat 0]⟩,false):=by
 have hh:i.toNat<z.cps.toList.length:=by simpa using h
 simp only[db];rw[if_pos (ci hz),o5 h0 hh];simp[List.getD,h]
theorem rP (h0:0<=i)(h:i.toNat<ds.length):db (.lst ds) (.int i)=some (ds.getD i.toNat .non,false):=by
 simp only[db];rw[o5 h0 h];simp[List.getD,h]
theorem wz (h0:0<=i)(h:i.toNat<ds.length):db (.tup ds) (.int i)=some (ds.getD i.toNat .non,false):=by
 simp only[db];rw[o5 h0 h];simp[List.getD,h]
theorem tN {xs:List Int}{i:Int}(h0:0<=i)(h:i.toNat<xs.length):db (.lst (xs.map .int)) (.int i)=some (.int (xs.getD i.toNat 0),false):=by
 rw[rP h0 (by simpa using h)];simp[List.getD,h]
theorem va (z:Str):p9 z=z.cps.toList.map λc=>.str ⟨#[c]⟩:=rfl
theorem mod_lt {x m:Int}(hm:0<m):0<=x % m/\x % m<m:=⟨Int.emod_nonneg _ (by omega),Int.emod_lt_of_pos _ hm⟩
theorem o6:c7 [.lst ds]=some (.int ds.length,false):=rfl
theorem xV (h:0<=v):HT.bX n d (some v)=min v.toNat n:=by
 show(if v<0 then (v+(n:Int)).toNat else min v.toNat n)=_;rw[if_neg (by omega)]
theorem di (x y:D)(e1:fa ρ=some (x,false))(e2:fb ρ=some (y,false))(e3:op x y=z):f2 op fa fb ρ=z:=df e1 e2 e3
theorem tO (e:f ρ=some (.bl x,false)):br f ρ=some x:=bo e
theorem bS (e1:f ρ=some (d,false))(e2:fr ρ=some xs):ae f fr ρ=some (d::xs):=aO e1 e2
theorem vL (ds:List D)(e:fa ρ=some ds)(k:F ds=x):fA F fa ρ=x:=ao e k
theorem xW (d:D)(e:f ρ=some (d,false))(n:aQ d=true)(k:h (ρ.set i (some (d,false)))=r):aC (b8 i f) h ρ=r:=rO e n k
@[simp] noncomputable abbrev ML (rows:List D)(FV:Int)(t:Env):Env:=some (.tup rows,false)::some (.int FV,false)::t
@[simp] noncomputable abbrev eR (ns:List Int)(zs:List Str)(ms:Int)(IM:List Str)(R:List D)(a b:OB)(t:Env):Env:=some (.lst (ns.map .int),false)::some (.lst (zs.map .str),false)::some (.int ms,false)::a::some (.lst (IM.map .str),true)::some (.lst R,true)::b::t
end DL
namespace Lw
open PySem DL
noncomputable def hU:D:=(.int 255)
noncomputable def l8:D:=(.int 9999)
noncomputable def g9:D:=(.int 9)
noncomputable def gA:D:=(.int 8)
noncomputable def hV:D:=(.int 20)
noncomputable def cY:D:=(.int 8)
noncomputable def dj:D:=(.int 60)
noncomputable def aU:List (PySem.Str×D):=[(("root" : Str),(.tup [(.str "office"),(.str "matters"),(.str "further"),(.str "rule")])),(("named" : Str),(.tup [(.str "day"),(.str "office"),(.str "person")])),(("chosen" : Str),(.tup [(.str "day"),(.str "by"),(.str "office"),(.str "person"),(.str "since")])),(("heir" : Str),(.tup [(.str "day"),(.str "by"),(.str "office"),(.str "person")])),(("death" : Str),(.tup [(.str "day"),(.str "person")])),(("lost" : Str),(.tup [(.str "day"),(.str "person")])),(("found" : Str),(.tup [(.str "day"),(.str "person")])),(("leave" : Str),(.tup [(.str "day"),(.str "by"),(.str "person"),(.str "matters"),(.str "stretch"),(.str "further")])),(("paper" : Str),(.tup [(.str "day"),(.str "by"),(.str "matters"),(.str "stretch"),(.str "whom"),(.str "pieces")])),(("like" : Str),(.tup [(.str "day"),(.str "by"),(.str "matters"),(.str "stretch"),(.str "whom"),(.str "of"),(.str "changes")])),(("copy" : Str),(.tup [(.str "day"),(.str "by"),(.str "of")])),(("call" : Str),(.tup [(.str "day"),(.str "by"),(.str "of")]))]
noncomputable def cj:D:=(.tup [(.str "by"),(.str "person"),(.str "whom")])
noncomputable def tP:D:=(.tup [(.str "open"),(.str "first"),(.str "last")])
def lA:FS :=
  (aW (j4 (fA a7 (fV 0 (ae (fC (.ty "int")) ah))) (j4 (wK (fA a7 (fV 0 (ae (fC (.ty "bool")) ah)))) (dS p0 p0 (ag 1) (ag 0) (ag 2)))))
def cF:=aL lA 3 0
def qd:FS :=
  (aW (fA cF (fV 0 (ae (fI 0) (ae (fC l8) ah)))))
def eB:=aL qd 1 0
def jj:FS :=
  (aC (eL (cw (bZ (br (fA a7 (fV 0 (ae (fC (.ty "tuple")) ah))))) (cw (br (f2 yJ (fA c7 (fV 0 ah)) (fI 2))) (bZ (br (fA eB (ae (gn 0 0) ah)))))) (aW (fC (.bl false))) aY)
  (aW (Cp (f2 Gj (gn 0 1) (fC .non)) (j4 (fA eB (ae (gn 0 1) ah)) (f2 yK (gn 0 0) (gn 0 1))))))
def cQ:=aL jj 1 0
def jk:FS :=
  (aW (fA cF (fV 0 (ae (fI 1) (ae (fC hU) ah)))))
def dL:=aL jk 1 0
def np:FS :=
  (aC (eL (cw (bZ (br (fA a7 (fV 0 (ae (fC (.ty "str")) ah))))) (bZ (br (dS p0 p0 (fI 1) (fA c7 (fV 0 ah)) (fC gA))))) (aW (fC (.bl false))) aY)
  (aW (fA mi (ae (ca (cE (ag 0)) 1 [] (gj 0) gg (dS p0 p0 (fS "a") (ag 0) (fS "z"))) ah))))
def dQ:=aL np 1 0
def nq:FS :=
  (aW (j4 (fA a7 (fV 0 (ae (fC (.ty "str")) ah))) (f2 sT (ag 0) (fC tP))))
def nr:=aL nq 1 0
def lB:FS :=
  (aW (fA dQ (fV 0 ah)))
def eC:=aL lB 1 0
def jR:FS :=
  (aC (eL (cw (bZ (br (fA a7 (fV 0 (ae (fC (.ty "tuple")) ah))))) (bZ (br (dS p0 p0 (fI 1) (fA c7 (fV 0 ah)) (fC cY))))) (aW (fC (.bl false))) aY)
  (aW (fA mi (ae (ca (cE (ag 0)) 1 [] (gj 0) gg (fA eC (fV 0 ah))) ah))))
def eN:=aL jR 1 0
def jS:FS :=
  (aC (eL (cw (bZ (br (fA a7 (fV 0 (ae (fC (.ty "tuple")) ah))))) (br (f2 yJ (fA c7 (fV 0 ah)) (fI 2)))) (aW (fC (.bl false))) aY)
  (aW (j4 (fA cF (ae (gn 0 0) (ae (fI 0) (ae (f2 Cs (fC cY) (fI 1)) ah)))) (fA eC (ae (gn 0 1) ah)))))
def dm:=aL jS 1 0
def jl:FS :=
  (aC (eL (cw (bZ (br (fA a7 (fV 0 (ae (fC (.ty "tuple")) ah))))) (bZ (br (fA mi (ae (ca (cE (ag 0)) 1 [] (gj 0) gg (fA dm (fV 0 ah))) ah))))) (aW (fC (.bl false))) aY)
  (aC (b8 1 (ca (cE (ag 0)) 1 [] (gj 0) gg (gn 0 0)))
  (aW (fA mi (ae (ca (u8 (ag 1) (yL (ag 1) (gt (fI 1)) gX)) 2 [] (re [0,1]) gg (f2 yK (ag 0) (ag 1))) ah)))))
def fZ:=aL jl 1 1
def nu:FS :=
  (aC (eL (cw (br (f2 eZ (ag 0) (fS "day"))) (br (f2 eZ (ag 0) (fS "since")))) (aW (fA eB (fV 1 ah))) aY)
  (aC (eL (cw (br (f2 eZ (ag 0) (fS "office"))) (cw (br (f2 eZ (ag 0) (fS "by"))) (br (f2 eZ (ag 0) (fS "person"))))) (aW (fA dQ (fV 1 ah))) aY)
  (aC (eL (br (f2 eZ (ag 0) (fS "whom"))) (aW (Cp (f2 Gj (ag 1) (fC .non)) (fA dQ (fV 1 ah)))) aY)
  (aC (eL (br (f2 eZ (ag 0) (fS "matters"))) (aW (fA dL (fV 1 ah))) aY)
  (aC (eL (br (f2 eZ (ag 0) (fS "stretch"))) (aW (fA cQ (fV 1 ah))) aY)
  (aC (eL (br (f2 eZ (ag 0) (fS "further"))) (aW (fA cF (fV 1 (ae (fI 0) (ae (fC g9) ah))))) aY)
  (aC (eL (br (f2 eZ (ag 0) (fS "rule"))) (aW (fA nr (fV 1 ah))) aY)
  (aC (eL (br (f2 eZ (ag 0) (fS "of"))) (aW (fA cF (fV 1 (ae (fI 0) (ae (f2 Cs (fC dj) (fI 1)) ah))))) aY)
  (aC (eL (br (f2 eZ (ag 0) (fS "pieces"))) (aW (fA eN (fV 1 ah))) aY)
  (aW (fA fZ (fV 1 ah))))))))))))
def aT:=aL nu 2 0
def nv:FS :=
  (aC (eL (cw (bZ (br (fA a7 (fV 0 (ae (fC (.ty "tuple")) ah))))) (cw (br (f2 eZ (fA c7 (fV 0 ah)) (fI 0))) (bZ (br (fA a7 (ae (gn 0 0) (ae (fC (.ty "str")) ah))))))) (aW (fC (.bl false))) aY)
  (aC (eL (cw (br (f1 (kS aU) (gn 0 0))) (br (f2 yJ (fA c7 (fV 0 ah)) (f2 bv (fI 1) (fA c7 (ae (f1 (gm aU) (gn 0 0)) ah)))))) (aW (fC (.bl false))) aY)
  (aW (fA mi (ae (ca (u8 (f1 (gm aU) (gn 0 0)) (yL (ag 0) (gt (fI 1)) gX)) 2 [] (re [0,1]) gg (fA aT (fV 0 (fV 1 ah)))) ah)))))
def jB:=aL nv 1 0
def nw:FS :=
  (aW (f2 db (gn 0 1) (fI 0)))
def bA:=aL nw 1 0
def ny:FS :=
  (aW (f2 db (gn 0 1) (f2 bv (fI 1) (f2 (lg aU) (fA bA (fV 0 ah)) (ag 1)))))
def cH:=aL ny 2 0
def qe:FS :=
  (aC (eL (br (f2 eZ (fA bA (fV 0 ah)) (fS "root"))) (aW (fC .non)) aY)
  (aW (fA cH (fV 0 (ae (fS "day") ah)))))
def jm:=aL qe 1 0
def jT:FS :=
  (aC (b8 1 (fA jm (fV 0 ah)))
  (aC (eL (br (f2 Gj (ag 1) (fC .non))) (aW (fC (.bl true))) aY)
  (aC (eL (gV (br (f2 eZ (fA bA (fV 0 ah)) (fS "chosen"))) (br (f2 yK (fA cH (fV 0 (ae (fS "since") ah))) (ag 1)))) (aW (fC (.bl false))) aY)
  (aW (f2 p0 (ag 1) (gn 0 0))))))
def gB:=aL jT 1 1
def qf:FS :=
  (aC (eL (cw (bZ (br (fA a7 (fV 0 (ae (fC (.ty "tuple")) ah))))) (br (f2 yJ (fA c7 (fV 0 ah)) (fI 2)))) (aW (fC (.bl false))) aY)
  (aW (j4 (fA eB (ae (gn 0 0) ah)) (j4 (fA jB (ae (gn 0 1) ah)) (fA gB (fV 0 ah))))))
def lC:=aL qf 1 0
def gC:FS :=
  (aW (ca (cE (ag 0)) 1 [] (gj 0) (br (f2 eZ (fA bA (fV 0 ah)) (fS "root"))) (fA cH (fV 0 (ae (fS "office") ah)))))
def eE:=aL gC 1 0
def fD:FS :=
  (aW (j4 (f2 eZ (fA bA (fV 1 ah)) (fS "root")) (f2 sT (fA cH (fV 1 (ae (fS "office") ah))) (fA eE (fV 0 ah)))))
def cT:=aL fD 2 0
def lD:FS :=
  (aW (Jn (f1 (gm aU) (fA bA (fV 0 ah))) (yL (gn 0 1) (gt (fI 1)) gX)))
def bQ:=aL lD 1 0
def jU:FS :=
  (aC (b8 1 (ca (cE (fA bQ (fV 0 ah))) 2 [] (re [0,1]) (gV (br (f2 sT (ag 0) (fC cj))) (br (f2 iq (ag 1) (fC .non)))) (ag 1)))
  (aW (f1 lb (ag 1))))
def dr:=aL jU 1 1
def gh:FS :=
  (mj 1 (fA dr (fV 2 ah)))
def gD:FS :=
  (aC (b8 1 (fA aS ah))
  (aC (iN (cE (ag 0)) (gj 2) gh)
  (aW (f1 iZ (ag 1)))))
def eF:=aL gD 1 2
def jn:FS :=
  (aC (eL (cw (br (f2 Jl (ag 1) (fC dj))) (bZ (br (fA lC (ae (f2 db (ag 0) (ag 1)) ah))))) (aW (fC (.bl true))) aY)
  (aW (Cp (fA cT (ae (yL (ag 0) gX (gt (ag 1))) (ae (f2 db (ag 0) (ag 1)) ah))) (f2 Dz (fA eF (ae (yL (ag 0) gX (gt (f2 bv (ag 1) (fI 1)))) ah)) (fC hV)))))
def ga:=aL jn 2 0
def gE:FS :=
  (eL (br (fA ga (fV 1 (fV 2 ah)))) rh aY)
def hW:FS :=
  (aC (eL (bZ (br (fA ja (fV 0 (ae (fA bN (ae (fC (.ty "list")) (ae (fC (.ty "tuple")) ah))) ah))))) rh aY)
  (aC (b8 1 (fA et (fV 0 ah)))
  (aC (jJ (eW (fA c7 (fV 1 ah))) (gj 2) gE)
  (iM 1))))
def bx:=aL hW 1 2
def gb:FS :=
  (eL (cw (br (f2 eZ (ag 2) (fS "day"))) (br (f2 eZ (ag 2) (fS "since")))) (ie 1 (ag 3)) (eL (br (f2 eZ (ag 2) (fS "stretch"))) (mj 1 (ca (cE (ag 3)) 1 [] (gj 0) (br (f2 iq (ag 0) (fC .non))) (ag 0))) aY))
def gL:FS :=
  (aC (b8 1 (fA aS (ae (gn 0 0) ah)))
  (aC (iN (cE (fA bQ (fV 0 ah))) (re [2,3]) gb)
  (iM 1)))
def fE:=aL gL 1 3
def iA:FS :=
  (mj 1 (fA fE (fV 2 ah)))
def gM:FS :=
  (aC (b8 1 (fA aS (ae (fI 0) ah)))
  (aC (iN (cE (ag 0)) (gj 2) iA)
  (aW (f1 je (ag 1)))))
def bT:=aL gM 1 2
def qg:FS :=
  (aC (eL (br (f2 yK (ag 1) (fA c7 (fV 0 ah)))) (aW (f2 db (ag 0) (ag 1))) aY)
  (aC (b8 2 (f2 bv (f2 gS (fI 9973) (ag 1)) (fI 11)))
  (aC (eL (br (f2 Dz (fA c7 (fV 0 ah)) (fI 0))) (b8 2 (f2 bv (f2 bv (f2 gS (f2 db (ag 0) (f2 aP (f2 gS (ag 1) (fI 7)) (fA c7 (fV 0 ah)))) (fI 48271)) (f2 gS (f2 gS (ag 1) (ag 1)) (fI 1013))) (fI 3))) aY)
  (aW (f2 aP (f2 CG (ag 2) (ag 2)) (fI 2147483647))))))
def bL:=aL qg 2 1
def lE:FS :=
  (aC (b8 6 (fA dI (fV 2 ah)))
  (aC (xl 6 (ag 3) (f2 db (ag 1) (f2 aP (f2 bv (f2 bt (ag 0) (fI 64)) (f2 gS (fI 3) (ag 5))) (fI 26))))
  (ie 4 (f2 iT (fS "") (ag 6)))))
def nA:FS :=
  (aC (b8 1 (fS "abcdefghijklmnopqrstuvwxyz"))
  (aC (b8 2 (ca (eW (f2 bv (fI 1) (f2 aP (ag 0) (fI 8)))) 1 [1,0] (gj 0) gg (f2 db (ag 1) (f2 aP (f2 bt (ag 2) (f2 bv (fI 3) (f2 gS (fI 4) (ag 0)))) (fI 26)))))
  (aC (b8 3 (f2 aP (f2 bt (ag 0) (fI 8)) (fA c7 (fV 2 ah))))
  (aC (b8 4 (fA aS ah))
  (aC (jJ (eW (fI 6)) (gj 5) lE)
  (iM 4))))))
def jC:=aL nA 1 6
def qh:FS :=
  (aC (b8 4 (fA bN (ae (f2 aP (f2 bt (ag 0) (fI 13)) (fI 40)) (ae (f2 db (fA aS (ae (fC .non) (ae (f2 bv (f2 bv (f2 aP (f2 bt (ag 0) (fI 13)) (fI 40)) (fI 1)) (f2 aP (f2 bt (ag 0) (fI 11)) (fI 900))) ah))) (f2 aP (f2 bt (ag 0) (fI 7)) (fI 2))) ah))))
  (aC (b8 5 (f2 db (ag 3) (f2 aP (f2 bt (ag 0) (fI 3)) (fI 4))))
  (aC (b8 6 (f2 db (ag 3) (f2 aP (f2 bt (ag 0) (fI 17)) (fI 4))))
  (aC (b8 7 (fA aS (ae (fA bN (ae (fS "named") (fV 2 (ae (gn 3 4) (fV 5 ah))))) (ae (fA bN (ae (fS "chosen") (fV 2 (fV 5 (ae (gn 3 4) (fV 6 (ae (fA mh (ae (fI 9999) (ae (f2 bv (ag 2) (f2 aP (f2 bt (ag 0) (fI 19)) (fI 50))) ah))) ah))))))) ah))))
  (aC (b8 7 (f2 bv (ag 7) (fA aS (ae (fA bN (ae (fS "heir") (fV 2 (fV 5 (ae (gn 3 5) (fV 6 ah)))))) (ae (fA bN (ae (fS "death") (fV 2 (fV 5 ah)))) (ae (fA bN (ae (fS "lost") (fV 2 (fV 5 ah)))) (ae (fA bN (ae (fS "found") (fV 2 (fV 6 ah)))) ah)))))))
  (aC (b8 7 (f2 bv (ag 7) (fA aS (ae (fA bN (ae (fS "leave") (fV 2 (fV 5 (fV 6 (ae (f2 bv (fI 1) (f2 aP (f2 bt (ag 0) (fI 5)) (fI 255))) (fV 4 (ae (f2 aP (f2 bt (ag 0) (fI 23)) (fI 10)) ah)))))))) ah))))
  (aC (b8 7 (f2 bv (ag 7) (fA aS (ae (fA bN (ae (fS "paper") (fV 2 (fV 5 (ae (f2 bv (fI 1) (f2 aP (f2 bt (ag 0) (fI 5)) (fI 255))) (fV 4 (ae (f2 db (fA aS (ae (fC .non) (fV 6 ah))) (f2 aP (ag 0) (fI 2))) (ae (fA bN (fV 5 (fV 6 ah))) ah)))))))) ah))))
  (aC (b8 7 (f2 bv (ag 7) (fA aS (ae (fA bN (ae (fS "like") (fV 2 (fV 5 (ae (f2 bv (fI 1) (f2 aP (f2 bt (ag 0) (fI 5)) (fI 255))) (fV 4 (ae (fC .non) (ae (f2 aP (f2 bt (ag 0) (fI 29)) (fI 60)) (ae (fA bN (ae (fA bN (ae (fI 0) (fV 6 ah))) ah)) ah))))))))) ah))))
  (aW (f2 db (f2 bv (ag 7) (fA aS (ae (fA bN (ae (fS "copy") (fV 2 (fV 6 (ae (f2 aP (f2 bt (ag 0) (fI 29)) (fI 60)) ah))))) (ae (fA bN (ae (fS "call") (fV 2 (fV 5 (ae (f2 aP (f2 bt (ag 0) (fI 31)) (fI 60)) ah))))) ah)))) (ag 1)))))))))))
def fF:=aL qh 4 4
def nB:FS :=
  (aC (b8 4 (f2 aP (fA bL (fV 0 (ae (f2 bv (fI 2) (ag 3)) ah))) (f2 Ct (fI 10) (fI 15))))
  (aC (b8 5 (f2 aP (f2 bt (ag 4) (fI 12)) (f2 db (fA aS (ae (fI 3) (ae (fI 31) (ae (fI 10000) ah)))) (f2 aP (fA bL (fV 0 (ae (fI 1) ah))) (fI 3)))))
  (aC (b8 6 (fA bN (ae (fS "root") (ae (f2 db (ag 1) (f2 bv (fI 4) (f2 aP (ag 3) (fI 2)))) (ae (f2 bv (fI 1) (f2 aP (f2 bt (ag 4) (fI 5)) (fI 255))) (ae (f2 aP (f2 bt (ag 4) (fI 7)) (fI 10)) (ae (f2 db (fA aS (ae (fS "open") (ae (fS "first") (ae (fS "last") ah)))) (f2 aP (f2 bt (ag 4) (fI 9)) (fI 3))) ah)))))))
  (aC (eL (cw (br (f2 Dz (ag 3) (fI 1))) (br (f2 yK (f2 aP (ag 4) (fI 12)) (fI 11)))) (b8 6 (fA fF (ae (f2 bt (ag 4) (fI 12)) (ae (f2 aP (ag 4) (fI 11)) (fV 5 (fV 1 ah)))))) aY)
  (ie 2 (fA bN (ae (fA mh (ae (fI 9999) (ae (f2 bv (ag 5) (f2 db (fA aS (ae (fI 0) (ae (fI 0) (ae (fI 1) (ae (f2 aP (f2 bt (ag 4) (fI 37)) (fI 99)) ah))))) (f2 aP (f2 bt (ag 4) (fI 41)) (fI 4)))) ah))) (fV 6 ah))))))))
def qi:FS :=
  (aC (b8 1 (fA jC (ae (fA bL (fV 0 (ae (fI 0) ah))) ah)))
  (aC (b8 2 (fA aS ah))
  (aC (jJ (eW (f2 db (fA aS (ae (fA mh (ae (fI 24) (ae (f2 bv (fA c7 (fV 0 ah)) (fI 1)) ah))) (ae (fI 24) ah))) (f2 aP (f2 bt (fA bL (fV 0 (ae (fI 1) ah))) (fI 3)) (fI 2)))) (gj 3) nB)
  (iM 2))))
def jo:=aL qi 1 6
def jD:FS :=
  (eL (gV (br (fA a7 (fV 4 (ae (fC (.ty "tuple")) ah)))) (gV (br (f2 sT (gn 3 0) (fA bN (ae (fS "leave") (ae (fS "paper") (ae (fS "like") ah)))))) (br (f2 eZ (fA c7 (fV 4 ah)) (fI 2))))) (b8 1 (f2 bv (ag 1) (ca (cE (ag 4)) 1 [] (gj 0) (br (fA a7 (fV 0 (ae (fC (.ty "int")) ah)))) (ag 0)))) aY)
def gN:FS :=
  (aC (ie 1 (ag 2))
  (aC (eL (br (f2 yJ (gn 3 0) (fS "root"))) (ie 1 (gn 3 1)) aY)
  (aC (eL (br (f2 eZ (gn 3 0) (fS "chosen"))) (ie 1 (gn 3 5)) aY)
  (Gn [3] (iN (cE (ag 3)) (gj 4) jD)))))
def jp:FS :=
  (aC (b8 1 (fA aS (ae (fI 0) ah)))
  (aC (iN (cE (ag 0)) (re [2,3]) gN)
  (aW (f1 je (ag 1)))))
def jq:=aL jp 1 4
def qj:FS :=
  (aC (eL (cw (bZ (br (fA a7 (fV 0 (ae (fC (.ty "list")) ah))))) (br (f2 yJ (ag 0) (ag 1)))) (aW (fC (.bl false))) aY)
  (aW (f2 eZ (fA c7 (ae (ca (cE (ag 0)) 1 [] (gj 0) (cw (bZ (br (fA a7 (fV 0 (ae (fC (.ty "int")) ah))))) (br (fA a7 (fV 0 (ae (fC (.ty "bool")) ah))))) (ag 0)) ah)) (fI 0))))
def du:=aL qj 2 0
def tQ:FS :=
  (aC (b8 1 (fA jo (fV 0 ah)))
  (aC (b8 2 (fA bx (ae (fA dI (fV 1 ah)) ah)))
  (aC (b8 3 (fA jq (fV 1 ah)))
  (aC (b8 4 (fA bT (fV 2 ah)))
  (aC (eL (bZ (br (fA du (fV 4 (fV 3 ah))))) (aW (fC (.bl false))) aY)
  (aC (ie 4 (fI 3))
  (aC (zV 4 λds=>some ds.reverse)
  (aW (j4 (fA du (ae (fA bT (fV 2 ah)) (fV 3 ah))) (fA du (ae (fA bT (ae (fA bx (ae (fA aS ah) ah)) ah)) (ae (fA aS (ae (fI 0) ah)) ah))))))))))))
def F_law:=aL tQ 1 4
end Lw
namespace DL
open PySem L2
theorem lF:∀(n m:Nat)(d:D),n<=m->aJ n d=true->aJ m d=true
 |n,m,.non,_,_=>by simp
 |n,m,.bl _,_,_=>by simp
 |n,m,.int _,_,_=>by simp
 |n,m,.str _,_,_=>by simp
 |n,m,.ty _,_,h=>by cases n<;>simp[aJ]at h
 |n,m,.dk _ _,_,h=>by simp at h
 |n,m,.dt _ _,_,h=>by simp at h
 |0,m,.tup _,_,h=>by simp[aJ]at h
 |0,m,.lst _,_,h=>by simp[aJ]at h
 |n+1,0,_,h,_=>by omega
 |n+1,m+1,.tup ds,hl,h=>by
  simp only[aJ,List.all_eq_true]at h ⊢;exact λd hd=>lF n m d (by omega) (h d hd)
 |n+1,m+1,.lst ds,hl,h=>by
  simp only[aJ,List.all_eq_true]at h ⊢;exact λd hd=>lF n m d (by omega) (h d hd)
theorem jE:∀(ds:List D),(∀d∈ds,cm d d=true)->gl ds ds=true
 |[],_=>by simp only[gl]
 |d::ds,h=>by
  simp only[gl,h d mX,Bool.true_and];exact jE ds λe he=>h e (mZ _ he)
theorem lG:∀(n:Nat)(d:D),aJ n d=true->cm d d=true
 |n,.non,_=>by simp
 |n,.bl _,_=>by simp
 |n,.int _,_=>by simp
 |n,.str _,_=>by simp
 |n,.ty _,h=>by cases n<;>simp[aJ]at h
 |n,.dk _ _,h=>by simp at h
 |n,.dt _ _,h=>by simp at h
 |0,.tup _,h=>by simp[aJ]at h
 |0,.lst _,h=>by simp[aJ]at h
 |n+1,.tup ds,h=>by
  simp only[aJ,List.all_eq_true]at h;simp only[cm];exact jE ds λd hd=>lG n d (h d hd)
 |n+1,.lst ds,h=>by
  simp only[aJ,List.all_eq_true]at h;simp only[cm];exact jE ds λd hd=>lG n d (h d hd)
end DL
namespace Lw
open PySem DL L2
theorem vM (d:D)(r:List D):mF (d::r) 0=some d:=by have:=jA (xs:=d::r) (j:=0) (by simp);simpa using this
theorem yO (d e:D)(r:List D):mF (d::e::r) 1=some e:=by have:=jA (xs:=d::e::r) (j:=1) (by simp);simpa using this
theorem cI (zs:List Str):aV (zs.map D.str)=true:=by
 induction zs with
 |nil=>rfl
 |cons a l ih=>simp[ih]
theorem eG {ds:List D}(h:∀d∈ds,aQ d=true):aV ds=true:=by
 induction ds with
 |nil=>rfl
 |cons d r ih=>simp[h d (by simp),ih λe he=>h e (by simp[he])]
theorem CK (d:D)(r:List D):kO (d::r) (some 1) none=r:=by
 unfold kO;rw[xV (v:=1) (by decide)];have:HT.bX (d::r).length (d::r).length none=(d::r).length:=rfl;rw[this];have:min (1:Int).toNat (d::r).length=1:=by simp
 rw[this];simp
theorem qk (rows:List D)(n:Nat):kO rows none (some (n:Int))=rows.take n:=by
 unfold kO;rw[HT.wt,HT.zk];simp
theorem nD {op:D->OB}{fa:FE}{ρ:DL.Env}{x:D}{b:Bool}{z:OB}(e1:fa ρ=some (x,b))(e2:op x=z):f1 op fa ρ=z:=by unfold f1;rw[e1];exact e2
theorem ql (parts:List Str)(rest:List D):ej (parts.map .str) rest=(parts.zip rest).map λx=>.tup [.str x.1,x.2]:=by
 induction parts generalizing rest with
 |nil=>rfl
 |cons a l ih=>
  cases rest with
  |nil=>rfl
  |cons d r=>have:=ih r;unfold ej at this ⊢;simp[this]
theorem jr {α:Type}(l:List α):mi [.lst (l.map λ_=>.bl true)]=some (.bl true,false):=by
 have:=qc (λ_:α=>true) l;simp only[mi,this,Option.map_some];congr 2;simp
noncomputable def jV (c:Nat):Bool:=decide (97<=c) && decide (c<=122)
theorem CL:("a" : Str)=⟨#[97]⟩:=by decide +kernel
theorem CM:("z" : Str)=⟨#[122]⟩:=by decide +kernel
theorem qm (c:Nat)(ρ:DL.Env)(h:ρ[0]? = some (some (.str ⟨#[c]⟩,false))):dS p0 p0 (fC (.str "a")) (ag 0) (fC (.str "z")) ρ=some (.bl (jV c),false):=by
 refine ji (x:=.str ⟨#[97]⟩) (y:=.str ⟨#[c]⟩) (z:=.str ⟨#[122]⟩) (b1:=false) (b2:=false) (b3:=false) (b4:=false) ?_ ?_ ?_ (tM _ _) λ_=>tM _ _
 ·rw[CL];rfl
 ·simp[h]
 ·rw[CM];rfl
noncomputable def mz (z:Str):Bool:=(decide (1<=z.length) && decide (z.length<=8)) && z.cps.toList.all jV
theorem qo (z:Str):z.cps.toList.length=z.length:=by simp[Str.length]
theorem js {z:Str}(h:mz z=true):dQ [.str z]=some (.bl true,false):=by
 unfold mz at h;rw[vC,vC]at h;obtain⟨⟨h1,h8⟩,ha⟩:=h;have h1:=of_decide_eq_true h1;have h8:=of_decide_eq_true h8;have hl:z.length<=sizeLine:=ci (by omega);refine aw rfl (av (b9 (p:=false) (q:=false) (by simp) λ_=>dJ (p:=true) (bo (b:=false) ((ji (x:=.int 1) (y:=.int z.length) (z:=.int 8) (b1:=false) (b2:=false) (b3:=false) (b4:=false) (p:=true) (q:=true) rfl (by simp[hl]) rfl (by simp;omega) λ_=>by simp;omega).trans rfl))) (aE (ao (ds:=[.lst (z.cps.toList.map λc=>.bl (jV c))]) ?_ ?_)))
 ·have:=l7 (fi:=cE (ag 0)) (nT:=1) (cap:=[]) (tg:=gj 0) (fe:=dS p0 p0 (fC (.str "a")) (ag 0) (fC (.str "z"))) (ρ:=[some (.str z,false)]) z.cps.toList (λc=>.str ⟨#[c]⟩) (λc=>.bl (jV c)) (by simp[va]) (by rw[qo];omega) λc _=>
   ⟨_,rfl,false,qm c _ (by simp[eT])⟩
  exact aO (b:=true) this rfl
 ·simp only[mi,qc,Option.map_some,List.all_map];congr 2;exact congrArg D.bl ha
theorem fG {d lo hi:Int}(h1:lo<=d)(h2:d<=hi):cF [.int d,.int lo,.int hi]=some (.bl true,false):=by
 refine aw rfl (aE ((g6 (p:=true) (q:=true) (b1:=false) (by simp) λ_=>(g6 (p:=true) (q:=true) (b1:=false) (Ai (p:=false) (b1:=false) (by simp)) λ_=>(ji (x:=.int lo) (y:=.int d) (z:=.int hi) (b1:=false) (b2:=false) (b3:=false) (b4:=false) (p:=true) (q:=true) rfl rfl rfl (by simp;omega) λ_=>by simp;omega).trans rfl).trans rfl).trans rfl))
theorem gO {d:Int}(h1:0<=d)(h2:d<=9999):eB [.int d]=some (.bl true,false):=aw rfl (aE (ao (ds:=[.int d,.int 0,.int 9999]) rfl (fG h1 h2)))
theorem qp {d:Int}(h1:1<=d)(h2:d<=255):dL [.int d]=some (.bl true,false):=aw rfl (aE (ao (ds:=[.int d,.int 1,.int 255]) rfl (fG h1 h2)))
theorem qq {d:Int}(h1:0<=d)(h2:d<=9999):cQ [.tup [.int d,.non]]=some (.bl true,false):=by
 refine aw rfl (av (b9 (p:=false) (q:=false) (by simp) λ_=>b9 (p:=false) (q:=false) (by simp) λ_=>dJ (p:=true) (bo (b:=false) (ao (ds:=[.int d]) (by simp[vM]) (gO h1 h2)))) (aE ((tL (p:=true) (q:=true) (b1:=false) (by simp[yO,kc]) (by simp)).trans rfl)))
theorem nE {z:Str}(h:mz z=true):eC [.str z]=some (.bl true,false):=aw rfl (aE (ao (ds:=[.str z]) rfl (js h)))
theorem rQ {ps:List Str}(h1:1<=ps.length)(h8:ps.length<=8)(h:∀p∈ps,mz p=true):eN [.tup (ps.map .str)]=some (.bl true,false):=by
 refine aw rfl (av (b9 (p:=false) (q:=false) (by simp) λ_=>dJ (p:=true) (bo (b:=false) ((ji (x:=.int 1) (y:=.int ps.length) (z:=.int 8) (b1:=false) (b2:=false) (b3:=false) (b4:=false) (p:=true) (q:=true) rfl (by simp) rfl (by simp;omega) λ_=>by simp;omega).trans rfl))) (aE (ao (ds:=[.lst (ps.map λ_=>.bl true)]) ?_ (jr ps))));have:=l7 (fi:=cE (ag 0)) (nT:=1) (cap:=[]) (tg:=gj 0) (fe:=fA eC (ae (ag 0) ah)) (ρ:=[some (.tup (ps.map .str),false)]) ps (λp=>.str p) (λ_=>.bl true) (by simp) (by omega) λp hp=>
  ⟨_,rfl,false,ao (ds:=[.str p]) (by simp[eT]) (nE (h p hp))⟩
 exact aO (b:=true) this rfl
theorem cq {p q:Str}{v:D}{b:Bool}(h:decide (p=q)=b):br (f2 eZ (ag 0) (fC (.str q))) [some (.str p,false),some (v,false)]=some b:=bo (b:=false) (df (x:=.str p) (y:=.str q) (b1:=false) (b2:=false) rfl rfl (by simp[←h]))
theorem c2 {p q r:Str}{v:D}(h:(decide (p=q) || decide (p=r))=false):cw (br (f2 eZ (ag 0) (fC (.str q)))) (br (f2 eZ (ag 0) (fC (.str r)))) [some (.str p,false),some (v,false)]=some false:=(b9 (cq rfl) λ_=>cq rfl).trans (by rw[h])
theorem c3 {p q r t:Str}{v:D}(h:(decide (p=q) || (decide (p=r) || decide (p=t)))=false):cw (br (f2 eZ (ag 0) (fC (.str q)))) (cw (br (f2 eZ (ag 0) (fC (.str r)))) (br (f2 eZ (ag 0) (fC (.str t))))) [some (.str p,false),some (v,false)]=some false:=(b9 (cq rfl) λ_=>b9 (cq rfl) λ_=>cq rfl).trans (by rw[h])
theorem KS {p q r:Str}{v:D}(h:(decide (p=q) || decide (p=r))=true):cw (br (f2 eZ (ag 0) (fC (.str q)))) (br (f2 eZ (ag 0) (fC (.str r)))) [some (.str p,false),some (v,false)]=some true:=(b9 (cq rfl) λ_=>cq rfl).trans (by rw[h])
theorem KU {p q r t:Str}{v:D}(h:(decide (p=q) || (decide (p=r) || decide (p=t)))=true):cw (br (f2 eZ (ag 0) (fC (.str q)))) (cw (br (f2 eZ (ag 0) (fC (.str r)))) (br (f2 eZ (ag 0) (fC (.str t))))) [some (.str p,false),some (v,false)]=some true:=(b9 (cq rfl) λ_=>b9 (cq rfl) λ_=>cq rfl).trans (by rw[h])
theorem tR {p:Str}{v:D}(h0:(decide (p=("day" : Str)) || decide (p=("since" : Str)))=false)(hp:(decide (p=("office" : Str)) || (decide (p=("by" : Str)) || decide (p=("person" : Str))))=true)(h:dQ [v]=some (.bl true,false)):aT [.str p,v]=some (.bl true,false):=aw rfl (av (c2 h0) (eA (KU hp) (aE (ao (ds:=[v]) rfl h))))
theorem vc {v:D}(h:eN [v]=some (.bl true,false)):aT [.str "pieces",v]=some (.bl true,false):=aw rfl (av (c2 (by decide +kernel)) (av (c3 (by decide +kernel)) (av (cq (by decide +kernel)) (av (cq (by decide +kernel)) (av (cq (by decide +kernel)) (av (cq (by decide +kernel)) (av (cq (by decide +kernel)) (av (cq (by decide +kernel)) (eA (cq (by decide +kernel)) (aE (ao (ds:=[v]) rfl h)))))))))))
theorem xX {p:Str}{v:D}(hp:(decide (p=("day" : Str)) || decide (p=("since" : Str)))=true)(h:eB [v]=some (.bl true,false)):aT [.str p,v]=some (.bl true,false):=aw rfl (eA (KS hp) (aE (ao (ds:=[v]) rfl h)))
theorem Ak:aT [.str "whom",.non]=some (.bl true,false):=gz (by decide +kernel)
theorem rR {v:D}(h:dL [v]=some (.bl true,false)):aT [.str "matters",v]=some (.bl true,false):=aw rfl (av (c2 (by decide +kernel)) (av (c3 (by decide +kernel)) (av (cq (by decide +kernel)) (eA (cq (by decide +kernel)) (aE (ao (ds:=[v]) rfl h))))))
theorem rS {v:D}(h:cQ [v]=some (.bl true,false)):aT [.str "stretch",v]=some (.bl true,false):=aw rfl (av (c2 (by decide +kernel)) (av (c3 (by decide +kernel)) (av (cq (by decide +kernel)) (av (cq (by decide +kernel)) (eA (cq (by decide +kernel)) (aE (ao (ds:=[v]) rfl h)))))))
theorem rT {d:Int}(h1:0<=d)(h2:d<=9):aT [.str "further",.int d]=some (.bl true,false):=aw rfl (av (c2 (by decide +kernel)) (av (c3 (by decide +kernel)) (av (cq (by decide +kernel)) (av (cq (by decide +kernel)) (av (cq (by decide +kernel)) (eA (cq (by decide +kernel)) (aE (ao (ds:=[.int d,.int 0,.int 9]) rfl (fG h1 h2)))))))))
theorem ET {d:Int}(h1:0<=d)(h2:d<=59):aT [.str "of",.int d]=some (.bl true,false):=aw rfl (av (c2 (by decide +kernel)) (av (c3 (by decide +kernel)) (av (cq (by decide +kernel)) (av (cq (by decide +kernel)) (av (cq (by decide +kernel)) (av (cq (by decide +kernel)) (av (cq (by decide +kernel)) (eA (cq (by decide +kernel)) (aE (ao (ds:=[.int d,.int 0,.int 59]) (by simp[dj]) (fG h1 h2)))))))))))
noncomputable def row (h:Int)(kind:Str)(rest:List D):D:=.tup [.int h,.tup (.str kind::rest)]
noncomputable def eI (z:Str):Bool:=AX (.str z) [.str "by",.str "person",.str "whom"]
noncomputable def there:D->Bool
 |.non=>false
 |_=>true
@[simp] theorem HA:there .non=false:=rfl
@[simp] theorem HB (z:Str):there (.str z)=true:=rfl
@[simp] theorem HC (z:Int):there (.int z)=true:=rfl
@[simp] theorem HD (z:List D):there (.tup z)=true:=rfl
theorem qr (d:D)(h:qY d=false):iq d .non=some (.bl (there d),false):=by
 cases d<;>simp[kc,there]at h ⊢
noncomputable def pick (l:List (Str×D)):List D:=(l.filter λx=>eI x.1 && there x.2).map (·.2)
structure Nm6 (zs:List Str):Prop where
 len:zs.length=6
 nd:zs.Nodup
 nm:∀z∈zs,mz z=true
noncomputable def off (zs:List Str)(k:Nat):Str:=zs.getD (4+k) ""
theorem CN {zs:List Str}(g:Nm6 zs):¬off zs 0=off zs 1:=by
 obtain⟨l,nd,_⟩:=g;match zs,l with
 |[a,b,c,d,f,g],_=>
  intro h;have h:f=g:=h;simp[h]at nd
structure DeedG (zs:List Str)(k:Nat)(h:Int)(kind:Str)(rest:List D):Prop where
 parts:∃(parts:List Str)(ss:List Str),gm aU (.str kind)=some (.tup (parts.map .str),false)/\parts.length=rest.length/\(∀x∈parts.zip rest,aT [.str x.1,x.2]=some (.bl true,false))/\pick (parts.zip rest)=ss.map .str/\ss.length<=2/\∀s∈ss,s∈zs
 len:rest.length<=10
 flat:∀d∈rest,aQ d=true/\qY d=false
 day:(kind=("root" : Str)/\(k=0∨k=1)/\∃r,rest=.str (off zs k)::r)∨(kind≠("root" : Str)/\(∃(day:Int)(r:List D),rest=.int day::r/\day<=h/\0<=day/\(kind=("chosen" : Str)->∃a b c s,r=[a,b,c,.int s]/\day<=s))/\lg aU (.str kind) (.str "day")=some (.int 0,false))
def qt (zs:List Str)(k:Nat)(r:D):Prop:=∃h kind rest,r=row h kind rest/\0<=h/\h<=9999/\DeedG zs k h kind rest
theorem gP (h:Int)(kind:Str)(rest:List D):bA [row h kind rest]=some (.str kind,false):=aw rfl (aE (by simp[row,yO,vM]))
theorem o7 {h:Int}{k:Str}{rest:List D}{part:Str}{i:Nat}{d:D}(hi:lg aU (.str k) (.str part)=some (.int i,false))(hd:rest[i]? = some d):cH [row h k rest,.str part]=some (d,false):=by
 refine aw rfl (aE ?_);refine df (x:=.tup (.str k::rest)) (y:=.int (1+i)) (b1:=false) (b2:=false) (by simp[row,yO]) (df (x:=.int 1) (y:=.int i) (b1:=false) (b2:=false) rfl (df (x:=.str k) (y:=.str part) (b1:=false) (b2:=false) (ao (ds:=[row h k rest]) rfl (gP _ _ _)) rfl hi) (by simp)) ?_;have eO:i<rest.length:=(vV hd).1;have:mF (.str k::rest) (1+(i:Int))=some d:=by
  have:=jA (xs:=(.str k:D)::rest) (j:=i+1) (by simp;omega);rw[show(1+(i:Int))=((i+1:Nat):Int) by omega,this];simp only[List.getElem_cons_succ];rw[vU eO]at hd;exact hd
 simp[this]
theorem Al (k q:Str):eZ (.str k) (.str q)=some (.bl (decide (k=q)),false):=by simp
noncomputable def xY:D->D
 |.tup [_,.tup (.str _::.int d::_)]=>.int d
 |_=>.non
theorem Am {k:Nat}{h:Int}{kind:Str}{rest:List D}(g:DeedG zs k h kind rest):jm [row h kind rest]=some (xY (row h kind rest),false):=by
 rcases g.day with⟨e,_,r,rfl⟩|⟨e,⟨day,r,rfl,_⟩,hi⟩
 ·exact aw rfl (eA (bo (b:=false) (df (x:=.str kind) (y:=.str "root") (b1:=false) (b2:=false) (ao (ds:=[row h kind (.str (off zs k)::r)]) rfl (gP _ _ _)) rfl (by rw[Al,decide_eq_true e]))) (aE rfl))
 ·exact aw rfl (av (bo (b:=false) (df (x:=.str kind) (y:=.str "root") (b1:=false) (b2:=false) (ao (ds:=[row h kind (.int day::r)]) rfl (gP _ _ _)) rfl (by rw[Al,decide_eq_false e]))) (aE (ao (ds:=[row h kind (.int day::r),.str "day"]) rfl (o7 (i:=0) hi rfl))))
theorem xZ {k:Nat}{h:Int}{kind:Str}{rest:List D}(g:DeedG zs k h kind rest):jB [.tup (.str kind::rest)]=some (.bl true,false):=by
 obtain⟨parts,ss,hp,hl,ha,_⟩:=g.parts;have Ky:(aU.lookup kind).isSome=true:=by
  simp only[gm]at hp;obtain⟨d,h1,_⟩:=oY hp;rw[h1];rfl
 have hsz:=g.len;have e0:f2 db (ag 0) (fC (.int 0)) [some (.tup (.str kind::rest),false)]=some (.str kind,false):=by simp[vM]
 have eg:f1 (gm aU) (f2 db (ag 0) (fC (.int 0))) [some (.tup (.str kind::rest),false)]=some (.tup (parts.map .str),false):=nD (x:=.str kind) (b:=false) e0 hp;refine aw rfl (av (b9 (p:=false) (q:=false) (by simp) λ_=>b9 (p:=false) (q:=false) (bo (b:=false) (by simp;omega)) λ_=>dJ (p:=true) (bo (b:=false) (ao (ds:=[.str kind,.ty "str"]) (aO e0 rfl) (by simp)))) (av (b9 (p:=false) (q:=false) (bo (b:=false) (nD (x:=.str kind) (b:=false) e0 ?_)) λ_=>bo (b:=false) (df (x:=.int ((rest.length+1:Nat):Int)) (y:=.int (1+(parts.length:Int))) (b1:=false) (b2:=false) (by simp) (df (x:=.int 1) (y:=.int parts.length) (b1:=false) (b2:=false) rfl (ao (ds:=[.tup (parts.map .str)]) (aO eg rfl) (by simp)) (by simp)) ?_)) (aE (ao (ds:=[.lst ((parts.zip rest).map λ_=>.bl true)]) ?_ (jr _)))))
 ·simp only[kS,Ky];rfl
 ·simp;omega
 ·have:=l7 (fi:=u8 (f1 (gm aU) (f2 db (ag 0) (fC (.int 0)))) (yL (ag 0) (gt (fC (.int 1))) gX)) (nT:=2) (cap:=[]) (tg:=re [0,1]) (fe:=fA aT (ae (ag 0) (ae (ag 1) ah))) (ρ:=[some (.tup (.str kind::rest),false)]) (parts.zip rest) (λx=>.tup [.str x.1,x.2]) (λ_=>.bl true)
   (by
    show(f1 (gm aU) _ _).bind _=_;rw[eg];simp[CK,ql]) (by rw[List.length_zip];omega) λx hx=>by
    have K2:=g.flat x.2 (List.of_mem_zip hx).2;exact⟨_,rfl,false,ao (ds:=[.str x.1,x.2]) (by simp[eT]) (ha x hx)⟩
  exact aO (b:=true) this rfl
theorem ve (r:D):aQ (xY r)=true:=by
 unfold xY;split<;>rfl
theorem rU {k:Nat}{h:Int}{kind:Str}{rest:List D}(g:DeedG zs k h kind rest):gB [row h kind rest]=some (.bl true,false):=by
 have hd:=Am g;have FW:∀ {hh:FS}{r:Option Res},hh [some (row h kind rest,false),some (xY (row h kind rest),false)]=r->aC (b8 1 (fA jm (ae (ag 0) ah))) hh [some (row h kind rest,false),none]=r:=λe=>rO (d:=xY (row h kind rest)) (b:=false) (ao (ds:=[row h kind rest]) rfl hd) (ve _) e;rcases g.day with⟨e,_,r,rfl⟩|⟨e,⟨day,r,rfl,GB,IN,vN⟩,hi⟩
 ·exact aw rfl (FW (eA (bo (b:=false) (df (x:=.non) (y:=.non) (b1:=false) (b2:=false) rfl rfl (by simp[kc]))) (aE rfl)))
 ·refine aw rfl (FW (av (bo (b:=false) (df (x:=.int day) (y:=.non) (b1:=false) (b2:=false) rfl rfl (by simp[kc]))) (av ((cP (p:=decide (kind=("chosen" : Str))) (q:=false) (bo (b:=false) (df (x:=.str kind) (y:=.str "chosen") (b1:=false) (b2:=false) (ao (ds:=[row h kind (.int day::r)]) rfl (gP _ _ _)) rfl (Al _ _))) λhc=>?_).trans (by rw[Bool.and_false])) (aE ?_))))
  ·have hc:=of_decide_eq_true hc;subst hc;obtain⟨a,b,c,s,rfl,hs⟩:=vN rfl;refine bo (b:=false) (df (x:=.int s) (y:=.int day) (b1:=false) (b2:=false) (ao (ds:=[row h ("chosen" : Str) [.int day,a,b,c,.int s],.str "since"]) rfl (o7 (i:=4) (gz (by decide +kernel)) rfl)) rfl ?_);simp;omega
  ·refine df (x:=.int day) (y:=.int h) (b1:=false) (b2:=false) rfl (by simp[row,vM]) ?_;simp;omega
theorem An {k:Nat}{r:D}(g:qt zs k r):lC [r]=some (.bl true,false):=by
 obtain⟨h,kind,rest,rfl,h0,h1,g⟩:=g;refine aw rfl (av (b9 (p:=false) (q:=false) (by simp[row]) λ_=>by simp[row]) (aE ((g6 (p:=true) (q:=true) (b1:=false) (ao (ds:=[.int h]) (by simp[row,vM]) (gO h0 h1)) λ_=>(g6 (p:=true) (q:=true) (b1:=false) (ao (ds:=[.tup (.str kind::rest)]) (by simp[row,yO]) (xZ g)) λ_=>ao (ds:=[row h kind rest]) rfl (rU g)).trans rfl).trans rfl)))
noncomputable def kindOf:D->Str
 |.tup [_,.tup (.str k::_)]=>k
 |_=>("" : Str)
def lH (r:D):Bool:=decide (kindOf r=("root" : Str))
noncomputable def nF:D->Str
 |.tup [_,.tup (_::.str o::_)]=>o
 |_=>("" : Str)
theorem Ao:lg aU (.str "root") (.str "office")=some (.int 0,false):=gz (by decide +kernel)
theorem lI {k:Nat}{r:D}(g:qt zs k r)(h:lH r=true):cH [r,.str "office"]=some (.str (nF r),false)/\nF r=off zs k/\(k=0∨k=1):=by
 obtain⟨a,kind,rest,rfl,_,_,g⟩:=g;have h:kind=("root" : Str):=of_decide_eq_true h;subst h;rcases g.day with⟨_,hk,r,rfl⟩|⟨e,_⟩
 ·exact⟨o7 (i:=0) Ao rfl,rfl,hk⟩
 ·exact absurd rfl e
theorem lJ {k:Nat}{r:D}(g:qt zs k r):bA [r]=some (.str (kindOf r),false):=by
 obtain⟨a,kind,rest,rfl,_⟩:=g;exact gP _ _ _
theorem ya (k:Str)(ws:List Str):AX (.str k) (ws.map .str)=decide (k∈ws):=by
 induction ws with
 |nil=>simp[AX]
 |cons w ws ih=>
  have:AX (.str k) ((w::ws).map .str)=(cm (.str w) (.str k) || AX (.str k) (ws.map .str)):=rfl;rw[this,ih,ph];by_cases e:w=k
  ·simp[e]
  ·have e':¬k=w:=λz=>e z.symm;simp[e,e']
theorem vf (ws:List Str):(ws.map D.str).all dW=true:=by
 induction ws with
 |nil=>rfl
 |cons w ws ih=>simp[dW]
theorem qu (zs:List Str):eM (zs.map .str)=some zs:=by
 induction zs with
 |nil=>rfl
 |cons z zs ih=>simp[ih]
theorem Ap (k:Str)(ws:List Str):sT (.str k) (.lst (ws.map .str))=some (.bl (decide (k∈ws)),false):=by
 simp only[sT,gY,vJ,ya];rw[if_pos ⟨rfl,vf ws⟩]
def nG (zs:List Str)(rows:List D):Prop:=(rows.length<=30/\Nm6 zs)/\∀(j:Nat) r,rows[j]? = some r->qt zs j r
theorem nG.mem {rows:List D}(g:nG zs rows){r:D}(h:r∈rows):∃k,qt zs k r:=by
 obtain⟨j,hj⟩:=List.mem_iff_getElem?.mp h;exact⟨j,g.2 j r hj⟩
theorem vg {rows:List D}(g:nG zs rows){i:Nat}{r:D}(hr:rows[i]? = some r):cT [.tup (rows.take i),r]=some (.bl false,false):=by
 have hi:=(vV hr).1;have gr:=g.2 i r hr;have GG:=g.1.1;refine aw rfl (aE ((g6 (p:=lH r) (q:=false) (b1:=false) (df (x:=.str (kindOf r)) (y:=.str "root") (b1:=false) (b2:=false) (ao (ds:=[r]) rfl (lJ gr)) rfl (Al _ _)) λFX=>?_).trans (by rw[Bool.and_false])));obtain⟨ho,Mq,hk⟩:=lI gr FX;have FY:∀x∈rows.take i,∃j,j<i/\qt zs j x:=λx hx=>by
  obtain⟨j,hj⟩:=List.mem_iff_getElem?.mp hx;rw[List.getElem?_take]at hj;split at hj
  ·rename_i eO;exact⟨j,eO,g.2 j x hj⟩
  ·cases hj
 have hc:=nn (fi:=cE (ag 0)) (nT:=1) (cap:=[]) (tg:=gj 0) (c:=br (f2 eZ (fA bA (ae (ag 0) ah)) (fC (.str "root")))) (fe:=fA cH (ae (ag 0) (ae (fC (.str "office")) ah))) (ρ:=[some (.tup (rows.take i),false)]) (rows.take i) (λx=>x) lH (λx=>.str (nF x)) (by simp) (by simp;omega) λx hx=>by
  obtain⟨j,hj,gx⟩:=FY x hx;exact⟨_,rfl,bo (b:=false) (df (x:=.str (kindOf x)) (y:=.str "root") (b1:=false) (b2:=false) (ao (ds:=[x]) (by simp[eT]) (lJ gx)) rfl (Al _ _)),λhx=>⟨false,ao (ds:=[x,.str "office"]) (by simp[eT]) (lI gx hx).1⟩⟩
 have Mr:eE [.tup (rows.take i)]=some (.lst ((((rows.take i).filter lH).map nF).map .str),true):=by
  rw[List.map_map];exact aw rfl (aE hc)
 refine df (x:=.str (nF r)) (y:=.lst ((((rows.take i).filter lH).map nF).map .str)) (b1:=false) (b2:=true) (ao (ds:=[r,.str "office"]) rfl ho) (ao (ds:=[.tup (rows.take i)]) rfl Mr) ?_;rw[Ap];congr 3;refine decide_eq_false λDj=>?_;obtain⟨x,hx,e⟩:=List.mem_map.mp Dj;obtain⟨hx,Ms⟩:=List.mem_filter.mp hx;obtain⟨j,hj,gx⟩:=FY x hx;obtain⟨_,Mt,Kx⟩:=lI gx Ms;rw[Mq,Mt]at e;have:=CN g.1.2;rcases hk with rfl|rfl<;>rcases Kx with rfl|rfl
 ·omega
 ·omega
 ·exact this e
 ·omega
theorem qv:∀(ss ts:List Str){x:Str},x∈ss.foldl fX ts->x∈ts∨x∈ss
 |[],ts,x,h=>.inl h
 |y::ss,ts,x,h=>by
  rw[List.foldl_cons]at h;rcases qv ss (fX ts y) h with h|h
  ·rcases xq.mp h with h|h
   ·exact .inl h
   ·exact .inr (h ▸ mX)
  ·exact .inr (mZ _ h)
theorem lK:∀(ss ts:List Str),ts.Nodup->(ss.foldl fX ts).Nodup
 |[],ts,h=>h
 |y::ss,ts,h=>lK ss (fX ts y) (r6 h y)
theorem qw {ss:List Str}{x:Str}(h:x∈cy ss):x∈ss:=by
 rcases qv ss [] h with h|h
 ·cases h
 ·exact h
theorem qx:∀(l m:List Str),l.Nodup->(∀x∈l,x∈m)->l.length<=m.length
 |[],m,_,_=>uN _
 |x::l,m,h,s=>by
  rw[List.nodup_cons]at h;have hx:=s x mX;have:=qx l (m.erase x) h.2 λy hy=>(List.mem_erase_of_ne (a:=y) (b:=x) (λe=>h.1 (by rw[←e];exact hy))).mpr (s y (mZ _ hy));rw[List.length_erase_of_mem hx]at this;have:0<m.length:=List.length_pos_of_mem hx;rw[vD];omega
theorem qy {h:Int}{kind:Str}{rest:List D}{parts:List Str}(hp:gm aU (.str kind)=some (.tup (parts.map .str),false)):bQ [row h kind rest]=some (.lst ((parts.zip rest).map λx=>.tup [.str x.1,x.2]),true):=by
 refine aw rfl (aE ?_);have e1:f1 (gm aU) (fA bA (ae (ag 0) ah)) [some (row h kind rest,false)]=some (.tup (parts.map .str),false):=nD (x:=.str kind) (b:=false) (ao (ds:=[row h kind rest]) rfl (gP h kind rest)) hp;have e2:yL (f2 db (ag 0) (fC (.int 1))) (gt (fC (.int 1))) gX [some (row h kind rest,false)]=some (.tup rest,false):=by simp[row,yO,CK]
 show(((f1 (gm aU) (fA bA (ae (ag 0) ah)) [some (row h kind rest,false)]).bind λx=>(yL (f2 db (ag 0) (fC (.int 1))) (gt (fC (.int 1))) gX [some (row h kind rest,false)]).bind λy=>(gY x.1).bind λxs=>(gY y.1).map λys=>ej xs ys).map λds=>(D.lst ds,true))=_;rw[e1,e2];simp[ql]
theorem vh {k:Nat}{r:D}(g:qt zs k r):∃ss:List Str,dr [r]=some (.lst (ss.map .str),true)/\ss.length<=2/\∀s∈ss,s∈zs:=by
 obtain⟨h,kind,rest,rfl,_,_,g⟩:=g;obtain⟨parts,ss,hp,hl,_,hk,kC,IP⟩:=g.parts;have FZ:=nn (fi:=cE (fA bQ (ae (ag 0) ah))) (nT:=2) (cap:=[]) (tg:=re [0,1]) (c:=gV (br (f2 sT (ag 0) (fC cj))) (br (f2 iq (ag 1) (fC .non)))) (fe:=ag 1)
  (ρ:=[some (row h kind rest,false),none]) (parts.zip rest) (λx=>.tup [.str x.1,x.2]) (λx=>eI x.1 && there x.2) (·.2) (by
   have e1:fA bQ (ae (ag 0) ah) [some (row h kind rest,false),none]=_:=ao (ds:=[row h kind rest]) rfl (qy hp);show Option.bind (fA bQ (ae (ag 0) ah) [some (row h kind rest,false),none]) _=_;rw[e1];rfl) (by
   have:=g.len;rw[List.length_zip];omega) λx hx=>by
   have K2:=(g.flat x.2 (List.of_mem_zip hx).2);refine⟨_,rfl,cP (bo (b:=false) ?_) λ_=>bo (b:=false) ?_,λ_=>⟨false,?_⟩⟩
   ·refine df (x:=.str x.1) (y:=cj) (b1:=false) (b2:=false) (by simp[eT]) rfl ?_;simp[cj,eI,dW]
   ·exact df (x:=x.2) (y:=.non) (b1:=false) (b2:=false) (by simp[eT]) rfl (qr _ K2.2)
   ·simp[eT]
 refine⟨iY (cy ss),aw rfl (cO (ds:=ss.map .str) ?_ (cI ss) (aE ?_)),?_,?_⟩
 ·exact hk ▸ FZ
 ·have:ss.length<64:=by omega
  simp[this]
 ·rw[(e8 _).length_eq];exact vR (iW ss) kC
 ·intro s hs;exact IP s (qw ((e8 _).mem_iff.mp hs))
theorem vi {rows:List D}(g:∀r∈rows,∃k,qt zs k r)(hl:rows.length<=60)(Mu:zs.length=6):∃n:Nat,eF [.tup rows]=some (.int n,false)/\n<=6:=by
 obtain⟨ρ',e,ys,v,rfl,hz,h6⟩:=jf (tg:=gj 2) (g:=gh) (λi ρ=>∃(ys:List Str)(v:OB),ρ=[some (.tup rows,false),some (.lst (ys.map .str),true),v]/\ys.length<=2*i/\∀z∈ys,z∈zs) rows
  [some (.tup rows,false),some (.lst [],true),none] ⟨[],none,rfl,by simp,by simp⟩ (by
   rintro i d ρ hd ⟨ys,v,rfl,hz,h6⟩;have hi:=(vV hd).1;obtain⟨k,gd⟩:=g d (List.mem_of_getElem? hd);obtain⟨ss,hp,kC,IP⟩:=vh gd;have hsz:(ys.map D.str).length+(ss.map D.str).length<=sizeLine:=ci (by simp;omega);refine⟨_,[some (.tup rows,false),some (.lst ((ys++ss).map .str),true),some (d,false)],rfl,.inl ?_,ys++ss,some (d,false),rfl,by simp;omega,?_⟩
   ·have hv:fA dr (ae (ag 2) ah) [some (.tup rows,false),some (.lst (ys.map .str),true),some (d,false)]=some (.lst (ss.map .str),true):=ao (ds:=[d]) rfl hp;show mj 1 (fA dr (ae (ag 2) ah)) [some (.tup rows,false),some (.lst (ys.map .str),true),some (d,false)]=_;simp only[mj,List.getElem?_cons_succ,List.getElem?_cons_zero,hv,vJ];rw[if_pos ⟨trivial,cI ss,hsz⟩];simp
   ·intro z hz';rcases List.mem_append.mp hz' with h|h
    ·exact h6 z h
    ·exact IP z h)
 refine⟨(cy ys).length,aw rfl (cO (ds:=[]) (by simp[sizeLine]) rfl (cG (jh (ds:=rows) (by simp[me]) e) (aE (nD (x:=.lst (ys.map .str)) (b:=false) rfl ?_)))),?_⟩
 ·have:ys.length<4000:=by omega
  simp only[iZ,qu,vJ,if_pos this]
 ·exact vR (qx (cy ys) zs (lK ys [] List.nodup_nil) λz hz=>h6 z (qw hz)) (Nat.le_of_eq Mu)
theorem yc {rows:List D}{i:Nat}{r:D}(h:rows[i]? = some r):mF rows (i:Int)=some r:=by
 have eO:i<rows.length:=(vV h).1;rw[jA eO,←h,vU eO]
theorem rV {rows:List D}(g:nG zs rows){i:Nat}(hi:i<rows.length):ga [.tup rows,.int i]=some (.bl false,false):=by
 obtain⟨r,hr⟩:∃r,rows[i]? = some r:=⟨_,vU hi⟩;have ha:=yc hr;have GG:=g.1.1;have GF:∀ρ:DL.Env,ρ[0]? = some (some (.tup rows,false))->ρ[1]? = some (some (.int i,false))->f2 db (ag 0) (ag 1) ρ=some (r,false):=λρ h0 h1=>by simp[h0,h1,ha]
 obtain⟨n,hn,MX⟩:=vi (rows:=rows.take (i+1)) (λx hx=>g.mem (List.mem_of_mem_take hx)) (by simp;omega) g.1.2.len;have Fi:=qk rows (i+1);rw[Int.natCast_add]at Fi;refine aw rfl (av (b9 (p:=false) (q:=false) (bo (b:=false) (by simp[dj];omega)) λ_=>dJ (p:=true) (bo (b:=false) (ao (ds:=[r]) (aO (GF _ rfl rfl) rfl) (An (g.2 i r hr))))) (aE ((tL (p:=false) (q:=false) (b1:=false) (ao (ds:=[.tup (rows.take i),r]) (aO (d:=.tup (rows.take i)) (b:=false) (by simp[qk]) (aO (GF _ rfl rfl) rfl)) (vg g hr)) λ_=>df (x:=.int n) (y:=.int 20) (b1:=false) (b2:=false) (ao (ds:=[.tup (rows.take (i+1))]) (aO (d:=.tup (rows.take (i+1))) (b:=false) (by simp;exact Fi) rfl) hn) rfl (by simp;omega)).trans rfl)))
theorem jW {rows:List D}(g:nG zs rows)(hf:aV rows=true)(d:D)(hd:d=.lst rows∨d=.tup rows):bx [d]=some (.tup rows,false):=by
 have hl:=g.1.1;obtain⟨ρ',e,v,rfl⟩:=lu (tg:=gj 2) (g:=gE) rows.length (λi ρ=>∃v:OB,ρ=[some (d,false),some (.tup rows,false),v])
  [some (d,false),some (.tup rows,false),none] ⟨none,rfl⟩ (by
   rintro i ρ hi ⟨v,rfl⟩;exact⟨_,_,rfl,.inl (ly (bo (b:=false) (ao (ds:=[.tup rows,.int i]) rfl (rV g hi))) rfl),some (.int i,false),rfl⟩)
 refine aw rfl (av (dJ (p:=true) (bo (b:=false) (ao (ds:=[d,.tup [.ty "list",.ty "tuple"]]) (aO rfl (aO (d:=.tup [.ty "list",.ty "tuple"]) (b:=false) (by simp[sizeLine]) rfl)) ?_))) (rO (d:=.tup rows) (b:=false) (ao (ds:=[d]) rfl ?_) (by simp[hf]) (cG (l5 (gK (j:=rows.length) (b:=false) (by simp) (by omega)) e) (kx rfl))))
 ·rcases hd with rfl|rfl<;>simp
 ·rcases hd with rfl|rfl<;>simp
end Lw
namespace Lw
open PySem PySem.Spec DL L2
noncomputable abbrev sF (d:D):OB:=some (d,false)
noncomputable abbrev lT (ds:List D):OB:=some (.lst ds,true)
theorem ye (a:Int){m:Int}(h:0<m):aP (.int a) (.int m)=some (.int (a % m),false):=by simp[h]
theorem EU (a:Int){m:Int}(h:0<m)(h2:m<1073741824):bt (.int a) (.int m)=some (.int (a / m),false):=by simp[h,h2]
theorem im {f:FE}{ρ:DL.Env}{a m:Int}(e:f ρ=sF (.int a))(h:0<m):f2 aP f (fI m) ρ=sF (.int (a % m)):=di (.int a) (.int m) e rfl (ye a h)
theorem lW {f:FE}{ρ:DL.Env}{a m:Int}(e:f ρ=sF (.int a))(h:0<m)(h2:m<1073741824):f2 bt f (fI m) ρ=sF (.int (a / m)):=di (.int a) (.int m) e rfl (EU a h h2)
theorem rW (a:Int){b:Int}(h : -1000000<=b/\b<=1000000):gS (.int a) (.int b)=some (.int (a*b),false):=by
 have : -18446744073709551616<b/\b<18446744073709551616:=by omega
 simp[this]
theorem o8 {k:Int}(h : -1000000000000<=k/\k<=1000000000000):Builtin.Int.intBits k<=64:=intBits_le_64 (by omega) (by omega)
theorem o9 {ns:List Int}(hf:ER ns)(k:Nat)(hk:k<=100):∃c:Int,bL [.lst (ns.map .int),.int k]=sF (.int c):=by
 have bp:∀ρ:DL.Env,ρ[0]? = some (sF (.lst (ns.map .int)))->fA c7 (fV 0 ah) ρ=sF (.int ns.length):=λρ h=>by
  refine vL [.lst (ns.map .int)] (bS (by simp[h]) rfl) ?_;rw[o6,vH]
 have fin:∀v:Int,Builtin.Int.intBits v<=2097152->aW (f2 aP (f2 CG (ag 2) (ag 2)) (fI 2147483647)) [sF (.lst (ns.map .int)),sF (.int k),sF (.int v)]=some (.rt (.int (v*v % 2147483647)) false):=λv hv=>
  aE (im (di (.int v) (.int v) rfl rfl (by simp[hv])) (by decide))
 by_cases h:k<ns.length
 ·refine⟨ns.getD k 0,aw rfl (eA (tO (di (.int k) (.int ns.length) rfl (bp _ rfl) (by simp;omega))) (aE (di (.lst (ns.map .int)) (.int k) rfl rfl ?_)))⟩;have:=tN (xs:=ns) (i:=k) (by omega) (by simpa using h);rw[Int.toNat_natCast]at this;exact this
 ·have Mv:Builtin.Int.intBits (9973*(k:Int)+11)<=64:=o8 (by omega);have e0:f2 bv (f2 gS (fI 9973) (ag 1)) (fI 11) [sF (.lst (ns.map .int)),sF (.int k),none]=sF (.int (9973*k+11)):=di (.int (9973*k)) (.int 11) (di (.int 9973) (.int k) rfl rfl (rW _ (by omega))) rfl rfl;have t1:br (f2 yK (ag 1) (fA c7 (fV 0 ah))) [sF (.lst (ns.map .int)),sF (.int k),none]=some false:=tO (di (.int k) (.int ns.length) rfl (bp _ rfl) (by simp;omega));by_cases hz:0<ns.length
  ·have GD:(0:Int)<ns.length:=by omega
   have h5:=mod_lt (x:=(k:Int)*7) GD;obtain⟨j,hj⟩:∃j:Nat,(k:Int)*7 % ns.length=j:=⟨((k:Int)*7 % ns.length).toNat,by omega⟩;have IQ:j<ns.length:=by omega
   have hb:Builtin.Int.intBits (ns.getD j 0)<=1048576:=hf _ (by rw[List.getD_eq_getElem?_getD,vU IQ];exact List.getElem_mem IQ);have ei:f2 db (ag 0) (f2 aP (f2 gS (ag 1) (fI 7)) (fA c7 (fV 0 ah))) [sF (.lst (ns.map .int)),sF (.int k),sF (.int (9973*k+11))]=sF (.int (ns.getD j 0)):=by
    refine di (.lst (ns.map .int)) (.int j) rfl (hj ▸ di (.int (k*7)) (.int ns.length) (di (.int k) (.int 7) rfl rfl (rW _ (by decide))) (bp _ rfl) (ye _ GD)) ?_;have:=tN (xs:=ns) (i:=j) (by omega) (by simpa using IQ);rw[Int.toNat_natCast]at this;exact this
   generalize ns.getD j 0=x at hb ei;have IS:(k:Int)*k<=10000/\0<=(k:Int)*k:=by
    have h1:k*k<=100*100:=Nat.mul_le_mul hk hk;rw[←Int.natCast_mul];omega
   have ev:f2 bv (f2 bv (f2 gS (f2 db (ag 0) (f2 aP (f2 gS (ag 1) (fI 7)) (fA c7 (fV 0 ah)))) (fI 48271)) (f2 gS (f2 gS (ag 1) (ag 1)) (fI 1013))) (fI 3) [sF (.lst (ns.map .int)),sF (.int k),sF (.int (9973*k+11))]=sF (.int (x*48271+k*k*1013+3)) :=
    di (.int (x*48271+k*k*1013)) (.int 3) (di (.int (x*48271)) (.int (k*k*1013)) (di (.int x) (.int 48271) ei rfl (rW _ (by decide))) (di (.int (k*k)) (.int 1013) (di (.int k) (.int k) rfl rfl (rW _ (by omega))) rfl (rW _ (by decide))) rfl) rfl rfl
   generalize (k:Int)*k=y at IS ev;have Mw:Builtin.Int.intBits (x*48271+y*1013+3)<=2097152:=by
    have h1:=intBits_mul_le hb (o8 (k:=48271) (by decide));have h2:=intBits_add_le h1 (o8 (k:=y*1013) (by omega));have h3:=intBits_add_le h2 (o8 (k:=3) (by decide));exact vR h3 (by decide)
   exact⟨_,aw rfl (av t1 (xW (.int (9973*k+11)) e0 rfl (cG (my (tO (di (.int ns.length) (.int 0) (bp _ rfl) rfl (by simp;omega))) (qa ev rfl)) (fin _ Mw))))⟩
  ·refine⟨_,aw rfl (av t1 (xW (.int (9973*k+11)) e0 rfl (cG (ly (tO (di (.int ns.length) (.int 0) (bp _ rfl) rfl (by rw[show(ns.length:Int)=0 by omega];rfl))) rfl) (fin (9973*k+11) (vR Mv (by decide))))))⟩
theorem CO {ρ:DL.Env}{i n:Nat}{ds:List D}{fk fv:FE}{d:D}{b b':Bool}(e:ρ[i]? = some (some (.lst ds,true)))(ev:fv ρ=some (d,b))(ek:fk ρ=some (.int n,b'))(hn:n<ds.length)(hf:aQ d=true):xl i fk fv ρ=some (.nx (ρ.set i (some (.lst (ds.set n d),true)))):=by
 have hx:ww ds.length (n:Int)=some n:=by
  unfold ww;rw[if_pos (by omega)];simp[hn]
 simp only[xl,e,ev,ek,vJ,hx,if_pos hf]
theorem qz (x:Int):0<=x % 26/\x % 26<26:=mod_lt (by decide)
noncomputable def ki:PySem.Str:="abcdefghijklmnopqrstuvwxyz"
theorem vj:ki.cps.size=26:=by decide +kernel
def yP (x:Int):Nat:=ki.cps.toList.getD (x % 26).toNat 0
theorem yf (x:Int):db (.str ki) (.int (x % 26))=sF (.str ⟨#[yP x]⟩):=DL.qP (qz x).1 (by rw[vj];have:=qz x;omega) (by decide +kernel)
theorem yg:∀i:_root_.Fin 26,jV (ki.cps.toList.getD i.val 0)=true:=by decide +kernel
theorem yh:∀i j:_root_.Fin 26,ki.cps.toList.getD i.val 0=ki.cps.toList.getD j.val 0->i=j:=by decide +kernel
theorem tS (x:Int):jV (yP x)=true:=yg ⟨(x % 26).toNat,by have:=qz x;omega⟩
theorem Aq {x y:Int}(h:yP x=yP y):x % 26=y % 26:=by
 have hx:=qz x;have hy:=qz y;have:=yh ⟨(x % 26).toNat,by omega⟩ ⟨(y % 26).toNat,by omega⟩ h;injection this;omega
noncomputable def sg (cs:List Nat):List Str:=cs.map λc=>⟨#[c]⟩
theorem yi:∀cs:List Nat,((sg cs).map (·.length)).sum=cs.length
 |[]=>rfl
 |c::cs=>by
  show 1+((sg cs).map (·.length)).sum=cs.length+1;rw[yi cs];omega
theorem q0:∀(zs:List Str)(y:Str),(Str.join ("" : Str) (y::zs)).cps.toList=(y::zs).flatMap λz=>z.cps.toList
 |[],y=>by rw[List.flatMap_cons,List.flatMap_nil,uQ];rfl
 |z::r,y=>by
  have e3:∀a b:Str,(a++b).cps.toList=a.cps.toList++b.cps.toList:=λa b=>by show(a.cps++b.cps).toList=_;simp
  show(y++("" : Str)++Str.join ("" : Str) (z::r)).cps.toList=_;rw[e3,e3,q0 r z,show("" : Str).cps.toList=[]from rfl,uQ];rfl
theorem yj {zs:List Str}(h:zs≠[]):(Txt.join ("" : Str) zs).cps.toList=zs.flatMap λz=>z.cps.toList:=by
 cases zs with
 |nil=>exact absurd rfl h
 |cons y zs=>
  unfold Txt.join;rw[StrLaws.glued_eq_join];exact q0 zs y
theorem rX {cs:List Nat}(h:cs≠[]):(Txt.join ("" : Str) (sg cs)).cps.toList=cs:=by
 rw[yj (by simpa [sg]using h)];unfold sg;rw[List.flatMap_map];exact List.flatMap_singleton' cs
theorem EV {cs:List Nat}(h1:1<=cs.length)(h8:cs.length<=8)(hl:∀c∈cs,jV c=true):mz (Txt.join ("" : Str) (sg cs))=true:=by
 have e:=rX (cs:=cs) (λz=>by rw[z]at h1;cases h1);unfold mz;rw[←qo,e,vC,vC,List.all_eq_true];exact⟨⟨decide_eq_true h1,decide_eq_true h8⟩,hl⟩
theorem Ar (cs:List Nat)(h:cs.length<=1000):iT (.str "") (.lst ((sg cs).map .str))=sF (.str (Txt.join ("" : Str) (sg cs))):=by
 show(eM ((sg cs).map .str)).bind _=_;rw[qu];show(if _ then _ else _)=_;rw[yi,show("" : Str).length=0 from rfl,if_pos (by omega)]
theorem yk (c:Int):∃zs:List Str,jC [.int c]=lT (zs.map .str)/\Nm6 zs:=by
 have h8:=mod_lt (x:=c) (m:=8) (by decide);obtain⟨n,hn⟩:∃n:Nat,1+c % 8=n:=⟨(1+c % 8).toNat,by omega⟩;let bs:List Nat:=(List.range n).map λ(k:Nat)=>yP (c / (3+4*k));have FH:bs.length=n:=by simp[bs]
 have Ii:∀x∈bs,jV x=true:=λx hx=>by obtain⟨k,_,rfl⟩:=List.mem_map.mp hx;exact tS _
 have hb:=l7 (fi:=eW (f2 bv (fI 1) (f2 aP (ag 0) (fI 8)))) (nT:=1) (cap:=[1,0]) (tg:=gj 0) (fe:=f2 db (ag 1) (f2 aP (f2 bt (ag 2) (f2 bv (fI 3) (f2 gS (fI 4) (ag 0)))) (fI 26)))
  (ρ:=[sF (.int c),sF (.str ki),none,none,none,none,none]) (List.range n) (λ(k:Nat)=>.int k) (λ(k:Nat)=>.str ⟨#[yP (c / (3+4*k))]⟩)
  (by rw[gK (j:=n) (b:=false) (hn ▸ di (.int 1) (.int (c % 8)) rfl (im rfl (by decide)) rfl) (by omega),uY,List.map_map];rfl) (by simp;omega) λk hk=>by
   have hk:=List.mem_range.mp hk;exact⟨_,rfl,false,di (.str ki) (.int (c / (3+4*k) % 26)) rfl (im (di (.int c) (.int (3+4*k)) rfl (di (.int 3) (.int (4*k)) rfl (di (.int 4) (.int k) rfl rfl (rW _ (by omega))) rfl) (EU _ (by omega) (by omega))) (by decide)) (yf _)⟩
 have Kl:(List.range n).map (λ(k:Nat)=>D.str ⟨#[yP (c / (3+4*k))]⟩)=(sg bs).map .str:=by simp[sg,bs]
 rw[Kl]at hb;have MY:=mod_lt (x:=c / 8) (m:=n) (by omega);obtain⟨a,ha⟩:∃a:Nat,c / 8 % n=a:=⟨(c / 8 % n).toNat,by omega⟩;have K3:a<bs.length:=by omega
 let nm:Nat->List Nat:=λi=>bs.set a (yP (c / 64+3*i));have By:∀i,(nm i).length=n:=λi=>by simp[nm,FH]
 obtain⟨ρ',e,v5,v6,rfl⟩:=lu (tg:=gj 5) (g:=lE) 6 (λi ρ=>∃v5 v6:OB,ρ=[sF (.int c),sF (.str ki),lT ((sg bs).map .str),sF (.int a),lT (((List.range i).map λi=>Txt.join ("" : Str) (sg (nm i))).map .str),v5,v6])
  [sF (.int c),sF (.str ki),lT ((sg bs).map .str),sF (.int a),lT [],none,none] ⟨none,none,rfl⟩ (by
   rintro i ρ hi ⟨v5,v6,rfl⟩;have es:((sg bs).map D.str).set a (.str ⟨#[yP (c / 64+3*i)]⟩)=(sg (nm i)).map .str:=by simp only[sg,nm,List.map_map,List.map_set,Function.comp]
   refine⟨_,_,rfl,.inl (cO (ds:=(sg bs).map .str) (by simp) (cI _) (cG (CO (n:=a) (ds:=(sg bs).map .str) (d:=.str ⟨#[yP (c / 64+3*i)]⟩) (b:=false) (b':=false) rfl ?_ rfl (by simpa [sg]using K3) rfl) (i7 (d:=.str (Txt.join ("" : Str) (sg (nm i)))) (b:=false) rfl ?_ rfl (cg (by simp;omega))))),some (.int i,false),some (.lst ((sg (nm i)).map .str),true),?_⟩
   ·exact di (.str ki) (.int ((c / 64+3*i) % 26)) rfl (im (di (.int (c / 64)) (.int (3*i)) (lW rfl (by decide) (by decide)) (di (.int 3) (.int i) rfl rfl (rW _ (by omega))) rfl) (by decide)) (yf _)
   ·rw[es];exact di (.str "") (.lst ((sg (nm i)).map .str)) rfl rfl (Ar _ (by rw[By];omega))
   ·rw[es,List.range_succ];simp)
 refine⟨(List.range 6).map λi=>Txt.join ("" : Str) (sg (nm i)),aw rfl (xW (.str ki) rfl rfl (cO hb (cI _) (xW (.int a) ?_ rfl (cO (ds:=[]) (by simp[sizeLine]) rfl (cG (l5 (gK (j:=6) (b:=false) rfl (by decide)) e) (kx rfl)))))),by simp,?_,λz hz=>?_⟩
 ·rw[←ha];refine di (.int (c / 8)) (.int n) (lW rfl (by decide) (by decide)) ?_ (ye _ (by omega));refine vL [.lst ((sg bs).map .str)] (bS rfl rfl) ?_;rw[o6];simp[sg,FH]
 ·refine List.pairwise_map.mpr (List.Pairwise.imp_of_mem ?_ (List.nodup_range (n:=6)));intro i j hi hj hij e;have e:=congrArg (λz:Str=>z.cps.toList) e;have e:nm i=nm j:=by
   have h1:∀i,nm i≠[]:=λi z=>by have:=By i;rw[z]at this;simp at this;omega
   simpa only[rX (h1 i),rX (h1 j)]using e
  have e:=congrArg (λl:List Nat=>l[a]?) e;simp only[nm,List.getElem?_set_self K3,Option.some.injEq]at e;have:=Aq e;have hi:=List.mem_range.mp hi;have hj:=List.mem_range.mp hj;omega
 ·obtain⟨i,_,rfl⟩:=List.mem_map.mp hz;refine EV (by rw[By];omega) (by rw[By];omega) λx hx=>?_;rcases List.mem_or_eq_of_mem_set hx with h|h
  ·exact Ii x h
  ·rw[h];exact tS _
theorem gQ {α:Type}(l:List α)(F:α->D){ρ:DL.Env}{fl fx:FE}{b:Bool}{a m:Int}(el:fl ρ=some (.lst (l.map F),b))(ex:fx ρ=sF (.int a))(h0:0<m)(hm:m<=l.length):∃x∈l.take m.toNat,f2 db fl (f2 aP fx (fI m)) ρ=some (F x,false):=by
 have h:=mod_lt (x:=a) h0;obtain⟨j,hj⟩:∃j:Nat,a % m=j:=⟨(a % m).toNat,by omega⟩;have hl:j<l.length:=by omega
 refine⟨l[j],List.mem_take_iff_getElem.mpr ⟨j,by omega,rfl⟩,df (x:=.lst (l.map F)) (y:=.int j) (b1:=b) (b2:=false) el (hj ▸ im ex h0) ?_⟩;have:(l.map F)[j]? = some (F l[j]):=by rw[vA,vU hl];rfl
 simp[yc this]
noncomputable def gp (zs:List Str)(i:Int):Str:=zs.getD i.toNat ""
theorem ky {zs:List Str}(nm:Nm6 zs){i:Int}(h:i<6):gp zs i∈zs:=by
 have:=nm.len;unfold gp;rw[List.getD_eq_getElem?_getD,vU (by omega)];exact List.getElem_mem _
theorem Bi {zs:List Str}(nm:Nm6 zs){i:Int}(h0:0<=i)(h:i<6):db (.lst (zs.map .str)) (.int i)=sF (.str (gp zs i)):=by
 have hl:=nm.len;rw[rP h0 (by simp;omega)];congr 2;unfold gp;rw[List.getD_eq_getElem?_getD,List.getD_eq_getElem?_getD,vA,vU (show i.toNat<zs.length by omega)];rfl
theorem ym {x:Int}(h:0<=x):∃y:Int,mh [.int 9999,.int x]=sF (.int y)/\0<=y/\y<=9999/\y<=x/\(x<=9999->y=x)/\(9999<x->y=9999):=⟨if x<9999 then x else 9999,rfl,by split<;>omega,by split<;>omega,by split<;>omega,by split<;>omega,by split<;>omega⟩
noncomputable def wD:Option Str->D
 |none=>.non
 |some z=>.str z
noncomputable def uI:Option Int->D
 |none=>.non
 |some n=>.int n
theorem tT (o:Option Str):aQ (wD o)=true:=by cases o<;>rfl
theorem As (o:Option Int):aQ (uI o)=true:=by cases o<;>rfl
theorem oJ {ρ:DL.Env}{fa:FA}(ds:List D)(e:fa ρ=some ds)(h:ds.length<=20:=by exact Nat.le_of_ble_eq_true rfl):fA bN fa ρ=sF (.tup ds):=ao e (by
 have:ds.length<=sizeLine:=ci (by omega);simp[this])
theorem iB {ρ:DL.Env}{fa:FA}(ds:List D)(e:fa ρ=some ds)(h:ds.length<=20:=by exact Nat.le_of_ble_eq_true rfl):fA aS fa ρ=lT ds:=ao e (by
 have:ds.length<=sizeLine:=ci (by omega);simp[this])
theorem EW {ρ:DL.Env}{fx fy:FE}{xs ys:List D}{b b':Bool}(ex:fx ρ=some (.lst xs,b))(ey:fy ρ=some (.lst ys,b'))(h:xs.length+ys.length<=100:=by exact Nat.le_of_ble_eq_true rfl):f2 bv fx fy ρ=lT (xs++ys):=df ex ey (by
 have:xs.length+ys.length<=sizeLine:=ci (by omega);simp only[bv,if_pos this])
def D6 (s:Int)(o:Option Int):Prop:=0<=s/\s<=9999/\∀t,o=some t->s<t/\t<=9999
theorem EX {s:Int}{o:Option Int}(g:D6 s o):cQ [.tup [.int s,uI o]]=some (.bl true,false):=by
 obtain⟨h0,h9,ho⟩:=g;cases o with
 |none=>exact qq h0 h9
 |some t=>
  obtain⟨h1,h2⟩:=ho t rfl;refine aw rfl (av (b9 (p:=false) (q:=false) (by simp) λ_=>b9 (p:=false) (q:=false) (by simp) λ_=>dJ (p:=true) (bo (b:=false) (ao (ds:=[.int s]) (by simp[vM]) (gO h0 h9)))) (aE ((tL (p:=false) (q:=true) (b1:=false) (by simp[yO,kc,uI]) λ_=>(g6 (p:=true) (q:=true) (b1:=false) (ao (ds:=[.int t]) (by simp[yO,uI]) (gO (by omega) h2)) λ_=>by simp[vM,yO,uI];omega).trans rfl).trans rfl)))
noncomputable def oK (c:Int×Str):D:=.tup [.int c.1,.str c.2]
structure ChG (cs:List (Int×Str)):Prop where
 one:∀c∈cs,(0<=c.1/\c.1<=7)/\mz c.2=true
 up:(cs.map (·.1)).Pairwise (· < ·)
 len:cs.length<=8
theorem yn (l:List D):kO l (some 1) none=l.tail:=by
 cases l with
 |nil=>rfl
 |cons d r=>exact CK d r
theorem yo:∀ {ps:List Int},ps.Pairwise (· < ·)->∀x∈ps.zip ps.tail,x.1<x.2
 |[],_,x,hx=>by cases hx
 |[a],_,x,hx=>by cases hx
 |a::b::r,h,x,hx=>by
  rcases vP hx with rfl|hx
  ·exact(List.pairwise_cons.mp h).1 b (by simp)
  ·exact yo (List.pairwise_cons.mp h).2 x hx
theorem nH:∀(xs ys:List Int),ej (xs.map .int) (ys.map .int)=(xs.zip ys).map λx=>.tup [.int x.1,.int x.2]
 |[],ys=>rfl
 |x::xs,[]=>rfl
 |x::xs,y::ys=>by have:=nH xs ys;unfold ej at this ⊢;simp[this]
theorem rY {c:Int×Str}(h:(0<=c.1/\c.1<=7)/\mz c.2=true):dm [oK c]=some (.bl true,false):=by
 refine aw rfl (av (b9 (p:=false) (q:=false) (by simp[oK]) λ_=>by simp[oK]) (aE ((g6 (p:=true) (q:=true) (b1:=false) (ao (ds:=[.int c.1,.int 0,.int 7]) (by simp[oK,vM,cY]) (fG h.1.1 h.1.2)) λ_=>ao (ds:=[.str c.2]) (by simp[oK,yO]) (nE h.2)).trans rfl)))
theorem q8 {cs:List (Int×Str)}(g:ChG cs):fZ [.tup (cs.map oK)]=some (.bl true,false):=by
 have hl:=g.len;have e1:fA mi (ae (ca (cE (ag 0)) 1 [] (gj 0) gg (fA dm (ae (ag 0) ah))) ah) [some (.tup (cs.map oK),false),none]=some (.bl true,false):=by
  have:=l7 (fi:=cE (ag 0)) (nT:=1) (cap:=[]) (tg:=gj 0) (fe:=fA dm (ae (ag 0) ah)) (ρ:=[some (.tup (cs.map oK),false),none]) cs oK (λ_=>.bl true) (by simp) (by omega) λc hc=>
   ⟨_,rfl,false,ao (ds:=[oK c]) (by simp[eT]) (rY (g.one c hc))⟩
  exact ao (aO (b:=true) this rfl) (jr cs)
 have e2:=l7 (fi:=cE (ag 0)) (nT:=1) (cap:=[]) (tg:=gj 0) (fe:=f2 db (ag 0) (fC (.int 0))) (ρ:=[some (.tup (cs.map oK),false),none]) cs oK (λc=>.int c.1) (by simp) (by omega) λc hc=>
  ⟨_,rfl,false,by simp[eT,oK,vM]⟩
 have Mx:cs.map (λc=>D.int c.1)=(cs.map (·.1)).map .int:=by rw[List.map_map];rfl
 rw[Mx]at e2;refine aw rfl (av (b9 (p:=false) (q:=false) (by simp) λ_=>dJ (p:=true) (bo (b:=false) e1)) (cO (ds:=(cs.map (·.1)).map .int) (show ca (cE (ag 0)) 1 [] (gj 0) gg (f2 db (ag 0) (fC (.int 0))) [some (.tup (cs.map oK),false),none]=_ from e2) (bw _) (aE ?_)));have:=l7 (fi:=u8 (ag 1) (yL (ag 1) (gt (fC (.int 1))) gX)) (nT:=2) (cap:=[]) (tg:=re [0,1]) (fe:=f2 yK (ag 0) (ag 1)) (ρ:=[some (.tup (cs.map oK),false),some (.lst ((cs.map (·.1)).map .int),true)]) ((cs.map (·.1)).zip (cs.map (·.1)).tail) (λx=>.tup [.int x.1,.int x.2]) (λ_=>.bl true) (by
   have:=nH (cs.map (·.1)) (cs.map (·.1)).tail;simp[yn]at this ⊢;exact this) (by rw[List.length_zip];simp;omega) λx hx=>
  ⟨_,rfl,false,by have:=yo g.up x hx;simp[eT,this]⟩
 exact ao (aO (b:=true) this rfl) (jr _)
structure PG (zs:List Str)(t:Str×D)(ss:List Str):Prop where
 part:aT [.str t.1,t.2]=some (.bl true,false)
 flat:aQ t.2=true/\qY t.2=false
 pk:(if(eI t.1 && there t.2)=true then [t.2]else [])=ss.map D.str
 ms:∀s∈ss,s∈zs
inductive qG (zs:List Str):List (Str×D)->List Str->Prop
 |nil:qG zs [] []
 |cons {t:Str×D}{ss:List Str}{L:List (Str×D)}{IE:List Str}(h:PG zs t ss) (r:qG zs L IE):qG zs (t::L) (ss++IE)
theorem qG.all {zs:List Str}:∀ {L:List (Str×D)}{ss:List Str},qG zs L ss->∀t∈L,aT [.str t.1,t.2]=some (.bl true,false)/\aQ t.2=true/\qY t.2=false
 |_,_,.nil,t,h=>by cases h
 |_,_,.cons g r,t,h=>by
  rcases vP h with rfl|h
  ·exact⟨g.part,g.flat⟩
  ·exact r.all t h
theorem vk (p:Str)(v:D)(r:List (Str×D)):pick ((p,v)::r)=(if(eI p && there v)=true then [v]else [])++pick r:=by
 unfold pick;rw[List.filter_cons];dsimp only;split<;>rfl
theorem qG.pick {zs:List Str}:∀ {L:List (Str×D)}{ss:List Str},qG zs L ss->pick L=ss.map .str
 |_,_,.nil=>rfl
 |_,_,.cons (t:=t) g r=>by
  rw[show t=(t.1,t.2)from rfl,vk,g.pk,r.pick,List.map_append]
theorem qG.mem {zs:List Str}:∀ {L:List (Str×D)}{ss:List Str},qG zs L ss->∀s∈ss,s∈zs
 |_,_,.nil,s,h=>by cases h
 |_,_,.cons g r,s,h=>by
  rcases List.mem_append.mp h with h|h
  ·exact g.ms s h
  ·exact r.mem s h
section
variable {zs:List Str}
theorem yp {p:Str}{v:D}{ss:List Str}(part:aT [.str p,v]=some (.bl true,false))(flat:aQ v=true/\qY v=false)(pk:(if(eI p && there v)=true then [v]else [])=ss.map D.str)(ms:∀s∈ss,s∈zs):PG zs (p,v) ss:=⟨part,flat,pk,ms⟩
theorem vm {p:Str}{v:D}(h:eI p=false):(if(eI p && there v)=true then [v]else [])=([]:List Str).map D.str:=by rw[h];rfl
theorem lL {p:Str}{n:Int}(hp:aT [.str p,.int n]=some (.bl true,false))(hx:eI p=false:=by decide +kernel):PG zs (p,.int n) []:=⟨hp,⟨rfl,rfl⟩,vm hx,by simp⟩
theorem gF {n:Int}(h0:0<=n)(h9:n<=9999):PG zs (("day" : Str),.int n) []:=lL (xX (by decide +kernel) (gO h0 h9))
theorem yq {n:Int}(h0:0<=n)(h9:n<=9999):PG zs (("since" : Str),.int n) []:=lL (xX (by decide +kernel) (gO h0 h9))
theorem lM {n:Int}(h0:0<=n)(h9:n<=9):PG zs (("further" : Str),.int n) []:=lL (rT h0 h9)
theorem Bj {n:Int}(h0:0<=n)(h9:n<=59):PG zs (("of" : Str),.int n) []:=lL (ET h0 h9)
theorem oA {m:Int}(h1:1<=m)(h:m<=255):PG zs (("matters" : Str),.int m) []:=lL (rR (qp h1 h))
theorem Bk {p z:Str}(hz:z∈zs)(nm:Nm6 zs)(h0:(decide (p=("day" : Str)) || decide (p=("since" : Str)))=false)(hp:(decide (p=("office" : Str)) || (decide (p=("by" : Str)) || decide (p=("person" : Str))))=true)(hx:eI p=true):PG zs (p,.str z) [z] :=
 ⟨tR h0 hp (js (nm.nm z hz)),⟨rfl,rfl⟩,by simp[hx],by simpa using hz⟩
theorem nI {z:Str}(hz:z∈zs)(nm:Nm6 zs):PG zs (("by" : Str),.str z) [z]:=Bk hz nm (by decide +kernel) (by decide +kernel) (by decide +kernel)
theorem q9 {z:Str}(hz:z∈zs)(nm:Nm6 zs):PG zs (("person" : Str),.str z) [z]:=Bk hz nm (by decide +kernel) (by decide +kernel) (by decide +kernel)
theorem oB {z:Str}(hz:z∈zs)(nm:Nm6 zs):PG zs (("office" : Str),.str z) [] :=
 yp (tR (by decide +kernel) (by decide +kernel) (js (nm.nm z hz))) ⟨rfl,rfl⟩ (vm (by decide +kernel)) (by simp)
theorem Au {z:Str}(hz:z∈[("open" : Str),("first" : Str),("last" : Str)]):PG zs (("rule" : Str),.str z) []:=by
 have h1:aT [.str "rule",.str z]=some (.bl true,false):=by
  simp at hz;rcases hz with rfl|rfl|rfl<;>exact gz (by decide +kernel)
 exact⟨h1,⟨rfl,rfl⟩,vm (p:=("rule" : Str)) (by decide +kernel),by simp⟩
theorem rZ {s:Int}{o:Option Int}(g:D6 s o):PG zs (("stretch" : Str),.tup [.int s,uI o]) []:=⟨rS (EX g),by cases o<;>exact⟨rfl,rfl⟩,vm (p:=("stretch" : Str)) (by decide +kernel),by simp⟩
theorem Bl {o:Option Str}(nm:Nm6 zs)(h:∀z,o=some z->z∈zs):∃ss,ss.length<=1/\PG zs (("whom" : Str),wD o) ss:=by
 cases o with
 |none=>exact⟨[],by simp,Ak,⟨rfl,rfl⟩,by simp[wD],by simp⟩
 |some z=>
  refine⟨[z],by simp,yp (aw rfl (av (c2 (by decide +kernel)) (av (c3 (by decide +kernel)) (eA (cq (by decide +kernel)) (aE ?_))))) ⟨rfl,rfl⟩ ?_ (by simpa using h z rfl)⟩
  ·exact(tL (p:=false) (q:=true) (b1:=false) (df (x:=.str z) (y:=.non) (b1:=false) (b2:=false) rfl rfl (by simp[kc])) λ_=>ao (ds:=[.str z]) rfl (js (nm.nm z (h z rfl)))).trans rfl
  ·have:eI ("whom" : Str)=true:=by decide +kernel
   simp[wD,this]
theorem CP {ps:List Str}(h1:1<=ps.length)(h8:ps.length<=8)(h:∀p∈ps,mz p=true):PG zs (("pieces" : Str),.tup (ps.map .str)) [] :=
 ⟨vc (rQ h1 h8 h),⟨by simpa using cI ps,rfl⟩,vm (p:=("pieces" : Str)) (by decide +kernel),by simp⟩
theorem EY {cs:List (Int×Str)}(g:ChG cs):PG zs (("changes" : Str),.tup (cs.map oK)) []:=by
 refine yp (aw rfl (av (c2 (by decide +kernel)) (av (c3 (by decide +kernel)) (av (cq (by decide +kernel)) (av (cq (by decide +kernel)) (av (cq (by decide +kernel)) (av (cq (by decide +kernel)) (av (cq (by decide +kernel)) (av (cq (by decide +kernel)) (av (cq (by decide +kernel)) (aE (ao (ds:=[.tup (cs.map oK)]) rfl (q8 g))))))))))))) ⟨?_,rfl⟩ (vm (by decide +kernel)) (by simp);rw[mH];exact eG (by intro d hd;obtain⟨x,_,rfl⟩:=List.mem_map.mp hd;rfl)
end
noncomputable def dq (p:Str):Nat:=if decide (p=("day" : Str)) || decide (p=("since" : Str))then 1 else if decide (p=("stretch" : Str))then 2 else 0
noncomputable def ol:Option Int->List Int
 |none=>[]
 |some t=>[t]
inductive DP:List (Str×D)->List Int->Prop
 |nil:DP [] []
 |skip {p:Str}{v:D}{r:List (Str×D)}{ds:List Int}(h:dq p=0) (k:DP r ds):DP ((p,v)::r) ds
 |day {p:Str}{n:Int}{r:List (Str×D)}{ds:List Int}(h:dq p=1) (k:DP r ds):DP ((p,.int n)::r) (n::ds)
 |str {p:Str}{s:Int}{o:Option Int}{r:List (Str×D)}{ds:List Int}(h:dq p=2) (k:DP r ds):DP ((p,.tup [.int s,uI o])::r) (s::ol o++ds)
inductive LP (b:Bool):List D->List Int->Prop
 |nil:LP b [] []
 |txt {z:Str}{r:List D}{ds:List Int}(k:LP b r ds):LP b (.str z::r) ds
 |num {n:Int}{r:List D}{ds:List Int}(k:LP b r ds):LP b (.int n::r) ds
 |non {r:List D}{ds:List Int}(k:LP b r ds):LP b (.non::r) ds
 |one {x:D}{r:List D}{ds:List Int}(k:LP b r ds):LP b (.tup [x]::r) ds
 |pcs {x y:Str}{r:List D}{ds:List Int}(h:b=true) (k:LP b r ds):LP b (.tup [.str x,.str y]::r) ds
 |str {s:Int}{o:Option Int}{r:List D}{ds:List Int}(h:b=true) (k:LP b r ds):LP b (.tup [.int s,uI o]::r) (s::ol o++ds)
theorem cu {tg:FG}{g:FS}{d:D}{ds:List D}{ρ ρ1 ρ':DL.Env}{r:Option Res}(h1:tg d ρ=some ρ1)(h2:g ρ1=some (.nx ρ'))(h3:dR tg g ds ρ'=r):dR tg g (d::ds) ρ=r:=by
 rw[mL,h1];simp only[vJ,h2];exact h3
noncomputable def vI (xs:List Int):List D:=xs.map .int
theorem gG (a b:List Int):vI a++vI b=vI (a++b):=by unfold vI;rw[List.map_append]
theorem Av (s:Int)(o:Option Int):(([some s,o]:List (Option Int)).filter Option.isSome).map uI=vI (s::ol o):=by cases o<;>rfl
theorem CQ (o:Option Int):iq (uI o) .non=sF (.bl o.isSome):=by cases o<;>simp[uI,kc]
theorem oC {r v3:OB}{acc:OB}(p:Str):cw (br (f2 eZ (ag 2) (fS "day"))) (br (f2 eZ (ag 2) (fS "since"))) [r,acc,sF (.str p),v3]=some (decide (p=("day" : Str)) || decide (p=("since" : Str))):=b9 (tO (di (.str p) (.str "day") rfl rfl (Al _ _))) λ_=>tO (di (.str p) (.str "since") rfl rfl (Al _ _))
theorem qA {r v3:OB}{acc:OB}(p:Str):br (f2 eZ (ag 2) (fS "stretch")) [r,acc,sF (.str p),v3]=some (decide (p=("stretch" : Str))):=tO (di (.str p) (.str "stretch") rfl rfl (Al _ _))
theorem Jp {p:Str}(h:dq p=0):(decide (p=("day" : Str)) || decide (p=("since" : Str)))=false/\decide (p=("stretch" : Str))=false:=by
 unfold dq at h;split at h
 ·cases h
 ·rename_i h1;split at h
  ·cases h
  ·rename_i h2;exact⟨Bool.eq_false_iff.mpr h1,Bool.eq_false_iff.mpr h2⟩
theorem KW {p:Str}(h:dq p=1):(decide (p=("day" : Str)) || decide (p=("since" : Str)))=true:=by
 unfold dq at h;split at h
 ·assumption
 ·split at h<;>cases h
theorem Jq {p:Str}(h:dq p=2):(decide (p=("day" : Str)) || decide (p=("since" : Str)))=false/\decide (p=("stretch" : Str))=true:=by
 unfold dq at h;split at h
 ·cases h
 ·rename_i h1;split at h
  ·rename_i h2;exact⟨Bool.eq_false_iff.mpr h1,h2⟩
  ·cases h
theorem tU {ρ:DL.Env}{i:Nat}{s:Int}{o:Option Int}{c:FT}(h:ρ[i]? = some (sF (.tup [.int s,uI o])))(hc:∀o:Option Int,c [sF (uI o)]=some o.isSome):ca (cE (ag i)) 1 [] (gj 0) c (ag 0) ρ=lT (vI (s::ol o)):=by
 have:=nn (fi:=cE (ag i)) (nT:=1) (cap:=[]) (tg:=gj 0) (c:=c) (fe:=ag 0) (ρ:=ρ) ([some s,o]:List (Option Int)) uI Option.isSome uI (by simp[h,uI]) (by simp) λx _=>⟨_,rfl,hc x,λ_=>⟨false,rfl⟩⟩;rw[Av]at this;exact this
theorem oD:∀ {L:List (Str×D)}{ds:List Int},DP L ds->∀(acc:List Int)(r v2 v3:OB),acc.length+3*L.length<=1000 ->
  ∃w2 w3,dR (re [2,3]) gb (L.map λx=>.tup [.str x.1,x.2]) [r,lT (vI acc),v2,v3]=some (.nx [r,lT (vI (acc++ds)),w2,w3])
 |_,_,.nil,acc,r,v2,v3,_=>⟨v2,v3,by rw[uQ];rfl⟩
 |_,_,.skip (p:=p) (v:=v) h k,acc,r,v2,v3,hl=>by
  rw[vD]at hl;obtain⟨w2,w3,e⟩:=oD k acc r (sF (.str p)) (sF v) (by omega);exact⟨w2,w3,cu (ρ1:=[r,lT (vI acc),sF (.str p),sF v]) rfl (ly ((oC p).trans (by rw[(Jp h).1])) (ly ((qA p).trans (by rw[(Jp h).2])) rfl)) e⟩
 |_,_,.day (p:=p) (n:=n) h k,acc,r,v2,v3,hl=>by
  rw[vD]at hl;obtain⟨w2,w3,e⟩:=oD k (acc++[n]) r (sF (.str p)) (sF (.int n)) (by simp;omega);rw[List.append_assoc]at e;refine⟨w2,w3,cu (ρ1:=[r,lT (vI acc),sF (.str p),sF (.int n)]) rfl (my ((oC p).trans (by rw[KW h])) ((i7 (d:=.int n) (b:=false) (ds:=vI acc) rfl rfl rfl (cg (by simp[vI];omega))).trans ?_)) e⟩;show some (Res.nx [r,lT (vI acc++vI [n]),sF (.str p),sF (.int n)])=_;rw[gG]
 |_,_,.str (p:=p) (s:=s) (o:=o) h k,acc,r,v2,v3,hl=>by
  rw[vD]at hl;have ho:(ol o).length<=1:=by cases o<;>simp[ol]
  obtain⟨w2,w3,e⟩:=oD k (acc++(s::ol o)) r (sF (.str p)) (sF (.tup [.int s,uI o])) (by simp;omega);rw[List.append_assoc]at e;have hx:=tU (ρ:=[r,lT (vI acc),sF (.str p),sF (.tup [.int s,uI o])]) (i:=3) (s:=s) (o:=o) (c:=br (f2 iq (ag 0) (fC .non))) rfl λo=>tO (di (uI o) .non rfl rfl (CQ o));refine⟨w2,w3,cu (ρ1:=[r,lT (vI acc),sF (.str p),sF (.tup [.int s,uI o])]) rfl (ly ((oC p).trans (by rw[(Jq h).1])) (my ((qA p).trans (by rw[(Jq h).2])) ?_)) e⟩;have hsz:(vI acc).length+(vI (s::ol o)).length<=sizeLine:=ci (by simp[vI];omega);have By:aV (vI (s::ol o))=true:=bw _;simp only[mj,List.getElem?_cons_succ,List.getElem?_cons_zero,hx,vJ];rw[if_pos ⟨trivial,By,hsz⟩,gG];rfl
theorem Aw {h:Int}{kind:Str}{L:List (Str×D)}{ds:List Int}(hp:gm aU (.str kind)=some (.tup ((L.map (·.1)).map .str),false))(hl:L.length<=10)(k:DP L ds):fE [row h kind (L.map (·.2))]=lT (vI (h::ds)):=by
 have e:=qy (h:=h) (rest:=L.map (·.2)) hp;have hz:(L.map (·.1)).zip (L.map (·.2))=L:=by
  rw[List.zip_map'];exact(List.map_congr_left λx _=>rfl).trans (List.map_id L)
 rw[hz]at e;obtain⟨w2,w3,er⟩:=oD k [h] (sF (row h kind (L.map (·.2)))) none none (by simp;omega);have er:dR (re [2,3]) gb (L.map λx=>.tup [.str x.1,x.2]) [sF (row h kind (L.map (·.2))),lT (vI [h]),none,none]=some (.nx [sF (row h kind (L.map (·.2))),lT (vI (h::ds)),w2,w3]):=er;have e0:fA aS (ae (gn 0 0) ah) [sF (row h kind (L.map (·.2))),none,none,none]=lT (vI [h]):=by
  have:gn 0 0 [sF (row h kind (L.map (·.2))),none,none,none]=sF (.int h):=by simp[row,vM]
  exact ao (ds:=[.int h]) (aO (b:=false) this rfl) (by simp[sizeLine,vI])
 have ef:iN (cE (fA bQ (fV 0 ah))) (re [2,3]) gb [sF (row h kind (L.map (·.2))),lT (vI [h]),none,none]=some (.nx [sF (row h kind (L.map (·.2))),lT (vI (h::ds)),w2,w3]):=by
  refine jh (ds:=L.map λx=>.tup [.str x.1,x.2]) ?_ er;have e1:=ao (fa:=ae (ag 0) ah) (ρ:=me [sF (row h kind (L.map (·.2))),lT (vI [h]),none,none]) (ds:=[row h kind (L.map (·.2))]) rfl e;show Option.bind (fA bQ (ae (ag 0) ah) (me [sF (row h kind (L.map (·.2))),lT (vI [h]),none,none])) _=_;rw[e1];rfl
 have eb:gL [sF (row h kind (L.map (·.2))),none,none,none]=some (.rt (.lst (vI (h::ds))) true):=by
  unfold gL;exact cO e0 (bw _) (cG ef (kx rfl))
 exact aw rfl eb
theorem yr {a0 v1 v2 v4:OB}{kind:Str}{rest:List D}{b:Bool}(hb:sT (.str kind) (.tup [.str "leave",.str "paper",.str "like"])=sF (.bl b)):br (f2 sT (gn 3 0) (fA bN (ae (fS "leave") (ae (fS "paper") (ae (fS "like") ah))))) [a0,v1,v2,sF (.tup (.str kind::rest)),v4]=some b :=
 tO (di (.str kind) (.tup [.str "leave",.str "paper",.str "like"]) (by simp[vM]) (oJ _ rfl) hb)
theorem iC {b:Bool}{kind:Str}{rest:List D}(hb:sT (.str kind) (.tup [.str "leave",.str "paper",.str "like"])=sF (.bl b)):∀ {L:List D}{ds:List Int},LP b L ds->∀(acc:List Int)(a0 v2 v4:OB),acc.length+3*L.length<=1000 ->
  ∃w4,dR (gj 4) jD L [a0,lT (vI acc),v2,sF (.tup (.str kind::rest)),v4]=some (.nx [a0,lT (vI (acc++ds)),v2,sF (.tup (.str kind::rest)),w4])
 |_,_,.nil,acc,a0,v2,v4,_=>⟨v4,by rw[uQ];rfl⟩
 |_,_,.txt (z:=z) k,acc,a0,v2,v4,hl=>by
  rw[vD]at hl;obtain⟨w,e⟩:=iC hb k acc a0 v2 (sF (.str z)) (by omega);exact⟨w,cu (ρ1:=[a0,lT (vI acc),v2,sF (.tup (.str kind::rest)),sF (.str z)]) rfl (ly (cP (p:=false) (q:=false) (by simp) λz=>by cases z) rfl) e⟩
 |_,_,.num (n:=n) k,acc,a0,v2,v4,hl=>by
  rw[vD]at hl;obtain⟨w,e⟩:=iC hb k acc a0 v2 (sF (.int n)) (by omega);exact⟨w,cu (ρ1:=[a0,lT (vI acc),v2,sF (.tup (.str kind::rest)),sF (.int n)]) rfl (ly (cP (p:=false) (q:=false) (by simp) λz=>by cases z) rfl) e⟩
 |_,_,.non k,acc,a0,v2,v4,hl=>by
  rw[vD]at hl;obtain⟨w,e⟩:=iC hb k acc a0 v2 (sF .non) (by omega);exact⟨w,cu (ρ1:=[a0,lT (vI acc),v2,sF (.tup (.str kind::rest)),sF .non]) rfl (ly (cP (p:=false) (q:=false) (by simp) λz=>by cases z) rfl) e⟩
 |_,_,.one (x:=x) k,acc,a0,v2,v4,hl=>by
  rw[vD]at hl;obtain⟨w,e⟩:=iC hb k acc a0 v2 (sF (.tup [x])) (by omega);exact⟨w,cu (ρ1:=[a0,lT (vI acc),v2,sF (.tup (.str kind::rest)),sF (.tup [x])]) rfl (ly ((cP (p:=true) (q:=false) (by simp) λ_=>(cP (p:=b) (q:=false) (yr hb) λ_=>by simp).trans (by rw[Bool.and_false])).trans rfl) rfl) e⟩
 |_,_,.pcs (x:=x) (y:=y) h k,acc,a0,v2,v4,hl=>by
  rw[vD]at hl;obtain⟨w,e⟩:=iC hb k acc a0 v2 (sF (.tup [.str x,.str y])) (by omega);have hx:=nn (fi:=cE (ag 4)) (nT:=1) (cap:=[]) (tg:=gj 0) (c:=br (fA a7 (fV 0 (ae (fC (.ty "int")) ah)))) (fe:=ag 0) (ρ:=[a0,lT (vI acc),v2,sF (.tup (.str kind::rest)),sF (.tup [.str x,.str y])]) ([x,y]:List Str) D.str (λ_=>false) D.str (by simp) (by simp) λz _=>⟨_,rfl,by simp[eT],λz=>by cases z⟩;rw[List.filter_eq_nil_iff.mpr (by simp)]at hx;have hsz:(vI acc).length+([]:List D).length<=sizeLine:=ci (by simp[vI];omega);refine⟨w,cu (ρ1:=[a0,lT (vI acc),v2,sF (.tup (.str kind::rest)),sF (.tup [.str x,.str y])]) rfl (my ((cP (p:=true) (q:=true) (by simp) λ_=>(cP (p:=b) (q:=true) (yr hb) λ_=>by simp).trans (by rw[h];rfl)).trans rfl) (tK (ds:=vI acc) (df (x:=.lst (vI acc)) (y:=.lst []) (b1:=false) (b2:=true) rfl hx ?_) (bw _))) e⟩;simp only[bv,if_pos hsz,uQ]
 |_,_,.str (s:=s) (o:=o) h k,acc,a0,v2,v4,hl=>by
  rw[vD]at hl;have ho:(ol o).length<=1:=by cases o<;>simp[ol]
  obtain⟨w,e⟩:=iC hb k (acc++(s::ol o)) a0 v2 (sF (.tup [.int s,uI o])) (by simp;omega);rw[List.append_assoc]at e;have hx:=tU (ρ:=[a0,lT (vI acc),v2,sF (.tup (.str kind::rest)),sF (.tup [.int s,uI o])]) (i:=4) (s:=s) (o:=o) (c:=br (fA a7 (fV 0 (ae (fC (.ty "int")) ah)))) rfl λo=>by cases o<;>simp[uI]
  have hsz:(vI acc).length+(vI (s::ol o)).length<=sizeLine:=ci (by simp[vI];omega);refine⟨w,cu (ρ1:=[a0,lT (vI acc),v2,sF (.tup (.str kind::rest)),sF (.tup [.int s,uI o])]) rfl (my ((cP (p:=true) (q:=true) (by simp) λ_=>(cP (p:=b) (q:=true) (yr hb) λ_=>by simp).trans (by rw[h];rfl)).trans rfl) (tK (ds:=vI (acc++(s::ol o))) (df (x:=.lst (vI acc)) (y:=.lst (vI (s::ol o))) (b1:=false) (b2:=true) rfl hx ?_) (bw _))) e⟩;simp only[bv,if_pos hsz,gG]
def pre (kind:Str)(rest:List D):List Int->Prop:=λds=>
 (kind=("root" : Str)/\ds=[])∨(kind≠("root" : Str)/\∃day r,rest=.int day::r/\((kind≠("chosen" : Str)/\ds=[day])∨(kind=("chosen" : Str)/\∃a b c s,r=[a,b,c,.int s]/\ds=[day,s])))
theorem Ax {h:Int}{kind:Str}{rest:List D}{b:Bool}{d1 d2 acc:List Int}(hb:sT (.str kind) (.tup [.str "leave",.str "paper",.str "like"])=sF (.bl b))(k:LP b rest d2)(hp:pre kind rest d1)(hl:acc.length+3*rest.length<=900)(a0 v4:OB):
  ∃w4,gN [a0,lT (vI acc),sF (.int h),sF (.tup (.str kind::rest)),v4]=some (.nx [a0,lT (vI (acc++(h::(d1++d2)))),sF (.int h),sF (.tup (.str kind::rest)),w4]):=by
 have e0:∀acc:List Int,∀v4:OB,gn 3 0 [a0,lT (vI acc),sF (.int h),sF (.tup (.str kind::rest)),v4]=sF (.str kind):=λ_ _=>by simp[vM]
 have t1:∀acc:List Int,br (f2 yJ (gn 3 0) (fS "root")) [a0,lT (vI acc),sF (.int h),sF (.tup (.str kind::rest)),v4]=some (!decide (kind=("root" : Str))):=λacc=>tO (di (.str kind) (.str "root") (e0 acc v4) rfl (by simp));have t2:∀acc:List Int,br (f2 eZ (gn 3 0) (fS "chosen")) [a0,lT (vI acc),sF (.int h),sF (.tup (.str kind::rest)),v4]=some (decide (kind=("chosen" : Str))):=λacc=>tO (di (.str kind) (.str "chosen") (e0 acc v4) rfl (Al _ _));have jF:∀acc:List Int,acc.length+3*rest.length<=990->∃w4,Gn [3] (iN (cE (ag 3)) (gj 4) jD) [a0,lT (vI acc),sF (.int h),sF (.tup (.str kind::rest)),v4]=some (.nx [a0,lT (vI (acc++d2)),sF (.int h),sF (.tup (.str kind::rest)),w4]):=λacc hl=>by
  obtain⟨w,e⟩:=iC hb (rest:=rest) (LP.txt (z:=kind) k) acc a0 (sF (.int h)) v4 (by rw[vD];omega);exact⟨w,jh (ds:=.str kind::rest) rfl e⟩
 have MZ:∀(acc:List Int)(n:Int),(vI acc).length<sizeLine->True:=λ_ _ _=>trivial;have a1:ie 1 (ag 2) [a0,lT (vI acc),sF (.int h),sF (.tup (.str kind::rest)),v4]=some (.nx [a0,lT (vI (acc++[h])),sF (.int h),sF (.tup (.str kind::rest)),v4]):=(i7 (d:=.int h) (b:=false) (ds:=vI acc) rfl rfl rfl (cg (by simp[vI];omega))).trans (by
  show some (Res.nx [a0,lT (vI acc++vI [h]),_,_,_])=_;rw[gG])
 rcases hp with⟨hk,rfl⟩|⟨hk,day,r,rfl,hc⟩
 ·obtain⟨w,e⟩:=jF (acc++[h]) (by simp;omega);have My:decide (kind=("chosen" : Str))=false:=by subst hk;decide +kernel
  rw[List.append_assoc]at e;exact⟨w,cG a1 (av ((t1 _).trans (by rw[decide_eq_true hk];rfl)) (av ((t2 _).trans (by rw[My])) e))⟩
 ·have a2:ie 1 (gn 3 1) [a0,lT (vI (acc++[h])),sF (.int h),sF (.tup (.str kind::.int day::r)),v4]=some (.nx [a0,lT (vI (acc++[h,day])),sF (.int h),sF (.tup (.str kind::.int day::r)),v4]):=(i7 (d:=.int day) (b:=false) (ds:=vI (acc++[h])) rfl (by simp[yO]) rfl (cg (by simp[vI];omega))).trans (by
   show some (Res.nx [a0,lT (vI (acc++[h])++vI [day]),_,_,_])=_;rw[gG,List.append_assoc];rfl)
  rcases hc with⟨hc,rfl⟩|⟨hc,a,b',c,s,rfl,rfl⟩
  ·obtain⟨w,e⟩:=jF (acc++[h,day]) (by simp at hl ⊢;omega);rw[List.append_assoc]at e;exact⟨w,cG a1 (cG (my ((t1 _).trans (by rw[decide_eq_false hk];rfl)) a2) (av ((t2 _).trans (by rw[decide_eq_false hc])) e))⟩
  ·obtain⟨w,e⟩:=jF (acc++[h,day,s]) (by simp at hl ⊢;omega);rw[List.append_assoc]at e;have h5:gn 3 5 [a0,lT (vI (acc++[h,day])),sF (.int h),sF (.tup [.str kind,.int day,a,b',c,.int s]),v4]=sF (.int s):=by
    have:mF [D.str kind,.int day,a,b',c,.int s] 5=some (.int s):=by have:=jA (xs:=[D.str kind,.int day,a,b',c,.int s]) (j:=5) (by simp);simpa using this
    simp[this]
   have a3:ie 1 (gn 3 5) [a0,lT (vI (acc++[h,day])),sF (.int h),sF (.tup [.str kind,.int day,a,b',c,.int s]),v4]=some (.nx [a0,lT (vI (acc++[h,day,s])),sF (.int h),sF (.tup [.str kind,.int day,a,b',c,.int s]),v4]):=(i7 (d:=.int s) (b:=false) (ds:=vI (acc++[h,day])) rfl h5 rfl (cg (by simp[vI];omega))).trans (by
    show some (Res.nx [a0,lT (vI (acc++[h,day])++vI [s]),_,_,_])=_;rw[gG,List.append_assoc];rfl)
   exact⟨w,cG a1 (cG (my ((t1 _).trans (by rw[decide_eq_false hk];rfl)) a2) (cG (my ((t2 _).trans (by rw[decide_eq_true hc])) a3) e))⟩
noncomputable abbrev w3:D:=.tup [.str "leave",.str "paper",.str "like"]
structure GX (zs:List Str)(k:Nat)(day:Int)(kind:Str)(L:List (Str×D))(ds:List Int):Prop where
 dg:∀h:Int,day<=h->0<=h->h<=9999->DeedG zs k h kind (L.map (·.2))
 hp:gm aU (.str kind)=some (.tup ((L.map (·.1)).map .str),false)
 len:L.length<=8
 dp:DP L ds
 lw:∃b d1 d2,sT (.str kind) w3=sF (.bl b)/\LP b (L.map (·.2)) d2/\pre kind (L.map (·.2)) d1/\ds=d1++d2
 few:ds.length<=3
theorem Ay {zs:List Str}{k:Nat}{day:Int}{kind:Str}{L:List (Str×D)}{ss parts:List Str}{d1 d2:List Int}{b:Bool}(g:qG zs L ss)(h2:ss.length<=2)(hp:L.map (·.1)=parts)
  (AF:∀h:Int,day<=h->0<=h->(kind=("root" : Str)/\(k=0∨k=1)/\∃r,L.map (·.2)=.str (off zs k)::r)∨(kind≠("root" : Str)/\(∃(day:Int)(r:List D),L.map (·.2)=.int day::r/\day<=h/\0<=day/\(kind=("chosen" : Str)->∃a b c s,r=[a,b,c,.int s]/\day<=s))/\lg aU (.str kind) (.str "day")=some (.int 0,false)))
  (dp:DP L (d1++d2)) (lp:LP b (L.map (·.2)) d2) (qD:pre kind (L.map (·.2)) d1) (few:(d1++d2).length<=3)
  (hc:ES (gm aU (.str kind)) (.tup (parts.map .str)) false=true:=by decide +kernel) (Mz:decide (parts.length<=8)=true:=by decide +kernel) (hb:ES (sT (.str kind) w3) (.bl b) false=true:=by decide +kernel):GX zs k day kind L (d1++d2):=by
 have bp:L.length<=8:=by have:=congrArg List.length hp;rw[vH]at this;have:=of_decide_eq_true Mz;omega
 have Ga:gm aU (.str kind)=some (.tup ((L.map (·.1)).map .str),false):=by rw[hp];exact gz hc
 have hz:(L.map (·.1)).zip (L.map (·.2))=L:=by
  rw[List.zip_map'];exact(List.map_congr_left λx _=>rfl).trans (List.map_id L)
 refine⟨λh hd h0 h9=>⟨⟨L.map (·.1),ss,Ga,by simp,by rw[hz];exact λx hx=>(g.all x hx).1,by rw[hz];exact g.pick,h2,g.mem⟩,by simp;omega,λd hd=>?_,AF h hd h0⟩,Ga,bp,dp,⟨b,d1,d2,gz hb,lp,qD,rfl⟩,few⟩;obtain⟨x,hx,rfl⟩:=List.mem_map.mp hd;exact(g.all x hx).2
theorem iD {zs:List Str}{k:Nat}{day:Int}{kind:Str}{r:List D}(h0:0<=day)(hk:decide (kind=("root" : Str))=false:=by decide +kernel)(hc:decide (kind=("chosen" : Str))=false:=by decide +kernel)(hi:ES (lg aU (.str kind) (.str "day")) (.int 0) false=true:=by decide +kernel):
  ∀h:Int,day<=h->0<=h->(kind=("root" : Str)/\(k=0∨k=1)/\∃r',.int day::r=.str (off zs k)::r')∨(kind≠("root" : Str)/\(∃(d:Int)(r':List D),.int day::r=.int d::r'/\d<=h/\0<=d/\(kind=("chosen" : Str)->∃a b c s,r'=[a,b,c,.int s]/\d<=s))/\lg aU (.str kind) (.str "day")=some (.int 0,false)) :=
 λh hd _=>.inr ⟨of_decide_eq_false hk,⟨day,_,rfl,hd,h0,λe=>absurd e (of_decide_eq_false hc)⟩,gz hi⟩
theorem gc {day:Int}{kind:Str}{r:List D}(hk:decide (kind=("root" : Str))=false:=by decide +kernel)(hc:decide (kind=("chosen" : Str))=false:=by decide +kernel):pre kind (.int day::r) [day]:=.inr ⟨of_decide_eq_false hk,day,r,rfl,.inl ⟨of_decide_eq_false hc,rfl⟩⟩
theorem CS (day s:Int)(o:Option Int):([day]++(s::ol o++[])).length<=3:=by cases o<;>simp[ol]
section
variable {zs:List Str}{k:Nat}{day:Int}(nm:Nm6 zs) (h0:0<=day) (h9:day<=9999)
include nm h0 h9
theorem yt {o p:Str}(ho:o∈zs)(hp:p∈zs):GX zs k day ("named" : Str) [(("day" : Str),.int day),(("office" : Str),.str o),(("person" : Str),.str p)] ([day]++[]) :=
 Ay (b:=false) (parts:=[("day" : Str),("office" : Str),("person" : Str)]) (.cons (gF h0 h9) (.cons (oB ho nm) (.cons (q9 hp nm) .nil))) (by simp) rfl (iD h0) (.day (by decide +kernel) (.skip (by decide +kernel) (.skip (by decide +kernel) .nil))) (.num (.txt (.txt .nil))) gc (by simp)
theorem Az {b o p:Str}(hb:b∈zs)(ho:o∈zs)(hp:p∈zs):GX zs k day ("heir" : Str) [(("day" : Str),.int day),(("by" : Str),.str b),(("office" : Str),.str o),(("person" : Str),.str p)] ([day]++[]) :=
 Ay (b:=false) (parts:=[("day" : Str),("by" : Str),("office" : Str),("person" : Str)]) (.cons (gF h0 h9) (.cons (nI hb nm) (.cons (oB ho nm) (.cons (q9 hp nm) .nil)))) (by simp) rfl (iD h0) (.day (by decide +kernel) (.skip (by decide +kernel) (.skip (by decide +kernel) (.skip (by decide +kernel) .nil)))) (.num (.txt (.txt (.txt .nil)))) gc (by simp)
theorem vn {b o p:Str}{s:Int}(hb:b∈zs)(ho:o∈zs)(hp:p∈zs)(hs:day<=s)(M0:s<=9999):GX zs k day ("chosen" : Str) [(("day" : Str),.int day),(("by" : Str),.str b),(("office" : Str),.str o),(("person" : Str),.str p),(("since" : Str),.int s)] ([day,s]++[]) :=
 Ay (b:=false) (parts:=[("day" : Str),("by" : Str),("office" : Str),("person" : Str),("since" : Str)]) (.cons (gF h0 h9) (.cons (nI hb nm) (.cons (oB ho nm) (.cons (q9 hp nm) (.cons (yq (by omega) M0) .nil))))) (by simp) rfl
  (λh hd _=>.inr ⟨by decide +kernel,⟨day,_,rfl,hd,h0,λ_=>⟨_,_,_,s,rfl,hs⟩⟩,gz (by decide +kernel)⟩)
  (.day (by decide +kernel) (.skip (by decide +kernel) (.skip (by decide +kernel) (.skip (by decide +kernel) (.day (by decide +kernel) .nil))))) (.num (.txt (.txt (.txt (.num .nil))))) (.inr ⟨by decide +kernel,day,_,rfl,.inr ⟨rfl,_,_,_,s,rfl,rfl⟩⟩) (by simp)
theorem sd {kind p:Str}(hk:kind=("death" : Str)∨kind=("lost" : Str)∨kind=("found" : Str))(hp:p∈zs):GX zs k day kind [(("day" : Str),.int day),(("person" : Str),.str p)] ([day]++[]):=by
 rcases hk with rfl|rfl|rfl<;>exact Ay (b:=false) (parts:=[("day" : Str),("person" : Str)]) (.cons (gF h0 h9) (.cons (q9 hp nm) .nil)) (by simp) rfl (iD h0) (.day (by decide +kernel) (.skip (by decide +kernel) .nil)) (.num (.txt .nil)) gc (by simp)
theorem Bm {kind b:Str}{n:Int}(hk:kind=("copy" : Str)∨kind=("call" : Str))(hb:b∈zs)(hn:0<=n/\n<=59):GX zs k day kind [(("day" : Str),.int day),(("by" : Str),.str b),(("of" : Str),.int n)] ([day]++[]):=by
 rcases hk with rfl|rfl<;>exact Ay (b:=false) (parts:=[("day" : Str),("by" : Str),("of" : Str)]) (.cons (gF h0 h9) (.cons (nI hb nm) (.cons (Bj hn.1 hn.2) .nil))) (by simp) rfl (iD h0) (.day (by decide +kernel) (.skip (by decide +kernel) (.skip (by decide +kernel) .nil))) (.num (.txt (.num .nil))) gc (by simp)
theorem yu {b p:Str}{m s f:Int}{o:Option Int}(hb:b∈zs)(hp:p∈zs)(hm:1<=m/\m<=255)(hs:D6 s o)(hf:0<=f/\f<=9):GX zs k day ("leave" : Str) [(("day" : Str),.int day),(("by" : Str),.str b),(("person" : Str),.str p),(("matters" : Str),.int m),(("stretch" : Str),.tup [.int s,uI o]),(("further" : Str),.int f)] ([day]++(s::ol o++[])) :=
 Ay (b:=true) (parts:=[("day" : Str),("by" : Str),("person" : Str),("matters" : Str),("stretch" : Str),("further" : Str)]) (.cons (gF h0 h9) (.cons (nI hb nm) (.cons (q9 hp nm) (.cons (oA hm.1 hm.2) (.cons (rZ hs) (.cons (lM hf.1 hf.2) .nil)))))) (by simp) rfl (iD h0)
  (.day (by decide +kernel) (.skip (by decide +kernel) (.skip (by decide +kernel) (.skip (by decide +kernel) (.str (by decide +kernel) (.skip (by decide +kernel) .nil)))))) (.num (.txt (.txt (.num (.str rfl (.num .nil)))))) gc (CS day s o)
theorem yv {b p q:Str}{m s:Int}{o:Option Int}{wo:Option Str}(hb:b∈zs)(hm:1<=m/\m<=255)(hs:D6 s o)(hw:∀z,wo=some z->z∈zs)(hp:p∈zs)(hq:q∈zs):GX zs k day ("paper" : Str) [(("day" : Str),.int day),(("by" : Str),.str b),(("matters" : Str),.int m),(("stretch" : Str),.tup [.int s,uI o]),(("whom" : Str),wD wo),(("pieces" : Str),.tup (([p,q]:List Str).map .str))] ([day]++(s::ol o++[])):=by
 obtain⟨ss,hl,gw⟩:=Bl nm hw;refine Ay (b:=true) (parts:=[("day" : Str),("by" : Str),("matters" : Str),("stretch" : Str),("whom" : Str),("pieces" : Str)]) (.cons (gF h0 h9) (.cons (nI hb nm) (.cons (oA hm.1 hm.2) (.cons (rZ hs) (.cons gw (.cons (CP (ps:=[p,q]) (by simp) (by simp) (by simp;exact⟨nm.nm p hp,nm.nm q hq⟩)) .nil)))))) (by simp;omega) rfl (iD h0)
  (.day (by decide +kernel) (.skip (by decide +kernel) (.skip (by decide +kernel) (.str (by decide +kernel) (.skip (by decide +kernel) (.skip (by decide +kernel) .nil)))))) (.num (.txt (.num (.str rfl ?_)))) gc (CS day s o)
 cases wo with
 |none=>exact .non (.pcs rfl .nil)
 |some z=>exact .txt (.pcs rfl .nil)
theorem A0 {b z:Str}{m s n:Int}{o:Option Int}(hb:b∈zs)(hm:1<=m/\m<=255)(hs:D6 s o)(hn:0<=n/\n<=59)(hz:z∈zs):GX zs k day ("like" : Str) [(("day" : Str),.int day),(("by" : Str),.str b),(("matters" : Str),.int m),(("stretch" : Str),.tup [.int s,uI o]),(("whom" : Str),wD none),(("of" : Str),.int n),(("changes" : Str),.tup (([((0:Int),z)]:List (Int×Str)).map oK))] ([day]++(s::ol o++[])):=by
 obtain⟨ss,hl,gw⟩:=Bl (o:=none) nm (by simp);exact Ay (b:=true) (parts:=[("day" : Str),("by" : Str),("matters" : Str),("stretch" : Str),("whom" : Str),("of" : Str),("changes" : Str)]) (.cons (gF h0 h9) (.cons (nI hb nm) (.cons (oA hm.1 hm.2) (.cons (rZ hs) (.cons gw (.cons (Bj hn.1 hn.2) (.cons (EY (cs:=[((0:Int),z)]) ⟨by simpa using nm.nm z hz,by simp,by simp⟩) .nil))))))) (by simp;omega) rfl (iD h0)
  (.day (by decide +kernel) (.skip (by decide +kernel) (.skip (by decide +kernel) (.str (by decide +kernel) (.skip (by decide +kernel) (.skip (by decide +kernel) (.skip (by decide +kernel) .nil))))))) (.num (.txt (.num (.str rfl (.non (.num (.one .nil))))))) gc (CS day s o)
omit h0 h9 in
theorem A1 {m f:Int}{r:Str}(hk:k=0∨k=1)(hm:1<=m/\m<=255)(hf:0<=f/\f<=9)(hr:r∈[("open" : Str),("first" : Str),("last" : Str)]):GX zs k day ("root" : Str) [(("office" : Str),.str (off zs k)),(("matters" : Str),.int m),(("further" : Str),.int f),(("rule" : Str),.str r)] ([]++[]) :=
 Ay (b:=false) (parts:=[("office" : Str),("matters" : Str),("further" : Str),("rule" : Str)]) (.cons (oB (by
   unfold off;have:=nm.len;rw[List.getD_eq_getElem?_getD,vU (by omega)];exact List.getElem_mem _) nm) (.cons (oA hm.1 hm.2) (.cons (lM hf.1 hf.2) (.cons (Au hr) .nil)))) (by simp) rfl
  (λh _ _=>.inl ⟨rfl,hk,_,rfl⟩) (.skip (by decide +kernel) (.skip (by decide +kernel) (.skip (by decide +kernel) (.skip (by decide +kernel) .nil)))) (.txt (.num (.num (.txt .nil)))) (.inl ⟨rfl,rfl⟩) (by simp)
end
theorem yw (c:Int){day:Int}{k:Nat}(hk:k<=10){zs:List Str}(nm:Nm6 zs)(h0:0<=day)(h9:day<=9999):∃kind L ds,fF [.int c,.int k,.int day,.lst (zs.map .str)]=some (.tup (.str kind::L.map (·.2)),false)/\∀j,GX zs j day kind L ds:=by
 have Na:=nm.len;have ix:∀ {ρ:DL.Env}{f:FE}{i:Int},ρ[3]? = some (sF (.lst (zs.map .str)))->f ρ=sF (.int i)->0<=i->i<6->f2 db (ag 3) f ρ=sF (.str (gp zs i)):=λ{ρ f i} h e h0 h6=>di (.lst (zs.map .str)) (.int i) (by simp[h]) e (Bi nm h0 h6);let E0:DL.Env:=[sF (.int c),sF (.int k),sF (.int day),sF (.lst (zs.map .str)),none,none,none,none];obtain⟨s,hs⟩:∃s,c / 13 % 40=s:=⟨_,rfl⟩;have M1:=mod_lt (x:=c / 13) (m:=40) (by decide);rw[hs]at M1;have M2:=mod_lt (x:=c / 11) (m:=900) (by decide);obtain⟨o,ho,eo⟩:=gQ ([none,some (s+1+c / 11 % 900)]:List (Option Int)) uI (ρ:=E0) (fl:=fA aS (ae (fC .non) (ae (f2 bv (f2 bv (f2 aP (f2 bt (ag 0) (fI 13)) (fI 40)) (fI 1)) (f2 aP (f2 bt (ag 0) (fI 11)) (fI 900))) ah))) (fx:=f2 bt (ag 0) (fI 7)) (b:=true) (a:=c / 7) (m:=2) (iB [.non,.int (s+1+c / 11 % 900)] (bS rfl (bS (di (.int (s+1)) (.int (c / 11 % 900)) (di (.int s) (.int 1) (hs ▸ im (lW rfl (by decide) (by decide)) (by decide)) rfl rfl) (im (lW rfl (by decide) (by decide)) (by decide)) rfl) rfl))) (lW rfl (by decide) (by decide)) (by decide) (by simp);have nK:D6 s o:=by
  have ho:o∈[none,some (s+1+c / 11 % 900)]:=ho;refine⟨by omega,by omega,λt e=>?_⟩;subst e;simp at ho;omega
 have e4:fA bN (ae (f2 aP (f2 bt (ag 0) (fI 13)) (fI 40)) (ae (f2 db (fA aS (ae (fC .non) (ae (f2 bv (f2 bv (f2 aP (f2 bt (ag 0) (fI 13)) (fI 40)) (fI 1)) (f2 aP (f2 bt (ag 0) (fI 11)) (fI 900))) ah))) (f2 aP (f2 bt (ag 0) (fI 7)) (fI 2))) ah)) E0=sF (.tup [.int s,uI o]):=oJ [.int s,uI o] (bS (hs ▸ im (lW rfl (by decide) (by decide)) (by decide)) (bS eo rfl));have K4:∀x:Int,0<=x % 4/\x % 4<4:=λx=>mod_lt (by decide);have m1:=K4 (c / 3);have m2:=K4 (c / 17);obtain⟨one,h1⟩:∃z,gp zs (c / 3 % 4)=z:=⟨_,rfl⟩;obtain⟨two,h2⟩:∃z,gp zs (c / 17 % 4)=z:=⟨_,rfl⟩;have in1:one∈zs:=h1 ▸ ky nm (by omega);have Bz:two∈zs:=h2 ▸ ky nm (by omega);have K5:gp zs 4∈zs:=ky nm (by decide);have M3:gp zs 5∈zs:=ky nm (by decide);have IT:=mod_lt (x:=c / 5) (m:=255) (by decide);obtain⟨m,hm⟩:∃m:Int,1+c / 5 % 255=m:=⟨_,rfl⟩;have IU:1<=m/\m<=255:=by omega
 let st:D:=.tup [.int s,uI o];let E:List D->DL.Env:=λx=>[sF (.int c),sF (.int k),sF (.int day),sF (.lst (zs.map .str)),sF st,sF (.str one),sF (.str two),lT x];have em:∀x,f2 bv (fI 1) (f2 aP (f2 bt (ag 0) (fI 5)) (fI 255)) (E x)=sF (.int m):=λx=>hm ▸ di (.int 1) (.int (c / 5 % 255)) rfl (im (lW rfl (by decide) (by decide)) (by decide)) rfl;have IV:∀x:List D,∃wo:Option Str,(∀z,wo=some z->z∈zs)/\(wo=none∨wo=some two)/\f2 db (fA aS (ae (fC .non) (fV 6 ah))) (f2 aP (ag 0) (fI 2)) (E x)=sF (wD wo):=λx=>by
  obtain⟨wo,Dr,IW⟩:=gQ ([none,some two]:List (Option Str)) wD (ρ:=E x) (fl:=fA aS (ae (fC .non) (fV 6 ah))) (fx:=ag 0) (b:=true) (a:=c) (m:=2) (iB [.non,.str two] rfl) rfl (by decide) (by simp);have Dr:wo∈[none,some two]:=Dr;refine⟨wo,λz hz=>?_,by simpa using Dr,IW⟩;subst hz;simp at Dr;exact Dr ▸ Bz
 have Nb:=mod_lt (x:=c / 19) (m:=50) (by decide);obtain⟨y2,M4,Nc,M5,Nd,yB,Ke⟩:=ym (x:=day+c / 19 % 50) (by omega);have K6:=mod_lt (x:=c / 23) (m:=10) (by decide);have GG:=mod_lt (x:=c / 29) (m:=60) (by decide);have M6:=mod_lt (x:=c / 31) (m:=60) (by decide);let dA:List D:=[.tup [.str "named",.int day,.str (gp zs 4),.str one],.tup [.str "chosen",.int day,.str one,.str (gp zs 4),.str two,.int y2]];let dB:List D:=[.tup [.str "heir",.int day,.str one,.str (gp zs 5),.str two],.tup [.str "death",.int day,.str one],.tup [.str "lost",.int day,.str one],.tup [.str "found",.int day,.str two]];let dC:List D:=[.tup [.str "leave",.int day,.str one,.str two,.int m,st,.int (c / 23 % 10)]];obtain⟨wo,Dr,_,IW⟩:=IV (dA++dB++dC);let dP:List D:=[.tup [.str "paper",.int day,.str one,.int m,st,wD wo,.tup [.str one,.str two]]];let dK:List D:=[.tup [.str "like",.int day,.str one,.int m,st,.non,.int (c / 29 % 60),.tup [.tup [.int 0,.str two]]]];let dZ:List D:=[.tup [.str "copy",.int day,.str two,.int (c / 29 % 60)],.tup [.str "call",.int day,.str one,.int (c / 31 % 60)]];have AG:aQ st=true:=by simp[st,As]
 have M7:aV dA=true:=by simp[dA]
 have M8:aV (dA++dB)=true:=by simp[dA,dB]
 have M9:aV (dA++dB++dC)=true:=by simp[dA,dB,dC,AG]
 have MA:aV (dA++dB++dC++dP)=true:=by simp[dA,dB,dC,dP,AG,tT]
 have MB:aV (dA++dB++dC++dP++dK)=true:=by simp[dA,dB,dC,dP,dK,AG,tT]
 have key:fF [.int c,.int k,.int day,.lst (zs.map .str)]=sF ((dA++dB++dC++dP++dK++dZ).getD k .non):=by
  refine aw rfl (xW st e4 AG (xW (.str one) (h1 ▸ ix rfl (im (lW rfl (by decide) (by decide)) (by decide)) m1.1 (by omega)) rfl (xW (.str two) (h2 ▸ ix rfl (im (lW rfl (by decide) (by decide)) (by decide)) m2.1 (by omega)) rfl (cO (ds:=dA) ?_ M7 (cO (ds:=dA++dB) ?_ M8 (cO (ds:=dA++dB++dC) ?_ M9 (cO (ds:=dA++dB++dC++dP) ?_ MA (cO (ds:=dA++dB++dC++dP++dK) ?_ MB (aE ?_)))))))))
  ·exact iB dA (aO (b:=false) (oJ [.str "named",.int day,.str (gp zs 4),.str one] (bS rfl (bS rfl (bS (ix rfl rfl (by decide) (by decide)) (bS rfl rfl))))) (aO (b:=false) (oJ [.str "chosen",.int day,.str one,.str (gp zs 4),.str two,.int y2] (bS rfl (bS rfl (bS rfl (bS (ix rfl rfl (by decide) (by decide)) (bS rfl (bS (vL [.int 9999,.int (day+c / 19 % 50)] (bS rfl (bS (di (.int day) (.int (c / 19 % 50)) rfl (im (lW rfl (by decide) (by decide)) (by decide)) rfl) rfl)) M4) rfl))))))) rfl))
  ·exact EW (b:=false) rfl (iB dB (aO (b:=false) (oJ [.str "heir",.int day,.str one,.str (gp zs 5),.str two] (bS rfl (bS rfl (bS rfl (bS (ix rfl rfl (by decide) (by decide)) (bS rfl rfl)))))) (aO (b:=false) (oJ [.str "death",.int day,.str one] rfl) (aO (b:=false) (oJ [.str "lost",.int day,.str one] rfl) (aO (b:=false) (oJ [.str "found",.int day,.str two] rfl) rfl)))))
  ·exact EW (b:=false) rfl (iB dC (aO (b:=false) (oJ [.str "leave",.int day,.str one,.str two,.int m,st,.int (c / 23 % 10)] (bS rfl (bS rfl (bS rfl (bS rfl (bS (em _) (bS rfl (bS (im (lW rfl (by decide) (by decide)) (by decide)) rfl)))))))) rfl))
  ·exact EW (b:=false) rfl (iB dP (aO (b:=false) (oJ [.str "paper",.int day,.str one,.int m,st,wD wo,.tup [.str one,.str two]] (bS rfl (bS rfl (bS rfl (bS (em _) (bS rfl (bS IW (bS (oJ [.str one,.str two] rfl) rfl)))))))) rfl))
  ·exact EW (b:=false) rfl (iB dK (aO (b:=false) (oJ [.str "like",.int day,.str one,.int m,st,.non,.int (c / 29 % 60),.tup [.tup [.int 0,.str two]]] (bS rfl (bS rfl (bS rfl (bS (em _) (bS rfl (bS rfl (bS (im (lW rfl (by decide) (by decide)) (by decide)) (bS (oJ [.tup [.int 0,.str two]] (bS (oJ [.int 0,.str two] rfl) rfl)) rfl))))))))) rfl))
  ·refine df (x:=.lst (dA++dB++dC++dP++dK++dZ)) (y:=.int k) (b1:=true) (b2:=false) (EW (b:=false) rfl (iB dZ (aO (b:=false) (oJ [.str "copy",.int day,.str two,.int (c / 29 % 60)] (bS rfl (bS rfl (bS rfl (bS (im (lW rfl (by decide) (by decide)) (by decide)) rfl))))) (aO (b:=false) (oJ [.str "call",.int day,.str one,.int (c / 31 % 60)] (bS rfl (bS rfl (bS rfl (bS (im (lW rfl (by decide) (by decide)) (by decide)) rfl))))) rfl)))) rfl ?_;rw[rP (by omega) (by simp[dA,dB,dC,dP,dK,dZ];omega),Int.toNat_natCast]
 have res:∀ {kind:Str}{L:List (Str×D)}{ds:List Int},(dA++dB++dC++dP++dK++dZ).getD k .non=.tup (.str kind::L.map (·.2))->(∀j,GX zs j day kind L ds)->∃kind L ds,fF [.int c,.int k,.int day,.lst (zs.map .str)]=some (.tup (.str kind::L.map (·.2)),false)/\∀j,GX zs j day kind L ds:=λ{kind L ds} e g=>⟨kind,L,ds,by rw[key,e],g⟩;obtain rfl|rfl|rfl|rfl|rfl|rfl|rfl|rfl|rfl|rfl|rfl:k=0∨k=1∨k=2∨k=3∨k=4∨k=5∨k=6∨k=7∨k=8∨k=9∨k=10:=by omega
 ·exact res rfl λj=>yt nm h0 h9 K5 in1
 ·exact res rfl λj=>vn nm h0 h9 in1 K5 Bz (by omega) M5
 ·exact res rfl λj=>Az nm h0 h9 in1 M3 Bz
 ·exact res rfl λj=>sd nm h0 h9 (.inl rfl) in1
 ·exact res rfl λj=>sd nm h0 h9 (.inr (.inl rfl)) in1
 ·exact res rfl λj=>sd nm h0 h9 (.inr (.inr rfl)) Bz
 ·exact res rfl λj=>yu nm h0 h9 in1 Bz IU nK ⟨K6.1,by omega⟩
 ·exact res rfl λj=>yv nm h0 h9 in1 IU nK Dr in1 Bz
 ·exact res rfl λj=>A0 nm h0 h9 in1 IU nK ⟨GG.1,by omega⟩ Bz
 ·exact res rfl λj=>Bm nm h0 h9 (.inl rfl) Bz ⟨GG.1,by omega⟩
 ·exact res rfl λj=>Bm nm h0 h9 (.inr rfl) in1 ⟨M6.1,by omega⟩
structure Rw where
 h:Int
 kind:Str
 L:List (Str×D)
 ds:List Int
def Rw.d (r:Rw):D:=row r.h r.kind (r.L.map (·.2))
structure GR (zs:List Str)(k:Nat)(r:Rw):Prop where
 h0:0<=r.h
 h9:r.h<=9999
 gx:∃day,day<=r.h/\GX zs k day r.kind r.L r.ds
theorem yx {ns:List Int}(F0:ns.length<=63)(hf:ER ns):∃(zs:List Str)(M:List Rw),jo [.lst (ns.map .int)]=lT (M.map Rw.d)/\M.length<=24/\Nm6 zs/\∀j r,M[j]? = some r->GR zs j r:=by
 obtain⟨c0,e0⟩:=o9 hf 0 (by decide);obtain⟨c1,e1⟩:=o9 hf 1 (by decide);obtain⟨zs,en,nm⟩:=yk c0;have K7:∀ρ:DL.Env,ρ[0]? = some (sF (.lst (ns.map .int)))->fA bL (fV 0 (ae (fI 1) ah)) ρ=sF (.int c1):=λρ h=>vL [.lst (ns.map .int),.int 1] (bS (by simp[h]) rfl) e1;have bp:∀ρ:DL.Env,ρ[0]? = some (sF (.lst (ns.map .int)))->fA c7 (fV 0 ah) ρ=sF (.int ns.length):=λρ h=>by
  refine vL [.lst (ns.map .int)] (bS (by simp[h]) rfl) ?_;rw[o6,vH]
 obtain⟨n,hn,er⟩:∃n:Nat,n<=24/\f2 db (fA aS (ae (fA mh (ae (fI 24) (ae (f2 bv (fA c7 (fV 0 ah)) (fI 1)) ah))) (ae (fI 24) ah))) (f2 aP (f2 bt (fA bL (fV 0 (ae (fI 1) ah))) (fI 3)) (fI 2)) [sF (.lst (ns.map .int)),lT (zs.map .str),lT [],none,none,none,none]=sF (.int n):=by
  obtain⟨q,hq,eq⟩:∃q:Nat,q<=24/\fA mh (ae (fI 24) (ae (f2 bv (fA c7 (fV 0 ah)) (fI 1)) ah)) [sF (.lst (ns.map .int)),lT (zs.map .str),lT [],none,none,none,none]=sF (.int q):=by
   refine⟨if ns.length+1<24 then ns.length+1 else 24,by split<;>omega,vL [.int 24,.int (ns.length+1)] (bS rfl (bS (di (.int ns.length) (.int 1) (bp _ rfl) rfl rfl) rfl)) ?_⟩
   show some (D.int (if(ns.length:Int)+1<24 then (ns.length:Int)+1 else 24),false)=_;congr 3;split<;>split<;>omega
  obtain⟨x,hx,ex⟩:=gQ ([q,24]:List Nat) (λm=>.int (m:Int)) (ρ:=[sF (.lst (ns.map .int)),lT (zs.map .str),lT [],none,none,none,none]) (fl:=fA aS (ae (fA mh (ae (fI 24) (ae (f2 bv (fA c7 (fV 0 ah)) (fI 1)) ah))) (ae (fI 24) ah))) (fx:=f2 bt (fA bL (fV 0 (ae (fI 1) ah))) (fI 3)) (b:=true) (a:=c1 / 3) (m:=2) (iB [.int q,.int 24] (bS eq rfl)) (lW (K7 _ rfl) (by decide) (by decide)) (by decide) (by simp);refine⟨x,?_,ex⟩;have hx:x∈[q,24]:=hx;simp at hx;omega
 obtain⟨ρ',e,M,hM,hG,v3,v4,v5,v6,rfl⟩:=lu (tg:=gj 3) (g:=nB) n (λi ρ=>∃M:List Rw,M.length=i/\(∀j r,M[j]? = some r->GR zs j r)/\∃v3 v4 v5 v6:OB,ρ=[sF (.lst (ns.map .int)),lT (zs.map .str),lT (M.map Rw.d),v3,v4,v5,v6])
  [sF (.lst (ns.map .int)),lT (zs.map .str),lT [],none,none,none,none] ⟨[],rfl,λj r h=>by simp at h,none,none,none,none,rfl⟩ (by
   rintro i ρ hi ⟨M,hM,hG,v3,v4,v5,v6,rfl⟩;obtain⟨cc,IX⟩:=o9 hf (2+i) (by omega);have IX:bL [.lst (ns.map .int),.int (2+(i:Int))]=sF (.int cc):=by rw[←IX];congr 3
   obtain⟨c,hc⟩:∃c:Int,cc % 10 ^ 15=c:=⟨_,rfl⟩;let E4:DL.Env:=[sF (.lst (ns.map .int)),lT (zs.map .str),lT (M.map Rw.d),sF (.int i),sF (.int c),v5,v6];obtain⟨D3,hD,eD⟩:=gQ ([3,31,10000]:List Int) .int (ρ:=E4) (fl:=fA aS (ae (fI 3) (ae (fI 31) (ae (fI 10000) ah)))) (fx:=fA bL (fV 0 (ae (fI 1) ah))) (b:=true) (a:=c1) (m:=3) (iB [.int 3,.int 31,.int 10000] rfl) (K7 _ rfl) (by decide) (by simp);have hD:0<D3/\D3<=10000:=by
    have hD:D3∈[3,31,10000]:=hD;simp at hD;omega
   obtain⟨day,AF⟩:∃day,c / 12 % D3=day:=⟨_,rfl⟩;have IN:=mod_lt (x:=c / 12) hD.1;rw[AF]at IN;let E5:D->DL.Env:=λx=>[sF (.lst (ns.map .int)),lT (zs.map .str),lT (M.map Rw.d),sF (.int i),sF (.int c),sF (.int day),sF x];have e4:f2 aP (fA bL (fV 0 (ae (f2 bv (fI 2) (ag 3)) ah))) (f2 Ct (fI 10) (fI 15)) [sF (.lst (ns.map .int)),lT (zs.map .str),lT (M.map Rw.d),sF (.int i),v4,v5,v6]=sF (.int c):=by
    refine di (.int cc) (.int (10 ^ 15)) (vL [.lst (ns.map .int),.int (2+(i:Int))] (bS rfl (bS (di (.int 2) (.int i) rfl rfl rfl) rfl)) IX) (di (.int 10) (.int 15) rfl rfl rfl) ?_;rw[ye _ (by decide),hc]
   have e5:f2 aP (f2 bt (ag 4) (fI 12)) (f2 db (fA aS (ae (fI 3) (ae (fI 31) (ae (fI 10000) ah)))) (f2 aP (fA bL (fV 0 (ae (fI 1) ah))) (fI 3))) E4=sF (.int day):=di (.int (c / 12)) (.int D3) (lW rfl (by decide) (by decide)) eD (by rw[ye _ hD.1,AF]);have m2:=mod_lt (x:=(i:Int)) (m:=2) (by decide);have IT:=mod_lt (x:=c / 5) (m:=255) (by decide);obtain⟨m,hm⟩:∃m:Int,1+c / 5 % 255=m:=⟨_,rfl⟩;have K6:=mod_lt (x:=c / 7) (m:=10) (by decide);obtain⟨ru,IY,MC⟩:=gQ ([("open" : Str),("first" : Str),("last" : Str)]:List Str) .str (ρ:=[sF (.lst (ns.map .int)),lT (zs.map .str),lT (M.map Rw.d),sF (.int i),sF (.int c),sF (.int day),v6]) (fl:=fA aS (ae (fS "open") (ae (fS "first") (ae (fS "last") ah)))) (fx:=f2 bt (ag 4) (fI 9)) (b:=true) (a:=c / 9) (m:=3) (iB [.str "open",.str "first",.str "last"] rfl) (lW rfl (by decide) (by decide)) (by decide) (by simp);have IY:ru∈[("open" : Str),("first" : Str),("last" : Str)]:=IY;let rt:D:=.tup [.str "root",.str (gp zs (4+(i:Int) % 2)),.int m,.int (c / 7 % 10),.str ru];have e6:fA bN (ae (fS "root") (ae (f2 db (ag 1) (f2 bv (fI 4) (f2 aP (ag 3) (fI 2)))) (ae (f2 bv (fI 1) (f2 aP (f2 bt (ag 4) (fI 5)) (fI 255))) (ae (f2 aP (f2 bt (ag 4) (fI 7)) (fI 10)) (ae (f2 db (fA aS (ae (fS "open") (ae (fS "first") (ae (fS "last") ah)))) (f2 aP (f2 bt (ag 4) (fI 9)) (fI 3))) ah))))) [sF (.lst (ns.map .int)),lT (zs.map .str),lT (M.map Rw.d),sF (.int i),sF (.int c),sF (.int day),v6]=sF rt :=
    oJ _ (bS rfl (bS (di (.lst (zs.map .str)) (.int (4+(i:Int) % 2)) rfl (di (.int 4) (.int ((i:Int) % 2)) rfl (im rfl (by decide)) rfl) (Bi nm (by omega) (by omega))) (bS (hm ▸ di (.int 1) (.int (c / 5 % 255)) rfl (im (lW rfl (by decide) (by decide)) (by decide)) rfl) (bS (im (lW rfl (by decide) (by decide)) (by decide)) (bS MC rfl)))))
   have Nf:=mod_lt (x:=c) (m:=11) (by decide);obtain⟨kk,IS⟩:∃kk:Nat,c % 11=kk:=⟨(c % 11).toNat,by omega⟩;obtain⟨kd,Ld,dd,ed,gd⟩:=yw (c / 12) (k:=kk) (by omega) nm IN.1 (by omega:day<=9999);have e7:∃kind L ds,GX zs i day kind L ds/\eL (cw (br (f2 Dz (ag 3) (fI 1))) (br (f2 yK (f2 aP (ag 4) (fI 12)) (fI 11)))) (b8 6 (fA fF (ae (f2 bt (ag 4) (fI 12)) (ae (f2 aP (ag 4) (fI 11)) (fV 5 (fV 1 ah)))))) aY (E5 rt)=some (.nx (E5 (.tup (.str kind::L.map (·.2))))):=by
    have ht:cw (br (f2 Dz (ag 3) (fI 1))) (br (f2 yK (f2 aP (ag 4) (fI 12)) (fI 11))) (E5 rt)=some (decide ((1:Int)<i) || decide (c % 12<11)):=b9 (tO (di (.int i) (.int 1) rfl rfl (by simp))) λ_=>tO (di (.int (c % 12)) (.int 11) (im rfl (by decide)) rfl (by simp));by_cases hq:(decide ((1:Int)<i) || decide (c % 12<11))=true
    ·refine⟨kd,Ld,dd,gd i,my (ht.trans (by rw[hq])) (qa (d:=.tup (.str kd::Ld.map (·.2))) (b:=false) (vL [.int (c / 12),.int kk,.int day,.lst (zs.map .str)] (bS (lW rfl (by decide) (by decide)) (bS (IS ▸ im rfl (by decide)) rfl)) ed) ?_)⟩;have:=((gd i).dg 9999 (by omega) (by omega) (by omega)).flat;have:aV (Ld.map (·.2))=true:=eG λd hd=>(this d hd).1;simp[this]
    ·have hq:(decide ((1:Int)<i) || decide (c % 12<11))=false:=Bool.eq_false_iff.mpr hq;have CD:i=0∨i=1:=by
      rw[Bool.or_eq_false_iff]at hq;have:=of_decide_eq_false hq.1;omega
     refine⟨("root" : Str),[(("office" : Str),.str (off zs i)),(("matters" : Str),.int m),(("further" : Str),.int (c / 7 % 10)),(("rule" : Str),.str ru)],_,A1 nm CD (by omega) (by omega) IY,ly (ht.trans (by rw[hq])) ?_⟩;have:gp zs (4+(i:Int) % 2)=off zs i:=by
      unfold gp off;rcases CD with rfl|rfl<;>rfl
     show some (Res.nx (E5 rt))=_;simp only[rt,this];rfl
   obtain⟨kind,L,ds,g,e7⟩:=e7;have Ng:=mod_lt (x:=c / 37) (m:=99) (by decide);obtain⟨ad,GH,MD⟩:=gQ ([0,0,1,c / 37 % 99]:List Int) .int (ρ:=E5 (.tup (.str kind::L.map (·.2)))) (fl:=fA aS (ae (fI 0) (ae (fI 0) (ae (fI 1) (ae (f2 aP (f2 bt (ag 4) (fI 37)) (fI 99)) ah))))) (fx:=f2 bt (ag 4) (fI 41)) (b:=true) (a:=c / 41) (m:=4) (iB [.int 0,.int 0,.int 1,.int (c / 37 % 99)] (bS rfl (bS rfl (bS rfl (bS (im (lW rfl (by decide) (by decide)) (by decide)) rfl))))) (lW rfl (by decide) (by decide)) (by decide) (by simp);have GH:0<=ad:=by
    have GH:ad∈[0,0,1,c / 37 % 99]:=GH;simp at GH;omega
   obtain⟨h,eh,K8,K9,Nh,Ni,Kz⟩:=ym (x:=day+ad) (by omega);have KA:day<=h:=by omega
   let r:Rw:=⟨h,kind,L,ds⟩;have IZ:aV (L.map (·.2))=true:=eG λd hd=>((g.dg h KA K8 K9).flat d hd).1;refine⟨_,[sF (.lst (ns.map .int)),lT (zs.map .str),lT ((M++[r]).map Rw.d),sF (.int i),sF (.int c),sF (.int day),sF (.tup (.str kind::L.map (·.2)))],rfl,.inl (xW (.int c) e4 rfl (xW (.int day) e5 rfl (xW rt e6 rfl (cG e7 ?_)))),M++[r],by simp[hM],?_,_,_,_,_,rfl⟩
   ·have:=i7 (ρ:=E5 (.tup (.str kind::L.map (·.2)))) (i:=2) (f:=fA bN (ae (fA mh (ae (fI 9999) (ae (f2 bv (ag 5) (f2 db (fA aS (ae (fI 0) (ae (fI 0) (ae (fI 1) (ae (f2 aP (f2 bt (ag 4) (fI 37)) (fI 99)) ah))))) (f2 aP (f2 bt (ag 4) (fI 41)) (fI 4)))) ah))) (fV 6 ah))) (d:=r.d) (b:=false) (ds:=M.map Rw.d) rfl (oJ [.int h,.tup (.str kind::L.map (·.2))] (bS (vL [.int 9999,.int (day+ad)] (bS rfl (bS (di (.int day) (.int ad) rfl MD rfl) rfl)) eh) rfl)) (by simp[r,Rw.d,row,IZ]) (cg (by simp;omega));exact this.trans (by rw[List.map_append];rfl)
   ·intro j r' hj;rw[List.getElem?_append]at hj;split at hj
    ·exact hG j r' hj
    ·rename_i hge;have ME:j=i:=by
      have:=(vV hj).1;simp at this;omega
     subst ME;rw[hM,Nat.sub_self]at hj;cases hj
     exact⟨K8,K9,day,KA,g⟩)
 exact⟨zs,M,aw rfl (cO (ds:=zs.map .str) (vL [.int c0] (bS (vL [.lst (ns.map .int),.int 0] (bS rfl rfl) e0) rfl) en) (cI _) (cO (ds:=[]) (by simp[sizeLine]) rfl (cG (l5 (gK (j:=n) (b:=false) er (by omega)) e) (kx rfl)))),by omega,nm,hG⟩
noncomputable def Rw.a (r:Rw):List Int:=r.h::r.ds
noncomputable def days (M:List Rw):List Int:=0::M.flatMap Rw.a
theorem yy {M:List Rw}(h:∀r∈M,r.a.length<=4):(M.flatMap Rw.a).length<=4*M.length:=by
 induction M with
 |nil=>simp
 |cons r M ih=>
  have h1:=h r mX;have h2:=ih λr' hr=>h r' (mZ _ hr);rw[List.flatMap_cons,uZ,vD];omega
structure AllR (zs:List Str)(M:List Rw):Prop where
 len:M.length<=24
 nm:Nm6 zs
 at':∀j r,M[j]? = some r->GR zs j r
theorem AllR.mem {zs:List Str}{M:List Rw}(g:AllR zs M){r:Rw}(h:r∈M):∃k,GR zs k r:=by
 obtain⟨j,hj⟩:=List.mem_iff_getElem?.mp h;exact⟨j,g.at' j r hj⟩
theorem AllR.rows {zs:List Str}{M:List Rw}(g:AllR zs M):nG zs (M.map Rw.d):=by
 refine⟨⟨by rw[vH];have:=g.len;omega,g.nm⟩,λj r h=>?_⟩;rw[vA]at h;obtain⟨r',h',rfl⟩:=oY h;have gr:=g.at' j r' h';obtain⟨day,hd,gx⟩:=gr.gx;exact⟨r'.h,r'.kind,_,rfl,gr.h0,gr.h9,gx.dg r'.h hd gr.h0 gr.h9⟩
theorem AllR.flat {zs:List Str}{M:List Rw}(g:AllR zs M):aV (M.map Rw.d)=true:=eG λd hd=>by
 obtain⟨r,hr,rfl⟩:=List.mem_map.mp hd;obtain⟨k,gr⟩:=g.mem hr;obtain⟨day,hd,gx⟩:=gr.gx;have:aV (r.L.map (·.2))=true:=eG λd HK=>((gx.dg r.h hd gr.h0 gr.h9).flat d HK).1;simp[Rw.d,row,this]
theorem AllR.few {zs:List Str}{M:List Rw}(g:AllR zs M):∀r∈M,r.a.length<=4:=λr hr=>by
 obtain⟨k,gr⟩:=g.mem hr;obtain⟨day,hd,gx⟩:=gr.gx;have:=gx.few;simp[Rw.a];omega
theorem tV:∀L:List Int,jM (vI L)=some L
 |[]=>rfl
 |n::L=>by
  have:=tV L;unfold vI at this ⊢;rw[List.map_cons,jM,this];rfl
theorem tW {xs:List Int}(h:xs.length<127):je (.lst (vI xs))=lT (vI (gy (cy xs))):=by
 show(jM (vI xs)).bind _=_;rw[tV,vJ,if_pos h];rfl
theorem nJ {M:List Rw}{i:Nat}{r:Rw}(h:M[i]? = some r):(M.take (i+1)).flatMap Rw.a=(M.take i).flatMap Rw.a++r.a:=by
 rw[List.take_succ,h,List.flatMap_append];simp
theorem c8 {zs:List Str}{M:List Rw}(g:AllR zs M)(i:Nat):((M.take i).flatMap Rw.a).length<=96:=by
 have h1:=yy (M:=M.take i) λr hr=>g.few r (List.mem_of_mem_take hr);have h2:=g.len;have h3:(M.take i).length<=M.length:=by rw[List.length_take];omega
 omega
theorem lN {zs:List Str}{M:List Rw}(g:AllR zs M):bT [.tup (M.map Rw.d)]=lT (vI (gy (cy (days M)))):=by
 have lQ:=c8 g M.length;rw[List.take_length]at lQ;obtain⟨ρ',e,v2,rfl⟩:=jf (tg:=gj 2) (g:=iA) (λi ρ=>∃v2:OB,ρ=[sF (.tup (M.map Rw.d)),lT (vI (0::(M.take i).flatMap Rw.a)),v2]) (M.map Rw.d) [sF (.tup (M.map Rw.d)),lT (vI [0]),none] ⟨none,rfl⟩ (by
  rintro i d ρ hd ⟨v2,rfl⟩;rw[vA]at hd;obtain⟨r,hr,rfl⟩:=oY hd;obtain⟨day,MF,gx⟩:=(g.at' i r hr).gx;have ed:=Aw (h:=r.h) gx.hp (by have:=gx.len;omega) gx.dp;refine⟨_,[sF (.tup (M.map Rw.d)),lT (vI (0::(M.take (i+1)).flatMap Rw.a)),sF r.d],rfl,.inl ?_,_,rfl⟩;show mj 1 (fA fE (ae (ag 2) ah)) [sF (.tup (M.map Rw.d)),lT (vI (0::(M.take i).flatMap Rw.a)),sF r.d]=_;have hx:fA fE (ae (ag 2) ah) [sF (.tup (M.map Rw.d)),lT (vI (0::(M.take i).flatMap Rw.a)),sF r.d]=lT (vI r.a):=ao (ds:=[r.d]) rfl ed;have h1:=c8 g i;have h2:=g.few r (List.mem_of_getElem? hr);have hsz:(vI (0::(M.take i).flatMap Rw.a)).length+(vI r.a).length<=sizeLine:=ci (by simp only[vI,vH,vD];omega);have By:aV (vI r.a)=true:=bw _;simp only[mj,List.getElem?_cons_succ,List.getElem?_cons_zero,hx,vJ];rw[if_pos ⟨trivial,By,hsz⟩,gG,nJ hr];rfl)
 rw[vH,List.take_length]at e;have e0:fA aS (ae (fI 0) ah) [sF (.tup (M.map Rw.d)),none,none]=lT (vI [0]):=iB [.int 0] rfl;have ef:iN (cE (ag 0)) (gj 2) iA [sF (.tup (M.map Rw.d)),lT (vI [0]),none]=some (.nx [sF (.tup (M.map Rw.d)),lT (vI (days M)),v2]):=jh (ds:=M.map Rw.d) rfl e;have eb:gM [sF (.tup (M.map Rw.d)),none,none]=some (.rt (.lst (vI (gy (cy (days M))))) true):=by
  unfold gM;exact cO e0 (bw _) (cG ef (aE (nD (x:=.lst (vI (days M))) (b:=false) rfl (tW (by simp only[days,vD];omega)))))
 exact aw rfl eb
theorem yz {zs:List Str}{M:List Rw}(g:AllR zs M):jq [.lst (M.map Rw.d)]=lT (vI (gy (cy (days M)))):=by
 have lQ:=c8 g M.length;rw[List.take_length]at lQ;obtain⟨ρ',e,v2,v3,v4,rfl⟩:=jf (tg:=re [2,3]) (g:=gN) (λi ρ=>∃v2 v3 v4:OB,ρ=[sF (.lst (M.map Rw.d)),lT (vI (0::(M.take i).flatMap Rw.a)),v2,v3,v4]) (M.map Rw.d) [sF (.lst (M.map Rw.d)),lT (vI [0]),none,none,none] ⟨none,none,none,rfl⟩ (by
  rintro i d ρ hd ⟨v2,v3,v4,rfl⟩;rw[vA]at hd;obtain⟨r,hr,rfl⟩:=oY hd;obtain⟨day,MF,gx⟩:=(g.at' i r hr).gx;obtain⟨b,d1,d2,hb,lp,qD,A6⟩:=gx.lw;have h1:=c8 g i;have h8:=gx.len;obtain⟨w4,e⟩:=Ax (h:=r.h) (acc:=0::(M.take i).flatMap Rw.a) hb lp qD (by simp only[vD,vH];omega) (sF (.lst (M.map Rw.d))) v4;refine⟨[sF (.lst (M.map Rw.d)),lT (vI (0::(M.take i).flatMap Rw.a)),sF (.int r.h),sF (.tup (.str r.kind::r.L.map (·.2))),v4],_,rfl,.inl e,sF (.int r.h),sF (.tup (.str r.kind::r.L.map (·.2))),w4,?_⟩;rw[nJ hr,show r.a=r.h::(d1++d2) by rw[←A6];rfl];rfl)
 rw[vH,List.take_length]at e;have e0:fA aS (ae (fI 0) ah) [sF (.lst (M.map Rw.d)),none,none,none,none]=lT (vI [0]):=iB [.int 0] rfl;have ef:iN (cE (ag 0)) (re [2,3]) gN [sF (.lst (M.map Rw.d)),lT (vI [0]),none,none,none]=some (.nx [sF (.lst (M.map Rw.d)),lT (vI (days M)),v2,v3,v4]):=jh (ds:=M.map Rw.d) rfl e;have eb:jp [sF (.lst (M.map Rw.d)),none,none,none,none]=some (.rt (.lst (vI (gy (cy (days M))))) true):=by
  unfold jp;exact cO e0 (bw _) (cG ef (aE (nD (x:=.lst (vI (days M))) (b:=false) rfl (tW (by simp only[days,vD];omega)))))
 exact aw rfl eb
theorem tX {xs:List Int}(h:xs.length<=1000):du [.lst (vI xs),.lst (vI xs)]=sF (.bl true):=by
 have hp:aJ 40 (.lst (vI xs))=true:=by
  show List.all _ _=true;rw[List.all_eq_true];intro d hd;obtain⟨n,_,rfl⟩:=List.mem_map.mp hd;rfl
 have hq:=lG 40 _ hp;have hx:=nn (fi:=cE (ag 0)) (nT:=1) (cap:=[]) (tg:=gj 0) (c:=cw (bZ (br (fA a7 (fV 0 (ae (fC (.ty "int")) ah))))) (br (fA a7 (fV 0 (ae (fC (.ty "bool")) ah))))) (fe:=ag 0) (ρ:=[sF (.lst (vI xs)),sF (.lst (vI xs))]) xs D.int (λ_=>false) D.int (by simp[vI]) (by omega) λz _=>⟨_,rfl,by simp[eT],λz=>by cases z⟩;rw[List.filter_eq_nil_iff.mpr (by simp)]at hx;refine aw rfl (av (b9 (p:=false) (q:=false) (by simp) λ_=>tO (di (.lst (vI xs)) (.lst (vI xs)) rfl rfl ?_)) (aE (di (.int 0) (.int 0) (vL [.lst []] (aO (b:=true) hx rfl) rfl) rfl (by simp))));simp only[yJ,hp,hq];rfl
theorem qB:bT [.tup []]=lT (vI [0]):=by
 have:=lN (zs:=((List.range 6).map λi=>(⟨#[97+i]⟩:Str))) (M:=[]) ⟨by decide,⟨by decide,by decide +kernel,by decide +kernel⟩,λj r h=>by simp at h⟩;exact this
theorem A2:bx [.lst []]=sF (.tup []):=jW (zs:=((List.range 6).map λi=>(⟨#[97+i]⟩:Str))) (rows:=[]) ⟨⟨by decide,⟨by decide,by decide +kernel,by decide +kernel⟩⟩,λj r h=>by simp at h⟩ rfl (.lst []) (.inl rfl)
theorem y0 (xs:List Int):(gy (cy xs)).length<=xs.length:=by
 have h1:(gy (cy xs)).length=(cy xs).length:=(fY _ (cy xs)).length_eq;rw[h1];exact iW xs
theorem law_true (ns:List Int)(F0:ns.length<=63)(hf:ER ns):∃b,F_law [.lst (ns.map .int)]=some (.bl true,b):=by
 obtain⟨zs,M,er,hl,nm,hG⟩:=yx F0 hf;have g:AllR zs M:=⟨hl,nm,hG⟩;have Ja:=jW g.rows g.flat (.lst (M.map Rw.d)) (.inl rfl);have hm:=lN g;have hw:=yz g;have lQ:=c8 g M.length;rw[List.take_length]at lQ;have hs:=y0 (days M);have GB:(days M).length<=97:=by simp only[days,vD];omega
 generalize gy (cy (days M))=xs at hm hw hs;have ht:=tX (xs:=xs) (by omega);have IZ:aQ (.tup (M.map Rw.d))=true:=by rw[mH];exact g.flat
 let E:OB->DL.Env:=λv=>[sF (.lst (ns.map .int)),lT (M.map Rw.d),sF (.tup (M.map Rw.d)),lT (vI xs),v];have e1:fA jo (fV 0 ah) [sF (.lst (ns.map .int)),none,none,none,none]=lT (M.map Rw.d):=ao (ds:=[.lst (ns.map .int)]) rfl er;have e2:fA bx (ae (fA dI (fV 1 ah)) ah) [sF (.lst (ns.map .int)),lT (M.map Rw.d),none,none,none]=sF (.tup (M.map Rw.d)):=ao (ds:=[.lst (M.map Rw.d)]) (aO (b:=true) (by simp) rfl) Ja;have e3:fA jq (fV 1 ah) [sF (.lst (ns.map .int)),lT (M.map Rw.d),sF (.tup (M.map Rw.d)),none,none]=lT (vI xs):=ao (ds:=[.lst (M.map Rw.d)]) rfl hw;have em:∀v,fA bT (fV 2 ah) (E v)=lT (vI xs):=λv=>ao (ds:=[.tup (M.map Rw.d)]) rfl hm;have e4:fA bT (fV 2 ah) [sF (.lst (ns.map .int)),lT (M.map Rw.d),sF (.tup (M.map Rw.d)),lT (vI xs),none]=lT (vI xs):=em none;have t1:bZ (br (fA du (fV 4 (fV 3 ah)))) (E (lT (vI xs)))=some false:=dJ (p:=true) (bo (b:=false) (ao (ds:=[.lst (vI xs),.lst (vI xs)]) rfl ht));have a1:ie 4 (fI 3) (E (lT (vI xs)))=some (.nx (E (lT (vI (xs++[3]))))):=(i7 (d:=.int 3) (b:=false) (ds:=vI xs) rfl rfl rfl (cg (by simp[vI];omega))).trans (by
  show some (Res.nx (E (lT (vI xs++vI [3]))))=_;rw[gG])
 have a2:zV 4 (λds=>some ds.reverse) (E (lT (vI (xs++[3]))))=some (.nx (E (lT (vI (xs++[3])).reverse))):=rfl;have MG:fA bx (ae (fA aS ah) ah) (E (lT (vI (xs++[3])).reverse))=sF (.tup []):=ao (ds:=[.lst []]) (aO (b:=true) (by simp[sizeLine]) rfl) A2;have r1:fA du (ae (fA bT (fV 2 ah)) (fV 3 ah)) (E (lT (vI (xs++[3])).reverse))=sF (.bl true):=ao (ds:=[.lst (vI xs),.lst (vI xs)]) (aO (em _) rfl) ht;have r2:fA du (ae (fA bT (ae (fA bx (ae (fA aS ah) ah)) ah)) (ae (fA aS (ae (fI 0) ah)) ah)) (E (lT (vI (xs++[3])).reverse))=sF (.bl true) :=
  ao (ds:=[.lst (vI [0]),.lst (vI [0])]) (aO (ao (ds:=[.tup []]) (aO MG rfl) qB) (aO (b:=true) (iB [.int 0] rfl) rfl)) (tX (by decide))
 have hb:tQ [sF (.lst (ns.map .int)),none,none,none,none]=some (.rt (.bl true) false):=by
  unfold tQ;refine cO e1 g.flat (xW (.tup (M.map Rw.d)) e2 IZ (cO e3 (bw _) (cO e4 (bw _) (av t1 (cG a1 (cG a2 (aE ?_)))))));exact(g6 (p:=true) (q:=true) (b1:=false) r1 λ_=>r2).trans rfl
 exact⟨false,aw rfl hb⟩
end Lw
namespace Lw
open PySem PySem.Spec PyProof.Rows L2 DL
noncomputable def gR (i:Nat):Stmt:=PySem.Challenge.pw_sealchain_k44_moments.main.body.getD i (.Pass ⟨0,0,0,0⟩)
section
variable {X:Cx}{es si:List Expr}{f:FE}{g:FA}{pos:Pos}{k:Nat}{a b:Expr}
theorem jt {c:Const}(h:JE X (.Constant c k pos) f)(hr:JA X es g):JA X (.Constant c k pos::es) (ae f g):=aj h hr
theorem ju (h:JE X (.Tuple si k pos) f)(hr:JA X es g):JA X (.Tuple si k pos::es) (ae f g):=aj h hr
theorem oE {o:Operator}(h:JE X (.BinOp a o b pos) f)(hr:JA X es g):JA X (.BinOp a o b pos::es) (ae f g):=aj h hr
theorem y3 (h:JE X (.Subscript a b pos) f)(hr:JA X es g):JA X (.Subscript a b pos::es) (ae f g):=aj h hr
theorem HE {kw:List Keyword}(h:JE X (.Call a si kw pos) f)(hr:JA X es g):JA X (.Call a si kw pos::es) (ae f g):=aj h hr
end
structure Tx (w:World)(K:Frag)(mg:Str->Option Value):Prop where
 hX:∃h,K.In h/\h.Ns mainGlobals mg
 d0:eJ K "is_whole" (gR 6)
 d1:eJ K "is_day" (gR 7)
 d2:eJ K "is_stretch" (gR 8)
 d3:eJ K "is_matters" (gR 9)
 d4:eJ K "is_name" (gR 18)
 d5:eJ K "is_rule" (gR 20)
 d6:eJ K "is_piece" (gR 19)
 d7:eJ K "is_pieces" (gR 21)
 d8:eJ K "is_change" (gR 22)
 d9:eJ K "is_changes" (gR 23)
 d10:eJ K "is_part" (gR 24)
 d11:eJ K "is_deed" (gR 25)
 d12:eJ K "word_of" (gR 28)
 d13:eJ K "part_of" (gR 29)
 d14:eJ K "day_of" (gR 30)
 d15:eJ K "is_timely" (gR 26)
 d16:eJ K "is_row" (gR 27)
 d17:eJ K "root_offices" (gR 35)
 d18:eJ K "is_second_root" (gR 36)
 d19:eJ K "parts_in" (gR 31)
 d20:eJ K "people_in" (gR 32)
 d21:eJ K "count_people" (gR 37)
 d22:eJ K "is_refused" (gR 38)
 d23:eJ K "register_of" (gR 39)
 d24:eJ K "days_in" (gR 41)
 d25:eJ K "moments" (gR 42)
 d26:eJ K "_law_cell" (gR 44)
 d27:eJ K "_law_names" (gR 45)
 d28:eJ K "_law_deed" (gR 46)
 d29:eJ K "_law_rows" (gR 47)
 d30:eJ K "_law_days" (gR 48)
 d31:eJ K "_law_told" (gR 49)
 d32:eJ K "law" (gR 50)
 n0:mg "all" = none
 n1:mg "bool" = none
 n2:mg "int" = none
 n3:mg "isinstance" = none
 n4:mg "len" = none
 n5:mg "list" = none
 n6:mg "min" = none
 n7:mg "range" = none
 n8:mg "set" = none
 n9:mg "sorted" = none
 n10:mg "str" = none
 n11:mg "tuple" = none
 n12:mg "zip" = none
 k0:KC K mg "ALL_MATTERS" hU
 k1:KC K mg "LAST_DAY" l8
 k2:KC K mg "MOST_FURTHER" g9
 k3:KC K mg "MOST_LETTERS" gA
 k4:KC K mg "MOST_PEOPLE" hV
 k5:KC K mg "MOST_PIECES" cY
 k6:KC K mg "MOST_ROWS" dj
 k7:KD w K mg "PARTS" aU
 k8:KC K mg "PERSON_PARTS" cj
 k9:KC K mg "RULES" tP
section
variable {P:Program}{w:World}{K:Frag}{mg:Str->Option Value}{base:Heap}(T:Tx w K mg)
include T
theorem f0:Fn P w K mg base 1 "is_whole" cF:=T.d0.fq T.hX lA ["thing","least","most"] 3 λnd hr hu=>
  (bE (fP (ar aD T.n3 aB (aH 0 (aj (cS T.n2 wP) ai))) (fP (Cq (ar aD T.n3 aB (aH 0 (aj (cS T.n1 wQ) ai)))) (eV (pc iR iR (af 1) (af 0) (af 2))))))
theorem f1:Fn P w K mg base 2 "is_day" eB:=T.d1.fq T.hX qd ["thing"] 1 λnd hr hu=>
  (bE (bU (f0 T) hr (aH 0 (eK (aj (ce T.k1) ai)))))
theorem f2:Fn P w K mg base 3 "is_stretch" cQ:=T.d2.fq T.hX jj ["thing"] 1 λnd hr hu=>
  (al (bV (gk (cR (cb (bO (ar aD T.n3 aB (aH 0 (aj (cS T.n11 dH) ai))))) (cR (aI (uy hu) (ar dE T.n4 dc (aH 0 ai)) ak) (cD (cb (bO (bU (f1 T) hr (aj (bK 0) ai)))))))) fu)
   (bE (wL (eU Cy (bK 0) fO) (eV (fP (bU (f1 T) hr (aj (bK 0) ai)) (eV (eU pz (bK 0) (bK 0))))))))
theorem f3:Fn P w K mg base 2 "is_matters" dL:=T.d3.fq T.hX jk ["thing"] 1 λnd hr hu=>
  (bE (bU (f0 T) hr (aH 0 (eK (aj (ce T.k0) ai)))))
theorem f4:Fn P w K mg base 1 "is_name" dQ:=T.d4.fq T.hX np ["thing"] 1 λnd hr hu=>
  (al (bV (gk (cR (cb (bO (ar aD T.n3 aB (aH 0 (aj (cS T.n10 wR) ai))))) (cD (cb (pd iR iR ak (ar dE T.n4 dc (aH 0 ai)) (ce T.k3)))))) fu)
   (bE (ar p6 T.n0 p5 (aj (jb ["sign"] (cM (af 0)) ij (pc iR iR aA (af 0) aA)) ai))))
theorem f5:Fn P w K mg base 1 "is_rule" nr:=T.d5.fq T.hX nq ["thing"] 1 λnd hr hu=>
  (bE (fP (ar aD T.n3 aB (aH 0 (aj (cS T.n10 wR) ai))) (eV (eU sU (af 0) (ce T.k9)))))
theorem f6:Fn P w K mg base 2 "is_piece" eC:=T.d6.fq T.hX lB ["thing"] 1 λnd hr hu=>
  (bE (bi (f4 T) hr))
theorem f7:Fn P w K mg base 3 "is_pieces" eN:=T.d7.fq T.hX jR ["thing"] 1 λnd hr hu=>
  (al (bV (gk (cR (cb (bO (ar aD T.n3 aB (aH 0 (aj (cS T.n11 dH) ai))))) (cD (cb (pd iR iR ak (ar dE T.n4 dc (aH 0 ai)) (ce T.k5)))))) fu)
   (bE (ar p6 T.n0 p5 (aj (jb ["piece"] (cM (af 0)) ij (bi (f6 T) hr)) ai))))
theorem f8:Fn P w K mg base 3 "is_change" dm:=T.d8.fq T.hX jS ["thing"] 1 λnd hr hu=>
  (al (bV (gk (cR (cb (bO (ar aD T.n3 aB (aH 0 (aj (cS T.n11 dH) ai))))) (cD (aI (uy hu) (ar dE T.n4 dc (aH 0 ai)) ak)))) fu)
   (bE (fP (bU (f0 T) hr (aj (bK 0) (eK (aj (aq AT (ce T.k5) ak) ai)))) (eV (bU (f6 T) hr (aj (bK 0) ai))))))
theorem f9:Fn P w K mg base 4 "is_changes" fZ:=T.d9.fq T.hX jl ["thing","places"] 1 λnd hr hu=>
  (al (bV (gk (cR (cb (bO (ar aD T.n3 aB (aH 0 (aj (cS T.n11 dH) ai))))) (cD (cb (bO (ar p6 T.n0 p5 (aj (jb ["change"] (cM (af 0)) ij (bi (f8 T) hr)) ai))))))) fu)
   (al (xN ["change"] nd (cM (af 0)) ij (bK 0))
   (bE (ar p6 T.n0 p5 (aj (jb ["place","later"] (xj T.n12 (af 1) (gv (af 1) (iQ ak) iP)) ij (eU pz (af 0) (af 1))) ai)))))
theorem f10:Fn P w K mg base 5 "is_part" aT:=T.d10.fq T.hX nu ["part","thing"] 2 λnd hr hu=>
  (al (bV (gk (cR (aI (dU hu) (af 0) aA) (cD (aI (dU hu) (af 0) aA)))) (bi (f1 T) hr))
   (al (bV (gk (cR (aI (dU hu) (af 0) aA) (cR (aI (dU hu) (af 0) aA) (cD (aI (dU hu) (af 0) aA))))) (bi (f4 T) hr))
   (al (bV (aI (dU hu) (af 0) aA) (wL (eU Cy (af 1) fO) (eV (bi (f4 T) hr))))
   (al (bV (aI (dU hu) (af 0) aA) (bi (f3 T) hr))
   (al (bV (aI (dU hu) (af 0) aA) (bi (f2 T) hr))
   (al (bV (aI (dU hu) (af 0) aA) (bU (f0 T) hr (aH 1 (eK (aj (ce T.k2) ai)))))
   (al (bV (aI (dU hu) (af 0) aA) (bi (f5 T) hr))
   (al (bV (aI (dU hu) (af 0) aA) (bU (f0 T) hr (aH 1 (eK (aj (aq AT (ce T.k6) ak) ai)))))
   (al (bV (aI (dU hu) (af 0) aA) (bi (f7 T) hr))
   (bE (bi (f9 T) hr)))))))))))
theorem f11:Fn P w K mg base 6 "is_deed" jB:=T.d11.fq T.hX nv ["thing"] 1 λnd hr hu=>
  (al (bV (gk (cR (cb (bO (ar aD T.n3 aB (aH 0 (aj (cS T.n11 dH) ai))))) (cR (aI (dU hu) (ar dE T.n4 dc (aH 0 ai)) ak) (cD (cb (bO (ar aD T.n3 aB (aj (bK 0) (aj (cS T.n10 wR) ai))))))))) fu)
   (al (bV (gk (cR (uM T.k7 (bK 0)) (cD (aI (uy hu) (ar dE T.n4 dc (aH 0 ai)) (aq bg ak (ar dE T.n4 dc (aj (om T.k7 (bK 0)) ai))))))) fu)
   (bE (ar p6 T.n0 p5 (aj (jb ["part","value"] (xj T.n12 (om T.k7 (bK 0)) (gv (af 0) (iQ ak) iP)) ij (bi (f10 T) hr)) ai)))))
theorem D7:Fn P w K mg base 1 "word_of" bA:=T.d12.fq T.hX nw ["row"] 1 λnd hr hu=>
  (bE (cL (bK 0) ak))
theorem Gu:Fn P w K mg base 2 "part_of" cH:=T.d13.fq T.hX ny ["row","part"] 2 λnd hr hu=>
  (bE (cL (bK 0) (aq bg ak (zZ T.k7 (bi (D7 T) hr) (af 1)))))
theorem KY:Fn P w K mg base 3 "day_of" jm:=T.d14.fq T.hX qe ["row"] 1 λnd hr hu=>
  (al (bV (aI (dU hu) (bi (D7 T) hr) aA) fO)
   (bE (bi (Gu T) hr)))
theorem KZ:Fn P w K mg base 4 "is_timely" gB:=T.d15.fq T.hX jT ["row","day"] 1 λnd hr hu=>
  (al (aR nd (bi (KY T) hr))
   (al (bV (aI Cy (af 1) fO) fu)
   (al (bV (gk (oe (aI (dU hu) (bi (D7 T) hr) aA) (nZ (aI pz (bi (Gu T) hr) (af 1))))) fu)
   (bE (eU iR (af 1) (bK 0))))))
theorem La:Fn P w K mg base 7 "is_row" lC:=T.d16.fq T.hX qf ["thing"] 1 λnd hr hu=>
  (al (bV (gk (cR (cb (bO (ar aD T.n3 aB (aH 0 (aj (cS T.n11 dH) ai))))) (cD (aI (uy hu) (ar dE T.n4 dc (aH 0 ai)) ak)))) fu)
   (bE (fP (bU (f1 T) hr (aj (bK 0) ai)) (fP (bU (f11 T) hr (aj (bK 0) ai)) (eV (bi (KZ T) hr))))))
theorem Lb:Fn P w K mg base 3 "root_offices" eE:=T.d17.fq T.hX gC ["rows"] 1 λnd hr hu=>
  (bE (jb ["row"] (cM (af 0)) (kL (aI (dU hu) (bi (D7 T) hr) aA)) (bi (Gu T) hr)))
theorem Lc:Fn P w K mg base 4 "is_second_root" cT:=T.d18.fq T.hX fD ["ahead","row"] 2 λnd hr hu=>
  (bE (fP (eU (dU hu) (bi (D7 T) hr) aA) (eV (eU sU (bi (Gu T) hr) (bi (Lb T) hr)))))
theorem Jr:Fn P w K mg base 2 "parts_in" bQ:=T.d19.fq T.hX lD ["row"] 1 λnd hr hu=>
  (bE (rL rfl T.n5 T.n12 (om T.k7 (bi (D7 T) hr)) (gv (bK 0) (iQ ak) iP)))
theorem Le:Fn P w K mg base 3 "people_in" dr:=T.d20.fq T.hX jU ["row","names"] 1 λnd hr hu=>
  (al (xN ["part","value"] nd (cM (bi (Jr T) hr)) (kL (gk (oe (aI sU (af 0) (ce T.k8)) (nZ (aI sS (af 1) fO))))) (af 1))
   (bE (rF rfl T.n9 T.n8 (af 1))))
theorem Lf:Fn P w K mg base 4 "count_people" eF:=T.d21.fq T.hX gD ["rows","names","row"] 1 λnd hr hu=>
  (al (aR nd (bJ ai))
   (al (pQ (cM (af 0)) (yM 2 nd) ft (bu (rl (i:=1) (bi (Le T) hr))))
   (bE (uK rfl T.n4 T.n8 (af 1)))))
theorem Lg:Fn P w K mg base 8 "is_refused" ga:=T.d22.fq T.hX jn ["book","place"] 2 λnd hr hu=>
  (al (bV (gk (cR (aI Hl (af 1) (ce T.k6)) (cD (cb (bO (bU (La T) hr (aj (cL (af 0) (af 1)) ai))))))) fu)
   (bE (wL (bU (Lc T) hr (aj (gv (af 0) iP (iQ (af 1))) (aj (cL (af 0) (af 1)) ai))) (eV (eU Cu (bU (Lf T) hr (aj (gv (af 0) iP (iQ (aq bg (af 1) ak))) ai)) (ce T.k4))))))
theorem Js:Fn P w K mg base 9 "register_of" bx:=T.d23.fq T.hX hW ["rows","book","place"] 1 λnd hr hu=>
  (al (gW (cb (bO (ar uP T.n3 aB (aH 0 (aj (bP (aj (cS T.n5 kP) (aj (cS T.n11 dH) ai))) ai))))) (bu pB) fQ)
   (al (aR nd (j5 zU T.n11 dH (aH 0 ai)))
   (al (xO (iS T.n7 (ar dE T.n4 dc (aH 1 ai))) (yM 2 nd) ft (bu (gW (bO (bi (Lg T) hr)) (bu pB) fQ)))
   (bu (kr 1)))))
theorem Lh:Fn P w K mg base 3 "days_in" fE:=T.d24.fq T.hX gL ["row","days","part","value"] 1 λnd hr hu=>
  (al (aR nd (bJ (aj (bK 0) ai)))
   (al (pQ (cM (bi (Jr T) hr)) (nN rfl (cZ (yM 2 nd) (cZ (yM 3 nd) ko))) AY (bu (gW (gk (cR (aI (dU hu) (af 2) aA) (cD (aI (dU hu) (af 2) aA)))) (bu (ik (i:=1) (af 3))) (bu (gW (aI (dU hu) (af 2) aA) (bu (rl (i:=1) (jb ["day"] (cM (af 3)) (kL (aI sS (af 0) fO)) (af 0)))) fQ)))))
   (bu (kr 1))))
theorem HF:Fn P w K mg base 4 "moments" bT:=T.d25.fq T.hX gM ["book","days","row"] 1 λnd hr hu=>
  (al (aR nd (bJ (eK ai)))
   (al (pQ (cM (af 0)) (yM 2 nd) ft (bu (rl (i:=1) (bi (Lh T) hr))))
   (bE (jQ rfl T.n9 T.n8 (af 1)))))
theorem Gv:Fn P w K mg base 1 "_law_cell" bL:=T.d26.fq T.hX qg ["_law_script","_law_k","_law_number"] 2 λnd hr hu=>
  (al (bV (aI pz (af 1) (ar dE T.n4 dc (aH 0 ai))) (cL (af 0) (af 1)))
   (al (aR nd (aq bg (aq ip ak (af 1)) ak))
   (al (gW (aI Cu (ar dE T.n4 dc (aH 0 ai)) ak) (bu (aR nd (aq bg (aq bg (aq ip (cL (af 0) (aq bq (aq ip (af 1) ak) (ar dE T.n4 dc (aH 0 ai)))) ak) (aq ip (aq ip (af 1) (af 1)) ak)) ak))) fQ)
   (bE (aq bq (aq CH (af 2) (af 2)) ak)))))
theorem Li:Fn P w K mg base 1 "_law_names" jC:=T.d27.fq T.hX nA ["_law_cell_here","_law_letters","_law_base","_law_at","_law_names_here","_law_k","_law_name"] 1 λnd hr hu=>
  (al (aR nd aA)
   (al (xN ["_law_k","_law_letters","_law_cell_here"] nd (wZ T.n7 (aq bg ak (aq bq (af 0) ak))) ij (cL (af 1) (aq bq (aq bj (af 2) (aq bg ak (aq ip ak (af 0)))) ak)))
   (al (aR nd (aq bq (aq bj (af 0) ak) (ar dE T.n4 dc (aH 2 ai))))
   (al (aR nd (bJ ai))
   (al (xO (iS T.n7 ak) (yM 5 nd) ft (al (aR nd (j5 xk T.n5 kP (aH 2 ai)))
   (al (CA (i:=6) (cL (af 1) (aq bq (aq bg (aq bj (af 0) ak) (aq ip ak (af 5))) ak)) (af 3))
   (bu (ik (i:=4) (C4 PySem.F.slot_str_join PySem.F.type_str_join C6 xg aA (af 6)))))))
   (bu (kr 4)))))))
theorem Lj:Fn P w K mg base 1 "_law_deed" fF:=T.d28.fq T.hX qh ["_law_cell_here","_law_k","_law_day","_law_names_here","_law_stretch","_law_one","_law_two","_law_some"] 4 λnd hr hu=>by
  refine @al _ _ _ _ _ ?_ ?_;refine @aR _ _ _ _ 4 _ _ nd ?_ rfl (by first|exact Or.inl rfl|exact Or.inr rfl) rfl (by first|exact .inl rfl|exact .inr rfl);refine @bP _ _ _ _ _ ?_;refine oE ?_ ?_;exact(aq bq (aq bj (af 0) ak) ak);refine y3 ?_ ?_;refine cL (hs:=?_) ?_ ?_;refine @bJ _ _ _ _ ?_;refine jt ?_ ?_;exact fO;refine oE ?_ ?_;exact(aq bg (aq bg (aq bq (aq bj (af 0) ak) ak) ak) (aq bq (aq bj (af 0) ak) ak));exact ai;exact(aq bq (aq bj (af 0) ak) ak);intro _ _;rfl;exact ai;refine @al _ _ _ _ _ ?_ ?_;exact(aR nd (cL (af 3) (aq bq (aq bj (af 0) ak) ak)));refine @al _ _ _ _ _ ?_ ?_;exact(aR nd (cL (af 3) (aq bq (aq bj (af 0) ak) ak)));refine @al _ _ _ _ _ ?_ ?_;refine @aR _ _ _ _ 7 _ _ nd ?_ rfl (by first|exact Or.inl rfl|exact Or.inr rfl) rfl (by first|exact .inl rfl|exact .inr rfl);refine @bJ _ _ _ _ ?_;refine ju ?_ ?_;refine @bP _ _ _ _ _ ?_;refine jt ?_ ?_;exact aA;refine aH 2 ?_;refine y3 ?_ ?_;exact(bK 3);refine aH 5 ?_;exact ai;refine ju ?_ ?_;refine @bP _ _ _ _ _ ?_;refine jt ?_ ?_;exact aA;refine aH 2 ?_;refine aH 5 ?_;refine y3 ?_ ?_;exact(bK 3);refine aH 6 ?_;refine HE ?_ ?_;exact(ar wT T.n6 wO (eK (aj (aq bg (af 2) (aq bq (aq bj (af 0) ak) ak)) ai)));exact ai;exact ai;refine @al _ _ _ _ _ ?_ ?_;refine @aR _ _ _ _ 7 _ _ nd ?_ rfl (by first|exact Or.inl rfl|exact Or.inr rfl) rfl (by first|exact .inl rfl|exact .inr rfl);refine @aq _ _ _ _ _ _ _ _ bg ?_ ?_;exact(af 7);refine @bJ _ _ _ _ ?_;refine ju ?_ ?_;refine @bP _ _ _ _ _ ?_;refine jt ?_ ?_;exact aA;refine aH 2 ?_;refine aH 5 ?_;refine y3 ?_ ?_;exact(bK 3);refine aH 6 ?_;exact ai;refine ju ?_ ?_;refine @bP _ _ _ _ _ ?_;refine jt ?_ ?_;exact aA;refine aH 2 ?_;refine aH 5 ?_;exact ai;refine ju ?_ ?_;refine @bP _ _ _ _ _ ?_;refine jt ?_ ?_;exact aA;refine aH 2 ?_;refine aH 5 ?_;exact ai;refine ju ?_ ?_;refine @bP _ _ _ _ _ ?_;refine jt ?_ ?_;exact aA;refine aH 2 ?_;refine aH 6 ?_;exact ai;exact ai;refine @al _ _ _ _ _ ?_ ?_;refine @aR _ _ _ _ 7 _ _ nd ?_ rfl (by first|exact Or.inl rfl|exact Or.inr rfl) rfl (by first|exact .inl rfl|exact .inr rfl);refine @aq _ _ _ _ _ _ _ _ bg ?_ ?_;exact(af 7);refine @bJ _ _ _ _ ?_;refine ju ?_ ?_;refine @bP _ _ _ _ _ ?_;refine jt ?_ ?_;exact aA;refine aH 2 ?_;refine aH 5 ?_;refine aH 6 ?_;refine oE ?_ ?_;exact(aq bg ak (aq bq (aq bj (af 0) ak) ak));refine aH 4 ?_;refine oE ?_ ?_;exact(aq bq (aq bj (af 0) ak) ak);exact ai;exact ai;refine @al _ _ _ _ _ ?_ ?_;refine @aR _ _ _ _ 7 _ _ nd ?_ rfl (by first|exact Or.inl rfl|exact Or.inr rfl) rfl (by first|exact .inl rfl|exact .inr rfl);refine @aq _ _ _ _ _ _ _ _ bg ?_ ?_;exact(af 7);refine @bJ _ _ _ _ ?_;refine ju ?_ ?_;refine @bP _ _ _ _ _ ?_;refine jt ?_ ?_;exact aA;refine aH 2 ?_;refine aH 5 ?_;refine oE ?_ ?_;exact(aq bg ak (aq bq (aq bj (af 0) ak) ak));refine aH 4 ?_;refine y3 ?_ ?_;refine cL (hs:=?_) ?_ ?_;refine @bJ _ _ _ _ ?_;refine jt ?_ ?_;exact fO;refine aH 6 ?_;exact ai;exact(aq bq (af 0) ak);intro _ _;rfl;refine ju ?_ ?_;refine @bP _ _ _ _ _ ?_;refine aH 5 ?_;refine aH 6 ?_;exact ai;exact ai;exact ai;refine @al _ _ _ _ _ ?_ ?_;refine @aR _ _ _ _ 7 _ _ nd ?_ rfl (by first|exact Or.inl rfl|exact Or.inr rfl) rfl (by first|exact .inl rfl|exact .inr rfl);refine @aq _ _ _ _ _ _ _ _ bg ?_ ?_;exact(af 7);refine @bJ _ _ _ _ ?_;refine ju ?_ ?_;refine @bP _ _ _ _ _ ?_;refine jt ?_ ?_;exact aA;refine aH 2 ?_;refine aH 5 ?_;refine oE ?_ ?_;exact(aq bg ak (aq bq (aq bj (af 0) ak) ak));refine aH 4 ?_;refine jt ?_ ?_;exact fO;refine oE ?_ ?_;exact(aq bq (aq bj (af 0) ak) ak);refine ju ?_ ?_;refine @bP _ _ _ _ _ ?_;refine ju ?_ ?_;refine @bP _ _ _ _ _ ?_;refine @eK _ _ _ _ _ _ ?_;refine aH 6 ?_;exact ai;exact ai;exact ai;exact ai;refine bE ?_;refine cL (hs:=?_) ?_ ?_;refine @aq _ _ _ _ _ _ _ _ bg ?_ ?_;exact(af 7);refine @bJ _ _ _ _ ?_;refine ju ?_ ?_;refine @bP _ _ _ _ _ ?_;refine jt ?_ ?_;exact aA;refine aH 2 ?_;refine aH 6 ?_;refine oE ?_ ?_;exact(aq bq (aq bj (af 0) ak) ak);exact ai;refine ju ?_ ?_;refine @bP _ _ _ _ _ ?_;refine jt ?_ ?_;exact aA;refine aH 2 ?_;refine aH 5 ?_;refine oE ?_ ?_;exact(aq bq (aq bj (af 0) ak) ak);exact ai;exact ai;exact(af 1);intro _ _;rfl
theorem Lk:Fn P w K mg base 2 "_law_rows" jo:=T.d29.fq T.hX qi ["_law_script","_law_names_here","_law_rows_here","_law_k","_law_cell_here","_law_day","_law_deed_here"] 1 λnd hr hu=>by
  refine @al _ _ _ _ _ ?_ ?_;exact(aR nd (bU (Li T) hr (aj (bU (Gv T) hr (aH 0 (eK ai))) ai)));refine @al _ _ _ _ _ ?_ ?_;refine @aR _ _ _ _ 2 _ _ nd ?_ rfl (by first|exact Or.inl rfl|exact Or.inr rfl) rfl (by first|exact .inl rfl|exact .inr rfl);refine @bJ _ _ _ _ ?_;exact ai;refine @al _ _ _ _ _ ?_ ?_;exact(xO (iS T.n7 (cL (bJ (aj (ar wT T.n6 wO (eK (aj (aq bg (ar dE T.n4 dc (aH 0 ai)) ak) ai))) (eK ai))) (aq bq (aq bj (bU (Gv T) hr (aH 0 (eK ai))) ak) ak))) (yM 3 nd) ft (al (aR nd (aq bq (bU (Gv T) hr (aH 0 (aj (aq bg ak (af 3)) ai))) (aq E7 ak ak))) (al (aR nd (aq bq (aq bj (af 4) ak) (cL (bJ (eK (eK (eK ai)))) (aq bq (bU (Gv T) hr (aH 0 (eK ai))) ak)))) (al (aR nd (bP (aj aA (aj (cL (af 1) (aq bg ak (aq bq (af 3) ak))) (aj (aq bg ak (aq bq (aq bj (af 4) ak) ak)) (aj (aq bq (aq bj (af 4) ak) ak) (aj (cL (bJ (aj aA (aj aA (aj aA ai)))) (aq bq (aq bj (af 4) ak) ak)) ai))))))) (al (gW (gk (cR (aI Cu (af 3) ak) (cD (aI pz (aq bq (af 4) ak) ak)))) (bu (aR nd (bU (Lj T) hr (aj (aq bj (af 4) ak) (aj (aq bq (af 4) ak) (aH 5 (aH 1 ai))))))) fQ) (bu (ik (i:=2) (bP (aj (ar wT T.n6 wO (eK (aj (aq bg (af 5) (cL (bJ (eK (eK (eK (aj (aq bq (aq bj (af 4) ak) ak) ai))))) (aq bq (aq bj (af 4) ak) ak))) ai))) (aH 6 ai))))))))));exact(bu (kr 2))
theorem Ll:Fn P w K mg base 1 "_law_days" jq:=T.d30.fq T.hX jp ["_law_rows_here","_law_found","_law_noted","_law_deed_here","_law_part"] 1 λnd hr hu=>
  (al (aR nd (bJ (eK ai)))
   (al (pQ (cM (af 0)) (nN rfl (cZ (yM 2 nd) (cZ (yM 3 nd) ko))) AY (al (ik (i:=1) (af 2))
   (al (gW (aI (uy hu) (bK 3) aA) (bu (ik (i:=1) (bK 3))) fQ)
   (al (gW (aI (dU hu) (bK 3) aA) (bu (ik (i:=1) (bK 3))) fQ)
   (bu (EG [3] (pQ (cM (af 3)) (yM 4 nd) ft (bu (gW (gk (oe (bO (ar aD T.n3 aB (aH 4 (aj (cS T.n11 dH) ai)))) (oe (aI sU (bK 3) (bP (aj aA (aj aA (aj aA ai))))) (nZ (aI (dU hu) (ar dE T.n4 dc (aH 4 ai)) ak))))) (bu (aR nd (aq bg (af 1) (jb ["_law_day"] (cM (af 4)) (kL (bO (ar aD T.n3 aB (aH 0 (aj (cS T.n2 wP) ai))))) (af 0))))) fQ)))))))))
   (bE (jQ rfl T.n9 T.n8 (af 1)))))
theorem HG:Fn P w K mg base 1 "_law_told" du:=T.d31.fq T.hX qj ["_law_found","_law_due"] 2 λnd hr hu=>
  (al (bV (gk (cR (cb (bO (ar aD T.n3 aB (aH 0 (aj (cS T.n5 kP) ai))))) (cD (aI (uy hu) (af 0) (af 1))))) fu)
   (bE (eU (dU hu) (ar dE T.n4 dc (aj (jb ["_law_day"] (cM (af 0)) (kL (gk (cR (cb (bO (ar aD T.n3 aB (aH 0 (aj (cS T.n2 wP) ai))))) (cD (bO (ar aD T.n3 aB (aH 0 (aj (cS T.n1 wQ) ai)))))))) (af 0)) ai)) ak)))
theorem head {fa:Addr}(Ik:mg "law" = some (.ref fa)):∃fd:FuncData,(∀(s:Shared)(u:Value),BindsTo s fd ⟨[u],[]⟩ [("_law_script",u)])/\∀base:Heap,K.In base->base.Ns mainGlobals mg->jG P w K mg base qT 10 fa fd ["_law_script"] (AU K F_law):=by
 have S:FnScope ["_law_script","_law_rows_here","_law_book","_law_due","_law_found"] ["_law_script"] (ay (gR 50)):=by refine⟨rfl,rfl,rfl,?_,rfl,?_,?_⟩<;>decide +kernel
 have ⟨h,X,G⟩:=T.hX;exact eJ.law T.d32 X G Ik S (λ_ _ _ _ _ _ u=>rfl) λbase kb nb f cz A outer s H E hr=>have hu:=EA hr;have nd:=S.nd;(show oI _ _ tQ from
  (al (aR nd (bi (Lk T) hr))
   (al (aR nd (bU (Js T) hr (aj (j5 xk T.n5 kP (aH 1 ai)) ai)))
   (al (aR nd (bi (Ll T) hr))
   (al (aR nd (bi (HF T) hr))
   (al (bV (cb (bO (bi (HG T) hr))) fu)
   (al (ik (i:=4) ak)
   (al (rj (i:=4))
   (bE (fP (bU (HG T) hr (aj (bi (HF T) hr) (aH 3 ai))) (eV (bU (HG T) hr (aj (bU (HF T) hr (aj (bU (Js T) hr (aj (bJ ai) ai)) ai)) (aj (bJ (eK ai)) ai))))))))))))))
end
end Lw
end
namespace PySem.W.Fast
def tw10546383536429240045:=()
def tw9591319008270411245:=()
def tw13446937804237939304:=()
def tw521676332005094944:=()
def tw13885658282652658512:=()
def tw3643446060731256662:=()
def tw12765425676101504088:=()
def tw7728576808476814412:=()
def tw14738059000859575973:=()
def tw8022165897425848299:=()
def tw1255979543026405470:=()
def tw8844349361983435218:=()
def tw963754861339733798:=()
def tw17358302377146229301:=()
def tw16861178978850300162:=()
def tw15979758302247886489:=()
def tw11988659269999530306:=()
def tw3194999027495133757:=()
def tw15452903900459563645:=()
def tw5161960147590128999:=()
def tw16234144566660608038:=()
def tw5671793988583392297:=()
def tw16926093876405125723:=()
def tw5027014685188164157:=()
def tw16431309094463917905:=()
def tw7181979827013949761:=()
def tw3577591842665263834:=()
def tw1090647124472190175:=()
def tw14078503508280136385:=()
def tw5332535480052383679:=()
def tw2395138870075260799:=()
def tw7334893604863165353:=()
def tw16785041953961806473:=()
def tw11180549102914773529:=()
def tw11107661407104434612:=()
def tw750128130592185002:=()
def tw12855249323290643870:=()
def tw8193270201472500103:=()
def tw14890211110649505990:=()
def tw11520608863235464024:=()
def tw10521824007623335421:=()
def tw15872493884799941019:=()
def tw13747532236649760349:=()
def tw14003523402257619859:=()
def tw10479364817287744707:=()
def tw11668957562435395084:=()
def tw7382145137203250368:=()
def tw12203178665477999730:=()
def tw3127004445686008454:=()
def tw842044193949154343:=()
def tw8104508065790360760:=()
def tw12713430767079436854:=()
def tw333494289895603638:=()
def tw11344823504944089629:=()
def tw10688393643253722339:=()
def tw5302933475594841179:=()
def tw15680333521538435405:=()
def tw13507592228066372698:=()
def tw7958347635877385068:=()
def tw17868288295874040570:=()
def tw5254527658678771485:=()
def tw3469871853206311635:=()
def tw8879897901110254347:=()
def tw1946787032785580671:=()
def tw16933475942144581233:=()
def tw16055525442733973617:=()
def tw199426428130658857:=()
def tw17908487547353011146:=()
def tw10623823371798670424:=()
def tw8693228060700173537:=()
def tw3947264838468046032:=()
def tw14820299261038296089:=()
def tw7394450661966961763:=()
def tw11494479451143308334:=()
def tw18290060831019713742:=()
def tw758120303599946576:=()
def tw11492549312001602613:=()
end PySem.W.Fast
open PySem PySem.W PyProof.Rows
set_option maxRecDepth 100000 in
set_option maxHeartbeats 0 in
theorem PySem.Challenge.cw_sealchain_k44_moments_holds : PySem.Challenge.rw_sealchain_k44_moments.Holds := by
 w_on; o_law; k_head; (case hw => w_witness2)
 k_fill
 refine' DL.walkB (l := PySem.Challenge.rw_sealchain_k44_moments) (k := 10) (x := ("_law_script" : PySem.Str)) (f := Lw.F_law) (L := [(("in_order" : PySem.Str), ?t0), (("has_seal" : PySem.Str), ?t1), (("is_first_death" : PySem.Str), ?t2), (("bases_by" : PySem.Str), ?t3), (("as_heard" : PySem.Str), ?t4)]) rfl rfl ⟨rfl, by decide, by decide⟩ (fun w h Y => PySem.W.kIn_of Y) ?T ?D ?F Lw.law_true
 case T =>
  intro w
  refine' DL.tabs_fit ?h0 ?h1 ?h2 ?h3 ?h4 ?ap ?nt
  (case h0 => refine' DL.tab_no ?a; (case a => k_is))
  (case h1 => refine' DL.tab_no ?a; (case a => k_is))
  (case h2 => refine' DL.tab_no ?a; (case a => k_is))
  (case h3 => refine' DL.tab_no ?a; (case a => k_is))
  (case h4 => refine' DL.tab_no ?a; (case a => k_is))
  (case ap => decide)
  (case nt => kernel_rfl)
 case D => kernel_rfl
 case F =>
  intro w mg fa h KX G hmg
  refine' Lw.head ⟨⟨h, KX, G⟩, ?d0, ?d1, ?d2, ?d3, ?d4, ?d5, ?d6, ?d7, ?d8, ?d9, ?d10, ?d11, ?d12, ?d13, ?d14, ?d15, ?d16, ?d17, ?d18, ?d19, ?d20, ?d21, ?d22, ?d23, ?d24, ?d25, ?d26, ?d27, ?d28, ?d29, ?d30, ?d31, ?d32, PySem.W.mg_none_of KX G ?z0, PySem.W.mg_none_of KX G ?z1, PySem.W.mg_none_of KX G ?z2, PySem.W.mg_none_of KX G ?z3, PySem.W.mg_none_of KX G ?z4, PySem.W.mg_none_of KX G ?z5, PySem.W.mg_none_of KX G ?z6, PySem.W.mg_none_of KX G ?z7, PySem.W.mg_none_of KX G ?z8, PySem.W.mg_none_of KX G ?z9, PySem.W.mg_none_of KX G ?z10, PySem.W.mg_none_of KX G ?z11, PySem.W.mg_none_of KX G ?z12, DL.kc_of KX G ?k0, DL.kc_of KX G ?k1, DL.kc_of KX G ?k2, DL.kc_of KX G ?k3, DL.kc_of KX G ?k4, DL.kc_of KX G ?k5, DL.kc_of KX G ?k6, DL.kd_of KX G ?k7, DL.kc_of KX G ?k8, DL.kc_of KX G ?k9⟩ hmg
  iterate 33 (refine' DL.def_mk ?a ?l ?c ?k; (case a => k_is); (case l => k_is); (case c => k_is); (case k => k_is))
  (case z0 => k_is)
  (case z1 => k_is)
  (case z2 => k_is)
  (case z3 => k_is)
  (case z4 => k_is)
  (case z5 => k_is)
  (case z6 => k_is)
  (case z7 => k_is)
  (case z8 => k_is)
  (case z9 => k_is)
  (case z10 => k_is)
  (case z11 => k_is)
  (case z12 => k_is)
  (case k0 => refine' DL.const_int ?e; (case e => k_is))
  (case k1 => refine' DL.const_int ?e; (case e => k_is))
  (case k2 => refine' DL.const_int ?e; (case e => k_is))
  (case k3 => refine' DL.const_int ?e; (case e => k_is))
  (case k4 => refine' DL.const_int ?e; (case e => k_is))
  (case k5 => refine' DL.const_int ?e; (case e => k_is))
  (case k6 => refine' DL.const_int ?e; (case e => k_is))
  (case k7 => refine' DL.const_dict ?e ?l ?r ?s; (case e => k_is); (case l => k_is); (case r => refine' (DL.CRows.tup rfl ?l0 ?f0 (DL.CRows.tup rfl ?l1 ?f1 (DL.CRows.tup rfl ?l2 ?f2 (DL.CRows.tup rfl ?l3 ?f3 (DL.CRows.tup rfl ?l4 ?f4 (DL.CRows.tup rfl ?l5 ?f5 (DL.CRows.tup rfl ?l6 ?f6 (DL.CRows.tup rfl ?l7 ?f7 (DL.CRows.tup rfl ?l8 ?f8 (DL.CRows.tup rfl ?l9 ?f9 (DL.CRows.tup rfl ?l10 ?f10 (DL.CRows.tup rfl ?l11 ?f11 DL.CRows.nil)))))))))))); (case l0 => k_is); (case f0 => decide +kernel); (case l1 => k_is); (case f1 => decide +kernel); (case l2 => k_is); (case f2 => decide +kernel); (case l3 => k_is); (case f3 => decide +kernel); (case l4 => k_is); (case f4 => decide +kernel); (case l5 => k_is); (case f5 => decide +kernel); (case l6 => k_is); (case f6 => decide +kernel); (case l7 => k_is); (case f7 => decide +kernel); (case l8 => k_is); (case f8 => decide +kernel); (case l9 => k_is); (case f9 => decide +kernel); (case l10 => k_is); (case f10 => decide +kernel); (case l11 => k_is); (case f11 => decide +kernel)); (case s => decide +kernel))
  (case k8 => refine' DL.const_tup ?e ?l ?v; (case e => k_is); (case l => k_is); (case v => decide +kernel))
  (case k9 => refine' DL.const_tup ?e ?l ?v; (case e => k_is); (case l => k_is); (case v => decide +kernel))

