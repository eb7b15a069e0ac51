import PyProof.Rows.All
import Wide.All
import OpenK.AllK
import Wide.FinOn
import Lean
import PyProof.EqAt
import PyProof.EqKinds
import PyProof.TupleCall
import PyProof.AttrMissHeap
import PySem.Challenge.RW_sealchain_k20_whole_names_and_days_excha
set_option Elab.async false
set_option linter.all false
set_option maxRecDepth 100000
set_option maxHeartbeats 40000000
theorem mY {α:Type _}{a:α}(l:List α) {k:List α}(h:a∈k):a∈l++k:=List.mem_append_right l h
theorem mZ {α:Type _}(b:α) {a:α}{l:List α}(h:a∈l):a∈b::l:=List.mem_cons_of_mem b h
theorem mX {α:Type _}{a:α}{l:List α}:a∈a::l:=List.mem_cons_self
theorem oX {α β:Type _}{o:Option α}{f:α->Option β}{b:β}(h:o.bind f=some b):∃a,o=some a/\f a=some b:=Option.bind_eq_some_iff.mp h
theorem oY {α β:Type _}{f:α->β}{o:Option α}{b:β}(h:o.map f=some b):∃a,o=some a/\f a=b:=Option.map_eq_some_iff.mp h
def wX:=@PySem.wpAny_bind
def wY:=@PySem.wpAny_pure
namespace L2
open PySem PySem.Spec PyProof.Rows
abbrev Key:=Sum Int Str
def p6:Key->Value->Bool
 | .inl k,v=>Value.isInt k v
 | .inr x,v=>Value.isStrOf x v
def GY (w:World):Key->Int
 | .inl k=>hashInt k
 | .inr x=>hashStr w x
theorem bO:∀ {k:Key}{v:Value},p6 k v=true->(∃i t,k=Sum.inl i/\v=Value.int i t)∨(∃x t,k=Sum.inr x/\v=Value.str x t)
 | .inl i,v,h=>by
  obtain⟨t,e⟩:=Value.isInt_shape (k:=i) (v:=v) h
  exact .inl ⟨i,t,rfl,e⟩
 | .inr x,v,h=>by
  obtain⟨t,e⟩:=Value.isStrOf_shape (x:=x) (v:=v) h
  exact .inr ⟨x,t,rfl,e⟩
theorem y7 (i:Int) (t:Tok):p6 (.inl i) (.int i t)=true:=by simp[p6,Value.isInt]
theorem y8 (x:Str) (t:Tok):p6 (.inr x) (.str x t)=true:=by simp[p6,Value.isStrOf]
theorem DY (a b:Int):decide ((Sum.inl a:Key)=Sum.inl b)=(a == b):=by
 by_cases e:a=b
 ·subst e;simp
 ·have h:¬(Sum.inl a:Key)=Sum.inl b:=λq=>e (Sum.inl.inj q)
  rw[decide_eq_false h]
  exact(beq_eq_false_iff_ne.mpr e).symm
theorem DZ (a b:Str):decide ((Sum.inr a:Key)=Sum.inr b)=decide (a=b):=by
 by_cases e:a=b
 ·subst e;simp
 ·have h:¬(Sum.inr a:Key)=Sum.inr b:=λq=>e (Sum.inr.inj q)
  rw[decide_eq_false h,decide_eq_false e]
theorem Ea (a:Int) (b:Str):decide ((Sum.inl a:Key)=Sum.inr b)=false:=decide_eq_false (λq=>nomatch q)
theorem Eb (a:Str) (b:Int):decide ((Sum.inr a:Key)=Sum.inl b)=false:=decide_eq_false (λq=>nomatch q)
def bP (prog:Program) (w:World):PySem.KeyKind prog w Key where
 is:=p6
 hash:=GY w
 inj:=λv a b ha hb=>by
  rcases bO ha with ⟨i,t,rfl,rfl⟩|⟨x,t,rfl,rfl⟩
  ·rcases bO hb with ⟨j,u,rfl,e⟩|⟨y,u,rfl,e⟩
   ·injection e with e1 _;rw[e1]
   ·exact nomatch e
  ·rcases bO hb with ⟨j,u,rfl,e⟩|⟨y,u,rfl,e⟩
   ·exact nomatch e
   ·injection e with e1 _;rw[e1]
 byValue:=λk v h=>by
  rcases bO h with ⟨i,t,rfl,rfl⟩|⟨x,t,rfl,rfl⟩<;>rfl
 pyHash:=λhv h=>by
  rcases bO hv with ⟨i,t,rfl,rfl⟩|⟨x,t,rfl,rfl⟩
  ·exact wpAny_pyHash_int h
  ·exact wpAny_pyHash_str h
 eqBool:=λhu hv h=>by
  rcases bO hu with ⟨i,t,rfl,rfl⟩|⟨x,t,rfl,rfl⟩
  ·rcases bO hv with ⟨j,u,rfl,rfl⟩|⟨y,u,rfl,rfl⟩
   ·rw[DY]at h;exact wpAny_eqBool_int h
   ·rw[Ea]at h;exact SeqAt.EqAt.int_str i t y u _ _ _ _ h
  ·rcases bO hv with ⟨j,u,rfl,rfl⟩|⟨y,u,rfl,rfl⟩
   ·rw[Eb]at h;exact SeqAt.EqAt.str_int x t j u _ _ _ _ h
   ·rw[DZ]at h;exact wpAny_eqBool_str h
 «strs»:=λk x t v h=>by
  rcases bO h with ⟨i,u,rfl,e⟩|⟨y,u,rfl,e⟩
  ·exact nomatch e
  ·injection e with e1 _
   subst e1
   cases v<;>rfl
theorem sV (prog:Program) (w:World) (i:Int) (t:Tok):(bP prog w).is (.inl i) (.int i t)=true:=y7 i t
theorem sW (prog:Program) (w:World) (x:Str) (t:Tok):(bP prog w).is (.inr x) (.str x t)=true:=y8 x t
inductive V where
 | non|bl (b:Bool)|int (i:Int)|str (x:Str)|byt (b:Array UInt8)|flt (b:UInt64)|ref (a:Addr)|ty (n:String)
 deriving DecidableEq
def aN:V->Value->Prop
 | .non,u=>u=Value.none
 | .bl b,u=>u=Value.bool b
 | .int i,u=>∃t,u=Value.int i t
 | .str x,u=>∃t,u=Value.str x t
 | .byt b,u=>∃t,u=Value.bytes b t
 | .flt b,u=>∃t,u=Value.float b t
 | .ref a,u=>u=Value.ref a
 | .ty n,u=>u=Value.type n
abbrev aP:List V->List Value->Prop:=Paired aN
theorem aP.length {xs:List V}{us:List Value}(r:aP xs us):xs.length=us.length:=Paired.length r
theorem aP.get:∀ {xs:List V}{us:List Value}{i:Nat}{x:V},aP xs us->xs[i]? = some x->∃u,us[i]? = some u/\aN x u
 | _,_,_,_,.nil,e=>by simp at e
 | _,_,0,_,.cons r _,e=>by simp at e;subst e;exact⟨_,rfl,r⟩
 | _,_,i+1,x,.cons _ t,e=>by
  obtain⟨u,h1,h2⟩:=aP.get (i:=i) (x:=x) t (by simpa using e)
  exact⟨u,by simpa using h1,h2⟩
theorem aP.set {x:V}{u:Value}(r:aN x u):∀ {xs:List V}{us:List Value}(i:Nat),aP xs us->aP (xs.set i x) (us.set i u)
 | _,_,_,.nil=>.nil
 | _,_,0,.cons _ t=>.cons r t
 | _,_,i+1,.cons q t=>.cons q (aP.set r i t)
theorem aP.append:∀ {xs ys:List V}{us ws:List Value},aP xs us->aP ys ws->aP (xs++ys) (us++ws)
 | _,_,_,_,.nil,s=>s
 | _,_,_,_,.cons r t,s=>.cons r (aP.append t s)
theorem aP.take:∀ {xs:List V}{us:List Value}(n:Nat),aP xs us->aP (xs.take n) (us.take n)
 | _,_,0,_=>.nil
 | _,_,_+1,.nil=>.nil
 | _,_,n+1,.cons r t=>.cons r (aP.take n t)
theorem aP.drop:∀ {xs:List V}{us:List Value}(n:Nat),aP xs us->aP (xs.drop n) (us.drop n)
 | _,_,0,r=>r
 | _,_,_+1,.nil=>.nil
 | _,_,n+1,.cons _ t=>aP.drop n t
theorem aP.none_of:∀ {xs:List V}{us:List Value}{i:Nat},aP xs us->xs[i]? = none->us[i]? = none:=λ{xs us i} r e=>by
 have h1:=r.length
 have h2:xs.length<=i:=List.getElem?_eq_none_iff.mp e
 exact List.getElem?_eq_none_iff.mpr (by omega)
def iB:Option V->Option Value->Prop
 | some v,some u=>aN v u
 | none,none=>True
 | _,_=>False
def KV {κ:Type}:List (κ×V)->List (κ×Value)->Prop:=Paired λ(p:κ×V) (q:κ×Value)=>p.1=q.1/\aN p.2 q.2
def kV:Key->V
 | .inl i=>.int i
 | .inr x=>.str x
inductive HO where
  | lst (xs:List V)
  | tup (xs:List V)
  | dK (kvs:List (Key×V))|dT (kvs:List (List Key×V))
  | set (S:Int->Bool) (n:Nat)
  | ins (C dx:Addr) (fs:List (Str×V))
  | own (x:Addr)
  | xd (fs:List (Str×V))
  | met (f x:Addr)
  | rng (lo hi:Int)
  | frz (o:Obj) (u:HO)
  | tbl (q:Str)
  | ext (φ:Heap->Prop)
abbrev Hp:=Addr->Option HO
def upd (H:Hp) (a:Addr) (o:HO):Hp:=λb=>if b=a then some o else H b
theorem aB {H:Hp}{a:Addr}{o:HO}:upd H a o a=some o:=by unfold upd;rw[if_pos rfl]
theorem a9 {H:Hp}{a b:Addr}{o:HO}(h:b≠a):upd H a o b=H b:=by unfold upd;rw[if_neg h]
theorem B7 {H:Hp}{a:Addr}{o u:HO}:upd (upd H a o) a u=upd H a u:=by
 funext b;unfold upd;split<;>rfl
theorem F7 {H:Hp}{a b:Addr}{o u:HO}(h:H a=some o) (h':H b=some u) (d:o≠u):a≠b:=by
 intro e;subst e;rw[h]at h';exact d (Option.some.inj h')
theorem aL {H:Hp}{a b:Addr}{o:HO}(h:H a=some o) (h':H b=none):a≠b:=by
 intro e;subst e;rw[h]at h';cases h'
section
variable (P:Program) (w:World)
def bH (H:Hp) (h:Heap) (a:Addr):HO->Prop
 | .lst xs=>xs.length<=sizeLine/\∃(its:List Value) (n:Nat),aP xs its/\h.get? a=some { cls:=.type "list",data:=.seq its.toArray n }
 | .tup xs=>xs.length<=sizeLine/\∃its:List Value,aP xs its/\IsTup h a its.toArray
 | .dK kvs=>kvs.length<=sizeLine/\(a == sysModules)=false/\∃vs,KV kvs vs/\h.DictOf (bP P w) a vs
 | .dT kvs=>kvs.length<=sizeLine/\(a == sysModules)=false/\∃xs:List (List Key×Addr×Value),
   Paired (λ(p:List Key×V) (q:List Key×Addr×Value)=>p.1=q.1/\H q.2.1=some (.tup (p.1.map kV))/\aN p.2 q.2.2) kvs xs /\
   ∃o es ep,h.get? a=some o/\o.ExactDict/\o.data=.dict es ep/\es.toList=xs.map (entryOfKey (tupleKind (bP P w)))/\(xs.map (·.1)).Nodup
 | .set S n=>h.SetOf (intKind P w) a S n
 | .ins C dx fs=>H dx=some (.own a)/\fs.length<=1000/\dx≠a/\h.get? a=some (PySem.W.instObj C dx) /\
   ∃mA,h.Ns1 dx mA/\(∀f,iB (fs.lookup f) (mA f))/\PySem.Within mA (fs.map (·.1))
 | .own _=>∃o,h.get? a=some o
 | .xd fs=>∃mA,h.Ns1 a mA/\∀f,iB (fs.lookup f) (mA f)
 | .rng lo hi=>∃t u v,h.get? a=some { cls:=.type "range",data:=.fields #[.int lo t,.int hi u,.int 1 v] }
 | .frz o u=>h.get? a=some o/\bH H h a u
 | .tbl q=>∃ps:Array Value,h.get? a=some { cls:=.none,data:=.fields ps }/\TriplesOk ps.toList/\∀pos cv,codeAmong pos ps.toList=some cv->∃(c:Addr) (oc:Obj) (u:HO) (vs:Array Value) (t:Tok),cv=.ref c/\H c=some (.frz oc u)/\oc.data=.fields vs/\vs[1]? = some (.str q t)
 | .met f x=>h.get? a=some (PySem.W.methodObj (.ref f) (.ref x))
 | .ext φ=>φ h/\(∃o,h.get? a=some o)/\∀h1 h2:Heap,φ h1->(∀o,h1.get? a=some o->h2.get? a=some o)->φ h2
def HOk (H:Hp) (h:Heap):Prop:=∀a o,H a=some o->bH P w H h a o
end
section
variable {P:Program}{w:World}{H H':Hp}{h h':Heap}{a:Addr}{o:HO}
theorem bH.lt (x:bH P w H h a o):a<h.objs.size:=by
 cases o with
 | lst xs=>obtain⟨_,_,_,_,e⟩:=x;exact Heap.lt_size e
 | tup xs=>obtain⟨_,_,_,p⟩:=x;exact p.lt
 | dK kvs=>obtain⟨_,_,_,_,o,_,_,e,_⟩:=x;exact Heap.lt_size e
 | dT kvs=>obtain⟨_,_,_,_,o,_,_,e,_⟩:=x;exact Heap.lt_size e
 | set S n=>obtain⟨o,_,_,_,e,_⟩:=x;exact Heap.lt_size e
 | ins C dx fs=>obtain⟨_,_,_,e,_⟩:=x;exact Heap.lt_size e
 | own y=>obtain⟨_,e⟩:=x;exact Heap.lt_size e
 | xd fs=>obtain⟨_,⟨_,_,_,e,_⟩,_⟩:=x;exact Heap.lt_size e
 | rng lo hi=>obtain⟨_,_,_,e⟩:=x;exact Heap.lt_size e
 | frz ob u=>obtain⟨e,_⟩:=x;exact Heap.lt_size e
 | tbl q=>obtain⟨_,e,_⟩:=x;exact Heap.lt_size e
 | met f y=>exact Heap.lt_size (show h.get? a=some _ from x)
 | ext φ=>obtain⟨_,⟨_,e⟩,_⟩:=x;exact Heap.lt_size e
theorem Paired.mapP {α β:Type}{F G:α->β->Prop}:∀ {l₁:List α}{l₂:List β},Paired F l₁ l₂->(∀a b,F a b->G a b)->Paired G l₁ l₂
 | _,_,.nil,_=>.nil
 | _,_,.cons r t,f=>.cons (f _ _ r) (Paired.mapP t f)
theorem bH.stay (x:bH P w H h a o) (k:∀b u,(b=a∨H b=some (.own a))->h.get? b=some u->h'.get? b=some u)
  (ho:∀b,H b=some (.own a)->H' b=some (.own a)) (ht:∀b xs,H b=some (.tup xs)->H' b=some (.tup xs)) (hf:∀b o u,H b=some (.frz o u)->H' b=some (.frz o u)):bH P w H' h' a o:=by
 induction o with
 | lst xs=>obtain⟨z,its,n,r,e⟩:=x;exact⟨z,its,n,r,k _ _ (.inl rfl) e⟩
 | tup xs=>obtain⟨z,its,r,ob,e,c⟩:=x;exact⟨z,its,r,ob,k _ _ (.inl rfl) e,c⟩
 | dK kvs=>obtain⟨z,y,vs,r,ob,es,ep,e,c⟩:=x;exact⟨z,y,vs,r,ob,es,ep,k _ _ (.inl rfl) e,c⟩
 | dT kvs =>
  obtain⟨z,y,xs,r,ob,es,ep,e,c⟩:=x
  exact⟨z,y,xs,Paired.mapP r λp q z=>⟨z.1,ht _ _ z.2.1,z.2.2⟩,ob,es,ep,k _ _ (.inl rfl) e,c⟩
 | set S n=>obtain⟨ob,es,ep,t,e,c⟩:=x;exact⟨ob,es,ep,t,k _ _ (.inl rfl) e,c⟩
 | ins C dx fs =>
  obtain⟨d,z,ne,e,mA,⟨od,es,ep,e2,c⟩,r⟩:=x
  exact⟨ho _ d,z,ne,k _ _ (.inl rfl) e,mA,⟨od,es,ep,k _ _ (.inr d) e2,c⟩,r⟩
 | own y=>obtain⟨ob,e⟩:=x;exact⟨ob,k _ _ (.inl rfl) e⟩
 | xd fs=>obtain⟨mA,⟨od,es,ep,e,c⟩,r⟩:=x;exact⟨mA,⟨od,es,ep,k _ _ (.inl rfl) e,c⟩,r⟩
 | rng lo hi=>obtain⟨t,u,v,e⟩:=x;exact⟨t,u,v,k _ _ (.inl rfl) e⟩
 | frz ob u ih=>obtain⟨e,q⟩:=x;exact⟨k _ _ (.inl rfl) e,ih q⟩
 | tbl q=>obtain⟨ps,e,t,c⟩:=x;exact⟨ps,k a _ (.inl rfl) e,t,λpos cv z=>let ⟨d,oc,u,vs,tk,z1,z2,z3⟩:=c pos cv z;⟨d,oc,u,vs,tk,z1,hf _ _ _ z2,z3⟩⟩
 | met f y =>
  have e:h.get? a=some (PySem.W.methodObj (.ref f) (.ref y)):=x
  show h'.get? a=some (PySem.W.methodObj (.ref f) (.ref y))
  exact k a _ (.inl rfl) e
 | ext φ=>obtain⟨p,⟨o,e⟩,st⟩:=x;exact⟨st _ _ p λo q=>k _ _ (.inl rfl) q,⟨o,k _ _ (.inl rfl) e⟩,st⟩
theorem HOk.lt (x:HOk P w H h) (e:H a=some o):a<h.objs.size:=(x a o e).lt
theorem HOk.fresh (x:HOk P w H h) (e:h.objs.size<=a):H a=none:=by
 cases q:H a with
 | none=>rfl
 | some u=>exact absurd (Nat.lt_of_lt_of_le (x.lt q) e) (Nat.lt_irrefl _)
theorem HOk.kept (x:HOk P w H h) (k:∀b u,h.get? b=some u->h'.get? b=some u):HOk P w H h':=λa o e =>
 (x a o e).stay (λb u _ q=>k b u q) (λ_ q=>q) (λ_ _ q=>q) λ_ _ _ q=>q
theorem HOk.laid (x:HOk P w H h) (k:∀b u,h.get? b=some u->h'.get? b=some u) (hp:h.objs.size<=a) (new:bH P w (upd H a o) h' a o):HOk P w (upd H a o) h':=λb u e=>by
 have hn:=x.fresh hp
 by_cases hb:b=a
 ·subst hb;rw[aB]at e;cases e;exact new
 ·rw[a9 hb]at e
  exact(x b u e).stay (λc v _ q=>k c v q) (λc q=>by rw[a9 (aL q hn)];exact q) (λc xs q=>by rw[a9 (aL q hn)];exact q) λc o xs q=>by rw[a9 (aL q hn)];exact q
end
def Rd (H:Hp) (a:Addr) (u:HO):Prop:=H a=some u ∨ ∃o,H a=some (.frz o u)
theorem Rd.of {H:Hp}{a:Addr}{u:HO}(h:H a=some u):Rd H a u:=.inl h
theorem Rd.ok {P:Program}{w:World}{H:Hp}{h:Heap}{a:Addr}{u:HO}(r:Rd H a u) (x:HOk P w H h):bH P w H h a u:=by
 rcases r with r|⟨o,r⟩
 ·exact x a u r
 ·obtain⟨_,q⟩:=x a _ r
  exact q
def Mut:Option HO->Prop
 | some (.lst _)=>True
 | some (.dK _)=>True
 | some (.dT _)=>True
 | some (.set _ _)=>True
 | some (.ins _ _ _)=>True
 | some (.ext _)=>True
 | _=>False
section
variable {P:Program}{w:World}{H:Hp}{h h':Heap}{x e:Addr}{o':HO}
theorem HOk.write (ok:HOk P w H h) (mu:Mut (H x)) (he:e=x∨H e=some (.own x)) (k:∀b u,b≠e->h.get? b=some u->h'.get? b=some u) (heo:∃u,h'.get? e=some u)
  (new:bH P w (upd H x o') h' x o'):HOk P w (upd H x o') h':=λb u q=>by
 have nown:∀c y,H c=some (.own y)->c≠x:=λc y r z=>by subst z;rw[r]at mu;exact mu
 have ntup:∀c xs,H c=some (.tup xs)->c≠x:=λc xs r z=>by subst z;rw[r]at mu;exact mu
 by_cases hb:b=x
 ·subst hb;rw[aB]at q;cases q;exact new
 ·rw[a9 hb]at q
  by_cases hbe:b=e
  ·have q':H b=some (.own x):=by
    rcases he with z|z
    ·exact absurd (hbe.trans z) hb
    ·rw[hbe];exact z
   rw[q]at q';cases q'
   obtain⟨v,hv⟩:=heo
   exact⟨v,by rw[hbe];exact hv⟩
  ·refine(ok b u q).stay (λc v hc r=>k c v ?_ r) (λc r=>by rw[a9 (nown c b r)];exact r) (λc xs r=>by rw[a9 (ntup c xs r)];exact r) λc o xs r=>by rw[a9 (λz=>by subst z;rw[r]at mu;exact mu)];exact r
   rcases hc with rfl|hc
   ·exact hbe
   ·rintro rfl
    rcases he with z|z
    ·exact nown c b hc z
    ·rw[hc]at z;cases z;exact hb rfl
end
structure Un (fs ex:List Addr) (H H':Hp) (h h':Heap):Prop where
 keep:∀b o,h.get? b=some o->H b=none->b∉fs->b∉ex->h'.get? b=some o
 slot:∀b o,h.get? b=some o->H b=none->b∈fs->b∉ex->∃sl,h'.get? b=some { o with slots:=sl }
 free:∀b o,h.get? b=some o->H b=none->b∉ex->H' b=none
 there:∀b o,h.get? b=some o->b∉ex->∃o',h'.get? b=some o'
 tups:∀b xs,H b=some (.tup xs)->H' b=some (.tup xs)
 frzs:∀b o u,H b=some (.frz o u)->H' b=some (.frz o u)
 tbls:∀b q,H b=some (.tbl q)->H' b=some (.tbl q)
section
variable {fs fs' ex ex':List Addr}{H H1 H2:Hp}{h h1 h2 h':Heap}{a x e:Addr}{o:HO}
theorem Un.any (u:Un fs ex H H1 h h1) {b:Addr}{ob:Obj}(q:h.get? b=some ob) (n:H b=none) (hx:b∉ex):∃sl,h1.get? b=some { ob with slots:=sl }:=by
 by_cases hb:b∈fs
 ·exact u.slot b ob q n hb hx
 ·exact⟨ob.slots,u.keep b ob q n hb hx⟩
theorem Un.trans (a:Un fs ex H H1 h h1) (b:Un fs ex H1 H2 h1 h2):Un fs ex H H2 h h2 where
 keep:=λc ob q n hc hx=>b.keep c ob (a.keep c ob q n hc hx) (a.free c ob q n hx) hc hx
 slot:=λc ob q n hc hx=>by
  obtain⟨sl,e1⟩:=a.slot c ob q n hc hx
  obtain⟨sl',e2⟩:=b.slot c _ e1 (a.free c ob q n hx) hc hx
  exact⟨sl',e2⟩
 free:=λc ob q n hx=>by
  obtain⟨o',e1⟩:=a.there c ob q hx
  exact b.free c o' e1 (a.free c ob q n hx) hx
 there:=λc ob q hx=>by
  obtain⟨o',e1⟩:=a.there c ob q hx
  exact b.there c o' e1 hx
 tups:=λc xs q=>b.tups c xs (a.tups c xs q)
 frzs:=λc ob xs q=>b.frzs c ob xs (a.frzs c ob xs q)
 tbls:=λc ps q=>b.tbls c ps (a.tbls c ps q)
theorem Un.kept (k:∀b u,h.get? b=some u->h'.get? b=some u):Un fs ex H H h h' :=
 ⟨λb ob q _ _ _=>k b ob q,λb ob q _ _ _=>⟨ob.slots,k b ob q⟩,λ_ _ _ n _=>n,λb ob q _=>⟨ob,k b ob q⟩,λ_ _ q=>q,λ_ _ _ q=>q,λ_ _ q=>q⟩
theorem Un.refl:Un fs ex H H h h:=Un.kept λ_ _ q=>q
theorem Un.laid (k:∀b u,h.get? b=some u->h'.get? b=some u) (hp:h.objs.size<=a) (hn:H a=none):Un fs ex H (upd H a o) h h' where
 keep:=λb u q _ _ _=>k b u q
 slot:=λb u q _ _ _=>⟨u.slots,k b u q⟩
 free:=λb u q n _=>by rw[a9 (Nat.ne_of_lt (Nat.lt_of_lt_of_le (Heap.lt_size q) hp))];exact n
 there:=λb u q _=>⟨u,k b u q⟩
 tups:=λb xs q=>by rw[a9 (aL q hn)];exact q
 frzs:=λb u xs q=>by rw[a9 (aL q hn)];exact q
 tbls:=λb ps q=>by rw[a9 (aL q hn)];exact q
theorem Un.write (mu:Mut (H x)) (he:e=x∨H e=some (.own x)) (k:∀b u,b≠e->h.get? b=some u->h'.get? b=some u) (heo:∃u,h'.get? e=some u):Un fs ex H (upd H x o) h h':=by
 have hx:∀b,H b=none->b≠x:=λb n z=>by subst z;rw[n]at mu;exact mu
 have hb:∀b,H b=none->b≠e:=λb n z=>by
  subst z
  rcases he with r|r
  ·exact hx b n r
  ·rw[n]at r;cases r
 have hm:∀b u,H b=some u->¬Mut (some u)->b≠x:=λb u q nm z=>by subst z;rw[q]at mu;exact nm mu
 refine⟨λb u q n _ _=>k b u (hb b n) q,λb u q n _ _=>⟨u.slots,k b u (hb b n) q⟩,λb u q n _=>by rw[a9 (hx b n)];exact n,λb u q _=>?_,
  λb xs q=>by rw[a9 (hm b _ q λz=>z)];exact q,λb u xs q=>by rw[a9 (hm b _ q λz=>z)];exact q,λb ps q=>by rw[a9 (hm b _ q λz=>z)];exact q⟩
 by_cases hbe:b=e
 ·subst hbe;exact heo
 ·exact⟨u,k b u hbe q⟩
end
def trk (h:Heap) (H:Hp):List Addr:=(List.range h.objs.size).filter λa=>(H a).isSome
def sX (h:Heap) (H:Hp):Heap:=PySem.W.hideAll h (trk h H)
theorem y9 (h:Heap) (H:Hp):(sX h H).objs.size=h.objs.size:=PySem.W.hideAll_size _ _
theorem mB {h:Heap}{H:Hp}{b:Addr}{o:Obj}(e:h.get? b=some o) (n:H b=none):(sX h H).get? b=some o :=
 PySem.W.hideAll_get _ e λhm=>by
  have q:(H b).isSome=true:=(List.mem_filter.mp hm).2
  rw[n]at q;simp at q
theorem B8 {h:Heap}{H:Hp}{b:Addr}{o:Obj}(e:(sX h H).get? b=some o):h.get? b=some o/\H b=none:=by
 have e':h.get? b=some o:=PySem.W.of_hideAll (trk h H) e
 refine⟨e', ?_⟩
 cases q:H b with
 | none=>rfl
 | some x =>
  have hm:b∈trk h H:=List.mem_filter.mpr ⟨List.mem_range.mpr (Heap.lt_size e'),by simp[q]⟩
  have z:(sX h H).get? b=none:=PySem.W.hideAll_none (trk h H) hm
  rw[z]at e;cases e
def B9 (g h:Heap) (L:Addr):List (Addr×Obj):=(List.range h.objs.size).filterMap λa=>if a=L∨(g.get? a).isSome=true then none else (h.get? a).map λo=>(a,o)
def a0 (g h:Heap) (L d:Addr):List (Addr×Obj):=(B9 g h L).filter λp=>decide (p.1≠d)
structure Mod (K:PySem.W.Frag) (mg:Str->Option Value) (base:Heap):Prop where
 kin:K.In base
 glob:base.Ns mainGlobals mg
 blt:∃mb,base.Ns builtinsNs mb/\∀x:Str,x ≠ "__name__"->mb x=bootBuiltins x
 nolimit:base.NoLimit
 bmain:∃bm ob,mg "__builtins__" = some (.ref bm)/\bm≠builtinsNs/\base.get? bm=some ob/\ob.cls=.type "module"/\ob.dict=some builtinsNs/\ob.data=.plain
structure Cx where
 prog:Program
 w:World
 K:PySem.W.Frag
 mg:Str->Option Value
 base:Heap
 A:Around
 N:List Str
 s₀:Shared
 H₀:Hp
 env:Env
 outer:List Env
 stack:List Env
 ex:List Addr
 fn:Str->Bool
 calm:Bool
 pn:List (Addr×Obj)
 xe:Value->Shared->Prop
def frs (l:List Env):List Addr:=l.filterMap (·.frame)
abbrev Cx.fs (X:Cx):List Addr:=frs X.outer
def Vis (sc:Scope) (x:Str):Prop:=sc.names.lookup x=some .local∨sc.names.lookup x=some .cell∨sc.names.lookup x=some .free
def Loc (sc:Scope) (x:Str):Prop:=sc.names.lookup x=some .local∨sc.names.lookup x=some .cell
def GZ (env:Env) (h:Heap) (m:Str->Option Value) (x:Str) (u:Value):Prop :=
 (env.kindOf x=some .local/\m x=some u)∨((env.kindOf x=some .cell∨env.kindOf x=some .free)/\∃c,env.cells.lookup x=some c/\h.IsCell c (some u))
structure Cx.Ok (X:Cx):Prop where
 mod:Mod X.K X.mg X.base
 kind:X.env.scope.kind=.function
 glob:X.env.globals=mainGlobals
 blt:X.env.builtins=builtinsNs
 above:X.s₀.heap.objs.size<=X.env.locals
 inj:∀x y c,X.env.cells.lookup x=some c->X.env.cells.lookup y=some c->x=y
 has:∀x,(X.env.kindOf x=some .cell∨X.env.kindOf x=some .free)->∃c,X.env.cells.lookup x=some c
 cab:∀x c,X.fn x=true->X.env.cells.lookup x=some c->X.s₀.heap.objs.size<=c
 hd:X.calm=true->X.A.handled=none
 frames:X.A.frames=some X.stack
 stk:X.stack=X.outer∨(X.stack=X.env::X.outer/\X.env.frame=some X.env.locals)
 exf:∀b∈X.ex,b≠X.env.locals/\∀x c,X.env.cells.lookup x=some c->c≠b
 bs:∀b o,X.base.get? b=some o->X.s₀.heap.get? b=some o/\X.H₀ b=none
 bsz:X.base.objs.size<=X.s₀.heap.objs.size
 noex:∀b o,X.base.get? b=some o->b∉X.ex
 exfs:∀b∈X.ex,b∉X.fs
 funs:X.s₀.heap.FunFrames X.base X.outer
 frf:∀b∈X.fs,X.H₀ b=none
structure Inv (X:Cx) (pins:List (Addr×Obj)) (σ:List (Option V)) (H:Hp) (s:Shared):Prop where
 ok:X.Ok
 os:s.os=X.s₀.os
 bare:AllBare s.gens
 base:Un X.fs X.ex X.H₀ H X.s₀.heap s.heap
 loc:∃m,s.heap.Ns X.env.locals m/\∀(i:Nat) (x:Str) (v:V),X.N[i]? = some x->σ[i]? = some (some v)->Vis X.env.scope x->∃u,aN v u/\GZ X.env s.heap m x u
 cell:∀x c,X.env.cells.lookup x=some c->∃v,s.heap.IsCell c v
 free:H X.env.locals=none
 freeC:∀x c,X.env.cells.lookup x=some c->H c=none
 pin:∀p∈X.pn++pins,s.heap.get? p.1=some p.2/\H p.1=none/\p.1≠X.env.locals/\p.1∉X.fs/\∀v,p.2.data≠.cell v
 hok:HOk X.prog X.w H s.heap
 len:σ.length=X.N.length
section
variable {X:Cx}{pins:List (Addr×Obj)}{σ:List (Option V)}{H H':Hp}{s:Shared}{h':Heap}
theorem Cx.Ok.nofr (ok:X.Ok) {b:Addr}{o:Obj}(e:X.base.get? b=some o):b∉X.fs:=λhb=>by
 have:=(ok.funs.mem hb).1
 rw[e]at this;cases this
theorem Inv.bs (I:Inv X pins σ H s):∀b o,X.base.get? b=some o->s.heap.get? b=some o/\H b=none:=λb o e =>
 ⟨I.base.keep b o (I.ok.bs b o e).1 (I.ok.bs b o e).2 (I.ok.nofr e) (I.ok.noex b o e),I.base.free b o (I.ok.bs b o e).1 (I.ok.bs b o e).2 (I.ok.noex b o e)⟩
theorem Inv.bk (I:Inv X pins σ H s):∀b o,X.base.get? b=some o->s.heap.get? b=some o:=λb o e=>(I.bs b o e).1
theorem Inv.mod (I:Inv X pins σ H s):Mod X.K X.mg X.base:=I.ok.mod
theorem Inv.kIn (I:Inv X pins σ H s):X.K.In s.heap:=I.ok.mod.kin.keeps I.bk
theorem Inv.nolimit (I:Inv X pins σ H s):s.heap.NoLimit:=I.ok.mod.nolimit.keeps I.bk
theorem Inv.lt (I:Inv X pins σ H s):X.env.locals<s.heap.objs.size:=let ⟨_,hn,_⟩:=I.loc;hn.lt
theorem Inv.sz (I:Inv X pins σ H s):X.s₀.heap.objs.size<=s.heap.objs.size:=Nat.le_trans I.ok.above (Nat.le_of_lt I.lt)
theorem Inv.nofs (I:Inv X pins σ H s) {a:Addr}(h:s.heap.objs.size<=a):a∉X.fs:=λhb=>by
 obtain⟨_,o,ho,_⟩:=I.ok.funs.mem hb
 exact absurd (Nat.lt_of_lt_of_le (Heap.lt_size ho) (Nat.le_trans I.sz h)) (Nat.lt_irrefl _)
theorem Inv.cne (I:Inv X pins σ H s):∀x c,X.env.cells.lookup x=some c->c≠X.env.locals:=λx c e z=>by
 obtain⟨v,o,ho,hd⟩:=I.cell x c e
 obtain⟨m,⟨o',es,ep,ho',hd',_⟩,_⟩:=I.loc
 rw[z,ho']at ho;cases ho;rw[hd']at hd;cases hd
theorem Inv.funs (I:Inv X pins σ H s):s.heap.FunFrames X.base X.outer:=by
 have all:∀(l:List Env),(∀b∈frs l,b∈X.fs)->X.s₀.heap.FunFrames X.base l->s.heap.FunFrames X.base l:=by
  intro l
  induction l with
  | nil=>intro _ _;trivial
  | cons env r ih =>
   intro hs hl
   obtain⟨hk,⟨L,o,hf,hn,ho,hd⟩,hr⟩:=hl
   have hL:L∈X.fs:=hs L (by unfold frs;rw[List.filterMap_cons,hf];exact mX)
   obtain⟨sl,e⟩:=I.base.slot L o ho (I.ok.frf L hL) hL λz=>I.ok.exfs L z hL
   exact⟨hk,⟨L,_,hf,hn,e,hd⟩,ih (λb hb=>hs b (by unfold frs;rw[List.filterMap_cons,hf];exact mZ _ hb)) hr⟩
 exact all X.outer (λ_ hb=>hb) I.ok.funs
theorem Inv.stack (I:Inv X pins σ H s):s.heap.FunFrames X.base X.stack:=by
 rcases I.ok.stk with e|⟨e,hf⟩
 ·rw[e];exact I.funs
 ·rw[e]
  obtain⟨m,hn,_⟩:=I.loc
  refine .cons (by rw[I.ok.kind];decide) hf hn ?_ I.funs
  exact Heap.get?_none_of_le (Nat.le_trans I.ok.bsz I.ok.above)
theorem Inv.stkSub (I:Inv X pins σ H s):∀b∈frs X.stack,b∈X.env.locals::X.fs:=λb hb=>by
 rcases I.ok.stk with e|⟨e,hf⟩
 ·rw[e]at hb;exact mZ _ hb
 ·rw[e]at hb
  unfold frs at hb
  rw[List.filterMap_cons,hf]at hb
  exact hb
theorem Inv.stkFree (I:Inv X pins σ H s):∀b∈frs X.stack,H b=none:=λb hb=>by
 rcases List.mem_cons.mp (I.stkSub b hb)with e|hb
 ·rw[e];exact I.free
 ·obtain⟨_,o,ho,_⟩:=I.ok.funs.mem hb
  exact I.base.free b o ho (I.ok.frf b hb) λz=>I.ok.exfs b z hb
theorem Inv.step {g':Array GenState}{t':Nat}{d':Drawn}{ch:List Addr}(I:Inv X pins σ H s)
  (hch:∀b∈ch,(b∈X.ex∨X.s₀.heap.objs.size<=b)/\b≠X.env.locals/\(∀x c,X.env.cells.lookup x=some c->c≠b)/\∀p∈X.pn++pins,p.1≠b)
  (keep:∀b o,b≠X.env.locals->b∉X.fs->b∉ch->s.heap.get? b=some o->H b=none->h'.get? b=some o)
  (slot:∀b o,b≠X.env.locals->b∈X.fs->b∉ch->s.heap.get? b=some o->H b=none->∃sl,h'.get? b=some { o with slots:=sl }) (free:∀b o,b∉ch->s.heap.get? b=some o->H b=none->H' b=none)
  (there:∀b o,b∉ch->s.heap.get? b=some o->∃o',h'.get? b=some o')
  (tups:∀b xs,H b=some (.tup xs)->H' b=some (.tup xs)) (frzs:∀b o u,H b=some (.frz o u)->H' b=some (.frz o u)) (tbls:∀b q,H b=some (.tbl q)->H' b=some (.tbl q))
  (ns:∀m,s.heap.Ns X.env.locals m->h'.Ns X.env.locals m) (hok:HOk X.prog X.w H' h') (hg:AllBare g') :
  Inv X pins σ H' { s with heap:=h',gens:=g',drawn:=d',toks:=t' }:=by
 have neL:∀b o,X.s₀.heap.get? b=some o->b≠X.env.locals:=λb o e=>Nat.ne_of_lt (Nat.lt_of_lt_of_le (Heap.lt_size e) I.ok.above)
 have neC:∀b o,X.s₀.heap.get? b=some o->b∉X.ex->b∉ch:=λb o e hx hb=>by
  rcases (hch b hb).1 with z|z
  ·exact hx z
  ·exact absurd (Nat.lt_of_lt_of_le (Heap.lt_size e) z) (Nat.lt_irrefl _)
 have cellK:∀x c,X.env.cells.lookup x=some c->∀v,s.heap.IsCell c v->h'.IsCell c v:=λx c e v ⟨o,ho,hd⟩=>by
  have nch:c∉ch:=λz=>(hch c z).2.2.1 x c e rfl
  by_cases hc:c∈X.fs
  ·obtain⟨sl,q⟩:=slot c o (I.cne x c e) hc nch ho (I.freeC x c e)
   exact⟨_,q,hd⟩
  ·exact⟨o,keep c o (I.cne x c e) hc nch ho (I.freeC x c e),hd⟩
 refine⟨I.ok,I.os,hg,⟨λb o e n hb hx=>?_,λb o e n hb hx=>?_,λb o e n hx=>?_,λb o e hx=>?_,λb xs e=>tups b xs (I.base.tups b xs e),λb o xs e=>frzs b o xs (I.base.frzs b o xs e),λb ps e=>?_⟩, ?_,λx c e=>?_, ?_,λx c e=>?_,λp hp=>?_,hok,I.len⟩
 ·exact keep b o (neL b o e) hb (neC b o e hx) (I.base.keep b o e n hb hx) (I.base.free b o e n hx)
 ·obtain⟨sl,e1⟩:=I.base.slot b o e n hb hx
  obtain⟨sl',e2⟩:=slot b _ (neL b o e) hb (neC b o e hx) e1 (I.base.free b o e n hx)
  exact⟨sl',e2⟩
 ·obtain⟨o',e1⟩:=I.base.there b o e hx
  exact free b o' (neC b o e hx) e1 (I.base.free b o e n hx)
 ·obtain⟨o',e1⟩:=I.base.there b o e hx
  exact there b o' (neC b o e hx) e1
 ·exact tbls b _ (I.base.tbls b ps e)
 ·obtain⟨m,hn,hl⟩:=I.loc
  refine⟨m,ns m hn,λi x v e1 e2 e3=>?_⟩
  obtain⟨u,r,l⟩:=hl i x v e1 e2 e3
  refine⟨u,r, ?_⟩
  rcases l with l|⟨k,c,e,z⟩
  ·exact .inl l
  ·exact .inr ⟨k,c,e,cellK x c e _ z⟩
 ·obtain⟨v,z⟩:=I.cell x c e
  exact⟨v,cellK x c e v z⟩
 ·obtain⟨m,⟨o,_,_,ho,_⟩,_⟩:=I.loc
  exact free _ o (λz=>(hch _ z).2.1 rfl) ho I.free
 ·obtain⟨v,o,ho,hd⟩:=I.cell x c e
  exact free c o (λz=>(hch c z).2.2.1 x c e rfl) ho (I.freeC x c e)
 ·obtain⟨e,n,ne,nf,d⟩:=I.pin p hp
  have nch:p.1∉ch:=λz=>(hch p.1 z).2.2.2 p hp rfl
  exact⟨keep p.1 p.2 ne nf nch e n,free p.1 p.2 nch e n,ne,nf,d⟩
theorem Inv.un {t':Nat}(I:Inv X pins σ H s) (u:Un X.fs [] H H' s.heap h') (hok:HOk X.prog X.w H' h'):Inv X pins σ H' { s with heap:=h',toks:=t' }:=by
 obtain⟨m,⟨o,es,ep,ho,r⟩,_⟩:=id I.loc
 obtain⟨sl,hL⟩:=u.any ho I.free (by simp)
 exact I.step (g':=s.gens) (d':=s.drawn) (ch:=[]) (λ_ z=>nomatch z) (λb o _ hb _ e n=>u.keep b o e n hb (by simp)) (λb o _ hb _ e n=>u.slot b o e n hb (by simp)) (λb o _ e n=>u.free b o e n (by simp)) (λb o _ e=>u.there b o e (by simp)) u.tups u.frzs u.tbls (λm' hm=>by
  obtain⟨o',es',ep',ho',r'⟩:=hm
  rw[ho]at ho';cases ho'
  exact⟨_,es',ep',hL,r'⟩) hok I.bare
theorem Inv.call {g':Array GenState}{t':Nat}{d':Drawn}{ch:List Addr}(I:Inv X pins σ H s) (u:Un (frs X.stack) ch H H' s.heap h') (hok:HOk X.prog X.w H' h') (hg:AllBare g')
  (hch:∀b∈ch,(b∈X.ex∨X.s₀.heap.objs.size<=b)/\b≠X.env.locals/\(∀x c,X.env.cells.lookup x=some c->c≠b)/\∀p∈X.pn++pins,p.1≠b) :
  Inv X pins σ H' { s with heap:=h',gens:=g',drawn:=d',toks:=t' }:=by
 obtain⟨m,⟨o,es,ep,ho,r⟩,_⟩:=id I.loc
 obtain⟨sl,hL⟩:=u.any ho I.free λz=>(hch _ z).2.1 rfl
 exact I.step (ch:=ch) hch (λb o hL hb hc e n=>u.keep b o e n (λz=>(List.mem_cons.mp (I.stkSub b z)).elim hL hb) hc) (λb o _ _ hc e n=>u.any e n hc) (λb o hc e n=>u.free b o e n hc) (λb o hc e=>u.there b o e hc) u.tups u.frzs u.tbls (λm' hm=>by
  obtain⟨o',es',ep',ho',r'⟩:=hm
  rw[ho]at ho';cases ho'
  exact⟨_,es',ep',hL,r'⟩) hok hg
theorem Inv.turned {t':Nat}{it:Addr}(I:Inv X pins σ H s) (k:∀b o,b≠it->s.heap.get? b=some o->h'.get? b=some o) (hn:H it=none) (hL:it≠X.env.locals)
  (h1:it∈X.ex∨X.s₀.heap.objs.size<=it) (h2:∀x c,X.env.cells.lookup x=some c->c≠it) (h3:∀p∈X.pn++pins,p.1≠it):Inv X pins σ H { s with heap:=h',toks:=t' }:=by
 have nit:∀b u,H b=some u->b≠it:=λb u e z=>by rw[z,hn]at e;cases e
 refine I.step (g':=s.gens) (d':=s.drawn) (ch:=[it]) (λb hb=>?_) (λb o _ _ hc e _=>k b o (λz=>hc (by simp[z])) e) (λb o _ _ hc e _=>⟨o.slots,k b o (λz=>hc (by simp[z])) e⟩) (λ_ _ _ _ n=>n)
  (λb o hc e=>⟨o,k b o (λz=>hc (by simp[z])) e⟩) (λ_ _ e=>e) (λ_ _ _ e=>e) (λ_ _ e=>e) (λm hm=>?_) (λb u e=>?_) I.bare
 ·have e:b=it:=by simpa using hb
  subst e
  exact⟨h1,hL,h2,h3⟩
 ·obtain⟨o,es,ep,ho,r⟩:=hm
  exact⟨o,es,ep,k _ o (Ne.symm hL) ho,r⟩
 ·refine(I.hok b u e).stay (λc v hc q=>k c v ?_ q) (λ_ q=>q) (λ_ _ q=>q) λ_ _ _ q=>q
  rcases hc with z|z
  ·rw[z];exact nit b u e
  ·exact nit c _ z
theorem Inv.tok (I:Inv X pins σ H s) (t:Nat):Inv X pins σ H { s with toks:=t }:=I.un (h':=s.heap) (t':=t) Un.refl I.hok
theorem Inv.kept {t':Nat}(I:Inv X pins σ H s) (k:∀b u,s.heap.get? b=some u->h'.get? b=some u):Inv X pins σ H { s with heap:=h',toks:=t' }:=I.un (Un.kept k) (I.hok.kept k)
theorem Inv.laid {a:Addr}{o:HO}{t':Nat}(I:Inv X pins σ H s) (k:∀b u,s.heap.get? b=some u->h'.get? b=some u) (hp:s.heap.objs.size<=a) (new:bH X.prog X.w (upd H a o) h' a o) :
  Inv X pins σ (upd H a o) { s with heap:=h',toks:=t' }:=I.un (Un.laid k hp (I.hok.fresh hp)) (I.hok.laid k hp new)
theorem Inv.write {x e:Addr}{o:HO}{t':Nat}(I:Inv X pins σ H s) (mu:Mut (H x)) (he:e=x∨H e=some (.own x)) (k:∀b u,b≠e->s.heap.get? b=some u->h'.get? b=some u) (heo:∃u,h'.get? e=some u)
  (new:bH X.prog X.w (upd H x o) h' x o):Inv X pins σ (upd H x o) { s with heap:=h',toks:=t' }:=I.un (Un.write mu he k heo) (I.hok.write mu he k heo new)
theorem Inv.pins_of {pins':List (Addr×Obj)}(I:Inv X pins σ H s) (h:∀p∈pins',s.heap.get? p.1=some p.2/\H p.1=none/\p.1≠X.env.locals/\p.1∉X.fs/\∀v,p.2.data≠.cell v):Inv X pins' σ H s :=
 ⟨I.ok,I.os,I.bare,I.base,I.loc,I.cell,I.free,I.freeC,λp hp=>(List.mem_append.mp hp).elim (λz=>I.pin p (List.mem_append_left _ z)) (h p),I.hok,I.len⟩
theorem sY {N:List Str}(hN:N.Nodup) {i j:Nat}{x:Str}(a:N[i]? = some x) (b:N[j]? = some x):i=j:=by
 obtain⟨h1,e1⟩:=List.getElem?_eq_some_iff.mp a
 obtain⟨h2,e2⟩:=List.getElem?_eq_some_iff.mp b
 exact(List.getElem_inj hN).mp (e1.trans e2.symm)
theorem p7 {M:Model}{A:Around}{E:Value->Shared->Prop}{i:Nat}{x:Str}{v:V}{u:Value}{Q:Unit->Shared->Prop}(I:Inv X pins σ H s) (hN:X.N.Nodup) (hi:X.N[i]? = some x) (hx:Loc X.env.scope x) (r:aN v u)
  (h:∀s',Inv X pins (σ.set i (some v)) H s'->(∃a,Heap.SameBut a s.heap s'.heap/\(a=X.env.locals∨X.env.cells.lookup x=some a))->Q () s') (hf:X.fn x=true∨X.env.scope.names.lookup x=some .local:=by first|exact .inl rfl|exact .inr rfl|assumption):wpAny M A (storeName X.env x u) Q E s:=by
 obtain⟨m,hn,hl⟩:=id I.loc
 have hcls:(X.env.scope.kind == .class || (X.env.scope.kind == .module && X.env.locals != X.env.globals))=false:=by rw[I.ok.kind];rfl
 have hiσ:i<σ.length:=by rw[I.len];exact(List.getElem?_eq_some_iff.mp hi).1
 have cne:=I.cne
 have tracked:∀ {a:Addr}{h':Heap},(∃o,s.heap.get? a=some o/\H a=none)->Heap.SameBut a s.heap h'->HOk X.prog X.w H h':=λ{a h'} ha hs b ob e=>by
  obtain⟨_,_,hfree⟩:=ha
  refine(I.hok b ob e).stay (λc w' hc q=>(hs.2 c ?_).trans q) (λ_ q=>q) (λ_ _ q=>q) λ_ _ _ q=>q
  rintro rfl
  rcases hc with rfl|hc
  ·rw[hfree]at e;cases e
  ·rw[hfree]at hc;cases hc
 rcases hx with hk|hk
 ·refine wpAny_storeName_local hk hn (λh' hn' hs=>?_) hcls
  obtain⟨oL,_,_,hoL,_⟩:=id hn
  refine h _ ⟨I.ok,I.os,I.bare,⟨λb o e n hb hx=>?_,λb o e n hb hx=>?_,I.base.free,λb o e hx=>?_,I.base.tups,I.base.frzs,I.base.tbls⟩,⟨_,hn',λj y v' e1 e2 e3=>?_⟩,λy c e=>?_,I.free,I.freeC,λp hp=>?_,tracked ⟨oL,hoL,I.free⟩ hs,by simpa using I.len⟩ ⟨_,hs,.inl rfl⟩
  ·exact(hs.2 b (Nat.ne_of_lt (Nat.lt_of_lt_of_le (Heap.lt_size e) I.ok.above))).trans (I.base.keep b o e n hb hx)
  ·obtain⟨sl,e1⟩:=I.base.slot b o e n hb hx
   exact⟨sl,(hs.2 b (Nat.ne_of_lt (Nat.lt_of_lt_of_le (Heap.lt_size e) I.ok.above))).trans e1⟩
  ·obtain⟨o',e1⟩:=I.base.there b o e hx
   exact⟨o',(hs.2 b (Nat.ne_of_lt (Nat.lt_of_lt_of_le (Heap.lt_size e) I.ok.above))).trans e1⟩
  ·by_cases hj:j=i
   ·subst hj
    rw[hi]at e1;cases e1
    rw[List.getElem?_set_self hiσ]at e2
    cases e2
    exact⟨u,r,.inl ⟨hk,by simp⟩⟩
   ·rw[List.getElem?_set_ne (Ne.symm hj)]at e2
    obtain⟨u',r',q⟩:=hl j y v' e1 e2 e3
    refine⟨u',r', ?_⟩
    rcases q with ⟨k,e⟩|⟨k,c,e,z⟩
    ·refine .inl ⟨k, ?_⟩
     have:y≠x:=λe=>hj (sY hN e1 (e ▸ hi))
     simp[this,e]
    ·exact .inr ⟨k,c,e,z.sameBut hs (cne y c e)⟩
  ·obtain⟨w',z⟩:=I.cell y c e
   exact⟨w',z.sameBut hs (cne y c e)⟩
  ·obtain⟨e,n,ne,nf,d⟩:=I.pin p hp
   exact⟨(hs.2 p.1 ne).trans e,n,ne,nf,d⟩
 ·have hfn:X.fn x=true:=by
   rcases hf with z|z
   ·exact z
   ·rw[z]at hk;cases hk
  obtain⟨c,hc⟩:=I.ok.has x (.inl hk)
  obtain⟨w',z⟩:=I.cell x c hc
  refine wpAny_storeName_cell I.ok.kind hk hc z (λh' hc' hs=>?_)
  obtain⟨oc,hoc,hocd⟩:=id z
  refine h { s with heap:=h' } ⟨I.ok,I.os,I.bare,⟨λb o e n hb hx=>?_,λb o e n hb hx=>?_,I.base.free,λb o e hx=>?_,I.base.tups,I.base.frzs,I.base.tbls⟩,⟨m,hn.sameBut hs (Ne.symm (cne x c hc)),λj y v' e1 e2 e3=>?_⟩,λy c' e=>?_,I.free,I.freeC,λp hp=>?_,tracked ⟨oc,hoc,I.freeC x c hc⟩ hs,by simpa using I.len⟩ ⟨c,hs,.inr hc⟩
  ·exact(hs.2 b (Nat.ne_of_lt (Nat.lt_of_lt_of_le (Heap.lt_size e) (I.ok.cab x c hfn hc)))).trans (I.base.keep b o e n hb hx)
  ·obtain⟨sl,e1⟩:=I.base.slot b o e n hb hx
   exact⟨sl,(hs.2 b (Nat.ne_of_lt (Nat.lt_of_lt_of_le (Heap.lt_size e) (I.ok.cab x c hfn hc)))).trans e1⟩
  ·obtain⟨o',e1⟩:=I.base.there b o e hx
   exact⟨o',(hs.2 b (Nat.ne_of_lt (Nat.lt_of_lt_of_le (Heap.lt_size e) (I.ok.cab x c hfn hc)))).trans e1⟩
  ·by_cases hj:j=i
   ·subst hj
    rw[hi]at e1;cases e1
    rw[List.getElem?_set_self hiσ]at e2
    cases e2
    exact⟨u,r,.inr ⟨.inl hk,c,hc,hc'⟩⟩
   ·rw[List.getElem?_set_ne (Ne.symm hj)]at e2
    obtain⟨u',r',q⟩:=hl j y v' e1 e2 e3
    refine⟨u',r', ?_⟩
    rcases q with q|⟨k,c',e,z'⟩
    ·exact .inl q
    ·refine .inr ⟨k,c',e,z'.sameBut hs ?_⟩
     rintro rfl
     exact hj (sY hN e1 (I.ok.inj _ _ _ e hc ▸ hi))
  ·by_cases hcc:c'=c
   ·subst hcc;exact⟨_,hc'⟩
   ·obtain⟨w2,z2⟩:=I.cell y c' e
    exact⟨w2,z2.sameBut hs hcc⟩
  ·obtain⟨e,n,ne,nf,d⟩:=I.pin p hp
   refine⟨(hs.2 p.1 ?_).trans e,n,ne,nf,d⟩
   intro q
   rw[q,hoc]at e
   have q':oc=p.2:=Option.some.inj e
   exact d w' (by rw[←q'];exact hocd)
theorem sZ {M:Model}{A:Around}{E:Value->Shared->Prop}{i:Nat}{x:Str}{v:V}{u:Value}{Q:Unit->Shared->Prop}(I:Inv X pins σ H s) (hN:X.N.Nodup) (hi:X.N[i]? = some x) (hx:Loc X.env.scope x) (r:aN v u)
  (h:∀s',Inv X pins (σ.set i (some v)) H s'->Q () s') (hf:X.fn x=true∨X.env.scope.names.lookup x=some .local:=by first|exact .inl rfl|exact .inr rfl|assumption):wpAny M A (storeName X.env x u) Q E s :=
 p7 I hN hi hx r (λs' I' _=>h s' I') hf
theorem Inv.call' {s':Shared}{ch:List Addr}(I:Inv X pins σ H s) (ho:s'.os=s.os) (u:Un (frs X.stack) ch H H' s.heap s'.heap) (hok:HOk X.prog X.w H' s'.heap) (hg:AllBare s'.gens)
  (hch:∀b∈ch,(b∈X.ex∨X.s₀.heap.objs.size<=b)/\b≠X.env.locals/\(∀x c,X.env.cells.lookup x=some c->c≠b)/\∀p∈X.pn++pins,p.1≠b):Inv X pins σ H' s':=by
 obtain⟨h',g',d',t',o'⟩:=s'
 have e:o'=s.os:=ho
 subst e
 exact I.call (g':=g') (t':=t') (d':=d') u hok hg hch
end
abbrev XK:=Value->Option Addr->Hp->Prop
abbrev St:=List (Option V)
abbrev VK:=V->Hp->Prop
abbrev TE:=St->Hp->VK->Prop
abbrev TT:=St->Hp->(Bool->Hp->Prop)->Prop
abbrev TA:=St->Hp->(List V->Hp->Prop)->Prop
structure Ends where
 nx:St->Hp->Prop
 rt:VK
 bk:St->Hp->Prop:=λ_ _=>False
 ct:St->Hp->Prop:=λ_ _=>False
abbrev TS:=Ends->St->Hp->Prop
def EP (X:Cx) (pins:List (Addr×Obj)) (σ:St) (Q:VK) (u:Value) (s':Shared):Prop:=∃v H',Inv X pins σ H' s'/\aN v u/\Q v H'
def TP (X:Cx) (pins:List (Addr×Obj)) (σ:St) (Q:Bool->Hp->Prop) (b:Bool) (s':Shared):Prop:=∃H',Inv X pins σ H' s'/\Q b H'
def AP (X:Cx) (pins:List (Addr×Obj)) (σ:St) (Q:List V->Hp->Prop) (us:List Value) (s':Shared):Prop:=∃vs H',Inv X pins σ H' s'/\aP vs us/\Q vs H'
def SP (X:Cx) (pins:List (Addr×Obj)) (D:Ends) (f:Flow) (s':Shared):Prop :=
 match f with
 | .next=>∃σ' H',Inv X pins σ' H' s'/\D.nx σ' H'
 | .brk=>∃σ' H',Inv X pins σ' H' s'/\D.bk σ' H'
 | .cont=>∃σ' H',Inv X pins σ' H' s'/\D.ct σ' H'
 | .ret u=>∃v σ' H',Inv X pins σ' H' s'/\aN v u/\D.rt v H'
def PE (X:Cx) (e:Expr) (t:TE):Prop :=
 ∀(pins:List (Addr×Obj)) (s:Shared) (σ:St) (H:Hp) (Q:VK),Inv X pins σ H s->t σ H Q->wpAny (model X.prog X.w) X.A (eval e X.env) (EP X pins σ Q) X.xe s
def PT (X:Cx) (e:Expr) (t:TT):Prop :=
 ∀(pins:List (Addr×Obj)) (s:Shared) (σ:St) (H:Hp) (Q:Bool->Hp->Prop),Inv X pins σ H s->t σ H Q->wpAny (model X.prog X.w) X.A (isTrue e X.env (eval e X.env)) (TP X pins σ Q) X.xe s
def PW (X:Cx) (e:Expr) (t:TT):Prop :=
 ∀(whole:Sem Value) (pins:List (Addr×Obj)) (s:Shared) (σ:St) (H:Hp) (Q:Bool->Hp->Prop),Inv X pins σ H s->t σ H Q->wpAny (model X.prog X.w) X.A (isTrue e X.env whole) (TP X pins σ Q) X.xe s
theorem PW.pt {X:Cx}{e:Expr}{t:TT}(h:PW X e t):PT X e t:=h _
def PA (X:Cx) (es:List Expr) (t:TA):Prop :=
 ∀(pos:Pos) (pins:List (Addr×Obj)) (s:Shared) (σ:St) (H:Hp) (Q:List V->Hp->Prop),Inv X pins σ H s->t σ H Q->wpAny (model X.prog X.w) X.A (spliced (backTo pos (starEach es X.env))) (AP X pins σ Q) X.xe s
def PS (X:Cx) (st:Stmt) (t:TS):Prop :=
 ∀(pins:List (Addr×Obj)) (s:Shared) (σ:St) (H:Hp) (D:Ends),Inv X pins σ H s->t D σ H->wpAny (model X.prog X.w) X.A (exec st X.env) (SP X pins D) X.xe s
def PSs (X:Cx) (st:List Stmt) (t:TS):Prop :=
 ∀(pins:List (Addr×Obj)) (s:Shared) (σ:St) (H:Hp) (D:Ends),Inv X pins σ H s->t D σ H->wpAny (model X.prog X.w) X.A (execs st X.env) (SP X pins D) X.xe s
theorem thn {α:Type}{t:Sem α}{Q Q':α->Shared->Prop}{M:Model}{A:Around}{E:Value->Shared->Prop}{s:Shared}(h:wpAny M A t Q E s) (hQ:∀a s,Q a s->Q' a s):wpAny M A t Q' E s:=wpAny_mono h hQ λ_ _ x=>x
section
variable {X:Cx}
theorem bin {a b:Expr}{ta tb:TE}(ha:PE X a ta) (hb:PE X b tb) {pins:List (Addr×Obj)}{s:Shared}{σ:St}{H:Hp}{R:V->V->Hp->Prop}(I:Inv X pins σ H s) (h:ta σ H λx H1=>tb σ H1 λy H2=>R x y H2)
  {α:Type}{Q:α->Shared->Prop}{f:Value->Value->Sem α}
  (hf:∀v u s2 x y H2,Inv X pins σ H2 s2->aN x v->aN y u->R x y H2->wpAny (model X.prog X.w) X.A (f v u) Q X.xe s2) :
  wpAny (model X.prog X.w) X.A (eval a X.env) (λv s₁=>wpAny (model X.prog X.w) X.A (eval b X.env) (λu s₂=>wpAny (model X.prog X.w) X.A (f v u) Q X.xe s₂) X.xe s₁) X.xe s:=by
 refine thn (ha pins s σ H _ I h) λv s1 ⟨x,H1,I1,r1,q1⟩=>?_
 refine thn (hb pins s1 σ H1 _ I1 q1) λu s2 ⟨y,H2,I2,r2,q2⟩=>?_
 exact hf v u s2 x y H2 I2 r1 r2 q2
def BA (i:Nat):TE:=λσ H Q=>∃v,σ[i]? = some (some v)/\Q v H
def tC (v:V):TE:=λ_ H Q=>Q v H
theorem mC {i:Nat}{x:Str}{pos:Pos}(hN:X.N[i]? = some x) (hv:Vis X.env.scope x) (hd:(x == ("__debug__" : Str))=false:=by decide) (hcd:(x == ("__classdict__" : Str))=false:=by decide):PE X (.Name x pos) (BA i):=by
 intro pins s σ H Q I h
 obtain⟨v,e,h⟩:=h
 obtain⟨m,hn,hl⟩:=I.loc
 obtain⟨u,r,l⟩:=hl i x v hN e hv
 have fin:EP X pins σ Q u s:=⟨v,H,I,r,h⟩
 rcases l with ⟨hk,hm⟩|⟨hk,c,hc,hcell⟩
 ·exact wpAny_Name (wpAny_loadName_local I.ok.kind hk hn hm fin) hd
 ·rcases hk with hk|hk
  ·exact wpAny_Name (wpAny_loadName_cell I.ok.kind hk hc hcell fin) hd
  ·exact wpAny_Name (wpAny_loadName_free I.ok.kind hk hc hcell fin hcd) hd
theorem Ec {i j pos}:PE X (.Constant (.int i) j pos) (tC (.int i)):=λ_ _ _ H _ I h=>wpAny_Constant_int ⟨.int i,H,I.tok _,⟨_,rfl⟩,h⟩
theorem F8 {b j pos}:PE X (.Constant (.bool b) j pos) (tC (.bl b)):=λ_ _ _ H _ I h=>Constant_bool ⟨.bl b,H,I,rfl,h⟩
theorem Ed {j pos}:PE X (.Constant .none j pos) (tC .non):=λ_ _ _ H _ I h=>Constant_none ⟨.non,H,I,rfl,h⟩
theorem Ee {x j pos}:PE X (.Constant (.str x) j pos) (tC (.str x)):=λ_ _ _ H _ I h=>Calls.Constant_str ⟨.str x,H,I.tok _,⟨_,rfl⟩,h⟩
def Gl (X:Cx) (x:Str):Prop:=X.env.kindOf x=some .globalImplicit
theorem qY {E:Value->Shared->Prop}{pins:List (Addr×Obj)}{s:Shared}{σ:St}{H:Hp}{x:Str}{u:Value}{pos:Pos}{Q:Value->Shared->Prop}(I:Inv X pins σ H s) (hg:Gl X x) (hm:X.mg x=some u) (h:Q u s)
  (hd:(x == ("__debug__" : Str))=false:=by decide):wpAny (model X.prog X.w) X.A (eval (.Name x pos) X.env) Q E s :=
 Calls.Name_function_global I.ok.kind hg (Calls.loadGlobal_global (by rw[I.ok.glob];exact I.mod.glob.keeps I.bk) hm h) hd
theorem iT {E:Value->Shared->Prop}{pins:List (Addr×Obj)}{s:Shared}{σ:St}{H:Hp}{x:Str}{u:Value}{pos:Pos}{Q:Value->Shared->Prop}(I:Inv X pins σ H s) (hg:Gl X x) (hm:X.mg x=none) (hv:bootBuiltins x=some u) (h:Q u s)
  (hn:x ≠ "__name__":=by decide) (hd:(x == ("__debug__" : Str))=false:=by decide):wpAny (model X.prog X.w) X.A (eval (.Name x pos) X.env) Q E s:=by
 obtain⟨mb,h1,h2⟩:=I.mod.blt
 exact Calls.Name_function_global I.ok.kind hg (Calls.loadGlobal_builtin (by rw[I.ok.glob];exact I.mod.glob.keeps I.bk) hm (by rw[I.ok.blt];exact h1.keeps I.bk) ((h2 x hn).trans hv) h) hd
theorem xp {x:Str}{v:V}{u:Value}{pos:Pos}(hg:Gl X x) (hm:X.mg x=some u) (r:aN v u) (hd:(x == ("__debug__" : Str))=false:=by decide):PE X (.Name x pos) (tC v) :=
 λ_ _ _ H _ I h=>qY I hg hm ⟨v,H,I,r,h⟩ hd
def t2I (ta tb:TE) (k:Int->Int->Hp->Prop):St->Hp->Prop:=λσ H=>ta σ H λx H1=>tb σ H1 λy H2=>∃i j,x=.int i/\y=.int j/\k i j H2
variable {a b:Expr}{ta tb:TE}{pos:Pos}
def PC (X:Cx) (op:CmpOp) (a b:Expr) (t:TE):Prop :=
 ∀(pins:List (Addr×Obj)) (s:Shared) (σ:St) (H:Hp) (Q:VK),Inv X pins σ H s->t σ H Q ->
  wpAny (model X.prog X.w) X.A (eval a X.env) (λv s₁=>wpAny (model X.prog X.w) X.A (eval b X.env) (λu s₂=>wpAny (model X.prog X.w) X.A (compareOp op v u) (EP X pins σ Q) X.xe s₂) X.xe s₁) X.xe s
theorem mD (b:Expr) {op:CmpOp}(h:op≠.In) (h2:op≠.NotIn):behindInMarks op b=false:=by
 have e1:(op == CmpOp.In)=false:=by cases op<;>first|rfl|exact absurd rfl h
 have e2:(op == CmpOp.NotIn)=false:=by cases op<;>first|rfl|exact absurd rfl h2
 cases b<;>simp[behindInMarks,e1,e2]
def F9 (p:Int->Int->Bool) (ta tb:TE):TE:=λσ H Q=>t2I ta tb (λi j H2=>Q (.bl (p i j)) H2) σ H
abbrev tLt:TE->TE->TE:=F9 λi j=>decide (i<j)
abbrev tGt:TE->TE->TE:=F9 λi j=>decide (j<i)
def tB (t:TE):TT:=λσ H Q=>t σ H λx H1=>∃c,x=.bl c/\Q c H1
theorem Ha {op:CmpOp}{t:TE}(h:PC X op a b t) (h1:behindInMarks op b=false:=by first|exact mD _ (by decide) (by decide)|rfl):PT X (.Compare a [op] [b] pos) (tB t):=by
 intro pins s σ H Q I hw
 refine wpAny_isTrue_Compare1 (thn (h pins s σ H _ I hw) λv s1 h1=>thn h1 λu s2 h2=>thn h2 λc s3 ⟨x,H1,I1,r1,q1⟩=>?_) h1
 obtain⟨d,rfl,q⟩:=q1
 cases r1
 exact wpAny_truthy_bool ⟨H1,I1,q⟩
theorem Ef {e:Expr}{t:TE}(h:PE X e t) (he:∀whole,isTrue e X.env whole=(do let v ←whole;standAt e.pos;holding [v] (truthy v)):=by intro _;rfl):PT X e (tB t):=by
 intro pins s σ H Q I hw
 refine isTrue_plain (thn (h pins s σ H _ I hw) λv s1 ⟨x,H1,I1,r1,q1⟩=>?_) (he _)
 obtain⟨d,rfl,q⟩:=q1
 cases r1
 exact wpAny_truthy_bool ⟨H1,I1,q⟩
variable {tA tB':TT}{a0:List Expr}
def FB (t u:TT):TT:=λσ H Q=>t σ H λc H1=>if c=true then u σ H1 Q else Q false H1
def tOr (t u:TT):TT:=λσ H Q=>t σ H λc H1=>if c=true then Q true H1 else u σ H1 Q
def FC (t:TT):TT:=λσ H Q=>t σ H λc H1=>Q (!c) H1
theorem BB (ha:PT X a tA):PW X (.BoolOp .And [a] pos) tA:=by
 intro wh pins s σ H Q I h
 refine isTrue_and (thn (ha pins s σ H Q I h) λc s1 e=>?_)
 cases c with
 | true=>exact isTrue_and_nil e
 | false=>exact e
theorem Eg (ha:PT X a tA):PW X (.BoolOp .Or [a] pos) tA:=by
 intro wh pins s σ H Q I h
 refine isTrue_or (thn (ha pins s σ H Q I h) λc s1 e=>?_)
 cases c with
 | false=>exact isTrue_or_nil e
 | true=>exact e
theorem Eh (ha:PT X a tA) (hb:PW X (.BoolOp .And (b::a0) pos) tB'):PW X (.BoolOp .And (a::b::a0) pos) (FB tA tB'):=by
 intro wh pins s σ H Q I h
 refine isTrue_and (thn (ha pins s σ H _ I h) λc s1 ⟨H1,I1,q1⟩=>?_)
 cases c with
 | true=>exact hb wh pins s1 σ H1 Q I1 q1
 | false=>exact⟨H1,I1,q1⟩
theorem FD (ha:PT X a tA) (hb:PW X (.BoolOp .Or (b::a0) pos) tB'):PW X (.BoolOp .Or (a::b::a0) pos) (tOr tA tB'):=by
 intro wh pins s σ H Q I h
 refine isTrue_or (thn (ha pins s σ H _ I h) λc s1 ⟨H1,I1,q1⟩=>?_)
 cases c with
 | true=>exact⟨H1,I1,q1⟩
 | false=>exact hb wh pins s1 σ H1 Q I1 q1
theorem Ei (ha:PT X a tA):PT X (.UnaryOp .Not a pos) (FC tA):=by
 intro pins s σ H Q I h
 exact isTrue_not (ha pins s σ H (λc H1=>Q (!c) H1) I h)
def FF (ta tb:TE):TE:=λσ H Q=>ta σ H λx H1=>∃c,x=.bl c/\if c=true then tb σ H1 Q else Q (.bl false) H1
def Hb (ta tb:TE):TE:=λσ H Q=>ta σ H λx H1=>∃c,x=.bl c/\if c=true then Q (.bl true) H1 else tb σ H1 Q
theorem Ej {op} {t:TE}(h:PE X a t):PE X (.BoolOp op [a] pos) t:=λpins s σ H Q I hw=>BoolOp_one (h pins s σ H Q I hw)
theorem Ek (ha:PE X a ta) (hb:PE X (.BoolOp .And (b::a0) pos) tb):PE X (.BoolOp .And (a::b::a0) pos) (FF ta tb):=by
 intro pins s σ H Q I h
 refine BoolOp_and (thn (ha pins s σ H _ I h) λv s1 ⟨x,H1,I1,r1,q1⟩=>?_)
 obtain⟨c,rfl,q1⟩:=q1
 cases r1
 refine wpAny_truthy_bool ?_
 cases c with
 | true=>exact hb pins s1 σ H1 Q I1 q1
 | false=>exact⟨.bl false,H1,I1,rfl,q1⟩
theorem FH (ha:PE X a ta) (hb:PE X (.BoolOp .Or (b::a0) pos) tb):PE X (.BoolOp .Or (a::b::a0) pos) (Hb ta tb):=by
 intro pins s σ H Q I h
 refine BoolOp_or (thn (ha pins s σ H _ I h) λv s1 ⟨x,H1,I1,r1,q1⟩=>?_)
 obtain⟨c,rfl,q1⟩:=q1
 cases r1
 refine wpAny_truthy_bool ?_
 cases c with
 | false=>exact hb pins s1 σ H1 Q I1 q1
 | true=>exact⟨.bl true,H1,I1,rfl,q1⟩
end
def SqL (K:PySem.W.Frag) (H:Hp) (a:Addr) (xs:List V):Prop :=
 Rd H a (.lst xs) ∨
  ∃(o:Obj) (its:Array Value) (n:Nat),K.lookup a=some o/\o.cls=.type "list"/\o.dict=none/\o.data=.seq its n/\its.size<=sizeLine/\aP xs its.toList
def SqT (K:PySem.W.Frag) (H:Hp) (a:Addr) (xs:List V):Prop :=
 Rd H a (.tup xs) ∨
  ∃(o:Obj) (its:Array Value) (n:Nat),K.lookup a=some o/\o.cls=.type "tuple"/\o.data=.seq its n/\its.size<=sizeLine/\aP xs its.toList
def Hd:Value->Option V
 | .none=>some .non
 | .bool b=>some (.bl b)
 | .int i _=>some (.int i)
 | .str x _=>some (.str x)
 | .bytes b _=>some (.byt b)
 | .float b _=>some (.flt b)
 | .ref a=>some (.ref a)
 | .type n=>some (.ty n)
 | _=>none
theorem aN.abs {x:V}{u:Value}(r:aN x u):Hd u=some x:=by
 cases x with
 | non=>cases r;rfl
 | bl _=>cases r;rfl
 | int _=>obtain⟨t,rfl⟩:=r;rfl
 | str _=>obtain⟨t,rfl⟩:=r;rfl
 | byt _=>obtain⟨t,rfl⟩:=r;rfl
 | flt _=>obtain⟨t,rfl⟩:=r;rfl
 | ref _=>cases r;rfl
 | ty _=>cases r;rfl
theorem aN.inj {x y:V}{u:Value}(r:aN x u) (q:aN y u):x=y:=Option.some.inj (r.abs.symm.trans q.abs)
theorem aP.inj:∀ {xs ys:List V}{us:List Value},aP xs us->aP ys us->xs=ys
 | _,_,_,.nil,.nil=>rfl
 | _,_,_,.cons r t,.cons r' t'=>by rw[r.inj r',aP.inj t t']
section
variable {X:Cx}{pins:List (Addr×Obj)}{σ:St}{H:Hp}{s:Shared}{a:Addr}{xs ys:List V}
theorem SqL.of {K:PySem.W.Frag}(h:H a=some (.lst xs)):SqL K H a xs:=.inl (.inl h)
theorem SqT.of {K:PySem.W.Frag}(h:H a=some (.tup xs)):SqT K H a xs:=.inl (.inl h)
theorem Inv.list (I:Inv X pins σ H s) (h:SqL X.K H a xs):∃its:List Value,aP xs its/\PlainL s.heap a its.toArray/\xs.length<=sizeLine:=by
 rcases h with h|⟨o,its,n,hk,hc,hd,hs,hz,r⟩
 ·obtain⟨z,its,n,r,e⟩:=h.ok I.hok
  exact⟨its,r,⟨_,n,e,rfl,rfl,rfl⟩,z⟩
 ·refine⟨its.toList,r,⟨o,n,I.kIn a o hk,hc,hd,by simpa using hs⟩, ?_⟩
  have e:=r.length
  simp only[Array.length_toList]at e
  omega
theorem Inv.tuple (I:Inv X pins σ H s) (h:SqT X.K H a xs):∃its:List Value,aP xs its/\IsTup s.heap a its.toArray/\xs.length<=sizeLine:=by
 rcases h with h|⟨o,its,n,hk,hc,hs,hz,r⟩
 ·obtain⟨z,its,r,p⟩:=h.ok I.hok
  exact⟨its,r,p,z⟩
 ·refine⟨its.toList,r,⟨o,I.kIn a o hk,hc,n,by simpa using hs⟩, ?_⟩
  have e:=r.length
  simp only[Array.length_toList]at e
  omega
theorem Inv.list_inj (I:Inv X pins σ H s) (h:SqL X.K H a xs) (h':SqL X.K H a ys):xs=ys:=by
 obtain⟨its,r,⟨o,n,e,_,_,d⟩,_⟩:=I.list h
 obtain⟨its',r',⟨o',n',e',_,_,d'⟩,_⟩:=I.list h'
 rw[e]at e';cases e'
 rw[d]at d'
 injection d' with d1 _
 have:its=its':=by simpa using congrArg Array.toList d1
 subst this
 exact r.inj r'
theorem Inv.tuple_inj (I:Inv X pins σ H s) (h:SqT X.K H a xs) (h':SqT X.K H a ys):xs=ys:=by
 obtain⟨its,r,⟨o,e,_,n,d⟩,_⟩:=I.tuple h
 obtain⟨its',r',⟨o',e',_,n',d'⟩,_⟩:=I.tuple h'
 rw[e]at e';cases e'
 rw[d]at d'
 injection d' with d1 _
 have:its=its':=by simpa using congrArg Array.toList d1
 subst this
 exact r.inj r'
end
abbrev Cx.wish (X:Cx) (E:Value->Shared->Prop):Cx:={ X with xe:=E }
abbrev Cx.nox (X:Cx):Cx:=X.wish λ_ _=>False
theorem Cx.Ok.wish {X:Cx}(ok:X.Ok) (E:Value->Shared->Prop):(X.wish E).Ok :=
 ⟨ok.mod,ok.kind,ok.glob,ok.blt,ok.above,ok.inj,ok.has,ok.cab,ok.hd,ok.frames,ok.stk,ok.exf,ok.bs,ok.bsz,ok.noex,ok.exfs,ok.funs,ok.frf⟩
theorem Cx.Ok.unwish {X:Cx}{E:Value->Shared->Prop}(ok:(X.wish E).Ok):X.Ok :=
 ⟨ok.mod,ok.kind,ok.glob,ok.blt,ok.above,ok.inj,ok.has,ok.cab,ok.hd,ok.frames,ok.stk,ok.exf,ok.bs,ok.bsz,ok.noex,ok.exfs,ok.funs,ok.frf⟩
section
variable {X:Cx}{pins:List (Addr×Obj)}{σ:St}{H:Hp}{s:Shared}{E:Value->Shared->Prop}
theorem Inv.wish (I:Inv X pins σ H s) (E:Value->Shared->Prop):Inv (X.wish E) pins σ H s:=⟨I.ok.wish E,I.os,I.bare,I.base,I.loc,I.cell,I.free,I.freeC,I.pin,I.hok,I.len⟩
theorem Inv.unwish (I:Inv (X.wish E) pins σ H s):Inv X pins σ H s:=⟨I.ok.unwish,I.os,I.bare,I.base,I.loc,I.cell,I.free,I.freeC,I.pin,I.hok,I.len⟩
theorem SP.unwish {D:Ends}{f:Flow}{s':Shared}(h:SP (X.wish E) pins D f s'):SP X pins D f s':=by
 cases f with
 | next=>obtain⟨σ',H',I,q⟩:=h;exact⟨σ',H',I.unwish,q⟩
 | brk=>obtain⟨σ',H',I,q⟩:=h;exact⟨σ',H',I.unwish,q⟩
 | cont=>obtain⟨σ',H',I,q⟩:=h;exact⟨σ',H',I.unwish,q⟩
 | ret u=>obtain⟨v,σ',H',I,r,q⟩:=h;exact⟨v,σ',H',I.unwish,r,q⟩
theorem PSs.nox {st:List Stmt}{t:TS}(h:PSs X.nox st t):PSs X st t:=λpins s σ H D I hw =>
 wpAny_mono (h pins s σ H D (I.wish _) hw) (λ_ _ q=>q.unwish) λ_ _ z=>False.elim z
end
section
variable {X:Cx}{st:Stmt}{a0:List Stmt}{t u:TS}{e:Expr}{te:TE}{pos:Pos}
def Ds:TS:=λD σ H=>D.nx σ H
def FI (t u:TS):TS:=λD σ H=>t { D with nx:=u D } σ H
theorem BC:PSs X [] Ds:=λ_ _ σ H _ I h=>wpAny_execs_nil ⟨σ,H,I,h⟩
theorem zI (h1:PS X st t) (h2:PSs X a0 u):PSs X (st::a0) (FI t u):=by
 intro pins s σ H D I h
 refine wpAny_execs_cons (thn (h1 pins s σ H { D with nx:=u D } I h) λf s1 q=>?_)
 cases f with
 | next =>
  obtain⟨σ',H',I',q⟩:=q
  exact h2 pins s1 σ' H' D I' q
 | ret v=>exact q
 | brk=>exact q
 | cont=>exact q
theorem BD (h1:PS X st t):PSs X [st] t:=by
 intro pins s σ H D I h
 refine wpAny_execs_cons (thn (h1 pins s σ H D I h) λf s1 q=>?_)
 cases f with
 | next=>exact wpAny_execs_nil q
 | ret v=>exact q
 | brk=>exact q
 | cont=>exact q
def FJ:TS:=λD σ H=>D.ct σ H
theorem tm:PS X (.Continue pos) FJ:=λ_ _ σ H _ I h=>wpAny_Continue ⟨σ,H,I,h⟩
theorem Inv.quiet {pins:List (Addr×Obj)}{σ:St}{H:Hp}{s:Shared}(I:Inv X pins σ H s):interactive X.env=false:=by simp[interactive,I.ok.kind]
def FK (te:TE):TS:=λD σ H=>te σ H λ_ H1=>D.nx σ H1
theorem BE (he:PE X e te) (hs:swapsWith e none pos.line X.env=pure false:=by rfl):PS X (.Expr e pos) (FK te):=by
 intro pins s σ H D I h
 exact wpAny_Expr_any (thn (he pins s σ H _ I h) λv s1 ⟨x,H1,I1,r1,q1⟩=>⟨σ,H1,I1,q1⟩) I.quiet hs
def El (te:TE):TS:=λD σ H=>te σ H D.rt
theorem zJ (he:PE X e te):PS X (.Return (some e) pos) (El te):=by
 intro pins s σ H D I h
 exact wpAny_Return_some (thn (he pins s σ H _ I h) λv s1 ⟨x,H1,I1,r1,q1⟩=>⟨x,σ,H1,I1,r1,q1⟩)
def FL (c:TT) (t u:TS):TS:=λD σ H=>c σ H λb H1=>if b=true then t D σ H1 else u D σ H1
theorem FM {c:Expr}{a b:List Stmt}{tc:TT}(hc:PT X c tc) (ha:PSs X a t) (hb:PSs X b u):PS X (.If c a b pos) (FL tc t u):=by
 intro pins s σ H D I h
 refine wpAny_If (thn (hc pins s σ H _ I h) λd s1 ⟨H1,I1,q1⟩=>?_)
 cases d with
 | true=>exact ha pins s1 σ H1 D I1 q1
 | false=>exact hb pins s1 σ H1 D I1 q1
end
abbrev TG:=V->St->Hp->(St->Hp->Prop)->Prop
abbrev TGs:=List V->St->Hp->(St->Hp->Prop)->Prop
def PG (X:Cx) (target:Expr) (t:TG):Prop :=
 ∀(pins:List (Addr×Obj)) (s:Shared) (σ:St) (H:Hp) (v:V) (u:Value) (Q:St->Hp->Prop),Inv X pins σ H s->aN v u->t v σ H Q ->
  wpAny (model X.prog X.w) X.A (assign target X.env u) (λ_ s'=>∃σ' H',Inv X pins σ' H' s'/\Q σ' H') X.xe s
def PGs (X:Cx) (ts:List Expr) (t:TGs):Prop :=
 ∀(pins:List (Addr×Obj)) (s:Shared) (σ:St) (H:Hp) (vs:List V) (us:List Value) (Q:St->Hp->Prop),Inv X pins σ H s->aP vs us->t vs σ H Q ->
  wpAny (model X.prog X.w) X.A (assignInOrder ((assignEach ts X.env).map (·.2)) us) (λ_ s'=>∃σ' H',Inv X pins σ' H' s'/\Q σ' H') X.xe s
section
variable {X:Cx}{pos:Pos}
def jy (i:Nat):TG:=λv σ H Q=>Q (σ.set i (some v)) H
theorem bg {i:Nat}{x:Str}(hN:X.N.Nodup) (hi:X.N[i]? = some x) (hx:Loc X.env.scope x) (hf:X.fn x=true∨X.env.scope.names.lookup x=some .local:=by first|exact .inl rfl|exact .inr rfl|assumption):PG X (.Name x pos) (jy i):=by
 intro pins s σ H v u Q I r h
 exact wpAny_assign_Name (sZ I hN hi hx r (λs' I'=>⟨_,H,I',h⟩) hf)
def FN:TGs:=λvs σ H Q=>vs=[]/\Q σ H
def Dt (t:TG) (u:TGs):TGs:=λvs σ H Q=>∃v r,vs=v::r/\t v σ H λσ' H'=>u r σ' H' Q
theorem qZ:PGs X [] FN:=by
 intro pins s σ H vs us Q I r h
 obtain⟨e,h⟩:=h
 subst e
 cases r
 exact assignInOrder_nil ⟨σ,H,I,h⟩
theorem fF {e:Expr}{es:List Expr}{t:TG}{u:TGs}(h1:PG X e t) (h2:PGs X es u)
  (hs:(assignEach (e::es) X.env).map (·.2)=assign e X.env::(assignEach es X.env).map (·.2):=by rfl):PGs X (e::es) (Dt t u):=by
 intro pins s σ H vs us Q I r h
 obtain⟨v,vr,e1,h⟩:=h
 subst e1
 cases r with
 | cons r rr =>
  rw[hs]
  refine assignInOrder_cons (thn (h1 pins s σ H _ _ _ I r h) λ_ s1 ⟨σ1,H1,I1,q1⟩=>?_)
  exact h2 pins s1 σ1 H1 _ _ Q I1 rr q1
def Em (K:PySem.W.Frag) (n:Nat) (t:TGs):TG:=λv σ H Q=>∃a xs,v=.ref a/\SqT K H a xs/\xs.length=n/\t xs σ H Q
theorem vN {es:List Expr}{k:Nat}{t:TGs}{n:Nat}(hc:X.calm=true) (h:PGs X es t)
  (hn:(assignEach es X.env).length=n:=by rfl) (hst:(assignEach es X.env).findIdx? (·.1)=none:=by rfl):PG X (.Tuple es k pos) (Em X.K n t):=by
 intro pins s σ H v u Q I r hw
 obtain⟨a,xs,e1,hq,hl,hw⟩:=hw
 subst e1
 cases r
 obtain⟨its,rv,ht,hz⟩:=I.tuple hq
 refine assign_Tuple_tuple (I.ok.hd hc) ht (by simp[hn,←hl,rv.length]) hst λh' hx=>?_
 have I1:Inv X pins σ H { s with heap:=h' }:=I.kept (t':=s.toks) λb o e=>hx b o (Nat.ne_of_lt (Heap.lt_size e)) e
 exact h pins _ σ H xs _ Q I1 (by simpa using rv) hw
def zK (te:TE) (g:TG):TS:=λD σ H=>te σ H λx H1=>g x σ H1 D.nx
theorem vO {i:Nat}{x:Str}{e:Expr}{te:TE}{pos':Pos}(hN:X.N.Nodup) (hi:X.N[i]? = some x) (hx:Loc X.env.scope x) (he:PE X e te) (hs:swapsWith e (some (.Name x pos')) pos.line X.env=pure false:=by rfl) (hf:X.fn x=true∨X.env.scope.names.lookup x=some .local:=by first|exact .inl rfl|exact .inr rfl|assumption) :
  PS X (.Assign [.Name x pos'] e pos) (zK te (jy i)):=by
 intro pins s σ H D I h
 refine wpAny_Assign_Name (thn (he pins s σ H _ I h) λv s1 ⟨y,H1,I1,r1,q1⟩=>?_) hs
 exact sZ I1 hN hi hx r1 (λs2 I2=>⟨_,H1,I2,q1⟩) hf
end
section
variable {X:Cx}{pos:Pos}
def zL (c:TT) (tb:TS):TS:=λD σ H=>∃W:Nat->St->Hp->Prop,(∃m,W m σ H)/\∀m σ H,W m σ H ->
 c σ H λb H1=>if b=true then ∃N:St->Hp->Prop,(∀σ' H',N σ' H'->∃m',m'<m/\W m' σ' H')/\tb { D with nx:=N,ct:=N,bk:=D.nx } σ H1 else D.nx σ H1
theorem zM {c:Expr}{body:List Stmt}{tc:TT}{tb:TS}(hp:PassesOwn (model X.prog X.w) X.A X.env X.xe) (hc:PT X c tc) (hb:PSs X body tb):PS X (.While c body [] pos) (zL tc tb):=by
 intro pins s σ H D I h
 obtain⟨W,⟨m0,w0⟩,turn⟩:=h
 refine wpAny_While (codeAny_whileLoop (λn s'=>∃σ' H',Inv X pins σ' H' s'/\W n σ' H') ?_ m0 ⟨σ,H,I,w0⟩)
 rintro n s1 ⟨σ1,H1,I1,w1⟩
 refine wpAny_passesOwn hp (thn (hc pins s1 σ1 H1 _ I1 (turn n σ1 H1 w1)) λb s2 ⟨H2,I2,q2⟩=>?_)
 cases b with
 | true =>
  obtain⟨N,hN,q2⟩:=q2
  rw[if_pos rfl]
  refine wpAny_passesOwn hp (thn (hb pins s2 σ1 H2 _ I2 q2) λf s3 q3=>?_)
  cases f with
  | next =>
   obtain⟨σ3,H3,I3,n3⟩:=q3
   obtain⟨m',hm,w3⟩:=hN σ3 H3 n3
   exact⟨m',hm,σ3,H3,I3,w3⟩
  | cont =>
   obtain⟨σ3,H3,I3,n3⟩:=q3
   obtain⟨m',hm,w3⟩:=hN σ3 H3 n3
   exact⟨m',hm,σ3,H3,I3,w3⟩
  | brk=>exact q3
  | ret v=>exact q3
 | false =>
  rw[if_neg Bool.false_ne_true]
  exact wpAny_execs_nil ⟨σ1,H2,I2,q2⟩
end
structure It where
 go:Nat->Hp->Prop
 yld:Nat->Hp->V->Hp->Prop
 stop:Nat->Hp->Prop
def k6 (X:Cx) (pins:List (Addr×Obj)) (H:Hp) (b:Addr):Prop :=
 H b=none/\b≠X.env.locals/\b∉X.fs/\(b∈X.ex∨X.s₀.heap.objs.size<=b)/\(∀x c,X.env.cells.lookup x=some c->c≠b)/\∀p∈X.pn++pins,p.1≠b
theorem Inv.fpOk {X:Cx}{pins:List (Addr×Obj)}{σ:St}{H H':Hp}{s:Shared}{b:Addr}(I:Inv X pins σ H s) (hb:s.heap.objs.size<=b) (hn:H' b=none):k6 X pins H' b:=by
 refine⟨hn,Nat.ne_of_gt (Nat.lt_of_lt_of_le I.lt hb),I.nofs hb,.inr (Nat.le_trans I.sz hb),λx c e z=>?_,λp hp z=>?_⟩
 ·obtain⟨v,q⟩:=I.cell x c e
  exact absurd (Nat.lt_of_lt_of_le q.lt (by rw[z];exact hb)) (Nat.lt_irrefl _)
 ·exact absurd (Nat.lt_of_lt_of_le (Heap.lt_size (I.pin p hp).1) (by rw[z];exact hb)) (Nat.lt_irrefl _)
structure Turn (P:Program) (w:World) (K:PySem.W.Frag) (tg:Expr) (J:It) (fp:List Addr) (it:Addr) (tn:Nat->Heap->Prop):Prop where
 mem:it∈fp
 obj:∀i h,tn i h->∀b∈fp,∃o,h.get? b=some o/\∀v,o.data≠.cell v
 keep:∀i h h',tn i h->(∀b∈fp,∀o,h.get? b=some o->h'.get? b=some o)->tn i h'
 item:∀(X:Cx),X.prog=P->X.w=w->X.K=K->X.calm=true->∀(i:Nat) (pins:List (Addr×Obj)) (s:Shared) (σ:St) (H:Hp) (E:Value->Shared->Prop),Inv X pins σ H s->(∀b∈fp,k6 X pins H b)->tn i s.heap->J.go i H ->
  wpAny (model P w) X.A (pyNext (.ref it)) (λr s1=>∃u,r=some u /\
   wpAny (model P w) X.A (letOwnedTupleGo tg (.ref it) u) (λ_ s2=>∃x H',Inv X pins σ H' s2/\aN x u/\J.yld i H x H'/\tn (i+1) s2.heap/\∀b∈fp,H' b=none) E s1) E s
 done:∀(X:Cx),X.prog=P->X.w=w->X.K=K->X.calm=true->∀(i:Nat) (pins:List (Addr×Obj)) (s:Shared) (σ:St) (H:Hp) (E:Value->Shared->Prop),Inv X pins σ H s->(∀b∈fp,k6 X pins H b)->tn i s.heap->J.stop i H ->
  wpAny (model P w) X.A (pyNext (.ref it)) (λr s1=>r=none/\Inv X pins σ H s1) E s
 self:∀(A:Around) (i:Nat) (s:Shared) (Q:Value->Shared->Prop) (E:Value->Shared->Prop),tn i s.heap->Q (.ref it) s->wpAny (model P w) A (pyIter (.ref it)) Q E s
abbrev TI:=St->Hp->(It->Hp->Prop)->Prop
def PIE (X:Cx) (pins:List (Addr×Obj)) (σ:St) (tg:Expr) (R:It->Hp->Prop) (itv:Value) (s2:Shared):Prop :=
 ∃(it:Addr) (fp:List Addr) (tn:Nat->Heap->Prop) (J:It) (H':Hp),itv=.ref it/\Inv X pins σ H' s2/\Turn X.prog X.w X.K tg J fp it tn/\tn 0 s2.heap/\(∀b∈fp,k6 X pins H' b)/\R J H'
def PI (X:Cx) (tg iter:Expr) (wi:TI):Prop :=
 ∀(pins:List (Addr×Obj)) (s:Shared) (σ:St) (H:Hp) (R:It->Hp->Prop),Inv X pins σ H s->wi σ H R ->
  wpAny (model X.prog X.w) X.A (eval iter X.env) (λv s1=>wpAny (model X.prog X.w) X.A (pyIter v) (PIE X pins σ tg R) X.xe s1) X.xe s
theorem p8 {M:Model}{A:Around}{E:Value->Shared->Prop}{s:Shared}{tg:Expr}{it:Addr}{u:Value}{o:Obj}{n:String}{vs:Array Value}{Q:Unit->Shared->Prop}(ho:s.heap.get? it=some o) (hc:o.cls=.type n) (hd:o.data=.fields vs)
    (hn:["enumerate","zip","dict_itemiterator","dict_reverseitemiterator","odict_iterator","itertools.zip_longest","itertools.pairwise"].contains n=false) (hQ:Q () s):wpAny M A (letOwnedTupleGo tg (.ref it) u) Q E s:=by
  unfold letOwnedTupleGo
  cases tg<;>first
    | exact wY hQ
    | (cases u<;>first
        | exact wY hQ
        | (refine wX (wpAny_load ho ?_)
           rw[hc,hd]
           show wpAny M A (if(["enumerate","zip","dict_itemiterator","dict_reverseitemiterator","odict_iterator","itertools.zip_longest","itertools.pairwise"].contains n && vs[0]? == some (rawInt _))=true then _ else _) Q E s
           rw[if_neg (by intro h;rw[hn,Bool.false_and]at h;cases h)]
           exact wY hQ))
def Itl (K:PySem.W.Frag) (a:Addr):It :=
 ⟨λi H=>∃xs x,SqL K H a xs/\xs[i]? = some x,λi H x H'=>H'=H/\∀xs,SqL K H a xs->xs[i]? = some x,λi H=>∃xs,SqL K H a xs/\xs.length<=i⟩
def Itt (K:PySem.W.Frag) (a:Addr):It :=
 ⟨λi H=>∃xs x,SqT K H a xs/\xs[i]? = some x,λi H x H'=>H'=H/\∀xs,SqT K H a xs->xs[i]? = some x,λi H=>∃xs,SqT K H a xs/\xs.length<=i⟩
def Itr (lo:Int) (n:Nat):It:=⟨λi _=>i<n,λi H x H'=>H'=H/\x=.int (lo+i),λi _=>n<=i⟩
theorem yA {P:Program}{w:World}{K:PySem.W.Frag}{tg:Expr}(a it:Addr):Turn P w K tg (Itl K a) [it] it (λi h=>h.IsListIter it a i) where
 mem:=by simp
 obj:=λi h st b hb=>by
  have e:b=it:=by simpa using hb
  subst e
  obtain⟨o,e,c,d⟩:=st
  exact⟨o,e,λv z=>by rw[d]at z;cases z⟩
 keep:=λi h h' st k=>st.at λo e=>k it (by simp) o e
 item:=by
  intro X hP hw hK hc i pins s σ H E I hf st hg
  subst hP hw hK
  obtain⟨xs,x,hq,hx⟩:=hg
  obtain⟨its,rv,p,hz⟩:=I.list hq
  obtain⟨u,hu,ru⟩:=rv.get hx
  obtain⟨f0,f1,f2,f3,f4,f5⟩:=hf it (by simp)
  refine wpAny_pyNext_list_item st p.isList (x:=u) (by simpa using hu) λh' st' sb=>?_
  have I1:Inv X pins σ H { s with heap:=h' }:=I.turned (t':=s.toks) (λb o hb e=>(sb.2 b hb).trans e) f0 f1 f3 f4 f5
  obtain⟨o,e,c,d⟩:=id st'
  exact⟨u,rfl,p8 (s:={ s with heap:=h' }) e c d (by decide) ⟨x,H,I1,ru,⟨rfl,λys hy=>by rw[I.list_inj hy hq];exact hx⟩,st',λb hb=>(hf b hb).1⟩⟩
 done:=by
  intro X hP hw hK hc i pins s σ H E I hf st hg
  subst hP hw hK
  obtain⟨xs,hq,hx⟩:=hg
  obtain⟨its,rv,p,hz⟩:=I.list hq
  obtain⟨f0,f1,f2,f3,f4,f5⟩:=hf it (by simp)
  have hl:=rv.length
  exact wpAny_pyNext_list_end (I.ok.hd hc) st p.isList (by simp;omega) λh' eb=>⟨rfl,I.turned (t':=s.toks) (λb o hb e=>eb b o hb e) f0 f1 f3 f4 f5⟩
 self:=λ_ _ _ _ _ st h=>wpAny_pyIter_listiter st h
theorem vP {P:Program}{w:World}{K:PySem.W.Frag}{tg:Expr}(a it:Addr):Turn P w K tg (Itt K a) [it] it (λi h=>h.IsTupleIter it a i) where
 mem:=by simp
 obj:=λi h st b hb=>by
  have e:b=it:=by simpa using hb
  subst e
  obtain⟨o,e,c,d⟩:=st
  exact⟨o,e,λv z=>by rw[d]at z;cases z⟩
 keep:=λi h h' st k=>st.at λo e=>k it (by simp) o e
 item:=by
  intro X hP hw hK hc i pins s σ H E I hf st hg
  subst hP hw hK
  obtain⟨xs,x,hq,hx⟩:=hg
  obtain⟨its,rv,p,hz⟩:=I.tuple hq
  obtain⟨u,hu,ru⟩:=rv.get hx
  obtain⟨f0,f1,f2,f3,f4,f5⟩:=hf it (by simp)
  refine wpAny_pyNext_tuple_item st (show s.heap.IsTuple a its.toArray from p) (x:=u) (by simpa using hu) λh' st' sb=>?_
  have I1:Inv X pins σ H { s with heap:=h' }:=I.turned (t':=s.toks) (λb o hb e=>(sb.2 b hb).trans e) f0 f1 f3 f4 f5
  obtain⟨o,e,c,d⟩:=id st'
  exact⟨u,rfl,p8 (s:={ s with heap:=h' }) e c d (by decide) ⟨x,H,I1,ru,⟨rfl,λys hy=>by rw[I.tuple_inj hy hq];exact hx⟩,st',λb hb=>(hf b hb).1⟩⟩
 done:=by
  intro X hP hw hK hc i pins s σ H E I hf st hg
  subst hP hw hK
  obtain⟨xs,hq,hx⟩:=hg
  obtain⟨its,rv,p,hz⟩:=I.tuple hq
  obtain⟨f0,f1,f2,f3,f4,f5⟩:=hf it (by simp)
  have hl:=rv.length
  exact wpAny_pyNext_tuple_end (I.ok.hd hc) st (show s.heap.IsTuple a its.toArray from p) (by simp;omega) λh' eb=>⟨rfl,I.turned (t':=s.toks) (λb o hb e=>eb b o hb e) f0 f1 f3 f4 f5⟩
 self:=λ_ _ _ _ _ st h=>wpAny_pyIter_tupleiter st h
theorem vQ {P:Program}{w:World}{K:PySem.W.Frag}{tg:Expr}(it:Addr) (lo:Int) (n:Nat):Turn P w K tg (Itr lo n) [it] it (λi h=>IsRangeIter h it (lo+(i:Nat)*1) ((n:Int) - (i:Nat)) 1) where
 mem:=by simp
 obj:=λi h st b hb=>by
  have e:b=it:=by simpa using hb
  subst e
  exact⟨_,st,λv z=>by
   have z':Data.fields _=Data.cell v:=z
   cases z'⟩
 keep:=λi h h' st k=>k it (by simp) _ st
 item:=by
  intro X hP hw hK hc i pins s σ H E I hf st hg
  subst hP hw hK
  obtain⟨f0,f1,f2,f3,f4,f5⟩:=hf it (by simp)
  have W:=Walks.range (prog:=X.prog) (w:=X.w) (I.ok.hd hc) it lo 1 n
  refine W.item i s _ _ hg st λv h' tk hv st' kk=>?_
  obtain⟨t,rfl⟩:=hv
  have I1:Inv X pins σ H { s with heap:=h',toks:=tk }:=I.turned (λb o hb e=>kk b o (by simpa using hb) e) f0 f1 f3 f4 f5
  refine⟨_,rfl,p8 (s:={ s with heap:=h',toks:=tk }) (n:="range_iterator") st' rfl rfl (by decide) ⟨.int (lo+i),H,I1,⟨t, ?_⟩,⟨rfl,rfl⟩,st',λb hb=>(hf b hb).1⟩⟩
  rw[Int.mul_one]
 done:=by
  intro X hP hw hK hc i pins s σ H E I hf st hg
  subst hP hw hK
  obtain⟨f0,f1,f2,f3,f4,f5⟩:=hf it (by simp)
  exact wpAny_pyNext_range_end (I.ok.hd hc) st (by have:n<=i:=hg;omega) λh' eb=>⟨rfl,I.turned (t':=s.toks) (λb o hb e=>eb b o hb e) f0 f1 f3 f4 f5⟩
 self:=λ_ _ _ _ _ st h=>wpAny_pyIter_rangeiter st h
section
variable {X:Cx}{tg:Expr}
def FP (K:PySem.W.Frag) (tl:TE):TI:=λσ H R=>tl σ H λx H1=>∃a,x=.ref a/\(∃xs,SqL K H1 a xs)/\R (Itl K a) H1
def He (K:PySem.W.Frag) (tl:TE):TI:=λσ H R=>tl σ H λx H1=>∃a,x=.ref a/\(∃xs,SqT K H1 a xs)/\R (Itt K a) H1
theorem BF {l:Expr}{tl:TE}(hl:PE X l tl):PI X tg l (FP X.K tl):=by
 intro pins s σ H R I h
 refine thn (hl pins s σ H _ I h) λv s1 ⟨x,H1,I1,r1,q1⟩=>?_
 obtain⟨a,e,⟨xs,hq⟩,q⟩:=q1
 subst e
 cases r1
 obtain⟨its,rv,p,hz⟩:=I1.list hq
 refine wpAny_pyIter_list p.isList ?_
 refine⟨s1.heap.objs.size,[s1.heap.objs.size],_,_,H1,rfl,I1.kept (t':=s1.toks) λb o e=>Heap.get?_push_of_some _ e,yA a _,⟨_,Heap.get?_push_size _ rfl,rfl,rfl⟩,λb hb=>?_,q⟩
 have e:b=s1.heap.objs.size:=by simpa using hb
 subst e
 exact I1.fpOk (Nat.le_refl _) (I1.hok.fresh (Nat.le_refl _))
theorem En {l:Expr}{tl:TE}(hl:PE X l tl):PI X tg l (He X.K tl):=by
 intro pins s σ H R I h
 refine thn (hl pins s σ H _ I h) λv s1 ⟨x,H1,I1,r1,q1⟩=>?_
 obtain⟨a,e,⟨xs,hq⟩,q⟩:=q1
 subst e
 cases r1
 obtain⟨its,rv,p,hz⟩:=I1.tuple hq
 refine wpAny_pyIter_tuple (show s1.heap.IsTuple a its.toArray from p) ?_
 refine⟨s1.heap.objs.size,[s1.heap.objs.size],_,_,H1,rfl,I1.kept (t':=s1.toks) λb o e=>Heap.get?_push_of_some _ e,vP a _,⟨_,Heap.get?_push_size _ rfl,rfl,rfl⟩,λb hb=>?_,q⟩
 have e:b=s1.heap.objs.size:=by simpa using hb
 subst e
 exact I1.fpOk (Nat.le_refl _) (I1.hok.fresh (Nat.le_refl _))
theorem zN {pins:List (Addr×Obj)}{σ:St}{H:Hp}{s:Shared}{R:It->Hp->Prop}{E:Value->Shared->Prop}{lo hi:Int}{t u v:Tok}{tk:Nat}(I:Inv X pins σ H s) (h1 : -(2 ^ 62)<=lo) (h2:lo<2 ^ 62) (h3 : -(2 ^ 62)<=hi) (h4:hi<2 ^ 62)
  (q:R (Itr lo (hi - lo).toNat) H):wpAny (model X.prog X.w) X.A (pyIter (.ref s.heap.objs.size)) (PIE X pins σ tg R) E { s with heap:=s.heap.push { cls:=.type "range",data:=.fields #[.int lo t,.int hi u,.int 1 v] },toks:=tk }:=by
 refine wpAny_pyIter_range (IsRange.new ..) (small_one h1 h2 h3 h4) ?_
 have I1:Inv X pins σ H { s with heap:=s.heap.push { cls:=.type "range",data:=.fields #[.int lo t,.int hi u,.int 1 v] },toks:=tk }:=I.kept λb o e=>Heap.get?_push_of_some _ e
 refine⟨(s.heap.push { cls:=.type "range",data:=.fields #[.int lo t,.int hi u,.int 1 v] }).objs.size,[(s.heap.push { cls:=.type "range",data:=.fields #[.int lo t,.int hi u,.int 1 v] }).objs.size],_,_,H,rfl,
  I1.kept (t':=tk) λb o e=>Heap.get?_push_of_some _ e,vQ _ lo (hi - lo).toNat, ?_,λb hb=>?_,q⟩
 ·have e1:lo+((0:Nat):Int)*1=lo:=by simp
  have e2:(((hi - lo).toNat:Nat):Int) - ((0:Nat):Int)=Builtin.Range.rangeSize lo hi 1:=by rw[rangeSize_one];split<;>omega
  show IsRangeIter _ _ (lo+((0:Nat):Int)*1) ((((hi - lo).toNat:Nat):Int) - ((0:Nat):Int)) 1
  rw[e1,e2]
  exact Heap.get?_push_size _ rfl
 ·have e:b=(s.heap.push { cls:=.type "range",data:=.fields #[.int lo t,.int hi u,.int 1 v] }).objs.size:=by simpa using hb
  subst e
  exact I1.fpOk (Nat.le_refl _) (I1.hok.fresh (Nat.le_refl _))
def FQ (ta:TA):TI:=λσ H R=>ta σ H λvs H1=>∃j:Int,vs=[.int j]/\-(2 ^ 62)<=j/\j<2 ^ 62/\R (Itr 0 j.toNat) H1
theorem yB {a:Expr}{ta:TA}{p pos:Pos}(hg:Gl X "range") (hm:X.mg "range" = none) (ha:PA X [a] ta) (hs:starEach [a] X.env=[(false,eval a X.env)]:=by rfl):PI X tg (.Call (.Name "range" p) [a] [] pos) (FQ ta):=by
 intro pins s σ H R I h
 refine Call_ (iT I hg hm boot_range (PyProof.Rows.callWith_type1 (thn (ha pos pins s σ H _ I h) λus s1 ⟨vs,H1,I1,r1,q1⟩=>?_) hs rfl))
 obtain⟨j,e,q1,q2,q⟩:=q1
 subst e
 cases r1 with
 | cons r rr =>
  cases rr
  obtain⟨t,rfl⟩:=r
  exact call_range_1 (zN I1 (by omega) (by omega) q1 q2 (by simpa using q))
def Eo (wi:TI) (g:TG) (tb:TS):TS:=λD σ H=>wi σ H λJ H1=>∃W:Nat->Nat->St->Hp->Prop,(∃m,W 0 m σ H1)/\∀i m σ H,W i m σ H ->
 (J.stop i H/\D.nx σ H)∨(J.go i H/\∃N:St->Hp->Prop,(∀σ' H',N σ' H'->∃m',m'<m/\W (i+1) m' σ' H')/\∀x H',J.yld i H x H'->g x σ H' λσ2 H2=>tb { D with nx:=N,ct:=N,bk:=D.nx } σ2 H2)
def k7 (fp:List Addr) (h:Heap):List (Addr×Obj):=fp.filterMap λb=>(h.get? b).map λo=>(b,o)
theorem fZ {fp:List Addr}{h:Heap}{b:Addr}{o:Obj}(hb:b∈fp) (e:h.get? b=some o):(b,o)∈k7 fp h:=List.mem_filterMap.mpr ⟨b,hb,by rw[e];rfl⟩
theorem yC {fp:List Addr}{h:Heap}{p:Addr×Obj}(hp:p∈k7 fp h):p.1∈fp/\h.get? p.1=some p.2:=by
 obtain⟨b,hb,e⟩:=List.mem_filterMap.mp hp
 cases q:h.get? b with
 | none=>rw[q]at e;cases e
 | some o =>
  rw[q]at e
  have e':(b,o)=p:=Option.some.inj e
  subst e'
  exact⟨hb,q⟩
theorem Inv.pinned {pins:List (Addr×Obj)}{σ:St}{H:Hp}{s:Shared}{fp:List Addr}(I:Inv X pins σ H s) (hf:∀b∈fp,k6 X pins H b) (ho:∀b∈fp,∃o,s.heap.get? b=some o/\∀v,o.data≠.cell v):Inv X (pins++k7 fp s.heap) σ H s :=
 I.pins_of λp hp=>(List.mem_append.mp hp).elim (λz=>I.pin p (mY _ z)) λz=>by
  obtain⟨hb,e⟩:=yC z
  obtain⟨f0,f1,f2,_⟩:=hf p.1 hb
  obtain⟨o,e',d⟩:=ho p.1 hb
  rw[e]at e';cases e'
  exact⟨e,f0,f1,f2,d⟩
theorem Inv.unpinned {pins pl:List (Addr×Obj)}{σ:St}{H:Hp}{s:Shared}(I:Inv X (pins++pl) σ H s):Inv X pins σ H s:=I.pins_of λp hp=>I.pin p (mY _ (List.mem_append_left _ hp))
theorem zO {iter:Expr}{body:List Stmt}{wi:TI}{g:TG}{tb:TS}{pos:Pos}(hp:PassesOwn (model X.prog X.w) X.A X.env X.xe) (hc:X.calm=true) (hi:PI X tg iter wi) (hg:PG X tg g) (hb:PSs X body tb)
  (hs:∀x,foldedSetIterable iter X.env x=pure x:=by intro _;rfl):PS X (.For tg iter body [] pos) (Eo wi g tb):=by
 intro pins s σ H D I h
 refine wpAny_For (thn (hi pins s σ H _ I h) λv s1 h1=>thn h1 λitv s2 h2=>?_) hs
 obtain⟨it,fp,tn,J,H2,e,I2,T,st2,f2,W,⟨m0,w0⟩,turn⟩:=h2
 subst e
 -- what stays true of the iterator's objects through the loop
 have stat:∀ {H':Hp},(∀b∈fp,H' b=none)->∀b∈fp,k6 X pins H' b:=λhn b hb=>⟨hn b hb,(f2 b hb).2⟩
 refine codeAny_forLoop_any (λn s'=>∃i σ' H',Inv X pins σ' H' s'/\tn i s'.heap/\(∀b∈fp,H' b=none)/\W i n σ' H') ?_ m0 ⟨0,σ,H2,I2,st2,λb hb=>(f2 b hb).1,w0⟩
 rintro n s3 ⟨i,σ3,H3,I3,st3,fr3,w3⟩
 rcases turn i n σ3 H3 w3 with ⟨stop,qn⟩|⟨go,N,hN,step⟩
 ·refine wpAny_passesOwn hp (thn (T.done X rfl rfl rfl hc i pins s3 σ3 H3 X.xe I3 (stat fr3) st3 stop) λr s4 ⟨hr,I4⟩=>?_)
  subst hr
  exact wpAny_execs_nil ⟨σ3,H3,I4,qn⟩
 ·refine wpAny_passesOwn hp (thn (T.item X rfl rfl rfl hc i pins s3 σ3 H3 X.xe I3 (stat fr3) st3 go) λr s4 ⟨u,hr,h4⟩=>?_)
  subst hr
  refine wpAny_passesOwn hp (thn h4 λ_ s5 ⟨x,H5,I5,r5,y5,st5,fr5⟩=>?_)
  have I5':=I5.pinned (stat fr5) (T.obj _ _ st5)
  refine wpAny_passesOwn hp (thn (hg _ s5 σ3 H5 x u _ I5' r5 (step x H5 y5)) λ_ s6 ⟨σ6,H6,I6,q6⟩=>?_)
  refine wpAny_passesOwn hp (thn (hb _ s6 σ6 H6 _ I6 q6) λf s7 q7=>?_)
  have again:∀ {σ7:St}{H7:Hp},Inv X (pins++k7 fp s5.heap) σ7 H7 s7->N σ7 H7->∃m,m<n/\∃i σ' H',Inv X pins σ' H' s7/\tn i s7.heap/\(∀b∈fp,H' b=none)/\W i m σ' H':=λ{σ7 H7} I7 n7=>by
   obtain⟨m',hm,w7⟩:=hN σ7 H7 n7
   refine⟨m',hm,i+1,σ7,H7,I7.unpinned,T.keep _ _ _ st5 λb hb o e=>(I7.pin (b,o) (mY _ (mY _ (fZ hb e)))).1,λb hb=>?_,w7⟩
   obtain⟨o,e,d⟩:=T.obj _ _ st5 b hb
   exact(I7.pin (b,o) (mY _ (mY _ (fZ hb e)))).2.1
  cases f with
  | next=>obtain⟨σ7,H7,I7,n7⟩:=q7;exact again I7 n7
  | cont=>obtain⟨σ7,H7,I7,n7⟩:=q7;exact again I7 n7
  | brk=>obtain⟨σ7,H7,I7,q7⟩:=q7;exact⟨σ7,H7,I7.unpinned,q7⟩
  | ret v=>obtain⟨x7,σ7,H7,I7,r7,q7⟩:=q7;exact⟨x7,σ7,H7,I7.unpinned,r7,q7⟩
end
abbrev R2:=V->V->Hp->VK->Prop
def OpR (X:Cx) (f:Value->Value->Sem Value) (r:R2):Prop :=
 ∀(pins:List (Addr×Obj)) (s:Shared) (σ:St) (H:Hp) (x y:V) (v u:Value) (Q:VK),Inv X pins σ H s->aN x v->aN y u->r x y H Q ->
  wpAny (model X.prog X.w) X.A (f v u) (EP X pins σ Q) X.xe s
def UnR (X:Cx) (f:Value->Sem Value) (r:V->Hp->VK->Prop):Prop :=
 ∀(pins:List (Addr×Obj)) (s:Shared) (σ:St) (H:Hp) (x:V) (v:Value) (Q:VK),Inv X pins σ H s->aN x v->r x H Q ->
  wpAny (model X.prog X.w) X.A (f v) (EP X pins σ Q) X.xe s
def cf (X:Cx) (f:Value) (r:List V->Hp->VK->Prop):Prop :=
 ∀(pins:List (Addr×Obj)) (s:Shared) (σ:St) (H:Hp) (xs:List V) (us:List Value) (Q:VK),Inv X pins σ H s->aP xs us->r xs H Q ->
  wpAny (model X.prog X.w) X.A (call f us) (EP X pins σ Q) X.xe s
def tOp (r:R2) (ta tb:TE):TE:=λσ H Q=>ta σ H λx H1=>tb σ H1 λy H2=>r x y H2 Q
def tUn (r:V->Hp->VK->Prop) (ta:TE):TE:=λσ H Q=>ta σ H λx H1=>r x H1 Q
def rI (C:Int->Int->Prop) (g:Int->Int->V):R2:=λx y H Q=>∃i j,x=.int i/\y=.int j/\C i j/\Q (g i j) H
def rI0 (g:Int->Int->V):R2:=λx y H Q=>∃i j,x=.int i/\y=.int j/\Q (g i j) H
def rU (g:Int->V):V->Hp->VK->Prop:=λx H Q=>∃i,x=.int i/\Q (g i) H
section
variable {X:Cx}{a b c:Expr}{ta tb tc:TE}{pos:Pos}
theorem Ep (ha:PE X a ta) (hb:PE X b tb) {pins:List (Addr×Obj)}{s:Shared}{σ:St}{H:Hp}{R:V->V->Hp->Prop}(I:Inv X pins σ H s)
  (h:ta σ H λx H1=>tb σ H1 λy H2=>R x y H2) {Q:Value->Shared->Prop}{f:Value->Value->Sem Value}
  (hf:∀v u s2 x y H2,Inv X pins σ H2 s2->aN x v->aN y u->R x y H2->wpAny (model X.prog X.w) X.A (f v u) Q X.xe s2) :
  wpAny (model X.prog X.w) X.A (eval a X.env) (λv s₁=>wpAny (model X.prog X.w) X.A (eval b X.env) (λu s₂=>wpAny (model X.prog X.w) X.A (f v u) Q X.xe s₂) X.xe s₁) X.xe s:=by
 refine thn (ha pins s σ H _ I h) λv s1 ⟨x,H1,I1,r1,q1⟩=>?_
 refine thn (hb pins s1 σ H1 _ I1 q1) λu s2 ⟨y,H2,I2,r2,q2⟩=>?_
 exact hf v u s2 x y H2 I2 r1 r2 q2
theorem FR {op:Operator}{r:R2}(ho:OpR X (binaryOp op) r) (ha:PE X a ta) (hb:PE X b tb):PE X (.BinOp a op b pos) (tOp r ta tb):=by
 intro pins s σ H Q I h
 exact wpAny_BinOp (Ep ha hb I h λv u s2 x y H2 I2 rx ry q=>ho pins s2 σ H2 x y v u Q I2 rx ry q)
theorem FU {op:UnaryOp}{r:V->Hp->VK->Prop}(ho:UnR X (unaryOp op) r) (ha:PE X a ta):PE X (.UnaryOp op a pos) (tUn r ta):=by
 intro pins s σ H Q I h
 exact UnaryOp_ (thn (ha pins s σ H _ I h) λv s1 ⟨x,H1,I1,r1,q1⟩=>ho pins s1 σ H1 x v Q I1 r1 q1)
theorem opI {f:Value->Value->Sem Value}{C:Int->Int->Prop}{g:Int->Int->Int}
  (rule:∀(i j:Int) (t u:Tok) (s:Shared) (Q:Value->Shared->Prop) (E:Value->Shared->Prop),C i j->Q (.int (g i j) s.toks) { s with toks:=s.toks+1 }->wpAny (model X.prog X.w) X.A (f (.int i t) (.int j u)) Q E s) :
  OpR X f (rI C λi j=>.int (g i j)):=by
 intro pins s σ H x y v u Q I rx ry h
 obtain⟨i,j,rfl,rfl,hc,q⟩:=h
 obtain⟨t,rfl⟩:=rx
 obtain⟨t',rfl⟩:=ry
 exact rule i j t t' s _ _ hc ⟨.int (g i j),H,I.tok _,⟨_,rfl⟩,q⟩
theorem FV {f:Value->Value->Sem Value}{g:Int->Int->Int}
  (rule:∀(i j:Int) (t u:Tok) (s:Shared) (Q:Value->Shared->Prop) (E:Value->Shared->Prop),Q (.int (g i j) s.toks) { s with toks:=s.toks+1 }->wpAny (model X.prog X.w) X.A (f (.int i t) (.int j u)) Q E s) :
  OpR X f (rI0 λi j=>.int (g i j)):=by
 intro pins s σ H x y v u Q I rx ry h
 obtain⟨i,j,rfl,rfl,q⟩:=h
 obtain⟨t,rfl⟩:=rx
 obtain⟨t',rfl⟩:=ry
 exact rule i j t t' s _ _ ⟨.int (g i j),H,I.tok _,⟨_,rfl⟩,q⟩
theorem Er {f:Value->Value->Sem Value}{g:Int->Int->Bool}
  (rule:∀(i j:Int) (t u:Tok) (s:Shared) (Q:Value->Shared->Prop) (E:Value->Shared->Prop),Q (.bool (g i j)) s->wpAny (model X.prog X.w) X.A (f (.int i t) (.int j u)) Q E s) :
  OpR X f (rI0 λi j=>.bl (g i j)):=by
 intro pins s σ H x y v u Q I rx ry h
 obtain⟨i,j,rfl,rfl,q⟩:=h
 obtain⟨t,rfl⟩:=rx
 obtain⟨t',rfl⟩:=ry
 exact rule i j t t' s _ _ ⟨.bl (g i j),H,I,rfl,q⟩
def FW (i j:Int):Prop:=0<j/\j<1073741824
def BG (i j:Int):Prop:=(-(2 ^ 64)<i/\i<2 ^ 64)∨(-(2 ^ 64)<j/\j<2 ^ 64)
theorem BG.ok {i j:Int}(h:BG i j):IntMulOk i j:=by
 rcases h with ⟨h1,h2⟩|⟨h1,h2⟩
 ·exact .of_left (intBits_le_64 h1 h2)
 ·exact .of_right (intBits_le_64 h1 h2)
theorem Es:OpR X (binaryOp .Add) (rI0 λi j=>.int (i+j)):=FV λ_ _ _ _ _ _ _ q=>add_int q
theorem Et:OpR X (binaryOp .Sub) (rI0 λi j=>.int (i - j)):=FV λ_ _ _ _ _ _ _ q=>sub_int q
theorem Eu:OpR X (binaryOp .Mult) (rI BG λi j=>.int (i*j)):=opI λ_ _ _ _ _ _ _ hc q=>mul_int q hc.ok
theorem BH:OpR X (binaryOp .FloorDiv) (rI FW λi j=>.int (i / j)):=opI λi j _ _ _ _ _ hc q=>by
 have h1:(0:Int)<j:=hc.1
 have h2:j<1073741824:=hc.2
 exact floordiv_int (by omega) (by rw[Int.fdiv_eq_ediv_of_nonneg i (by omega)];exact q) (.inl (PyProof.noPylong_small (by omega)))
theorem Ew:OpR X (binaryOp .Mod) (rI (λ_ j=>0<j) λi j=>.int (i % j)):=opI λi j _ _ _ _ _ hc q=>by
 have h1:(0:Int)<j:=hc
 exact mod_int' (by omega) (by rw[Int.fmod_eq_emod_of_nonneg i (by omega)];exact q)
theorem unI {f:Value->Sem Value}{g:Int->Int}
  (rule:∀(i:Int) (t:Tok) (s:Shared) (Q:Value->Shared->Prop) (E:Value->Shared->Prop),Q (.int (g i) s.toks) { s with toks:=s.toks+1 }->wpAny (model X.prog X.w) X.A (f (.int i t)) Q E s) :
  UnR X f (rU λi=>.int (g i)):=by
 intro pins s σ H x v Q I rx h
 obtain⟨i,rfl,q⟩:=h
 obtain⟨t,rfl⟩:=rx
 exact rule i t s _ _ ⟨.int (g i),H,I.tok _,⟨_,rfl⟩,q⟩
theorem Ex:UnR X (unaryOp .USub) (rU λi=>.int (-i)):=unI λ_ _ _ _ _ q=>neg_int q
theorem yD:OpR X (binaryOp .Add) (λx y H Q=>∃i k,x=.int i/\y=.bl k/\Q (.int (i+b2i k)) H):=by
 intro pins s σ H x y v u Q I rx ry h
 obtain⟨i,k,rfl,rfl,q⟩:=h
 obtain⟨t,rfl⟩:=rx
 cases ry
 exact add_int_bool ⟨.int (i+b2i k),H,I.tok _,⟨_,rfl⟩,q⟩
end
section
variable {X:Cx}{a b c:Expr}{ta tb tc:TE}{pos:Pos}
theorem FX:OpR X (compareOp .Lt) (rI0 λi j=>.bl (decide (i<j))):=Er λ_ _ _ _ _ _ _ q=>lt_int q
theorem FY:OpR X (compareOp .LtE) (rI0 λi j=>.bl (decide (i<=j))):=Er λ_ _ _ _ _ _ _ q=>le_int q
theorem FZ:OpR X (compareOp .Gt) (rI0 λi j=>.bl (decide (j<i))):=Er λ_ _ _ _ _ _ _ q=>gt_int q
theorem OpR.or {f:Value->Value->Sem Value}{r r':R2}(h:OpR X f r) (h':OpR X f r'):OpR X f (λx y H Q=>r x y H Q∨r' x y H Q):=by
 intro pins s σ H x y v u Q I rx ry q
 rcases q with q|q
 ·exact h pins s σ H x y v u Q I rx ry q
 ·exact h' pins s σ H x y v u Q I rx ry q
theorem Hf (b:Expr) {op:CmpOp}(h:op≠.In:=by decide) (h2:op≠.NotIn:=by decide):behindInMarks op b=false:=by
 have e1:(op == CmpOp.In)=false:=by cases op<;>first|rfl|exact absurd rfl h
 have e2:(op == CmpOp.NotIn)=false:=by cases op<;>first|rfl|exact absurd rfl h2
 cases b<;>simp[behindInMarks,e1,e2]
theorem BI {op:CmpOp}{r:R2}(ho:OpR X (compareOp op) r) (ha:PE X a ta) (hb:PE X b tb) (hm:behindInMarks op b=false):PE X (.Compare a [op] [b] pos) (tOp r ta tb):=by
 intro pins s σ H Q I h
 exact wpAny_Compare1 (Ep ha hb I h λv u s2 x y H2 I2 rx ry q=>ho pins s2 σ H2 x y v u Q I2 rx ry q) hm
def Ga (t:TE):TT:=λσ H Q=>t σ H λx H'=>∃k,x=.bl k/\Q k H'
theorem BJ {op:CmpOp}{r:R2}(ho:OpR X (compareOp op) r) (ha:PE X a ta) (hb:PE X b tb) (hm:behindInMarks op b=false):PT X (.Compare a [op] [b] pos) (Ga (tOp r ta tb)):=by
 intro pins s σ H Q I h
 refine wpAny_isTrue_Compare1 (thn (ha pins s σ H _ I h) λv s1 ⟨x,H1,I1,r1,q1⟩=>thn (hb pins s1 σ H1 _ I1 q1) λu s2 ⟨y,H2,I2,r2,q2⟩ =>
  thn (ho pins s2 σ H2 x y v u _ I2 r1 r2 q2) λc s3 ⟨z,H3,I3,r3,k,e,q3⟩=>?_) hm
 subst e
 cases r3
 exact wpAny_truthy_bool ⟨H3,I3,q3⟩
def zP (r r':R2) (ta tb tc:TE):TE:=λσ H Q=>ta σ H λx H1=>tb σ H1 λy H2=>r x y H2 λz H3=>∃k,z=.bl k /\
 (if k=true then tc σ H3 λw' H4=>r' y w' H4 Q else Q (.bl false) H3)
theorem zQ {op op':CmpOp}{r r':R2}(ho:OpR X (compareOp op) r) (ho':OpR X (compareOp op') r') (ha:PE X a ta) (hb:PE X b tb) (hc:PE X c tc)
  (hm:lastMarks [op,op'] [b,c]=false:=by with_unfolding_all rfl):PE X (.Compare a [op,op'] [b,c] pos) (zP r r' ta tb tc):=by
 intro pins s σ H Q I h
 refine Compare_chain (thn (ha pins s σ H _ I h) λv s1 ⟨x,H1,I1,r1,q1⟩=>chain_link (thn (hb pins s1 σ H1 _ I1 q1) λu s2 ⟨y,H2,I2,r2,q2⟩ =>
  thn (ho pins s2 σ H2 x y v u _ I2 r1 r2 q2) λd s3 ⟨z,H3,I3,r3,k,e,q3⟩=>?_)) hm
 subst e
 cases r3
 refine wpAny_truthy_bool ?_
 cases k with
 | false=>exact ite_ff ⟨.bl false,H3,I3,rfl,q3⟩
 | true=>exact ite_tt (chain_last (thn (hc pins s3 σ H3 _ I3 q3) λw' s4 ⟨z',H4,I4,r4,q4⟩=>ho' pins s4 σ H4 y z' u w' Q I4 r2 r4 q4))
theorem mE:(sizeLine:Nat)<2 ^ 63:=by rw[sizeLine_eq];decide
theorem vR:OpR X (binaryOp .Add) (λx y H Q=>∃i j,x=.str i/\y=.str j/\i.length+j.length<=sizeLine/\Q (.str (i++j)) H):=by
 intro pins s σ H x y v u Q I rx ry h
 obtain⟨i,j,rfl,rfl,hz,q⟩:=h
 obtain⟨t,rfl⟩:=rx
 obtain⟨t',rfl⟩:=ry
 exact add_str (λt' tk=>⟨.str (i++j),H,I.tok _,⟨_,rfl⟩,q⟩) hz
theorem jz {x:V}{us:List Value}(r:aP [x] us):∃u,us=[u]/\aN x u:=by
 cases r with
 | cons r1 r2=>cases r2;exact⟨_,rfl,r1⟩
theorem Gb {x y:V}{us:List Value}(r:aP [x,y] us):∃u w',us=[u,w']/\aN x u/\aN y w':=by
 cases r with
 | cons r1 r2 =>
  cases r2 with
  | cons r3 r4=>cases r4;exact⟨_,_,rfl,r1,r3⟩
theorem yE (hc:X.calm=true):cf X (.builtin "min") (λxs H Q=>∃i j,xs=[.int i,.int j]/\Q (.int (if j<i then j else i)) H):=by
 intro pins s σ H xs us Q I r h
 obtain⟨i,j,rfl,q⟩:=h
 obtain⟨u,w',rfl,⟨t,rfl⟩,⟨t',rfl⟩⟩:=Gb r
 refine min_two_ints (I.ok.hd hc) λh' tk k=>⟨_,H,I.kept k, ?_,q⟩
 by_cases hj:j<i
 ·rw[if_pos hj,if_pos hj];exact⟨_,rfl⟩
 ·rw[if_neg hj,if_neg hj];exact⟨_,rfl⟩
end
structure ObjM (h:Heap) (x dx C:Addr) (mA:Str->Option Value):Prop where
 obj:h.get? x=some (PySem.W.instObj C dx)
 ns:h.Ns1 dx mA
 ne:dx≠x
theorem yF {h:Heap}{dx:Addr}{mA:Str->Option Value}(n:h.Ns1 dx mA):∃od,h.get? dx=some od/\∀name,PySem.W.lookIn name od=some (mA name):=by
 obtain⟨o,es,ep,ho,hd,hk,_,hm⟩:=n
 refine⟨o,ho,λname=>?_⟩
 have e:=hm name
 unfold nsFind findBy at e
 rw[←Array.find?_toList]at e
 unfold PySem.W.lookIn
 rw[hd]
 dsimp only
 split
 ·rename_i y q
  rw[q]at e
  exact congrArg some e
 ·rename_i q
  rw[q]at e
  have a:es.toList.any (·.refKey)=false:=by
   rw[List.any_eq_false]
   intro y hy
   obtain⟨z,t,hkey⟩:=hk y (Array.mem_toList_iff.mp hy)
   simp[DictEntry.refKey,hkey]
  have a':¬es.toList.any (·.refKey)=true:=by rw[a];exact Bool.false_ne_true
  rw[if_neg a']
  exact congrArg some e
theorem ObjM.look {h:Heap}{x dx C:Addr}{mA:Str->Option Value}(I:ObjM h x dx C mA):∃od,PySem.W.InstAt h x (PySem.W.instObj C dx) C (some od)/\∀name,PySem.W.lookIn name od=some (mA name) :=
 let ⟨od,ho,hl⟩:=yF I.ns
 ⟨od,⟨I.obj,rfl,rfl,ho⟩,hl⟩
section
variable {prog:Program}{w:World}{A:Around}{E:Value->Shared->Prop}{s:Shared}{K:PySem.W.Frag}{x dx C f:Addr}{mA:Str->Option Value}{name:Str}{v:Value}
theorem zR {pl:Sem Bool}{Q:Value×List Value->Shared->Prop}(X:K.In s.heap) (I:ObjM s.heap x dx C mA) (hg:PySem.W.plainGet K C name=true)
  (hf:PySem.W.findIn K (.ref C) name=some (some (.ref f))) (ht:PySem.W.isFn K (.ref f)=true) (hv:mA name=none) (h:Q (.ref f,[.ref x]) s) :
  wpAny (model prog w) A (getMethod (.ref x) name pl) Q E s:=by
 obtain⟨od,J,hl⟩:=I.look
 exact PySem.W.method_fn X J (PySem.W.plainGet_of hg).1 (PySem.W.plainGet_of hg).2 hf (beq_iff_eq.mp ht) (by show(PySem.W.lookIn name od).map (·.isSome)=some false;rw[hl,hv];rfl) h
theorem Gc {R:Result->Shared->Prop}{vs:List Value}{kw:List (Str×Value)}(X:K.In s.heap) (hm:PySem.W.makesIn K C=true)
  (hi:PySem.W.findIn K (.ref C) "__init__" = some (some (.ref f))) (hf:PySem.W.typeIn K (.ref f)=some (.type "function"))
  (h:codeAny (model prog w) (A.under (.builtin "type.__call__" ⟨.ref C::vs,kw⟩)) (.call (.ref f) ⟨.ref (s.heap.objs.size+1)::vs,kw⟩) (PySem.W.InitBack (s.heap.objs.size+1) R)
   { s with heap:=(s.heap.push PySem.W.emptyDict).push (PySem.W.instObj C s.heap.objs.size) }) :
  codeAny (model prog w) A (.call (.ref C) ⟨vs,kw⟩) R s:=by
 obtain⟨hh,g,d,t,os⟩:=s
 exact PySem.W.make_core (PySem.W.makes_of X hm) (PySem.W.looks_findIn X hi) (λself=>PySem.W.bind_fn X self hf) (.inl rfl) h
end
theorem iB.some_of {v:V}{o:Option Value}(r:iB (some v) o):∃u,o=some u/\aN v u:=by
 cases o with
 | none=>exact(show False from r).elim
 | some u=>exact⟨u,rfl,r⟩
theorem iB.none_of {o:Option Value}(r:iB none o):o=none:=by
 cases o with
 | none=>rfl
 | some u=>exact(show False from r).elim
section
variable {P:Program}{w:World}{H H':Hp}{h h':Heap}{a C dx:Addr}{fs fs':List (Str×V)}
theorem BK (hok:HOk P w H h) (e:H a=some (.ins C dx fs)):∃mA,ObjM h a dx C mA/\(∀f,iB (fs.lookup f) (mA f))/\PySem.Within mA (fs.map (·.1))/\fs.length<=1000/\H dx=some (.own a):=by
 obtain⟨d,z,ne,ob,mA,n,r,q⟩:=(show bH P w H h a (.ins C dx fs)from hok a _ e)
 exact⟨mA,⟨ob,n,ne⟩,r,q,z,d⟩
end
structure Cls (K:PySem.W.Frag) (C:Addr):Prop where
 pg:PySem.W.plainGet K C Str.empty=true
 hd:PySem.W.hasDictIn K C=true
 po:PySem.W.plainOver K C=true
 sa:PySem.W.findIn K (.ref C) "__setattr__" = some (some (.builtin "object.__setattr__"))
theorem Cls.get {K:PySem.W.Frag}{C:Addr}(c:Cls K C) (f:Str):PySem.W.plainGet K C f=true:=c.pg
def Ey (K:PySem.W.Frag) (C:Addr) (f:Str):Prop:=PySem.W.findIn K (.ref C) f=some none
structure Meth (K:PySem.W.Frag) (C:Addr) (m:Str) (f:Addr):Prop where
 at_:PySem.W.findIn K (.ref C) m=some (some (.ref f))
 fn:PySem.W.isFn K (.ref f)=true
 kp:PySem.W.keepIn K (.ref f)=true
section
variable {X:Cx}{pins:List (Addr×Obj)}{σ:St}{H:Hp}{s:Shared}{a C dx:Addr}{fs:List (Str×V)}{f:Str}{v:V}{A:Around}{E:Value->Shared->Prop}
theorem vS {m:Str}{g:Addr}{pl:Sem Bool}{Q:Value×List Value->Shared->Prop}(I:Inv X pins σ H s) (e:H a=some (.ins C dx fs)) (c:Cls X.K C) (k:Meth X.K C m g) (l:fs.lookup m=none)
  (h:Q (.ref g,[.ref a]) s):wpAny (model X.prog X.w) A (getMethod (.ref a) m pl) Q E s:=by
 obtain⟨mA,O,r,_,_,_⟩:=BK I.hok e
 have hn:mA m=none:=iB.none_of (by rw[←l];exact r m)
 exact zR I.kIn O (c.get m) k.at_ k.fn hn h
theorem Inv.made (I:Inv X pins σ H s):Inv X pins σ (upd (upd H s.heap.objs.size (.own (s.heap.objs.size+1))) (s.heap.objs.size+1) (.ins C s.heap.objs.size []))
  { s with heap:=(s.heap.push PySem.W.emptyDict).push (PySem.W.instObj C s.heap.objs.size) }:=by
 have e1:(s.heap.push PySem.W.emptyDict).get? s.heap.objs.size=some PySem.W.emptyDict:=Heap.get?_push_size s.heap rfl
 have e2:((s.heap.push PySem.W.emptyDict).push (PySem.W.instObj C s.heap.objs.size)).get? (s.heap.objs.size+1)=some (PySem.W.instObj C s.heap.objs.size):=by
  have:=Heap.get?_push_size (s.heap.push PySem.W.emptyDict) (o:=PySem.W.instObj C s.heap.objs.size) rfl
  rwa [Heap.size_push]at this
 have e3:(s.heap.push PySem.W.emptyDict).Ns s.heap.objs.size (λ_=>none):=⟨PySem.W.emptyDict,#[],_,e1,rfl,(λe he=>absurd he (by simp)),λ_=>rfl⟩
 have I1:=I.laid (a:=s.heap.objs.size) (o:=.own (s.heap.objs.size+1)) (h':=s.heap.push PySem.W.emptyDict) (t':=s.toks) (λb u q=>Heap.get?_push_of_some _ q) (Nat.le_refl _) ⟨_,e1⟩
 refine I1.laid (a:=s.heap.objs.size+1) (o:=.ins C s.heap.objs.size []) (t':=s.toks) (λb u q=>Heap.get?_push_of_some _ q) (Nat.le_of_eq (Heap.size_push _ _)) ?_
 have ne:s.heap.objs.size≠s.heap.objs.size+1:=Nat.ne_of_lt (Nat.lt_succ_self _)
 refine⟨by rw[a9 ne,aB],Nat.zero_le _,ne,e2,λ_=>none,(Heap.Ns1.of_empty e3).at λo q=>Heap.get?_push_of_some _ q,λ_=>True.intro,λy hy=>absurd rfl hy⟩
end
def HP (K:PySem.W.Frag) (ta:TE) (f:Str):TE:=λσ H Q=>ta σ H λx H1=>∃a C dx fs v,x=.ref a/\H1 a=some (.ins C dx fs)/\Cls K C/\Ey K C f/\fs.lookup f=some v/\Q v H1
section
variable {X:Cx}{o e value:Expr}{f:Str}{pos pos' tpos:Pos}{ta tv:TE}
theorem Du {pl:Sem Bool}{m:Str}{apos:Pos}{args:List Expr}{pins:List (Addr×Obj)}{s:Shared}{σ:St}{H:Hp}{Q:Value->Shared->Prop}{te:TE}(he:PE X e te) (I:Inv X pins σ H s)
  (h:te σ H λx H1=>∃a C dx fs g,x=.ref a/\H1 a=some (.ins C dx fs)/\Cls X.K C/\Meth X.K C m g/\fs.lookup m=none /\
   ∀s1,Inv X pins σ H1 s1->wpAny (model X.prog X.w) X.A (callWith pos (.ref g) [.ref a] (backTo pos (starEach args X.env)) (backToKw pos (keywordEach [] X.env))) Q X.xe s1)
  (ht:eval (.Call (.Attribute e m apos) args [] pos) X.env=(do
   let ov ←eval e X.env
   standAt apos.atName
   let (f,first) ←holding [ov] (getMethod ov m pl)
   callWith pos f first (backTo pos (starEach args X.env)) (backToKw pos (keywordEach [] X.env)))) :
  wpAny (model X.prog X.w) X.A (eval (.Call (.Attribute e m apos) args [] pos) X.env) Q X.xe s:=by
 refine PySem.W.methodCall_KW (pl:=pl) (thn (he pins s σ H _ I h) λu s1 ⟨x,H1,I1,rx,a,C,dx,fs,g,ex,ea,c,k,l,q⟩=>?_) ht
 subst ex
 obtain rfl:u=Value.ref a:=rx
 exact vS I1 ea c k l (q s1 I1)
end
section
variable {X:Cx}{pins:List (Addr×Obj)}{σ:St}{H:Hp}{s:Shared}{A:Around}{E:Value->Shared->Prop}{Q:Value->Shared->Prop}{c:Value}{b:Bool}
inductive TyOf (K:PySem.W.Frag) (H:Hp):V->Value->Prop where
 | non:TyOf K H .non (.type "NoneType")
 | bl (x:Bool):TyOf K H (.bl x) (.type "bool")
 | int (i:Int):TyOf K H (.int i) (.type "int")
 | str (x:Str):TyOf K H (.str x) (.type "str")
 | flt (x:UInt64):TyOf K H (.flt x) (.type "float")
 | lst {a:Addr}{xs:List V}(e:H a=some (.lst xs)):TyOf K H (.ref a) (.type "list")
 | frz {a:Addr}{o:Obj}{xs:List V}(e:H a=some (.frz o (.lst xs))):TyOf K H (.ref a) (.type "list")
 | tup {a:Addr}{xs:List V}(e:H a=some (.tup xs)):TyOf K H (.ref a) (.type "tuple")
 | dK {a:Addr}{kvs:List (Key×V)}(e:H a=some (.dK kvs)):TyOf K H (.ref a) (.type "dict")
 | dT {a:Addr}{kvs:List (List Key×V)}(e:H a=some (.dT kvs)):TyOf K H (.ref a) (.type "dict")
 | ins {a C dx:Addr}{fs:List (Str×V)}(e:H a=some (.ins C dx fs)) (cl:Cls K C) (ha:PySem.W.findIn K (.ref C) "__class__" = some (some (.builtin "object.__class__")))
   (hn:PySem.W.specialIn K (.builtin "object.__class__") "__get__" = some (some (.builtin "getset_descriptor.__get__"))) (htk:PySem.W.takesIn K (.builtin "object.__class__")=some true)
   (hm:PySem.W.mroIn K C (.type "object")=some true):TyOf K H (.ref a) (.ref C)
end
structure Room (k:Nat) (A:Around):Prop where
 hd:A.handled=none
 dp:A.depth+3*k+5<recursionLimit
 un:A.units+16*k+200<cLine
theorem Room.mono {j k:Nat}{A:Around}(r:Room k A) (h:j<=k):Room j A:=⟨r.hd,by have:=r.dp;omega,by have:=r.un;omega⟩
theorem Room.deeper {k:Nat}{A:Around}(r:Room (k+1) A) (env:Env):Room k (A.deeper env) :=
 ⟨r.hd,by have:=r.dp;show A.depth+1+3*k+5<_;omega,by have:=r.un;show A.units+3+16*k+200<_;omega⟩
theorem Room.in1 {k:Nat}{A:Around}(r:Room (k+1) A):Room k A.in1 :=
 ⟨r.hd,by have:=r.dp;show A.depth+3*k+5<_;omega,by have:=r.un;show A.units+1+16*k+200<_;omega⟩
theorem Room.depth {k:Nat}{A:Around}(r:Room k A):A.depth<recursionLimit:=by have:=r.dp;omega
def Gd:TA:=λ_ H Q=>Q [] H
def Dv (ta:TE) (tr:TA):TA:=λσ H Q=>ta σ H λx H1=>tr σ H1 λxs H2=>Q (x::xs) H2
section
variable {X:Cx}{e:Expr}{es:List Expr}{te:TE}{t:TA}{pos:Pos}
theorem iU:PA X [] Gd:=λ_ _ _ _ H Q I h=>Calls.spliced_nil ⟨[],H,I,.nil,h⟩
theorem ga (ha:PE X e te) (hr:PA X es t) (hs:starEach (e::es) X.env=(false,eval e X.env)::starEach es X.env:=by rfl):PA X (e::es) (Dv te t):=by
 intro pos pins s σ H Q I h
 rw[hs]
 show wpAny _ _ (spliced ((false,eval e X.env)::backTo pos (starEach es X.env))) _ _ s
 refine Calls.spliced_cons (thn (ha pins s σ H _ I h) λu s1 ⟨x,H1,I1,r1,q1⟩=>?_)
 exact thn (hr pos pins s1 σ H1 _ I1 q1) λus s2 ⟨xs,H2,I2,r2,q2⟩=>⟨x::xs,H2,I2,.cons r1 r2,q2⟩
def Ge (t:TA):TE:=λσ H Q=>t σ H λxs H1=>xs.length<=sizeLine/\∀p,H1 p=none->Q (.ref p) (upd H1 p (.tup xs))
def Hg (t:TA):TE:=λσ H Q=>t σ H λxs H1=>xs.length<=sizeLine/\∀p,H1 p=none->Q (.ref p) (upd H1 p (.lst xs))
theorem vT {x1} (h:PA X es t):PE X (.Tuple es x1 pos) (Ge t):=by
 intro pins s σ H Q I hq
 refine wpAny_Tuple_spliced (thn (h pos pins s σ H _ I hq) λus s1 ⟨xs,H1,I1,r,z,q⟩=>⟨by rw[←r.length];exact z, ?_⟩)
 have hf:H1 s1.heap.objs.size=none:=I1.hok.fresh (Nat.le_refl _)
 refine⟨.ref s1.heap.objs.size,upd H1 s1.heap.objs.size (.tup xs),I1.laid (t':=s1.toks) (λb u e=>Heap.get?_push_of_some _ e) (Nat.le_refl _) ?_,rfl,q _ hf⟩
 exact⟨z,us,r,⟨_,Heap.get?_push_size _ rfl,rfl,_,rfl⟩⟩
theorem Ez (h:PA X es t):PE X (.List es pos) (Hg t):=by
 intro pins s σ H Q I hq
 refine wpAny_List_spliced (thn (h pos pins s σ H _ I hq) λus s1 ⟨xs,H1,I1,r,z,q⟩=>⟨by rw[←r.length];exact z, ?_⟩)
 have hf:H1 s1.heap.objs.size=none:=I1.hok.fresh (Nat.le_refl _)
 refine⟨.ref s1.heap.objs.size,upd H1 s1.heap.objs.size (.lst xs),I1.laid (t':=s1.toks) (λb u e=>Heap.get?_push_of_some _ e) (Nat.le_refl _) ?_,rfl,q _ hf⟩
 exact⟨z,us,0,r,Heap.get?_push_size _ rfl⟩
end
abbrev Sp:=List V->Hp->VK->XK->Prop
abbrev CXT:=List Env->Hp->Shared->XK->Value->Shared->Prop
structure Env0 (P:Program) (w:World) (K:PySem.W.Frag) (mg:Str->Option Value) (base:Heap) (A:Around) (outer:List Env) (s:Shared) (H:Hp):Prop where
 frames:A.frames=some outer
 mod:Mod K mg base
 bs:∀b o,base.get? b=some o->s.heap.get? b=some o/\H b=none
 bsz:base.objs.size<=s.heap.objs.size
 funs:s.heap.FunFrames base outer
 frf:∀b∈frs outer,H b=none
 hok:HOk P w H s.heap
 bare:AllBare s.gens
def CE (outer:List Env) (P:Program) (w:World) (H:Hp) (s:Shared) (Q:VK) (u:Value) (s':Shared):Prop :=
 ∃v H',s'.os=s.os/\AllBare s'.gens/\Un (frs outer) [] H H' s.heap s'.heap/\HOk P w H' s'.heap/\aN v u/\Q v H'
def CR (CX:CXT) (outer:List Env) (P:Program) (w:World) (H:Hp) (s:Shared) (Q:VK) (E:XK) (r:Result) (s':Shared):Prop :=
 match r with
 | .ok (.ret u)=>CE outer P w H s Q u s'
 | .ok _=>False
 | .error e=>CX outer H s E e s'
structure FnOk (P:Program) (w:World) (K:PySem.W.Frag) (mg:Str->Option Value) (base:Heap) (CX:CXT) (k:Nat) (f:Addr) (fd:FuncData) (ps:List Str) (sp:Sp):Prop where
 len:∀vs H Q E,sp vs H Q E->vs.length=ps.length
 run:∀(A:Around) (outer:List Env) (s:Shared) (H:Hp) (args:Args) (us:List Value) (vs:List V) (Q:VK) (E:XK),Room k A->Env0 P w K mg base A outer s H->BindsTo s fd args (ps.zip us)->aP vs us->sp vs H Q E ->
  codeAny (model P w) A (.call (.ref f) args) (CR CX outer P w H s Q E) s
section
variable {X:Cx}{pins:List (Addr×Obj)}{σ:St}{H:Hp}{s s':Shared}
theorem Inv.env0 (I:Inv X pins σ H s):Env0 X.prog X.w X.K X.mg X.base X.A X.stack s H :=
 ⟨I.ok.frames,I.ok.mod,I.bs,Nat.le_trans I.ok.bsz I.sz,I.stack,I.stkFree,I.hok,I.bare⟩
theorem Inv.after {Q:VK}{u:Value}(I:Inv X pins σ H s) (h:CE X.stack X.prog X.w H s Q u s'):EP X pins σ Q u s':=by
 obtain⟨v,H',os,bare,un,hok,r,q⟩:=h
 obtain⟨hh,g,d,t,os'⟩:=s'
 obtain rfl:os'=s.os:=os
 exact⟨v,H',I.call (h':=hh) (g':=g) (d':=d) (t':=t) (ch:=[]) un hok bare (λb z=>absurd z (by simp)),r,q⟩
end
def Gf (sp:Sp) (dvs:List V) (E:XK) (t:TA):TE:=λσ H Q=>t σ H λvs H1=>sp (vs++dvs) H1 Q E
def HD (C:Addr) (m:Str) (sp:Sp) (dvs:List V) (E:XK) (ta:TE) (t:TA):TE:=λσ H Q=>ta σ H λx H1=>∃a dx fs,x=.ref a/\H1 a=some (.ins C dx fs)/\fs.lookup m=none /\
 t σ H1 λvs H2=>sp (x::(vs++dvs)) H2 Q E
def HE (C:Addr) (sp:Sp) (dvs:List V) (E:XK) (t:TA):TE:=λσ H Q=>t σ H λvs H1=>∀x dx,H1 x=none->H1 dx=none->dx≠x ->
 sp (.ref x::(vs++dvs)) (upd (upd H1 dx (.own x)) x (.ins C dx [])) (λv H2=>v=.non/\Q (.ref x) H2) E
def p9 (K:PySem.W.Frag) (fd:FuncData) (ps:List Str) (ds:List Value):Prop :=
 ∀(s:Shared) (us:List Value),K.In s.heap->(us++ds).length=ps.length->BindsTo s fd ⟨us,[]⟩ (ps.zip (us++ds))
theorem p9.all {K:PySem.W.Frag}{fd:FuncData}{ps:List Str}(h:∀us:List Value,us.length=ps.length->bindArgs fd ⟨us,[]⟩=pure (ps.zip us)):p9 K fd ps []:=λs us _ hl=>by
 rw[List.append_nil]at hl ⊢
 exact .of_eq (h us hl)
def vU (CX:CXT) (X:Cx) (E:XK):Prop:=∀(pins:List (Addr×Obj)) (σ:St) (H:Hp) (s:Shared) (e:Value) (s':Shared),Inv X pins σ H s->CX X.stack H s E e s'->X.xe e s'
section
variable {X:Cx}{CX:CXT}{k:Nat}{f C:Addr}{fd:FuncData}{ps:List Str}{sp:Sp}{dvs:List V}{ds:List Value}{E:XK}{x m:Str}{p pos apos:Pos}{e o:Expr}{es:List Expr}{ta:TE}{t:TA}
theorem E1 {pins:List (Addr×Obj)}{σ:St}{H:Hp}{s:Shared}{Q:VK}{us:List Value}{vs:List V}(F:FnOk X.prog X.w X.K X.mg X.base CX k f fd ps sp) (hr:Room k X.A) (hb:p9 X.K fd ps ds) (hd:aP dvs ds) (hx:vU CX X E)
  (I:Inv X pins σ H s) (r:aP vs us) (h:sp (vs++dvs) H Q E):wpAny (model X.prog X.w) X.A (call (.ref f) us) (EP X pins σ Q) X.xe s:=by
 have r2:aP (vs++dvs) (us++ds):=r.append hd
 have hl:(us++ds).length=ps.length:=by rw[←r2.length];exact F.len _ _ _ _ h
 refine wpAny_call (codeAny_mono (F.run X.A X.stack s H ⟨us,[]⟩ (us++ds) (vs++dvs) Q E hr I.env0 (hb s us I.kIn hl) r2 h) λr s' hq=>?_)
 cases r with
 | error e=>exact hx pins σ H s e s' I hq
 | ok fl =>
  cases fl with
  | ret u=>exact I.after hq
  | next=>exact False.elim hq
  | brk=>exact False.elim hq
  | cont=>exact False.elim hq
theorem BL (F:FnOk X.prog X.w X.K X.mg X.base CX k f fd ps sp) (hr:Room k X.A) (hg:Gl X x) (hm:X.mg x=some (.ref f)) (hk:PySem.W.keepIn X.K (.ref f)=true) (hb:p9 X.K fd ps ds) (hd:aP dvs ds) (hx:vU CX X E)
  (ha:PA X (e::es) t) (hdb:(x == ("__debug__" : Str))=false:=by decide) (he:starEach (e::es) X.env=(false,eval e X.env)::starEach es X.env:=by rfl) (hpl:(backTo pos (starEach es X.env)).any (·.1)=false:=by rfl) :
  PE X (.Call (.Name x p) (e::es) [] pos) (Gf sp dvs E t):=by
 intro pins s σ H Q I h
 refine wpAny_Call_Name_kw (qY I hg hm ?_ hdb)
 refine PySem.W.callWith_K (h₀:=X.base) I.ok.mod.kin hk (thn (ha pos pins s σ H _ I h) λus s1 ⟨vs,H1,I1,r,q⟩=>⟨I1.kIn, ?_⟩) he hpl
 exact E1 F hr hb hd hx I1 r q
end
structure FnScope (N P:List Str) (sc:Scope):Prop where
 kind:sc.kind=.function
 co:sc.isCoroutine=false
 gen:sc.isGenerator=false
 nd:N.Nodup
 pre:N.take P.length=P
 par:∀x∈P,sc.names.lookup x=some .local∨sc.names.lookup x=some .cell
 nofree:∀y∈sc.names,y.2≠.free
theorem pA {kindOf:Str->Option NameKind}{x:Str}:∀ {binds:List (Str×Value)}{m:Str->Option Value},(∀v,(x,v)∉binds)->bindL kindOf binds m x=m x
 | [],_,_=>rfl
 | (n,v)::r,m,h=>by
  unfold bindL
  rw[pA λw hw=>h w (mZ _ hw)]
  split
  ·have:x≠n:=by rintro rfl;exact h v mX
   simp[this]
  ·rfl
theorem pB {kindOf:Str->Option NameKind}{x:Str}:∀ {binds:List (Str×Value)}{m:Str->Option Value},(∀v,(x,v)∉binds)->bindC kindOf binds m x=m x
 | [],_,_=>rfl
 | (n,v)::r,m,h=>by
  unfold bindC
  rw[pB λw hw=>h w (mZ _ hw)]
  split
  ·rfl
  ·have:x≠n:=by rintro rfl;exact h v mX
   simp[this]
theorem pC {kindOf:Str->Option NameKind}{x:Str}{v:Value}:∀ {P:List Str}{vs:List Value}{i:Nat}{m:Str->Option Value},P.Nodup->P[i]? = some x->vs[i]? = some v->kindOf x=some .local ->
  bindL kindOf (P.zip vs) m x=some v
 | [],_,_,_,_,h,_,_=>by simp at h
 | _::_,[],_,_,_,_,h,_=>by simp at h
 | p::P,w::vs,0,m,nd,h1,h2,hk=>by
  simp at h1 h2;subst h1;subst h2
  show bindL kindOf ((p,w)::P.zip vs) m p=_
  unfold bindL
  rw[pA λv hv=>(List.nodup_cons.mp nd).1 (List.of_mem_zip hv).1,if_pos hk]
  simp
 | p::P,w::vs,i+1,m,nd,h1,h2,hk=>by
  show bindL kindOf ((p,w)::P.zip vs) m x=_
  unfold bindL
  exact pC (i:=i) (List.nodup_cons.mp nd).2 (by simpa using h1) (by simpa using h2) hk
theorem pD {kindOf:Str->Option NameKind}{x:Str}{v:Value}:∀ {P:List Str}{vs:List Value}{i:Nat}{m:Str->Option Value},P.Nodup->P[i]? = some x->vs[i]? = some v->kindOf x≠some .local ->
  bindC kindOf (P.zip vs) m x=some v
 | [],_,_,_,_,h,_,_=>by simp at h
 | _::_,[],_,_,_,_,h,_=>by simp at h
 | p::P,w::vs,0,m,nd,h1,h2,hk=>by
  simp at h1 h2;subst h1;subst h2
  show bindC kindOf ((p,w)::P.zip vs) m p=_
  unfold bindC
  rw[pB λv hv=>(List.nodup_cons.mp nd).1 (List.of_mem_zip hv).1,if_neg hk]
  simp
 | p::P,w::vs,i+1,m,nd,h1,h2,hk=>by
  show bindC kindOf ((p,w)::P.zip vs) m x=_
  unfold bindC
  exact pD (i:=i) (List.nodup_cons.mp nd).2 (by simpa using h1) (by simpa using h2) hk
def gz (N:List Str) (vs:List V):St:=vs.map some++List.replicate (N.length - vs.length) none
def mF (CX:CXT) (P:Program) (w:World) (K:PySem.W.Frag) (mg:Str->Option Value) (base:Heap) (N:List Str) (qual:Str) (scope:Scope) (f:Addr) (cd:Value) (A:Around) (outer:List Env) (s:Shared) (H:Hp) (E:XK):Cx where
 prog:=P
 w:=w
 K:=K
 mg:=mg
 base:=base
 A:=A.deeper (envOfC qual scope s.heap.objs.size f cd)
 N:=N
 s₀:=s
 H₀:=H
 env:=envOfC qual scope s.heap.objs.size f cd
 outer:=outer
 stack:=envOfC qual scope s.heap.objs.size f cd::outer
 ex:=[]
 calm:=true
 fn:=λ_=>true
 pn:=[]
 xe:=λe s'=>wpAny (model P w) (A.deeper (envOfC qual scope s.heap.objs.size f cd)) (leaving (envOfC qual scope s.heap.objs.size f cd) e) (λ_ s''=>CX outer H s E e s'') (λe' s''=>CX outer H s E e' s'') s'
theorem tp {sc:Scope}{n:Nat}{x:Str}(h:sc.names.lookup x=some .cell):∃c,(cellsFrom n sc.names []).lookup x=some c:=by
 have q:=PySem.W.cellsFrom_some sc.names n [] (.inl h)
 exact Option.isSome_iff_exists.mp q
theorem yG {CX:CXT}{P:Program}{w:World}{K:PySem.W.Frag}{mg:Str->Option Value}{base:Heap}{N ps:List Str}{qual:Str}{scope:Scope}{f:Addr}{cd:Value}{A:Around}{outer:List Env}{s s1:Shared}{H:Hp}{E:XK}{us:List Value}{vs:List V}
  (S:FnScope N ps scope) (hd:A.handled=none) (e0:Env0 P w K mg base A outer s H) (hl:vs.length=ps.length) (r:aP vs us)
  (x:InCallC s s.heap.objs.size (bindL (envOfC qual scope s.heap.objs.size f cd).kindOf (ps.zip us) λ_=>none) (cellsFrom (s.heap.objs.size+1) scope.names []) (bindC (envOfC qual scope s.heap.objs.size f cd).kindOf (ps.zip us) λ_=>none) s1) :
  Inv (mF CX P w K mg base N qual scope f cd A outer s H E) [] (gz N vs) H s1:=by
 have hpl:ps.length<=N.length:=by have:=congrArg List.length S.pre;rw[List.length_take]at this;omega
 obtain⟨h1,tk,rfl,hk⟩:=x.done
 have noA:∀b:Addr,b∉(mF CX P w K mg base N qual scope f cd A outer s H E).ex:=λb z=>absurd (show b∈([]:List Addr)from z) (by simp)
 refine⟨⟨e0.mod,S.kind,rfl,rfl,Nat.le_refl _,λy z c h1 h2=>?_,λy hy=>?_,λy c _ h=>?_,λ_=>hd,Around.frames_deeper e0.frames,.inr ⟨rfl,rfl⟩,λb z=>absurd z (noA b),e0.bs,e0.bsz,λb _ _=>noA b,λb z=>absurd z (noA b),e0.funs,e0.frf⟩,
  rfl,e0.bare,Un.kept hk,⟨_,x.toInCall.ns,λi y v h1 h2 h3=>?_⟩,λy c h=>⟨_,x.cell y c h⟩,e0.hok.fresh (Nat.le_refl _),λy c h=>?_,λp hp=>absurd (show p∈([]:List (Addr×Obj))from hp) (by simp),e0.hok.kept hk, ?_⟩
 ·exact name_of_addr x.apart (PySem.mem_of_lookup h1) (PySem.mem_of_lookup h2)
 ·have hy:scope.names.lookup y=some .cell∨scope.names.lookup y=some .free:=hy
  rcases hy with hy|hy
  ·exact tp hy
  ·exact absurd rfl (S.nofree _ (PySem.mem_of_lookup hy))
 ·exact Nat.le_of_lt (x.above y c (PySem.mem_of_lookup h))
 ·have hi:i<vs.length:=by
   unfold gz at h2
   by_cases hi:i<vs.length
   ·exact hi
   ·rw[List.getElem?_append_right (by simpa using hi)]at h2
    rw[List.getElem?_replicate]at h2
    split at h2<;>cases h2
  have ha:vs[i]? = some v:=by
   unfold gz at h2
   rw[List.getElem?_append_left (by simpa using hi),List.getElem?_map]at h2
   cases e:vs[i]? with
   | none=>rw[e]at h2;cases h2
   | some a=>rw[e]at h2;cases h2;rfl
  obtain⟨u,hu,rv⟩:=r.get ha
  have hp:ps[i]? = some y:=by
   rw[←S.pre,List.getElem?_take_of_lt (by omega)];exact h1
  have ndP:ps.Nodup:=by rw[←S.pre];exact S.nd.sublist (List.take_sublist _ _)
  refine⟨u,rv, ?_⟩
  rcases S.par y (List.mem_of_getElem? hp)with k|k
  ·exact .inl ⟨k,pC ndP hp hu k⟩
  ·obtain⟨c,e⟩:=tp (n:=s.heap.objs.size+1) k
   refine .inr ⟨.inl k,c,e, ?_⟩
   have q:=x.cell y c e
   rw[pD ndP hp hu (by show scope.names.lookup y≠_;rw[k];decide)]at q
   exact q
 ·exact e0.hok.fresh (Nat.le_of_lt (x.above y c (PySem.mem_of_lookup h)))
 ·unfold gz
  show _=N.length
  rw[List.length_append,List.length_map,List.length_replicate]
  omega
theorem Dw {CX:CXT}{P:Program}{w:World}{K:PySem.W.Frag}{mg:Str->Option Value}{base:Heap}{k:Nat}{f:Addr}{name qual:Str}{params:Arguments}{body:List Stmt}{scope:Scope}{dV kV doc pm cdv ct oc:Value}{an od:Option Addr}
  {osl:Array (Option Value)}{N ps:List Str}{sp:Sp}(lk:K.lookup f=some ⟨oc,od,.func (PySem.W.fnOf name qual params body scope dV kV doc pm an cdv ct),osl⟩) (hcd:PySem.W.codeIn K cdv qual=true) (S:FnScope N ps scope)
  (len:∀vs H Q E,sp vs H Q E->vs.length=ps.length)
  (hbody:∀(A:Around) (outer:List Env) (s:Shared) (H:Hp) (vs:List V) (Q:VK) (E:XK),Room k (A.deeper (envOfC qual scope s.heap.objs.size f cdv))->sp vs H Q E ->
   ∃t,PSs (mF CX P w K mg base N qual scope f cdv A outer s H E) body t/\t { nx:=λ_ H'=>Q .non H',rt:=Q } (gz N vs) H) :
  FnOk P w K mg base CX (k+1) f (PySem.W.fnOf name qual params body scope dV kV doc pm an cdv ct) ps sp:=by
 refine⟨len,λA outer s H args us vs Q E hr e0 hb r hsp=>?_⟩
 have hl:=len _ _ _ _ hsp
 have KX:K.In s.heap:=e0.mod.kin.keeps λb o e=>(e0.bs b o e).1
 have lim:s.heap.NoLimit:=e0.mod.nolimit.keeps λb o e=>(e0.bs b o e).1
 have hkind:∀y∈ps.zip us,scope.names.lookup y.1=some .local∨(scope.names.lookup y.1=some .cell/\((cellsFrom (s.heap.objs.size+1) scope.names []).lookup y.1).isSome=true):=λ⟨n,v⟩ hy=>by
  rcases S.par n (List.of_mem_zip hy).1 with q|q
  ·exact .inl q
  ·exact .inr ⟨q,PySem.W.cellsFrom_some _ _ _ (.inl q)⟩
 refine codeAny_call_function hr.depth (KX _ _ lk) rfl S.co S.gen rfl (PySem.W.codeRec_of KX hcd) (hb _ _ _ _ ?_)
 refine wpAny_newFunctionEnv_cells S.kind hkind λenv he s1 x=>?_
 subst he
 refine⟨lim.keeps x.toInCall.keep,codeAny_func ?_⟩
 obtain⟨t,ht,hq⟩:=hbody A outer s H vs Q E (hr.deeper _) hsp
 have I:Inv (mF CX P w K mg base N qual scope f cdv A outer s H E) [] (gz N vs) H s1:=yG S hr.hd e0 hl r x
 refine wpAny_mono (ht [] s1 (gz N vs) H _ I hq) (λfl s' hs=>?_) λe s' hs=>hs
 have fin:∀ {σ':St}{H':Hp}{v:V}{u:Value},Inv (mF CX P w K mg base N qual scope f cdv A outer s H E) [] σ' H' s'->aN v u->Q v H'->CE outer P w H s Q u s' :=
  λ{σ' H' v u} J rv q=>⟨v,H',J.os,J.bare,J.base,J.hok,rv,q⟩
 cases fl with
 | ret u =>
  obtain⟨v,σ',H',J,rv,q⟩:=hs
  exact fin J rv q
 | next =>
  obtain⟨σ',H',J,q⟩:=hs
  exact fin (v:=V.non) (u:=Value.none) J rfl q
 | brk =>
  obtain⟨_,_,_,q⟩:=hs
  exact False.elim q
 | cont =>
  obtain⟨_,_,_,q⟩:=hs
  exact False.elim q
section
variable {X:Cx}{x:Str}{p pos:Pos}{e:Expr}{es:List Expr}{t:TA}{id T:String}{r:List V->Hp->VK->Prop}
def tCB (r:List V->Hp->VK->Prop) (t:TA):TE:=λσ H Q=>t σ H λvs H1=>r vs H1 Q
theorem tq (hc:cf X (.builtin id) r) (hg:Gl X x) (hm:X.mg x=none) (hv:bootBuiltins x=some (.builtin id)) (ha:PA X (e::es) t) (hn:x ≠ "__name__":=by decide) (hdb:(x == ("__debug__" : Str))=false:=by decide)
  (he:starEach (e::es) X.env=(false,eval e X.env)::starEach es X.env:=by rfl) (hpl:(backTo pos (starEach es X.env)).any (·.1)=false:=by rfl):PE X (.Call (.Name x p) (e::es) [] pos) (tCB r t):=by
 intro pins s σ H Q I h
 refine wpAny_Call_Name_kw (iT I hg hm hv ?_ hn hdb)
 exact PyProof.Rows.callWith_builtin1 (thn (ha pos pins s σ H _ I h) λus s1 ⟨vs,H1,I1,r1,q1⟩=>hc pins s1 σ H1 vs us Q I1 r1 q1) he hpl
theorem pE (hc:cf X (.type T) r) (hg:Gl X x) (hm:X.mg x=none) (hv:bootBuiltins x=some (.type T)) (ha:PA X (e::es) t) (hn:x ≠ "__name__":=by decide) (hdb:(x == ("__debug__" : Str))=false:=by decide)
  (he:starEach (e::es) X.env=(false,eval e X.env)::starEach es X.env:=by rfl) (hpl:(backTo pos (starEach es X.env)).any (·.1)=false:=by rfl):PE X (.Call (.Name x p) (e::es) [] pos) (tCB r t):=by
 intro pins s σ H Q I h
 refine wpAny_Call_Name_kw (iT I hg hm hv ?_ hn hdb)
 exact PyProof.Rows.callWith_type1 (thn (ha pos pins s σ H _ I h) λus s1 ⟨vs,H1,I1,r1,q1⟩=>hc pins s1 σ H1 vs us Q I1 r1 q1) he hpl
end
end L2
namespace HT
open PySem PyProof.Rows
section
open PySem.SeqAt
open PySem.AutoSeq1 (wpAny_loadPart')
open PySem.MeetsSeq PySem.MeetsSeq2 PySem.MeetsSeq3
end
section
variable {prog:Program}{w:World}{A:Around}{E:Value->Shared->Prop}{s:Shared}
theorem BM {t b:Addr}{vs ws:List Value}{Q:Value->Shared->Prop}(ht:IsTup s.heap t vs.toArray) (hb:IsTup s.heap b ws.toArray) (hv:vs≠[])
  (h1:ws=[]->Q (.ref t) s) (h2:ws≠[]->Q (.ref s.heap.objs.size) { s with heap:=s.heap.push { cls:=.type "tuple",data:=.seq (vs++ws).toArray } })
  (hsz:vs.length+ws.length<=sizeLine):wpAny (model prog w) A (binaryOp .Add (.ref t) (.ref b)) Q E s:=by
 obtain⟨⟨cls,dd,data,sl⟩,ho,hc,n,hd⟩:=id ht
 obtain⟨⟨cls2,dd2,data2,sl2⟩,ho2,hc2,n2,hd2⟩:=id hb
 simp only at hc hd hc2 hd2
 subst hc hd hc2 hd2
 have e:vs.toArray++ws.toArray=(vs++ws).toArray:=by simp
 by_cases hw:ws=[]
 ·exact concat_meets ⟨_,ho,rfl⟩ ⟨_,ho2,rfl⟩ noFill_tuple_add seq_tuple_add PySem.F.slot_tuple_add PySem.F.entry_tuple_add (PySem.F.args_tuple_add_2 _ _)
   (tuple_addW1 t b vs.toArray ws.toArray n n2 dd dd2 sl sl2 (by simpa using hv) (by simp[hw])) ⟨ho,ho2,h1 hw⟩
 ·refine concat_meets ⟨_,ho,rfl⟩ ⟨_,ho2,rfl⟩ noFill_tuple_add seq_tuple_add PySem.F.slot_tuple_add PySem.F.entry_tuple_add (PySem.F.args_tuple_add_2 _ _)
   (tuple_addW2 t b vs.toArray ws.toArray n n2 dd dd2 sl sl2 (by simpa using hv) (by simpa using hw) (by rw[List.size_toArray,List.size_toArray];exact hsz)) ⟨ho,ho2, ?_⟩
  rw[e]
  exact h2 hw
def sIx (n d:Nat):Option Int->Nat
 | none=>d
 | some v=>if v<0 then (v+(n:Int)).toNat else min v.toNat n
theorem E2 (n d:Nat) (hd:d<=n) (o:Option Int):sIx n d o<=n:=by
 cases o with
 | none=>exact hd
 | some v =>
  show(if v<0 then (v+(n:Int)).toNat else min v.toNat n)<=n
  by_cases hv:v<0
  ·rw[if_pos hv];omega
  ·rw[if_neg hv];exact Nat.min_le_right _ _
theorem xq (v:Int) (n d:Nat):(if v<0 then max (v+(n:Int)) 0 else min v (n:Int))=((sIx n d (some v):Nat):Int):=by
 show(if v<0 then max (v+(n:Int)) 0 else min v (n:Int))=(((if v<0 then (v+(n:Int)).toNat else min v.toNat n):Nat):Int)
 by_cases hv:v<0
 ·simp only[if_pos hv];omega
 ·simp only[if_neg hv];omega
theorem vV (lo hi:Option Int) (n:Nat):Builtin.Slice.sliceAdjust lo hi 1 (n:Int)=(((sIx n 0 lo:Nat):Int),((sIx n n hi:Nat):Int)):=by
 have h1:¬((1:Int)<0):=by omega
 unfold Builtin.Slice.sliceAdjust
 simp only[h1,if_false]
 refine Prod.ext ?_ ?_
 ·cases lo with
  | none=>rfl
  | some v=>exact xq v n 0
 ·cases hi with
  | none=>rfl
  | some v=>exact xq v n n
theorem vW (i j:Nat):Builtin.Slice.slicePlaces (i:Int) (j:Int) 1=j - i:=by
 unfold Builtin.Slice.slicePlaces
 have h1:(1:Int) > 0:=by omega
 simp only[h1,if_true,Int.ediv_one]
 split<;>omega
theorem mG {v:Value}{o:Option Int}{Q:Option Int->Shared->Prop}(p:IsPart v o) (h:Q o s):wpAny (model prog w) A (Builtin.Slice.slicePartIndex v) Q E s:=by
 cases p with
 | none=>exact slicePart_none h
 | int i t=>exact slicePart_int h
theorem fG {sl:Addr}{vl vu:Value}{lo hi:Option Int}{n:Nat}{Q:Int×Int×Nat->Shared->Prop}(hs:s.heap.IsSliceOf sl vl vu .none) (pl:IsPart vl lo) (pu:IsPart vu hi)
  (h:Q (((sIx n 0 lo:Nat):Int),1,sIx n n hi - sIx n 0 lo) s):wpAny (model prog w) A (Builtin.Slice.sliceApplied (.ref sl) (pure (n:Int))) Q E s:=by
 obtain⟨os,hos,hcs,hds⟩:=id hs
 unfold Builtin.Slice.sliceApplied Builtin.Slice.sliceFields
 refine wX (wX (wpAny_field hos hds (x:=vl) rfl (wX (wpAny_field hos hds (x:=vu) rfl (wX (wpAny_field hos hds (x:=.none) rfl (wY ?_)))))))
 refine wX (slicePart_none ?_)
 show wpAny _ _ (if((1:Int) == 0)=true then _ else _) _ _ s
 rw[if_neg (by decide)]
 refine wX (mG pl (wX (mG pu (wX (wY ?_)))))
 show wpAny _ _ (match Builtin.Slice.sliceAdjust lo hi 1 (n:Int) with|(lo,hi)=>pure (lo,(1:Int),Builtin.Slice.slicePlaces lo hi 1)) _ _ s
 rw[vV lo hi n]
 show wpAny _ _ (pure (((sIx n 0 lo:Nat):Int),(1:Int),Builtin.Slice.slicePlaces ((sIx n 0 lo:Nat):Int) ((sIx n n hi:Nat):Int) 1)) _ _ s
 rw[vW]
 exact wY h
theorem zS (xs:Array Value) (i k:Nat):((List.range k).filterMap λ(m:Nat)=>xs[((i:Int)+(m:Int)*1).toNat]?).toArray=((xs.toList.drop i).take k).toArray:=by
 have e:(λ(m:Nat)=>xs[((i:Int)+(m:Int)*1).toNat]?)=λm=>xs[i+m]?:=by
  funext m
  have:((i:Int)+(m:Int)*1).toNat=i+m:=by omega
  rw[this]
 rw[e]
 have:=pick_run xs i k
 rw[List.filterMap_map]at this
 have e2:((λx=>xs[x]?) ∘ λx=>i+x)=λm=>xs[i+m]?:=rfl
 rw[e2]at this
 rw[this]
theorem j0 {t sl:Addr}{items:Array Value}{vl vu:Value}{lo hi:Option Int}{Q:Value->Shared->Prop}(ht:IsTup s.heap t items) (hs:s.heap.IsSliceOf sl vl vu .none) (pl:IsPart vl lo) (pu:IsPart vu hi)
  (hw:¬(sIx items.size 0 lo=0/\sIx items.size items.size hi=items.size))
  (h:Q (.ref s.heap.objs.size) { s with heap:=s.heap.push { cls:=.type "tuple",data:=.seq ((items.toList.drop (sIx items.size 0 lo)).take (sIx items.size items.size hi - sIx items.size 0 lo)).toArray } })
  (hsz:items.size<=sizeLine):wpAny (model prog w) A (getItem (.ref t) (.ref sl)) Q E s:=by
 have htake:sizeOk (.seq ((items.toList.drop (sIx items.size 0 lo)).take (sIx items.size items.size hi - sIx items.size 0 lo)).toArray):=by
  show((items.toList.drop (sIx items.size 0 lo)).take (sIx items.size items.size hi - sIx items.size 0 lo)).toArray.size<=sizeLine
  rw[List.size_toArray,List.length_take,List.length_drop,Array.length_toList]
  omega
 have hj:sIx items.size items.size hi<=items.size:=E2 _ _ (Nat.le_refl _) hi
 obtain⟨os,hos,hcs,hds⟩:=id hs
 have hTs:s.TypeIs (.ref sl) "slice":=⟨os,hos,hcs⟩
 unfold getItem
 try with_reducible refine wpAny_holding ?_
 first|refine wX (wY ?_)|skip
 refine wX (wpAny_sequenceKey ht.typeIs (by decide) ?_)
 refine wX (wpAny_callSpecial?_slot (name:=Str.ofString "__getitem__") ht.typeIs PyProof.Rows.slot_tuple_getitem
  (wpAny_call_entry PyProof.Rows.slot_tuple_getitem ht.typeIs entry_tuple_getitem ?_ (args_tuple_getitem _ _)))
 show wpAny _ _ (Builtin.Tuple.tupleItemsOf (.ref t)>>=_) _ _ s
 refine wX (tupleItemsOf_ ht ?_)
 refine wX (wpAny_typeOf hTs ?_)
 rw[if_pos (by decide)]
 refine wX (fG hs pl pu ?_)
 have hno:¬((((sIx items.size 0 lo:Nat):Int) == 0 && (1:Int) == 1 && (sIx items.size items.size hi - sIx items.size 0 lo) == items.size)=true):=by
  intro q
  rw[Bool.and_eq_true,Bool.and_eq_true]at q
  have q1:((sIx items.size 0 lo:Nat):Int)=0:=eq_of_beq q.1.1
  have q2:sIx items.size items.size hi - sIx items.size 0 lo=items.size:=eq_of_beq q.2
  exact hw ⟨by omega,by omega⟩
 show wpAny _ _ (if(((sIx items.size 0 lo:Nat):Int) == 0 && (1:Int) == 1 && (sIx items.size items.size hi - sIx items.size 0 lo) == items.size)=true then _ else _) _ _ s
 rw[if_neg hno,zS]
 first
  | exact wX (m:=Builtin.Tuple.tupleExact _) (wpAny_newObj_type (wY ⟨_,rfl,wY h⟩) htake)
  | exact wX (m:=Builtin.Tuple.tupleExact _) (wpAny_newObj_type (wX (wY (wY ⟨_,rfl,wY h⟩))) htake)
  | exact wX (wX (m:=Builtin.Tuple.tupleExact _) (wpAny_newObj_type (wY (wY ⟨_,rfl,wY h⟩)) htake))
  | exact wX (wX (m:=Builtin.Tuple.tupleExact _) (wpAny_newObj_type (wY ⟨_,rfl,wY h⟩) htake))
end
end HT
namespace L2
open PySem PySem.Spec PyProof.Rows
abbrev TO:=St->Hp->(Option Int->Hp->Prop)->Prop
def PO (X:Cx) (e:Option Expr) (t:TO):Prop :=
 ∀(pins:List (Addr×Obj)) (s:Shared) (σ:St) (H:Hp) (Q:Option Int->Hp->Prop),Inv X pins σ H s->t σ H Q ->
  wpAny (model X.prog X.w) X.A (evalPart e X.env) (λu s'=>∃o H',Inv X pins σ H' s'/\IsPart u o/\Q o H') X.xe s
def BN:TO:=λ_ H Q=>Q none H
def Gg (t:TE):TO:=λσ H Q=>t σ H λx H1=>∃i,x=.int i/\Q (some i) H1
section
variable {X:Cx}{e:Expr}{te:TE}{lo hi:Option Expr}{tl th:TO}{pos p2:Pos}
theorem BO:PO X none BN:=by
 intro pins s σ H Q I h
 rw[evalPart_none]
 exact wY ⟨none,H,I,.none,h⟩
theorem BP (h:PE X e te):PO X (some e) (Gg te):=by
 intro pins s σ H Q I hw
 rw[evalPart_some]
 refine thn (h pins s σ H _ I hw) λu s1 ⟨x,H1,I1,r1,q1⟩=>?_
 obtain⟨i,rfl,q⟩:=q1
 obtain⟨t,rfl⟩:=r1
 exact⟨some i,H1,I1,.int i t,q⟩
def SlR (X:Cx) (r:V->Option Int->Option Int->Hp->VK->Prop):Prop :=
 ∀(pins:List (Addr×Obj)) (s:Shared) (σ:St) (H:Hp) (x:V) (v vl vu:Value) (lo hi:Option Int) (sl:Addr) (Q:VK),Inv X pins σ H s->aN x v->s.heap.IsSliceOf sl vl vu .none->IsPart vl lo->IsPart vu hi->r x lo hi H Q ->
  ∃T id,typeLookup (.type T) "__getitem__" = pure (some (.builtin id))/\s.TypeIs v T/\wpAny (model X.prog X.w) X.A (getItem v (.ref sl)) (EP X pins σ Q) X.xe s
theorem SlR.or {r r':V->Option Int->Option Int->Hp->VK->Prop}(h:SlR X r) (h':SlR X r'):SlR X (λx lo hi H Q=>r x lo hi H Q∨r' x lo hi H Q):=by
 intro pins s σ H x v vl vu lo hi sl Q I rx hs pl pu q
 rcases q with q|q
 ·exact h pins s σ H x v vl vu lo hi sl Q I rx hs pl pu q
 ·exact h' pins s σ H x v vl vu lo hi sl Q I rx hs pl pu q
def tSl (r:V->Option Int->Option Int->Hp->VK->Prop) (te:TE) (tl th:TO):TE:=λσ H Q=>te σ H λx H1=>tl σ H1 λl H2=>th σ H2 λu H3=>r x l u H3 Q
theorem zT {r:V->Option Int->Option Int->Hp->VK->Prop}(hr:SlR X r) (he:PE X e te) (hl:PO X lo tl) (hu:PO X hi th):PE X (.Subscript e (.Slice lo hi none p2) pos) (tSl r te tl th):=by
 intro pins s σ H Q I h
 refine Subscript_ (thn (he pins s σ H _ I h) λv s1 ⟨x,H1,I1,r1,q1⟩=>?_)
 refine wpAny_Slice (thn (hl pins s1 σ H1 _ I1 q1) λvl s2 ⟨l,H2,I2,pl,q2⟩=>thn (hu pins s2 σ H2 _ I2 q2) λvu s3 ⟨u,H3,I3,pu,q3⟩=>?_)
 rw[evalPart_none]
 refine wY ?_
 have I4:Inv X pins σ H3 { s3 with heap:=s3.heap.push { cls:=.type "slice",data:=.fields #[vl,vu,.none] } }:=I3.kept (t':=s3.toks) λb ob q=>Heap.get?_push_of_some _ q
 obtain⟨T,id,hT,ht,hg⟩:=hr pins { s3 with heap:=s3.heap.push { cls:=.type "slice",data:=.fields #[vl,vu,.none] } } σ H3 x v vl vu l u s3.heap.objs.size Q I4 r1 (Heap.IsSliceOf.new ..) pl pu q3
 show wpAny (model X.prog X.w) X.A (subscriptTail e (.Slice lo hi none p2) v (.ref s3.heap.objs.size)) (EP X pins σ Q) X.xe { s3 with heap:=s3.heap.push { cls:=.type "slice",data:=.fields #[vl,vu,.none] } }
 exact tail_any (ops:=[.ref s3.heap.objs.size,v]) ht hT hg (by with_unfolding_all rfl)
def pd (xs:List V) (lo hi:Option Int):List V:=(xs.drop (HT.sIx xs.length 0 lo)).take (HT.sIx xs.length xs.length hi - HT.sIx xs.length 0 lo)
theorem lA (xs:List V) (lo hi:Option Int):(pd xs lo hi).length<=xs.length:=by
 unfold pd
 rw[List.length_take,List.length_drop]
 omega
def Hh (K:PySem.W.Frag):V->Option Int->Option Int->Hp->VK->Prop:=λx lo hi H Q=>∃a xs,x=.ref a/\SqT K H a xs /\
 ¬(HT.sIx xs.length 0 lo=0/\HT.sIx xs.length xs.length hi=xs.length)/\∀p,H p=none->Q (.ref p) (upd H p (.tup (pd xs lo hi)))
theorem E3:SlR X (Hh X.K):=by
 intro pins s σ H x v vl vu lo hi sl Q I rx hs pl pu h
 obtain⟨a,xs,rfl,hx,hw,q⟩:=h
 cases rx
 obtain⟨its,r,ht,hz⟩:=I.tuple hx
 have hlen:its.toArray.size=xs.length:=by rw[List.size_toArray];exact r.length.symm
 refine⟨"tuple",_,PyProof.Rows.slot_tuple_getitem.lookup,ht.typeIs, ?_⟩
 refine HT.j0 ht hs pl pu (by rw[hlen];exact hw) ?_ (by rw[hlen];exact hz)
 rw[hlen]
 refine⟨.ref s.heap.objs.size,_,I.laid (t':=s.toks) (o:=.tup (pd xs lo hi)) (λb ob q=>Heap.get?_push_of_some _ q) (Nat.le_refl _) ?_,rfl,q _ (I.hok.fresh (Nat.le_refl _))⟩
 exact⟨Nat.le_trans (lA xs lo hi) hz,_,(r.drop (HT.sIx xs.length 0 lo)).take (HT.sIx xs.length xs.length hi - HT.sIx xs.length 0 lo),IsTup.new _ _⟩
def Gh (K:PySem.W.Frag):R2:=λx y H Q=>∃a b xs ys,x=.ref a/\y=.ref b/\SqT K H a xs/\SqT K H b ys/\xs≠[]/\xs.length+ys.length<=sizeLine /\
 (ys=[]->Q (.ref a) H)/\(ys≠[]->∀p,H p=none->Q (.ref p) (upd H p (.tup (xs++ys))))
theorem aP.nil_iff {xs:List V}{us:List Value}(r:aP xs us):us=[]↔xs=[]:=by
 cases r with
 | nil=>simp
 | cons _ _=>simp
theorem BQ:OpR X (binaryOp .Add) (Gh X.K):=by
 intro pins s σ H x y v u Q I rx ry h
 obtain⟨a,b,xs,ys,rfl,rfl,ha,hb,hx,hz,q1,q2⟩:=h
 cases rx
 cases ry
 obtain⟨its,r1,p1,_⟩:=I.tuple ha
 obtain⟨its2,r2,p2,_⟩:=I.tuple hb
 refine HT.BM p1 p2 (λz=>hx (r1.nil_iff.mp z)) (λz=>⟨.ref a,H,I,rfl,q1 (r2.nil_iff.mp z)⟩) (λz=>?_) (by rw[←r1.length,←r2.length];exact hz)
 refine⟨.ref s.heap.objs.size,_,I.laid (t':=s.toks) (o:=.tup (xs++ys)) (λb ob q=>Heap.get?_push_of_some _ q) (Nat.le_refl _) ?_,rfl,q2 (λw=>z (r2.nil_iff.mpr w)) _ (I.hok.fresh (Nat.le_refl _))⟩
 exact⟨by rw[List.length_append];exact hz,_,r1.append r2,IsTup.new _ _⟩
end
def ixN (n:Nat) (i:Int):Option Nat:=if 0<=i then (if i<n then some i.toNat else none)else if -(n:Int)<=i then some (i+n).toNat else none
def atI {α:Type}(xs:List α) (i:Int):Option α:=(ixN xs.length i).bind λj=>xs[j]?
theorem BR {n:Nat}{i:Int}{j:Nat}(h:ixN n i=some j):seqIndex? i n=some j/\j<n/\-(n:Int)<=i/\i<n:=by
 unfold ixN at h
 by_cases h0:0<=i
 ·rw[if_pos h0]at h
  by_cases h1:i<n
  ·rw[if_pos h1]at h
   have e:i.toNat=j:=Option.some.inj h
   exact⟨by rw[seqIndex_of h0 h1,e],by omega,by omega,h1⟩
  ·rw[if_neg h1]at h;cases h
 ·rw[if_neg h0]at h
  by_cases h1 : -(n:Int)<=i
  ·rw[if_pos h1]at h
   have e:(i+n).toNat=j:=Option.some.inj h
   exact⟨by rw[seqIndex_neg (by omega) h1,e],by omega,h1,by omega⟩
  ·rw[if_neg h1]at h;cases h
theorem re {α:Type}{xs:List α}{i:Int}{v:α}(h:atI xs i=some v):∃j,seqIndex? i xs.length=some j/\xs[j]? = some v/\j<xs.length/\-(xs.length:Int)<=i/\i<xs.length:=by
 unfold atI at h
 cases e:ixN xs.length i with
 | none=>rw[e]at h;cases h
 | some j =>
  rw[e]at h
  obtain⟨h1,h2,h3,h4⟩:=BR e
  exact⟨j,h1,h,h2,h3,h4⟩
theorem BS {α:Type}{xs:List α}{j:Nat}{v:α}(h:xs[j]? = some v):atI xs (j:Int)=some v:=by
 have hj:j<xs.length:=(List.getElem?_eq_some_iff.mp h).1
 have e:ixN xs.length (j:Int)=some j:=by
  unfold ixN
  rw[if_pos (by omega),if_pos (by omega)];simp
 unfold atI;rw[e];exact h
def mr (b:Expr):Prop:=∀o i,subscripted b false o i=operate [o,i] (getItem o i)
def IxR (X:Cx) (r:R2):Prop :=
 ∀(value slice:Expr) (pins:List (Addr×Obj)) (s:Shared) (σ:St) (H:Hp) (x y:V) (v u:Value) (Q:VK),Inv X pins σ H s->aN x v->aN y u->r x y H Q ->
  subscripted slice false v u=operate [v,u] (getItem v u)->wpAny (model X.prog X.w) X.A (subscriptTail value slice v u) (EP X pins σ Q) X.xe s
def MtR (X:Cx) (id:String) (r:V->List V->Hp->VK->Prop):Prop :=
 ∀(pins:List (Addr×Obj)) (s:Shared) (σ:St) (H:Hp) (x:V) (xs:List V) (v:Value) (us:List Value) (Q:VK),Inv X pins σ H s->aN x v->aP xs us->r x xs H Q ->
  wpAny (model X.prog X.w) X.A (call (.builtin id) (v::us)) (EP X pins σ Q) X.xe s
section
variable {X:Cx}{a b:Expr}{ta tb:TE}{pos:Pos}
theorem IxR.or {r r':R2}(h:IxR X r) (h':IxR X r'):IxR X (λx y H Q=>r x y H Q∨r' x y H Q):=by
 intro value slice pins s σ H x y v u Q I rx ry q hs
 rcases q with q|q
 ·exact h value slice pins s σ H x y v u Q I rx ry q hs
 ·exact h' value slice pins s σ H x y v u Q I rx ry q hs
theorem MtR.or {id:String}{r r':V->List V->Hp->VK->Prop}(h:MtR X id r) (h':MtR X id r'):MtR X id (λx xs H Q=>r x xs H Q∨r' x xs H Q):=by
 intro pins s σ H x xs v us Q I rx rs q
 rcases q with q|q
 ·exact h pins s σ H x xs v us Q I rx rs q
 ·exact h' pins s σ H x xs v us Q I rx rs q
theorem Dx {r:R2}(hr:IxR X r) (ha:PE X a ta) (hb:PE X b tb) (hs:mr b):PE X (.Subscript a b pos) (tOp r ta tb):=by
 intro pins s σ H Q I h
 exact Subscript_ (Ep ha hb I h λv u s2 x y H2 I2 rx ry q=>hr a b pins s2 σ H2 x y v u Q I2 rx ry q (hs _ _))
def Hi (K:PySem.W.Frag):R2:=λx y H Q=>∃p xs i v,x=.ref p/\y=.int i/\SqL K H p xs/\atI xs i=some v/\Q v H
def Hj (K:PySem.W.Frag):R2:=λx y H Q=>∃p xs i v,x=.ref p/\y=.int i/\SqT K H p xs/\atI xs i=some v/\Q v H
def Hk:R2:=λx y H Q=>∃z i c,x=.str z/\y=.int i/\z.length<=sizeLine/\atI z.cps.toList i=some c/\Q (.str ⟨#[c]⟩) H
theorem BT:IxR X (Hi X.K):=by
 intro value slice pins s σ H x y v u Q I rx ry h hs
 obtain⟨p,xs,i,z,rfl,rfl,hq,he,q⟩:=h
 cases rx
 obtain⟨t,rfl⟩:=ry
 obtain⟨its,r,pl,hz⟩:=I.list hq
 obtain⟨j,h1,h2,h3,h4,h5⟩:=re he
 obtain⟨w,ew,rw'⟩:=r.get h2
 have hl:=r.length
 have hn:=mE
 have fin:EP X pins σ Q w s:=⟨z,H,I,rw',q⟩
 by_cases h0:0<=i
 ·have hj:i.toNat=j:=by
   rw[seqIndex_of h0 h5]at h1
   exact Option.some.inj h1
  exact item_listR pl.isList h0 (by omega) (by rw[hj];simpa using ew) fin hs
 ·have hj:(i+(its.toArray.size:Int)).toNat=j:=by
   rw[seqIndex_neg (by omega) h4]at h1
   rw[List.size_toArray,←hl]
   exact Option.some.inj h1
  exact subscriptTail_builtinR (x:=w) pl.isList.typeIs slot_list_getitem.lookup
   (wpAny_getItem_list_neg (Q:=λr s'=>r=w/\EP X pins σ Q r s') pl.isList (by omega) (by rw[List.size_toArray]<;>omega) (by omega) (by rw[hj];simpa using ew) ⟨rfl,fin⟩) hs
theorem vX:IxR X (Hj X.K):=by
 intro value slice pins s σ H x y v u Q I rx ry h hs
 obtain⟨p,xs,i,z,rfl,rfl,hq,he,q⟩:=h
 cases rx
 obtain⟨t,rfl⟩:=ry
 obtain⟨its,r,pl,hz⟩:=I.tuple hq
 obtain⟨j,h1,h2,h3,h4,h5⟩:=re he
 obtain⟨w,ew,rw'⟩:=r.get h2
 have hl:=r.length
 have hn:=mE
 have fin:EP X pins σ Q w s:=⟨z,H,I,rw',q⟩
 exact subscriptTail_builtinR (x:=w) pl.typeIs slot_tuple_getitem.lookup
  (getItem_tuple (j:=j) (Q:=λr s'=>r=w/\EP X pins σ Q r s') pl (by omega) (by omega) (by rw[List.size_toArray,←hl];exact h1) (by simpa using ew) ⟨rfl,fin⟩) hs
theorem vY:IxR X Hk:=by
 intro value slice pins s σ H x y v u Q I rx ry h hs
 obtain⟨z,i,c,rfl,rfl,hz,he,q⟩:=h
 obtain⟨t,rfl⟩:=rx
 obtain⟨t',rfl⟩:=ry
 obtain⟨j,h1,h2,h3,h4,h5⟩:=re he
 have hl:z.cps.toList.length=z.length:=by simp[Str.length]
 rw[hl]at h1 h4 h5
 have hn:=mE
 exact tail_any (typeIs_str s z t) slot_str_getitem.lookup (getItem_str (c:=c) (by
  have e1:decide (i < -(2 ^ 63:Int))=false:=decide_eq_false (by omega)
  have e2:decide (i ≥ 2 ^ 63)=false:=decide_eq_false (by omega)
  rw[e1,e2,Bool.or_false]) (by rw[h1];simpa using h2) ⟨.str ⟨#[c]⟩,H,I.tok _,⟨_,rfl⟩,q⟩) hs
theorem Inv.lst {pins:List (Addr×Obj)}{σ:St}{H:Hp}{s:Shared}{p:Addr}{xs:List V}(I:Inv X pins σ H s) (h:H p=some (.lst xs)) :
  ∃(its:List Value) (n:Nat),aP xs its/\s.heap.get? p=some { cls:=.type "list",data:=.seq its.toArray n }/\xs.length<=sizeLine:=by
 obtain⟨z,its,n,r,e⟩:=I.hok p _ h
 exact⟨its,n,r,e,z⟩
theorem rf (lo hi:Option Int) (n:Nat):(sliceBounds lo hi none n).1=((HT.sIx n 0 lo:Nat):Int)/\(sliceBounds lo hi none n).2.1=((HT.sIx n n hi:Nat):Int)/\(sliceBounds lo hi none n).2.2=1:=by
 refine⟨?_, ?_,rfl⟩
 ·cases lo with
  | none=>simp[sliceBounds,HT.sIx]
  | some i =>
   simp only[sliceBounds,HT.sIx,Option.getD_none,show(1:Int) > 0 by decide,if_true]
   by_cases h:i<0
   ·simp only[h,if_true]<;>omega
   ·simp only[h,if_false]<;>omega
 ·cases hi with
  | none=>simp[sliceBounds,HT.sIx]
  | some i =>
   simp only[sliceBounds,HT.sIx,Option.getD_none,show(1:Int) > 0 by decide,if_true]
   by_cases h:i<0
   ·simp only[h,if_true]<;>omega
   ·simp only[h,if_false]<;>omega
theorem pe (its:List Value) (lo hi:Option Int):slicePick its.toArray lo hi none=((its.drop (HT.sIx its.length 0 lo)).take (HT.sIx its.length its.length hi - HT.sIx its.length 0 lo)).toArray:=by
 obtain⟨h1,h2,h3⟩:=rf lo hi its.toArray.size
 unfold slicePick
 rw[h1,h2,h3]
 simp only[sliceRange_one,pick_run,List.size_toArray]<;>rfl
def Hl (K:PySem.W.Frag):V->Option Int->Option Int->Hp->VK->Prop:=λx lo hi H Q=>∃a xs,x=.ref a/\SqL K H a xs/\∀p,H p=none->Q (.ref p) (upd H p (.lst (pd xs lo hi)))
theorem BU:SlR X (Hl X.K):=by
 intro pins s σ H x v vl vu lo hi sl Q I rx hs pl pu h
 obtain⟨a,xs,rfl,hx,q⟩:=h
 cases rx
 obtain⟨its,r,ht,hz⟩:=I.list hx
 have hlen:=r.length
 refine⟨"list",_,slot_list_getitem.lookup,ht.isList.typeIs, ?_⟩
 refine wpAny_getItem_list_slice ht.isList hs pl pu .none (by simp) ?_ (by rw[List.size_toArray]<;>omega)
 rw[pe,←hlen]
 refine⟨.ref s.heap.objs.size,_,I.laid (t':=s.toks) (o:=.lst (pd xs lo hi)) (λb ob q=>Heap.get?_push_of_some _ q) (Nat.le_refl _) ?_,rfl,q _ (I.hok.fresh (Nat.le_refl _))⟩
 exact⟨Nat.le_trans (lA xs lo hi) hz,_,0,(r.drop (HT.sIx xs.length 0 lo)).take (HT.sIx xs.length xs.length hi - HT.sIx xs.length 0 lo),Heap.get?_push_size _ rfl⟩
def iG:V->Bool
 | .non=>true
 | .bl _=>true
 | .int _=>true
 | .str _=>true
 | _=>false
def eqV:V->V->Bool
 | .non,.non=>true
 | .bl a,.bl b=>a == b
 | .bl a,.int b=>(if a then 1 else 0) == b
 | .int a,.bl b=>a == (if b then 1 else 0)
 | .int a,.int b=>a == b
 | .str a,.str b=>a == b
 | _,_=>false
theorem E4 {A:Around}{s:Shared}{y x:V}{u v:Value}(ry:aN y u) (rx:aN x v) (fy:iG y=true) (fx:iG x=true):SeqAt.EqAt A s u v (eqV y x):=by
 cases y with
 | non =>
  cases ry
  cases x with
  | non=>cases rx;exact SeqAt.EqAt.same _
  | bl b=>cases rx;exact SeqAt.EqAt.none_bool b
  | int b=>obtain⟨t,rfl⟩:=rx;exact SeqAt.EqAt.none_int b t
  | str b=>obtain⟨t,rfl⟩:=rx;exact SeqAt.EqAt.none_str b t
  | _=>exact absurd (show false=true from fx) Bool.false_ne_true
 | bl a =>
  cases ry
  cases x with
  | non=>cases rx;exact SeqAt.EqAt.bool_none a
  | bl b=>cases rx;exact SeqAt.EqAt.bool_bool a b
  | int b=>obtain⟨t,rfl⟩:=rx;exact SeqAt.EqAt.bool_int a b t
  | str b=>obtain⟨t,rfl⟩:=rx;exact SeqAt.EqAt.bool_str a b t
  | _=>exact absurd (show false=true from fx) Bool.false_ne_true
 | int a =>
  obtain⟨t',rfl⟩:=ry
  cases x with
  | non=>cases rx;exact SeqAt.EqAt.int_none a t'
  | bl b=>cases rx;exact SeqAt.EqAt.int_bool a t' b
  | int b=>obtain⟨t,rfl⟩:=rx;exact SeqAt.EqAt.int_int a t' b t
  | str b=>obtain⟨t,rfl⟩:=rx;exact SeqAt.EqAt.int_str a t' b t
  | _=>exact absurd (show false=true from fx) Bool.false_ne_true
 | str a =>
  obtain⟨t',rfl⟩:=ry
  cases x with
  | non=>cases rx;exact SeqAt.EqAt.str_none a t'
  | bl b=>cases rx;exact SeqAt.EqAt.str_bool a t' b
  | int b=>obtain⟨t,rfl⟩:=rx;exact SeqAt.EqAt.str_int a t' b t
  | str b=>obtain⟨t,rfl⟩:=rx;exact SeqAt.EqAt.str_str a t' b t
  | _=>exact absurd (show false=true from fx) Bool.false_ne_true
 | _=>exact absurd (show false=true from fy) Bool.false_ne_true
def eqU (x:V) (u:Value):Bool:=match u with
 | .none=>eqV .non x
 | .bool b=>eqV (.bl b) x
 | .int i _=>eqV (.int i) x
 | .str z _=>eqV (.str z) x
 | _=>false
theorem zU {x y:V}{u:Value}(r:aN y u) (f:iG y=true):eqU x u=eqV y x:=by
 cases y with
 | non=>cases r;rfl
 | bl b=>cases r;rfl
 | int i=>obtain⟨t,rfl⟩:=r;rfl
 | str z=>obtain⟨t,rfl⟩:=r;rfl
 | _=>exact absurd (show false=true from f) Bool.false_ne_true
theorem j3 {x:V}:∀ {xs:List V}{us:List Value},aP xs us->xs.all iG=true->us.any (eqU x)=xs.any λy=>eqV y x
 | _,_,.nil,_=>rfl
 | y::xs,u::us,.cons r t,f=>by
  rw[List.all_cons,Bool.and_eq_true]at f
  rw[List.any_cons,List.any_cons,zU r f.1,j3 t f.2]
theorem gC {A:Around}{s:Shared}{x:V}{v:Value}(rx:aN x v) (fx:iG x=true):∀ {xs:List V}{us:List Value},aP xs us->xs.all iG=true->∀u∈us,SeqAt.EqAt A s u v (eqU x u)
 | _,_,.nil,_=>λu hu=>by cases hu
 | y::xs,u::us,.cons r t,f=>λu' hu=>by
  rw[List.all_cons,Bool.and_eq_true]at f
  rcases List.mem_cons.mp hu with rfl|hu
  ·rw[zU r f.1];exact E4 r rx f.1 fx
  ·exact gC rx fx t f.2 u' hu
def inV (x:V) (xs:List V):Bool:=xs.any λy=>eqV y x
def rIn (K:PySem.W.Frag) (neg:Bool):R2:=λx y H Q=>∃p xs,y=.ref p/\(SqL K H p xs∨SqT K H p xs)/\iG x=true/\xs.all iG=true/\Q (.bl (if neg then !inV x xs else inV x xs)) H
theorem yH:OpR X (compareOp .In) (rIn X.K false):=by
 intro pins s σ H x y v u Q I rx ry h
 obtain⟨p,xs,rfl,hq,fx,fs,q⟩:=h
 cases ry
 rcases hq with hq|hq
 ·obtain⟨its,r,pl,hz⟩:=I.list hq
  refine SeqAt.in_listAt (eqU x) pl.isList (λw hw=>gC rx fx r fs w (by simpa using hw)) ⟨.bl _,H,I,rfl, ?_⟩
  rw[show its.toArray.any (eqU x)=its.any (eqU x) by simp,j3 r fs]
  exact q
 ·obtain⟨its,r,pl,hz⟩:=I.tuple hq
  refine SeqAt.in_tupleAt (eqU x) pl (λw hw=>gC rx fx r fs w (by simpa using hw)) ⟨.bl _,H,I,rfl, ?_⟩
  rw[show its.toArray.any (eqU x)=its.any (eqU x) by simp,j3 r fs]
  exact q
theorem rg:OpR X (compareOp .NotIn) (rIn X.K true):=by
 intro pins s σ H x y v u Q I rx ry h
 obtain⟨p,xs,rfl,hq,fx,fs,q⟩:=h
 cases ry
 rcases hq with hq|hq
 ·obtain⟨its,r,pl,hz⟩:=I.list hq
  refine SeqAt.notIn_listAt (eqU x) pl.isList (λw hw=>gC rx fx r fs w (by simpa using hw)) ⟨.bl _,H,I,rfl, ?_⟩
  rw[show its.toArray.any (eqU x)=its.any (eqU x) by simp,j3 r fs]
  exact q
 ·obtain⟨its,r,pl,hz⟩:=I.tuple hq
  refine SeqAt.notIn_tupleAt (eqU x) pl (λw hw=>gC rx fx r fs w (by simpa using hw)) ⟨.bl _,H,I,rfl, ?_⟩
  rw[show its.toArray.any (eqU x)=its.any (eqU x) by simp,j3 r fs]
  exact q
theorem rh:cf X (.builtin "len") (λxs H Q=>∃p ys,xs=[.ref p]/\(SqL X.K H p ys∨SqT X.K H p ys)/\Q (.int ys.length) H):=by
 intro pins s σ H xs us Q I r h
 obtain⟨p,ys,rfl,hq,q⟩:=h
 obtain⟨u,rfl,rx⟩:=jz r
 cases rx
 have hn:=mE
 rcases hq with hq|hq
 ·obtain⟨its,r',pl,hz⟩:=I.list hq
  have hlen:=r'.length
  exact Calls.call_len_list pl.isList (by simp only[List.size_toArray]<;>omega) ⟨.int ys.length,H,I.tok _,⟨s.toks+1,by rw[List.size_toArray,hlen]⟩,q⟩
 ·obtain⟨its,r',pl,hz⟩:=I.tuple hq
  have hlen:=r'.length
  exact len_tuple pl (by simp only[List.size_toArray]<;>omega) ⟨.int ys.length,H,I.tok _,⟨s.toks+1,by rw[List.size_toArray,hlen]⟩,q⟩
theorem ri:cf X (.builtin "len") (λxs H Q=>∃z,xs=[.str z]/\z.length<=sizeLine/\Q (.int z.length) H):=by
 intro pins s σ H xs us Q I r h
 obtain⟨z,rfl,hz,q⟩:=h
 obtain⟨u,rfl,t,rfl⟩:=jz r
 have hn:=mE
 exact len_str (by omega) ⟨.int z.length,H,I.tok _,⟨_,rfl⟩,q⟩
theorem cf.or {f:Value}{r r':List V->Hp->VK->Prop}(h:cf X f r) (h':cf X f r'):cf X f (λxs H Q=>r xs H Q∨r' xs H Q):=by
 intro pins s σ H xs us Q I rs q
 rcases q with q|q
 ·exact h pins s σ H xs us Q I rs q
 ·exact h' pins s σ H xs us Q I rs q
theorem ph:cf X (.type "tuple") (λxs H Q=>∃p ys,xs=[.ref p]/\((SqL X.K H p ys/\∀l,H l=none->Q (.ref l) (upd H l (.tup ys)))∨(SqT X.K H p ys/\Q (.ref p) H))):=by
 intro pins s σ H xs us Q I r h
 obtain⟨p,ys,rfl,h⟩:=h
 obtain⟨u,rfl,rx⟩:=jz r
 cases rx
 rcases h with ⟨hq,q⟩|⟨hq,q⟩
 ·obtain⟨its,r',pl,hz⟩:=I.list hq
  have hlen:=r'.length
  refine call_tuple_list pl.isList (λh' kp=>?_) (by simp only[List.size_toArray]<;>omega)
  have I1:Inv X pins σ H { s with heap:=h' }:=I.kept (t':=s.toks) kp
  have I2:Inv X pins σ (upd H h'.objs.size (.tup ys)) { s with heap:=h'.push { cls:=.type "tuple",data:=.seq its.toArray } } :=
   I1.laid (t':=s.toks) (λb o e=>Heap.get?_push_of_some _ e) (Nat.le_refl _) (show bH X.prog X.w _ _ _ (.tup ys)from ⟨hz,its,r',IsTup.new _ _⟩)
  exact⟨.ref h'.objs.size,_,I2,rfl,q _ (I1.hok.fresh (Nat.le_refl _))⟩
 ·obtain⟨its,r',pl,hz⟩:=I.tuple hq
  exact call_tuple_same pl ⟨.ref p,H,I,rfl,q⟩
def tyV (K:PySem.W.Frag) (T:String) (x:V) (H:Hp):Prop:=match x with
 | .str _=>T = "str"
 | .int _=>T = "int"
 | .ref p=>(T = "list"/\∃xs,SqL K H p xs)∨(T = "tuple"/\∃o,K.lookup p=some o/\o.cls=.type "tuple"/\o.dict=none) ∨
   (T = "dict"/\((∃kvs,H p=some (.dK kvs)) ∨ ∃kvs,H p=some (.dT kvs)))∨(T = "set"/\∃S n,H p=some (.set S n))
 | _=>False
theorem E5 {pins:List (Addr×Obj)}{σ:St}{H:Hp}{s:Shared}{T:String}{x:V}{v:Value}(I:Inv X pins σ H s) (r:aN x v) (ty:tyV X.K T x H) :
  s.TypeIs v T/\∀a,v=.ref a->∃ob,s.heap.get? a=some ob/\ob.dict=none:=by
 cases x with
 | str z =>
  obtain⟨t,rfl⟩:=r
  cases (show T = "str" from ty)
  exact⟨typeIs_str s z t,λ_ e=>nomatch e⟩
 | int i =>
  obtain⟨t,rfl⟩:=r
  cases (show T = "int" from ty)
  exact⟨typeIs_int s i t,λ_ e=>nomatch e⟩
 | ref p =>
  cases r
  rcases ty with ⟨rfl,xs,hq⟩|⟨rfl,o,hk,hc,hd⟩|⟨rfl,hk⟩|⟨rfl,S,n,hk⟩
  ·obtain⟨its,_,pl,_⟩:=I.list hq
   refine⟨pl.isList.typeIs,λa e=>?_⟩
   cases e
   obtain⟨o,n,e,c,hd,_⟩:=pl
   exact⟨o,e,hd⟩
  ·refine⟨⟨o,I.kIn p o hk,hc⟩,λa e=>?_⟩
   cases e
   exact⟨o,I.kIn _ o hk,hd⟩
  ·have z:∃o,s.heap.get? p=some o/\o.ExactDict:=by
    rcases hk with ⟨kvs,hk⟩|⟨kvs,hk⟩
    ·obtain⟨_,_,_,_,o,_,_,e,ex,_⟩:=I.hok p _ hk
     exact⟨o,e,ex⟩
    ·obtain⟨_,_,_,_,o,_,_,e,ex,_⟩:=I.hok p _ hk
     exact⟨o,e,ex⟩
   obtain⟨o,e,ex⟩:=z
   refine⟨⟨o,e,ex.1⟩,λa e2=>?_⟩
   cases e2
   exact⟨o,e,ex.2.1⟩
  ·obtain⟨o,_,_,_,e,ex,_⟩:=I.hok p _ hk
   refine⟨⟨o,e,ex.1⟩,λa e2=>?_⟩
   cases e2
   exact⟨o,e,ex.2.1⟩
 | _=>exact False.elim ty
def tBM (K:PySem.W.Frag) (T:String) (r:V->List V->Hp->VK->Prop) (to:TE) (t:TA):TE:=λσ H Q=>to σ H λx H1=>tyV K T x H1/\t σ H1 λxs H2=>r x xs H2 Q
variable {o e:Expr}{es:List Expr}{to:TE}{t:TA}{name:Str}{apos cpos:Pos}{T id:String}{r:V->List V->Hp->VK->Prop}
theorem Dy (pa:PlainAttrs T) (slot:Slot T name id) (hty:typeOf (.builtin id)=pure (.type "method_descriptor")) (hm:MtR X id r) (ho:PE X o to) (ha:PA X (e::es) t)
  (hbase:attributeBase o name X.env (eval o X.env)=eval o X.env:=by rfl)
  (hfew:((backTo cpos (starEach (e::es) X.env)).all (λx=>!x.1) && (backToKw cpos (keywordEach [] X.env)).all (λx=>x.1.isSome)
   && decide ((e::es).length+([]:List Keyword).length+(if([]:List Keyword).isEmpty then 0 else 1)<30))=true:=by rfl)
  (hline:(apos.endLine == cpos.line)=true:=by rfl) (hs:starEach (e::es) X.env=(false,eval e X.env)::starEach es X.env:=by rfl) (hplain:(backTo cpos (starEach es X.env)).any (·.1)=false:=by rfl) :
  PE X (.Call (.Attribute o name apos) (e::es) [] cpos) (tBM X.K T r to t):=by
 intro pins s σ H Q I h
 refine wpAny_Call_method_late hbase hfew hline rfl (thn (ho pins s σ H _ I h) λv s1 ⟨x,H1,I1,r1,ty,q1⟩=>?_)
 obtain⟨h1,h2⟩:=E5 I1 r1 ty
 refine⟨T,id,pa,slot,hty,h1,h2, ?_⟩
 have hA:=ha cpos pins s1 σ H1 _ I1 q1
 rw[hs]at hA ⊢
 refine Calls.callWith_builtin (by show(false || (backTo cpos (starEach es X.env)).any (·.1))=false;rw[hplain]<;>rfl) (Calls.evalArgs_plain ?_)
 exact thn hA λus s2 ⟨vs,H2,I2,r2,q2⟩=>hm pins s2 σ H2 x vs v us Q I2 r1 r2 q2
/- xs.append(e),list.index on a module's tuple .. are MtR facts of 06m -/
end
def MtM (X:Cx) (id:String) (r:V->List V->Hp->VK->Prop):Prop :=
 ∀(pins:List (Addr×Obj)) (s:Shared) (σ:St) (H:Hp) (x:V) (xs:List V) (v:Value) (us:List Value) (Q:VK),Inv X pins σ H s->aN x v->aP xs us->r x xs H Q ->
  wpAny (model X.prog X.w) X.A (call (.builtin id) (v::us)) (EP X pins σ Q) X.xe s
theorem aP.one:∀ {x:V}{us:List Value},aP [x] us->∃u,us=[u]/\aN x u
 | _,_,.cons r .nil=>⟨_,rfl,r⟩
theorem aP.two:∀ {x y:V}{us:List Value},aP [x,y] us->∃u v,us=[u,v]/\aN x u/\aN y v
 | _,_,_,.cons r (.cons q .nil)=>⟨_,_,rfl,r,q⟩
theorem aP.eraseIdx:∀ {xs:List V}{us:List Value}(i:Nat),aP xs us->aP (xs.eraseIdx i) (us.eraseIdx i)
 | _,_,_,.nil=>.nil
 | _,_,0,.cons _ t=>t
 | _,_,i+1,.cons r t=>.cons r (aP.eraseIdx i t)
section
variable {X:Cx}{pins:List (Addr×Obj)}{σ:St}{H:Hp}{s:Shared}{l b:Addr}{xs ys zs:List V}
theorem Inv.lset {its its':List Value}{n:Nat}{f:Array Value->Array Value}{t':Nat}(I:Inv X pins σ H s) (hH:H l=some (.lst xs))
  (e:s.heap.get? l=some { cls:=.type "list",data:=.seq its.toArray n }) (hf:f its.toArray=its'.toArray) (hv:aP ys its') (hz:ys.length<=sizeLine) :
  Inv X pins σ (upd H l (.lst ys)) { s with heap:=s.heap.update l (Obj.mapSeq f),toks:=t' }:=by
 have q:=PySem.IsL.update e f
 rw[hf]at q
 refine I.write (x:=l) (e:=l) (by rw[hH];exact trivial) (.inl rfl) (λb' u hb hu=>(Heap.get?_update_other s.heap (Obj.mapSeq f) (Ne.symm hb)).trans hu) ⟨_,q⟩ ?_
 exact⟨hz,its',_,hv,q⟩
theorem Inv.lnew {its:List Value}{t':Nat}(I:Inv X pins σ H s) (hv:aP ys its) (hz:ys.length<=sizeLine) :
  Inv X pins σ (upd H s.heap.objs.size (.lst ys)) { s with heap:=s.heap.push { cls:=.type "list",data:=.seq its.toArray },toks:=t' } :=
 I.laid (λ_ _ q=>Heap.get?_push_of_some _ q) (Nat.le_refl _) ⟨hz,its,0,hv,Heap.get?_push_size _ rfl⟩
theorem Inv.fresh (I:Inv X pins σ H s):H s.heap.objs.size=none:=I.hok.fresh (Nat.le_refl _)
theorem Inv.lstM (I:Inv X pins σ H s) (hH:H l=some (.lst xs)):xs.length<=sizeLine/\∃(its:List Value) (n:Nat),aP xs its/\xs.length=its.length/\s.heap.get? l=some { cls:=.type "list",data:=.seq its.toArray n }:=by
 obtain⟨z,its,n,r,e⟩:=I.hok l _ hH
 exact⟨z,its,n,r,r.length,e⟩
end
section
variable {X:Cx}
def xr:V->List V->Hp->VK->Prop:=λx vs H Q=>∃l xs y,x=.ref l/\vs=[y]/\H l=some (.lst xs)/\xs.length<sizeLine/\Q .non (upd H l (.lst (xs++[y])))
theorem pF:MtM X "list.append" xr:=by
 intro pins s σ H x vs v us Q I rx rv h
 obtain⟨l,xs,y,rfl,rfl,hH,hz,q⟩:=h
 cases rx
 obtain⟨u,rfl,ru⟩:=rv.one
 obtain⟨z,its,n,r,hl,e⟩:=I.lstM hH
 refine call_meets F.slot_list_append ⟨_,e,rfl⟩ F.entry_list_append (F.args_list_append_2 _ _) (PySem.list_append l its.toArray n u (by rw[List.size_toArray];omega)) ⟨e, ?_⟩
 refine⟨.non,_,I.lset (its':=its++[u]) hH e (by simp) (r.append (.cons ru .nil)) ?_,rfl,q⟩
 rw[List.length_append,List.length_singleton]
 omega
end
end L2
namespace Att
open PySem PySem.W PySem.Calls PyProof.Rows
theorem md {P:Params}{h:Heap}:∀(ns:List Int) (vs:List Value),WellAll P h vs (ns.map WData.int)->IntsAre vs ns:=by
 intro ns
 induction ns with
 | nil =>
  intro vs w
  rw[List.map_nil]at w
  cases w
  exact .nil
 | cons n ns ih =>
  intro vs w
  rw[List.map_cons]at w
  cases w with
  | cons a b =>
   cases a
   exact .cons _ _ (ih _ b)
theorem yI {l:OpenLaw}{n:Nat}(hn:l.most=some n) {P:Params}{h:Heap}{args:List WData}{vals:List Value}
  (hpre:l.row.toRowW.claim.pre args=true) (hwl:WellAll P h vals args) :
  ∃a vs ns,vals=[Value.ref a]/\args=[WData.list (ns.map WData.int)]/\h.get? a=some { cls:=.type "list",data:=.seq vs.toArray }/\IntsAre vs ns/\ns.length<=n:=by
 have hsh:WShape.hasAll [] args [.list .int]=true:=(pre_splitW hpre).1
 have hc:l.pre.holds [] { args:=args }=true:=(pre_splitW hpre).2
 obtain⟨d,r,rfl,h1,h2⟩:=hasAllW_cons hsh
 obtain rfl:=hasAllW_nil h2
 obtain⟨xs,rfl,h3⟩:=hasW_list h1
 obtain⟨ns,rfl⟩:=items_int h3
 have hlen:ns.length<=n:=by
  unfold OpenLaw.pre at hc
  have h4:(WTm.not (.lt (.lit (.int (n:Int))) (.len (.arg 0)))).holds [] { args:=[.list (ns.map .int)] }=true:=by
   have h4:=(holds_andW hc).1
   rw[hn]at h4
   exact h4
  have h5:=condW_of h4 (w_not (w_lt w_lit (w_len_list (w_arg rfl))))
  rw[List.length_map]at h5
  refine Nat.le_of_not_lt λq=>?_
  have q':(n:Int)<((ns.length:Nat):Int):=by omega
  first
   | (rw[decide_eq_true q']at h5;exact absurd h5 (by decide))
   | (simp at h5;omega)
 cases hwl with
 | cons w1 w2 =>
  cases w2
  cases w1 with
  | list ho hall=>exact⟨_,_,ns,rfl,rfl,ho,md ns _ hall,hlen⟩
theorem yJ (l:OpenLaw) (args:List WData):l.row.toRowW.claim.post args (.bool true) args=true :=
 postW_of (r:=l.row.toRowW) (X:=(true == true))
  (show WShape.has [] (.bool true) .bool=true by first|rfl|decide|simp[WShape.has,WShape.arms,WShape.armsAll])
  (show(WTm.eq .res (.lit (.bool true))).value [] { args:=args,res:=some (.bool true),after:=args }=some (.bool (true == true))from w_eq_bool (w_res rfl) w_lit) rfl
theorem tu {l:OpenLaw}{n:Nat}{q:Program}{loose:List Str}{XP:(Str->Option Value)->Heap->Prop}{YP:World->Heap->Prop}{d:DefRec}
  (hn:l.most=some n) (hdf:d.params.defaults=[])
  (call:∀(w:World) (s₀ s₁:Shared) (mg mb:Str->Option Value) (fa:Addr) (o:Obj) (pm cd doc:Value) (a:Addr) (vs:List Value) (ns:List Int),
   Ground q loose [] XP w s₀ mg mb s₁.heap->YP w s₁.heap ->
   s₁.heap.get? fa=some o->o.data=.func (docDef d.name d.params d.body d.scope pm cd doc)->s₁.heap.CodeRec cd d.name->mg d.name=some (.ref fa) ->
   s₁.heap.get? a=some { cls:=.type "list",data:=.seq vs.toArray }->IntsAre vs ns->ns.length<=n->s₁.gens=#[] ->
   codeAny (model l.prog w) callerA (.call (.ref fa) ⟨[.ref a],[]⟩) (λr s'=>r=.ok (.ret (.bool true))/\OldK s₁.heap s'.heap/\s'.os=s₁.os/\AllBare s'.gens) s₁) :
  WalkO q loose XP YP l.row.toRowW d [] (λf vs=>PySem.call f vs):=by
 intro w s₀ s₁ mg mb G Y fa o pm cd doc dV kV ho hd hcd hD hmg hg args vals as hpre hlay hrd hwl hlo
 obtain rfl:dV=.none:=Dflts.none hD hdf
 obtain rfl:kV=.none:=Dflts.noKw hD
 obtain⟨a,vs,ns,rfl,rfl,hobj,hints,hlen⟩:=yI hn hpre hwl
 refine enter_call (codeAny_mono (call w s₀ s₁ mg mb fa o pm cd doc a vs ns G Y ho (fd_plain hd) hcd hmg hobj hints hlen hg) λr s' hq=>?_)
 obtain⟨rfl,h2,h3,h4⟩:=hq
 exact⟨.inl ⟨.bool true,.bool true,[],rfl,λ_=>rfl,.bool true,yJ l _,λ_=>⟨List.Pairwise.nil,λ_ hm=>(nomatch hm)⟩⟩,h2,h3,h4⟩
section
variable {prog:Program}{w:World}{A:Around}{E:Value->Shared->Prop}{s:Shared}{K:Frag}
theorem Gi {R:Result->Shared->Prop}{C fI:Addr}{a0:List Value}{kw:List (Str×Value)}
  (X:K.In s.heap) (hm:makesIn K C=true) (hi:findIn K (.ref C) "__init__" = some (some (.ref fI))) (hf:isFn K (.ref fI)=true)
  (h:codeAny (model prog w) (A.under (.builtin "type.__call__" ⟨.ref C::a0,kw⟩)) (.call (.ref fI) ⟨.ref (s.heap.objs.size+1)::a0,kw⟩) (InitBack (s.heap.objs.size+1) R)
   { s with heap:=(s.heap.push emptyDict).push (instObj C s.heap.objs.size) }):codeAny (model prog w) A (.call (.ref C) ⟨a0,kw⟩) R s:=by
 obtain⟨hh,g,d,t,os⟩:=s
 exact make_core (makes_of X hm) (looks_findIn X hi) (λself=>bind_fn X self (beq_iff_eq.mp hf)) (.inl rfl) h
theorem Fr {x C:Addr}{ox:Obj}{es:List DictEntry}{n:Nat}{name:Str}{expr:Bool}{v:Value}{Q:Value->Shared->Prop}
  (X:K.In s.heap) (I:PySem.W.InstAt s.heap x ox C (some (dictOf es n))) (hg:plainGet K C name=true) (hh:hasDictIn K C=true) (ha:findIn K (.ref C) name=some none)
  (hl:getL name es=some (some v)) (hv:handedIn v=true) (h:Q v { s with toks:=s.toks+1 }):wpAny (model prog w) A (getAttr (.ref x) name expr) Q E s :=
 get_value X I (plainGet_of hg).1 (findObj_own hh ha rfl hl) hv h
def Hm (h:Heap) (L d:Addr):List (Addr×Obj):=(List.range h.objs.size).filterMap λa=>if a=L∨a=d then none else (h.get? a).map λo=>(a,o)
end
end Att
namespace L2
open PySem PySem.Spec PyProof.Rows
theorem fH:∀ {vs:List Value}{ns:List Int},IntsAre vs ns->aP (ns.map V.int) vs
 | _,_,.nil=>.nil
 | _,_,.cons n t h=>.cons ⟨t,rfl⟩ (fH h)
def eY (s:Stmt):Arguments:=match s with
 | .FunctionDef _ a _ _ _ _ _ _ _ _=>a
 | _=>{ posonlyargs:=[],args:=[],vararg:=none,kwonlyargs:=[],kw_defaults:=[],kwarg:=none,defaults:=[] }
def c7 (s:Stmt):List Stmt:=match s with
 | .FunctionDef _ _ b _ _ _ _ _ _ _=>b
 | _=>[]
def ax (s:Stmt):Scope:=match s with
 | .FunctionDef _ _ _ _ _ _ sc _ _ _=>sc
 | _=>{ kind:=.function,names:=[],isGenerator:=false,isCoroutine:=false }
abbrev CX0:CXT:=λ_ _ _ _ _ _=>False
abbrev E0:XK:=λ_ _ _=>False
theorem Gj {X:Cx}:vU CX0 X E0:=λ_ _ _ _ _ _ _ h=>h.elim
structure Fun (K:PySem.W.Frag) (x qual:Str) (st:Stmt) (f:Addr) (fd:FuncData):Prop where
 ex:∃(oc:Value) (od:Option Addr) (kV doc pm:Value) (an:Option Addr) (cdv ct:Value) (osl:Array (Option Value)),
  fd=PySem.W.fnOf x qual (eY st) (c7 st) (ax st) .none kV doc pm an cdv ct/\K.lookup f=some ⟨oc,od,.func fd,osl⟩/\PySem.W.codeIn K cdv qual=true
 kp:PySem.W.keepIn K (.ref f)=true
section
variable {P:Program}{w:World}{K:PySem.W.Frag}{mg:Str->Option Value}{base:Heap}
theorem Fun.ok {x qual:Str}{st:Stmt}{f:Addr}{fd:FuncData}{N ps:List Str}{k:Nat}{sp:Sp}(F:Fun K x qual st f fd) (S:FnScope N ps (ax st)) (len:∀vs H Q E,sp vs H Q E->vs.length=ps.length)
  (hbody:∀(cdv:Value) (A:Around) (outer:List Env) (s:Shared) (H:Hp) (vs:List V) (Q:VK) (E:XK),Room k (A.deeper (envOfC qual (ax st) s.heap.objs.size f cdv))->sp vs H Q E ->
   ∃t,PSs (mF CX0 P w K mg base N qual (ax st) f cdv A outer s H E).nox (c7 st) t/\t { nx:=λ_ H'=>Q .non H',rt:=Q } (gz N vs) H):FnOk P w K mg base CX0 (k+1) f fd ps sp:=by
 obtain⟨oc,od,kV,doc,pm,an,cdv,ct,osl,rfl,lk,hcd⟩:=F.ex
 refine Dw lk hcd S len λA outer s H vs Q E hr hsp=>?_
 obtain⟨t,h,q⟩:=hbody cdv A outer s H vs Q E hr hsp
 exact⟨t,h.nox,q⟩
theorem Fun.binds {x qual:Str}{st:Stmt}{f:Addr}{fd:FuncData}{ps:List Str}(F:Fun K x qual st f fd)
  (h:∀(kV doc pm:Value) (an:Option Addr) (cdv ct:Value) (us:List Value),us.length=ps.length->bindArgs (PySem.W.fnOf x qual (eY st) (c7 st) (ax st) .none kV doc pm an cdv ct) ⟨us,[]⟩=pure (ps.zip us)):p9 K fd ps []:=by
 obtain⟨oc,od,kV,doc,pm,an,cdv,ct,osl,rfl,lk,hcd⟩:=F.ex
 exact .all (h kV doc pm an cdv ct)
theorem E6 {x qual:Str}{st:Stmt}{f:Addr}{oc:Value}{od an:Option Addr}{osl:Array (Option Value)}{kV doc pm cdv ct:Value}(l:K.lookup f=some ⟨oc,od,.func (PySem.W.fnOf x qual (eY st) (c7 st) (ax st) .none kV doc pm an cdv ct),osl⟩)
  (c:PySem.W.codeIn K cdv qual=true) (k:PySem.W.keepIn K (.ref f)=true):Fun K x qual st f (PySem.W.fnOf x qual (eY st) (c7 st) (ax st) .none kV doc pm an cdv ct):=⟨⟨oc,od,kV,doc,pm,an,cdv,ct,osl,rfl,l,c⟩,k⟩
end
def aJ (H H':Hp):Prop:=∀b o,H b=some o->H' b=some o
theorem aJ.refl (H:Hp):aJ H H:=λ_ _ h=>h
theorem aJ.trans {H H1 H2:Hp}(a:aJ H H1) (b:aJ H1 H2):aJ H H2:=λc o h=>b c o (a c o h)
theorem aJ.free {H H':Hp}(e:aJ H H') {l:Addr}(h:H' l=Option.none):H l=Option.none:=by
 cases q:H l with
 | none=>rfl
 | some o =>
  rw[e l o q]at h
  cases h
theorem aJ.seq {K:PySem.W.Frag}{H H':Hp}{a:Addr}{xs:List V}(e:aJ H H') (h:SqL K H a xs):SqL K H' a xs:=by
 rcases h with (h|⟨o,h⟩)|h
 ·exact .inl (.inl (e _ _ h))
 ·exact .inl (.inr ⟨o,e _ _ h⟩)
 ·exact .inr h
section
variable {κ:Type}[DecidableEq κ]
def gD (kvs:List (κ×V)) (k:κ):Option V:=(kvs.find? λkv=>decide (kv.1=k)).map (·.2)
def dX (kvs:List (κ×V)) (k:κ) (v:V):List (κ×V) :=
 if(kvs.any λkv=>decide (kv.1=k))=true then kvs.map (λkv=>if kv.1=k then (kv.1,v)else kv)else kvs++[(k,v)]
theorem j4 {p:κ×V}{r:List (κ×V)}{k:κ}(e:p.1=k):gD (p::r) k=some p.2:=by simp[gD,List.find?_cons,e]
theorem j5 {p:κ×V}{r:List (κ×V)}{k:κ}(e:¬p.1=k):gD (p::r) k=gD r k:=by simp[gD,List.find?_cons,e]
theorem mH (k:κ):∀kvs:List (κ×V),(kvs.any λkv=>decide (kv.1=k))=(gD kvs k).isSome
 | []=>rfl
 | p::r=>by
  rw[List.any_cons]
  by_cases e:p.1=k
  ·simp only[j4 e,decide_eq_true e,Bool.true_or,Option.isSome_some]
  ·rw[j5 e,decide_eq_false e,Bool.false_or];exact mH k r
theorem eZ (kvs:List (κ×V)) (k:κ) (v:V):(dX kvs k v).length<=kvs.length+1:=by
 unfold dX
 split
 ·rw[List.length_map];omega
 ·rw[List.length_append,List.length_cons,List.length_nil];omega
theorem tw {kvs:List (κ×V)}{k:κ}(v:V) (h:gD kvs k=none):dX kvs k v=kvs++[(k,v)]:=by
 unfold dX
 rw[mH,h]
 exact if_neg (by decide)
theorem iB.isSome_eq {o:Option V}{u:Option Value}(r:iB o u):o.isSome=u.isSome:=by
 cases o with
 | none=>cases u with
  | none=>rfl
  | some _=>exact(show False from r).elim
 | some _=>cases u with
  | none=>exact(show False from r).elim
  | some _=>rfl
theorem iB.getD {o:Option V}{u:Option Value}{d:V}{d':Value}(r:iB o u) (rd:aN d d'):aN (o.getD d) (u.getD d'):=by
 cases o with
 | none=>cases u with
  | none=>exact rd
  | some _=>exact(show False from r).elim
 | some _=>cases u with
  | none=>exact(show False from r).elim
  | some _=>exact r
theorem KV.val {kvs:List (κ×V)}{vs:List (κ×Value)}(r:KV kvs vs) (k:κ):iB (gD kvs k) (valueAt vs k):=by
 unfold KV at r
 induction r with
 | nil=>exact True.intro
 | @cons p q ps qs h t ih =>
  obtain⟨h1,h2⟩:=h
  by_cases e:p.1=k
  ·have e':q.1=k:=h1.symm.trans e
   have b:valueAt (q::qs) k=some q.2:=by simp[valueAt,List.find?_cons,e']
   rw[j4 e,b];exact h2
  ·have e':¬q.1=k:=λz=>e (h1.trans z)
   have b:valueAt (q::qs) k=valueAt qs k:=by simp[valueAt,List.find?_cons,e']
   rw[j5 e,b];exact ih
theorem KV.any {kvs:List (κ×V)}{vs:List (κ×Value)}(r:KV kvs vs) (k:κ):(kvs.any λkv=>decide (kv.1=k))=vs.any λkv=>decide (kv.1=k):=by
 unfold KV at r
 induction r with
 | nil=>rfl
 | cons h t ih=>rw[List.any_cons,List.any_cons,ih,h.1]
theorem KV.repl {kvs:List (κ×V)}{vs:List (κ×Value)}(r:KV kvs vs) (k:κ) {y:V}{u:Value}(ry:aN y u) :
  KV (kvs.map λkv=>if kv.1=k then (kv.1,y)else kv) (vs.map λkv=>if kv.1=k then (kv.1,u)else kv):=by
 unfold KV at r ⊢
 induction r with
 | nil=>exact .nil
 | @cons p q ps qs h t ih =>
  rw[List.map_cons,List.map_cons]
  refine .cons ?_ ih
  obtain⟨h1,h2⟩:=h
  by_cases e:p.1=k
  ·rw[if_pos e,if_pos (h1.symm.trans e)];exact⟨h1,ry⟩
  ·rw[if_neg e,if_neg (λz=>e (h1.trans z))];exact⟨h1,h2⟩
theorem KV.put {kvs:List (κ×V)}{vs:List (κ×Value)}(r:KV kvs vs) (k:κ) {y:V}{u:Value}(ry:aN y u):KV (dX kvs k y) (stored vs k u):=by
 unfold dX stored
 rw[r.any k]
 by_cases e:(vs.any λkv=>decide (kv.1=k))=true
 ·rw[if_pos e,if_pos e];exact r.repl k ry
 ·rw[if_neg e,if_neg e];exact Paired.snoc r ⟨rfl,ry⟩
theorem KV.length {kvs:List (κ×V)}{vs:List (κ×Value)}(r:KV kvs vs):kvs.length=vs.length:=Paired.length r
end
theorem pG {P:Program}{w:World}{k:Key}{u:Value}(r:aN (kV k) u):(bP P w).is k u=true:=by
 cases k with
 | inl i=>obtain⟨t,e⟩:=(show ∃t,u=Value.int i t from r);subst e;exact sV P w i t
 | inr x=>obtain⟨t,e⟩:=(show ∃t,u=Value.str x t from r);subst e;exact sW P w x t
theorem pH {P:Program}{w:World}:∀ {ks:List Key}{us:List Value},aP (ks.map kV) us->ItemsAre (bP P w) ks us
 | [],_,r=>by rw[List.map_nil]at r;cases r;exact .nil
 | k::ks,_,r=>by
  rw[List.map_cons]at r
  cases r with
  | cons h t=>exact .cons (pG h) (pH t)
abbrev KT (H:Hp):List (List Key×V)->List (List Key×Addr×Value)->Prop:=Paired λp q=>p.1=q.1/\H q.2.1=some (.tup (p.1.map kV))/\aN p.2 q.2.2
theorem KT.val {H:Hp}{kvs:List (List Key×V)}{xs:List (List Key×Addr×Value)}(r:KT H kvs xs) (k:List Key):iB (gD kvs k) ((atKey xs k).map (·.2)):=by
 induction r with
 | nil=>exact True.intro
 | @cons p q ps qs h t ih =>
  obtain⟨h1,_,h2⟩:=h
  by_cases e:p.1=k
  ·have e':q.1=k:=h1.symm.trans e
   have b:atKey (q::qs) k=some q.2:=by simp[atKey,List.find?_cons,e']
   rw[j4 e,b];exact h2
  ·have e':¬q.1=k:=λz=>e (h1.trans z)
   have b:atKey (q::qs) k=atKey qs k:=by simp[atKey,List.find?_cons,e']
   rw[j5 e,b];exact ih
theorem KT.repl {H:Hp}{kvs:List (List Key×V)}{xs:List (List Key×Addr×Value)}(r:KT H kvs xs) (k:List Key) {y:V}{u:Value}(ry:aN y u) :
  KT H (kvs.map λkv=>if kv.1=k then (kv.1,y)else kv) (xs.map (putAt k u)):=by
 induction r with
 | nil=>exact .nil
 | @cons p q ps qs h t ih =>
  rw[List.map_cons,List.map_cons]
  refine .cons ?_ ih
  obtain⟨h1,h2,h3⟩:=h
  unfold putAt
  by_cases e:p.1=k
  ·rw[if_pos e,if_pos (h1.symm.trans e)];exact⟨h1,h2,ry⟩
  ·rw[if_neg e,if_neg (λz=>e (h1.trans z))];exact⟨h1,h2,h3⟩
theorem KT.put {H:Hp}{kvs:List (List Key×V)}{xs:List (List Key×Addr×Value)}(r:KT H kvs xs) (k:List Key) {b:Addr}{y:V}{u:Value}(hb:H b=some (.tup (k.map kV))) (ry:aN y u) :
  KT H (dX kvs k y) (storedH xs k b u):=by
 have e:(kvs.any λkv=>decide (kv.1=k))=(atKey xs k).isSome:=by
  rw[mH,(r.val k).isSome_eq,Option.isSome_map]
 unfold dX storedH
 rw[e]
 by_cases q:(atKey xs k).isSome=true
 ·rw[if_pos q,if_pos q];exact r.repl k ry
 ·rw[if_neg q,if_neg q];exact Paired.snoc r ⟨rfl,hb,ry⟩
theorem KT.keeps {H H':Hp}{kvs:List (List Key×V)}{xs:List (List Key×Addr×Value)}(r:KT H kvs xs) (ht:∀b ys,H b=some (.tup ys)->H' b=some (.tup ys)):KT H' kvs xs :=
 Paired.mapP r λ_ _ z=>⟨z.1,ht _ _ z.2.1,z.2.2⟩
section
variable {P:Program}{w:World}{H:Hp}{h:Heap}{a:Addr}
theorem Dz {u:HO}(ok:HOk P w H h) (e:Rd H a u):bH P w H h a u:=e.ok ok
theorem tz {kvs:List (Key×V)}(ok:HOk P w H h) (e:Rd H a (.dK kvs)):kvs.length<=sizeLine/\(a == sysModules)=false/\∃vs,KV kvs vs/\h.DictOf (bP P w) a vs :=
 show bH P w H h a (.dK kvs)from Dz ok e
theorem zV {kvs:List (Key×V)}(ok:HOk P w H h) (e:H a=some (.dK kvs)):kvs.length<=sizeLine/\(a == sysModules)=false/\∃vs,KV kvs vs/\h.DictOf (bP P w) a vs:=tz ok (.inl e)
theorem rj {ks:List Key}(ok:HOk P w H h) (e:H a=some (.tup (ks.map kV))):(tupleKind (bP P w)).is h ks a:=by
 obtain⟨_,its,r,o,h1,h2,n,h3⟩:=(show bH P w H h a (.tup (ks.map kV))from ok a _ e)
 exact⟨o,its.toArray,n,h1,h2,h3,by simpa using pH r⟩
theorem t4 {kvs:List (List Key×V)}(ok:HOk P w H h) (e:Rd H a (.dT kvs)):kvs.length<=sizeLine/\(a == sysModules)=false /\
  ∃xs,KT H kvs xs/\h.DictOfH (tupleKind (bP P w)) a xs:=by
 obtain⟨z,y,xs,r,o,es,ep,h1,h2,h3,h4,h5⟩:=(show bH P w H h a (.dT kvs)from Dz ok e)
 refine⟨z,y,xs,r,o,es,ep,h1,h2,h3,h4,λx hx=>?_,h5⟩
 have all:∀ {l:List (List Key×V)}{m:List (List Key×Addr×Value)},KT H l m->∀x∈m,(tupleKind (bP P w)).is h x.1 x.2.1:=by
  intro l m q
  induction q with
  | nil=>intro x hx;exact nomatch hx
  | @cons p q ps qs hq t ih =>
   intro x hx
   rcases List.mem_cons.mp hx with e|hx
   ·subst e
    exact rj ok (by rw[←hq.1];exact hq.2.1)
   ·exact ih x hx
 exact all r x hx
theorem Gk {kvs:List (List Key×V)}(ok:HOk P w H h) (e:H a=some (.dT kvs)):kvs.length<=sizeLine/\(a == sysModules)=false /\
  ∃xs,KT H kvs xs/\h.DictOfH (tupleKind (bP P w)) a xs:=t4 ok (.inl e)
end
def rm (H:Hp) (a:Addr) (y:V) (r:Option V):Prop :=
 (∃kvs k,Rd H a (.dK kvs)/\y=kV k/\r=gD kvs k) ∨ ∃kvs k b,Rd H a (.dT kvs)/\y=.ref b/\H b=some (.tup (k.map kV))/\r=gD kvs k
def yK (H:Hp) (a:Addr) (y v:V) (H':Hp):Prop :=
 (∃kvs k,H a=some (.dK kvs)/\y=kV k/\kvs.length<sizeLine/\H'=upd H a (.dK (dX kvs k v))) ∨
 ∃kvs k b,H a=some (.dT kvs)/\y=.ref b/\H b=some (.tup (k.map kV))/\kvs.length<sizeLine/\H'=upd H a (.dT (dX kvs k v))
theorem rm.k {H:Hp}{a:Addr}{kvs:List (Key×V)}{k:Key}(e:H a=some (.dK kvs)):rm H a (kV k) (gD kvs k):=.inl ⟨kvs,k,.inl e,rfl,rfl⟩
theorem rm.t {H:Hp}{a b:Addr}{kvs:List (List Key×V)}{k:List Key}(e:H a=some (.dT kvs)) (eb:H b=some (.tup (k.map kV))):rm H a (.ref b) (gD kvs k):=.inr ⟨kvs,k,b,.inl e,rfl,eb,rfl⟩
theorem yK.k {H:Hp}{a:Addr}{kvs:List (Key×V)}{k:Key}{v:V}(e:H a=some (.dK kvs)) (hl:kvs.length<sizeLine):yK H a (kV k) v (upd H a (.dK (dX kvs k v))):=.inl ⟨kvs,k,e,rfl,hl,rfl⟩
theorem yK.t {H:Hp}{a b:Addr}{kvs:List (List Key×V)}{k:List Key}{v:V}(e:H a=some (.dT kvs)) (eb:H b=some (.tup (k.map kV))) (hl:kvs.length<sizeLine) :
  yK H a (.ref b) v (upd H a (.dT (dX kvs k v))):=.inr ⟨kvs,k,b,e,rfl,eb,hl,rfl⟩
section
variable {X:Cx}{pins:List (Addr×Obj)}{σ:St}{H:Hp}{s:Shared}{a:Addr}{y v:V}{u r:Value}{o:Option V}{A:Around}{E:Value->Shared->Prop}
theorem Inv.big (I:Inv X pins σ H s):sysModules<s.heap.objs.size:=by
 have h:mainGlobals<s.heap.objs.size:=(I.mod.glob.keeps I.bk).lt
 exact Nat.lt_trans (by decide) h
theorem yL {Q:Value->Shared->Prop}(hu:A.units+1<cLine) (I:Inv X pins σ H s) (g:rm H a y (some v)) (ry:aN y u) (h:∀w' s',Inv X pins σ H s'->aN v w'->Q w' s') :
  wpAny (model X.prog X.w) A (getItem (.ref a) u) Q E s:=by
 rcases g with ⟨kvs,k,e,ey,l⟩|⟨kvs,k,b,e,ey,eb,l⟩
 ·subst ey
  obtain⟨z,hd,vs,rel,dd⟩:=tz I.hok e
  obtain⟨w',hw,rw'⟩:=iB.some_of (v:=v) (o:=valueAt vs k) (by rw[l];exact rel.val k)
  exact wpAny_getItem_of (pG ry) dd.mapOf hw (h w' _ (I.tok _) rw')
 ·subst ey
  cases (show u=Value.ref b from ry)
  obtain⟨z,hd,xs,rel,dd⟩:=t4 I.hok e
  obtain⟨w',hw,rw'⟩:=iB.some_of (v:=v) (o:=(atKey xs k).map (·.2)) (by rw[l];exact rel.val k)
  obtain⟨p,hp,hp2⟩:=oY hw
  refine wpAny_getItem_heap (tupleKind_room_in1 hu) (rj I.hok eb) dd hp ?_
  rw[hp2]
  exact h w' _ (I.tok _) rw'
theorem ms {h':Heap}{t':Nat}{ob:HO}(I:Inv X pins σ H s) (mu:Mut (H a)) (hs:Heap.SameBut a s.heap h') (he:∃q,h'.get? a=some q) (new:bH X.prog X.w (upd H a ob) h' a ob) :
  Inv X pins σ (upd H a ob) { s with heap:=h',toks:=t' } :=
 I.write (x:=a) (e:=a) mu (.inl rfl) (λb q hb z=>(hs.2 b hb).trans z) he new
theorem vZ {P:Program}{w:World}{H':Hp}{h':Heap}{kvs:List (Key×V)}{vs:List (Key×Value)}(z:kvs.length<=sizeLine) (hd:(a == sysModules)=false) (rel:KV kvs vs) (dd:h'.DictOf (bP P w) a vs) :
  bH P w H' h' a (.dK kvs):=⟨z,hd,vs,rel,dd⟩
theorem yM {H':Hp}{Q:Unit->Shared->Prop}(hu:A.units+1<cLine) (I:Inv X pins σ H s) (g:yK H a y v H') (ry:aN y u) (rv:aN v r) (h:∀s',Inv X pins σ H' s'->Q () s') :
  wpAny (model X.prog X.w) A (setItem (.ref a) u r) Q E s:=by
 rcases g with ⟨kvs,k,e,ey,l,eH⟩|⟨kvs,k,b,e,ey,eb,l,eH⟩
 ·subst ey eH
  obtain⟨z,hd,vs,rel,dd⟩:=zV I.hok e
  have hz:vs.length<=sizeLine:=by rw[←rel.length];exact z
  have hl:(dX kvs k v).length<=sizeLine:=by have:=eZ kvs k v;omega
  refine wpAny_setItem_pairs (hsz:=hz) (pG ry) dd λh' dd' hs=>h _ ?_
  have he:∃q,h'.get? a=some q:=let ⟨q,_,_,hq,_⟩:=dd';⟨q,hq⟩
  exact ms I (by rw[e];exact True.intro) hs he (vZ hl hd (rel.put k rv) dd')
 ·subst ey eH
  cases (show u=Value.ref b from ry)
  obtain⟨z,hd,xs,rel,dd⟩:=Gk I.hok e
  have hz:xs.length<=sizeLine:=by rw[←Paired.length rel];exact z
  have hl:(dX kvs k v).length<=sizeLine:=by have:=eZ kvs k v;omega
  refine wpAny_setItem_heap (hsz:=hz) (tupleKind_room_in1 hu) (rj I.hok eb) dd λh' dd' hs=>h _ ?_
  obtain⟨q,es,ep,hq,h2,h3,h4,_,h5⟩:=dd'
  refine ms I (by rw[e];exact True.intro) hs ⟨q,hq⟩ ⟨hl,hd,_,(rel.put k eb rv).keeps λc ys ec=>?_,q,es,ep,hq,h2,h3,h4,h5⟩
  rw[a9 (F7 ec e (λz=>nomatch z))]
  exact ec
end
def E7 (i:Expr):Prop:=∀ov iv,subscripted i false ov iv=operate [ov,iv] (getItem ov iv)
theorem BV {prog:Program}{w:World}{A:Around}{E:Value->Shared->Prop}{s:Shared}{env:Env}{value slice:Expr}{pos:Pos}{T id:String}{Q:Value->Shared->Prop}
  (hl:typeLookup (.type T) "__getitem__" = pure (some (.builtin id))) (hs:E7 slice)
  (h:wpAny (model prog w) A (eval value env) (λo s₁=>wpAny (model prog w) A (eval slice env) (λi s₂=>s₂.TypeIs o T/\wpAny (model prog w) A (getItem o i) Q E s₂) E s₁) E s) :
  wpAny (model prog w) A (eval (.Subscript value slice pos) env) Q E s:=by
 refine Subscript_ (wpAny_mono h (λo s₁ h₁=>wpAny_mono h₁ (λi s₂ h₂=>?_) λ_ _ x=>x) λ_ _ x=>x)
 obtain⟨hT,h₂⟩:=h₂
 unfold subscriptTail
 refine wX ?_
 rw[getitemInPython_of_ne hT.not_modules]
 refine wX (wpAny_specialOf hT hl ?_)
 have fin:wpAny (model prog w) A (subscripted slice false o i) (λr s₃=>wpAny (model prog w) A (letTemporaryGo value o r>>=λ_=>pure r) Q E s₃) E s₂:=by
  rw[hs o i]
  exact wpAny_operating (wpAny_mono h₂ (λr s₃ h₃=>wX (wpAny_letTemporaryGo (wY h₃))) λ_ _ x=>x)
 first
  | exact wY (wX fin)
  | exact wX (wY (wX fin))
  | exact wX fin
theorem t6 {X:Cx}{pins:List (Addr×Obj)}{σ:St}{H:Hp}{s:Shared}{a:Addr}{y:V}{o:Option V}(I:Inv X pins σ H s) (g:rm H a y o):s.TypeIs (.ref a) "dict":=by
 rcases g with ⟨kvs,k,e,_,_⟩|⟨kvs,k,b,e,_,_,_⟩
 ·obtain⟨_,_,vs,_,dd⟩:=tz I.hok e
  exact dd.typeIs
 ·obtain⟨_,_,xs,_,dd⟩:=t4 I.hok e
  exact dd.typeIs
def Gm (td ty:TE):TE:=λσ H Q=>td σ H λx H1=>ty σ H1 λy H2=>∃a v,x=.ref a/\rm H2 a y (some v)/\Q v H2
def zW (td ty tv:TE):TS:=λD σ H=>tv σ H λv H1=>td σ H1 λx H2=>ty σ H2 λy H3=>∃a H4,x=.ref a/\yK H3 a y v H4/\D.nx σ H4
section
variable {X:Cx}{o i e value:Expr}{pos pos' tpos:Pos}{td ty tv:TE}
theorem BW (hu:X.A.units+1<cLine) (ho:PE X o td) (hi:PE X i ty) (hs:E7 i):PE X (.Subscript o i pos) (Gm td ty):=by
 intro pins s σ H Q I h
 refine BV PySem.F.slot_dict_getitem.lookup hs (thn (ho pins s σ H _ I h) λu s1 ⟨x,H1,I1,rx,q1⟩=>thn (hi pins s1 σ H1 _ I1 q1) λiv s2 ⟨y,H2,I2,ry,a,v,ex,g,q2⟩=>?_)
 subst ex
 obtain rfl:u=Value.ref a:=rx
 exact⟨t6 I2 g,yL hu I2 g ry λw' s3 I3 rw'=>⟨v,H2,I3,rw',q2⟩⟩
theorem xu (hu:X.A.units+1<cLine) (ho:PE X o td) (hi:PE X i ty) (hv:PE X value tv) (hs:swapsWith value (some (.Subscript o i pos')) pos.line X.env=pure false) :
  PS X (.Assign [.Subscript o i pos'] value pos) (zW td ty tv):=by
 intro pins s σ H D I h
 refine wpAny_Assign_Subscript (thn (hv pins s σ H _ I h) λr s1 ⟨v,H1,I1,rv,q1⟩=>thn (ho pins s1 σ H1 _ I1 q1) λu s2 ⟨x,H2,I2,rx,q2⟩=>thn (hi pins s2 σ H2 _ I2 q2) λiv s3 ⟨y,H3,I3,ry,a,H4,ex,g,q3⟩=>?_) hs
 subst ex
 obtain rfl:u=Value.ref a:=rx
 exact yM hu I3 g ry rv λs4 I4=>⟨σ,H4,I4,q3⟩
end
theorem t7 {P:Program}{w:World}{H:Hp}(h:Heap) (hb:sysModules<h.objs.size):bH P w H (h.push { cls:=.type "dict",data:=.dict #[] }) h.objs.size (.dK []) :=
 ⟨Nat.zero_le _,beq_eq_false_iff_ne.mpr (Ne.symm (Nat.ne_of_lt hb)),[],.nil,Heap.DictOf.new h⟩
theorem zX {P:Program}{w:World}{H:Hp}(h:Heap) (hb:sysModules<h.objs.size):bH P w H (h.push { cls:=.type "dict",data:=.dict #[] }) h.objs.size (.dT []) :=
 ⟨Nat.zero_le _,beq_eq_false_iff_ne.mpr (Ne.symm (Nat.ne_of_lt hb)),[],.nil,_,#[],0,Heap.get?_push_size _ rfl,⟨rfl,rfl,rfl⟩,rfl,rfl,List.nodup_nil⟩
def zY:TE:=λ_ H Q=>∀p,H p=none->Q (.ref p) (upd H p (.dT []))
section
variable {X:Cx}{pos:Pos}
theorem zZ:PE X (.Dict [] [] pos) zY:=λpins s σ H Q I h =>
 wpAny_Dict_empty ⟨.ref s.heap.objs.size,_,I.laid (a:=s.heap.objs.size) (o:=.dT []) (t':=s.toks) (λ_ _ q=>Heap.get?_push_of_some _ q) (Nat.le_refl _) (zX s.heap I.big),rfl,h _ (I.hok.fresh (Nat.le_refl _))⟩
end
def ro:List (TE×TE)->St->Hp->(List (V×V)->Hp->Prop)->Prop
 | [],_,H,Q=>Q [] H
 | (tk,tv)::r,σ,H,Q=>tk σ H λx H1=>tv σ H1 λy H2=>ro r σ H2 λps H3=>Q ((x,y)::ps) H3
abbrev VV:List (V×V)->List (Value×Value)->Prop:=Paired λp q=>aN p.1 q.1/\aN p.2 q.2
def PPs (X:Cx) (pos:Pos) (keys:List (Option Expr)) (values:List Expr) (trs:List (TE×TE)):Prop :=
 ∀(pins:List (Addr×Obj)) (s:Shared) (σ:St) (H:Hp) (Q:List (V×V)->Hp->Prop),Inv X pins σ H s->ro trs σ H Q ->
  wpAny (model X.prog X.w) X.A (evalPairs (pairTrees keys values X.env pos)) (λvs s'=>∃ps H',Inv X pins σ H' s'/\VV ps vs/\Q ps H') X.xe s
theorem BX {X:Cx}{pos:Pos}:PPs X pos [] [] []:=λpins s σ H Q I h=>pairTrees_nil_walk ⟨[],H,I,.nil,h⟩
theorem Aa {X:Cx}{pos:Pos}{k v:Expr}{ks:List (Option Expr)}{vs:List Expr}{tk tv:TE}{trs:List (TE×TE)}(hk:PE X k tk) (hv:PE X v tv) (hr:PPs X pos ks vs trs) :
  PPs X pos (some k::ks) (v::vs) ((tk,tv)::trs):=λpins s σ H Q I h =>
 pairTrees_cons_walk (thn (hk pins s σ H _ I h) λu s1 ⟨x,H1,I1,rx,q1⟩=>thn (hv pins s1 σ H1 _ I1 q1) λw2 s2 ⟨y,H2,I2,ry,q2⟩ =>
  thn (hr pins s2 σ H2 _ I2 q2) λws s3 ⟨ps,H3,I3,rel,q3⟩=>⟨(x,y)::ps,H3,I3,.cons ⟨rx,ry⟩ rel,q3⟩)
def iV (kvs more:List (Key×V)):List (Key×V):=more.foldl (λacc kv=>dX acc kv.1 kv.2) kvs
theorem KV.merge:∀ {more:List (Key×V)}{rs:List (Key×Value)}{kvs:List (Key×V)}{vs:List (Key×Value)},KV more rs->KV kvs vs->KV (iV kvs more) (merged vs rs):=by
 intro more rs kvs vs r
 unfold KV at r
 induction r generalizing kvs vs with
 | nil=>intro q;exact q
 | @cons p q ps qs h t ih =>
  intro r0
  have e:KV (dX kvs p.1 p.2) (stored vs q.1 q.2):=by
   have:=r0.put p.1 h.2
   rw[←h.1];exact this
  exact ih e
theorem iH:∀(more kvs:List (Key×V)),(iV kvs more).length<=kvs.length+more.length
 | [],kvs=>by show kvs.length<=kvs.length+0;omega
 | p::r,kvs=>by
  have h1:=iH r (dX kvs p.1 p.2)
  have h2:=eZ kvs p.1 p.2
  show(iV (dX kvs p.1 p.2) r).length<=_
  rw[List.length_cons];omega
theorem mI {P:Program}{w:World}:∀ {kvs:List (Key×V)}{ws:List (Value×Value)},VV (kvs.map λkv=>(kV kv.1,kv.2)) ws->∃rs,Carries (bP P w) ws rs/\KV kvs rs
 | [],_,r=>by rw[List.map_nil]at r;cases r;exact⟨[],True.intro,.nil⟩
 | p::kvs,_,r=>by
  rw[List.map_cons]at r
  cases r with
  | @cons a b as bs h t =>
   obtain⟨rs,c,q⟩:=mI (P:=P) (w:=w) t
   obtain⟨b1,b2⟩:=b
   exact⟨(p.1,b2)::rs,⟨pG h.1,rfl,c⟩,.cons ⟨rfl,h.2⟩ q⟩
def D0 (trs:List (TE×TE)):TE:=λσ H Q=>∀p,H p=none->ro trs σ (upd H p (.dK [])) λps H2=>H2 p=some (.dK [])/\∃kvs:List (Key×V),ps=kvs.map (λkv=>(kV kv.1,kv.2))/\kvs.length<=15/\Q (.ref p) (upd H2 p (.dK (iV [] kvs)))
theorem BY {X:Cx}{pos:Pos}{keys:List (Option Expr)}{values:List Expr}{trs:List (TE×TE)}(h:PPs X pos keys values trs) (hall:keys.all (·.isSome)=true) (hl:keys.length=values.length) (h0:keys≠[])
  (h15:keys.length<=15):PE X (.Dict keys values pos) (D0 trs):=by
 intro pins s σ H Q I q
 have hn:=I.hok.fresh (Nat.le_refl s.heap.objs.size)
 have I1:=I.laid (a:=s.heap.objs.size) (o:=.dK []) (h':=s.heap.push { cls:=.type "dict",data:=.dict #[] }) (t':=s.toks) (λ_ _ q=>Heap.get?_push_of_some _ q) (Nat.le_refl _) (t7 s.heap I.big)
 refine wpAny_Dict_walk (knd:=bP X.prog X.w) hall hl h0 h15 (thn (h pins _ σ _ _ I1 (q _ hn)) λws s2 ⟨ps,H2,I2,rel,e,kvs,ep,lk,q2⟩=>?_)
 subst ep
 obtain⟨rs,c,rk⟩:=mI (P:=X.prog) (w:=X.w) rel
 obtain⟨z,hd,vs0,r0,dd⟩:=zV I2.hok e
 cases r0
 refine⟨rs,c,dd,λh' dd' hs=>⟨.ref s.heap.objs.size,_, ?_,rfl,q2⟩⟩
 have hz:(iV [] kvs).length<=sizeLine:=by
  have h1:=iH kvs []
  rw[List.length_nil]at h1
  rw[sizeLine_eq];omega
 have he:∃q,h'.get? s.heap.objs.size=some q:=let ⟨q,_,_,hq,_⟩:=dd';⟨q,hq⟩
 exact ms I2 (by rw[e];exact True.intro) hs he (vZ hz hd (rk.merge .nil) dd')
structure M1 (X:Cx) (o:Expr) (m:Str) (apos:Pos) (e:Expr) (cpos:Pos):Prop where
 base:attributeBase o m X.env (eval o X.env)=eval o X.env
 few:((backTo cpos (starEach [e] X.env)).all (λx=>!x.1) && (backToKw cpos (keywordEach [] X.env)).all (λx=>x.1.isSome)
  && decide (([e]:List Expr).length+([]:List Keyword).length+(if([]:List Keyword).isEmpty then 0 else 1)<30))=true
 line:(apos.endLine == cpos.line)=true
 trees:backTo cpos (starEach [e] X.env)=[(false,eval e X.env)]
def IsD (H:Hp) (a:Addr):Prop:=(∃kvs,Rd H a (.dK kvs)) ∨ ∃kvs,Rd H a (.dT kvs)
theorem E8 {X:Cx}{pins:List (Addr×Obj)}{σ:St}{H:Hp}{s:Shared}{a:Addr}(I:Inv X pins σ H s) (d:IsD H a) :
  s.TypeIs (.ref a) "dict"/\(∀b,Value.ref a=.ref b->∃ob,s.heap.get? b=some ob/\ob.dict=none)/\(a == sysModules)=false:=by
 rcases d with ⟨kvs,e⟩|⟨kvs,e⟩
 ·obtain⟨_,hd,vs,_,dd⟩:=tz I.hok e
  refine⟨dd.typeIs,λb q=>?_,hd⟩
  cases q
  obtain⟨ob,_,_,h1,h2,_⟩:=dd
  exact⟨ob,h1,h2.2.1⟩
 ·obtain⟨_,hd,xs,_,dd⟩:=t4 I.hok e
  refine⟨dd.typeIs,λb q=>?_,hd⟩
  cases q
  obtain⟨ob,_,_,h1,h2,_⟩:=dd
  exact⟨ob,h1,h2.2.1⟩
section
variable {X:Cx}{pins:List (Addr×Obj)}{σ:St}{H:Hp}{s:Shared}{a:Addr}{y d:V}{u r:Value}{o:Option V}{A:Around}{E:Value->Shared->Prop}
theorem E9 {Q:Value->Shared->Prop}(hu:A.units+1<cLine) (I:Inv X pins σ H s) (g:rm H a y o) (ry:aN y u) (h:∀w' s',Inv X pins σ H s'->aN (o.getD .non) w'->Q w' s') :
  wpAny (model X.prog X.w) A (call (.builtin "dict.get") [.ref a,u]) Q E s:=by
 rcases g with ⟨kvs,k,e,ey,l⟩|⟨kvs,k,b,e,ey,eb,l⟩
 ·subst ey
  obtain⟨z,hd,vs,rel,dd⟩:=tz I.hok e
  refine call_meetsIn PySem.F.slot_dict_get dd.typeIs PySem.F.entry_dict_get (PySem.F.args_dict_get_2 _ _) (meets_dict_get (bP X.prog X.w) a (pG ry) hd) ⟨_,dd.mapOf,h _ _ (I.tok _) ?_⟩
  rw[l]
  exact(rel.val k).getD rfl
 ·subst ey
  cases (show u=Value.ref b from ry)
  obtain⟨z,hd,xs,rel,dd⟩:=t4 I.hok e
  refine call_meetsIn PySem.F.slot_dict_get dd.typeIs PySem.F.entry_dict_get (PySem.F.args_dict_get_2 _ _) (meetsH_dict_get (tupleKind (bP X.prog X.w)) a b hd) ⟨tupleKind_room_in1 hu,k,xs,rj I.hok eb,dd,h _ _ (I.tok _) ?_⟩
  rw[l]
  exact(rel.val k).getD rfl
end
def EA (td ty:TE):TE:=λσ H Q=>td σ H λx H1=>∃a,x=.ref a/\IsD H1 a/\ty σ H1 λy H2=>∃o,rm H2 a y o/\Q (o.getD .non) H2
section
variable {X:Cx}{o e f:Expr}{apos cpos:Pos}{td ty tx:TE}
theorem t8 (hu:X.A.units+1<cLine) (ho:PE X o td) (he:PE X e ty) (m:M1 X o "get" apos e cpos):PE X (.Call (.Attribute o "get" apos) [e] [] cpos) (EA td ty):=by
 intro pins s σ H Q I h
 refine wpAny_Call_method m.base m.few m.line PySem.F.plainAttrs_dict PySem.F.slot_dict_get PySem.F.type_dict_get (thn (ho pins s σ H _ I h) λu s1 ⟨x,H1,I1,rx,a,ex,d,q1⟩=>?_)
 subst ex
 obtain rfl:u=Value.ref a:=rx
 obtain⟨t1,t2,_⟩:=E8 I1 d
 refine⟨t1,t2, ?_⟩
 rw[m.trees]
 refine Calls.callWith_builtin rfl (Calls.evalArgs_plain (Calls.spliced_cons (thn (he pins s1 σ H1 _ I1 q1) λiv s2 ⟨y,H2,I2,ry,ov,g,q2⟩=>Calls.spliced_nil ?_)))
 exact E9 hu I2 g ry λw' s3 I3 rw'=>⟨_,H2,I3,rw',q2⟩
end
end L2
namespace DL
open PySem L2
set_option linter.all false
abbrev St:=L2.St
inductive D where
 | non|bl (b:Bool)|int (i:Int)|str (x:Str)|ty (n:String)|tup (ds:List D)|lst (ds:List D)
  | dk (ks:List Key) (vs:List D)|dt (ks:List (List Key)) (vs:List D)
mutual
inductive Is (K:PySem.W.Frag) (H:Hp):V->D->Prop where
 | non:Is K H .non .non
 | bl (b:Bool):Is K H (.bl b) (.bl b)
 | int (i:Int):Is K H (.int i) (.int i)
 | str (x:Str):Is K H (.str x) (.str x)
 | ty (n:String):Is K H (.ty n) (.ty n)
 | tup {a:Addr}{vs:List V}{ds:List D}(h:SqT K H a vs) (hs:IsL K H vs ds):Is K H (.ref a) (.tup ds)
 | lst {a:Addr}{vs:List V}{ds:List D}(h:SqL K H a vs) (hs:IsL K H vs ds):Is K H (.ref a) (.lst ds)
 | dk {a:Addr}{ks:List Key}{vs:List V}{ds:List D}(h:H a=some (.dK (ks.zip vs))) (hl:ks.length=vs.length) (hs:IsL K H vs ds):Is K H (.ref a) (.dk ks ds)
 | dt {a:Addr}{ks:List (List Key)}{vs:List V}{ds:List D}(h:H a=some (.dT (ks.zip vs))) (hl:ks.length=vs.length) (hs:IsL K H vs ds):Is K H (.ref a) (.dt ks ds)
inductive IsL (K:PySem.W.Frag) (H:Hp):List V->List D->Prop where
 | nil:IsL K H [] []
 | cons {v:V}{d:D}{vs:List V}{ds:List D}(h:Is K H v d) (hs:IsL K H vs ds):IsL K H (v::vs) (d::ds)
end
mutual
def ba:D->Bool
 | .lst _=>false
 | .dk _ _=>false
 | .dt _ _=>false
 | .tup ds=>br ds
 | _=>true
def br:List D->Bool
 | []=>true
 | d::ds=>ba d && br ds
end
@[simp] theorem Fs:ba .non=true:=by simp only[ba]
@[simp] theorem Gn (b:Bool):ba (.bl b)=true:=by simp only[ba]
@[simp] theorem Ft (i:Int):ba (.int i)=true:=by simp only[ba]
@[simp] theorem Fu (x:Str):ba (.str x)=true:=by simp only[ba]
@[simp] theorem Go (x:String):ba (.ty x)=true:=by simp only[ba]
@[simp] theorem Fv (ds:List D):ba (.tup ds)=br ds:=by rw[ba]
@[simp] theorem Fw (ds:List D):ba (.lst ds)=false:=by rw[ba]
@[simp] theorem Gp (ks:List Key) (ds:List D):ba (.dk ks ds)=false:=by rw[ba]
@[simp] theorem Gq (ks:List (List Key)) (ds:List D):ba (.dt ks ds)=false:=by rw[ba]
@[simp] theorem EB:br []=true:=by rw[br]
@[simp] theorem D1 (d:D) (ds:List D):br (d::ds)=(ba d && br ds):=by rw[br]
section
variable {K:PySem.W.Frag}{H H':Hp}
mutual
theorem Is.keep (hT:∀a vs,SqT K H a vs->SqT K H' a vs) (hL:∀a vs,SqL K H a vs->SqL K H' a vs) (hK:∀a kvs,H a=some (.dK kvs)->H' a=some (.dK kvs)) (hM:∀a kvs,H a=some (.dT kvs)->H' a=some (.dT kvs)):∀ {v:V}{d:D},Is K H v d->Is K H' v d
 | _,_,.non=>.non
 | _,_,.bl b=>.bl b
 | _,_,.int i=>.int i
 | _,_,.str x=>.str x
 | _,_,.ty x=>.ty x
 | _,_,.tup h hs=>.tup (hT _ _ h) (IsL.keep hT hL hK hM hs)
 | _,_,.lst h hs=>.lst (hL _ _ h) (IsL.keep hT hL hK hM hs)
 | _,_,.dk h hl hs=>.dk (hK _ _ h) hl (IsL.keep hT hL hK hM hs)
 | _,_,.dt h hl hs=>.dt (hM _ _ h) hl (IsL.keep hT hL hK hM hs)
theorem IsL.keep (hT:∀a vs,SqT K H a vs->SqT K H' a vs) (hL:∀a vs,SqL K H a vs->SqL K H' a vs) (hK:∀a kvs,H a=some (.dK kvs)->H' a=some (.dK kvs)) (hM:∀a kvs,H a=some (.dT kvs)->H' a=some (.dT kvs)):∀ {vs:List V}{ds:List D},IsL K H vs ds->IsL K H' vs ds
 | _,_,.nil=>.nil
 | _,_,.cons h hs=>.cons (Is.keep hT hL hK hM h) (IsL.keep hT hL hK hM hs)
end
mutual
theorem Is.keepT (hT:∀a vs,SqT K H a vs->SqT K H' a vs):∀ {v:V}{d:D},Is K H v d->ba d=true->Is K H' v d
 | _,_,.non,_=>.non
 | _,_,.bl b,_=>.bl b
 | _,_,.int i,_=>.int i
 | _,_,.str x,_=>.str x
 | _,_,.ty x,_=>.ty x
 | _,_,.tup h hs,n=>.tup (hT _ _ h) (IsL.keepT hT hs (by simpa using n))
 | _,_,.lst h hs,n=>by simp at n
 | _,_,.dk h hl hs,n=>by simp at n
 | _,_,.dt h hl hs,n=>by simp at n
theorem IsL.keepT (hT:∀a vs,SqT K H a vs->SqT K H' a vs):∀ {vs:List V}{ds:List D},IsL K H vs ds->br ds=true->IsL K H' vs ds
 | _,_,.nil,_=>.nil
 | _,_,.cons h hs,n=>by
  simp at n
  exact .cons (Is.keepT hT h n.1) (IsL.keepT hT hs n.2)
end
theorem aV {a:Addr}{xs:List V}(e:aJ H H') (h:SqT K H a xs):SqT K H' a xs:=by
 rcases h with (h|⟨o,h⟩)|h
 ·exact .inl (.inl (e _ _ h))
 ·exact .inl (.inr ⟨o,e _ _ h⟩)
 ·exact .inr h
theorem Is.mono {v:V}{d:D}(h:Is K H v d) (e:aJ H H'):Is K H' v d:=h.keep (λ_ _=>aV e) (λ_ _=>e.seq) (λ_ _ q=>e _ _ q) λ_ _ q=>e _ _ q
theorem IsL.mono {v:List V}{d:List D}(h:IsL K H v d) (e:aJ H H'):IsL K H' v d:=h.keep (λ_ _=>aV e) (λ_ _=>e.seq) (λ_ _ q=>e _ _ q) λ_ _ q=>e _ _ q
theorem IsL.length:∀ {vs:List V}{ds:List D},IsL K H vs ds->vs.length=ds.length
 | _,_,.nil=>rfl
 | _,_,.cons _ t=>congrArg (· + 1) t.length
theorem IsL.get:∀ {vs:List V}{ds:List D}{i:Nat}{d:D},IsL K H vs ds->ds[i]? = some d->∃v,vs[i]? = some v/\Is K H v d
 | _,_,_,_,.nil,e=>by simp at e
 | _,_,0,_,.cons h _,e=>by simp at e;subst e;exact⟨_,rfl,h⟩
 | _,_,i+1,d,.cons _ t,e=>by
  obtain⟨u,h1,h2⟩:=t.get (i:=i) (d:=d) (by simpa using e)
  exact⟨u,by simpa using h1,h2⟩
theorem IsL.append:∀ {vs ws:List V}{ds es:List D},IsL K H vs ds->IsL K H ws es->IsL K H (vs++ws) (ds++es)
 | _,_,_,_,.nil,s=>s
 | _,_,_,_,.cons r t,s=>.cons r (t.append s)
theorem IsL.take:∀ {vs:List V}{ds:List D}(n:Nat),IsL K H vs ds->IsL K H (vs.take n) (ds.take n)
 | _,_,0,_=>by simpa using IsL.nil
 | _,_,_+1,.nil=>.nil
 | _,_,n+1,.cons r t=>.cons r (t.take n)
theorem IsL.drop:∀ {vs:List V}{ds:List D}(n:Nat),IsL K H vs ds->IsL K H (vs.drop n) (ds.drop n)
 | _,_,0,r=>r
 | _,_,_+1,.nil=>.nil
 | _,_,n+1,.cons _ t=>t.drop n
theorem IsL.set {v:V}{d:D}(h:Is K H v d):∀ {vs:List V}{ds:List D}(i:Nat),IsL K H vs ds->IsL K H (vs.set i v) (ds.set i d)
 | _,_,_,.nil=>.nil
 | _,_,0,.cons _ t=>.cons h t
 | _,_,i+1,.cons r t=>.cons r (IsL.set h i t)
theorem IsL.eraseIdx:∀ {vs:List V}{ds:List D}(i:Nat),IsL K H vs ds->IsL K H (vs.eraseIdx i) (ds.eraseIdx i)
 | _,_,_,.nil=>.nil
 | _,_,0,.cons _ t=>t
 | _,_,i+1,.cons r t=>.cons r (t.eraseIdx i)
theorem IsL.flat {vs:List V}{ns:List Int}(h:vs=ns.map V.int):IsL K H vs (ns.map D.int):=by
 subst h
 induction ns with
 | nil=>exact .nil
 | cons n ns ih=>exact .cons (.int n) ih
end
structure Ext (B N H H':Hp):Prop where
 hh:aJ H H'
 bn:aJ B N
 nh:aJ N H'
 new:∀a o,N a=some o->B a=some o∨H a=none
theorem Ext.refl {B H:Hp}(h:aJ B H):Ext B B H H:=⟨.refl _,.refl _,h,λ_ _ e=>.inl e⟩
theorem Ext.trans {B N H H1 N2 H2:Hp}(x:Ext B N H H1) (y:Ext N N2 H1 H2):Ext B N2 H H2 :=
 ⟨x.hh.trans y.hh,x.bn.trans y.bn,y.nh,λa o e=>(y.new a o e).elim (λq=>x.new a o q) λq=>.inr (x.hh.free q)⟩
theorem Ext.laid {B H:Hp}{p:Addr}{o:HO}(h:aJ B H) (hp:H p=none):Ext B (upd B p o) H (upd H p o):=by
 have hB:B p=none:=h.free hp
 refine⟨λa u e=>?_,λa u e=>?_,λa u e=>?_,λa u e=>?_⟩
 ·rw[a9 (λq=>by subst q;rw[hp]at e;cases e)];exact e
 ·rw[a9 (λq=>by subst q;rw[hB]at e;cases e)];exact e
 ·by_cases q:a=p
  ·subst q;rw[aB]at e ⊢;exact e
  ·rw[a9 q]at e ⊢;exact h _ _ e
 ·by_cases q:a=p
  ·subst q;exact .inr hp
  ·rw[a9 q]at e;exact .inl e
theorem Ext.grow {B H H':Hp}(h:aJ B H) (hh:aJ H H'):Ext B B H H':=⟨hh,.refl _,h.trans hh,λ_ _ e=>.inl e⟩
abbrev Env:=List (Option (D×Bool))
abbrev FE:=Env->Option (D×Bool)
abbrev FA:=Env->Option (List D)
abbrev FT:=Env->Option Bool
def Fsh (K:PySem.W.Frag) (H N:Hp) (v:V) (d:D):Prop:=∃(a:Addr) (vs:List V) (ds:List D),v=.ref a/\d=.lst ds/\H a=none/\N a=some (.lst vs)/\IsL K N vs ds
theorem Fsh.back {K:PySem.W.Frag}{H H' N:Hp}{v:V}{d:D}(h:Fsh K H' N v d) (e:aJ H H'):Fsh K H N v d:=let ⟨a,vs,ds,q,y,z,r⟩:=h;⟨a,vs,ds,q,y,e.free z,r⟩
def j6:List Str:=["in_order","has_seal","is_first_death","bases_by"]
def mJ (x:Str):Str:=x ++ ".<locals>." ++ "<lambda>"
def Tb (K:PySem.W.Frag) (B:Hp):Prop:=∀x∈j6,∀c P,PySem.W.tabIn K x=some (c,P)->B P=some (.tbl (mJ x))
theorem Tb.mono {K:PySem.W.Frag}{B B':Hp}(h:Tb K B) (e:aJ B B'):Tb K B':=λx hx c P q=>e _ _ (h x hx c P q)
structure RepE (K:PySem.W.Frag) (B:Hp) (σ:St) (ρ:Env):Prop where
 tb:Tb K B
 at':∀(i:Nat) (d:D) (b:Bool),ρ[i]? = some (some (d,b))->∃v,σ[i]? = some (some v)/\Is K B v d
theorem RepE.mono {K:PySem.W.Frag}{B B':Hp}{σ:St}{ρ:Env}(h:RepE K B σ ρ) (e:aJ B B'):RepE K B' σ ρ:=⟨h.tb.mono e,λi d b q=>let ⟨v,h1,h2⟩:=h.at' i d b q;⟨v,h1,h2.mono e⟩⟩
def Fin (K:PySem.W.Frag) (B H:Hp) (d:D) (b:Bool) (Q:VK):Prop:=∀(v:V) (H' N:Hp),Ext B N H H'->Is K N v d->(b=true->Fsh K H N v d)->Q v H'
def tD (K:PySem.W.Frag) (f:FE):TE:=λσ H Q=>∃(B:Hp) (ρ:Env) (d:D) (b:Bool),aJ B H/\RepE K B σ ρ/\f ρ=some (d,b)/\Fin K B H d b Q
def tDT (K:PySem.W.Frag) (f:FT):TT:=λσ H Q=>∃(B:Hp) (ρ:Env) (c:Bool),aJ B H/\RepE K B σ ρ/\f ρ=some c/\∀H',aJ H H'->Q c H'
def tDA (K:PySem.W.Frag) (f:FA):TA:=λσ H Q=>∃(B:Hp) (ρ:Env) (ds:List D),aJ B H/\RepE K B σ ρ/\f ρ=some ds/\∀(vs:List V) (H' N:Hp),Ext B N H H'->IsL K N vs ds->Q vs H'
def rD (K:PySem.W.Frag) (op:D->D->Option (D×Bool)):R2:=λx y H Q=>∃(B:Hp) (dx dy d:D) (b:Bool),aJ B H/\Is K B x dx/\Is K B y dy/\op dx dy=some (d,b)/\Fin K B H d b Q
def rDU (K:PySem.W.Frag) (op:D->Option (D×Bool)):V->Hp->VK->Prop:=λx H Q=>∃(B:Hp) (dx d:D) (b:Bool),aJ B H/\Is K B x dx/\op dx=some (d,b)/\Fin K B H d b Q
def rDA (K:PySem.W.Frag) (op:List D->Option (D×Bool)):List V->Hp->VK->Prop:=λxs H Q=>∃(B:Hp) (ds:List D) (d:D) (b:Bool),aJ B H/\IsL K B xs ds/\op ds=some (d,b)/\Fin K B H d b Q
theorem Fin.one {K:PySem.W.Frag}{B H:Hp}{d:D}{Q:VK}(h:Fin K B H d false Q) (s:aJ B H) {v:V}(i:Is K B v d):Q v H:=h v H B (.refl s) i (by simp)
theorem Fin.into {K:PySem.W.Frag}{B N H H1:Hp}{d:D}{b:Bool}{Q:VK}(h:Fin K B H d b Q) (x:Ext B N H H1):Fin K N H1 d b Q:=λv H' N' y i fr=>h v H' N' (x.trans y) i λe=>(fr e).back x.hh
@[simp] def fC (d:D):FE:=λ_=>some (d,false)
@[simp] def ag (i:Nat):FE:=λρ=>match ρ[i]? with|some (some (d,_))=>some (d,false)|_=>none
@[simp] def f2 (op:D->D->Option (D×Bool)) (fa fb:FE):FE:=λρ=>(fa ρ).bind λx=>(fb ρ).bind λy=>op x.1 y.1
@[simp] def f1 (op:D->Option (D×Bool)) (fa:FE):FE:=λρ=>(fa ρ).bind λx=>op x.1
@[simp] def ak:FA:=λ_=>some []
@[simp] def ae (fa:FE) (fr:FA):FA:=λρ=>(fa ρ).bind λx=>(fr ρ).bind λxs=>some (x.1::xs)
@[simp] def fA (op:List D->Option (D×Bool)) (fa:FA):FE:=λρ=>(fa ρ).bind op
theorem EC {K:PySem.W.Frag}{i:Nat}{σ:St}{H:Hp}{Q:VK}(h:tD K (ag i) σ H Q):∃v,σ[i]? = some (some v)/\Q v H:=by
 obtain⟨B,ρ,d,b,s,r,e,q⟩:=h
 unfold ag at e
 split at e
 ·rename_i d' b' e'
  cases e
  obtain⟨v,h1,h2⟩:=r.at' i _ _ e'
  exact⟨v,h1,q.one s h2⟩
 ·cases e
theorem BZ {K:PySem.W.Frag}{op:D->D->Option (D×Bool)}{fa fb:FE}{σ:St}{H:Hp}{Q:VK}(h:tD K (f2 op fa fb) σ H Q):tD K fa σ H λx H1=>tD K fb σ H1 λy H2=>rD K op x y H2 Q:=by
 obtain⟨B,ρ,d,b,s,r,e,q⟩:=h
 obtain⟨x,ex,e⟩:=oX e
 obtain⟨y,ey,e⟩:=oX e
 refine⟨B,ρ,x.1,x.2,s,r,ex,λv H1 N x1 i1 _=>⟨N,ρ,y.1,y.2,x1.nh,r.mono x1.bn,ey,λv2 H2 N2 x2 i2 _=>⟨N2,x.1,y.1,d,b,x2.nh,i1.mono x2.bn,i2,e, ?_⟩⟩⟩
 exact q.into (x1.trans x2)
theorem Hn {K:PySem.W.Frag}{op:D->Option (D×Bool)}{fa:FE}{σ:St}{H:Hp}{Q:VK}(h:tD K (f1 op fa) σ H Q):tD K fa σ H λx H1=>rDU K op x H1 Q:=by
 obtain⟨B,ρ,d,b,s,r,e,q⟩:=h
 obtain⟨x,ex,e⟩:=oX e
 exact⟨B,ρ,x.1,x.2,s,r,ex,λv H1 N x1 i1 _=>⟨N,x.1,d,b,x1.nh,i1,e,q.into x1⟩⟩
theorem Ca {K:PySem.W.Frag}{op:List D->Option (D×Bool)}{fa:FA}{σ:St}{H:Hp}{Q:VK}(h:tD K (fA op fa) σ H Q):tDA K fa σ H λxs H1=>rDA K op xs H1 Q:=by
 obtain⟨B,ρ,d,b,s,r,e,q⟩:=h
 obtain⟨x,ex,e⟩:=oX e
 exact⟨B,ρ,x,s,r,ex,λv H1 N x1 i1=>⟨N,x,d,b,x1.nh,i1,e,q.into x1⟩⟩
theorem Cb {K:PySem.W.Frag}{σ:St}{H:Hp}{Q:List V->Hp->Prop}(h:tDA K ak σ H Q):Q [] H:=by
 obtain⟨B,ρ,ds,s,r,e,q⟩:=h
 cases e
 exact q [] H B (.refl s) .nil
theorem Ab {K:PySem.W.Frag}{fa:FE}{fr:FA}{σ:St}{H:Hp}{Q:List V->Hp->Prop}(h:tDA K (ae fa fr) σ H Q):tD K fa σ H λx H1=>tDA K fr σ H1 λxs H2=>Q (x::xs) H2:=by
 obtain⟨B,ρ,ds,s,r,e,q⟩:=h
 obtain⟨x,ex,e⟩:=oX e
 obtain⟨y,ey,e⟩:=oX e
 cases e
 exact⟨B,ρ,x.1,x.2,s,r,ex,λv H1 N x1 i1 _=>⟨N,ρ,y,x1.nh,r.mono x1.bn,ey,λvs H2 N2 x2 i2=>q _ H2 N2 (x1.trans x2) (.cons (i1.mono x2.bn) i2)⟩⟩
@[simp] def tOf (f:FE):FT:=λρ=>match f ρ with|some (.bl c,_)=>some c|_=>none
@[simp] def dM (f g:FT):FT:=λρ=>match f ρ with|some true=>g ρ|some false=>some false|none=>none
@[simp] def iC (f g:FT):FT:=λρ=>match f ρ with|some true=>some true|some false=>g ρ|none=>none
@[simp] def iI (f:FT):FT:=λρ=>(f ρ).map (!·)
@[simp] def fIf (c:FT) (f g:FE):FE:=λρ=>match c ρ with|some true=>f ρ|some false=>g ρ|none=>none
open Classical in
noncomputable def cut (H:Hp) (P:Addr->Prop):Hp:=λa=>if P a then none else H a
theorem bW {H:Hp}{P:Addr->Prop}{a:Addr}(h:¬P a):cut H P a=H a:=by unfold cut;rw[if_neg h]
theorem wa {H:Hp}{P:Addr->Prop}{a:Addr}(h:P a):cut H P a=none:=by unfold cut;rw[if_pos h]
theorem mK {H:Hp}{P:Addr->Prop}{a:Addr}{o:HO}(h:cut H P a=some o):¬P a/\H a=some o:=by
 by_cases q:P a
 ·rw[wa q]at h;cases h
 ·rw[bW q]at h;exact⟨q,h⟩
theorem bA {H:Hp}{P:Addr->Prop}:aJ (cut H P) H:=λ_ _ e=>(mK e).2
theorem cV {H H':Hp}{P P':Addr->Prop}(e:∀a o,H a=some o->¬P a->H' a=some o/\¬P' a):aJ (cut H P) (cut H' P'):=λa o q=>by
 obtain⟨h1,h2⟩:=mK q
 obtain⟨h3,h4⟩:=e a o h2 h1
 rw[bW h4];exact h3
def join (N N':Hp):Hp:=λa=>match N a with|some o=>some o|none=>N' a
theorem dc {N N':Hp}:aJ N (join N N'):=λa o e=>by unfold join;rw[e]
theorem cP {N N':Hp}{a:Addr}(e:N a=none):join N N' a=N' a:=by unfold join;rw[e]
def own (σ:St) (ρ:Env) (a:Addr):Prop:=∃(i:Nat) (d:D),ρ[i]? = some (some (d,true))/\σ[i]? = some (some (V.ref a))
inductive Bx (K:PySem.W.Frag) (C:Hp):HO->D->Prop where
 | lst {vs:List V}{ds:List D}(h:IsL K C vs ds):Bx K C (.lst vs) (.lst ds)
 | dk {ks:List Key}{vs:List V}{ds:List D}(hl:ks.length=vs.length) (h:IsL K C vs ds):Bx K C (.dK (ks.zip vs)) (.dk ks ds)
 | dt {ks:List (List Key)}{vs:List V}{ds:List D}(hl:ks.length=vs.length) (h:IsL K C vs ds):Bx K C (.dT (ks.zip vs)) (.dt ks ds)
theorem Bx.mono {K:PySem.W.Frag}{C C':Hp}{o:HO}{d:D}(h:Bx K C o d) (e:aJ C C'):Bx K C' o d:=by
 cases h with
 | lst h=>exact .lst (h.mono e)
 | dk hl h=>exact .dk hl (h.mono e)
 | dt hl h=>exact .dt hl (h.mono e)
theorem Bx.is {K:PySem.W.Frag}{C:Hp}{o:HO}{d:D}{a:Addr}(h:Bx K C o d) (e:C a=some o):Is K C (.ref a) d:=by
 cases h with
 | lst h=>exact .lst (SqL.of e) h
 | dk hl h=>exact .dk e hl h
 | dt hl h=>exact .dt e hl h
structure StN (K:PySem.W.Frag) (B0 H0 N H:Hp) (σ:St) (ρ:Env):Prop where
 bh:aJ B0 H0
 tb:Tb K B0
 ext:Ext B0 N H0 H
 len:ρ.length=σ.length
 sh:∀(i:Nat) (d:D),ρ[i]? = some (some (d,false))->∃v,σ[i]? = some (some v)/\Is K (cut N (own σ ρ)) v d
 ow:∀(i:Nat) (d:D),ρ[i]? = some (some (d,true))->∃(a:Addr) (o:HO),σ[i]? = some (some (V.ref a))/\N a=some o/\H0 a=none/\Bx K (cut N (own σ ρ)) o d
 inj:∀(i j:Nat) (a:Addr) (d e:D),ρ[i]? = some (some (d,true))->ρ[j]? = some (some (e,true))->σ[i]? = some (some (V.ref a))->σ[j]? = some (some (V.ref a))->i=j
def rq (K:PySem.W.Frag) (B0 H0 H:Hp) (σ:St) (ρ:Env):Prop:=∃N,StN K B0 H0 N H σ ρ
section
variable {K:PySem.W.Frag}{B0 H0 N H H':Hp}{σ:St}{ρ:Env}
theorem StN.owL (s:StN K B0 H0 N H σ ρ) (i:Nat) (d:D) {es:List D}(q:ρ[i]? = some (some (.lst es,true))) (hd:d=.lst es:=by rfl):∃(a:Addr) (vs:List V) (ds:List D),d=.lst ds/\σ[i]? = some (some (V.ref a))/\N a=some (.lst vs)/\H0 a=none/\IsL K (cut N (own σ ρ)) vs ds:=by
 obtain⟨a,o,h1,h2,h3,h4⟩:=s.ow i _ q
 cases h4 with
 | lst h4=>exact⟨a,_,es,hd,h1,h2,h3,h4⟩
def boxed:HO->Prop
 | .lst _|.dK _|.dT _=>True
 | _=>False
theorem Bx.boxed {C:Hp}{o:HO}{d:D}(h:Bx K C o d):boxed o:=by cases h<;>exact trivial
theorem StN.owned (s:StN K B0 H0 N H σ ρ) {a:Addr}(h:own σ ρ a):∃o,(N a=some o/\boxed o)/\H0 a=none:=by
 obtain⟨i,d,h1,h2⟩:=h
 obtain⟨a',o,h3,h4,h5,h6⟩:=s.ow i d h1
 rw[h2]at h3;cases h3
 exact⟨o,⟨h4,h6.boxed⟩,h5⟩
theorem StN.rep (s:StN K B0 H0 N H σ ρ):RepE K N σ ρ:=⟨s.tb.mono s.ext.bn,λi d b q=>by
 cases b with
 | false=>obtain⟨v,h1,h2⟩:=s.sh i d q;exact⟨v,h1,h2.mono bA⟩
 | true =>
  obtain⟨a,o,h2,h3,_,h4⟩:=s.ow i d q
  exact⟨_,h2,(h4.mono bA).is h3⟩⟩
def t9 (ρ:Env):Env:=ρ.map λx=>match x with|some (d,false)=>some (d,false)|_=>none
theorem Ac {i:Nat}{d:D}{b:Bool}(h:(t9 ρ)[i]? = some (some (d,b))):b=false/\ρ[i]? = some (some (d,false)):=by
 unfold t9 at h
 rw[List.getElem?_map]at h
 cases e:ρ[i]? with
 | none=>rw[e]at h;cases h
 | some x =>
  rw[e]at h
  match x,h with
  | some (d',false),h=>cases h;exact⟨rfl,rfl⟩
  | some (d',true),h=>cases h
  | none,h=>cases h
theorem StN.tbC (s:StN K B0 H0 N H σ ρ):Tb K (cut N (own σ ρ)):=λx hx c P q=>by
 have z:=s.tb.mono s.ext.bn x hx c P q
 rw[bW]
 ·exact z
 ·intro y
  obtain⟨o,⟨y,yb⟩,_⟩:=s.owned y
  rw[z]at y;cases y;exact yb
theorem StN.repH (s:StN K B0 H0 N H σ ρ):RepE K (cut N (own σ ρ)) σ (t9 ρ):=⟨s.tbC,λi d b q=>by
 obtain⟨rfl,q2⟩:=Ac q
 exact s.sh i d q2⟩
theorem StN.grow (s:StN K B0 H0 N H σ ρ) {N':Hp}(x:Ext N N' H H'):StN K B0 H0 N' H' σ ρ:=by
 have c:aJ (cut N (own σ ρ)) (cut N' (own σ ρ)):=cV λa o e q=>⟨x.bn a o e,q⟩
 refine⟨s.bh,s.tb,s.ext.trans x,s.len,λi d q=>?_,λi d q=>?_,s.inj⟩
 ·obtain⟨v,h1,h2⟩:=s.sh i d q;exact⟨v,h1,h2.mono c⟩
 ·obtain⟨a,o,h2,h3,h4,h5⟩:=s.ow i d q
  exact⟨a,o,h2,x.bn _ _ h3,h4,h5.mono c⟩
theorem StN.growH (s:StN K B0 H0 N H σ ρ) {N':Hp}(x:Ext (cut N (own σ ρ)) N' H H'):StN K B0 H0 (join N N') H' σ ρ/\aJ N' (cut (join N N') (own σ ρ)):=by
 have x':Ext N (join N N') H H':=by
  refine⟨x.hh,dc,λa o e=>?_,λa o e=>?_⟩
  ·cases q:N a with
   | some u =>
    have:join N N' a=some u:=dc _ _ q
    rw[this]at e;cases e
    exact x.hh _ _ (s.ext.nh _ _ q)
   | none=>rw[cP q]at e;exact x.nh _ _ e
  ·cases q:N a with
   | some u =>
    have:join N N' a=some u:=dc _ _ q
    rw[this]at e;cases e
    exact .inl rfl
   | none =>
    rw[cP q]at e
    rcases x.new a o e with z|z
    ·have:=bA _ _ z;rw[q]at this;cases this
    ·exact .inr z
 refine⟨s.grow x',λa o e=>?_⟩
 rcases x.new a o e with z|z
 ·obtain⟨z1,z2⟩:=mK z
  rw[bW z1];exact dc _ _ z2
 ·have hN:N a=none:=s.ext.nh.free z
  have:¬own σ ρ a:=λq=>by obtain⟨vs,⟨q,_⟩,_⟩:=s.owned q;rw[hN]at q;cases q
  rw[bW this,cP hN];exact e
def unown (ρ:Env):Env:=ρ.map λx=>x.map λy=>(y.1,false)
theorem ig {i:Nat}{d:D}{b:Bool}(h:(unown ρ)[i]? = some (some (d,b))):b=false/\∃c,ρ[i]? = some (some (d,c)):=by
 unfold unown at h
 rw[List.getElem?_map]at h
 cases e:ρ[i]? with
 | none=>rw[e]at h;cases h
 | some x =>
  rw[e]at h
  match x,h with
  | some (d',c),h=>cases h;exact⟨rfl,c,rfl⟩
  | none,h=>cases h
theorem pJ {a:Addr}:¬own σ (unown ρ) a:=λ⟨i,d,h,_⟩=>by
 obtain⟨z,_⟩:=ig h;cases z
theorem StN.unown (s:StN K B0 H0 N H σ ρ):StN K B0 H0 N H σ (unown ρ):=by
 refine⟨s.bh,s.tb,s.ext,by unfold DL.unown;rw[List.length_map];exact s.len,λi d q=>?_,λi d q=>?_,λi j a d e q=>?_⟩
 ·obtain⟨_,c,q⟩:=ig q
  obtain⟨v,h1,h2⟩:=s.rep.at' i d c q
  exact⟨v,h1,h2.mono λa o e=>by rw[bW pJ];exact e⟩
 ·obtain⟨z,_⟩:=ig q;cases z
 ·obtain⟨z,_⟩:=ig q;cases z
theorem bx {α:Type}{l:List α}{i j:Nat}{x y:α}(h:(l.set i x)[j]? = some y):(i=j/\x=y)∨(i≠j/\l[j]? = some y):=by
 by_cases e:i=j
 ·subst e
  rw[List.getElem?_set]at h
  split at h
  ·split at h
   ·exact .inl ⟨rfl,Option.some.inj h⟩
   ·cases h
  ·contradiction
 ·rw[List.getElem?_set_ne e]at h;exact .inr ⟨e,h⟩
theorem pK {α β:Type}{l:List α}{m:List β}{i:Nat}{x y:α}(h:(l.set i x)[i]? = some y) (e:l.length=m.length):i<m.length:=by
 obtain⟨h,_⟩:=List.getElem?_eq_some_iff.mp h
 rw[List.length_set]at h;omega
theorem rz {i:Nat}{v:V}{x:Option (D×Bool)}{a:Addr}(h:own (σ.set i (some v)) (ρ.set i x) a):(v=.ref a/\∃d,x=some (d,true)) ∨ ∃j,j≠i/\∃d,ρ[j]? = some (some (d,true))/\σ[j]? = some (some (V.ref a)):=by
 obtain⟨j,d,h1,h2⟩:=h
 rcases bx h1 with ⟨e,q⟩|⟨e,q⟩
 ·rcases bx h2 with ⟨e2,q2⟩|⟨e2,q2⟩
  ·cases q2;exact .inl ⟨rfl,d,q⟩
  ·exact absurd e e2
 ·rcases bx h2 with ⟨e2,q2⟩|⟨e2,q2⟩
  ·exact absurd e2 e
  ·exact .inr ⟨j,λz=>e z.symm,d,q,q2⟩
theorem StN.bind (s:StN K B0 H0 N H σ ρ) {i:Nat}{v:V}{d:D}(h:Is K (cut N (own σ ρ)) v d):StN K B0 H0 N H (σ.set i (some v)) (ρ.set i (some (d,false))):=by
 have o:∀a,own (σ.set i (some v)) (ρ.set i (some (d,false))) a->own σ ρ a:=λa q=>by
  rcases rz q with ⟨_,d',p⟩|⟨j,_,d',q1,q2⟩
  ·cases p
  ·exact⟨j,d',q1,q2⟩
 have c:aJ (cut N (own σ ρ)) (cut N (own (σ.set i (some v)) (ρ.set i (some (d,false))))):=cV λa u e q=>⟨e,λz=>q (o a z)⟩
 refine⟨s.bh,s.tb,s.ext,by simp[s.len],λj e q=>?_,λj e q=>?_,λj k a e f q q' h1 h2=>?_⟩
 ·rcases bx q with ⟨rfl,p⟩|⟨ne,p⟩
  ·cases p
   have hi:=pK q s.len
   exact⟨v,by simp[hi],h.mono c⟩
  ·obtain⟨w,h1,h2⟩:=s.sh j e p
   exact⟨w,by rw[List.getElem?_set_ne ne];exact h1,h2.mono c⟩
 ·rcases bx q with ⟨rfl,p⟩|⟨ne,p⟩
  ·cases p
  ·obtain⟨a,o,h1,h2,h3,h4⟩:=s.ow j e p
   exact⟨a,o,by rw[List.getElem?_set_ne ne];exact h1,h2,h3,h4.mono c⟩
 ·rcases bx q with ⟨rfl,p⟩|⟨ne,p⟩
  ·cases p
  ·rcases bx q' with ⟨rfl,p'⟩|⟨ne',p'⟩
   ·cases p'
   ·rw[List.getElem?_set_ne ne]at h1
    rw[List.getElem?_set_ne ne']at h2
    exact s.inj j k a e f p p' h1 h2
theorem StN.bindOwn (s:StN K B0 H0 N H σ ρ) {i:Nat}{a:Addr}{ob:HO}{dd:D}(hN:N a=some ob) (h0:H0 a=none) (hno:∀(j:Nat) (d:D),ρ[j]? = some (some (d,true))->σ[j]? ≠ some (some (V.ref a)))
  (hsh:∀(j:Nat) (d:D),j≠i->ρ[j]? = some (some (d,false))->∃v,σ[j]? = some (some v)/\Is K (cut N (λb=>own σ ρ b∨b=a)) v d) (how:∀(j:Nat) (d:D),j≠i->ρ[j]? = some (some (d,true))->∃(a':Addr) (o:HO),σ[j]? = some (some (V.ref a'))/\N a'=some o/\Bx K (cut N (λb=>own σ ρ b∨b=a)) o d)
  (hds:Bx K (cut N (λb=>own σ ρ b∨b=a)) ob dd):StN K B0 H0 N H (σ.set i (some (.ref a))) (ρ.set i (some (dd,true))):=by
 have o:∀b,own (σ.set i (some (V.ref a))) (ρ.set i (some (dd,true))) b->own σ ρ b∨b=a:=λb q=>by
  rcases rz q with ⟨p,_⟩|⟨j,_,d',q1,q2⟩
  ·cases p;exact .inr rfl
  ·exact .inl ⟨j,d',q1,q2⟩
 have c:aJ (cut N (λb=>own σ ρ b∨b=a)) (cut N (own (σ.set i (some (V.ref a))) (ρ.set i (some (dd,true))))):=cV λb u e q=>⟨e,λz=>q (o b z)⟩
 refine⟨s.bh,s.tb,s.ext,by simp[s.len],λj e q=>?_,λj e q=>?_,λj k b e f q q' h1 h2=>?_⟩
 ·rcases bx q with ⟨rfl,p⟩|⟨ne,p⟩
  ·cases p
  ·obtain⟨w,h1,h2⟩:=hsh j e (Ne.symm ne) p
   exact⟨w,by rw[List.getElem?_set_ne ne];exact h1,h2.mono c⟩
 ·rcases bx q with ⟨rfl,p⟩|⟨ne,p⟩
  ·cases p
   have hi:=pK q s.len
   exact⟨a,ob,by simp[hi],hN,h0,hds.mono c⟩
  ·obtain⟨a',o',h1,h2,h4⟩:=how j e (Ne.symm ne) p
   have h3:H0 a'=none:=by
    obtain⟨a2,_,k1,_,k3,_⟩:=s.ow j e p
    rw[h1]at k1;cases k1;exact k3
   exact⟨a',o',by rw[List.getElem?_set_ne ne];exact h1,h2,h3,h4.mono c⟩
 ·rcases bx q with ⟨rfl,p⟩|⟨ne,p⟩
  ·rcases bx q' with ⟨rfl,p'⟩|⟨ne',p'⟩
   ·rfl
   ·rw[List.getElem?_set_ne ne']at h2
    have h1':V.ref a=V.ref b:=by
     rcases bx h1 with ⟨_,z⟩|⟨z,_⟩
     ·exact Option.some.inj z
     ·exact absurd rfl z
    cases h1'
    exact absurd h2 (hno k f p')
  ·rcases bx q' with ⟨rfl,p'⟩|⟨ne',p'⟩
   ·rw[List.getElem?_set_ne ne]at h1
    have h2':V.ref a=V.ref b:=by
     rcases bx h2 with ⟨_,z⟩|⟨z,_⟩
     ·exact Option.some.inj z
     ·exact absurd rfl z
    cases h2'
    exact absurd h1 (hno j e p)
   ·rw[List.getElem?_set_ne ne]at h1
    rw[List.getElem?_set_ne ne']at h2
    exact s.inj j k b e f p p' h1 h2
end
inductive Res where
 | nx (ρ:Env)|rt (d:D) (b:Bool)|bk (ρ:Env)|ct (ρ:Env)
abbrev FS:=Env->Option Res
def Gr (K:PySem.W.Frag) (B0 H0:Hp) (E:Ends):Res->Prop
 | .nx ρ=>∀σ H,rq K B0 H0 H σ ρ->E.nx σ H
 | .rt d b=>∀v H N,Ext B0 N H0 H->Is K N v d->(b=true->Fsh K H0 N v d)->E.rt v H
 | .bk ρ=>∀σ H,rq K B0 H0 H σ ρ->E.bk σ H
 | .ct ρ=>∀σ H,rq K B0 H0 H σ ρ->E.ct σ H
def tDS (K:PySem.W.Frag) (g:FS):TS:=λE σ H=>∃(B0 H0:Hp) (ρ:Env) (r:Res),rq K B0 H0 H σ ρ/\g ρ=some r/\Gr K B0 H0 E r
section
variable {K:PySem.W.Frag}{B0 H0 N H H':Hp}{σ:St}{ρ:Env}{E:Ends}
theorem StN.writeB (s:StN K B0 H0 N H σ ρ) {i:Nat}{d dd:D}{a:Addr}{ob:HO}(hi:ρ[i]? = some (some (d,true))) (hσ:σ[i]? = some (some (V.ref a))) (h:Bx K (cut N (own σ ρ)) ob dd) :
  StN K B0 H0 (upd N a ob) (upd H a ob) σ (ρ.set i (some (dd,true))):=by
 have oa:own σ ρ a:=⟨i,d,hi,hσ⟩
 obtain⟨ws,hw,h0⟩:=s.owned oa
 have b0:B0 a=none:=s.bh.free h0
 have o:∀b,own σ (ρ.set i (some (dd,true))) b↔own σ ρ b:=λb=>by
  constructor
  ·rintro⟨j,e,q1,q2⟩
   rcases bx q1 with ⟨rfl,p⟩|⟨_,p⟩
   ·exact⟨i,d,hi,q2⟩
   ·exact⟨j,e,p,q2⟩
  ·rintro⟨j,e,q1,q2⟩
   by_cases z:i=j
   ·subst z
    exact⟨i,dd,by rw[List.getElem?_set_self (List.getElem?_eq_some_iff.mp hi).1],q2⟩
   ·exact⟨j,e,by rw[List.getElem?_set_ne z];exact q1,q2⟩
 have c:aJ (cut N (own σ ρ)) (cut (upd N a ob) (own σ (ρ.set i (some (dd,true))))):=cV λb u e q=>by
  have ne:b≠a:=λz=>q (z ▸ oa)
  exact⟨by rw[a9 ne];exact e,λz=>q ((o b).mp z)⟩
 refine⟨s.bh,s.tb,⟨λb u e=>?_,λb u e=>?_,λb u e=>?_,λb u e=>?_⟩,by rw[List.length_set];exact s.len,λj e q=>?_,λj e q=>?_,λj k b e f q q' h1 h2=>?_⟩
 ·rw[a9 (λz=>by subst z;rw[h0]at e;cases e)];exact s.ext.hh _ _ e
 ·rw[a9 (λz=>by subst z;rw[b0]at e;cases e)];exact s.ext.bn _ _ e
 ·by_cases z:b=a
  ·subst z;rw[aB]at e ⊢;exact e
  ·rw[a9 z]at e ⊢;exact s.ext.nh _ _ e
 ·by_cases z:b=a
  ·subst z;exact .inr h0
  ·rw[a9 z]at e;exact s.ext.new _ _ e
 ·rcases bx q with ⟨rfl,p⟩|⟨ne,p⟩
  ·cases p
  ·obtain⟨v,h1,h2⟩:=s.sh j e p
   exact⟨v,h1,h2.mono c⟩
 ·rcases bx q with ⟨rfl,p⟩|⟨ne,p⟩
  ·cases p
   exact⟨a,ob,hσ,aB,h0,h.mono c⟩
  ·obtain⟨a',o',h1,h2,h3,h4⟩:=s.ow j e p
   have na:a'≠a:=λz=>by subst z;exact ne (s.inj i j _ d e hi p hσ h1)
   exact⟨a',o',h1,by rw[a9 na];exact h2,h3,h4.mono c⟩
 ·have get:∀ {j:Nat}{e:D},(ρ.set i (some (dd,true)))[j]? = some (some (e,true))->∃e',ρ[j]? = some (some (e',true)):=λ{j e} q=>by
   rcases bx q with ⟨rfl,p⟩|⟨ne,p⟩
   ·exact⟨d,hi⟩
   ·exact⟨e,p⟩
  obtain⟨e',q1⟩:=get q
  obtain⟨f',q2⟩:=get q'
  exact s.inj j k b e' f' q1 q2 h1 h2
theorem StN.write (s:StN K B0 H0 N H σ ρ) {i:Nat}{d:D}{a:Addr}{vs:List V}{ds:List D}(hi:ρ[i]? = some (some (d,true))) (hσ:σ[i]? = some (some (V.ref a))) (h:IsL K (cut N (own σ ρ)) vs ds) :
  StN K B0 H0 (upd N a (.lst vs)) (upd H a (.lst vs)) σ (ρ.set i (some (.lst ds,true))):=s.writeB hi hσ (.lst h)
theorem StN.tups (s:StN K B0 H0 N H σ ρ):∀a vs,SqT K N a vs->SqT K (cut N (own σ ρ)) a vs:=λa vs h=>by
 have key:∀u,N a=some u->¬boxed u->cut N (own σ ρ) a=some u:=λu e hu=>by
  rw[bW λz=>?_];exact e
  obtain⟨ws,⟨q,qb⟩,_⟩:=s.owned z
  rw[e]at q;cases q;exact hu qb
 rcases h with (h|⟨o,h⟩)|h
 ·exact .inl (.inl (key _ h (λq=>q)))
 ·exact .inl (.inr ⟨o,key _ h (λq=>q)⟩)
 ·exact .inr h
theorem StN.flat (s:StN K B0 H0 N H σ ρ) {v:V}{d:D}(h:Is K N v d) (n:ba d=true):Is K (cut N (own σ ρ)) v d:=h.keepT s.tups n
theorem StN.rebase (s:StN K B0 H0 N H σ ρ):StN K (cut N (own σ ρ)) (cut H (own σ ρ)) N H σ ρ :=
 ⟨cV λa o e q=>⟨s.ext.nh _ _ e,q⟩,s.tbC,⟨bA,bA,s.ext.nh,λa o e=>by
  by_cases q:own σ ρ a
  ·exact .inr (wa q)
  ·exact .inl (by rw[bW q];exact e)⟩,s.len,s.sh,λi d q=>by
   obtain⟨a,o,h1,h2,_,h4⟩:=s.ow i d q
   exact⟨a,o,h1,h2,wa ⟨i,d,q,h1⟩,h4⟩,s.inj⟩
theorem StN.unbase (s:StN K B0 H0 N H σ ρ) {N' H':Hp}{σ':St}{ρ':Env}(t:StN K (cut N (own σ ρ)) (cut H (own σ ρ)) N' H' σ' ρ'):StN K B0 H0 N' H' σ' ρ':=by
 have h0:aJ H0 (cut H (own σ ρ)):=λa o e=>by
  rw[bW λz=>?_];exact s.ext.hh _ _ e
  obtain⟨_,_,q⟩:=s.owned z
  rw[q]at e;cases e
 have b0:aJ B0 (cut N (own σ ρ)):=λa o e=>by
  rw[bW λz=>?_];exact s.ext.bn _ _ e
  obtain⟨_,_,q⟩:=s.owned z
  rw[s.bh _ _ e]at q;cases q
 refine⟨s.bh,s.tb,⟨h0.trans t.ext.hh,b0.trans t.ext.bn,t.ext.nh,λa o e=>?_⟩,t.len,t.sh,λi d q=>?_,t.inj⟩
 ·rcases t.ext.new a o e with z|z
  ·exact s.ext.new a o (bA _ _ z)
  ·exact .inr (h0.free z)
 ·obtain⟨a,o,h1,h2,h3,h4⟩:=t.ow i d q
  exact⟨a,o,h1,h2,h0.free h3,h4⟩
theorem StN.based (t:StN K B0 H0 N H σ ρ):aJ B0 (cut N (own σ ρ)):=λa o e=>by
 rw[bW λz=>?_];exact t.ext.bn _ _ e
 obtain⟨_,_,q⟩:=t.owned z
 rw[t.bh _ _ e]at q;cases q
@[simp] def aK (g h:FS):FS:=λρ=>match g ρ with|some (.nx ρ')=>h ρ'|r=>r
@[simp] def bQ:FS:=λρ=>some (.nx ρ)
@[simp] def gIf (c:FT) (g h:FS):FS:=λρ=>match c ρ with|some true=>g ρ|some false=>h ρ|none=>none
@[simp] def bu (f:FE):FS:=λρ=>(f ρ).map λx=>.rt x.1 x.2
@[simp] def HF:FS:=λ_=>some (.rt .non false)
@[simp] def HG (f:FE):FS:=λρ=>(f ρ).map λ_=>.nx ρ
@[simp] def D2:D->Bool
 | .dk _ _=>true
 | .dt _ _=>true
 | _=>false
@[simp] def iJ (i:Nat):FS:=λρ=>match ρ[i]? with|some (some (d,b))=>some (.rt d (b && !D2 d))|_=>none
@[simp] def xw:D->Bool
 | .lst ds=>br ds
 | _=>false
@[simp] def setE (ρ:Env) (i:Nat) (d:D) (b:Bool):Env :=
 if ba d=true then ρ.set i (some (d,false))else if b=true/\xw d=true then ρ.set i (some (d,true))else (unown ρ).set i (some (d,false))
@[simp] def bf (i:Nat) (f:FE):FS:=λρ=>(f ρ).map λx=>.nx (setE ρ i x.1 x.2)
@[simp] def HH (i:Nat) (f:FE):FS:=λρ=>(f (t9 ρ)).map λx=>.nx (ρ.set i (some (x.1,false)))
@[simp] def mf (i:Nat) (f:FE):FS:=λρ=>match ρ[i]? with
 | some (some (.lst ds,true))=>(f ρ).bind λx=>if ba x.1=true/\ds.length<sizeLine then some (.nx (ρ.set i (some (.lst (ds++[x.1]),true))))else none
 | _=>none
theorem Cc {g h:FS}(q:tDS K (aK g h) E σ H):FI (tDS K g) (tDS K h) E σ H:=by
 obtain⟨B0,H0,ρ,r,s,e,p⟩:=q
 unfold aK at e
 cases eg:g ρ with
 | none=>rw[eg]at e;cases e
 | some r1 =>
  rw[eg]at e
  cases r1 with
  | nx ρ'=>exact⟨B0,H0,ρ,.nx ρ',s,eg,λσ' H' s'=>⟨B0,H0,ρ',r,s',e,p⟩⟩
  | rt d b=>cases e;exact⟨B0,H0,ρ,_,s,eg,p⟩
  | bk ρ'=>cases e;exact⟨B0,H0,ρ,_,s,eg,p⟩
  | ct ρ'=>cases e;exact⟨B0,H0,ρ,_,s,eg,p⟩
theorem Ad (q:tDS K bQ E σ H):Ds E σ H:=by
 obtain⟨B0,H0,ρ,r,s,e,p⟩:=q
 cases e
 exact p σ H s
theorem rq.grown {H':Hp}(s:StN K B0 H0 N H σ ρ) (h:aJ H H'):rq K B0 H0 H' σ ρ:=⟨N,s.grow (.grow s.ext.nh h)⟩
theorem ED {c:FT}{g h:FS}(q:tDS K (gIf c g h) E σ H):FL (tDT K c) (tDS K g) (tDS K h) E σ H:=by
 obtain⟨B0,H0,ρ,r,⟨N,s⟩,e,p⟩:=q
 unfold gIf at e
 cases ec:c ρ with
 | none=>rw[ec]at e;cases e
 | some b =>
  rw[ec]at e
  refine⟨N,ρ,b,s.ext.nh,s.rep,ec,λH1 h1=>?_⟩
  cases b with
  | true=>rw[if_pos rfl];exact⟨B0,H0,ρ,r,.grown s h1,e,p⟩
  | false=>rw[if_neg (by decide)];exact⟨B0,H0,ρ,r,.grown s h1,e,p⟩
theorem Ce {f:FE}(q:tDS K (bu f) E σ H):El (tD K f) E σ H:=by
 obtain⟨B0,H0,ρ,r,⟨N,s⟩,e,p⟩:=q
 obtain⟨x,ex,e⟩:=oY e
 subst e
 exact⟨N,ρ,x.1,x.2,s.ext.nh,s.rep,ex,λv H1 N1 x1 i1 f1=>p v H1 N1 (s.ext.trans x1) i1 λb=>(f1 b).back s.ext.hh⟩
theorem Ae {i:Nat}(q:tDS K (iJ i) E σ H):El (BA i) E σ H:=by
 obtain⟨B0,H0,ρ,r,⟨N,s⟩,e,p⟩:=q
 unfold iJ at e
 split at e
 ·rename_i d b ei
  cases e
  cases b with
  | false =>
   obtain⟨v,h1,h2⟩:=s.sh i d ei
   exact⟨v,h1,p v H N s.ext (h2.mono bA) (by simp)⟩
  | true =>
   obtain⟨a,o,h1,h2,h3,h4⟩:=s.ow i d ei
   cases h4 with
   | lst h4=>exact⟨_,h1,p _ H N s.ext (.lst (SqL.of h2) (h4.mono bA)) λ_=>⟨a,_,_,rfl,rfl,h3,h2,h4.mono bA⟩⟩
   | dk hl h4=>exact⟨_,h1,p _ H N s.ext (.dk h2 hl (h4.mono bA)) (by simp)⟩
   | dt hl h4=>exact⟨_,h1,p _ H N s.ext (.dt h2 hl (h4.mono bA)) (by simp)⟩
 ·cases e
theorem StN.setE (s:StN K B0 H0 N H σ ρ) {i:Nat}{v:V}{d:D}{b:Bool}{N1 H1:Hp}(x:Ext N N1 H H1) (h:Is K N1 v d) (f:b=true->Fsh K H N1 v d):StN K B0 H0 N1 H1 (σ.set i (some v)) (setE ρ i d b):=by
 have s1:=s.grow x
 unfold DL.setE
 by_cases hn:ba d=true
 ·rw[if_pos hn]
  exact s1.bind (s1.flat h hn)
 ·rw[if_neg hn]
  by_cases hb:b=true/\xw d=true
  ·rw[if_pos hb]
   obtain⟨a,vs,ds,rfl,rfl,ha,hN,hs⟩:=f hb.1
   have hNa:N a=none:=s.ext.nh.free ha
   have hoa:¬own σ ρ a:=λz=>by obtain⟨ws,⟨q,_⟩,_⟩:=s.owned z;rw[hNa]at q;cases q
   have c:aJ (cut N (own σ ρ)) (cut N1 (λb=>own σ ρ b∨b=a)):=cV λb u e q=>⟨x.bn _ _ e,λz=>z.elim q λz=>by subst z;rw[hNa]at e;cases e⟩
   refine s1.bindOwn hN (s.ext.hh.free ha) (λj e q z=>hoa ⟨j,e,q,z⟩) (λj e _ q=>?_) (λj e _ q=>?_) (.lst (hs.keepT (λt ts st=>?_) hb.2))
   ·obtain⟨w,h1,h2⟩:=s.sh j e q;exact⟨w,h1,h2.mono c⟩
   ·obtain⟨a',o',h1,h2,_,h4⟩:=s.ow j e q
    exact⟨a',o',h1,x.bn _ _ h2,h4.mono c⟩
   ·have key:∀u,N1 t=some u->¬boxed u->cut N1 (λb=>own σ ρ b∨b=a) t=some u:=λu e hu=>by
     rw[bW λz=>?_];exact e
     rcases z with z|z
     ·obtain⟨ws,⟨q,qb⟩,_⟩:=s1.owned z
      rw[e]at q;cases q;exact hu qb
     ·subst z;rw[e]at hN;cases hN;exact hu trivial
    rcases st with (st|⟨o,st⟩)|st
    ·exact .inl (.inl (key _ st (λq=>q)))
    ·exact .inl (.inr ⟨o,key _ st (λq=>q)⟩)
    ·exact .inr st
  ·rw[if_neg hb]
   exact s1.unown.bind (h.mono λa o e=>by rw[bW pJ];exact e)
theorem xy {i:Nat}{f:FE}(q:tDS K (bf i f) E σ H):zK (tD K f) (jy i) E σ H:=by
 obtain⟨B0,H0,ρ,r,⟨N,s⟩,e,p⟩:=q
 obtain⟨x,ex,e⟩:=oY e
 subst e
 exact⟨N,ρ,x.1,x.2,s.ext.nh,s.rep,ex,λv H1 N1 x1 i1 f1=>p _ H1 ⟨N1,s.setE x1 i1 f1⟩⟩
theorem Cf {i:Nat}{f:FE}(q:tDS K (mf i f) E σ H):∃(a:Addr) (us:List V),σ[i]? = some (some (V.ref a))/\H a=some (.lst us)/\Dv (tD K f) Gd σ H λxs H2=>xr (.ref a) xs H2 λ_ H3=>E.nx σ H3:=by
 obtain⟨B0,H0,ρ,r,⟨N,s⟩,e,p⟩:=q
 unfold mf at e
 split at e
 ·rename_i ds ei
  obtain⟨x,ex,e⟩:=oX e
  split at e
  ·rename_i hx
   cases e
   obtain⟨a,vs,ds',z,h1,h2,h3,h4⟩:=s.owL i _ ei
   cases z
   refine⟨a,vs,h1,s.ext.nh _ _ h2,N,ρ,x.1,x.2,s.ext.nh,s.rep,ex,λv H1 N1 x1 i1 f1=>⟨a,vs,v,rfl,rfl,x1.hh _ _ (s.ext.nh _ _ h2),by rw[h4.length];exact hx.2, ?_⟩⟩
   have s1:=s.grow x1
   obtain⟨a',vs',ds',z,k1,k2,_,k4⟩:=s1.owL i _ ei
   cases z
   rw[h1]at k1;cases k1
   rw[x1.bn _ _ h2]at k2;cases k2
   exact p σ _ ⟨_,s1.write ei h1 (k4.append (.cons (s1.flat i1 hx.1) .nil))⟩
  ·cases e
 ·cases e
end
def f6 (c:FT) (g:FS):Nat->Env->Option Res
 | 0,_=>none
 | n+1,ρ=>match c ρ with
  | some true=>match g ρ with
   | some (.nx ρ')=>f6 c g n ρ'
   | some (.ct ρ')=>f6 c g n ρ'
   | some (.bk ρ')=>some (.nx ρ')
   | r=>r
  | some false=>some (.nx ρ)
  | none=>none
theorem yN {K:PySem.W.Frag}{c:FT}{g:FS}{n:Nat}{E:Ends}{σ:St}{H:Hp}(q:tDS K (f6 c g n) E σ H):zL (tDT K c) (tDS K g) E σ H:=by
 obtain⟨B0,H0,ρ,r,s,e,p⟩:=q
 refine⟨λm σ H=>∃ρ,rq K B0 H0 H σ ρ/\f6 c g m ρ=some r,⟨n,ρ,s,e⟩, ?_⟩
 rintro m σ H ⟨ρ,⟨N,s⟩,e⟩
 cases m with
 | zero=>cases e
 | succ m =>
  unfold f6 at e
  cases ec:c ρ with
  | none=>rw[ec]at e;cases e
  | some b =>
   rw[ec]at e
   refine⟨N,ρ,b,s.ext.nh,s.rep,ec,λH1 h1=>?_⟩
   cases b with
   | false=>rw[if_neg (by decide)];cases e;exact p σ H1 (.grown s h1)
   | true =>
    rw[if_pos rfl]
    refine⟨λσ H=>∃ρ,rq K B0 H0 H σ ρ/\f6 c g m ρ=some r,λσ' H' w=>⟨m,Nat.lt_succ_self m,w⟩, ?_⟩
    cases eg:g ρ with
    | none=>rw[eg]at e;cases e
    | some r1 =>
     rw[eg]at e
     refine⟨B0,H0,ρ,r1,.grown s h1,eg, ?_⟩
     cases r1 with
     | nx ρ'=>exact λσ' H' s'=>⟨ρ',s',e⟩
     | ct ρ'=>exact λσ' H' s'=>⟨ρ',s',e⟩
     | bk ρ'=>cases e;exact λσ' H' s'=>p σ' H' s'
     | rt d b=>cases e;exact p
def pi (K:PySem.W.Frag) (J:It) (B:Hp) (ds:List D):Prop:=∀(i:Nat) (H:Hp),aJ B H ->
 (∀d,ds[i]? = some d->J.go i H/\∀x H',J.yld i H x H'->∃N,Ext B N H H'/\Is K N x d)/\(ds.length<=i->J.stop i H)
def tDI (K:PySem.W.Frag) (f:FA):TI:=λσ H R=>∃(B:Hp) (ρ:Env) (ds:List D),aJ B H/\RepE K B σ ρ/\f ρ=some ds/\∀(J:It) (H' N:Hp),Ext B N H H'->pi K J N ds->R J H'
abbrev FG:=D->Env->Option Env
def tDG (K:PySem.W.Frag) (tg:FG) (g:TG):Prop:=∀(B0 H0 N H:Hp) (σ:St) (ρ ρ':Env) (v:V) (d:D) (Q:St->Hp->Prop),StN K B0 H0 N H σ ρ->Is K (cut N (own σ ρ)) v d->tg d ρ=some ρ' ->
 (∀σ' H',rq K B0 H0 H' σ' ρ'->Q σ' H')->g v σ H Q
@[simp] def tgN (i:Nat):FG:=λd ρ=>some (ρ.set i (some (d,false)))
theorem dN {K:PySem.W.Frag}{i:Nat}:tDG K (tgN i) (jy i):=by
 intro B0 H0 N H σ ρ ρ' v d Q s h e k
 cases e
 exact k _ H ⟨N,s.bind h⟩
def fJ (tg:FG) (g:FS):List D->Env->Option Res
 | [],ρ=>some (.nx ρ)
 | d::ds,ρ=>(tg d ρ).bind λρ1=>match g ρ1 with
  | some (.nx ρ')=>fJ tg g ds ρ'
  | some (.ct ρ')=>fJ tg g ds ρ'
  | some (.bk ρ')=>some (.nx ρ')
  | r=>r
@[simp] theorem Af (tg:FG) (g:FS) (ρ:Env):fJ tg g [] ρ=some (.nx ρ):=by rw[fJ]
@[simp] theorem yO (tg:FG) (g:FS) (d:D) (ds:List D) (ρ:Env):fJ tg g (d::ds) ρ=(tg d ρ).bind λρ1=>match g ρ1 with
  | some (.nx ρ')=>fJ tg g ds ρ'
  | some (.ct ρ')=>fJ tg g ds ρ'
  | some (.bk ρ')=>some (.nx ρ')
  | r=>r:=by rw[fJ]
@[simp] def r6 (f:FA) (tg:FG) (g:FS):FS:=λρ=>(f (t9 ρ)).bind λds=>fJ tg g ds ρ
theorem tE {K:PySem.W.Frag}{tg:FG}{t:TG}{g:FS}{E:Ends}{σ:St}{H1 B0 H0 N N1:Hp}{ρ:Env}{r:Res}{J:It}{ds:List D}(ht:tDG K tg t) (s1:StN K B0 H0 N H1 σ ρ) (c:aJ N1 (cut N (own σ ρ))) (J1:pi K J N1 ds) (e:fJ tg g ds ρ=some r) (p:Gr K B0 H0 E r) :
  ∃W:Nat->Nat->St->Hp->Prop,(∃m,W 0 m σ H1)/\∀i m σ H,W i m σ H->(J.stop i H/\E.nx σ H)∨(J.go i H/\∃N:St->Hp->Prop,(∀σ' H',N σ' H'->∃m',m'<m/\W (i+1) m' σ' H')/\∀x H',J.yld i H x H'->t x σ H' λσ2 H2=>tDS K g { E with nx:=N,ct:=N,bk:=E.nx } σ2 H2):=by
 refine⟨λi m σ H=>∃(N:Hp) (ρ:Env),StN K B0 H0 N H σ ρ/\aJ N1 (cut N (own σ ρ))/\m=ds.length - i/\i<=ds.length/\fJ tg g (ds.drop i) ρ=some r,⟨ds.length,_,ρ,s1,c,rfl,Nat.zero_le _,e⟩, ?_⟩
 clear e s1 c
 rintro i m σ H ⟨N,ρ,s,c,rfl,hi,e⟩
 have hs:aJ N1 H:=c.trans (bA.trans s.ext.nh)
 obtain⟨j1,j2⟩:=J1 i H hs
 by_cases hlt:i<ds.length
 ·obtain⟨go,yl⟩:=j1 ds[i] (by simp[hlt])
  rw[List.drop_eq_getElem_cons hlt]at e
  obtain⟨ρ1,e1,e⟩:=oX e
  refine .inr ⟨go,λσ' H'=>∃(N:Hp) (ρ:Env),StN K B0 H0 N H' σ' ρ/\aJ N1 (cut N (own σ' ρ))/\fJ tg g (ds.drop (i+1)) ρ=some r,λσ' H' ⟨N',ρ',s',c',e'⟩=>⟨_,by omega,N',ρ',s',c',rfl,hlt,e'⟩,λx H' y=>?_⟩
  obtain⟨N2,x2,i2⟩:=yl x H' y
  have x3:Ext (cut N (own σ ρ)) (join (cut N (own σ ρ)) N2) H H':=by
   refine⟨x2.hh,dc,λa o e=>?_,λa o e=>?_⟩
   ·cases q:cut N (own σ ρ) a with
    | some u=>rw[dc _ _ q]at e;cases e;exact x2.hh _ _ (s.ext.nh _ _ (bA _ _ q))
    | none=>rw[cP q]at e;exact x2.nh _ _ e
   ·cases q:cut N (own σ ρ) a with
    | some u=>rw[dc _ _ q]at e;cases e;exact .inl rfl
    | none =>
     rw[cP q]at e
     rcases x2.new a o e with z|z
     ·rw[c _ _ z]at q;cases q
     ·exact .inr z
  obtain⟨s2,c2⟩:=s.growH x3
  have c3:aJ N2 (join (cut N (own σ ρ)) N2):=λa o e=>by
   rcases x2.new a o e with z|z
   ·exact dc _ _ (c _ _ z)
   ·rw[cP ((bA.trans s.ext.nh).free z)];exact e
  have i3:=i2.mono (c3.trans c2)
  have c4:aJ N1 (cut (join N (join (cut N (own σ ρ)) N2)) (own σ ρ)):=(x2.bn.trans c3).trans c2
  refine ht _ _ _ _ _ _ _ _ _ _ s2.rebase i3 e1 λσ2 H2 ⟨N4,s4⟩=>?_
  cases eg:g ρ1 with
  | none=>rw[eg]at e;cases e
  | some r1 =>
   rw[eg]at e
   refine⟨_,_,ρ1,r1,⟨N4,s4⟩,eg, ?_⟩
   have back:∀ {σ':St}{H':Hp}{ρ':Env}{N':Hp},StN K _ _ N' H' σ' ρ'->StN K B0 H0 N' H' σ' ρ'/\aJ N1 (cut N' (own σ' ρ')):=λt=>⟨s2.unbase t,c4.trans t.based⟩
   cases r1 with
   | nx ρ'=>exact λσ' H' ⟨N',t⟩=>⟨N',ρ',(back t).1,(back t).2,e⟩
   | ct ρ'=>exact λσ' H' ⟨N',t⟩=>⟨N',ρ',(back t).1,(back t).2,e⟩
   | bk ρ'=>cases e;exact λσ' H' ⟨N',t⟩=>p σ' H' ⟨N',(back t).1⟩
   | rt d b =>
    cases e
    intro v H' N' x' i' f'
    have y:=s2.rebase.ext
    have h0:aJ H0 (cut H' (λ_=>False)):=λa o e=>by rw[bW (λz=>z)];exact x'.hh _ _ (by
     rw[bW λz=>?_];exact s2.ext.hh _ _ e
     obtain⟨_,_,q⟩:=s2.owned z
     rw[q]at e;cases e)
    have h0':aJ H0 (cut H' (λ_=>False)):=h0
    have hH:aJ H0 (cut H' (λ_=>False)):=h0
    have hc:∀a,cut H' (λ_=>False) a=H' a:=λa=>bW (λz=>z)
    have hb:aJ H0 (cut _ (own σ ρ)):=λa o e=>by
     rw[bW λz=>?_];exact s2.ext.hh _ _ e
     obtain⟨_,_,q⟩:=s2.owned z
     rw[q]at e;cases e
    have bb:aJ B0 (cut _ (own σ ρ)):=λa o e=>by
     rw[bW λz=>?_];exact s2.ext.bn _ _ e
     obtain⟨_,_,q⟩:=s2.owned z
     rw[s2.bh _ _ e]at q;cases q
    refine p v H' N' ⟨hb.trans x'.hh,bb.trans x'.bn,x'.nh,λa o e=>?_⟩ i' λz=>(f' z).back hb
    rcases x'.new a o e with z|z
    ·exact s2.ext.new a o (bA _ _ z)
    ·exact .inr (hb.free z)
 ·have ei:i=ds.length:=by omega
  subst ei
  rw[List.drop_eq_nil_of_le (Nat.le_refl _)]at e
  cases e
  exact .inl ⟨j2 (Nat.le_refl _),p σ H ⟨N,s⟩⟩
theorem Cg {K:PySem.W.Frag}{f:FA}{tg:FG}{t:TG}{g:FS}{E:Ends}{σ:St}{H:Hp}(ht:tDG K tg t) (q:tDS K (r6 f tg g) E σ H):Eo (tDI K f) t (tDS K g) E σ H:=by
 obtain⟨B0,H0,ρ,r,⟨N,s⟩,e,p⟩:=q
 obtain⟨ds,ef,e⟩:=oX e
 refine⟨cut N (own σ ρ),t9 ρ,ds,bA.trans s.ext.nh,s.repH,ef,λJ H1 N1 x1 J1=>?_⟩
 obtain⟨s1,c⟩:=s.growH x1
 exact tE ht s1 c J1 e p
def tDR (K:PySem.W.Frag) (f:FA):TI:=λσ H R=>∃(B:Hp) (ρ:Env) (ds:List D),aJ B H/\RepE K B σ ρ/\f ρ=some ds/\∀(J:It) (H' N:Hp),Ext B N H H'->(∀B',pi K J B' ds)->R J H'
@[simp] def lB (f:FA) (tg:FG) (g:FS):FS:=λρ=>(f ρ).bind λds=>fJ tg g ds ρ
theorem Ag {K:PySem.W.Frag}{f:FA}{tg:FG}{t:TG}{g:FS}{E:Ends}{σ:St}{H:Hp}(ht:tDG K tg t) (q:tDS K (lB f tg g) E σ H):Eo (tDR K f) t (tDS K g) E σ H:=by
 obtain⟨B0,H0,ρ,r,⟨N,s⟩,e,p⟩:=q
 obtain⟨ds,ef,e⟩:=oX e
 refine⟨N,ρ,ds,s.ext.nh,s.rep,ef,λJ H1 N1 x1 J1=>?_⟩
 exact tE ht (s.grow x1) (aJ.refl _) (J1 _) e p
end DL
namespace DL
open PySem PySem.Spec PyProof.Rows L2
abbrev JE (X:Cx) (e:Expr) (f:FE):Prop:=PE X e (tD X.K f)
abbrev JT (X:Cx) (e:Expr) (f:FT):Prop:=PT X e (tDT X.K f)
abbrev JW (X:Cx) (e:Expr) (f:FT):Prop:=PW X e (tDT X.K f)
abbrev JA (X:Cx) (es:List Expr) (f:FA):Prop:=PA X es (tDA X.K f)
abbrev JS (X:Cx) (st:Stmt) (g:FS):Prop:=PS X st (tDS X.K g)
abbrev JSs (X:Cx) (st:List Stmt) (g:FS):Prop:=PSs X st (tDS X.K g)
abbrev JI (X:Cx) (tg iter:Expr) (f:FA):Prop:=PI X tg iter (tDI X.K f)
theorem r9 {prog:Program}{w:World}{A:Around}{R:Result->Shared->Prop}{s:Shared}{elt target iter:Expr}{ifs:List Expr}{scope:Scope}{pos:Pos}{it acc:Value}{env:PySem.Env}(I:Nat->Shared->Prop)
  (turn:∀n s,I n s->wpAny (model prog w) A (pyNext it) (λr s₁=>match r with
   | none=>R (.ok .next) s₁
   | some v=>wpAny (model prog w) A (letOwnedTupleGo target it v) (λ_ s₁=>wpAny (model prog w) A (assign target env v) (λ_ s₂ =>
     wpAny (model prog w) A (forIn ifs true λc r=>if r=true then do let ok ←isTrue c env (eval c env);pure (ForInStep.yield ok)else pure (ForInStep.yield r)) (λok s₃ =>
      if ok=true then wpAny (model prog w) A (eval elt env) (λx s₄ =>
       wpAny (model prog w) A (call (.builtin "list.append") [acc,x]) (λ_ s₅=>∃m,m<n/\I m s₅) (λ_ _=>False) s₄) (λ_ _=>False) s₃
      else ∃m,m<n/\I m s₃) (λ_ _=>False) s₂) (λ_ _=>False) s₁) (λ_ _=>False) s₁) (λ_ _=>False) s)
  (n:Nat) (h:I n s):codeAny (model prog w) A (.compLoop (.ListComp elt [⟨target,iter,ifs,0⟩] scope pos) 0 it acc env) R s:=by
 refine codeAny_loop rfl I (λn s hI=>?_) n h
 show wpAny _ A ((compTurn (.ListComp elt [⟨target,iter,ifs,0⟩] scope pos) 0 it acc env).onRaise (λx=>do noteFrame x env;theTreesLotGoes x)) _ _ s
 refine wpAny_noted (wpAny_mono (E:=λ_ _=>False) ?_ (λ_ _ q=>q) λ_ _ z=>z.elim)
 rw[compTurn_list]
 refine wX (wpAny_standAt (wX (wpAny_mono (turn n s hI) (λr s₁ h₁=>?_) λ_ _ h'=>h')))
 cases r with
 | none=>exact wY h₁
 | some v =>
  refine wX (wpAny_mono h₁ (λ_ s₁ h₁=>?_) λ_ _ h'=>h')
  refine wX (wpAny_mono h₁ (λ_ s₂ h₂=>wX (wpAny_mono h₂ (λok s₃ h₃=>?_) λ_ _ h'=>h')) λ_ _ h'=>h')
  cases ok with
  | false=>exact wY ⟨rfl,h₃⟩
  | true=>exact wX (wX (wpAny_mono h₃ (λx s₄ h₄=>wX (wpAny_mono h₄ (λ_ s₅ h₅=>wY (wY ⟨rfl,h₅⟩)) λ_ _ h'=>h')) λ_ _ h'=>h'))
theorem Ext.upd {B N H H':Hp}{a:Addr}{o:HO}(x:Ext B N H H') (h:H a=none) (hN:N a=none):Ext B N H (upd H' a o) :=
 ⟨λb u e=>by rw[a9 (λz=>by subst z;rw[h]at e;cases e)];exact x.hh _ _ e,x.bn,λb u e=>by rw[a9 (λz=>by subst z;rw[hN]at e;cases e)];exact x.nh _ _ e,x.new⟩
abbrev g9 (X:Cx) (N':List Str) (scope:Scope) (cl:List (Str×Addr)) (C:Addr) (s₃:Shared) (H₃:Hp) (fp:List Addr):Cx :=
 { X with N:=N',s₀:=s₃,H₀:=H₃,env:=compEnvC scope cl C X.env,outer:=X.stack,stack:=X.stack,ex:=fp,fn:=λ_=>false,pn:=[],xe:=λ_ _=>False }
inductive Caps (X:Cx) (N':List Str) (scope:Scope) (cl:List (Str×Addr)):Nat->List Nat->Prop where
 | nil {j:Nat}(h:N'.length=j):Caps X N' scope cl j []
 | cons {j i:Nat}{r:List Nat}{x:Str}(h1:N'[j]? = some x) (h2:X.N[i]? = some x) (h3:X.env.kindOf x=some .cell∨X.env.kindOf x=some .free)
   (h4:(relabel scope X.env).names.lookup x=some .cell∨(relabel scope X.env).names.lookup x=some .free) (h5:cl.lookup x=X.env.cells.lookup x) (t:Caps X N' scope cl (j+1) r):Caps X N' scope cl j (i::r)
theorem Caps.len {X:Cx}{N':List Str}{scope:Scope}{cl:List (Str×Addr)}:∀ {j:Nat}{cap:List Nat},Caps X N' scope cl j cap->N'.length=j+cap.length
 | _,_,.nil h=>by rw[h];rfl
 | j,i::r,.cons _ _ _ _ _ t=>by rw[t.len,List.length_cons];omega
theorem Caps.get {X:Cx}{N':List Str}{scope:Scope}{cl:List (Str×Addr)}:∀ {j:Nat}{cap:List Nat}{k i:Nat},Caps X N' scope cl j cap->cap[k]? = some i->∃x,N'[j+k]? = some x/\X.N[i]? = some x/\(X.env.kindOf x=some .cell∨X.env.kindOf x=some .free) /\
  ((relabel scope X.env).names.lookup x=some .cell∨(relabel scope X.env).names.lookup x=some .free)/\cl.lookup x=X.env.cells.lookup x
 | _,_,_,_,.nil _,e=>by simp at e
 | j,_,0,_,.cons h1 h2 h3 h4 h5 _,e=>by simp at e;subst e;exact⟨_,h1,h2,h3,h4,h5⟩
 | j,_,k+1,i,.cons _ _ _ _ _ t,e=>by
  obtain⟨x,q,r⟩:=t.get (k:=k) (i:=i) (by simpa using e)
  exact⟨x,by rw[show j+(k+1)=j+1+k by omega];exact q,r⟩
structure CompSc (X:Cx) (scope:Scope) (cl:List (Str×Addr)):Prop where
 clos:closureFor scope X.env=pure cl
 nocell:∀y∈scope.names,y.2≠.cell
 kind:scope.kind=.function
 names:∀y∈scope.names,y.2=.local->scope.names.lookup y.1=some .local
 sub:∀x c,cl.lookup x=some c->X.env.cells.lookup x=some c
 has:∀x,((relabel scope X.env).names.lookup x=some .cell∨(relabel scope X.env).names.lookup x=some .free)->∃c,cl.lookup x=some c
def eW:List (Str×NameKind)->List (Str×Addr)->List (Str×Addr)->List (Str×Addr)
 | [],_,cs=>cs
 | (n,k)::r,cells,cs=>eW r cells (if k == .free then (match cells.lookup n with|some c=>(n,c)::cs|none=>cs)else cs)
theorem pL {env:PySem.Env}:∀(names:List (Str×NameKind)) (cs:List (Str×Addr)),(∀y∈names,y.2=.free->(env.cells.lookup y.1).isSome=true) ->
    (do let mut cs:=cs
        for (name,kind)in names do
          if kind == .free then cs:=(name,←cellOf env name)::cs
        return cs:Sem (List (Str×Addr)))=pure (eW names env.cells cs):=by
  intro names
  induction names with
  | nil=>intro cs _;rfl
  | cons y r ih =>
    intro cs h
    obtain⟨n,k⟩:=y
    have ih':=λcs=>ih cs λy hy=>h y (mZ _ hy)
    by_cases hk:k=.free
    . subst hk
      have hc:=h (n,.free) mX rfl
      cases q:env.cells.lookup n with
      | none=>rw[q]at hc;cases hc
      | some c =>
        have e1:eW ((n,.free)::r) env.cells cs=eW r env.cells ((n,c)::cs):=by
          rw[eW,q];rfl
        rw[e1,←ih' ((n,c)::cs)]
        have e2:cellOf env n=pure c:=by unfold cellOf;rw[q]
        simp only[List.forIn_cons,beq_self_eq_true,if_true,e2]
        rfl
    . have hb:(k == NameKind.free)=false:=by simpa using hk
      have e1:eW ((n,k)::r) env.cells cs=eW r env.cells cs:=by rw[eW,hb];rfl
      rw[e1,←ih' cs]
      simp only[List.forIn_cons,hb,Bool.false_eq_true,if_false]
      rfl
theorem j7 {cells:List (Str×Addr)}{x:Str}{c:Addr}:∀(names:List (Str×NameKind)) (cs:List (Str×Addr)),(∀y d,cs.lookup y=some d->cells.lookup y=some d)->(eW names cells cs).lookup x=some c->cells.lookup x=some c
 | [],cs,h,e=>h x c e
 | (n,k)::r,cs,h,e=>by
  rw[eW]at e
  refine j7 r _ (λy d q=>?_) e
  split at q
  ·split at q
   ·rename_i c' ec
    rw[List.lookup_cons]at q
    split at q
    ·rename_i hy
     cases q
     rw[eq_of_beq hy];exact ec
    ·exact h y d q
   ·exact h y d q
  ·exact h y d q
theorem pM {cells:List (Str×Addr)}{x:Str}:∀(names:List (Str×NameKind)) (cs:List (Str×Addr)),(cs.lookup x).isSome=true->((eW names cells cs).lookup x).isSome=true
 | [],cs,h=>h
 | (n,k)::r,cs,h=>by
  rw[eW]
  refine pM r _ ?_
  split
  ·split
   ·rw[List.lookup_cons]
    split
    ·rfl
    ·exact h
   ·exact h
  ·exact h
theorem j8 {cells:List (Str×Addr)}{x:Str}:∀(names:List (Str×NameKind)) (cs:List (Str×Addr)),(x,NameKind.free)∈names->(cells.lookup x).isSome=true->((eW names cells cs).lookup x).isSome=true
 | (n,k)::r,cs,hm,hc=>by
  rw[eW]
  rcases List.mem_cons.mp hm with e|e
  ·cases e
   refine pM r _ ?_
   cases q:cells.lookup x with
   | none=>rw[q]at hc;cases hc
   | some c=>simp
  ·exact j8 r _ e hc
theorem d8 {α:Type}{x:Str}{k:α}:∀ {l:List (Str×α)},l.lookup x=some k->(x,k)∈l
 | (n,j)::r,h=>by
  rw[List.lookup_cons]at h
  split at h
  ·rename_i e
   cases h
   rw[eq_of_beq e];exact mX
  ·exact mZ _ (d8 h)
theorem dm {X:Cx}{scope:Scope}(h1:∀y∈scope.names,y.2≠.cell) (h2:scope.kind=.function) (h3:∀y∈scope.names,y.2=.local->scope.names.lookup y.1=some .local) (h4':(scope.names.all λy=>!(y.2 == NameKind.free) || (X.env.cells.lookup y.1).isSome)=true) :
  CompSc X scope (eW scope.names X.env.cells []):=by
 have h4:∀y∈scope.names,y.2=.free->(X.env.cells.lookup y.1).isSome=true:=λy hy e=>by
  have:=List.all_eq_true.mp h4' y hy
  rw[e]at this
  simpa using this
 have frees:∀x,((relabel scope X.env).names.lookup x=some .cell∨(relabel scope X.env).names.lookup x=some .free)->(x,NameKind.free)∈scope.names:=λx h=>by
  have:∃k,(x,k)∈(relabel scope X.env).names/\(k=.cell∨k=.free):=by
   rcases h with h|h
   ·exact⟨_,d8 h,.inl rfl⟩
   ·exact⟨_,d8 h,.inr rfl⟩
  obtain⟨k,hm,hk⟩:=this
  obtain⟨⟨n,j⟩,hj,e⟩:=List.mem_map.mp hm
  dsimp only at e
  split at e
  ·rename_i hc
   rw[Bool.and_eq_true,Bool.and_eq_true]at hc
   cases e
   rw[←eq_of_beq hc.1.1];exact hj
  ·cases e
   rcases hk with rfl|rfl
   ·exact absurd rfl (h1 _ hj)
   ·exact hj
 exact⟨pL scope.names [] h4,h1,h2,h3,λx c e=>j7 scope.names [] (λy d q=>by cases q) e,λx h=>by
  have:=j8 (x:=x) scope.names [] (frees x h) (h4 _ (frees x h) rfl)
  exact Option.isSome_iff_exists.mp this⟩
theorem bz {scope:Scope}{cells:List (Str×Addr)}{x:Str}(h:(x,NameKind.free)∈scope.names) (hc:(cells.lookup x).isSome=true):(eW scope.names cells []).lookup x=cells.lookup x:=by
 obtain⟨c,e⟩:=Option.isSome_iff_exists.mp (j8 (x:=x) scope.names [] h hc)
 rw[e,j7 scope.names [] (λy d q=>by cases q) e]
def pj (nT:Nat) (cap:List Nat) (σ:St):St:=List.replicate nT none++cap.map λi=>(σ[i]?).join
def bM (nT:Nat) (cap:List Nat) (ρ:Env):Env:=List.replicate nT none++cap.map λi=>match ρ[i]? with|some (some (d,_))=>some (d,false)|_=>none
theorem rA {α:Type}{nT:Nat}{cap:List Nat}{f:Nat->Option α}{j:Nat}{v:α}(h:(List.replicate nT none++cap.map f)[j]? = some (some v)):∃k i,j=nT+k/\cap[k]? = some i/\f i=some v:=by
 by_cases hj:j<nT
 ·rw[List.getElem?_append_left (by simpa using hj),List.getElem?_replicate,if_pos hj]at h
  cases h
 ·rw[List.getElem?_append_right (by simpa using Nat.not_lt.mp hj),List.length_replicate,List.getElem?_map]at h
  obtain⟨i,h1,h2⟩:=oY h
  exact⟨j - nT,i,by omega,h1,h2⟩
theorem Ch {α:Type}{nT:Nat}{cap:List Nat}{f:Nat->Option α}{k i:Nat}{v:α}(h1:cap[k]? = some i) (h2:f i=some v):(List.replicate nT none++cap.map f)[nT+k]? = some (some v):=by
 rw[List.getElem?_append_right (by simp),List.length_replicate,List.getElem?_map,Nat.add_sub_cancel_left,h1]
 simp[h2]
theorem RepE.caps {K:PySem.W.Frag}{B:Hp}{σ:St}{ρ:Env}{nT:Nat}{cap:List Nat}(h:RepE K B σ ρ):RepE K B (pj nT cap σ) (bM nT cap ρ):=⟨h.tb,λj d b q=>by
 obtain⟨k,i,rfl,h1,h2⟩:=rA q
 split at h2
 ·rename_i d' b' e
  cases h2
  obtain⟨v,g1,g2⟩:=h.at' i _ _ e
  exact⟨v,Ch h1 (by rw[g1];rfl),g2⟩
 ·cases h2⟩
def eJ (tg:FG) (c:FT) (fe:FE) (ρ:Env):List D->Option (List D)
 | []=>some []
 | d::r=>(tg d ρ).bind λρ1=>(c ρ1).bind λb=>if b=true then (fe ρ1).bind λx=>(eJ tg c fe ρ r).map (x.1 :: ·)else eJ tg c fe ρ r
@[simp] theorem Fx (tg:FG) (c:FT) (fe:FE) (ρ:Env):eJ tg c fe ρ []=some []:=by rw[eJ]
@[simp] theorem wb (tg:FG) (c:FT) (fe:FE) (ρ:Env) (d:D) (r:List D):eJ tg c fe ρ (d::r)=(tg d ρ).bind λρ1=>(c ρ1).bind λb=>if b=true then (fe ρ1).bind λx=>(eJ tg c fe ρ r).map (x.1 :: ·)else eJ tg c fe ρ r:=by rw[eJ]
@[simp] def c8 (fi:FA) (nT:Nat) (cap:List Nat) (tg:FG) (c:FT) (fe:FE):FE:=λρ=>(fi ρ).bind λitems=>if items.length<=sizeLine then (eJ tg c fe (bM nT cap ρ) items).map λds=>(.lst ds,true)else none
def TGE (K:PySem.W.Frag) (n:Nat) (tg:FG) (g:TG):Prop:=∀(B H:Hp) (σ:St) (ρ ρ1:Env) (v:V) (d:D) (Q:St->Hp->Prop),(∀i,i<n->ρ[i]? = some none)->RepE K B σ ρ->aJ B H->Is K B v d->tg d ρ=some ρ1 ->
 ρ.length=σ.length->(∀σ1,RepE K B σ1 ρ1->(∀B',RepE K B' σ ρ->RepE K B' σ1 ρ)->ρ.length=σ1.length->Q σ1 H)->g v σ H Q
theorem cu {K:PySem.W.Frag}{n i:Nat}(hi:i<n):TGE K n (tgN i) (jy i):=by
 intro B H σ ρ ρ1 v d Q cl rep s h e hl k
 cases e
 have hiσ:i<σ.length:=by
  have:=(List.getElem?_eq_some_iff.mp (cl i hi)).1
  omega
 refine k _ ⟨rep.tb,λj e b q=>?_⟩ ?_ (by simpa using hl)
 ·rcases bx q with ⟨rfl,p⟩|⟨ne,p⟩
  ·cases p
   exact⟨v,by simp[hiσ],h⟩
  ·obtain⟨w,h1,h2⟩:=rep.at' j e b p
   exact⟨w,by rw[List.getElem?_set_ne ne];exact h1,h2⟩
 ·intro B' rep'
  refine⟨rep'.tb,λj e b q=>?_⟩
  obtain⟨w,h1,h2⟩:=rep'.at' j e b q
  have ne:i≠j:=λz=>by subst z;rw[cl i hi]at q;cases q
  exact⟨w,by rw[List.getElem?_set_ne ne];exact h1,h2⟩
def JC (X:Cx) (ifs:List Expr) (c:FT):Prop:=∀(pins:List (Addr×Obj)) (s:Shared) (σ:St) (H:Hp) (Q:Bool->Hp->Prop),Inv X pins σ H s->tDT X.K c σ H Q ->
 wpAny (model X.prog X.w) X.A (forIn ifs true λc r=>if r=true then do let ok ←isTrue c X.env (eval c X.env);pure (ForInStep.yield ok)else pure (ForInStep.yield r)) (TP X pins σ Q) X.xe s
@[simp] def gE:FT:=λ_=>some true
theorem iW {X:Cx}:JC X [] gE:=by
 intro pins s σ H Q I h
 obtain⟨B,ρ,c,sB,rep,e,q⟩:=h
 cases e
 exact wpAny_tests_nil ⟨H,I,q H (.refl H)⟩
theorem iX {X:Cx}{e:Expr}{f:FT}(h:JT X e f):JC X [e] f:=λpins s σ H Q I q=>wpAny_tests_one (h pins s σ H Q I q)
theorem mL {X:Cx}(hcalm:X.calm=true) {tg iter elt:Expr}{ifs:List Expr}{scope:Scope}{pos:Pos}{cl:List (Str×Addr)}{N':List Str}{nT:Nat}{cap:List Nat}{tgF:FG}{g:TG}{fc:FT}{fe:FE}
  (S:CompSc X scope cl) (cp:Caps X N' scope cl nT cap)
  (hg:∀C s H fp,PG (g9 X N' scope cl C s H fp) tg g) (htg:TGE X.K nT tgF g) (hc:∀C s H fp,JC (g9 X N' scope cl C s H fp) ifs fc) (he:∀C s H fp,JE (g9 X N' scope cl C s H fp) elt fe)
  {pins:List (Addr×Obj)}{σ:St}{H2:Hp}{s2:Shared}{it:Addr}{fp:List Addr}{tn:Nat->Heap->Prop}{J:It}{N1:Hp}{ρ:Env}{items ds:List D}{E:Value->Shared->Prop}
  (I2:Inv X pins σ H2 s2) (T:Turn X.prog X.w X.K tg J fp it tn) (st2:tn 0 s2.heap) (f2:∀b∈fp,k6 X pins H2 b)
  (rep:RepE X.K N1 σ ρ) (sN:aJ N1 H2) (J1:pi X.K J N1 items) (hsz:items.length<=sizeLine) (ec:eJ tgF fc fe (bM nT cap ρ) items=some ds) {RR:Value->Addr->Result->Shared->Prop}
  (hRR:∀(Dd C:Addr) (s':Shared) (H' N:Hp) (vs:List V) (m:Str->Option Value),H2 Dd=none->Inv X pins σ H' s'->s'.heap.Ns C m->k6 X pins H' C->Ext N1 N H2 H'->N Dd=some (.lst vs)->IsL X.K N vs ds->RR (.ref Dd) C (.ok .next) s') :
  wpAny (model X.prog X.w) X.A (newList []) (λacc s₃=>wpAny (model X.prog X.w) X.A (newFunctionEnv scope X.env.globals cl [] X.env.qual none .none (some X.env)) (λcenv s₄ =>
   codeAny (model X.prog X.w) X.A (.compStart (.ListComp elt [⟨tg,iter,ifs,0⟩] scope pos) 0 (.ref it) acc { cenv with scope:=relabel scope X.env }) (RR acc cenv.locals) s₄) E s₃) E s2:=by
 refine wpAny_newObj_type (wpAny_newFunctionEnv S.nocell (by intro y hy;simp at hy) (λh₁ hns₁ hsb₁=>?_) S.kind)
 dsimp only at hns₁ hsb₁ ⊢
 have hD:H2 s2.heap.objs.size=none:=I2.fresh
 have I3:Inv X pins σ (upd H2 s2.heap.objs.size (.lst [])) { s2 with heap:=s2.heap.push { cls:=.type "list",dict:=none,data:=.seq ([]:List Value).toArray } }:=I2.lnew (t':=s2.toks) (ys:=[]) (its:=[]) .nil (Nat.zero_le _)
 generalize hH3:s2.heap.push { cls:=.type "list",dict:=none,data:=.seq ([]:List Value).toArray }=g3 at hns₁ hsb₁ I3 ⊢
 have hC:g3.objs.size=s2.heap.objs.size+1:=by rw[←hH3,Heap.size_push]
 have old2:∀b o,s2.heap.get? b=some o->g3.get? b=some o:=λb o e=>hH3 ▸ Heap.get?_push_of_some _ e
 have old3:∀b o,g3.get? b=some o->h₁.get? b=some o:=λb o e=>hsb₁.extBut b o (Nat.ne_of_lt (Heap.lt_size e)) (Heap.get?_push_of_some _ e)
 have neC:∀b o,g3.get? b=some o->b≠g3.objs.size:=λb o e=>Nat.ne_of_lt (Heap.lt_size e)
 have fpo:∀b∈fp,∃o,s2.heap.get? b=some o:=λb hb=>let ⟨o,e,_⟩:=T.obj 0 s2.heap st2 b hb;⟨o,e⟩
 have fpD:∀b∈fp,b≠s2.heap.objs.size:=λb hb=>let ⟨o,e⟩:=fpo b hb;Nat.ne_of_lt (Heap.lt_size e)
 have fpC:∀b∈fp,b≠g3.objs.size:=λb hb=>let ⟨o,e⟩:=fpo b hb;neC b o (old2 b o e)
 have cellC:∀x c,X.env.cells.lookup x=some c->c≠g3.objs.size:=λx c e=>by
  obtain⟨v,z⟩:=I3.cell x c e
  exact Nat.ne_of_lt z.lt
 have hHC:(upd H2 s2.heap.objs.size (HO.lst [])) g3.objs.size=none:=I3.hok.fresh (Nat.le_refl _)
 have stk:∀b∈frs X.stack,∃o,s2.heap.get? b=some o:=λb hb=>by
  obtain⟨_,o,ho,_⟩:=(I2.stack).mem hb
  exact⟨o,ho⟩
 -- the block's context
 have ok:(g9 X N' scope cl g3.objs.size { s2 with heap:=g3 } (upd H2 s2.heap.objs.size (.lst [])) fp).Ok:=by
  refine⟨I2.ok.mod, ?_,I2.ok.glob,I2.ok.blt,Nat.le_refl _,λx y c e1 e2=>I2.ok.inj x y c (S.sub x c e1) (S.sub y c e2),λx h=>S.has x h,λx c h=>absurd h Bool.false_ne_true,I2.ok.hd,I2.ok.frames,.inl rfl,λb hb=>⟨fpC b hb,λx c e=>(f2 b hb).2.2.2.2.1 x c (S.sub x c e)⟩,λb o e=>?_, ?_,λb o e hb=>?_,λb hb hz=>?_,I3.stack,λb hb=>I3.stkFree b hb⟩
  ·show(relabel scope X.env).kind=.function
   exact S.kind
  ·exact I3.bs b o e
  ·exact Nat.le_trans I3.ok.bsz I3.sz
  ·have h1:=(f2 b hb).2.2.2.1
   rcases h1 with z|z
   ·exact I2.ok.noex b o e z
   ·exact absurd (Nat.lt_of_lt_of_le (Heap.lt_size e) (Nat.le_trans I2.ok.bsz z)) (Nat.lt_irrefl _)
  ·rcases List.mem_cons.mp (I2.stkSub b hz)with z|z
   ·exact(f2 b hb).2.1 z
   ·exact(f2 b hb).2.2.1 z
 have I4:Inv (g9 X N' scope cl g3.objs.size { s2 with heap:=g3 } (upd H2 s2.heap.objs.size (.lst [])) fp) [] (pj nT cap σ) (upd H2 s2.heap.objs.size (.lst [])) { s2 with heap:=h₁,toks:=s2.toks+([]:List (Str×Value)).length }:=by
  refine⟨ok,rfl,I2.bare,Un.kept old3,⟨_,hns₁,λj x v e1 e2 e3=>?_⟩,λx c e=>?_,hHC,λx c e=>I3.freeC x c (S.sub x c e),λp hp=>by simp at hp,I3.hok.kept old3, ?_⟩
  ·obtain⟨k,i,rfl,h1,h2⟩:=rA e2
   obtain⟨y,g1,g2,g3',g4,g5⟩:=cp.get h1
   have e1':N'[nT+k]? = some x:=e1
   rw[g1]at e1';cases e1'
   have h2':σ[i]? = some (some v):=by
    cases q:σ[i]? with
    | none=>rw[q]at h2;cases h2
    | some z=>rw[q]at h2;have:z=some v:=h2;rw[this]
   obtain⟨m,_,hl⟩:=I3.loc
   obtain⟨u,r,l⟩:=hl i _ v g2 h2' (g3'.elim (λz=>.inr (.inl z)) λz=>.inr (.inr z))
   refine⟨u,r, ?_⟩
   rcases l with ⟨l,_⟩|⟨_,c,lc,ic⟩
   ·rcases g3' with z|z<;>(rw[z]at l;cases l)
   ·refine .inr ⟨g4,c,by show cl.lookup _=some c;rw[g5];exact lc, ?_⟩
    obtain⟨o,ho,hd⟩:=ic
    exact⟨o,old3 _ _ ho,hd⟩
  ·obtain⟨v,o,ho,hd⟩:=I3.cell x c (S.sub x c e)
   exact⟨v,o,old3 _ _ ho,hd⟩
  ·show(pj nT cap σ).length=N'.length
   unfold pj
   rw[cp.len];simp
 have fpX:∀ {H':Hp},(∀b∈fp,H' b=none)->∀b∈fp,k6 (g9 X N' scope cl g3.objs.size { s2 with heap:=g3 } (upd H2 s2.heap.objs.size (.lst [])) fp) [] H' b:=λhn b hb =>
  ⟨hn b hb,fpC b hb,ok.exfs b hb,.inl hb,λx c e=>(f2 b hb).2.2.2.2.1 x c (S.sub x c e),λp hp=>by simp at hp⟩
 have clean:∀i,i<nT->(bM nT cap ρ)[i]? = some none:=λi hi=>by
  unfold bM
  rw[List.getElem?_append_left (by simpa using hi),List.getElem?_replicate,if_pos hi]
 have hND:N1 s2.heap.objs.size=none:=sN.free hD
 have loop:∀s₃:Shared,s₃={ s2 with heap:=h₁,toks:=s2.toks+([]:List (Str×Value)).length } ->
   codeAny (model X.prog X.w) X.A (.compLoop (.ListComp elt [⟨tg,iter,ifs,0⟩] scope pos) 0 (.ref it) (.ref s2.heap.objs.size) (compEnvC scope cl g3.objs.size X.env)) (RR (.ref s2.heap.objs.size) g3.objs.size) s₃:=by
  rintro s₃ rfl
  refine r9 (λn s'=>∃(i:Nat) (N:Hp) (vs:List V) (es:List D) (σ':St) (H':Hp),Inv (g9 X N' scope cl g3.objs.size { s2 with heap:=g3 } (upd H2 s2.heap.objs.size (.lst [])) fp) [] σ' H' s'/\tn i s'.heap/\(∀b∈fp,H' b=none) /\
   n=items.length - i/\i<=items.length/\RepE X.K N1 σ' (bM nT cap ρ)/\(bM nT cap ρ).length=σ'.length/\Ext N1 N H2 H'/\N s2.heap.objs.size=none/\H' s2.heap.objs.size=some (.lst vs)/\vs.length<=i/\IsL X.K N vs es /\
   ∃r,eJ tgF fc fe (bM nT cap ρ) (items.drop i)=some r/\es++r=ds) ?_ items.length ?_
  ·rintro n s' ⟨i,N,vs,es,σ',H',I',ti,hn,rfl,hi,rp,hlen,x,hN0,hH0,hvl,hvs,r,er,eds⟩
   have sH:aJ N1 H':=x.bn.trans x.nh
   by_cases hlt:i<items.length
   ·obtain⟨j1,_⟩:=J1 i H' sH
    obtain⟨go,yl⟩:=j1 items[i] (by simp[hlt])
    rw[List.drop_eq_getElem_cons hlt]at er
    unfold eJ at er
    obtain⟨ρ1,e1,er⟩:=oX er
    obtain⟨b,e2,er⟩:=oX er
    refine thn (T.item (g9 X N' scope cl g3.objs.size { s2 with heap:=g3 } (upd H2 s2.heap.objs.size (.lst [])) fp) rfl rfl rfl hcalm i [] s' σ' H' (λ_ _=>False) I' (fpX hn) ti go) λq s4 hq=>?_
    obtain⟨u,rfl,hq⟩:=hq
    refine thn hq λ_ s5 hq=>?_
    obtain⟨xv,H5,I5,rx,y5,t5,fr5⟩:=hq
    obtain⟨N5,x5,i5⟩:=yl xv H5 y5
    -- all that may be named at this turn
    have x6:Ext N (join N N5) H' H5:=by
     refine⟨x5.hh,dc,λa o e=>?_,λa o e=>?_⟩
     ·cases z:N a with
      | some u'=>rw[dc _ _ z]at e;cases e;exact x5.hh _ _ (x.nh _ _ z)
      | none=>rw[cP z]at e;exact x5.nh _ _ e
     ·cases z:N a with
      | some u'=>rw[dc _ _ z]at e;cases e;exact .inl rfl
      | none =>
       rw[cP z]at e
       rcases x5.new a o e with z'|z'
       ·rw[x.bn _ _ z']at z;cases z
       ·exact .inr z'
    have c5:aJ N5 (join N N5):=λa o e=>by
     rcases x5.new a o e with z|z
     ·exact dc _ _ (x.bn _ _ z)
     ·rw[cP (x.nh.free z)];exact e
    have hN5:(join N N5) s2.heap.objs.size=none:=by
     cases z:join N N5 s2.heap.objs.size with
     | none=>rfl
     | some o =>
      rcases x6.new _ _ z with z'|z'
      ·rw[hN0]at z';cases z'
      ·rw[hH0]at z';cases z'
    have fin:∀(s9:Shared) (σ9:St) (H9 N9:Hp) (vs9:List V) (es9:List D),Inv (g9 X N' scope cl g3.objs.size { s2 with heap:=g3 } (upd H2 s2.heap.objs.size (.lst [])) fp) (k7 fp s5.heap) σ9 H9 s9 ->
      RepE X.K N1 σ9 (bM nT cap ρ)->(bM nT cap ρ).length=σ9.length->Ext N1 N9 H2 H9->N9 s2.heap.objs.size=none->H9 s2.heap.objs.size=some (.lst vs9)->vs9.length<=i+1->IsL X.K N9 vs9 es9 ->
      (∃r,eJ tgF fc fe (bM nT cap ρ) (items.drop (i+1))=some r/\es9++r=ds)->∃m,m<items.length - i/\∃(i:Nat) (N:Hp) (vs:List V) (es:List D) (σ':St) (H':Hp),Inv (g9 X N' scope cl g3.objs.size { s2 with heap:=g3 } (upd H2 s2.heap.objs.size (.lst [])) fp) [] σ' H' s9/\tn i s9.heap/\(∀b∈fp,H' b=none) /\
       m=items.length - i/\i<=items.length/\RepE X.K N1 σ' (bM nT cap ρ)/\(bM nT cap ρ).length=σ'.length/\Ext N1 N H2 H'/\N s2.heap.objs.size=none/\H' s2.heap.objs.size=some (.lst vs)/\vs.length<=i/\IsL X.K N vs es /\
       ∃r,eJ tgF fc fe (bM nT cap ρ) (items.drop i)=some r/\es++r=ds:=λs9 σ9 H9 N9 vs9 es9 I9 rp9 l9 x9 n9 h9 v9 i9 er9=>by
     refine⟨items.length - (i+1),by omega,i+1,N9,vs9,es9,σ9,H9,I9.pins_of λp hp=>by simp at hp,T.keep _ _ _ t5 λb hb o e=>(I9.pin (b,o) (mY _ (fZ hb e))).1,λb hb=>?_,rfl,hlt,rp9,l9,x9,n9,h9,v9,i9,er9⟩
     obtain⟨o,e,d⟩:=T.obj _ _ t5 b hb
     exact(I9.pin (b,o) (mY _ (fZ hb e))).2.1
    have I5':Inv (g9 X N' scope cl g3.objs.size { s2 with heap:=g3 } (upd H2 s2.heap.objs.size (.lst [])) fp) (k7 fp s5.heap) σ' H5 s5:=by
     have:=I5.pinned (fpX fr5) (T.obj _ _ t5)
     rwa [List.nil_append]at this
    have sN5:aJ (join N N5) H5:=x6.nh
    refine thn (hg _ _ _ _ _ s5 σ' H5 xv u (λσ6 H6=>H6=H5/\RepE X.K (join N N5) σ6 ρ1/\RepE X.K N1 σ6 (bM nT cap ρ)/\(bM nT cap ρ).length=σ6.length) I5' rx ?_) λ_ s6 ⟨σ6,H6,I6,eH,rp6,rq6,l6⟩=>?_
    ·refine htg (join N N5) H5 σ' (bM nT cap ρ) ρ1 xv items[i] _ clean (rp.mono (x.bn.trans dc)) sN5 (i5.mono c5) e1 hlen λσ1 r1 r2 l1=>⟨rfl,r1,r2 N1 rp,l1⟩
    ·subst eH
     have hH5:H6 s2.heap.objs.size=some (.lst vs):=x5.hh _ _ hH0
     refine thn (hc _ _ _ _ _ s6 σ6 H6 (λc H7=>c=b/\aJ H6 H7) I6 ⟨join N N5,ρ1,b,sN5,rp6,e2,λH7 h7=>⟨rfl,h7⟩⟩) λok s7 ⟨H7,I7,eb,h7⟩=>?_
     subst eb
     have x7:Ext N1 (join N N5) H2 H7:=(x.trans x6).trans (.grow sN5 h7)
     cases ok with
     | false =>
      rw[if_neg (by decide)]at er ⊢
      exact fin s7 σ6 H7 (join N N5) vs es I7 rq6 l6 x7 hN5 (h7 _ _ hH5) (Nat.le_succ_of_le hvl) (hvs.mono dc) ⟨r,er,eds⟩
     | true =>
      rw[if_pos rfl]at er ⊢
      obtain⟨y,e3,er⟩:=oX er
      obtain⟨r',e4,er⟩:=oY er
      subst er
      refine thn (he _ _ _ _ _ s7 σ6 H7 (λv H8=>∃N8,Ext (join N N5) N8 H7 H8/\Is X.K N8 v y.1) I7 ⟨join N N5,ρ1,y.1,y.2,sN5.trans h7,rp6,e3,λv H8 N8 x8 i8 _=>⟨N8,x8,i8⟩⟩) λw8 s8 ⟨v8,H8,I8,r8,N8,x8,i8⟩=>?_
      have hH8:H8 s2.heap.objs.size=some (.lst vs):=x8.hh _ _ (h7 _ _ hH5)
      refine thn (pF _ s8 σ6 H8 (.ref s2.heap.objs.size) [v8] (.ref s2.heap.objs.size) [w8] (λ_ H9=>H9=upd H8 s2.heap.objs.size (.lst (vs++[v8]))) I8 rfl (.cons r8 .nil) ⟨_,vs,v8,rfl,rfl,hH8,by omega,rfl⟩) λ_ s9 ⟨_,H9,I9,_,e9⟩=>?_
      subst e9
      have hN8:N8 s2.heap.objs.size=none:=by
       cases z:N8 s2.heap.objs.size with
       | none=>rfl
       | some o =>
        rcases x8.new _ _ z with z'|z'
        ·rw[hN5]at z';cases z'
        ·rw[h7 _ _ hH5]at z';cases z'
      refine fin s9 σ6 _ N8 (vs++[v8]) (es++[y.1]) I9 rq6 l6 ((x7.trans x8).upd hD hN8) hN8 aB (by rw[List.length_append,List.length_singleton];omega) ((hvs.mono (dc.trans x8.bn)).append (.cons i8 .nil)) ⟨r',e4,by rw[List.append_assoc];exact eds⟩
   ·have ei:i=items.length:=by omega
    subst ei
    rw[List.drop_eq_nil_of_le (Nat.le_refl _)]at er
    cases er
    rw[List.append_nil]at eds
    subst eds
    refine thn (T.done (g9 X N' scope cl g3.objs.size { s2 with heap:=g3 } (upd H2 s2.heap.objs.size (.lst [])) fp) rfl rfl rfl hcalm items.length [] s' σ' H' (λ_ _=>False) I' (fpX hn) ti ((J1 _ H' sH).2 (Nat.le_refl _))) λq s4 ⟨hq,I9⟩=>?_
    subst hq
    obtain⟨m,hm,_⟩:=I9.loc
    have u1:Un (frs X.stack) fp H2 (upd H2 s2.heap.objs.size (.lst [])) s2.heap g3:=Un.laid old2 (Nat.le_refl _) hD
    have x9:Ext N1 (upd N s2.heap.objs.size (.lst vs)) H2 H':=by
     refine⟨x.hh,x.bn.trans λa o e=>by rw[a9 (λz=>by subst z;rw[hN0]at e;cases e)];exact e,λa o e=>?_,λa o e=>?_⟩
     ·by_cases z:a=s2.heap.objs.size
      ·subst z;rw[aB]at e;cases e;exact hH0
      ·rw[a9 z]at e;exact x.nh _ _ e
     ·by_cases z:a=s2.heap.objs.size
      ·subst z;exact .inr hD
      ·rw[a9 z]at e;exact x.new _ _ e
    refine hRR s2.heap.objs.size g3.objs.size s4 H' (upd N s2.heap.objs.size (.lst vs)) vs m hD (I2.call' (ch:=fp) I9.os (u1.trans I9.base) I9.hok I9.bare λb hb=>⟨(f2 b hb).2.2.2.1,(f2 b hb).2.1,(f2 b hb).2.2.2.2.1,(f2 b hb).2.2.2.2.2⟩) hm (I2.fpOk (by rw[hC];exact Nat.le_succ _) I9.free) x9 aB
     (hvs.mono λa o e=>by rw[a9 (λz=>by subst z;rw[hN0]at e;cases e)];exact e)
  ·refine⟨0,N1,[],[],pj nT cap σ,_,I4,T.keep _ _ _ st2 λb hb o e=>old3 _ _ (old2 _ _ e),λb hb=>?_,rfl,Nat.zero_le _,rep.caps, ?_,(Ext.refl sN).upd hD hND,hND,aB,Nat.zero_le _,.nil,ds,by simpa using ec,rfl⟩
   ·rw[a9 (fpD b hb)];exact(f2 b hb).1
   ·unfold bM pj;simp
 exact codeAny_compStart_list (loop _ rfl) (T.self _ 0 _ _ _ (T.keep _ _ _ st2 λb hb o e=>old3 _ _ (old2 _ _ e)) (loop _ rfl))
theorem eB {X:Cx}(hcalm:X.calm=true) {tg iter elt:Expr}{ifs:List Expr}{scope:Scope}{pos:Pos}{cl:List (Str×Addr)}{N':List Str}{nT:Nat}{cap:List Nat}{fi:FA}{tgF:FG}{g:TG}{fc:FT}{fe:FE}
  (S:CompSc X scope cl) (cp:Caps X N' scope cl nT cap) (hi:JI X tg iter fi)
  (hg:∀C s H fp,PG (g9 X N' scope cl C s H fp) tg g) (htg:TGE X.K nT tgF g) (hc:∀C s H fp,JC (g9 X N' scope cl C s H fp) ifs fc) (he:∀C s H fp,JE (g9 X N' scope cl C s H fp) elt fe)
  (hs:∀x,foldedSetIterable iter X.env x=pure x:=by intro _;rfl) :
  JE X (.ListComp elt [⟨tg,iter,ifs,0⟩] scope pos) (c8 fi nT cap tgF fc fe):=by
 intro pins s σ H Q I h
 obtain⟨B,ρ,d,b,sB,rep,e,q⟩:=h
 obtain⟨items,ei,e⟩:=oX e
 have hsz:items.length<=sizeLine:=Decidable.byContradiction λz=>by rw[if_neg z]at e;cases e
 rw[if_pos hsz]at e
 obtain⟨ds,ec,e⟩:=oY e
 cases e
 rw[eval_ListComp]
 refine wpAny_comprehension_free (use:=none) rfl hs S.clos S.kind S.names (thn (hi pins s σ H (λJ H2=>∃N1,Ext B N1 H H2/\pi X.K J N1 items) I ⟨B,ρ,items,sB,rep,ei,λJ H2 N1 x1 j1=>⟨N1,x1,j1⟩⟩) λv s1 h1=>thn h1 λitv s2 h2=>?_)
 obtain⟨it,fp,tn,J,H2,e,I2,T,st2,f2,N1,x1,j1⟩:=h2
 subst e
 refine mL hcalm S cp hg htg hc he I2 T st2 f2 (rep.mono x1.bn) x1.nh j1 hsz ec (RR:=λacc C=>compPost (model X.prog X.w) X.A X.xe none (EP X pins σ Q) acc C) ?_
 intro Dd C s' H' N vs m hD I' hm fC x hN hl
 refine⟨m,hm,λh' hs'=>⟨.ref Dd,H', ?_,rfl,q _ H' N (x1.trans x) (.lst (SqL.of hN) hl) λ_=>⟨Dd,vs,ds,rfl,rfl,x1.hh.free hD,hN,hl⟩⟩⟩
 obtain⟨c0,c1,c2,c3,c4,c5⟩:=fC
 exact I'.turned (t':=s'.toks) (λb o hb e=>(hs'.2 b hb).trans e) c0 c1 c3 c4 c5
theorem j9 {X:Cx}(hcalm:X.calm=true) {tg iter elt:Expr}{ifs:List Expr}{scope:Scope}{pos spos py:Pos}{cl:List (Str×Addr)}{N':List Str}{nT:Nat}{cap:List Nat}{fi:FA}{tgF:FG}{g:TG}{fc:FT}{fe:FE}{y:Str}{i:Nat}
  (hN:X.N.Nodup) (hi':X.N[i]? = some y) (hy:X.env.kindOf y=some .local)
  (hsw:swapsWith (.ListComp elt [⟨tg,iter,ifs,0⟩] scope pos) (some (.Name y py)) spos.line X.env=pure true)
  (S:CompSc X scope cl) (cp:Caps X N' scope cl nT cap) (hi:JI X tg iter fi)
  (hg:∀C s H fp,PG (g9 X N' scope cl C s H fp) tg g) (htg:TGE X.K nT tgF g) (hc:∀C s H fp,JC (g9 X N' scope cl C s H fp) ifs fc) (he:∀C s H fp,JE (g9 X N' scope cl C s H fp) elt fe)
  (hs:∀x,foldedSetIterable iter X.env x=pure x:=by intro _;rfl) :
  JS X (.Assign [.Name y py] (.ListComp elt [⟨tg,iter,ifs,0⟩] scope pos) spos) (bf i (c8 fi nT cap tgF fc fe)):=by
 intro pins s σ H E I h
 have h2:zK (tD X.K (c8 fi nT cap tgF fc fe)) (jy i) E σ H:=xy h
 obtain⟨B,ρ,d,b,sB,rep,e,q⟩:=h2
 obtain⟨items,ei,e⟩:=oX e
 have hsz:items.length<=sizeLine:=Decidable.byContradiction λz=>by rw[if_neg z]at e;cases e
 rw[if_pos hsz]at e
 obtain⟨ds,ec,e⟩:=oY e
 cases e
 rw[exec_Assign_Name_used _ _ _ _ hsw]
 refine wX (wpAny_standAt (wX ?_))
 show wpAny _ _ (do let _ ←comprehension (.ListComp elt [⟨tg,iter,ifs,0⟩] scope pos) scope X.env _ (newList []) false (eval iter X.env) (some (assign (.Name y py) X.env))) _ _ s
 refine wX (wpAny_mono (wpAny_comprehension_free (use:=some (assign (.Name y py) X.env)) (Q:=λ_ s'=>SP X pins E .next s') rfl hs S.clos S.kind S.names
  (thn (hi pins s σ H (λJ H2=>∃N1,Ext B N1 H H2/\pi X.K J N1 items) I ⟨B,ρ,items,sB,rep,ei,λJ H2 N1 x1 j1=>⟨N1,x1,j1⟩⟩) λv s1 h1=>thn h1 λitv s2 h2=>?_)) (λ_ s' hq=>wY (wY hq)) λ_ _ e=>e)
 obtain⟨it,fp,tn,J,H2,e,I2,T,st2,f2,N1,x1,j1⟩:=h2
 subst e
 refine mL hcalm S cp hg htg hc he I2 T st2 f2 (rep.mono x1.bn) x1.nh j1 hsz ec (RR:=λacc C=>compPost (model X.prog X.w) X.A X.xe (some (assign (.Name y py) X.env)) (λ_ s'=>SP X pins E .next s') acc C) ?_
 intro Dd C s' H' N vs m hD I' hm fC x hN' hl
 show wpAny _ _ (assign (.Name y py) X.env (.ref Dd)) _ _ s'
 obtain⟨c0,c1,c2,c3,c4,c5⟩:=fC
 refine wpAny_assign_Name (p7 I' hN hi' (.inl hy) (r:=show aN (.ref Dd) (.ref Dd)from rfl) (λs9 I9 ⟨a,sb,ha⟩=>?_) (.inr hy))
 have nC:C≠a:=by
  rcases ha with z|z
  ·rw[z];exact c1
  ·exact λw=>c4 y a z w.symm
 refine⟨m,hm.sameBut sb nC,λh' hs'=>⟨_,H', ?_,q _ H' N (x1.trans x) (.lst (SqL.of hN') hl) λ_=>⟨Dd,vs,ds,rfl,rfl,x1.hh.free hD,hN',hl⟩⟩⟩
 exact I9.turned (t':=s9.toks) (λb o hb e=>(hs'.2 b hb).trans e) c0 c1 c3 c4 c5
section
variable {X:Cx}{a b c e:Expr}{pos:Pos}
theorem PE.to {t t':TE}(h:PE X e t) (k:∀σ H Q,t' σ H Q->t σ H Q):PE X e t':=λpins s σ H Q I q=>h pins s σ H Q I (k σ H Q q)
theorem PT.to {t t':TT}(h:PT X e t) (k:∀σ H Q,t' σ H Q->t σ H Q):PT X e t':=λpins s σ H Q I q=>h pins s σ H Q I (k σ H Q q)
theorem PW.to {t t':TT}(h:PW X e t) (k:∀σ H Q,t' σ H Q->t σ H Q):PW X e t':=λwh pins s σ H Q I q=>h wh pins s σ H Q I (k σ H Q q)
theorem PA.to {es:List Expr}{t t':TA}(h:PA X es t) (k:∀σ H Q,t' σ H Q->t σ H Q):PA X es t':=λpos pins s σ H Q I q=>h pos pins s σ H Q I (k σ H Q q)
theorem PS.to {st:Stmt}{t t':TS}(h:PS X st t) (k:∀E σ H,t' E σ H->t E σ H):PS X st t':=λpins s σ H E I q=>h pins s σ H E I (k E σ H q)
theorem PSs.to {st:List Stmt}{t t':TS}(h:PSs X st t) (k:∀E σ H,t' E σ H->t E σ H):PSs X st t':=λpins s σ H E I q=>h pins s σ H E I (k E σ H q)
theorem PI.to {tg it:Expr}{t t':TI}(h:PI X tg it t) (k:∀σ H Q,t' σ H Q->t σ H Q):PI X tg it t':=λpins s σ H Q I q=>h pins s σ H Q I (k σ H Q q)
theorem Ah {K:PySem.W.Frag}{d:D}{v:V}(i:∀B,Is K B v d) {σ:St}{H:Hp}{Q:VK}(h:tD K (fC d) σ H Q):tC v σ H Q:=by
 obtain⟨B,ρ,d',b,s,r,e,q⟩:=h
 cases e
 exact q.one s (i B)
theorem af (i:Nat) {x:Str}(hN:X.N[i]? = some x:=by rfl) (hv:Vis X.env.scope x:=by first|exact Or.inl rfl|exact Or.inr (Or.inl rfl)|exact Or.inr (Or.inr rfl)) (hd:(x == ("__debug__" : Str))=false:=by decide)
  (hcd:(x == ("__classdict__" : Str))=false:=by decide):JE X (.Name x pos) (ag i):=PE.to (mC hN hv hd hcd) λ_ _ _ h=>EC h
theorem am {i:Int}{j:Nat}:JE X (.Constant (.int i) j pos) (fC (.int i)):=PE.to Ec λ_ _ _ h=>Ah (λ_=>.int i) h
theorem lC {i:Bool}{j:Nat}:JE X (.Constant (.bool i) j pos) (fC (.bl i)):=PE.to F8 λ_ _ _ h=>Ah (λ_=>.bl i) h
theorem gb {j:Nat}:JE X (.Constant .none j pos) (fC .non):=PE.to Ed λ_ _ _ h=>Ah (λ_=>.non) h
theorem ay {x:Str}{j:Nat}:JE X (.Constant (.str x) j pos) (fC (.str x)):=PE.to Ee λ_ _ _ h=>Ah (λ_=>.str x) h
theorem Ci {x:Str}{v:V}{d:D}{u:Value}(hg:Gl X x) (hm:X.mg x=some u) (r:aN v u) (i:∀B,Is X.K B v d) (hd:(x == ("__debug__" : Str))=false:=by decide):JE X (.Name x pos) (fC d):=PE.to (xp hg hm r hd) λ_ _ _ h=>Ah i h
theorem aC {op:Operator}{f:D->D->Option (D×Bool)}{fa fb:FE}(ho:OpR X (binaryOp op) (rD X.K f)) (ha:JE X a fa) (hb:JE X b fb):JE X (.BinOp a op b pos) (f2 f fa fb):=PE.to (FR ho ha hb) λ_ _ _ h=>BZ h
theorem Gs {op:UnaryOp}{f:D->Option (D×Bool)}{fa:FE}(ho:UnR X (unaryOp op) (rDU X.K f)) (ha:JE X a fa):JE X (.UnaryOp op a pos) (f1 f fa):=PE.to (FU ho ha) λ_ _ _ h=>Hn h
theorem eK {op:CmpOp}{f:D->D->Option (D×Bool)}{fa fb:FE}(ho:OpR X (compareOp op) (rD X.K f)) (ha:JE X a fa) (hb:JE X b fb) (hm:behindInMarks op b=false:=by first|exact mD _ (by decide) (by decide)|rfl):JE X (.Compare a [op] [b] pos) (f2 f fa fb):=PE.to (BI ho ha hb hm) λ_ _ _ h=>BZ h
theorem Ai {K:PySem.W.Frag}{f:FE}{σ:St}{H:Hp}{Q:Bool->Hp->Prop}(h:tDT K (tOf f) σ H Q):tD K f σ H λx H'=>∃k,x=.bl k/\Q k H':=by
 obtain⟨B,ρ,c,s,r,e,q⟩:=h
 unfold tOf at e
 split at e
 ·rename_i c' b' ef
  cases e
  refine⟨B,ρ,.bl c,b',s,r,ef,λv H' N x i _=>?_⟩
  cases i
  exact⟨c,rfl,q H' x.hh⟩
 ·cases e
theorem aR {op:CmpOp}{f:D->D->Option (D×Bool)}{fa fb:FE}(ho:OpR X (compareOp op) (rD X.K f)) (ha:JE X a fa) (hb:JE X b fb) (hm:behindInMarks op b=false:=by first|exact mD _ (by decide) (by decide)|rfl):JT X (.Compare a [op] [b] pos) (tOf (f2 f fa fb)) :=
 PT.to (BJ ho ha hb hm) λ_ _ _ h=>BZ (Ai h)
theorem iY {f:FE}(h:JE X e f) (he:∀whole,isTrue e X.env whole=(do let v ←whole;standAt e.pos;holding [v] (truthy v)):=by intro _;rfl):JT X e (tOf f):=PT.to (Ef h he) λ_ _ _ q=>Ai q
@[simp] def k8 (f g:D->D->Option (D×Bool)) (fa fb fc:FE):FE:=λρ=>(fa ρ).bind λx=>(fb ρ).bind λy=>match f x.1 y.1 with
 | some (.bl true,_)=>(fc ρ).bind λz=>g y.1 z.1
 | some (.bl false,_)=>some (.bl false,false)
 | _=>none
theorem Aj {K:PySem.W.Frag}{f g:D->D->Option (D×Bool)}{fa fb fc:FE}{σ:St}{H:Hp}{Q:VK}(h:tD K (k8 f g fa fb fc) σ H Q):zP (rD K f) (rD K g) (tD K fa) (tD K fb) (tD K fc) σ H Q:=by
 obtain⟨B,ρ,d,b,s,r,e,q⟩:=h
 obtain⟨x,ex,e⟩:=oX e
 obtain⟨y,ey,e⟩:=oX e
 refine⟨B,ρ,x.1,x.2,s,r,ex,λv H1 N1 x1 i1 _=>⟨N1,ρ,y.1,y.2,x1.nh,r.mono x1.bn,ey,λv2 H2 N2 x2 i2 _=>?_⟩⟩
 split at e
 ·rename_i b' ef
  obtain⟨z,ez,e⟩:=oX e
  refine⟨N2,x.1,y.1,.bl true,b',x2.nh,i1.mono x2.bn,i2,ef,λv3 H3 N3 x3 i3 _=>?_⟩
  cases i3
  refine⟨true,rfl, ?_⟩
  rw[if_pos rfl]
  refine⟨N3,ρ,z.1,z.2,x3.nh,r.mono (x1.bn.trans (x2.bn.trans x3.bn)),ez,λv4 H4 N4 x4 i4 _=>⟨N4,y.1,z.1,d,b,x4.nh,i2.mono (x3.bn.trans x4.bn),i4,e, ?_⟩⟩
  exact q.into ((x1.trans x2).trans (x3.trans x4))
 ·rename_i b' ef
  cases e
  refine⟨N2,x.1,y.1,.bl false,b',x2.nh,i1.mono x2.bn,i2,ef,λv3 H3 N3 x3 i3 _=>?_⟩
  cases i3
  refine⟨false,rfl, ?_⟩
  rw[if_neg (by decide)]
  exact(q.into ((x1.trans x2).trans x3)).one x3.nh (.bl false)
 ·cases e
theorem Ak {op op':CmpOp}{f g:D->D->Option (D×Bool)}{fa fb fc:FE}(ho:OpR X (compareOp op) (rD X.K f)) (ho':OpR X (compareOp op') (rD X.K g)) (ha:JE X a fa) (hb:JE X b fb) (hc:JE X c fc)
  (hm:lastMarks [op,op'] [b,c]=false:=by with_unfolding_all rfl):JE X (.Compare a [op,op'] [b,c] pos) (k8 f g fa fb fc):=PE.to (zQ ho ho' ha hb hc hm) λ_ _ _ h=>Aj h
theorem Cj {K:PySem.W.Frag}{f g:FT}{σ:St}{H:Hp}{Q:Bool->Hp->Prop}(h:tDT K (dM f g) σ H Q):FB (tDT K f) (tDT K g) σ H Q:=by
 obtain⟨B,ρ,c,s,r,e,q⟩:=h
 unfold dM at e
 cases ef:f ρ with
 | none=>rw[ef]at e;cases e
 | some k =>
  rw[ef]at e
  refine⟨B,ρ,k,s,r,ef,λH1 h1=>?_⟩
  cases k with
  | true=>rw[if_pos rfl];exact⟨B,ρ,c,s.trans h1,r,e,λH2 h2=>q H2 (h1.trans h2)⟩
  | false=>rw[if_neg (by decide)];cases e;exact q H1 h1
theorem EE {K:PySem.W.Frag}{f g:FT}{σ:St}{H:Hp}{Q:Bool->Hp->Prop}(h:tDT K (iC f g) σ H Q):tOr (tDT K f) (tDT K g) σ H Q:=by
 obtain⟨B,ρ,c,s,r,e,q⟩:=h
 unfold iC at e
 cases ef:f ρ with
 | none=>rw[ef]at e;cases e
 | some k =>
  rw[ef]at e
  refine⟨B,ρ,k,s,r,ef,λH1 h1=>?_⟩
  cases k with
  | false=>rw[if_neg (by decide)];exact⟨B,ρ,c,s.trans h1,r,e,λH2 h2=>q H2 (h1.trans h2)⟩
  | true=>rw[if_pos rfl];cases e;exact q H1 h1
theorem Cm {K:PySem.W.Frag}{f:FT}{σ:St}{H:Hp}{Q:Bool->Hp->Prop}(h:tDT K (iI f) σ H Q):FC (tDT K f) σ H Q:=by
 obtain⟨B,ρ,c,s,r,e,q⟩:=h
 obtain⟨k,ek,e⟩:=oY e
 subst e
 exact⟨B,ρ,k,s,r,ek,λH1 h1=>q H1 h1⟩
variable {a0:List Expr}
theorem jA {f:FT}(ha:JT X a f):JW X (.BoolOp .And [a] pos) f:=BB ha
theorem rB {f:FT}(ha:JT X a f):JW X (.BoolOp .Or [a] pos) f:=Eg ha
theorem mM {f g:FT}(ha:JT X a f) (hb:JW X (.BoolOp .And (b::a0) pos) g):JW X (.BoolOp .And (a::b::a0) pos) (dM f g):=PW.to (Eh ha hb) λ_ _ _ h=>Cj h
theorem tF {f g:FT}(ha:JT X a f) (hb:JW X (.BoolOp .Or (b::a0) pos) g):JW X (.BoolOp .Or (a::b::a0) pos) (iC f g):=PW.to (FD ha hb) λ_ _ _ h=>EE h
theorem rC {f:FT}(h:JW X e f):JT X e f:=h.pt
theorem wc {f:FT}(ha:JT X a f):JT X (.UnaryOp .Not a pos) (iI f):=PT.to (Ei ha) λ_ _ _ h=>Cm h
@[simp] def mN (f g:FE):FE:=λρ=>match f ρ with|some (.bl true,_)=>g ρ|some (.bl false,_)=>some (.bl false,false)|_=>none
@[simp] def fOr (f g:FE):FE:=λρ=>match f ρ with|some (.bl true,_)=>some (.bl true,false)|some (.bl false,_)=>g ρ|_=>none
@[simp] def HQ (f:FE):FE:=λρ=>match f ρ with|some (.bl c,_)=>some (.bl (!c),false)|_=>none
theorem k9 {f g:FE}(ha:JE X a f) (hb:JE X (.BoolOp .And (b::a0) pos) g):JE X (.BoolOp .And (a::b::a0) pos) (mN f g):=PE.to (Ek ha hb) λσ H Q h=>by
 obtain⟨B,ρ,d,k,s,r,e,q⟩:=h
 unfold mN at e
 split at e
 ·rename_i b' ef
  refine⟨B,ρ,_,_,s,r,ef,λv H1 N1 x1 i1 _=>?_⟩
  cases i1
  refine⟨true,rfl, ?_⟩
  rw[if_pos rfl]
  exact⟨N1,ρ,d,k,x1.nh,r.mono x1.bn,e,q.into x1⟩
 ·rename_i b' ef
  cases e
  refine⟨B,ρ,_,_,s,r,ef,λv H1 N1 x1 i1 _=>?_⟩
  cases i1
  refine⟨false,rfl, ?_⟩
  rw[if_neg (by decide)]
  exact(q.into x1).one x1.nh (.bl false)
 ·cases e
theorem Gu {f g:FE}(ha:JE X a f) (hb:JE X (.BoolOp .Or (b::a0) pos) g):JE X (.BoolOp .Or (a::b::a0) pos) (fOr f g):=PE.to (FH ha hb) λσ H Q h=>by
 obtain⟨B,ρ,d,k,s,r,e,q⟩:=h
 unfold fOr at e
 split at e
 ·rename_i b' ef
  cases e
  refine⟨B,ρ,_,_,s,r,ef,λv H1 N1 x1 i1 _=>?_⟩
  cases i1
  refine⟨true,rfl, ?_⟩
  rw[if_pos rfl]
  exact(q.into x1).one x1.nh (.bl true)
 ·rename_i b' ef
  refine⟨B,ρ,_,_,s,r,ef,λv H1 N1 x1 i1 _=>?_⟩
  cases i1
  refine⟨false,rfl, ?_⟩
  rw[if_neg (by decide)]
  exact⟨N1,ρ,d,k,x1.nh,r.mono x1.bn,e,q.into x1⟩
 ·cases e
theorem kB {op:BoolOp}{f:FE}(h:JE X a f):JE X (.BoolOp op [a] pos) f:=Ej h
variable {es:List Expr}
theorem ah:JA X [] ak:=PA.to iU λ_ _ _ h=>Cb h
theorem ac {f:FE}{g:FA}(ha:JE X e f) (hr:JA X es g) (hs:starEach (e::es) X.env=(false,eval e X.env)::starEach es X.env:=by rfl):JA X (e::es) (ae f g):=PA.to (ga ha hr hs) λ_ _ _ h=>Ab h
@[simp] def aQ:List D->Option (D×Bool):=λds=>if ds.length<=sizeLine then some (.tup ds,false)else none
@[simp] def bN:List D->Option (D×Bool):=λds=>if ds.length<=sizeLine then some (.lst ds,true)else none
theorem aU {x1} {f:FA}(h:JA X es f):JE X (.Tuple es x1 pos) (fA aQ f):=PE.to (vT h) λσ H Q q=>by
 obtain⟨B,ρ,ds,s,r,e,k⟩:=Ca q
 refine⟨B,ρ,ds,s,r,e,λvs H1 N1 x1 i1=>?_⟩
 obtain⟨B2,ds2,d,b,s2,i2,e2,k2⟩:=k vs H1 N1 x1 i1
 unfold aQ at e2
 split at e2
 ·rename_i hz
  cases e2
  refine⟨by rw[i2.length];exact hz,λp hp=>k2 _ _ (upd B2 p (.tup vs)) (.laid s2 hp) (.tup (SqT.of aB) (i2.mono (Ext.laid s2 hp).bn)) (by simp)⟩
 ·cases e2
theorem bT {f:FA}(h:JA X es f):JE X (.List es pos) (fA bN f):=PE.to (Ez h) λσ H Q q=>by
 obtain⟨B,ρ,ds,s,r,e,k⟩:=Ca q
 refine⟨B,ρ,ds,s,r,e,λvs H1 N1 x1 i1=>?_⟩
 obtain⟨B2,ds2,d,b,s2,i2,e2,k2⟩:=k vs H1 N1 x1 i1
 unfold bN at e2
 split at e2
 ·rename_i hz
  cases e2
  refine⟨by rw[i2.length];exact hz,λp hp=>k2 _ _ (upd B2 p (.lst vs)) (.laid s2 hp) (.lst (SqL.of aB) (i2.mono (Ext.laid s2 hp).bn)) λ_=>⟨p,vs,ds2,rfl,rfl,hp,aB,i2.mono (Ext.laid s2 hp).bn⟩⟩
 ·cases e2
end
section
variable {X:Cx}
theorem f7 {f:Value->Value->Sem Value}{r r':R2}(h:OpR X f r) (k:∀x y H Q,r' x y H Q->r x y H Q):OpR X f r':=λpins s σ H x y v u Q I rx ry q=>h pins s σ H x y v u Q I rx ry (k x y H Q q)
def orD (f g:D->D->Option (D×Bool)):D->D->Option (D×Bool):=λx y=>match f x y with|some r=>some r|none=>g x y
theorem kD {s:Value->Value->Sem Value}{f g:D->D->Option (D×Bool)}(h:OpR X s (rD X.K f)) (h':OpR X s (rD X.K g)):OpR X s (rD X.K (orD f g)):=by
 intro pins st σ H x y v u Q I rx ry q
 obtain⟨B,dx,dy,d,b,sB,ix,iy,e,q⟩:=q
 unfold orD at e
 split at e
 ·rename_i r ef
  cases e
  exact h pins st σ H x y v u Q I rx ry ⟨B,dx,dy,_,_,sB,ix,iy,ef,q⟩
 ·exact h' pins st σ H x y v u Q I rx ry ⟨B,dx,dy,_,_,sB,ix,iy,e,q⟩
@[simp] def iop (C:Int->Int->Bool) (g:Int->Int->D):D->D->Option (D×Bool)
 | .int i,.int j=>if C i j=true then some (g i j,false)else none
 | _,_=>none
theorem rE {s:Value->Value->Sem Value}{C:Int->Int->Prop}{C':Int->Int->Bool}{g:Int->Int->V}{g':Int->Int->D}(h:OpR X s (rI C g)) (hC:∀i j,C' i j=true->C i j) (hg:∀i j B,Is X.K B (g i j) (g' i j)):OpR X s (rD X.K (iop C' g')):=by
 refine f7 h λx y H Q q=>?_
 obtain⟨B,dx,dy,d,b,sB,ix,iy,e,q⟩:=q
 cases ix<;>cases iy<;>try (simp[iop]at e;done)
 rename_i i j
 simp only[iop]at e
 split at e
 ·rename_i hc
  cases e
  exact⟨i,j,rfl,rfl,hC i j hc,q.one sB (hg i j B)⟩
 ·cases e
theorem gF {s:Value->Value->Sem Value}{g:Int->Int->V}{g':Int->Int->D}(h:OpR X s (rI0 g)) (hg:∀i j B,Is X.K B (g i j) (g' i j)):OpR X s (rD X.K (iop (λ_ _=>true) g')):=by
 refine f7 h λx y H Q q=>?_
 obtain⟨B,dx,dy,d,b,sB,ix,iy,e,q⟩:=q
 cases ix<;>cases iy<;>try (simp[iop]at e;done)
 rename_i i j
 simp only[iop,if_true]at e
 cases e
 exact⟨i,j,rfl,rfl,q.one sB (hg i j B)⟩
abbrev EF:D->D->Option (D×Bool):=iop (λ_ _=>true) λi j=>.int (i+j)
abbrev Gv:D->D->Option (D×Bool):=iop (λ_ _=>true) λi j=>.int (i - j)
abbrev Gw:D->D->Option (D×Bool):=iop (λi j=>decide ((-18446744073709551616<i/\i<18446744073709551616)∨(-18446744073709551616<j/\j<18446744073709551616))) λi j=>.int (i*j)
abbrev d9:D->D->Option (D×Bool):=iop (λ_ j=>decide (0<j/\j<1073741824)) λi j=>.int (i / j)
abbrev c6:D->D->Option (D×Bool):=iop (λ_ j=>decide (0<j)) λi j=>.int (i % j)
abbrev iLt:D->D->Option (D×Bool):=iop (λ_ _=>true) λi j=>.bl (decide (i<j))
abbrev iLe:D->D->Option (D×Bool):=iop (λ_ _=>true) λi j=>.bl (decide (i<=j))
abbrev iGt:D->D->Option (D×Bool):=iop (λ_ _=>true) λi j=>.bl (decide (j<i))
theorem Gx:OpR X (binaryOp .Add) (rD X.K EF):=gF Es λ_ _ _=>.int _
theorem Gy:OpR X (binaryOp .Sub) (rD X.K Gv):=gF Et λ_ _ _=>.int _
theorem Gz:OpR X (binaryOp .Mult) (rD X.K Gw):=rE Eu (λi j h=>by have h:=of_decide_eq_true h;unfold BG;omega) λ_ _ _=>.int _
theorem cF:OpR X (binaryOp .FloorDiv) (rD X.K d9):=rE BH (λi j h=>by have h:=of_decide_eq_true h;unfold FW;omega) λ_ _ _=>.int _
theorem cw:OpR X (binaryOp .Mod) (rD X.K c6):=rE Ew (λ_ _ h=>of_decide_eq_true h) λ_ _ _=>.int _
theorem Ho:OpR X (compareOp .Lt) (rD X.K iLt):=gF FX λ_ _ _=>.bl _
theorem Hq:OpR X (compareOp .LtE) (rD X.K iLe):=gF FY λ_ _ _=>.bl _
theorem G0:OpR X (compareOp .Gt) (rD X.K iGt):=gF FZ λ_ _ _=>.bl _
@[simp] def sop (C:Str->Str->Bool) (g:Str->Str->D):D->D->Option (D×Bool)
 | .str i,.str j=>if C i j=true then some (g i j,false)else none
 | _,_=>none
abbrev Al:D->D->Option (D×Bool):=sop (λi j=>decide (i.length+j.length<=sizeLine)) λi j=>.str (i++j)
abbrev sLe:D->D->Option (D×Bool):=sop (λ_ _=>true) λi j=>.bl (!decide (j.cps.toList<i.cps.toList))
theorem EG:OpR X (binaryOp .Add) (rD X.K Al):=by
 refine f7 vR λx y H Q q=>?_
 obtain⟨B,dx,dy,d,b,sB,ix,iy,e,q⟩:=q
 cases ix<;>cases iy<;>try (simp[Al,sop]at e;done)
 rename_i i j
 simp only[Al,sop]at e
 split at e
 ·rename_i hc
  cases e
  exact⟨i,j,rfl,rfl,of_decide_eq_true hc,q.one sB (.str _)⟩
 ·cases e
theorem G1:OpR X (compareOp .LtE) (rD X.K sLe):=by
 intro pins s σ H x y v u Q I rx ry q
 obtain⟨B,dx,dy,d,b,sB,ix,iy,e,q⟩:=q
 cases ix<;>cases iy<;>try (simp[sLe,sop]at e;done)
 rename_i i j
 simp only[sLe,sop,if_true]at e
 cases e
 obtain⟨t,rfl⟩:=rx
 obtain⟨t',rfl⟩:=ry
 exact PySem.P.le_str ⟨.bl _,H,I,rfl,q.one sB (.bl _)⟩
end
section
variable {X:Cx}{a b c e:Expr}{pos:Pos}{st:Stmt}{a0:List Stmt}
theorem bD:JSs X [] bQ:=PSs.to BC λ_ _ _ h=>Ad h
theorem au {g h:FS}(h1:JS X st g) (h2:JSs X a0 h):JSs X (st::a0) (aK g h):=PSs.to (zI h1 h2) λ_ _ _ q=>Cc q
theorem az {g:FS}(h1:JS X st g):JSs X [st] g:=BD h1
theorem bR {c:Expr}{a b:List Stmt}{fc:FT}{g h:FS}(hc:JT X c fc) (ha:JSs X a g) (hb:JSs X b h):JS X (.If c a b pos) (gIf fc g h):=PS.to (FM hc ha hb) λ_ _ _ q=>ED q
theorem aH {f:FE}(he:JE X e f):JS X (.Return (some e) pos) (bu f):=PS.to (zJ he) λ_ _ _ q=>Ce q
theorem jB (i:Nat) {x:Str}{p:Pos}(hN:X.N[i]? = some x:=by rfl) (hv:Vis X.env.scope x:=by first|exact Or.inl rfl|exact Or.inr (Or.inl rfl)|exact Or.inr (Or.inr rfl)) (hd:(x == ("__debug__" : Str))=false:=by decide)
  (hcd:(x == ("__classdict__" : Str))=false:=by decide):JS X (.Return (some (.Name x p)) pos) (iJ i):=PS.to (zJ (mC hN hv hd hcd)) λ_ _ _ q=>Ae q
theorem aF {i:Nat}{x:Str}{p:Pos}{f:FE}(hN:X.N.Nodup) (he:JE X e f) (hi:X.N[i]? = some x:=by rfl) (hx:Loc X.env.scope x:=by first|exact Or.inl rfl|exact Or.inr rfl) (hs:swapsWith e (some (.Name x p)) pos.line X.env=pure false:=by rfl)
  (hf:X.fn x=true∨X.env.scope.names.lookup x=some .local:=by first|exact .inl rfl|exact .inr rfl):JS X (.Assign [.Name x p] e pos) (bf i f):=PS.to (vO hN hi hx he hs hf) λ_ _ _ q=>xy q
theorem Am {c:Expr}{body:List Stmt}{fc:FT}{g:FS}(n:Nat) (hp:PassesOwn (model X.prog X.w) X.A X.env X.xe) (hc:JT X c fc) (hb:JSs X body g):JS X (.While c body [] pos) (f6 fc g n):=PS.to (zM hp hc hb) λ_ _ _ q=>yN q
theorem mO {tg iter:Expr}{body:List Stmt}{fi:FA}{tgF:FG}{t:TG}{g:FS}(hp:PassesOwn (model X.prog X.w) X.A X.env X.xe) (hc:X.calm=true) (hi:JI X tg iter fi) (hg:PG X tg t) (ht:tDG X.K tgF t) (hb:JSs X body g)
  (hs:∀x,foldedSetIterable iter X.env x=pure x:=by intro _;rfl):JS X (.For tg iter body [] pos) (r6 fi tgF g):=PS.to (zO hp hc hi hg hb hs) λ_ _ _ q=>Cg ht q
theorem mt {tg iter:Expr}{body:List Stmt}{fi:FA}{tgF:FG}{t:TG}{g:FS}(hp:PassesOwn (model X.prog X.w) X.A X.env X.xe) (hc:X.calm=true) (hi:PI X tg iter (tDR X.K fi)) (hg:PG X tg t) (ht:tDG X.K tgF t) (hb:JSs X body g)
  (hs:∀x,foldedSetIterable iter X.env x=pure x:=by intro _;rfl):JS X (.For tg iter body [] pos) (lB fi tgF g):=PS.to (zO hp hc hi hg hb hs) λ_ _ _ q=>Ag ht q
theorem gG {i:Nat}{x:Str}{p apos cpos:Pos}{f:FE}(he:JE X e f) (hN:X.N[i]? = some x:=by rfl) (hv:Vis X.env.scope x:=by first|exact Or.inl rfl|exact Or.inr (Or.inl rfl)|exact Or.inr (Or.inr rfl)) (hd:(x == ("__debug__" : Str))=false:=by decide)
  (hcd:(x == ("__classdict__" : Str))=false:=by decide)
  (hbase:attributeBase (.Name x p) "append" X.env (eval (.Name x p) X.env)=eval (.Name x p) X.env:=by rfl)
  (hfew:((backTo cpos (starEach [e] X.env)).all (λx=>!x.1) && (backToKw cpos (keywordEach [] X.env)).all (λx=>x.1.isSome)
   && decide ([e].length+([]:List Keyword).length+(if([]:List Keyword).isEmpty then 0 else 1)<30))=true:=by rfl)
  (hline:(apos.endLine == cpos.line)=true:=by rfl) (hs:starEach [e] X.env=[(false,eval e X.env)]:=by rfl) (hsw:swapsWith (.Call (.Attribute (.Name x p) "append" apos) [e] [] cpos) none pos.line X.env=pure false:=by rfl) :
  JS X (.Expr (.Call (.Attribute (.Name x p) "append" apos) [e] [] cpos) pos) (mf i f):=by
 refine PS.to (BE (Dy PySem.F.plainAttrs_list PySem.F.slot_list_append PySem.F.type_list_append pF (mC hN hv hd hcd) (ga he iU hs) hbase hfew hline hs rfl) hsw) λE σ H q=>?_
 obtain⟨a,us,h1,h2,k⟩:=Cf q
 exact⟨_,h1,.inl ⟨rfl,us,SqL.of h2⟩,k⟩
end
@[simp] def aX (g:FS) (n k:Nat):List D->Option (D×Bool):=λds=>if ds.length=n then
 match g (ds.map (λd=>some (d,false))++List.replicate k none) with
 | some (.rt d b)=>some (d,b)
 | some (.nx _)=>some (.non,false)
 | _=>none
 else none
def spD (K:PySem.W.Frag) (f:List D->Option (D×Bool)):Sp:=λvs H Q _=>∃(B:Hp) (ds:List D) (d:D) (b:Bool),(aJ B H/\Tb K B)/\IsL K B vs ds/\f ds=some (d,b)/\Fin K B H d b Q
theorem tG {K:PySem.W.Frag}{B H:Hp}{vs:List V}{ds:List D}{N:List Str}(sB:aJ B H) (tb:Tb K B) (i:IsL K B vs ds):StN K B H B H (L2.gz N vs) (ds.map (λd=>some (d,false))++List.replicate (N.length - vs.length) none):=by
 have nf:∀(j:Nat) (d:D) (b:Bool),(ds.map (λd=>some (d,false))++List.replicate (N.length - vs.length) none:Env)[j]? = some (some (d,b))->b=false/\ds[j]? = some d:=λj d b e=>by
  by_cases hj:j<ds.length
  ·rw[List.getElem?_append_left (by simpa using hj),List.getElem?_map]at e
   obtain⟨d',h1,h2⟩:=oY e
   cases h2
   exact⟨rfl,h1⟩
  ·rw[List.getElem?_append_right (by simpa using Nat.not_lt.mp hj),List.getElem?_replicate]at e
   split at e<;>cases e
 have no:∀a,¬own (L2.gz N vs) (ds.map (λd=>some (d,false))++List.replicate (N.length - vs.length) none) a:=λa ⟨j,d,h,_⟩=>by
  obtain⟨z,_⟩:=nf j d true h;cases z
 refine⟨sB,tb,.refl sB, ?_,λj d e=>?_,λj d e=>?_,λj k a d e h=>?_⟩
 ·unfold L2.gz;rw[List.length_append,List.length_append,List.length_map,List.length_map,List.length_replicate,List.length_replicate,i.length]
 ·obtain⟨_,e1⟩:=nf j d false e
  obtain⟨v,h1,h2⟩:=i.get e1
  refine⟨v, ?_,h2.mono λa o e=>by rw[bW (no a)];exact e⟩
  unfold L2.gz
  have hj:j<vs.length:=(List.getElem?_eq_some_iff.mp h1).1
  rw[List.getElem?_append_left (by simpa using hj),List.getElem?_map,h1]<;>rfl
 ·obtain⟨z,_⟩:=nf j d true e;cases z
 ·obtain⟨z,_⟩:=nf j d true h;cases z
section
variable {P:Program}{w:World}{K:PySem.W.Frag}{mg:Str->Option Value}{base:Heap}
theorem G2 {x qual:Str}{st:Stmt}{f:Addr}{fd:FuncData}{N ps:List Str}{k:Nat}{g:FS}(F:Fun K x qual st f fd) (S:FnScope N ps (ax st))
  (hb:∀(cdv:Value) (A:Around) (outer:List PySem.Env) (s:Shared) (H:Hp) (E:XK),Room k (A.deeper (envOfC qual (ax st) s.heap.objs.size f cdv))->JSs (mF CX0 P w K mg base N qual (ax st) f cdv A outer s H E).nox (c7 st) g) :
  FnOk P w K mg base CX0 (k+1) f fd ps (spD K (aX g ps.length (N.length - ps.length))):=by
 have len:∀vs H Q E,spD K (aX g ps.length (N.length - ps.length)) vs H Q E->vs.length=ps.length:=λvs H Q E h=>by
  obtain⟨B,ds,d,b,sB,i,e,q⟩:=h
  unfold aX at e
  split at e
  ·rename_i hl;rw[i.length];exact hl
  ·cases e
 refine F.ok S len λcdv A outer s H vs Q E hr h=>⟨_,hb cdv A outer s H E hr, ?_⟩
 have hlen:=len vs H Q E h
 obtain⟨B,ds,d,b,sB,i,e,q⟩:=h
 unfold aX at e
 rw[if_pos (by rw[←i.length];exact hlen)]at e
 have s0:=tG (N:=N) sB.1 sB.2 i
 rw[hlen]at s0
 split at e
 ·rename_i d' b' eg
  cases e
  exact⟨B,H,_,_,⟨B,s0⟩,eg,λv H' N' x' i' f'=>q v H' N' x' i' f'⟩
 ·rename_i ρ' eg
  cases e
  exact⟨B,H,_,_,⟨B,s0⟩,eg,λσ' H' ⟨N',s'⟩=>q .non H' N' s'.ext .non (by simp)⟩
 ·cases e
structure Fn (P:Program) (w:World) (K:PySem.W.Frag) (mg:Str->Option Value) (base:Heap) (k:Nat) (x:Str) (f:List D->Option (D×Bool)):Prop where
 ex:∃(ad:Addr) (fd:FuncData) (ps:List Str),FnOk P w K mg base CX0 k ad fd ps (spD K f)/\mg x=some (.ref ad)/\PySem.W.keepIn K (.ref ad)=true/\p9 K fd ps []
end
theorem ao {X:Cx}{k:Nat}{x:Str}{f:List D->Option (D×Bool)}{fa:FA}{e:Expr}{es:List Expr}{p pos:Pos}(F:Fn X.prog X.w X.K X.mg X.base k x f) (hr:Room k X.A) (ha:JA X (e::es) fa) (hg:Gl X x:=by rfl)
  (hdb:(x == ("__debug__" : Str))=false:=by decide) (he:starEach (e::es) X.env=(false,eval e X.env)::starEach es X.env:=by rfl) (hpl:(backTo pos (starEach es X.env)).any (·.1)=false:=by rfl) :
  JE X (.Call (.Name x p) (e::es) [] pos) (fA f fa):=by
 obtain⟨ad,fd,ps,F1,hm,hk,hb⟩:=F.ex
 refine PE.to (BL F1 hr hg hm hk hb .nil Gj ha hdb he hpl) λσ H Q q=>?_
 obtain⟨B,ρ,d,b,s,r,e,q⟩:=q
 obtain⟨ds,ex,e⟩:=oX e
 exact⟨B,ρ,ds,s,r,ex,λvs H1 N1 x1 i1=>by
  show spD X.K f (vs++[]) H1 Q _
  rw[List.append_nil]
  exact⟨N1,ds,d,b,⟨x1.nh,r.tb.mono x1.bn⟩,i1,e,q.into x1⟩⟩
mutual
def eqD:D->D->Bool
 | .non,.non=>true
 | .bl a,.bl b=>a == b
 | .bl a,.int b=>decide ((if a then 1 else 0)=b)
 | .int a,.bl b=>decide (a=(if b then 1 else 0))
 | .int a,.int b=>decide (a=b)
 | .str a,.str b=>decide (a=b)
 | .tup xs,.tup ys=>cW xs ys
 | .lst xs,.lst ys=>cW xs ys
 | _,_=>false
def cW:List D->List D->Bool
 | [],[]=>true
 | x::xs,y::ys=>eqD x y && cW xs ys
 | _,_=>false
end
@[simp] theorem tH:eqD .non .non=true:=by simp only[eqD]
@[simp] theorem wd (b:Bool):eqD .non (.bl b)=false:=by simp only[eqD]
@[simp] theorem tI (b:Int):eqD .non (.int b)=false:=by simp only[eqD]
@[simp] theorem tJ (b:Str):eqD .non (.str b)=false:=by simp only[eqD]
@[simp] theorem D3 (b:List D):eqD .non (.tup b)=false:=by simp only[eqD]
@[simp] theorem D4 (b:List D):eqD .non (.lst b)=false:=by simp only[eqD]
@[simp] theorem we (a:Bool):eqD (.bl a) .non=false:=by simp only[eqD]
@[simp] theorem yP (a:Bool) (b:Bool):eqD (.bl a) (.bl b)=(a == b):=by simp only[eqD]
@[simp] theorem wf (a:Bool) (b:Int):eqD (.bl a) (.int b)=decide ((if a then 1 else 0)=b):=by simp only[eqD]
@[simp] theorem wg (a:Bool) (b:Str):eqD (.bl a) (.str b)=false:=by simp only[eqD]
@[simp] theorem EH (a:Bool) (b:List D):eqD (.bl a) (.tup b)=false:=by simp only[eqD]
@[simp] theorem EI (a:Bool) (b:List D):eqD (.bl a) (.lst b)=false:=by simp only[eqD]
@[simp] theorem tK (a:Int):eqD (.int a) .non=false:=by simp only[eqD]
@[simp] theorem wj (a:Int) (b:Bool):eqD (.int a) (.bl b)=decide (a=(if b then 1 else 0)):=by simp only[eqD]
@[simp] theorem tL (a:Int) (b:Int):eqD (.int a) (.int b)=decide (a=b):=by simp only[eqD]
@[simp] theorem tM (a:Int) (b:Str):eqD (.int a) (.str b)=false:=by simp only[eqD]
@[simp] theorem D5 (a:Int) (b:List D):eqD (.int a) (.tup b)=false:=by simp only[eqD]
@[simp] theorem D6 (a:Int) (b:List D):eqD (.int a) (.lst b)=false:=by simp only[eqD]
@[simp] theorem tN (a:Str):eqD (.str a) .non=false:=by simp only[eqD]
@[simp] theorem wl (a:Str) (b:Bool):eqD (.str a) (.bl b)=false:=by simp only[eqD]
@[simp] theorem tO (a:Str) (b:Int):eqD (.str a) (.int b)=false:=by simp only[eqD]
@[simp] theorem lD (a:Str) (b:Str):eqD (.str a) (.str b)=decide (a=b):=by simp only[eqD]
@[simp] theorem D7 (a:Str) (b:List D):eqD (.str a) (.tup b)=false:=by simp only[eqD]
@[simp] theorem D8 (a:Str) (b:List D):eqD (.str a) (.lst b)=false:=by simp only[eqD]
@[simp] theorem D9 (a:List D):eqD (.tup a) .non=false:=by simp only[eqD]
@[simp] theorem EJ (a:List D) (b:Bool):eqD (.tup a) (.bl b)=false:=by simp only[eqD]
@[simp] theorem DA (a:List D) (b:Int):eqD (.tup a) (.int b)=false:=by simp only[eqD]
@[simp] theorem DB (a:List D) (b:Str):eqD (.tup a) (.str b)=false:=by simp only[eqD]
@[simp] theorem DC (a:List D) (b:List D):eqD (.tup a) (.tup b)=cW a b:=by simp only[eqD]
@[simp] theorem DD (a:List D) (b:List D):eqD (.tup a) (.lst b)=false:=by simp only[eqD]
@[simp] theorem DE (a:List D):eqD (.lst a) .non=false:=by simp only[eqD]
@[simp] theorem EK (a:List D) (b:Bool):eqD (.lst a) (.bl b)=false:=by simp only[eqD]
@[simp] theorem DF (a:List D) (b:Int):eqD (.lst a) (.int b)=false:=by simp only[eqD]
@[simp] theorem DG (a:List D) (b:Str):eqD (.lst a) (.str b)=false:=by simp only[eqD]
@[simp] theorem DH (a:List D) (b:List D):eqD (.lst a) (.tup b)=false:=by simp only[eqD]
@[simp] theorem DI (a:List D) (b:List D):eqD (.lst a) (.lst b)=cW a b:=by simp only[eqD]
@[simp] theorem G3:cW [] []=true:=by rw[cW]
@[simp] theorem Fy (x y:D) (xs ys:List D):cW (x::xs) (y::ys)=(eqD x y && cW xs ys):=by rw[cW]
@[simp] theorem GR (y:D) (ys:List D):cW [] (y::ys)=false:=by simp only[cW]
@[simp] theorem GS (x:D) (xs:List D):cW (x::xs) []=false:=by simp only[cW]
def aj:Nat->D->Bool
 | _,.non=>true
 | _,.bl _=>true
 | _,.int _=>true
 | _,.str _=>true
 | _,.ty _=>false
 | _,.dk _ _=>false
 | _,.dt _ _=>false
 | 0,.tup _=>false
 | 0,.lst _=>false
 | n+1,.tup ds=>ds.all (aj n)
 | n+1,.lst ds=>ds.all (aj n)
@[simp] theorem EL (n:Nat):aj n .non=true:=by cases n<;>simp only[aj]
@[simp] theorem Fz (n:Nat) (a:Bool):aj n (.bl a)=true:=by cases n<;>simp only[aj]
@[simp] theorem EM (n:Nat) (a:Int):aj n (.int a)=true:=by cases n<;>simp only[aj]
@[simp] theorem EN (n:Nat) (a:Str):aj n (.str a)=true:=by cases n<;>simp only[aj]
@[simp] theorem F0 (n:Nat) (ks:List Key) (vs:List D):aj n (.dk ks vs)=false:=by cases n<;>simp only[aj]
@[simp] theorem F3 (n:Nat) (ks:List (List Key)) (vs:List D):aj n (.dt ks vs)=false:=by cases n<;>simp only[aj]
@[simp] theorem EO (n:Nat) (ds:List D):aj (n+1) (.tup ds)=ds.all (aj n):=by simp only[aj]
@[simp] theorem EQ (n:Nat) (ds:List D):aj (n+1) (.lst ds)=ds.all (aj n):=by simp only[aj]
theorem tP:∀ {xs ys:List D},cW xs ys=true->xs.length=ys.length
 | [],[],_=>rfl
 | x::xs,y::ys,h=>by
  simp only[cW,Bool.and_eq_true]at h
  rw[List.length_cons,List.length_cons,tP h.2]
 | [],_::_,h=>by simp[cW]at h
 | _::_,[],h=>by simp[cW]at h
theorem xz {xs ys:List D}(h:xs.length≠ys.length):cW xs ys=false:=by
 cases e:cW xs ys with
 | false=>rfl
 | true=>exact absurd (tP e) h
theorem iZ (f:Nat->Bool):∀ {xs ys:List D},xs.length=ys.length->(∀(j:Nat) x y,xs[j]? = some x->ys[j]? = some y->f j=eqD x y)->(List.range xs.length).all f=cW xs ys
 | [],[],_,_=>by simp[cW]
 | x::xs,y::ys,hl,h=>by
  have e:=iZ (λj=>f (j+1)) (xs:=xs) (ys:=ys) (by simpa using hl) λj a b h1 h2=>h (j+1) a b (by simpa using h1) (by simpa using h2)
  rw[List.length_cons,List.range_succ_eq_map,List.all_cons,List.all_map,cW,←h 0 x y rfl rfl,←e]
  rfl
 | [],_::_,hl,_=>by simp at hl
 | _::_,[],hl,_=>by simp at hl
section
variable {X:Cx}{pins:List (Addr×Obj)}{σ:St}{H:Hp}{s:Shared}
theorem x0 (I:Inv X pins σ H s) {a:Addr}{vs ws:List V}(h1:SqT X.K H a vs) (h2:SqL X.K H a ws):False:=by
 obtain⟨its,_,⟨o,e,c,_⟩,_⟩:=I.tuple h1
 obtain⟨its',_,⟨o',n',e',c',_⟩,_⟩:=I.list h2
 rw[e]at e';cases e'
 rw[c]at c'
 injection c' with z
 exact absurd z (by decide)
theorem xA (I:Inv X pins σ H s) {a:Addr}{o:Obj}{its:Array Value}{n:Nat}(e:s.heap.get? a=some o) (d:o.data=.seq its n):(∀kvs,H a≠some (.dK kvs))/\∀kvs,H a≠some (.dT kvs):=by
 refine⟨λkvs h=>?_,λkvs h=>?_⟩
 ·obtain⟨_,_,_,_,o',es,ep,e',_,d',_⟩:=(show bH X.prog X.w H s.heap a (.dK kvs)from I.hok a _ h)
  rw[e]at e';cases e';rw[d]at d';cases d'
 ·obtain⟨_,_,_,_,o',es,ep,e',_,d',_⟩:=(show bH X.prog X.w H s.heap a (.dT kvs)from I.hok a _ h)
  rw[e]at e';cases e';rw[d]at d';cases d'
theorem tQ (I:Inv X pins σ H s) {a:Addr}{vs:List V}(h1:SqT X.K H a vs):(∀kvs,H a≠some (.dK kvs))/\∀kvs,H a≠some (.dT kvs):=by
 obtain⟨its,_,⟨o,e,c,n,d⟩,_⟩:=I.tuple h1
 exact xA I e d
theorem tR (I:Inv X pins σ H s) {a:Addr}{vs:List V}(h1:SqL X.K H a vs):(∀kvs,H a≠some (.dK kvs))/\∀kvs,H a≠some (.dT kvs):=by
 obtain⟨its,_,p,_⟩:=I.list h1
 obtain⟨o,e,c,n,d⟩:=p.isList
 exact xA I e d
theorem xB (I:Inv X pins σ H s):∀(n:Nat) {v:V}{d d':D},Is X.K H v d->Is X.K H v d'->aj n d=true->eqD d d'=true:=by
 have lists:∀ {p:D->Bool}(ih:∀ {v:V}{d d':D},Is X.K H v d->Is X.K H v d'->p d=true->eqD d d'=true) {vs:List V}{ds ds':List D},IsL X.K H vs ds->IsL X.K H vs ds'->ds.all p=true->cW ds ds'=true:=by
  intro p ih vs
  induction vs with
  | nil=>intro ds ds' h h' _;cases h;cases h';simp[cW]
  | cons v vs ihv =>
   intro ds ds' h h' hp
   cases h with
   | cons h1 h2 =>
    cases h' with
    | cons h3 h4 =>
     rw[List.all_cons,Bool.and_eq_true]at hp
     rw[cW,ih h1 h3 hp.1,ihv h2 h4 hp.2];rfl
 intro n
 induction n with
 | zero =>
  intro v d d' h h' hp
  cases h<;>cases h'<;>first|(simp[aj]at hp;done)|simp[eqD]
 | succ n ih =>
  intro v d d' h h' hp
  cases h with
  | tup h1 h2 =>
   cases h' with
   | tup h3 h4 =>
    rw[I.tuple_inj h3 h1]at h4
    rw[eqD];exact lists ih h2 h4 (by simpa [aj]using hp)
   | lst h3 h4=>exact(x0 I h1 h3).elim
   | dk h3 _ _=>exact((tQ I h1).1 _ h3).elim
   | dt h3 _ _=>exact((tQ I h1).2 _ h3).elim
  | lst h1 h2 =>
   cases h' with
   | lst h3 h4 =>
    rw[I.list_inj h3 h1]at h4
    rw[eqD];exact lists ih h2 h4 (by simpa [aj]using hp)
   | tup h3 h4=>exact(x0 I h3 h1).elim
   | dk h3 _ _=>exact((tR I h1).1 _ h3).elim
   | dt h3 _ _=>exact((tR I h1).2 _ h3).elim
  | ty=>simp[aj]at hp
  | dk=>simp[aj]at hp
  | dt=>simp[aj]at hp
  | _=>cases h'<;>simp[eqD]
theorem DJ {α:Type}{p:α->Bool}{l:List α}{j:Nat}{x:α}(h:l.all p=true) (e:l[j]? = some x):p x=true:=List.all_eq_true.mp h x (List.mem_of_getElem? e)
theorem tS {A:Around}{p:D->Bool}(ih:∀ {v1 v2:V}{d1 d2:D}{u1 u2:Value},p d1=true->p d2=true->Is X.K H v1 d1->Is X.K H v2 d2->aN v1 u1->aN v2 u2->SeqAt.EqAt A s u1 u2 (eqD d1 d2))
  {vs ws:List V}{ds es:List D}{its jts:List Value}(i1:IsL X.K H vs ds) (i2:IsL X.K H ws es) (r1:aP vs its) (r2:aP ws jts) (p1:ds.all p=true) (p2:es.all p=true) :
  ∀j (h1:j<its.toArray.size) (h2:j<jts.toArray.size),SeqAt.EqAt A s its.toArray[j] jts.toArray[j] (eqD (ds.getD j .non) (es.getD j .non)):=by
 intro j h1 h2
 rw[List.size_toArray]at h1 h2
 have l1:=r1.length;have l2:=r2.length;have l3:=i1.length;have l4:=i2.length
 have hv:j<vs.length:=by omega
 have hw:j<ws.length:=by omega
 have hd:j<ds.length:=by omega
 have he:j<es.length:=by omega
 obtain⟨u,e1,q1⟩:=r1.get (i:=j) (x:=vs[j]) (by simp[hv])
 obtain⟨u',e2,q2⟩:=r2.get (i:=j) (x:=ws[j]) (by simp[hw])
 obtain⟨v,e3,q3⟩:=i1.get (i:=j) (d:=ds[j]) (by simp[hd])
 obtain⟨w,e4,q4⟩:=i2.get (i:=j) (d:=es[j]) (by simp[he])
 have a1:its.toArray[j]=u:=by have z:=(List.getElem?_eq_some_iff.mp e1).2;simpa using z
 have a2:jts.toArray[j]=u':=by have z:=(List.getElem?_eq_some_iff.mp e2).2;simpa using z
 have a3:vs[j]=v:=by simpa [hv]using e3
 have a4:ws[j]=w:=by simpa [hw]using e4
 have a5:ds.getD j .non=ds[j]:=by simp[List.getD,hd]
 have a6:es.getD j .non=es[j]:=by simp[List.getD,he]
 rw[a1,a2,a5,a6]
 exact ih (DJ p1 (j:=j) (by simp[hd])) (DJ p2 (j:=j) (by simp[he])) (a3 ▸ q3) (a4 ▸ q4) q1 q2
theorem xC {xs ys:List D}(j:Nat) (x y:D) (h1:xs[j]? = some x) (h2:ys[j]? = some y):eqD (xs.getD j .non) (ys.getD j .non)=eqD x y:=by
 simp[List.getD,h1,h2]
abbrev Tri (A:Around) (s:Shared) (u1 u2:Value) (b:Bool):Prop:=SeqAt.RcAt A s u1 u2 b/\SeqAt.EqAt A s u1 u2 b/\SeqAt.RcNeAt A s u1 u2 (!b)
theorem bB {A:Around}{v1 v2:V}{d1 d2:D}{u1 u2:Value}(p1:aj 0 d1=true) (p2:aj 0 d2=true) (i1:Is X.K H v1 d1) (i2:Is X.K H v2 d2) (r1:aN v1 u1) (r2:aN v2 u2):Tri A s u1 u2 (eqD d1 d2):=by
 cases i1 with
 | non =>
  cases r1
  cases i2 with
  | non =>
   cases r2
   rw[tH]
   exact⟨SeqAt.RcAt.none_none,SeqAt.EqAt.same _,SeqAt.RcNeAt.none_none⟩
  | bl b =>
   cases r2
   rw[wd]
   exact⟨SeqAt.RcAt.none_bool _,SeqAt.EqAt.none_bool _,SeqAt.RcNeAt.none_bool _⟩
  | int b =>
   obtain⟨t',rfl⟩:=r2
   rw[tI]
   exact⟨SeqAt.RcAt.none_int _ _,SeqAt.EqAt.none_int _ _,SeqAt.RcNeAt.none_int _ _⟩
  | str b =>
   obtain⟨t',rfl⟩:=r2
   rw[tJ]
   exact⟨SeqAt.RcAt.none_str _ _,SeqAt.EqAt.none_str _ _,SeqAt.RcNeAt.none_str _ _⟩
  | ty=>simp[aj]at p2
  | dk=>simp[aj]at p2
  | dt=>simp[aj]at p2
  | tup=>simp[aj]at p2
  | lst=>simp[aj]at p2
 | bl a =>
  cases r1
  cases i2 with
  | non =>
   cases r2
   rw[we]
   exact⟨SeqAt.RcAt.bool_none _,SeqAt.EqAt.bool_none _,SeqAt.RcNeAt.bool_none _⟩
  | bl b =>
   cases r2
   rw[yP]
   exact⟨SeqAt.RcAt.bool_bool _ _,SeqAt.EqAt.bool_bool _ _,SeqAt.RcNeAt.bool_bool _ _⟩
  | int b =>
   obtain⟨t',rfl⟩:=r2
   rw[wf,←Bool.beq_eq_decide_eq]
   exact⟨SeqAt.RcAt.bool_int _ _ _,SeqAt.EqAt.bool_int _ _ _,SeqAt.RcNeAt.bool_int _ _ _⟩
  | str b =>
   obtain⟨t',rfl⟩:=r2
   rw[wg]
   exact⟨SeqAt.RcAt.bool_str _ _ _,SeqAt.EqAt.bool_str _ _ _,SeqAt.RcNeAt.bool_str _ _ _⟩
  | ty=>simp[aj]at p2
  | dk=>simp[aj]at p2
  | dt=>simp[aj]at p2
  | tup=>simp[aj]at p2
  | lst=>simp[aj]at p2
 | int a =>
  obtain⟨t,rfl⟩:=r1
  cases i2 with
  | non =>
   cases r2
   rw[tK]
   exact⟨SeqAt.RcAt.int_none _ _,SeqAt.EqAt.int_none _ _,SeqAt.RcNeAt.int_none _ _⟩
  | bl b =>
   cases r2
   rw[wj,←Bool.beq_eq_decide_eq]
   exact⟨SeqAt.RcAt.int_bool _ _ _,SeqAt.EqAt.int_bool _ _ _,SeqAt.RcNeAt.int_bool _ _ _⟩
  | int b =>
   obtain⟨t',rfl⟩:=r2
   rw[tL,←Bool.beq_eq_decide_eq]
   exact⟨SeqAt.RcAt.int_int _ _ _ _,SeqAt.EqAt.int_int _ _ _ _,SeqAt.RcNeAt.int_int _ _ _ _⟩
  | str b =>
   obtain⟨t',rfl⟩:=r2
   rw[tM]
   exact⟨SeqAt.RcAt.int_str _ _ _ _,SeqAt.EqAt.int_str _ _ _ _,SeqAt.RcNeAt.int_str _ _ _ _⟩
  | ty=>simp[aj]at p2
  | dk=>simp[aj]at p2
  | dt=>simp[aj]at p2
  | tup=>simp[aj]at p2
  | lst=>simp[aj]at p2
 | str a =>
  obtain⟨t,rfl⟩:=r1
  cases i2 with
  | non =>
   cases r2
   rw[tN]
   exact⟨SeqAt.RcAt.str_none _ _,SeqAt.EqAt.str_none _ _,SeqAt.RcNeAt.str_none _ _⟩
  | bl b =>
   cases r2
   rw[wl]
   exact⟨SeqAt.RcAt.str_bool _ _ _,SeqAt.EqAt.str_bool _ _ _,SeqAt.RcNeAt.str_bool _ _ _⟩
  | int b =>
   obtain⟨t',rfl⟩:=r2
   rw[tO]
   exact⟨SeqAt.RcAt.str_int _ _ _ _,SeqAt.EqAt.str_int _ _ _ _,SeqAt.RcNeAt.str_int _ _ _ _⟩
  | str b =>
   obtain⟨t',rfl⟩:=r2
   rw[lD,←Bool.beq_eq_decide_eq]
   exact⟨SeqAt.RcAt.str_str _ _ _ _,SeqAt.EqAt.str_str _ _ _ _,SeqAt.RcNeAt.str_str _ _ _ _⟩
  | ty=>simp[aj]at p2
  | dk=>simp[aj]at p2
  | dt=>simp[aj]at p2
  | tup=>simp[aj]at p2
  | lst=>simp[aj]at p2
 | ty=>simp[aj]at p1
 | dk=>simp[aj]at p1
 | dt=>simp[aj]at p1
 | tup=>simp[aj]at p1
 | lst=>simp[aj]at p1
theorem DK (I:Inv X pins σ H s):∀(n:Nat) {A:Around}{v1 v2:V}{d1 d2:D}{u1 u2:Value},A.units+n<cLine->aj n d1=true->aj n d2=true->Is X.K H v1 d1->Is X.K H v2 d2->aN v1 u1->aN v2 u2->Tri A s u1 u2 (eqD d1 d2):=by
 intro n
 induction n with
 | zero=>exact λ_ p1 p2 i1 i2 r1 r2=>bB p1 p2 i1 i2 r1 r2
 | succ n ih =>
  intro A v1 v2 d1 d2 u1 u2 hu p1 p2 i1 i2 r1 r2
  have hu0:A.units<cLine:=by omega
  have ih':∀ {v1 v2:V}{d1 d2:D}{u1 u2:Value},aj n d1=true->aj n d2=true->Is X.K H v1 d1->Is X.K H v2 d2->aN v1 u1->aN v2 u2->SeqAt.EqAt A.in1 s u1 u2 (eqD d1 d2):=λp1 p2 i1 i2 r1 r2=>(ih (A:=A.in1) (by show A.units+1+n<cLine;omega) p1 p2 i1 i2 r1 r2).2.1
  cases i1 with
  | tup h1 k1 =>
   cases r1
   obtain⟨its,rv1,t1,z1⟩:=I.tuple h1
   have t1':s.heap.IsTuple _ its.toArray:=t1
   have q1:=p1
   simp only[aj]at q1
   cases i2 with
   | tup h2 k2 =>
    cases r2
    obtain⟨jts,rv2,t2,z2⟩:=I.tuple h2
    have t2':s.heap.IsTuple _ jts.toArray:=t2
    have q2:=p2
    simp only[aj]at q2
    rename_i a1 vs ds a2 ws es
    have he:=tS (A:=A.in1) (p:=aj n) ih' k1 k2 rv1 rv2 q1 q2
    have eqv:((List.range (min its.toArray.size jts.toArray.size)).all (λj=>eqD (ds.getD j .non) (es.getD j .non)) && its.toArray.size == jts.toArray.size)=eqD (.tup ds) (.tup es):=by
     rw[eqD,List.size_toArray,List.size_toArray,←rv1.length,←rv2.length,k1.length,k2.length]
     by_cases hl:ds.length=es.length
     ·rw[←hl,Nat.min_self,beq_self_eq_true,Bool.and_true]
      exact iZ _ hl λj x y e1 e2=>xC j x y e1 e2
     ·rw[xz hl,beq_eq_false_iff_ne.mpr hl,Bool.and_false]
    have rc:=SeqAt.RcAt.tuples t1' t2' hu0 he
    have rn:=SeqAt.RcNeAt.tuples t1' t2' hu0 he
    rw[eqv]at rc rn
    refine⟨rc, ?_,rn⟩
    by_cases ha:a1=a2
    ·subst ha
     rw[xB I (n+1) (.tup h1 k1) (.tup h2 k2) p1]
     exact SeqAt.EqAt.same _
    ·exact SeqAt.EqAt.of_refs ha rc
   | lst h2 k2 =>
    cases r2
    obtain⟨jts,rv2,t2,z2⟩:=I.list h2
    rw[show eqD (.tup _) (.lst _)=false by simp only[eqD]]
    exact⟨SeqAt.RcAt.tuple_list t1' t2.isList hu0,SeqAt.EqAt.tuple_list t1' t2.isList hu0,SeqAt.RcNeAt.tuple_list t1' t2.isList hu0⟩
   | ty=>simp[aj]at p2
   | dk=>simp[aj]at p2
   | dt=>simp[aj]at p2
   | non=>cases r2;simp only[eqD];exact⟨SeqAt.RcAt.tuple_none t1' hu0,SeqAt.EqAt.tuple_none t1' hu0,SeqAt.RcNeAt.tuple_none t1' hu0⟩
   | bl=>cases r2;simp only[eqD];exact⟨SeqAt.RcAt.tuple_bool _ t1' hu0,SeqAt.EqAt.tuple_bool _ t1' hu0,SeqAt.RcNeAt.tuple_bool _ t1' hu0⟩
   | int=>obtain⟨t,rfl⟩:=r2;simp only[eqD];exact⟨SeqAt.RcAt.tuple_int _ _ t1' hu0,SeqAt.EqAt.tuple_int _ _ t1' hu0,SeqAt.RcNeAt.tuple_int _ _ t1' hu0⟩
   | str=>obtain⟨t,rfl⟩:=r2;simp only[eqD];exact⟨SeqAt.RcAt.tuple_str _ _ t1' hu0,SeqAt.EqAt.tuple_str _ _ t1' hu0,SeqAt.RcNeAt.tuple_str _ _ t1' hu0⟩
  | lst h1 k1 =>
   cases r1
   obtain⟨its,rv1,t1,z1⟩:=I.list h1
   have t1':s.heap.IsList _ its.toArray:=t1.isList
   have q1:=p1
   simp only[aj]at q1
   cases i2 with
   | lst h2 k2 =>
    cases r2
    obtain⟨jts,rv2,t2,z2⟩:=I.list h2
    have t2':s.heap.IsList _ jts.toArray:=t2.isList
    have q2:=p2
    simp only[aj]at q2
    rename_i a1 vs ds a2 ws es
    have he:=tS (A:=A.in1) (p:=aj n) ih' k1 k2 rv1 rv2 q1 q2
    have both:SeqAt.RcAt A s (.ref a1) (.ref a2) (eqD (.lst ds) (.lst es))/\SeqAt.RcNeAt A s (.ref a1) (.ref a2) (!eqD (.lst ds) (.lst es)):=by
     by_cases hl:ds.length=es.length
     ·have hs:its.toArray.size=jts.toArray.size:=by rw[List.size_toArray,List.size_toArray,←rv1.length,←rv2.length,k1.length,k2.length];exact hl
      have eqv:(List.range its.toArray.size).all (λj=>eqD (ds.getD j .non) (es.getD j .non))=eqD (.lst ds) (.lst es):=by
       rw[eqD,List.size_toArray,←rv1.length,k1.length]
       exact iZ _ hl λj x y e1 e2=>xC j x y e1 e2
      have rc:=SeqAt.RcAt.lists t1' t2' hs hu0 he
      have rn:=SeqAt.RcNeAt.lists t1' t2' hs hu0 he
      rw[eqv]at rc rn
      exact⟨rc,rn⟩
     ·have hs:(its.toArray.size != jts.toArray.size)=true:=by rw[List.size_toArray,List.size_toArray,←rv1.length,←rv2.length,k1.length,k2.length];exact bne_iff_ne.mpr hl
      rw[eqD,xz hl]
      exact⟨SeqAt.RcAt.lists_lengths t1' t2' hs hu0,SeqAt.RcNeAt.lists_lengths t1' t2' hs hu0⟩
    refine⟨both.1, ?_,both.2⟩
    by_cases ha:a1=a2
    ·subst ha
     rw[xB I (n+1) (.lst h1 k1) (.lst h2 k2) p1]
     exact SeqAt.EqAt.same _
    ·exact SeqAt.EqAt.of_refs ha both.1
   | tup h2 k2 =>
    cases r2
    obtain⟨jts,rv2,t2,z2⟩:=I.tuple h2
    have t2':s.heap.IsTuple _ jts.toArray:=t2
    rw[show eqD (.lst _) (.tup _)=false by simp only[eqD]]
    exact⟨SeqAt.RcAt.list_tuple t1' t2' hu0,SeqAt.EqAt.list_tuple t1' t2' hu0,SeqAt.RcNeAt.list_tuple t1' t2' hu0⟩
   | ty=>simp[aj]at p2
   | dk=>simp[aj]at p2
   | dt=>simp[aj]at p2
   | non=>cases r2;simp only[eqD];exact⟨SeqAt.RcAt.list_none t1' hu0,SeqAt.EqAt.list_none t1' hu0,SeqAt.RcNeAt.list_none t1' hu0⟩
   | bl=>cases r2;simp only[eqD];exact⟨SeqAt.RcAt.list_bool _ t1' hu0,SeqAt.EqAt.list_bool _ t1' hu0,SeqAt.RcNeAt.list_bool _ t1' hu0⟩
   | int=>obtain⟨t,rfl⟩:=r2;simp only[eqD];exact⟨SeqAt.RcAt.list_int _ _ t1' hu0,SeqAt.EqAt.list_int _ _ t1' hu0,SeqAt.RcNeAt.list_int _ _ t1' hu0⟩
   | str=>obtain⟨t,rfl⟩:=r2;simp only[eqD];exact⟨SeqAt.RcAt.list_str _ _ t1' hu0,SeqAt.EqAt.list_str _ _ t1' hu0,SeqAt.RcNeAt.list_str _ _ t1' hu0⟩
  | ty=>simp[aj]at p1
  | dk=>simp[aj]at p1
  | dt=>simp[aj]at p1
  | non =>
   cases i2 with
   | tup h2 k2=>cases r1;cases r2;obtain⟨jts,rv2,t2,z2⟩:=I.tuple h2;have t2':s.heap.IsTuple _ jts.toArray:=t2;simp only[eqD];exact⟨SeqAt.RcAt.none_tuple t2' hu0,SeqAt.EqAt.none_tuple t2' hu0,SeqAt.RcNeAt.none_tuple t2' hu0⟩
   | lst h2 k2=>cases r1;cases r2;obtain⟨jts,rv2,t2,z2⟩:=I.list h2;simp only[eqD];exact⟨SeqAt.RcAt.none_list t2.isList hu0,SeqAt.EqAt.none_list t2.isList hu0,SeqAt.RcNeAt.none_list t2.isList hu0⟩
   | ty=>simp[aj]at p2
   | dk=>simp[aj]at p2
   | dt=>simp[aj]at p2
   | non=>exact bB (X:=X) (H:=H) (by simp[aj]) (by simp[aj]) .non .non r1 r2
   | bl x=>exact bB (X:=X) (H:=H) (by simp[aj]) (by simp[aj]) .non (.bl x) r1 r2
   | int x=>exact bB (X:=X) (H:=H) (by simp[aj]) (by simp[aj]) .non (.int x) r1 r2
   | str x=>exact bB (X:=X) (H:=H) (by simp[aj]) (by simp[aj]) .non (.str x) r1 r2
  | bl y =>
   cases i2 with
   | tup h2 k2=>cases r1;cases r2;obtain⟨jts,rv2,t2,z2⟩:=I.tuple h2;have t2':s.heap.IsTuple _ jts.toArray:=t2;simp only[eqD];exact⟨SeqAt.RcAt.bool_tuple _ t2' hu0,SeqAt.EqAt.bool_tuple _ t2' hu0,SeqAt.RcNeAt.bool_tuple _ t2' hu0⟩
   | lst h2 k2=>cases r1;cases r2;obtain⟨jts,rv2,t2,z2⟩:=I.list h2;simp only[eqD];exact⟨SeqAt.RcAt.bool_list _ t2.isList hu0,SeqAt.EqAt.bool_list _ t2.isList hu0,SeqAt.RcNeAt.bool_list _ t2.isList hu0⟩
   | ty=>simp[aj]at p2
   | dk=>simp[aj]at p2
   | dt=>simp[aj]at p2
   | non=>exact bB (X:=X) (H:=H) (by simp[aj]) (by simp[aj]) (.bl y) .non r1 r2
   | bl x=>exact bB (X:=X) (H:=H) (by simp[aj]) (by simp[aj]) (.bl y) (.bl x) r1 r2
   | int x=>exact bB (X:=X) (H:=H) (by simp[aj]) (by simp[aj]) (.bl y) (.int x) r1 r2
   | str x=>exact bB (X:=X) (H:=H) (by simp[aj]) (by simp[aj]) (.bl y) (.str x) r1 r2
  | int y =>
   cases i2 with
   | tup h2 k2=>obtain⟨t,rfl⟩:=r1;cases r2;obtain⟨jts,rv2,t2,z2⟩:=I.tuple h2;have t2':s.heap.IsTuple _ jts.toArray:=t2;simp only[eqD];exact⟨SeqAt.RcAt.int_tuple _ _ t2' hu0,SeqAt.EqAt.int_tuple _ _ t2' hu0,SeqAt.RcNeAt.int_tuple _ _ t2' hu0⟩
   | lst h2 k2=>obtain⟨t,rfl⟩:=r1;cases r2;obtain⟨jts,rv2,t2,z2⟩:=I.list h2;simp only[eqD];exact⟨SeqAt.RcAt.int_list _ _ t2.isList hu0,SeqAt.EqAt.int_list _ _ t2.isList hu0,SeqAt.RcNeAt.int_list _ _ t2.isList hu0⟩
   | ty=>simp[aj]at p2
   | dk=>simp[aj]at p2
   | dt=>simp[aj]at p2
   | non=>exact bB (X:=X) (H:=H) (by simp[aj]) (by simp[aj]) (.int y) .non r1 r2
   | bl x=>exact bB (X:=X) (H:=H) (by simp[aj]) (by simp[aj]) (.int y) (.bl x) r1 r2
   | int x=>exact bB (X:=X) (H:=H) (by simp[aj]) (by simp[aj]) (.int y) (.int x) r1 r2
   | str x=>exact bB (X:=X) (H:=H) (by simp[aj]) (by simp[aj]) (.int y) (.str x) r1 r2
  | str y =>
   cases i2 with
   | tup h2 k2=>obtain⟨t,rfl⟩:=r1;cases r2;obtain⟨jts,rv2,t2,z2⟩:=I.tuple h2;have t2':s.heap.IsTuple _ jts.toArray:=t2;simp only[eqD];exact⟨SeqAt.RcAt.str_tuple _ _ t2' hu0,SeqAt.EqAt.str_tuple _ _ t2' hu0,SeqAt.RcNeAt.str_tuple _ _ t2' hu0⟩
   | lst h2 k2=>obtain⟨t,rfl⟩:=r1;cases r2;obtain⟨jts,rv2,t2,z2⟩:=I.list h2;simp only[eqD];exact⟨SeqAt.RcAt.str_list _ _ t2.isList hu0,SeqAt.EqAt.str_list _ _ t2.isList hu0,SeqAt.RcNeAt.str_list _ _ t2.isList hu0⟩
   | ty=>simp[aj]at p2
   | dk=>simp[aj]at p2
   | dt=>simp[aj]at p2
   | non=>exact bB (X:=X) (H:=H) (by simp[aj]) (by simp[aj]) (.str y) .non r1 r2
   | bl x=>exact bB (X:=X) (H:=H) (by simp[aj]) (by simp[aj]) (.str y) (.bl x) r1 r2
   | int x=>exact bB (X:=X) (H:=H) (by simp[aj]) (by simp[aj]) (.str y) (.int x) r1 r2
   | str x=>exact bB (X:=X) (H:=H) (by simp[aj]) (by simp[aj]) (.str y) (.str x) r1 r2
@[simp] def dEq:D->D->Option (D×Bool):=λx y=>if aj 40 x=true/\aj 40 y=true then some (.bl (eqD x y),false)else none
@[simp] def dNe:D->D->Option (D×Bool):=λx y=>if aj 40 x=true/\aj 40 y=true then some (.bl (!eqD x y),false)else none
theorem dA (hu:X.A.units+40<cLine):OpR X (compareOp .Eq) (rD X.K dEq):=by
 intro pins s σ H x y v u Q I rx ry q
 obtain⟨B,dx,dy,d,b,sB,ix,iy,e,q⟩:=q
 unfold dEq at e
 split at e
 ·rename_i hp
  cases e
  exact(DK I 40 hu hp.1 hp.2 (ix.mono sB) (iy.mono sB) rx ry).1 _ _ _ _ ⟨.bl _,H,I,rfl,q.one sB (.bl _)⟩
 ·cases e
theorem ER (hu:X.A.units+40<cLine):OpR X (compareOp .NotEq) (rD X.K dNe):=by
 intro pins s σ H x y v u Q I rx ry q
 obtain⟨B,dx,dy,d,b,sB,ix,iy,e,q⟩:=q
 unfold dNe at e
 split at e
 ·rename_i hp
  cases e
  exact(DK I 40 hu hp.1 hp.2 (ix.mono sB) (iy.mono sB) rx ry).2.2 _ _ _ _ ⟨.bl _,H,I,rfl,q.one sB (.bl _)⟩
 ·cases e
end
section
variable {X:Cx}{a b e:Expr}{pos:Pos}
theorem xD {K:PySem.W.Frag}{H:Hp}{vs:List V}{ds:List D}{i:Int}{d:D}(h:IsL K H vs ds) (e:atI ds i=some d):∃v,atI vs i=some v/\Is K H v d:=by
 unfold atI at e ⊢
 rw[h.length]
 cases q:ixN ds.length i with
 | none=>rw[q]at e;cases e
 | some j=>rw[q]at e;exact h.get e
@[simp] def ixD:D->D->Option (D×Bool)
 | .lst ds,.int i=>(atI ds i).map λd=>(d,false)
 | .tup ds,.int i=>(atI ds i).map λd=>(d,false)
 | .str z,.int i=>if z.length<=sizeLine then (atI z.cps.toList i).map λc=>(.str ⟨#[c]⟩,false)else none
 | _,_=>none
theorem Hr:IxR X (rD X.K ixD):=by
 intro value slice pins s σ H x y v u Q I rx ry q hs
 obtain⟨B,dx,dy,d,b,sB,ix,iy,e,q⟩:=q
 cases ix<;>cases iy<;>try (simp[ixD]at e;done)
 ·simp only[ixD]at e
  split at e
  ·rename_i hz
   obtain⟨c,e1,e2⟩:=oY e
   cases e2
   exact vY value slice pins s σ H _ _ v u Q I rx ry ⟨_,_,c,rfl,rfl,hz,e1,q.one sB (.str _)⟩ hs
  ·cases e
 ·rename_i h hl i
  simp only[ixD]at e
  obtain⟨c,e1,e2⟩:=oY e
  cases e2
  obtain⟨w,h1,h2⟩:=xD hl e1
  exact vX value slice pins s σ H _ _ v u Q I rx ry ⟨_,_,_,w,rfl,rfl,aV sB h,h1,q.one sB h2⟩ hs
 ·rename_i h hl i
  simp only[ixD]at e
  obtain⟨c,e1,e2⟩:=oY e
  cases e2
  obtain⟨w,h1,h2⟩:=xD hl e1
  exact BT value slice pins s σ H _ _ v u Q I rx ry ⟨_,_,_,w,rfl,rfl,sB.seq h,h1,q.one sB h2⟩ hs
theorem aA {fa fb:FE}(ha:JE X a fa) (hb:JE X b fb) (hs:mr b:=by intro _ _;rfl):JE X (.Subscript a b pos) (f2 ixD fa fb):=PE.to (Dx Hr ha hb hs) λ_ _ _ h=>BZ h
abbrev FO:=Env->Option (Option Int)
def tDO (K:PySem.W.Frag) (f:FO):TO:=λσ H Q=>∃(B:Hp) (ρ:Env) (o:Option Int),aJ B H/\RepE K B σ ρ/\f ρ=some o/\∀H',aJ H H'->Q o H'
abbrev JO (X:Cx) (e:Option Expr) (f:FO):Prop:=PO X e (tDO X.K f)
@[simp] def gH:FO:=λ_=>some none
@[simp] def eu (f:FE):FO:=λρ=>match f ρ with|some (.int i,_)=>some (some i)|_=>none
theorem gc:JO X none gH:=λpins s σ H Q I h=>BO pins s σ H Q I (by
 obtain⟨B,ρ,o,sB,r,e,q⟩:=h
 cases e
 exact q H (.refl H))
theorem eC {f:FE}(h:JE X e f):JO X (some e) (eu f):=λpins s σ H Q I q=>BP h pins s σ H Q I (by
 obtain⟨B,ρ,o,sB,r,e,q⟩:=q
 unfold eu at e
 split at e
 ·rename_i i b' ef
  cases e
  refine⟨B,ρ,_,_,sB,r,ef,λv H1 N1 x1 i1 _=>?_⟩
  cases i1
  exact⟨i,rfl,q H1 x1.hh⟩
 ·cases e)
def iD (ds:List D) (lo hi:Option Int):List D:=(ds.drop (HT.sIx ds.length 0 lo)).take (HT.sIx ds.length ds.length hi - HT.sIx ds.length 0 lo)
theorem rF {K:PySem.W.Frag}{H:Hp}{vs:List V}{ds:List D}{lo hi:Option Int}(h:IsL K H vs ds):IsL K H (pd vs lo hi) (iD ds lo hi):=by
 unfold pd iD
 rw[h.length]
 exact(h.drop _).take _
@[simp] def HS (fa:FE) (fl fh:FO):FE:=λρ=>(fa ρ).bind λx=>(fl ρ).bind λl=>(fh ρ).bind λh=>match x.1 with
 | .lst ds=>some (.lst (iD ds l h),true)
 | .tup ds=>if HT.sIx ds.length 0 l=0/\HT.sIx ds.length ds.length h=ds.length then none else some (.tup (iD ds l h),false)
 | _=>none
theorem cf.to {f:Value}{r r':List V->Hp->VK->Prop}(h:cf X f r) (k:∀xs H Q,r' xs H Q->r xs H Q):cf X f r':=λpins s σ H xs us Q I rs q=>h pins s σ H xs us Q I rs (k xs H Q q)
variable {es:List Expr}{x:Str}{p:Pos}{id T:String}
theorem bI {f:List D->Option (D×Bool)}{fa:FA}(hc:cf X (.builtin id) (rDA X.K f)) (hm:X.mg x=none) (hv:bootBuiltins x=some (.builtin id)) (ha:JA X (e::es) fa) (hg:Gl X x:=by rfl) (hn:x ≠ "__name__":=by decide) (hdb:(x == ("__debug__" : Str))=false:=by decide)
  (he:starEach (e::es) X.env=(false,eval e X.env)::starEach es X.env:=by rfl) (hpl:(backTo pos (starEach es X.env)).any (·.1)=false:=by rfl):JE X (.Call (.Name x p) (e::es) [] pos) (fA f fa):=PE.to (tq hc hg hm hv ha hn hdb he hpl) λ_ _ _ h=>Ca h
theorem ij {f:List D->Option (D×Bool)}{fa:FA}(hc:cf X (.type T) (rDA X.K f)) (hm:X.mg x=none) (hv:bootBuiltins x=some (.type T)) (ha:JA X (e::es) fa) (hg:Gl X x:=by rfl) (hn:x ≠ "__name__":=by decide) (hdb:(x == ("__debug__" : Str))=false:=by decide)
  (he:starEach (e::es) X.env=(false,eval e X.env)::starEach es X.env:=by rfl) (hpl:(backTo pos (starEach es X.env)).any (·.1)=false:=by rfl):JE X (.Call (.Name x p) (e::es) [] pos) (fA f fa):=PE.to (pE hc hg hm hv ha hn hdb he hpl) λ_ _ _ h=>Ca h
@[simp] def dY:List D->Option (D×Bool)
 | [.lst ds]=>some (.int ds.length,false)
 | [.tup ds]=>some (.int ds.length,false)
 | [.str z]=>if z.length<=sizeLine then some (.int z.length,false)else none
 | _=>none
theorem fK:cf X (.builtin "len") (rDA X.K dY):=by
 refine cf.to (cf.or rh ri) λxs H Q q=>?_
 obtain⟨B,ds,d,b,sB,i,e,q⟩:=q
 cases i with
 | nil=>simp[dY]at e
 | cons i1 i2 =>
  cases i2 with
  | cons _ _=>cases i1<;>simp[dY]at e
  | nil =>
   cases i1<;>try (simp[dY]at e;done)
   ·simp only[dY]at e
    split at e
    ·rename_i hz
     cases e
     exact .inr ⟨_,rfl,hz,q.one sB (.int _)⟩
    ·cases e
   ·rename_i h hl
    simp only[dY]at e
    cases e
    refine .inl ⟨_,_,rfl,.inr (aV sB h), ?_⟩
    rw[hl.length];exact q.one sB (.int _)
   ·rename_i h hl
    simp only[dY]at e
    cases e
    refine .inl ⟨_,_,rfl,.inl (sB.seq h), ?_⟩
    rw[hl.length];exact q.one sB (.int _)
end
theorem bX {A:Around}{k:Nat}(hr:Room k A):A.units+40<cLine:=by have:=hr.un;omega
section
variable {X:Cx}{a b e:Expr}{pos:Pos}{x:Str}{p:Pos}
theorem An {d:D}(h:∃u v,X.mg x=some u/\aN v u/\∀B,Is X.K B v d) (hg:Gl X x:=by rfl) (hd:(x == ("__debug__" : Str))=false:=by decide):JE X (.Name x pos) (fC d):=by
 obtain⟨u,v,hm,r,i⟩:=h
 exact Ci hg hm r i hd
@[simp] def xE:D->D->Option (D×Bool)
 | .int i,.int j=>some (.int (i+j),false)
 | .str i,.str j=>if i.length+j.length<=sizeLine then some (.str (i++j),false)else none
 | _,_=>none
theorem Cn:OpR X (binaryOp .Add) (rD X.K xE):=by
 refine f7 (r:=rD X.K (orD EF Al)) (kD Gx EG) λx y H Q q=>?_
 obtain⟨B,dx,dy,d,b,sB,ix,iy,e,q⟩:=q
 refine⟨B,dx,dy,d,b,sB,ix,iy, ?_,q⟩
 cases dx<;>cases dy<;>simp[xE]at e<;>simp[orD,EF,Al,iop,sop,e]
@[simp] def rG:D->D->Option (D×Bool):=Gw
theorem rH:OpR X (binaryOp .Mult) (rD X.K rG):=Gz
@[simp] def dLt:D->D->Option (D×Bool):=iLt
theorem tT:OpR X (compareOp .Lt) (rD X.K dLt):=Ho
@[simp] def dLe:D->D->Option (D×Bool)
 | .int i,.int j=>some (.bl (decide (i<=j)),false)
 | .str i,.str j=>some (.bl (!decide (j.cps.toList<i.cps.toList)),false)
 | _,_=>none
theorem tU:OpR X (compareOp .LtE) (rD X.K dLe):=by
 refine f7 (r:=rD X.K (orD iLe sLe)) (kD Hq G1) λx y H Q q=>?_
 obtain⟨B,dx,dy,d,b,sB,ix,iy,e,q⟩:=q
 refine⟨B,dx,dy,d,b,sB,ix,iy, ?_,q⟩
 cases dx<;>cases dy<;>simp[dLe]at e<;>simp[orD,iLe,sLe,iop,sop,e]
@[simp] def Co:D->Option (D×Bool)
 | .int i=>some (.int (-i),false)
 | _=>none
theorem G4:UnR X (unaryOp .USub) (rDU X.K Co):=by
 intro pins s σ H x v Q I rx q
 obtain⟨B,dx,d,b,sB,ix,e,q⟩:=q
 cases ix<;>try (simp[Co]at e;done)
 simp only[Co]at e
 cases e
 exact Ex pins s σ H _ v Q I rx ⟨_,rfl,q.one sB (.int _)⟩
@[simp] def yQ:D->D->Option Bool
 | .non,.non=>some true
 | _,.non=>some false
 | .bl a,.bl b=>some (a == b)
 | _,.bl _=>some false
 | _,_=>none
@[simp] def dIs:D->D->Option (D×Bool):=λx y=>(yQ x y).map λb=>(.bl b,false)
@[simp] def jd:D->D->Option (D×Bool):=λx y=>(yQ x y).map λb=>(.bl (!b),false)
theorem xF {K:PySem.W.Frag}{B:Hp}{x y:V}{v u:Value}{dx dy:D}{k:Bool}(ix:Is K B x dx) (iy:Is K B y dy) (rx:aN x v) (ry:aN y u) (e:yQ dx dy=some k):plainIs v u=true/\(v == u)=k:=by
 cases iy<;>(first|(cases dx<;>simp[yQ]at e;done)|skip)
 all_goals (cases ix)
 all_goals (first|(obtain⟨t,rfl⟩:=rx)|cases rx)
 all_goals (cases ry)
 all_goals (simp only[yQ,Option.some.injEq]at e;subst e)
 all_goals (first|exact⟨rfl,rfl⟩|skip)
 all_goals (rename_i c d;cases c<;>cases d<;>exact⟨rfl,rfl⟩)
theorem ES:OpR X (compareOp .Is) (rD X.K dIs):=by
 intro pins s σ H x y v u Q I rx ry q
 obtain⟨B,dx,dy,d,b,sB,ix,iy,e,q⟩:=q
 obtain⟨k,ek,e⟩:=oY e
 cases e
 obtain⟨h1,h2⟩:=xF ix iy rx ry ek
 refine wpAny_is_plain h1 ⟨.bl k,H,I,by rw[h2];rfl,q.one sB (.bl _)⟩
theorem rJ:OpR X (compareOp .IsNot) (rD X.K jd):=by
 intro pins s σ H x y v u Q I rx ry q
 obtain⟨B,dx,dy,d,b,sB,ix,iy,e,q⟩:=q
 obtain⟨k,ek,e⟩:=oY e
 cases e
 obtain⟨h1,h2⟩:=xF ix iy rx ry ek
 refine wpAny_isNot_plain h1 ⟨.bl (!k),H,I,by rw[h2];rfl,q.one sB (.bl _)⟩
@[simp] def eA:D->Bool
 | .non=>true|.bl _=>true|.int _=>true|.str _=>true
 | _=>false
def inD (x:D) (ds:List D):Bool:=ds.any λy=>eqD y x
@[simp] def fg:D->Option (List D)
 | .lst ds=>some ds
 | .tup ds=>some ds
 | _=>none
@[simp] def dIn:D->D->Option (D×Bool):=λx y=>(fg y).bind λds=>if eA x=true/\ds.all eA=true then some (.bl (inD x ds),false)else none
@[simp] def eM:D->D->Option (D×Bool):=λx y=>(fg y).bind λds=>if eA x=true/\ds.all eA=true then some (.bl (!inD x ds),false)else none
theorem mP {K:PySem.W.Frag}{B:Hp}{v:V}{d:D}(i:Is K B v d) (h:eA d=true):iG v=true:=by
 cases i<;>first|rfl|(simp[eA]at h)
theorem Hs {K:PySem.W.Frag}{B:Hp}{v w:V}{d e:D}(i:Is K B v d) (j:Is K B w e) (h:eA d=true) (h':eA e=true):eqV v w=eqD d e:=by
 cases i<;>(first|(simp[eA]at h;done)|skip)
 all_goals (cases j<;>(first|(simp[eA]at h';done)|skip))
 all_goals (simp only[eqV,eqD,Bool.beq_eq_decide_eq])
theorem tV {K:PySem.W.Frag}{B:Hp}:∀ {vs:List V}{ds:List D},IsL K B vs ds->ds.all eA=true->vs.all iG=true
 | _,_,.nil,_=>rfl
 | _,_,.cons i t,h=>by
  rw[List.all_cons,Bool.and_eq_true]at h
  rw[List.all_cons,mP i h.1,tV t h.2];rfl
theorem Ao {K:PySem.W.Frag}{B:Hp}{v:V}{d:D}(j:Is K B v d) (hd:eA d=true):∀ {vs:List V}{ds:List D},IsL K B vs ds->ds.all eA=true->inV v vs=inD d ds
 | _,_,.nil,_=>rfl
 | _,_,.cons i t,h=>by
  rw[List.all_cons,Bool.and_eq_true]at h
  have e:=Ao j hd t h.2
  unfold inV inD at *
  rw[List.any_cons,List.any_cons,e,Hs i j h.1 hd]
theorem DM:OpR X (compareOp .In) (rD X.K dIn):=by
 refine f7 yH λx y H Q q=>?_
 obtain⟨B,dx,dy,d,b,sB,ix,iy,e,q⟩:=q
 obtain⟨ds,es,e⟩:=oX e
 split at e
 ·rename_i hf
  cases e
  cases iy<;>simp only[fg]at es<;>try (cases es;done)
  ·rename_i h hl
   cases es
   exact⟨_,_,rfl,.inr (aV sB h),mP ix hf.1,tV hl hf.2,by rw[if_neg (by decide),Ao ix hf.1 hl hf.2];exact q.one sB (.bl _)⟩
  ·rename_i h hl
   cases es
   exact⟨_,_,rfl,.inl (sB.seq h),mP ix hf.1,tV hl hf.2,by rw[if_neg (by decide),Ao ix hf.1 hl hf.2];exact q.one sB (.bl _)⟩
 ·cases e
theorem mQ:OpR X (compareOp .NotIn) (rD X.K eM):=by
 refine f7 rg λx y H Q q=>?_
 obtain⟨B,dx,dy,d,b,sB,ix,iy,e,q⟩:=q
 obtain⟨ds,es,e⟩:=oX e
 split at e
 ·rename_i hf
  cases e
  cases iy<;>simp only[fg]at es<;>try (cases es;done)
  ·rename_i h hl
   cases es
   exact⟨_,_,rfl,.inr (aV sB h),mP ix hf.1,tV hl hf.2,by rw[if_pos rfl,Ao ix hf.1 hl hf.2];exact q.one sB (.bl _)⟩
  ·rename_i h hl
   cases es
   exact⟨_,_,rfl,.inl (sB.seq h),mP ix hf.1,tV hl hf.2,by rw[if_pos rfl,Ao ix hf.1 hl hf.2];exact q.one sB (.bl _)⟩
 ·cases e
theorem fL:bootBuiltins "len" = some (.builtin "len"):=PySem.boot_len
theorem G5:bootBuiltins "min" = some (.builtin "min"):=by decide +kernel
theorem rK:bootBuiltins "tuple" = some (.type "tuple"):=by decide +kernel
@[simp] def HU:List D->Option (D×Bool)
 | [.int i,.int j]=>some (.int (if j > i then j else i),false)
 | _=>none
@[simp] def ET:List D->Option (D×Bool)
 | [.int i,.int j]=>some (.int (if j<i then j else i),false)
 | _=>none
theorem Ap {K:PySem.W.Frag}{B:Hp}{xs:List V}{i j:Int}(h:IsL K B xs [.int i,.int j]):xs=[.int i,.int j]:=by
 cases h with
 | cons h1 h2=>cases h1;cases h2 with|cons h3 h4=>cases h3;cases h4;rfl
theorem G6 (hc:X.calm=true:=by rfl):cf X (.builtin "min") (rDA X.K ET):=by
 refine cf.to (yE hc) λxs H Q q=>?_
 obtain⟨B,ds,d,b,sB,i,e,q⟩:=q
 match ds,e with
 | [.int i',.int j'],e=>simp only[ET]at e;cases e;exact⟨i',j',Ap i,q.one sB (.int _)⟩
@[simp] def EU:D->String
 | .non=>"NoneType" | .bl _=>"bool" | .int _=>"int" | .str _=>"str" | .ty _=>"type" | .tup _=>"tuple" | .lst _=>"list" | .dk _ _=>"dict" | .dt _ _=>"dict"
@[simp] def G7:D->Bool
 | .ty _=>true
 | _=>false
@[simp] def Cp (t n:String):Option (D×Bool) :=
 if n = "int" then some (.bl (t == "int" || t == "bool"),false)else if n = "bool" then some (.bl (t == "bool"),false)else if n = "str" then some (.bl (t == "str"),false)
 else if n = "list" then some (.bl (t == "list"),false)else if n = "tuple" then some (.bl (t == "tuple"),false)else none
@[simp] def DN:List D->Option (D×Bool)
 | [d,.ty n]=>if G7 d=true then none else Cp (EU d) n
 | _=>none
@[simp] def HI:D->Option (D×Bool)
 | .int i=>some (.int (Builtin.Int.intBits i),false)
 | _=>none
@[simp] def Aq (f:FE):FA:=λρ=>(f ρ).bind λx=>fg x.1
theorem xG {tg:Expr}{f:FE}(h:JE X e f):JI X tg e (Aq f):=by
 intro pins s σ H R I q
 obtain⟨B,ρ,ds,sB,r,e',q⟩:=q
 obtain⟨x,ex,es⟩:=oX e'
 obtain⟨xd,xb⟩:=x
 cases xd<;>simp only[fg]at es<;>try (cases es;done)
 ·cases es
  refine En h pins s σ H R I ⟨B,ρ,_,_,sB,r,ex,λv H1 N1 x1 i1 _=>?_⟩
  cases i1 with
  | @tup a vs _ ht hl =>
   refine⟨a,rfl,⟨vs,aV x1.nh ht⟩,q _ H1 N1 x1 λi H2 s2=>⟨λd ed=>?_,λhlen=>⟨vs,aV s2 ht,by rw[hl.length];exact hlen⟩⟩⟩
   obtain⟨v,ev,iv⟩:=hl.get ed
   refine⟨⟨vs,v,aV s2 ht,ev⟩,λy H3 hy=>?_⟩
   obtain⟨rfl,hy⟩:=hy
   have:=hy vs (aV s2 ht)
   rw[ev]at this;cases this
   exact⟨N1,.refl s2,iv⟩
 ·cases es
  refine BF h pins s σ H R I ⟨B,ρ,_,_,sB,r,ex,λv H1 N1 x1 i1 _=>?_⟩
  cases i1 with
  | @lst a vs _ ht hl =>
   refine⟨a,rfl,⟨vs,x1.nh.seq ht⟩,q _ H1 N1 x1 λi H2 s2=>⟨λd ed=>?_,λhlen=>⟨vs,s2.seq ht,by rw[hl.length];exact hlen⟩⟩⟩
   obtain⟨v,ev,iv⟩:=hl.get ed
   refine⟨⟨vs,v,s2.seq ht,ev⟩,λy H3 hy=>?_⟩
   obtain⟨rfl,hy⟩:=hy
   have:=hy vs (s2.seq ht)
   rw[ev]at this;cases this
   exact⟨N1,.refl s2,iv⟩
def f8 (lo:Int) (n:Nat):List D:=(List.range n).map λ(k:Nat)=>.int (lo+(k:Int))
theorem Ar {K:PySem.W.Frag}{B:Hp}(lo:Int) (n:Nat):pi K (Itr lo n) B (f8 lo n):=by
 intro i H s
 unfold f8
 refine⟨λd ed=>?_,λhl=>by rw[List.length_map,List.length_range]at hl;exact hl⟩
 rw[List.getElem?_map]at ed
 obtain⟨k,ek,ed⟩:=oY ed
 have hk:=List.getElem?_eq_some_iff.mp ek
 obtain⟨hlt,hk⟩:=hk
 rw[List.length_range]at hlt
 rw[List.getElem_range]at hk
 subst hk
 subst ed
 refine⟨hlt,λx H' hy=>?_⟩
 obtain⟨rfl,rfl⟩:=hy
 exact⟨B,.refl s,.int _⟩
@[simp] def je (f:FE):FA:=λρ=>match f ρ with
 | some (.int j,_)=>if -1000<=j/\j<=1000 then some (f8 0 j.toNat)else none
 | _=>none
theorem mR {tg:Expr}{f:FE}(hm:X.mg "range" = none) (h:JE X a f) (hg:Gl X "range":=by rfl) (hs:starEach [a] X.env=[(false,eval a X.env)]:=by rfl):PI X tg (.Call (.Name "range" p) [a] [] pos) (tDR X.K (je f)):=by
 refine PI.to (yB hg hm (ac h ah hs) hs) λσ H R q=>?_
 obtain⟨B,ρ,ds,sB,r,e',q⟩:=q
 unfold je at e'
 split at e'
 ·rename_i j b' ef
  split at e'
  ·rename_i hj
   cases e'
   refine⟨B,ρ,[.int j],sB,r,by simp[ae,ak,ef],λvs H1 N1 x1 i1=>?_⟩
   cases i1 with
   | cons i1 i2 =>
    cases i1;cases i2
    exact⟨j,rfl,by omega,by omega,q _ H1 N1 x1 λ_=>Ar 0 j.toNat⟩
  ·cases e'
 ·cases e'
end
def Def (K:PySem.W.Frag) (x:Str) (st:Stmt):Prop:=∃(f:Addr) (fd:FuncData),Fun K x x st f fd/\PySem.W.nsIn K mainGlobals x=some (some (.ref f))
theorem def_mk {K:PySem.W.Frag}{x:Str}{st:Stmt}{f:Addr}{oc:Value}{od an:Option Addr}{osl:Array (Option Value)}{kV doc pm cdv ct:Value}(a:PySem.W.nsIn K mainGlobals x=some (some (.ref f)))
  (l:K.lookup f=some ⟨oc,od,.func (PySem.W.fnOf x x (eY st) (c7 st) (ax st) .none kV doc pm an cdv ct),osl⟩) (c:PySem.W.codeIn K cdv x=true) (k:PySem.W.keepIn K (.ref f)=true):Def K x st:=⟨f,_,E6 l c k,a⟩
section
variable {P:Program}{w:World}{K:PySem.W.Frag}{mg:Str->Option Value}{base:Heap}
theorem Def.fn {x:Str}{st:Stmt}{N ps:List Str}{k:Nat}{g:FS}{h:Heap}(F:Def K x st) (X:K.In h) (G:h.Ns mainGlobals mg) (S:FnScope N ps (ax st))
  (hbd:∀(kV doc pm:Value) (an:Option Addr) (cdv ct:Value) (us:List Value),us.length=ps.length->bindArgs (PySem.W.fnOf x x (eY st) (c7 st) (ax st) .none kV doc pm an cdv ct) ⟨us,[]⟩=pure (ps.zip us))
  (hb:∀(f:Addr) (cdv:Value) (A:Around) (outer:List PySem.Env) (s:Shared) (H:Hp) (E:XK),Room k (A.deeper (envOfC x (ax st) s.heap.objs.size f cdv))->JSs (mF CX0 P w K mg base N x (ax st) f cdv A outer s H E).nox (c7 st) g) :
  Fn P w K mg base (k+1) x (aX g ps.length (N.length - ps.length)):=by
 obtain⟨f,fd,F1,a⟩:=F
 exact⟨f,fd,ps,G2 F1 S (hb f),PySem.W.mg_of X G a,F1.kp,F1.binds hbd⟩
end
def G8 (H:Hp):Prop:=∀b,H b=none∨(∃o xs,H b=some (.frz o (.lst xs))) ∨ ∃q,H b=some (.tbl q)
def mS (tabs:List (Addr×Str)) (G:Hp):Hp:=λb=>match tabs.lookup b with|some q=>some (.tbl q)|none=>G b
theorem dO {tabs:List (Addr×Str)}{G:Hp}{b:Addr}{q:Str}(e:tabs.lookup b=some q):mS tabs G b=some (.tbl q):=by unfold mS;rw[e]
theorem fM {tabs:List (Addr×Str)}{G:Hp}{b:Addr}(e:tabs.lookup b=none):mS tabs G b=G b:=by unfold mS;rw[e]
theorem yR {P:Program}{w:World}{K:PySem.W.Frag}{mg mb:Str->Option Value}{k:Nat}{fa a:Addr}{fd:FuncData}{x:Str}{sp:Sp}{s₁:Shared}{vs:List Value}{ns:List Int}(tabs:List (Addr×Str))
  (ht:∀b q,tabs.lookup b=some q->s₁.heap.get? b=some (PySem.W.tabObj #[])/\isCodeTable s₁.heap b) (hnt:PySem.W.noTabs K=true)
  (KX:K.In s₁.heap) (hns:s₁.heap.Ns mainGlobals mg) (hb:s₁.heap.Ns builtinsNs mb) (hbb:∀x:Str,x ≠ "__name__"->mb x=bootBuiltins x) (hlim:s₁.heap.NoLimit)
  (hbm:∃bm ob,mg "__builtins__" = some (.ref bm)/\bm≠builtinsNs/\s₁.heap.get? bm=some ob/\ob.cls=.type "module"/\ob.dict=some builtinsNs/\ob.data=.plain) (hg:s₁.gens=#[])
  (ha:s₁.heap.get? a=some { cls:=.type "list",data:=.seq vs.toArray }) (hi:IntsAre vs ns) (hl:ns.length<=sizeLine) (hr:Room k callerA)
  (F:∀base:Heap,K.In base->base.Ns mainGlobals mg->FnOk P w K mg base CX0 k fa fd [x] sp) (hbind:∀(s:Shared) (u:Value),BindsTo s fd ⟨[u],[]⟩ [(x,u)])
  (hsp:∀H:Hp,(∀b q,tabs.lookup b=some q->H b=some (.tbl q))->SqL K H a (ns.map V.int)->sp [.ref a] H (λv _=>v=.bl true) λ_ _ _=>False) :
  codeAny (model P w) callerA (.call (.ref fa) ⟨[.ref a],[]⟩) (λr s'=>r=.ok (.ret (.bool true))/\OldK s₁.heap s'.heap/\s'.os=s₁.os/\AllBare s'.gens) s₁:=by
 have rv:=L2.fH hi
 have lenV:=hi.length
 have core:∀H:Hp,G8 H->(∀b q,tabs.lookup b=some q->H b=some (.tbl q))->SqL K H a (ns.map V.int)->HOk P w H s₁.heap->(∀b q,H b=some (.tbl q)->s₁.heap.get? b=some (PySem.W.tabObj #[])/\isCodeTable s₁.heap b) ->
   (∀b o u,H b=some (.frz o u)->b=a)->(∀b o u,H b=some (.frz o u)->K.lookup b=none) ->
   codeAny (model P w) callerA (.call (.ref fa) ⟨[.ref a],[]⟩) (λr s'=>r=.ok (.ret (.bool true))/\OldK s₁.heap s'.heap/\s'.os=s₁.os/\AllBare s'.gens) s₁:=by
  intro H hO hT hS hok hA hB hK
  have noA:∀ {b:Addr}{o:Obj},s₁.heap.get? b=some o->(o.cls≠.none)->(o.cls≠.type "list")->H b=none:=λ{b o} e d d'=>by
   rcases hO b with q|⟨ob,xs,q⟩|⟨u,q⟩
   ·exact q
   ·have e':b=a:=hB b _ _ q
    subst e'
    rw[ha]at e;cases e
    exact absurd rfl d'
   ·rw[(hA b u q).1]at e;cases e
    exact absurd rfl d
  have noD:∀ {b:Addr}{o:Obj}{es:Array DictEntry}{ep:Nat},s₁.heap.get? b=some o->o.data=.dict es ep->H b=none:=λ{b o es ep} e d=>by
   rcases hO b with q|⟨ob,xs,q⟩|⟨u,q⟩
   ·exact q
   ·have e':b=a:=hB b _ _ q
    subst e'
    rw[ha]at e;cases e
    cases d
   ·rw[(hA b u q).1]at e;cases e
    cases d
  have nsK:∀ {b:Addr}{m:Str->Option Value},s₁.heap.Ns b m->(sX s₁.heap H).Ns b m:=λ{b m} ⟨o,es,ep,e,d,r⟩=>⟨o,es,ep,mB e (noD e d),d,r⟩
  have hKb:K.In (sX s₁.heap H):=λb o e=>mB (KX b o e) (by
   rcases hO b with q|⟨ob,xs,q⟩|⟨u,q⟩
   ·exact q
   ·rw[hK b _ _ q]at e;cases e
   ·have z:=(hA b u q).1
    rw[KX b o e]at z
    cases z
    have:=List.all_eq_true.mp hnt _ (PySem.W.mem_of_lookupK e)
    simp at this)
  have hM:Mod K mg (sX s₁.heap H):=⟨hKb,nsK hns,⟨mb,nsK hb,hbb⟩,let ⟨mc,h1,h2⟩:=hlim;⟨mc,nsK h1,h2⟩,by
   obtain⟨bm,ob,b1,b2,b3,b4,b5⟩:=hbm
   exact⟨bm,ob,b1,b2,mB b3 (noA b3 (by rw[b4];exact λz=>nomatch z) (by rw[b4];intro z;injection z with z;exact absurd z (by decide))),b4,b5⟩⟩
  have e0:Env0 P w K mg (sX s₁.heap H) callerA [] s₁ H:=⟨rfl,hM,λb o e=>B8 e,Nat.le_of_eq (y9 _ _),trivial,λb hb=>absurd (show b∈([]:List Addr)from hb) (by simp),hok,.of_eq hg⟩
  refine codeAny_mono ((F _ hKb (nsK hns)).run callerA [] s₁ H ⟨[.ref a],[]⟩ [.ref a] [.ref a] _ _ hr e0 (hbind s₁ (.ref a)) (.cons rfl .nil) (hsp H hT hS)) λr s' h=>?_
  cases r with
  | error e=>exact False.elim h
  | ok fl =>
   cases fl with
   | next=>exact False.elim h
   | brk=>exact False.elim h
   | cont=>exact False.elim h
   | ret u =>
    obtain⟨v,H',os,bare,un,hok',r',q⟩:=h
    have q':v=.bl true:=q
    subst q'
    obtain rfl:u=Value.bool true:=r'
    have kp:∀b o,H b=none->s₁.heap.get? b=some o->s'.heap.get? b=some o:=λb o n e=>un.keep b o e n (by intro z;exact absurd (show b∈([]:List Addr)from z) (by simp)) (by simp)
    refine⟨rfl,⟨λb o e=>?_,λb o e=>un.there b o e (by simp)⟩,os,bare⟩
    rcases hO b with z|⟨ob,xs,z⟩|⟨u,z⟩
    ·exact .inl (kp b o z e)
    ·have z2:=un.frzs b ob _ z
     obtain⟨e1,_⟩:=hok b _ z
     obtain⟨e2,_⟩:=hok' b _ z2
     rw[e]at e1;cases e1
     exact .inl e2
    ·obtain⟨e1,e2⟩:=hA b u z
     rw[e]at e1;cases e1
     obtain⟨ps,e3,_⟩:=hok' b _ (un.tbls b u z)
     exact .inr (.inl ⟨e2,rfl,#[],ps,rfl,by simpa using e3⟩)
 have tabNot:∀q,tabs.lookup a≠some q:=λq z=>by
  have:=(ht a q z).1
  rw[ha]at this;cases this
 have ta:tabs.lookup a=none:=by
  cases z:tabs.lookup a with
  | none=>rfl
  | some q=>exact absurd z (tabNot q)
 have tabOk:∀(G:Hp) b q,tabs.lookup b=some q->bH P w (mS tabs G) s₁.heap b (.tbl q):=λG b q z=>⟨#[],(ht b q z).1,trivial,λpos cv c=>by cases c⟩
 cases hk:K.lookup a with
 | some o =>
  have e:=KX a o hk
  rw[ha]at e
  cases e
  refine core (mS tabs λ_=>none) (λb=>?_) (λb q z=>dO z) (.inr ⟨_,vs.toArray,_,hk,rfl,rfl,rfl,by rw[List.size_toArray,lenV];exact hl,by simpa using rv⟩) (λb u z=>?_) (λb q z=>?_) (λb o u z=>?_) λb o u z=>?_
  all_goals cases zt:tabs.lookup b with
   | none=>first|exact .inl (fM zt)|(rw[fM zt]at z;cases z)
   | some q'=>first|exact .inr (.inr ⟨q',dO zt⟩)|(rw[dO zt]at z;cases z;done)|(rw[dO zt]at z;cases z;first|exact tabOk _ b _ zt|exact ht b _ zt)
 | none =>
  refine core (mS tabs λb=>if b=a then some (.frz { cls:=.type "list",data:=.seq vs.toArray } (.lst (ns.map V.int)))else none) (λb=>?_) (λb q z=>dO z) (.inl (.inr ⟨{ cls:=.type "list",data:=.seq vs.toArray },by rw[fM ta,if_pos rfl]⟩)) (λb u z=>?_) (λb q z=>?_) (λb o u z=>?_) λb o u z=>?_
  all_goals cases zt:tabs.lookup b with
   | some q'=>first|exact .inr (.inr ⟨q',dO zt⟩)|(rw[dO zt]at z;cases z;done)|(rw[dO zt]at z;cases z;first|exact tabOk _ b _ zt|exact ht b _ zt)
   | none =>
    first
    | rw[fM zt]at z
    | rw[fM zt]
    by_cases hb:b=a
    ·first
     | rw[if_pos hb]at z
     | rw[if_pos hb]
     first
     | exact .inr (.inl ⟨_,_,rfl⟩)
     | (cases z;subst hb;exact⟨ha,by rw[List.length_map];exact hl,vs,_,rv,ha⟩)
     | exact hb
     | (rw[hb];exact hk)
     | cases z
    ·first
     | (rw[if_neg hb]at z;cases z)
     | exact .inl (if_neg hb)
def rL (L:List (Str×Option (Addr×Addr))):List (Addr×Str):=L.filterMap λp=>p.2.map λq=>(q.2,mJ p.1)
structure TabsFit (K:PySem.W.Frag) (L:List (Str×Option (Addr×Addr))):Prop where
 names:L=j6.map λx=>(x,PySem.W.tabIn K x)
 apart:((rL L).map (·.1)).Nodup
 none:PySem.W.noTabs K=true
theorem iL {α β:Type}[BEq α] [LawfulBEq α]:∀ {l:List (α×β)}{a:α}{b:β},(l.map (·.1)).Nodup->(a,b)∈l->l.lookup a=some b
 | (c,d)::l,a,b,nd,h=>by
  rw[List.lookup_cons]
  rcases List.mem_cons.mp h with e|h
  ·cases e;simp
  ·have ne:a≠c:=λz=>(List.nodup_cons.mp nd).1 (by rw[←z];exact List.mem_map.mpr ⟨(a,b),h,rfl⟩)
   rw[show(a == c)=false by simpa using ne]
   exact iL (List.nodup_cons.mp nd).2 h
theorem gI {α β:Type}[BEq α] [LawfulBEq α]:∀ {l:List (α×β)}{a:α}{b:β},l.lookup a=some b->(a,b)∈l
 | (c,d)::l,a,b,h=>by
  rw[List.lookup_cons]at h
  cases e:a == c with
  | true=>rw[e]at h;cases h;rw[eq_of_beq e];exact mX
  | false=>rw[e]at h;exact mZ _ (gI h)
theorem TabsFit.tb {K:PySem.W.Frag}{L:List (Str×Option (Addr×Addr))}(F:TabsFit K L) {H:Hp}(h:∀b q,(rL L).lookup b=some q->H b=some (.tbl q)):Tb K H:=λx hx c P e=>by
 refine h P (mJ x) (iL F.apart ?_)
 rw[F.names]
 exact List.mem_filterMap.mpr ⟨(x,PySem.W.tabIn K x),List.mem_map.mpr ⟨x,hx,rfl⟩,by rw[e];rfl⟩
theorem tab_no {K:PySem.W.Frag}{x:Str}(e:PySem.W.nsIn K mainGlobals x=some none):PySem.W.tabIn K x=none:=by unfold PySem.W.tabIn;rw[e]
theorem tab_yes {K:PySem.W.Frag}{x:Str}{f c P:Addr}{oc oc':Value}{od od':Option Addr}{osl osl':Array (Option Value)}{fd:FuncData}{vs:Array Value}(e1:PySem.W.nsIn K mainGlobals x=some (some (.ref f))) (e2:K.lookup f=some ⟨oc,od,.func fd,osl⟩) (e3:fd.code=.ref c)
  (e4:K.lookup c=some ⟨oc',od',.fields vs,osl'⟩) (e5:vs[11]? = some (.ref P)):PySem.W.tabIn K x=some (c,P):=by unfold PySem.W.tabIn;simp only[e1,e2,e3,e4,e5]
theorem tabs_fit {K:PySem.W.Frag}{t0 t1 t2 t3:Option (Addr×Addr)}(h0:PySem.W.tabIn K "in_order" = t0) (h1:PySem.W.tabIn K "has_seal" = t1) (h2:PySem.W.tabIn K "is_first_death" = t2) (h3:PySem.W.tabIn K "bases_by" = t3)
  (ap:((rL [("in_order",t0),("has_seal",t1),("is_first_death",t2),("bases_by",t3)]).map (·.1)).Nodup) (nt:PySem.W.noTabs K=true):TabsFit K [("in_order",t0),("has_seal",t1),("is_first_death",t2),("bases_by",t3)] :=
 ⟨by subst h0;subst h1;subst h2;subst h3;rfl,ap,nt⟩
theorem walkD {l:PySem.W.OpenLaw}{q:Program}{loose:List Str}{XP:(Str->Option Value)->Heap->Prop}{YP:World->Heap->Prop}{d:DefRec}{K:Params->PySem.W.Frag}{k:Nat}{x:Str}{f:List D->Option (D×Bool)}{L:List (Str×Option (Addr×Addr))}(hn:l.most=some 63) (hdf:d.params.defaults=[]) (hr:Room k callerA)
  (hY:∀(w:World) (h:Heap),YP w h->(K w.params).In h) (hT:∀w:World,TabsFit (K w.params) L) (hD:(L.all λp=>p.2.isNone || ((recsOf q).find? λe=>e.name == p.1).isSome)=true)
  (F:∀(w:World) (mg:Str->Option Value) (fa:Addr) (h:Heap),(K w.params).In h->h.Ns mainGlobals mg->mg d.name=some (.ref fa) ->
   ∃fd:FuncData,(∀(s:Shared) (u:Value),BindsTo s fd ⟨[u],[]⟩ [(x,u)])/\∀base:Heap,(K w.params).In base->base.Ns mainGlobals mg->FnOk l.prog w (K w.params) mg base CX0 k fa fd [x] (spD (K w.params) f))
  (ht:∀ns:List Int,ns.length<=63->∃b,f [.lst (ns.map .int)]=some (.bl true,b)):PySem.W.WalkO q loose XP YP l.row.toRowW d [] (λf vs=>PySem.call f vs):=by
 refine Att.tu hn hdf λw s₀ s₁ mg mb fa o pm cd doc a vs ns G Y ho hd hcd hmg hobj hints hlen hg=>?_
 have KX:=hY w _ Y
 obtain⟨fd,hb,hF⟩:=F w mg fa _ KX G.T.g hmg
 refine yR (rL L) (λb u e=>?_) (hT w).none KX G.T.g G.T.b G.T.builtins G.T.nolimit G.T.bmain hg hobj hints (Nat.le_trans hlen (by decide)) hr hF hb λH hH hS=>?_
 ·obtain⟨p,hp,e2⟩:=List.mem_filterMap.mp (gI e)
  obtain⟨⟨c,P⟩,e3,e4⟩:=oY e2
  cases e4
  have hp':=List.all_eq_true.mp hD p hp
  rw[e3]at hp'
  rw[Option.isNone_some,Bool.false_or]at hp'
  obtain⟨r,hr'⟩:=Option.isSome_iff_exists.mp hp'
  have ht':PySem.W.tabIn (K w.params) p.1=some (c,P):=by
   rw[(hT w).names]at hp
   obtain⟨y,_,rfl⟩:=List.mem_map.mp hp
   exact e3
  obtain⟨h1,h2⟩:=PySem.W.tab_of G.T KX hr' ht'
  exact⟨h2,(h1.tab h2).isCodeTable⟩
 ·obtain⟨b,e⟩:=ht ns hlen
  exact⟨H,_,_,b,⟨.refl H,(hT w).tb hH⟩,.cons (.lst hS (.flat rfl)) .nil,e,λv H' N x' i' _=>by cases i';rfl⟩
theorem Def.law {P:Program}{w:World}{K:PySem.W.Frag}{mg:Str->Option Value}{x y:Str}{st:Stmt}{N:List Str}{k:Nat}{g:FS}{h:Heap}{fa:Addr}(F:Def K x st) (X:K.In h) (G:h.Ns mainGlobals mg) (hfa:mg x=some (.ref fa)) (S:FnScope N [y] (ax st))
  (hbd:∀(kV doc pm:Value) (an:Option Addr) (cdv ct:Value) (u:Value),bindArgs (PySem.W.fnOf x x (eY st) (c7 st) (ax st) .none kV doc pm an cdv ct) ⟨[u],[]⟩=pure [(y,u)])
  (hb:∀(base:Heap),K.In base->base.Ns mainGlobals mg->∀(f:Addr) (cdv:Value) (A:Around) (outer:List PySem.Env) (s:Shared) (H:Hp) (E:XK),Room k (A.deeper (envOfC x (ax st) s.heap.objs.size f cdv))->JSs (mF CX0 P w K mg base N x (ax st) f cdv A outer s H E).nox (c7 st) g) :
  ∃fd:FuncData,(∀(s:Shared) (u:Value),BindsTo s fd ⟨[u],[]⟩ [(y,u)])/\∀base:Heap,K.In base->base.Ns mainGlobals mg->FnOk P w K mg base CX0 (k+1) fa fd [y] (spD K (aX g 1 (N.length - 1))):=by
 obtain⟨f,fd,F1,a⟩:=F
 have e:=hfa.symm.trans (PySem.W.mg_of X G a)
 cases e
 refine⟨fd,λs u=>?_,λbase kb nb=>G2 F1 S (hb base kb nb _)⟩
 obtain⟨oc,od,kV,doc,pm,an,cdv,ct,osl,rfl,lk,hcd⟩:=F1.ex
 exact .of_eq (hbd kV doc pm an cdv ct u)
section
variable {X:Cx}{a b e:Expr}{pos:Pos}{x:Str}{p:Pos}
@[simp] def As:D->D->Option (D×Bool)
 | .lst xs,.lst ys=>if xs.length+ys.length<=sizeLine then some (.lst (xs++ys),true)else none
 | _,_=>none
theorem EV:OpR X (binaryOp .Add) (rD X.K As):=by
 intro pins s σ H x y v u Q I rx ry q
 obtain⟨B,dx,dy,d,bb,sB,ix,iy,ee,q⟩:=q
 cases ix<;>cases iy<;>try (simp[As]at ee;done)
 rename_i l vs ds h hl l' ws es h' hl'
 simp only[As]at ee
 split at ee
 ·rename_i hz
  cases ee
  cases rx
  cases ry
  obtain⟨its,r1,p1,z1⟩:=I.list (sB.seq h)
  obtain⟨jts,r2,p2,z2⟩:=I.list (sB.seq h')
  obtain⟨⟨c1,d1,t1,s1⟩,o1,e1,n1,k1⟩:=p1.isList
  obtain⟨⟨c2,d2,t2,s2⟩,o2,e2,n2,k2⟩:=p2.isList
  dsimp only at e1 k1 e2 k2
  subst e1;subst k1;subst e2;subst k2
  have hsz:its.toArray.size+jts.toArray.size<=sizeLine:=by
   rw[List.size_toArray,List.size_toArray,←r1.length,←r2.length,hl.length,hl'.length];exact hz
  have ea:its.toArray++jts.toArray=(its++jts).toArray:=by simp
  refine concat_meets ⟨_,o1,rfl⟩ ⟨_,o2,rfl⟩ noFill_list_add seq_list_add PySem.F.slot_list_add PySem.F.entry_list_add (PySem.F.args_list_add_2 _ _) (list_addW l l' its.toArray jts.toArray n1 n2 d1 d2 s1 s2 hsz) ⟨o1,o2, ?_⟩
  rw[ea]
  have xt:=Ext.laid (o:=.lst (vs++ws)) sB I.fresh
  have il:=(hl.append hl').mono xt.bn
  exact⟨.ref s.heap.objs.size,_,I.lnew (t':=s.toks) (r1.append r2) (by rw[List.length_append,hl.length,hl'.length];exact hz),rfl,q _ _ _ xt (.lst (SqL.of aB) il) λ_=>⟨_,_,_,rfl,rfl,I.fresh,aB,il⟩⟩
 ·cases ee
@[simp] def mT:D->D->Option (D×Bool)
 | .tup xs,.tup ys=>if xs.length+ys.length<=sizeLine/\xs.isEmpty=false then some (.tup (xs++ys),false)else none
 | _,_=>none
theorem Au:OpR X (binaryOp .Add) (rD X.K mT):=by
 refine f7 BQ λx y H Q q=>?_
 obtain⟨B,dx,dy,d,bb,sB,ix,iy,ee,q⟩:=q
 cases ix<;>cases iy<;>try (simp[mT]at ee;done)
 rename_i l vs ds h hl l' ws es h' hl'
 simp only[mT]at ee
 split at ee
 ·rename_i hz
  cases ee
  have l1:=hl.length
  have l2:=hl'.length
  refine⟨l,l',vs,ws,rfl,rfl,aV sB h,aV sB h',λz=>?_,by omega,λz=>?_,λ_ pp hp=>?_⟩
  ·subst z
   cases hl
   simp at hz
  ·subst z
   cases hl'
   rw[List.append_nil]at q
   exact q.one sB (.tup h hl)
  ·have xt:=Ext.laid (o:=.tup (vs++ws)) sB hp
   exact q _ _ _ xt (.tup (SqT.of aB) ((hl.append hl').mono xt.bn)) (by simp)
 ·cases ee
@[simp] def yS:D->D->Option (D×Bool)
 | .bl i,.int j=>some (.int ((if i=true then 1 else 0)+j),false)
 | .int i,.bl j=>some (.int (i+b2i j),false)
 | _,_=>none
theorem EW:OpR X (binaryOp .Add) (rD X.K yS):=by
 intro pins s σ H x y v u Q I rx ry q
 obtain⟨B,dx,dy,d,bb,sB,ix,iy,ee,q⟩:=q
 cases ix<;>cases iy<;>try (simp[yS]at ee;done)
 ·simp only[yS]at ee
  cases ee
  cases rx
  obtain⟨t,rfl⟩:=ry
  exact IntBool.add_bool_int ⟨.int _,H,I.tok _,⟨_,rfl⟩,q.one sB (.int _)⟩
 ·simp only[yS]at ee
  cases ee
  exact yD pins s σ H _ _ v u Q I rx ry ⟨_,_,rfl,rfl,q.one sB (.int _)⟩
@[simp] def b7:D->D->Option (D×Bool)
 | .int i,.int j=>some (.int (i+j),false)
 | .str i,.str j=>if i.length+j.length<=sizeLine then some (.str (i++j),false)else none
 | .lst xs,.lst ys=>if xs.length+ys.length<=sizeLine then some (.lst (xs++ys),true)else none
 | .tup xs,.tup ys=>if xs.length+ys.length<=sizeLine/\xs.isEmpty=false then some (.tup (xs++ys),false)else none
 | .bl i,.int j=>some (.int ((if i=true then 1 else 0)+j),false)
 | .int i,.bl j=>some (.int (i+b2i j),false)
 | _,_=>none
theorem bc:OpR X (binaryOp .Add) (rD X.K b7):=by
 refine f7 (r:=rD X.K (orD xE (orD As (orD mT yS)))) (kD Cn (kD EV (kD Au EW))) λx y H Q q=>?_
 obtain⟨B,dx,dy,d,bb,sB,ix,iy,ee,q⟩:=q
 refine⟨B,dx,dy,d,bb,sB,ix,iy, ?_,q⟩
 cases dx<;>cases dy<;>simp[b7]at ee<;>simp[orD,xE,As,mT,yS,ee]
@[simp] def blD:D->Option Bool
 | .bl b=>some b
 | _=>none
def wm:List D->Option (List Bool)
 | []=>some []
 | d::ds=>(blD d).bind λb=>(wm ds).map (b :: ·)
@[simp] theorem G9:wm []=some []:=rfl
@[simp] theorem F4 (d:D) (ds:List D):wm (d::ds)=(blD d).bind λb=>(wm ds).map (b :: ·):=rfl
@[simp] def HV:List D->Option (D×Bool)
 | [.lst ds]=>(wm ds).map λbs=>(.bl (bs.all id),false)
 | _=>none
@[simp] def HW:List D->Option (D×Bool)
 | [.lst ds]=>(wm ds).map λbs=>(.bl (bs.any id),false)
 | _=>none
end
def Its (z:Str):It:=⟨λi _=>i<z.cps.size,λi H v H'=>H'=H/\∃c,z.cps[i]? = some c/\v=.str ⟨#[c]⟩,λi _=>z.cps.size<=i⟩
theorem tW {P:Program}{w:World}{K:PySem.W.Frag}{tg:Expr}(z:Str) (t:Tok) (it:Addr):Turn P w K tg (Its z) [it] it (λi h=>h.IsStrIter it "str_ascii_iterator" z t i) where
 mem:=List.mem_singleton.mpr rfl
 obj:=λi h st b hb=>by
  have eb:=List.mem_singleton.mp hb
  subst eb
  obtain⟨o,e1,_,d1⟩:=st
  exact⟨o,e1,λv zz=>by rw[d1]at zz;cases zz⟩
 keep:=λi h h' st k=>let ⟨o,e1,r⟩:=st;⟨o,k it (List.mem_singleton.mpr rfl) o e1,r⟩
 item:=by
  intro X hP hw hK hc i pins s σ H E I hf st hg
  subst hP hw hK
  have hg':i<z.cps.size:=hg
  obtain⟨f0,f1,f2,f3,f4,f5⟩:=hf it (List.mem_singleton.mpr rfl)
  refine wpAny_pyNext_ascii_item st (c:=z.cps[i]) (by simp[hg']) λh' st' sb=>?_
  obtain⟨o,e1,c1,d1⟩:=id st'
  exact⟨_,rfl,p8 (s:={ s with heap:=h',toks:=s.toks+1 }) e1 c1 d1 (by decide) ⟨.str ⟨#[z.cps[i]]⟩,H,I.turned (λb o hb e2=>(sb.2 b hb).trans e2) f0 f1 f3 f4 f5,⟨_,rfl⟩,⟨rfl,_,by simp[hg'],rfl⟩,st',λb hb=>(hf b hb).1⟩⟩
 done:=by
  intro X hP hw hK hc i pins s σ H E I hf st hg
  subst hP hw hK
  have hg':z.cps.size<=i:=hg
  obtain⟨f0,f1,f2,f3,f4,f5⟩:=hf it (List.mem_singleton.mpr rfl)
  exact wpAny_pyNext_ascii_end (I.ok.hd hc) st (by simp;omega) λh' eb=>⟨rfl,I.turned (t':=s.toks) (λb o hb e2=>eb b o hb e2) f0 f1 f3 f4 f5⟩
 self:=λ_ _ _ _ _ st h=>wpAny_pyIter_striter_ascii st h
theorem tX {P:Program}{w:World}{K:PySem.W.Frag}{tg:Expr}(z:Str) (t:Tok) (it:Addr):Turn P w K tg (Its z) [it] it (λi h=>h.IsStrIter it "str_iterator" z t i) where
 mem:=List.mem_singleton.mpr rfl
 obj:=λi h st b hb=>by
  have eb:=List.mem_singleton.mp hb
  subst eb
  obtain⟨o,e1,_,d1⟩:=st
  exact⟨o,e1,λv zz=>by rw[d1]at zz;cases zz⟩
 keep:=λi h h' st k=>let ⟨o,e1,r⟩:=st;⟨o,k it (List.mem_singleton.mpr rfl) o e1,r⟩
 item:=by
  intro X hP hw hK hc i pins s σ H E I hf st hg
  subst hP hw hK
  have hg':i<z.cps.size:=hg
  obtain⟨f0,f1,f2,f3,f4,f5⟩:=hf it (List.mem_singleton.mpr rfl)
  refine wpAny_pyNext_wide_item st (c:=z.cps[i]) (by simp[hg']) λh' st' sb=>?_
  obtain⟨o,e1,c1,d1⟩:=id st'
  exact⟨_,rfl,p8 (s:={ s with heap:=h',toks:=s.toks+1 }) e1 c1 d1 (by decide) ⟨.str ⟨#[z.cps[i]]⟩,H,I.turned (λb o hb e2=>(sb.2 b hb).trans e2) f0 f1 f3 f4 f5,⟨_,rfl⟩,⟨rfl,_,by simp[hg'],rfl⟩,st',λb hb=>(hf b hb).1⟩⟩
 done:=by
  intro X hP hw hK hc i pins s σ H E I hf st hg
  subst hP hw hK
  have hg':z.cps.size<=i:=hg
  obtain⟨f0,f1,f2,f3,f4,f5⟩:=hf it (List.mem_singleton.mpr rfl)
  exact wpAny_pyNext_wide_end (I.ok.hd hc) st (by simp;omega) λh' eb=>⟨rfl,I.turned (t':=s.toks) (λb o hb e2=>eb b o hb e2) f0 f1 f3 f4 f5⟩
 self:=λ_ _ _ _ _ st h=>wpAny_pyIter_striter_wide st h
section
variable {X:Cx}{a b e:Expr}{pos:Pos}{x:Str}{p:Pos}{tg:Expr}
theorem Av {l:Expr}{tl:TE}(hl:PE X l tl):PI X tg l (λσ H R=>tl σ H λx H1=>∃z,x=.str z/\R (Its z) H1):=by
 intro pins s σ H R I h
 refine thn (hl pins s σ H _ I h) λv s1 ⟨x,H1,I1,r1,q1⟩=>?_
 obtain⟨z,rfl,q⟩:=q1
 obtain⟨t,rfl⟩:=r1
 have fp:∀b∈[s1.heap.objs.size],k6 X pins H1 b:=λb hb=>by
  rw[List.mem_singleton.mp hb]
  exact I1.fpOk (Nat.le_refl _) (I1.hok.fresh (Nat.le_refl _))
 cases ha:z.cps.all (· < 128) with
 | true=>exact wpAny_pyIter_ascii ha ⟨_,[s1.heap.objs.size],_,_,H1,rfl,I1.kept (t':=s1.toks) λb o e=>Heap.get?_push_of_some _ e,tW z t _,⟨_,Heap.get?_push_size _ rfl,rfl,rfl⟩,fp,q⟩
 | false=>exact wpAny_pyIter_wide ha ⟨_,[s1.heap.objs.size],_,_,H1,rfl,I1.kept (t':=s1.toks) λb o e=>Heap.get?_push_of_some _ e,tX z t _,⟨_,Heap.get?_push_size _ rfl,rfl,rfl⟩,fp,q⟩
def xH (z:Str):List D:=z.cps.toList.map λc=>.str ⟨#[c]⟩
theorem Aw {K:PySem.W.Frag}{B:Hp}(z:Str):pi K (Its z) B (xH z):=by
 intro i H s
 refine⟨λd ed=>?_,λhl=>by unfold xH at hl;show z.cps.size<=i;simpa using hl⟩
 unfold xH at ed
 rw[List.getElem?_map]at ed
 obtain⟨c,ec,rfl⟩:=oY ed
 have ec':z.cps[i]? = some c:=by simpa using ec
 refine⟨(Array.getElem?_eq_some_iff.mp ec').1,λv H' hy=>?_⟩
 obtain⟨rfl,c',e1,rfl⟩:=hy
 rw[ec']at e1;cases e1
 exact⟨B,.refl s,.str _⟩
@[simp] def Ax:D->Option (List D)
 | .lst ds=>some ds
 | .tup ds=>some ds
 | .str z=>some (xH z)
 | _=>none
@[simp] def cE (f:FE):FA:=λρ=>(f ρ).bind λx=>Ax x.1
theorem cG {f:FE}(h:JE X e f):JI X tg e (cE f):=by
 intro pins s σ H R I q
 obtain⟨B,ρ,ds,sB,r,e',q⟩:=q
 obtain⟨xx,ex,es⟩:=oX e'
 obtain⟨xd,xb⟩:=xx
 cases xd with
 | lst l=>exact xG h pins s σ H R I ⟨B,ρ,ds,sB,r,by unfold Aq;rw[ex];exact es,q⟩
 | tup l=>exact xG h pins s σ H R I ⟨B,ρ,ds,sB,r,by unfold Aq;rw[ex];exact es,q⟩
 | str z =>
  cases es
  refine Av h pins s σ H R I ⟨B,ρ,_,_,sB,r,ex,λv H1 N1 x1 i1 _=>?_⟩
  cases i1
  exact⟨z,rfl,q _ H1 N1 x1 (Aw z)⟩
 | _=>cases es
theorem Cq:SlR X (λx lo hi H Q=>∃z,x=.str z/\z.length<=sizeLine/\Q (.str (Txt.slice z lo hi)) H):=by
 intro pins s σ H x v vl vu lo hi sl Q I rx hs pl pu h
 obtain⟨z,rfl,hz,q⟩:=h
 obtain⟨t,rfl⟩:=rx
 have fin:∀lo hi,Q (.str (Txt.slice z lo hi)) H->(Txt.slice z lo hi).length<=sizeLine/\∀t' k,EP X pins σ Q (.str (Txt.slice z lo hi) t') { s with toks:=k }:=λlo hi q =>
  ⟨Nat.le_trans (Txt.slice_le z _ _) hz,λt' k=>⟨.str _,H,I.tok k,⟨t',rfl⟩,q⟩⟩
 refine⟨"str",_,PySem.F.slot_str_getitem.lookup,typeIs_str _ _ _, ?_⟩
 cases pl with
 | none =>
  cases pu with
  | none=>exact wpAny_getItem_str_slice (l:=none) (u:=none) (st:=none) hs rfl (post_val_or_str (fin _ _ q))
  | int j tj=>exact wpAny_getItem_str_slice (l:=none) (u:=some (j,tj)) (st:=none) hs rfl (post_val_or_str (fin _ _ q))
 | int i ti =>
  cases pu with
  | none=>exact wpAny_getItem_str_slice (l:=some (i,ti)) (u:=none) (st:=none) hs rfl (post_val_or_str (fin _ _ q))
  | int j tj=>exact wpAny_getItem_str_slice (l:=some (i,ti)) (u:=some (j,tj)) (st:=none) hs rfl (post_val_or_str (fin _ _ q))
theorem yT {A:Around}{E:Value->Shared->Prop}{s:Shared}{prog:Program}{w:World}{t sl:Addr}{items:Array Value}{vl vu:Value}{lo hi:Option Int}{Q:Value->Shared->Prop}(ht:IsTup s.heap t items) (hs:s.heap.IsSliceOf sl vl vu .none) (pl:IsPart vl lo) (pu:IsPart vu hi)
  (h0:HT.sIx items.size 0 lo=0) (h1:HT.sIx items.size items.size hi=items.size) (h:Q (.ref t) s):wpAny (model prog w) A (getItem (.ref t) (.ref sl)) Q E s:=by
 obtain⟨os,hos,hcs,hds⟩:=id hs
 have hT:s.TypeIs (.ref sl) "slice":=⟨os,hos,hcs⟩
 unfold getItem
 try with_reducible refine wpAny_holding ?_
 first|refine wX (wY ?_)|skip
 refine wX (wpAny_sequenceKey ht.typeIs (by decide) ?_)
 refine wX (wpAny_callSpecial?_slot (name:=Str.ofString "__getitem__") ht.typeIs PyProof.Rows.slot_tuple_getitem (wpAny_call_entry PyProof.Rows.slot_tuple_getitem ht.typeIs entry_tuple_getitem ?_ (args_tuple_getitem _ _)))
 show wpAny _ _ (Builtin.Tuple.tupleItemsOf (.ref t)>>=_) _ _ s
 refine wX (tupleItemsOf_ ht ?_)
 refine wX (wpAny_typeOf hT ?_)
 rw[if_pos (by decide)]
 refine wX (HT.fG hs pl pu ?_)
 have yes:(((HT.sIx items.size 0 lo:Nat):Int) == 0 && (1:Int) == 1 && (HT.sIx items.size items.size hi - HT.sIx items.size 0 lo) == items.size)=true:=by
  rw[h0,h1];simp
 show wpAny _ _ (if(((HT.sIx items.size 0 lo:Nat):Int) == 0 && (1:Int) == 1 && (HT.sIx items.size items.size hi - HT.sIx items.size 0 lo) == items.size)=true then _ else _) _ _ s
 rw[if_pos yes]
 refine wX ?_
 unfold Builtin.Tuple.tupleIsExact
 refine wX (wpAny_typeOf ht.typeIs (wY ?_))
 show wpAny _ _ (if((Value.type "tuple") == Value.type "tuple")=true then _ else _) _ _ s
 rw[if_pos (by decide)]
 refine wX (wpAny_rule ?_)
 exact wY ⟨_,rfl,wY h⟩
theorem Cr:SlR X (λx lo hi H Q=>∃a xs,x=.ref a/\SqT X.K H a xs/\HT.sIx xs.length 0 lo=0/\HT.sIx xs.length xs.length hi=xs.length/\Q (.ref a) H):=by
 intro pins s σ H x v vl vu lo hi sl Q I rx hs pl pu h
 obtain⟨a,xs,rfl,hx,h0,h1,q⟩:=h
 cases rx
 obtain⟨its,r,ht,hz⟩:=I.tuple hx
 have hlen:its.toArray.size=xs.length:=by rw[List.size_toArray];exact r.length.symm
 refine⟨"tuple",_,PyProof.Rows.slot_tuple_getitem.lookup,ht.typeIs, ?_⟩
 exact yT ht hs pl pu (by rw[hlen];exact h0) (by rw[hlen];exact h1) ⟨.ref a,H,I,rfl,q⟩
@[simp] def fSl (fa:FE) (fl fh:FO):FE:=λρ=>(fa ρ).bind λx=>(fl ρ).bind λl=>(fh ρ).bind λh=>match x.1 with
 | .lst ds=>some (.lst (iD ds l h),true)
 | .tup ds=>some (.tup (iD ds l h),false)
 | .str z=>if z.length<=sizeLine then some (.str (Txt.slice z l h),false)else none
 | _=>none
theorem wn {ds:List D}{lo hi:Option Int}(h0:HT.sIx ds.length 0 lo=0) (h1:HT.sIx ds.length ds.length hi=ds.length):iD ds lo hi=ds:=by
 unfold iD;rw[h0,h1];simp
theorem dP {lo hi:Option Expr}{p2:Pos}{fa:FE}{fl fh:FO}(ha:JE X e fa) (hl:JO X lo fl) (hh:JO X hi fh):JE X (.Subscript e (.Slice lo hi none p2) pos) (fSl fa fl fh):=by
 refine PE.to (zT (SlR.or (SlR.or BU E3) (SlR.or Cq Cr)) ha hl hh) λσ H Q q=>?_
 obtain⟨B,ρ,d,b,sB,r,e,q⟩:=q
 obtain⟨x,ex,e⟩:=oX e
 obtain⟨l,el,e⟩:=oX e
 obtain⟨h,eh,e⟩:=oX e
 refine⟨B,ρ,x.1,x.2,sB,r,ex,λv H1 N1 x1 i1 _=>⟨N1,ρ,l,x1.nh,r.mono x1.bn,el,λH2 h2=>⟨N1,ρ,h,x1.nh.trans h2,r.mono x1.bn,eh,λH3 h3=>?_⟩⟩⟩
 have s3:aJ N1 H3:=x1.nh.trans (h2.trans h3)
 have q3:=q.into (x1.trans (.grow x1.nh (h2.trans h3)))
 obtain⟨xd,xb⟩:=x
 dsimp only at e i1
 cases i1 with
 | @tup a' vs ds hs hv =>
  cases e
  by_cases hw:HT.sIx ds.length 0 l=0/\HT.sIx ds.length ds.length h=ds.length
  ·rw[wn hw.1 hw.2]at q3
   exact .inr (.inr ⟨a',vs,rfl,aV s3 hs,by rw[hv.length];exact hw.1,by rw[hv.length];exact hw.2,q3.one s3 (.tup hs hv)⟩)
  ·refine .inl (.inr ⟨a',vs,rfl,aV s3 hs,by rw[hv.length];exact hw,λp hp=>?_⟩)
   have x4:=Ext.laid (o:=.tup (pd vs l h)) s3 hp
   exact q3 _ _ _ x4 (.tup (SqT.of aB) ((rF hv).mono x4.bn)) (by simp)
 | @lst a' vs ds hs hv =>
  cases e
  refine .inl (.inl ⟨a',vs,rfl,s3.seq hs,λp hp=>?_⟩)
  have x4:=Ext.laid (o:=.lst (pd vs l h)) s3 hp
  exact q3 _ _ _ x4 (.lst (SqL.of aB) ((rF hv).mono x4.bn)) λ_=>⟨p,_,_,rfl,rfl,hp,aB,(rF hv).mono x4.bn⟩
 | str z =>
  dsimp only at e
  split at e
  ·rename_i hz
   cases e
   exact .inr (.inl ⟨z,rfl,hz,q3.one s3 (.str _)⟩)
  ·cases e
 | _=>cases e
def rM:Value->D->Bool
 | .none,.non=>true
 | .bool a,.bl b=>a == b
 | .int i _,.int j=>decide (i=j)
 | .str i _,.str j=>decide (i=j)
 | _,_=>false
def gd:List Value->List D->Bool
 | [],[]=>true
 | u::us,d::ds=>rM u d && gd us ds
 | _,_=>false
theorem im {K:PySem.W.Frag}{B:Hp}:∀ {u:Value}{d:D},rM u d=true->∃v,aN v u/\Is K B v d
 | .none,.non,_=>⟨.non,rfl,.non⟩
 | .bool a,.bl b,h=>by
  have:a=b:=eq_of_beq h
  subst this;exact⟨.bl a,rfl,.bl a⟩
 | .int i t,.int j,h=>by
  have:i=j:=of_decide_eq_true h
  subst this;exact⟨.int i,⟨t,rfl⟩,.int i⟩
 | .str i t,.str j,h=>by
  have:i=j:=of_decide_eq_true h
  subst this;exact⟨.str i,⟨t,rfl⟩,.str i⟩
theorem ge {K:PySem.W.Frag}:∀ {us:List Value}{ds:List D},gd us ds=true->∃vs,L2.aP vs us/\∀B,IsL K B vs ds
 | [],[],_=>⟨[],.nil,λ_=>.nil⟩
 | u::us,d::ds,h=>by
  rw[gd,Bool.and_eq_true]at h
  obtain⟨vs,r,i⟩:=ge (K:=K) h.2
  obtain⟨v,r1,_⟩:=im (K:=K) (B:=λ_=>none) h.1
  refine⟨v::vs,.cons r1 r,λB=>?_⟩
  obtain⟨v',r1',i'⟩:=im (K:=K) (B:=B) h.1
  have:v'=v:=by have z1:=r1.abs;rw[r1'.abs]at z1;exact Option.some.inj z1
  subst this
  exact .cons i' (i B)
theorem const_tup {K:PySem.W.Frag}{y:Str}{a:Addr}{od:Option Addr}{its:Array Value}{n:Nat}{osl:Array (Option Value)}{ds:List D}(e:PySem.W.nsIn K mainGlobals y=some (some (.ref a)))
  (l:K.lookup a=some ⟨.type "tuple",od,.seq its n,osl⟩) (h:(decide (its.size<=1000) && gd its.toList ds)=true):∃u v,PySem.W.nsIn K mainGlobals y=some (some u)/\aN v u/\∀B,Is K B v (.tup ds):=by
 rw[Bool.and_eq_true]at h
 obtain⟨vs,r,i⟩:=ge (K:=K) h.2
 exact⟨_,.ref a,e,rfl,λB=>.tup (.inr ⟨_,its,n,l,rfl,rfl,Nat.le_of_lt (Nat.lt_of_le_of_lt (of_decide_eq_true h.1) (by decide)),r⟩) (i B)⟩
end
section
variable {X:Cx}{a b o e:Expr}{pos:Pos}{x:Str}{p:Pos}{tg:Expr}
@[simp] def EX:D->Option Str
 | .str z=>some z
 | _=>none
def eN:List D->Option (List Str)
 | []=>some []
 | d::ds=>(EX d).bind λz=>(eN ds).map (z :: ·)
@[simp] theorem F5:eN []=some []:=rfl
@[simp] theorem wo (d:D) (ds:List D):eN (d::ds)=(EX d).bind λz=>(eN ds).map (z :: ·):=rfl
@[simp] theorem F6 (zs:List Str):eN (zs.map D.str)=some zs:=by
 induction zs with
 | nil=>rfl
 | cons z zs ih=>simp[ih]
theorem jC {K:PySem.W.Frag}{B:Hp}:∀ {vs:List V}{ds:List D}{zs:List Str}{its:List Value},L2.aP vs its->IsL K B vs ds->eN ds=some zs->StrsAre its zs
 | _,_,_,_,.nil,.nil,e=>by cases e;exact .nil
 | _,_,_,_,.cons r rr,.cons i ii,e=>by
  rw[wo]at e
  obtain⟨z,e1,e⟩:=oX e
  obtain⟨zs,e2,e⟩:=oY e
  subst e
  cases i<;>simp only[EX]at e1<;>try (cases e1;done)
  cases e1
  obtain⟨t,rfl⟩:=r
  exact .cons _ t (jC rr ii e2)
@[simp] def HJ:D->D->Option (D×Bool)
 | .str sep,.lst ds=>(eN ds).bind λzs=>if(zs.map (·.length)).sum+zs.length*sep.length<=16777216 then some (.str (Txt.join sep zs),false)else none
 | .str sep,.tup ds=>(eN ds).bind λzs=>if(zs.map (·.length)).sum+zs.length*sep.length<=16777216 then some (.str (Txt.join sep zs),false)else none
 | _,_=>none
def d5:List Nat->List D->Env->Option Env
 | [],[],ρ=>some ρ
 | i::is,d::ds,ρ=>d5 is ds (ρ.set i (some (d,false)))
 | _,_,_=>none
@[simp] theorem pN (ρ:Env):d5 [] [] ρ=some ρ:=by rw[d5]
@[simp] theorem jf (i:Nat) (is:List Nat) (d:D) (ds:List D) (ρ:Env):d5 (i::is) (d::ds) ρ=d5 is ds (ρ.set i (some (d,false))):=by rw[d5]
@[simp] theorem GA (d:D) (ds:List D) (ρ:Env):d5 [] (d::ds) ρ=none:=by simp only[d5]
@[simp] theorem GB (i:Nat) (is:List Nat) (ρ:Env):d5 (i::is) [] ρ=none:=by simp only[d5]
@[simp] def tgT (is:List Nat):FG:=λd ρ=>match d with|.tup ds=>d5 is ds ρ|_=>none
def mU:List Nat->TGs
 | []=>FN
 | i::is=>Dt (jy i) (mU is)
theorem Ay {N:Hp}{σ:St}{ρ:Env}{i:Nat}{v:V}{d:D}:aJ (cut N (own σ ρ)) (cut N (own (σ.set i (some v)) (ρ.set i (some (d,false))))):=cV λa u e q=>⟨e,λz=>q (by
 rcases rz z with ⟨_,d',p⟩|⟨j,_,d',q1,q2⟩
 ·cases p
 ·exact⟨j,d',q1,q2⟩)⟩
theorem io {K:PySem.W.Frag}:∀ {is:List Nat}{vs:List V}{ds:List D}{B0 H0 N H:Hp}{σ:St}{ρ ρ':Env}{Q:St->Hp->Prop},StN K B0 H0 N H σ ρ->IsL K (cut N (own σ ρ)) vs ds->d5 is ds ρ=some ρ'->(∀σ',StN K B0 H0 N H σ' ρ'->Q σ' H)->mU is vs σ H Q
 | [],_,_,_,_,_,_,_,_,_,_,s,.nil,e,k=>by
  rw[pN]at e;cases e
  exact⟨rfl,k _ s⟩
 | [],_,_,_,_,_,_,_,_,_,_,_,.cons _ _,e,_=>by simp at e
 | _::_,_,_,_,_,_,_,_,_,_,_,_,.nil,e,_=>by simp at e
 | i::is,_,_,_,_,_,_,_,_,_,_,s,.cons h hs,e,k=>by
  rw[jf]at e
  exact⟨_,_,rfl,io (s.bind h) (hs.mono Ay) e k⟩
theorem kE:∀ {is:List Nat}{ds:List D}{ρ ρ':Env},d5 is ds ρ=some ρ'->ds.length=is.length
 | [],[],_,_,_=>rfl
 | _::_,_::_,_,_,e=>by rw[jf]at e;simp[kE e]
 | [],_::_,_,_,e=>by simp at e
 | _::_,[],_,_,e=>by simp at e
theorem GC {K:PySem.W.Frag}{is:List Nat}:tDG K (tgT is) (Em K is.length (mU is)):=by
 intro B0 H0 N H σ ρ ρ' v d Q s h e k
 cases h with
 | @tup a vs ds ht hl =>
  have e':d5 is ds ρ=some ρ':=e
  exact⟨a,vs,rfl,aV (bA.trans s.ext.nh) ht,by rw[hl.length];exact kE e',io s hl e' λσ' s'=>k σ' H ⟨N,s'⟩⟩
 | _=>cases e
theorem pO {K:PySem.W.Frag}{n:Nat}{B H:Hp}{ρ0:Env}{Q:St->Hp->Prop}(cl:∀i,i<n->ρ0[i]? = some none):∀ {is:List Nat}{vs:List V}{ds:List D}{σ:St}{ρ ρ1:Env},(∀i∈is,i<n)->RepE K B σ ρ->IsL K B vs ds->d5 is ds ρ=some ρ1->ρ.length=σ.length->ρ.length=ρ0.length ->
  (∀σ1,RepE K B σ1 ρ1->(∀B',RepE K B' σ ρ0->RepE K B' σ1 ρ0)->ρ0.length=σ1.length->Q σ1 H)->mU is vs σ H Q
 | [],_,_,_,_,_,_,rp,.nil,e,l1,l2,k=>by
  rw[pN]at e;cases e
  exact⟨rfl,k _ rp (λ_ z=>z) (by omega)⟩
 | [],_,_,_,_,_,_,_,.cons _ _,e,_,_,_=>by simp at e
 | _::_,_,_,_,_,_,_,_,.nil,e,_,_,_=>by simp at e
 | i::is,_,_,σ,ρ,_,hn,rp,.cons (v:=v) h hs,e,l1,l2,k=>by
  rw[jf]at e
  have hi:=hn i mX
  have hiσ:i<σ.length:=by
   have:=(List.getElem?_eq_some_iff.mp (cl i hi)).1
   omega
  refine⟨_,_,rfl,pO cl (λj hj=>hn j (mZ _ hj)) ⟨rp.tb,λj d b q=>?_⟩ hs e (by simpa using l1) (by simpa using l2) λσ1 r1 r2 l=>k σ1 r1 (λB' z=>r2 B' ⟨z.tb,λj d b q=>?_⟩) l⟩
  ·rcases bx q with ⟨rfl,pp⟩|⟨ne,pp⟩
   ·cases pp
    exact⟨v,by simp[hiσ],h⟩
   ·obtain⟨w,h1,h2⟩:=rp.at' j d b pp
    exact⟨w,by rw[List.getElem?_set_ne ne];exact h1,h2⟩
  ·obtain⟨w,h1,h2⟩:=z.at' j d b q
   have ne:i≠j:=λz=>by subst z;rw[cl i hi]at q;cases q
   exact⟨w,by rw[List.getElem?_set_ne ne];exact h1,h2⟩
theorem DO {K:PySem.W.Frag}{n:Nat}{is:List Nat}(hn:∀i∈is,i<n):TGE K n (tgT is) (Em K is.length (mU is)):=by
 intro B H σ ρ ρ1 v d Q cl rep s h e hl k
 cases h with
 | @tup a vs ds ht hv =>
  have e':d5 is ds ρ=some ρ1:=e
  exact⟨a,vs,rfl,aV s ht,by rw[hv.length];exact kE e',pO cl hn rep hv e' hl rfl k⟩
 | _=>cases e
end
section
variable {prog:Program}{w:World}{A:Around}{E:Value->Shared->Prop}{s:Shared}
theorem wq {it l:Addr}{i:Nat}{items:Array Value}{v:Value}{Q:Value->Shared->Prop}(st:s.heap.IsTupleIter it l i) (ht:s.heap.IsTuple l items) (hv:items[i]? = some v)
  (k:∀h',h'.IsTupleIter it l (i+1)->Heap.SameBut it s.heap h'->Q v { s with heap:=h' }):wpAny (model prog w) A (Builtin.SmallTypes.nextOf (.ref it)) Q E s:=by
 obtain⟨o1,g1,c1,d1⟩:=id st
 obtain⟨o2,g2,_,n2,d2⟩:=ht
 unfold Builtin.SmallTypes.nextOf
 refine wX (wpAny_callSpecial?_slot (name:=Str.ofString "__next__") st.typeIs PySem.F.slot_tuple_iterator_next (wpAny_call_entry PySem.F.slot_tuple_iterator_next st.typeIs PySem.F.entry_tuple_iterator_next ?_ (PySem.F.args_tuple_iterator_next_1 _)))
 show wpAny _ _ (field (.ref it) 0>>=_) _ _ _
 refine wX (wpAny_field g1 d1 (x:=.ref l) rfl ?_)
 show wpAny _ _ (if(Value.ref l == Value.none)=true then _ else _) _ _ _
 rw[if_neg (λz=>Bool.false_ne_true z:¬((Value.ref l == Value.none)=true))]
 show wpAny _ _ (field (.ref it) 1>>=_) _ _ _
 refine wX (wpAny_field g1 d1 (x:=.int i 0) rfl ?_)
 show wpAny _ _ (seqItems? (.ref l)>>=_) _ _ _
 refine wX (wpAny_seqItems g2 d2 ?_)
 simp only[hv,Int.toNat_natCast]
 refine wX (wpAny_setField g1 d1 (by simp) (wY ⟨v,rfl,wY (k _ ?_ (Heap.SameBut.update ..))⟩))
 exact⟨_,Heap.get?_update_self _ g1 (Obj.isFreed_of_fields (Obj.data_mapFields d1 _)),(Obj.cls_mapFields ..).trans c1,by rw[Obj.data_mapFields d1];simp[rawInt]⟩
theorem yU {it l:Addr}{i:Nat}{items:Array Value}{Q:Value->Shared->Prop}(hA:A.handled=none) (st:s.heap.IsTupleIter it l i) (ht:s.heap.IsTuple l items) (hv:items[i]? = none)
  (k:∀h' x,Heap.ExtBut it s.heap h'->(∃o,h'.get? x=some o/\o.cls=.type "StopIteration")->E (.ref x) { s with heap:=h' }):wpAny (model prog w) A (Builtin.SmallTypes.nextOf (.ref it)) Q E s:=by
 obtain⟨o1,g1,c1,d1⟩:=id st
 obtain⟨o2,g2,_,n2,d2⟩:=ht
 unfold Builtin.SmallTypes.nextOf
 refine wX (wpAny_callSpecial?_slot (name:=Str.ofString "__next__") st.typeIs PySem.F.slot_tuple_iterator_next (wpAny_call_entry PySem.F.slot_tuple_iterator_next st.typeIs PySem.F.entry_tuple_iterator_next ?_ (PySem.F.args_tuple_iterator_next_1 _)))
 show wpAny _ _ (field (.ref it) 0>>=_) _ _ _
 refine wX (wpAny_field g1 d1 (x:=.ref l) rfl ?_)
 show wpAny _ _ (if(Value.ref l == Value.none)=true then _ else _) _ _ _
 rw[if_neg (λz=>Bool.false_ne_true z:¬((Value.ref l == Value.none)=true))]
 show wpAny _ _ (field (.ref it) 1>>=_) _ _ _
 refine wX (wpAny_field g1 d1 (x:=.int i 0) rfl ?_)
 show wpAny _ _ (seqItems? (.ref l)>>=_) _ _ _
 refine wX (wpAny_seqItems g2 d2 ?_)
 simp only[hv,Int.toNat_natCast]
 refine wX (wpAny_rule (wX (wpAny_setField g1 d1 (by simp) ?_)))
 show wpAny _ _ (newExc (.type "StopIteration") []>>=_) _ _ _
 refine wX ?_
 simp only[newTuple,newExc]
 refine wX (wpAny_newObj_type ?_ (by size_fits))
 refine wX (m:=firstArgMember _ _) (wpAny_of_eq (a:=Value.none) (by first|(simp only[firstArgMember];rfl)|rfl) ?_)
 refine wpAny_newObj_type ?_ (by size_fits)
 simp only[raiseNew]
 refine wX (wpAny_handled ?_)
 first|rw[hA]|rw[show A.in1.handled=none from hA]
 exact wX (wY (wpAny_throw (k _ _ (((Heap.SameBut.update ..).extBut.push _).push _) ⟨_,Heap.get?_push_size _ rfl,rfl⟩)))
end
def KIt:Bool->Heap->Addr->Addr->Nat->Prop
 | true,h,it,a,i=>h.IsListIter it a i
 | false,h,it,a,i=>h.IsTupleIter it a i
def KSq:Bool->Heap->Addr->Array Value->Prop
 | true,h,a,items=>h.IsList a items
 | false,h,a,items=>h.IsTuple a items
def SqK (k:Bool) (K:PySem.W.Frag) (H:Hp) (a:Addr) (xs:List V):Prop:=match k with|true=>SqL K H a xs|false=>SqT K H a xs
theorem KIt.ob {k:Bool}{h:Heap}{it a:Addr}{i:Nat}(st:KIt k h it a i):∃o,h.get? it=some o/\∀v,o.data≠.cell v:=by
 cases k<;>(obtain⟨o,g,_,d⟩:=st;exact⟨o,g,λv z=>by rw[d]at z;cases z⟩)
theorem KIt.upon {k:Bool}{h h':Heap}{it a:Addr}{i:Nat}(st:KIt k h it a i) (g:∀o,h.get? it=some o->h'.get? it=some o):KIt k h' it a i:=by
 cases k<;>(obtain⟨o,e,r⟩:=st;exact⟨o,g o e,r⟩)
theorem KSq.upon {k:Bool}{h h':Heap}{a:Addr}{items:Array Value}(st:KSq k h a items) (g:∀o,h.get? a=some o->h'.get? a=some o):KSq k h' a items:=by
 cases k<;>(obtain⟨o,e,r⟩:=st;exact⟨o,g o e,r⟩)
theorem KSq.lt {k:Bool}{h:Heap}{a:Addr}{items:Array Value}(st:KSq k h a items):a<h.objs.size:=by
 cases k<;>(obtain⟨o,e,r⟩:=st;exact Heap.lt_size e)
theorem SqK.same {k:Bool}{K:PySem.W.Frag}{H H':Hp}{a:Addr}{xs:List V}(h:SqK k K H a xs) (e:aJ H H'):SqK k K H' a xs:=by
 cases k
 ·exact aV e h
 ·exact e.seq h
theorem SqK.vals {X:Cx}{pins:List (Addr×Obj)}{σ:St}{H:Hp}{s:Shared}{k:Bool}{a:Addr}{xs:List V}(I:Inv X pins σ H s) (h:SqK k X.K H a xs):∃its:List Value,aP xs its/\KSq k s.heap a its.toArray/\xs.length<=sizeLine:=by
 cases k
 ·exact I.tuple h
 ·obtain⟨its,r,p,z⟩:=I.list h
  exact⟨its,r,p.isList,z⟩
theorem SqK.inj {X:Cx}{pins:List (Addr×Obj)}{σ:St}{H:Hp}{s:Shared}{k:Bool}{a:Addr}{xs ys:List V}(I:Inv X pins σ H s) (h:SqK k X.K H a xs) (h':SqK k X.K H a ys):xs=ys:=by
 cases k
 ·exact I.tuple_inj h h'
 ·exact I.list_inj h h'
section
variable {prog:Program}{w:World}{A:Around}{E:Value->Shared->Prop}{s:Shared}
theorem yV {k:Bool}{it l:Addr}{i:Nat}{items:Array Value}{v:Value}{Q:Value->Shared->Prop}(st:KIt k s.heap it l i) (ht:KSq k s.heap l items) (hv:items[i]? = some v)
  (q:∀h',KIt k h' it l (i+1)->Heap.SameBut it s.heap h'->Q v { s with heap:=h' }):wpAny (model prog w) A (Builtin.SmallTypes.nextOf (.ref it)) Q E s:=by
 cases k
 ·exact wq st ht hv q
 ·exact wpAny_nextOf_list_item st ht hv q
theorem tY {k:Bool}{it l:Addr}{i:Nat}{items:Array Value}{Q:Value->Shared->Prop}(hA:A.handled=none) (st:KIt k s.heap it l i) (ht:KSq k s.heap l items) (hv:items[i]? = none)
  (q:∀h' x,Heap.ExtBut it s.heap h'->(∃o,h'.get? x=some o/\o.cls=.type "StopIteration")->E (.ref x) { s with heap:=h' }):wpAny (model prog w) A (Builtin.SmallTypes.nextOf (.ref it)) Q E s:=by
 cases k
 ·exact yU hA st ht hv q
 ·exact wpAny_nextOf_list_end hA st ht hv q
end
def itO (k:Bool) (l:Addr):Obj:={ cls:=.type (if k=true then "list_iterator" else "tuple_iterator"),data:=.fields #[.ref l,.int 0 0] }
theorem rN {prog:Program}{w:World}{A:Around}{E:Value->Shared->Prop}{s:Shared}{k:Bool}{l:Addr}{items:Array Value}{Q:Value->Shared->Prop}(ht:KSq k s.heap l items)
  (q:Q (.ref s.heap.objs.size) { s with heap:=s.heap.push (itO k l) }):wpAny (model prog w) A (pyIter (.ref l)) Q E s:=by
 cases k
 ·exact wpAny_pyIter_tuple ht q
 ·exact wpAny_pyIter_list ht q
theorem KSq.push {k:Bool}{h:Heap}{a:Addr}{items:Array Value}(st:KSq k h a items) (o:Obj):KSq k (h.push o) a items:=st.upon λ_ e=>Heap.get?_push_of_some _ e
theorem rO {X:Cx}{pins:List (Addr×Obj)}{σ:St}{H:Hp}{s:Shared}{h':Heap}{t':Nat}{ch:List Addr}(I:Inv X pins σ H s) (f:∀b∈ch,k6 X pins H b) (k:∀b o,b∉ch->s.heap.get? b=some o->h'.get? b=some o):Inv X pins σ H { s with heap:=h',toks:=t' }:=by
 have nit:∀b u,H b=some u->b∉ch:=λb u e z=>by rw[(f b z).1]at e;cases e
 refine I.step (g':=s.gens) (d':=s.drawn) (ch:=ch) (λb hb=>?_) (λb o _ _ hc e _=>k b o hc e) (λb o _ _ hc e _=>⟨o.slots,k b o hc e⟩) (λ_ _ _ _ n=>n)
  (λb o hc e=>⟨o,k b o hc e⟩) (λ_ _ e=>e) (λ_ _ _ e=>e) (λ_ _ e=>e) (λm hm=>?_) (λb u e=>?_) I.bare
 ·obtain⟨_,f1,_,f3,f4,f5⟩:=f b hb
  exact⟨f3,f1,f4,f5⟩
 ·obtain⟨o,es,ep,ho,r⟩:=hm
  exact⟨o,es,ep,k _ o (λz=>(f _ z).2.1 rfl) ho,r⟩
 ·refine(I.hok b u e).stay (λc v hc q=>k c v ?_ q) (λ_ q=>q) (λ_ _ q=>q) λ_ _ _ q=>q
  rcases hc with z|z
  ·rw[z];exact nit b u e
  ·exact nit c _ z
theorem GD {X:Cx}{pins:List (Addr×Obj)}{σ:St}{H:Hp}{s:Shared}{h':Heap}{t':Nat}{ch:List Addr}{a:Addr}{ob:HO}(I:Inv X pins σ H s) (f:∀b∈ch,k6 X pins H b) (k:∀b o,b∉ch->s.heap.get? b=some o->h'.get? b=some o) (ha:s.heap.objs.size<=a)
  (new:bH X.prog X.w (upd H a ob) h' a ob):Inv X pins σ (upd H a ob) { s with heap:=h',toks:=t' }:=by
 have hn:H a=none:=I.hok.fresh ha
 have nit:∀b u,H b=some u->b∉ch:=λb u e z=>by rw[(f b z).1]at e;cases e
 have na:∀b o,s.heap.get? b=some o->b≠a:=λb o e=>Nat.ne_of_lt (Nat.lt_of_lt_of_le (Heap.lt_size e) ha)
 refine I.step (g':=s.gens) (d':=s.drawn) (ch:=ch) (λb hb=>?_) (λb o _ _ hc e _=>k b o hc e) (λb o _ _ hc e _=>⟨o.slots,k b o hc e⟩) (λb o _ e n=>by rw[a9 (na b o e)];exact n)
  (λb o hc e=>⟨o,k b o hc e⟩) (λb xs e=>by rw[a9 (aL e hn)];exact e) (λb o u e=>by rw[a9 (aL e hn)];exact e) (λb ps e=>by rw[a9 (aL e hn)];exact e) (λm hm=>?_) (λb u e=>?_) I.bare
 ·obtain⟨_,f1,_,f3,f4,f5⟩:=f b hb
  exact⟨f3,f1,f4,f5⟩
 ·obtain⟨o,es,ep,ho,r⟩:=hm
  exact⟨o,es,ep,k _ o (λz=>(f _ z).2.1 rfl) ho,r⟩
 ·by_cases hb:b=a
  ·subst hb;rw[aB]at e;cases e;exact new
  ·rw[a9 hb]at e
   refine(I.hok b u e).stay (λc v hc q=>k c v ?_ q) (λc q=>?_) (λc xs q=>?_) λc o xs q=>?_
   ·rcases hc with z|z
    ·rw[z];exact nit b u e
    ·exact nit c _ z
   ·rw[a9 (aL q hn)];exact q
   ·rw[a9 (aL q hn)];exact q
   ·rw[a9 (aL q hn)];exact q
section
variable {X:Cx}{a b e:Expr}{pos:Pos}{p:Pos}
def Ht (xs ys:List D):List D:=List.zipWith (λx y=>.tup [x,y]) xs ys
@[simp] def Hu (fa fb:FE):FA:=λρ=>(fa ρ).bind λx=>(fb ρ).bind λy=>(fg x.1).bind λxs=>(fg y.1).map λys=>Ht xs ys
theorem GE {K:PySem.W.Frag}{B:Hp}{v:V}{d:D}{ds:List D}(h:Is K B v d) (e:fg d=some ds):∃k a vs,v=.ref a/\SqK k K B a vs/\IsL K B vs ds:=by
 cases h with
 | tup ht hl=>cases e;exact⟨false,_,_,rfl,ht,hl⟩
 | lst ht hl=>cases e;exact⟨true,_,_,rfl,ht,hl⟩
 | _=>cases e
end
def unown1 (ρ:Env) (i:Nat):Env:=match ρ[i]? with
 | some (some (d,true))=>ρ.set i (some (d,false))
 | _=>ρ
theorem StN.unown1 {K:PySem.W.Frag}{B0 H0 N H:Hp}{σ:St}{ρ:Env}(s:StN K B0 H0 N H σ ρ) (i:Nat):StN K B0 H0 N H σ (unown1 ρ i):=by
 unfold DL.unown1
 split
 ·rename_i d hd
  obtain⟨a,ob,h1,h2,h3,h4⟩:=s.ow i d hd
  have get:∀ {j:Nat}{e:D}{b:Bool},(ρ.set i (some (d,false)))[j]? = some (some (e,b))->(i=j/\e=d/\b=false)∨(i≠j/\ρ[j]? = some (some (e,b))):=λq=>by
   rcases bx q with ⟨z,p⟩|⟨z,p⟩
   ·cases p;exact .inl ⟨z,rfl,rfl⟩
   ·exact .inr ⟨z,p⟩
  have o:∀c,own σ (ρ.set i (some (d,false))) c->own σ ρ c/\c≠a:=λc ⟨j,e,q1,q2⟩=>by
   rcases get q1 with ⟨_,_,z⟩|⟨ne,q⟩
   ·cases z
   ·exact⟨⟨j,e,q,q2⟩,λz=>by subst z;exact ne (s.inj i j _ _ _ hd q h1 q2)⟩
  have c:aJ (cut N (own σ ρ)) (cut N (own σ (ρ.set i (some (d,false))))):=cV λb u e q=>⟨e,λz=>q (o b z).1⟩
  have na:¬own σ (ρ.set i (some (d,false))) a:=λz=>(o a z).2 rfl
  refine⟨s.bh,s.tb,s.ext,by rw[List.length_set];exact s.len,λj e q=>?_,λj e q=>?_,λj k b e f q q' z1 z2=>?_⟩
  ·rcases get q with ⟨rfl,rfl,_⟩|⟨_,q⟩
   ·exact⟨_,h1,(h4.mono c).is (by rw[bW na];exact h2)⟩
   ·obtain⟨v,k1,k2⟩:=s.sh j e q
    exact⟨v,k1,k2.mono c⟩
  ·rcases get q with ⟨_,_,z⟩|⟨_,q⟩
   ·cases z
   ·obtain⟨a',o',k1,k2,k3,k4⟩:=s.ow j e q
    exact⟨a',o',k1,k2,k3,k4.mono c⟩
  ·rcases get q with ⟨_,_,z⟩|⟨_,q⟩
   ·cases z
   ·rcases get q' with ⟨_,_,z⟩|⟨_,q'⟩
    ·cases z
    ·exact s.inj j k b e f q q' z1 z2
 ·exact s
@[simp] def gUn (is:List Nat) (g:FS):FS:=λρ=>g (is.foldl unown1 ρ)
theorem StN.unowns {K:PySem.W.Frag}{B0 H0 N H:Hp}{σ:St}:∀(is:List Nat) {ρ:Env},StN K B0 H0 N H σ ρ->StN K B0 H0 N H σ (is.foldl DL.unown1 ρ)
 | [],_,s=>s
 | i::is,_,s=>StN.unowns is (s.unown1 i)
theorem EY {K:PySem.W.Frag}{is:List Nat}{g:FS}{E:Ends}{σ:St}{H:Hp}(q:tDS K (gUn is g) E σ H):tDS K g E σ H:=by
 obtain⟨B0,H0,ρ,r,⟨N,s⟩,e,p⟩:=q
 exact⟨B0,H0,_,r,⟨N,s.unowns is⟩,e,p⟩
theorem GF {X:Cx}{st:Stmt}{g:FS}(is:List Nat) (h:JS X st g):JS X st (gUn is g):=PS.to h λ_ _ _ q=>EY q
@[simp] def DP:FS:=λρ=>some (.ct ρ)
@[simp] def Hv:FS:=λρ=>some (.bk ρ)
@[simp] def Hw:FS:=λ_=>none
section
variable {X:Cx}{pos:Pos}
theorem Cs:JS X (.Continue pos) DP:=PS.to tm λE σ H q=>by
 obtain⟨B0,H0,ρ,r,s,e,p⟩:=q
 cases e
 exact p σ H s
end
inductive CRows (K:PySem.W.Frag) (P:Params):List DictEntry->List (Str×D)->Prop where
 | nil:CRows K P [] []
 | tup {x:Str}{t:Tok}{h:Int}{a:Addr}{its:Array Value}{n:Nat}{osl:Array (Option Value)}{ds:List D}{r:List DictEntry}{kvs:List (Str×D)}(hh:h=PyData.keyHash P x)
   (l:K.lookup a=some ⟨.type "tuple",none,.seq its n,osl⟩) (f:(decide (its.size<=1000) && gd its.toList ds)=true) (tl:CRows K P r kvs):CRows K P (⟨h,.str x t,.ref a⟩::r) ((x,.tup ds)::kvs)
 | flat {x:Str}{t:Tok}{h:Int}{u:Value}{d:D}{r:List DictEntry}{kvs:List (Str×D)}(hh:h=PyData.keyHash P x) (f:rM u d=true) (tl:CRows K P r kvs):CRows K P (⟨h,.str x t,u⟩::r) ((x,d)::kvs)
theorem CRows.lit {K:PySem.W.Frag}{P:Params}:∀ {es:List DictEntry}{kvs:List (Str×D)},CRows K P es kvs->PySem.W.KeysLit P es
 | _,_,.nil=>trivial
 | _,_,.tup hh _ _ tl=>⟨⟨_,_,rfl,hh⟩,tl.lit⟩
 | _,_,.flat hh _ tl=>⟨⟨_,_,rfl,hh⟩,tl.lit⟩
theorem CRows.find {K:PySem.W.Frag}{P:Params}(y:Str):∀ {es:List DictEntry}{kvs:List (Str×D)},CRows K P es kvs->match kvs.lookup y with
  | none=>es.find? (λe=>Value.isStrOf y e.key)=none
  | some d=>∃e v,es.find? (λe=>Value.isStrOf y e.key)=some e/\aN v e.val/\∀B,Is K B v d
 | _,_,.nil=>rfl
 | _,_,.tup (x:=x) (t:=t) (a:=a) (ds:=ds) hh l f tl=>by
  by_cases e:y=x
  ·subst e
   rw[List.lookup_cons_self]
   rw[Bool.and_eq_true]at f
   obtain⟨vs,r,i⟩:=ge (K:=K) f.2
   exact⟨_,.ref a,List.find?_cons_of_pos (by simp[Value.isStrOf]),rfl,λB=>.tup (.inr ⟨_,_,_,l,rfl,rfl,Nat.le_of_lt (Nat.lt_of_le_of_lt (of_decide_eq_true f.1) (by decide)),r⟩) (i B)⟩
  ·have ih:=tl.find y
   rw[List.lookup_cons,beq_eq_false_iff_ne.mpr e]
   have nf:Value.isStrOf y (Value.str x t)=false:=by
    rw[Bool.eq_false_iff]
    intro z
    obtain⟨t',q⟩:=Value.isStrOf_shape z
    injection q with q1
    exact e q1.symm
   simp only[List.find?_cons,nf]
   exact ih
 | _,_,.flat (x:=x) (t:=t) (u:=u) (d:=d) hh f tl=>by
  by_cases e:y=x
  ·subst e
   rw[List.lookup_cons_self]
   obtain⟨v,r1,_⟩:=im (K:=K) (B:=λ_=>none) f
   refine⟨_,v,List.find?_cons_of_pos (by simp[Value.isStrOf]),r1,λB=>?_⟩
   obtain⟨v',r1',i'⟩:=im (K:=K) (B:=B) f
   have:v'=v:=by have z1:=r1.abs;rw[r1'.abs]at z1;exact Option.some.inj z1
   subst this
   exact i'
  ·have ih:=tl.find y
   rw[List.lookup_cons,beq_eq_false_iff_ne.mpr e]
   have nf:Value.isStrOf y (Value.str x t)=false:=by
    rw[Bool.eq_false_iff]
    intro z
    obtain⟨t',q⟩:=Value.isStrOf_shape z
    injection q with q1
    exact e q1.symm
   simp only[List.find?_cons,nf]
   exact ih
def pP (K:PySem.W.Frag) (P:Params) (a:Addr) (kvs:List (Str×D)):Prop:=∃es n,K.lookup a=some ⟨.type "dict",none,.dict es n,#[]⟩/\CRows K P es.toList kvs/\(a == sysModules)=false
theorem const_dict {K:PySem.W.Frag}{P:Params}{y:Str}{a:Addr}{es:Array DictEntry}{n:Nat}{kvs:List (Str×D)}(e:PySem.W.nsIn K mainGlobals y=some (some (.ref a))) (l:K.lookup a=some ⟨.type "dict",none,.dict es n,#[]⟩) (r:CRows K P es.toList kvs) (s:(a == sysModules)=false) :
  ∃a,PySem.W.nsIn K mainGlobals y=some (some (.ref a))/\pP K P a kvs:=⟨a,e,es,n,l,r,s⟩
section
variable {X:Cx}{a b e:Expr}{pos:Pos}{x:Str}{p:Pos}
theorem pP.map {pins:List (Addr×Obj)}{σ:St}{H:Hp}{s:Shared}{d:Addr}{kvs:List (Str×D)}(I:Inv X pins σ H s) (h:pP X.K X.w.params d kvs):∃f:Str->Option Value,s.heap.MapOf (strKind X.prog X.w) d f/\(d == sysModules)=false /\
  ∀y,match kvs.lookup y with|none=>f y=none|some dd=>∃u v,f y=some u/\aN v u/\∀B,Is X.K B v dd:=by
 obtain⟨es,n,l,r,sm⟩:=h
 refine⟨_,PySem.W.mapOf_K I.kIn l r.lit,sm,λy=>?_⟩
 have:=r.find y
 have ff:findBy Value.isStrOf es y=(es.toList.find? λe=>Value.isStrOf y e.key).map (·.val):=by
  unfold findBy
  obtain⟨es⟩:=es
  rw[List.find?_toArray]
 cases hl:kvs.lookup y with
 | none=>rw[hl]at this;dsimp only at this ⊢;rw[ff,this];rfl
 | some dd =>
  rw[hl]at this
  obtain⟨en,v,e1,e2,e3⟩:=this
  exact⟨en.val,v,by rw[ff,e1];rfl,e2,e3⟩
@[simp] def HX (kvs:List (Str×D)):D->Option (D×Bool)
 | .str y=>(kvs.lookup y).map λd=>(d,false)
 | _=>none
@[simp] def cIn (kvs:List (Str×D)):D->Option (D×Bool)
 | .str y=>some (.bl (kvs.lookup y).isSome,false)
 | _=>none
@[simp] def Hx (kvs:List (Str×D)):D->Option (D×Bool)
 | .str y=>some (.bl (!(kvs.lookup y).isSome),false)
 | _=>none
@[simp] def GT:List D->Option (D×Bool)
 | [.lst ds]=>some (.lst ds,true)
 | [.tup ds]=>some (.lst ds,true)
 | _=>none
@[simp] def dn:List D->Option (D×Bool)
 | [.lst ds]=>some (.tup ds,false)
 | [.tup ds]=>some (.tup ds,false)
 | _=>none
theorem rP:cf X (.type "tuple") (rDA X.K dn):=by
 refine cf.to ph λxs H Q q=>?_
 obtain⟨B,ds,d,bb,sB,i,ee,q⟩:=q
 cases i with
 | nil=>simp[dn]at ee
 | cons i1 i2 =>
  cases i2 with
  | cons _ _=>cases i1<;>simp[dn]at ee
  | nil =>
   cases i1<;>try (simp[dn]at ee;done)
   ·rename_i l0 vs es h hl
    simp only[dn]at ee
    cases ee
    exact⟨_,_,rfl,.inr ⟨aV sB h,q.one sB (.tup h hl)⟩⟩
   ·rename_i l0 vs es h hl
    simp only[dn]at ee
    cases ee
    refine⟨_,_,rfl,.inl ⟨sB.seq h,λl hp=>?_⟩⟩
    have xt:=Ext.laid (o:=.tup vs) sB hp
    exact q _ _ _ xt (.tup (SqT.of aB) (hl.mono xt.bn)) (by simp)
end
section
variable {X:Cx}{a b e:Expr}{pos:Pos}{x:Str}{p:Pos}
@[simp] def HK (is:List Nat) (f:FE):FS:=λρ=>(f ρ).bind λx=>(fg x.1).bind λds=>(d5 is ds (if br ds=true then ρ else unown ρ)).map .nx
@[simp] def HY (i:Nat) (fk fv:FE):FS:=λρ=>match ρ[i]? with
 | some (some (.lst ds,true))=>(fv ρ).bind λv=>(fk ρ).bind λk=>match k.1 with
  | .int j=>(ixN ds.length j).bind λn=>if ba v.1=true then some (.nx (ρ.set i (some (.lst (ds.set n v.1),true))))else none
  | _=>none
 | _=>none
@[simp] def HZ (i:Nat) (g:List D->Option (List D)):FS:=λρ=>match ρ[i]? with
 | some (some (.lst ds,true))=>(g ds).map λes=>.nx (ρ.set i (some (.lst es,true)))
 | _=>none
@[simp] def Ia (i:Nat) (f:FE):FS:=λρ=>match ρ[i]? with
 | some (some (.lst ds,true))=>(f ρ).bind λx=>match x.1 with
  | .lst es=>if x.2=true/\br es=true/\ds.length+es.length<=sizeLine then some (.nx (ρ.set i (some (.lst (ds++es),true))))else none
  | _=>none
 | _=>none
@[simp] def Ib:List D->Option (D×Bool)
 | [.int i]=>some (.int i,false)
 | [.bl b]=>some (.int (if b then 1 else 0),false)
 | _=>none
end
open AutoSeq1 (wpAny_loadPart')
set_option maxRecDepth 100000
def sqT (k:Bool):String:=if k=true then "list" else "tuple"
theorem tZ (k:Bool) (l:Addr) (items:Array Value) (n:Nat) (dct:Option Addr) (sl:Array (Option Value)) :
  Meets (Builtin.«enumerate.__new__» ⟨[.type "enumerate",.ref l],[]⟩) (λ_ R s=>s.heap.get? l=some { cls:=.type (sqT k),dict:=dct,data:=.seq items n,slots:=sl } /\
   R (.ok (.ret (.ref (s.heap.push (itO k l)).objs.size))) { s with heap:=(s.heap.push (itO k l)).push { cls:=.type "enumerate",data:=.fields #[.none,.bool false,.ref s.heap.objs.size,rawInt 0,.none,.none] } }) :=
 .of_wp λprog w A R s hs=>by
  obtain⟨hp,g,d,tk,os⟩:=s;obtain⟨hl,hs⟩:=hs
  have hsub:=sub_enumerate
  have hL:KSq k (Shared.heap ⟨hp,g,d,tk,os⟩) l items:=by cases k<;>exact⟨_,hl,rfl,n,rfl⟩
  wp_walk using wpAny_loadPart' hl
  refine wpAny_stack_any λst=>wY ?_
  split
  ·rename_i c _ _ _ _ _
   cases (c == Value.type "enumerate")
   ·wp_walk using wpAny_loadPart' hl,rN hL
    exact⟨_,rfl,hs⟩
   ·wp_walk using wpAny_loadPart' hl,rN hL
    exact⟨_,rfl,hs⟩
  ·wp_walk using wpAny_loadPart' hl,rN hL
   exact⟨_,rfl,hs⟩
section
variable {prog:Program}{w:World}{A:Around}{E:Value->Shared->Prop}{s:Shared}
theorem Az {k:Bool}{l:Addr}{items:Array Value}{Q:Value->Shared->Prop}(hL:KSq k s.heap l items)
  (q:∀h',IsEnum h' (s.heap.objs.size+1) s.heap.objs.size 0 .none->KIt k h' s.heap.objs.size l 0->(∀b o,s.heap.get? b=some o->h'.get? b=some o)->Q (.ref (s.heap.objs.size+1)) { s with heap:=h' }) :
  wpAny (model prog w) A (call (.type "enumerate") [.ref l]) Q E s:=by
 have hh:∃(dct:Option Addr) (sl:Array (Option Value)) (n:Nat),s.heap.get? l=some { cls:=.type (sqT k),dict:=dct,data:=.seq items n,slots:=sl }:=by
  cases k<;>(obtain⟨⟨c,dct,dt,sl⟩,hl,hc,n,hd⟩:=hL;dsimp only at hc hd;subst hc;subst hd;exact⟨dct,sl,n,hl⟩)
 obtain⟨dct,sl,n,hl⟩:=hh
 refine callType_new PySem.F.called_enumerate (by decide) (PySem.F.typeCall_enumerate_1 _) (PySem.F.newCall_enumerate_1 _) (λobj=>PySem.F.args_object_init_2 obj _) PySem.F.entry_enumerate_new (tZ k l items n dct sl) ⟨hl, ?_⟩
 have n1:(s.heap.push (itO k l)).objs.size=s.heap.objs.size+1:=Heap.size_push ..
 have g2:((s.heap.push (itO k l)).push { cls:=.type "enumerate",data:=.fields #[.none,.bool false,.ref s.heap.objs.size,rawInt 0,.none,.none] }).get? (s.heap.push (itO k l)).objs.size=some _:=Heap.get?_push_size _ rfl
 have g1:((s.heap.push (itO k l)).push { cls:=.type "enumerate",data:=.fields #[.none,.bool false,.ref s.heap.objs.size,rawInt 0,.none,.none] }).get? s.heap.objs.size=some _:=Heap.get?_push_of_some _ (Heap.get?_push_size _ (by cases k<;>rfl))
 rw[n1]at g2
 show _/\_
 rw[n1]
 refine⟨⟨_,g2,rfl⟩,q _ g2 ?_ λb o e=>Heap.get?_push_of_some _ (Heap.get?_push_of_some _ e)⟩
 cases k<;>exact⟨_,g1,rfl,rfl⟩
theorem EZ (hA:A.handled=none) {k:Bool}(it l:Addr) (hne:l≠it) (items:Array Value):Draws prog w A it [it,l] items.size (λi v=>items[i]? = some v) (λi h=>KIt k h it l i/\KSq k h l items) where
 live:=λi h st=>let ⟨o,e,_⟩:=st.1.ob;⟨o,e⟩
 frame:=λi h h' st kk=>⟨st.1.upon λo e=>kk it (by simp) o e,st.2.upon λo e=>kk l (by simp) o e⟩
 item:=λi s Q E hi st q=>yV st.1 st.2 (v:=items[i]) (by simp[hi]) λh' st' sb=>q _ h' s.toks (by simp[hi]) ⟨st',st.2.upon λo e=>sb.extBut _ _ hne e⟩ sb
 done:=λs Q E st q=>tY hA st.1 st.2 (by simp) q
theorem Fa (hA:A.handled=none) {k:Bool}(it l:Addr) (items:Array Value) (n:Nat) (hn:items[n]? = none):Draws prog w A it [it,l] n (λ_ _=>True) (λi h=>(KIt k h it l i/\KSq k h l items)/\i=n) where
 live:=λi h st=>let ⟨o,e,_⟩:=st.1.1.ob;⟨o,e⟩
 frame:=λi h h' st kk=>⟨⟨st.1.1.upon λo e=>kk it (by simp) o e,st.1.2.upon λo e=>kk l (by simp) o e⟩,st.2⟩
 item:=λi s Q E hi st q=>absurd st.2 (Nat.ne_of_lt hi)
 done:=λs Q E st q=>tY hA st.1.1 st.1.2 hn q
end
def Ite (K:PySem.W.Frag) (k:Bool) (a:Addr):It :=
  ⟨λi H=>∃xs x,SqK k K H a xs/\xs[i]? = some x,
   λi H v H'=>∃T x,v=.ref T/\H T=none/\H'=upd H T (.tup [.int i,x])/\∀xs,SqK k K H a xs->xs[i]? = some x,
   λi H=>∃xs,SqK k K H a xs/\xs.length<=i⟩
theorem yW {P:Program}{w:World}{K:PySem.W.Frag}{es:List Expr}{kt:Nat}{pt:Pos}{k:Bool}{a e it:Addr}(hei:e≠it) (hae:a≠e) (hai:a≠it) :
  Turn P w K (.Tuple es kt pt) (Ite K k a) [e,it] e (λi h=>(∃old,IsEnum h e it i old)/\KIt k h it a i) where
 mem:=by simp
 obj:=λi h st b hb=>by
  obtain⟨⟨old,he⟩,t1⟩:=st
  simp at hb
  rcases hb with rfl|rfl
  ·exact⟨_,he,λv z=>by cases z⟩
  ·exact t1.ob
 keep:=λi h h' st kk=>by
  obtain⟨⟨old,he⟩,t1⟩:=st
  exact⟨⟨old,kk e (by simp) _ he⟩,t1.upon λo q=>kk it (by simp) o q⟩
 item:=by
  intro X hP hw hK hc i pins s σ H E I hf st hg
  subst hP hw hK
  obtain⟨⟨old,he⟩,t1⟩:=st
  obtain⟨xs,x,q1,hx⟩:=hg
  obtain⟨its,r1,p1,z1⟩:=q1.vals I
  obtain⟨u,hu,ru⟩:=r1.get hx
  have fresh:H s.heap.objs.size=none:=I.hok.fresh (Nat.le_refl _)
  have ilt:i<its.toArray.size:=by rw[List.size_toArray];exact(List.getElem?_eq_some_iff.mp hu).1
  have hel:e≠s.heap.objs.size:=Nat.ne_of_lt (Heap.lt_size he)
  have hil:it≠s.heap.objs.size:=by obtain⟨o,q,_⟩:=t1.ob;exact Nat.ne_of_lt (Heap.lt_size q)
  refine wpAny_pyNext_enum_itemD (EZ (A:=X.A.in1) (I.ok.hd hc) it a hai its.toArray) he ⟨t1,p1⟩ ilt hei (by simp[hei,hae.symm]) λv h' tk hv ho st' hT hsz hk=>?_
  have ev:v=u:=by
   have hv':its[i]? = some v:=by simpa using hv
   rw[hu]at hv';exact(Option.some.inj hv').symm
  subst ev
  refine⟨_,rfl,wpAny_letOwnedTupleGo_enum (s:={ s with heap:=h',toks:=tk+1 }) ho λh2 he2 s2=>?_⟩
  have s2':Heap.SameBut e h' h2:=s2
  have kk:∀b o,b∉[e,it]->s.heap.get? b=some o->h2.get? b=some o:=λb o hb q=>s2'.extBut _ _ (λz=>hb (by simp[z])) (hk b o (λz=>hb (by simp[z])) (λz=>hb (by simp[z])) q)
  have new:bH X.prog X.w (upd H s.heap.objs.size (.tup [.int i,x])) h2 s.heap.objs.size (.tup [.int i,x]):=⟨by show 2<=sizeLine;decide,[.int i tk,v],.cons ⟨tk,rfl⟩ (.cons ru .nil),⟨_,s2'.extBut _ _ hel.symm hT,rfl,_,rfl⟩⟩
  refine⟨.ref s.heap.objs.size,upd H s.heap.objs.size (.tup [.int i,x]),GD (s:=s) (t':=tk+1) I hf kk (Nat.le_refl _) new,rfl,⟨_,x,rfl,fresh,rfl,λzs hq=>by rw[SqK.inj I hq q1];exact hx⟩, ?_,λb hb=>?_⟩
  ·exact⟨⟨_,by have:=he2;rw[show((i:Int)+1)=((i+1:Nat):Int) by omega]at this;exact this⟩,st'.1.upon λo q=>s2'.extBut _ _ hei.symm q⟩
  ·have hne:b≠s.heap.objs.size:=by
    simp at hb
    rcases hb with rfl|rfl
    ·exact hel
    ·exact hil
   rw[a9 hne];exact(hf b hb).1
 done:=by
  intro X hP hw hK hc i pins s σ H E I hf st hg
  subst hP hw hK
  obtain⟨⟨old,he⟩,t1⟩:=st
  obtain⟨xs,q1,hl⟩:=hg
  obtain⟨its,r1,p1,z1⟩:=q1.vals I
  have n1:=r1.length
  refine wpAny_pyNext_enum_endD (Fa (A:=X.A.in1) (I.ok.hd hc) it a its.toArray i (by simp;omega)) he ⟨⟨t1,p1⟩,rfl⟩ λh' hk=>⟨rfl, ?_⟩
  exact rO (t':=s.toks) I hf λb o hb q=>hk b o (λz=>hb (by simp[z])) q
 self:=λ_ _ _ _ _ st h=>let ⟨⟨_,he⟩,_⟩:=st;wpAny_pyIter_enum he h
section
variable {X:Cx}{a b e:Expr}{pos:Pos}{p:Pos}
theorem ua:bootBuiltins "enumerate" = some (.type "enumerate"):=by decide +kernel
def jD (ds:List D):List D:=ds.mapIdx λi d=>.tup [.int i,d]
@[simp] def xI (fa:FE):FA:=λρ=>(fa ρ).bind λx=>(fg x.1).map jD
theorem Ct {K:PySem.W.Frag}{N:Hp}{k:Bool}{l:Addr}{vs:List V}{ds:List D}(h1:SqK k K N l vs) (i1:IsL K N vs ds):pi K (Ite K k l) N (jD ds):=by
 intro i H' sm
 have n1:=i1.length
 refine⟨λd ed=>?_,λhl=>⟨vs,h1.same sm, ?_⟩⟩
 ·unfold jD at ed
  rw[List.getElem?_mapIdx]at ed
  obtain⟨x,e1,rfl⟩:=oY ed
  obtain⟨v,ev,iv⟩:=i1.get e1
  refine⟨⟨vs,v,h1.same sm,ev⟩,λr H2 hy=>?_⟩
  obtain⟨T,v',rfl,hT,rfl,f1⟩:=hy
  have e3:=f1 vs (h1.same sm)
  rw[ev]at e3;cases e3
  have xt:=Ext.laid (o:=.tup [.int i,v]) sm hT
  exact⟨_,xt,.tup (SqT.of aB) (.cons (.int _) (.cons (iv.mono xt.bn) .nil))⟩
 ·unfold jD at hl
  rw[List.length_mapIdx]at hl
  omega
theorem xJ {es:List Expr}{kt:Nat}{pt:Pos}{fa:FE}(hm:X.mg "enumerate" = none) (ha:JE X a fa) (hg:Gl X "enumerate":=by rfl) (hs:starEach [a] X.env=[(false,eval a X.env)]:=by rfl) :
  JI X (.Tuple es kt pt) (.Call (.Name "enumerate" p) [a] [] pos) (xI fa):=by
 intro pins s σ H R I q
 refine Call_ (iT I hg hm ua (PyProof.Rows.callWith_type1 (thn (ac ha ah hs pos pins s σ H (λvs H1=>∃(k:Bool) (l:Addr) (us:List V),vs=[.ref l]/\SqK k X.K H1 l us/\R (Ite X.K k l) H1) I ?_) λus s1 ⟨vs,H1,I1,r1,q1⟩=>?_) hs rfl))
 ·obtain⟨B,ρ,ds,sB,r,ee,q⟩:=q
  obtain⟨x1,ex,ee⟩:=oX ee
  obtain⟨xs,exs,ee⟩:=oY ee
  subst ee
  refine⟨B,ρ,[x1.1],sB,r,by simp[ae,ak,ex],λvs H1 N1 xt i1=>?_⟩
  cases i1 with
  | cons j1 j2 =>
   cases j2
   obtain⟨k1,l1,us,rfl,s1,m1⟩:=GE j1 exs
   exact⟨k1,l1,us,rfl,s1.same xt.nh,q _ H1 N1 xt (Ct s1 m1)⟩
 ·obtain⟨k,l,ws,rfl,h1,q⟩:=q1
  obtain⟨u1,rfl,ru1⟩:=r1.one
  cases ru1
  obtain⟨its,v1,p1,z1⟩:=h1.vals I1
  have lt1:=p1.lt
  refine Az p1 λh' c1 c2 ck=>?_
  refine wpAny_pyIter_enum c1 ⟨s1.heap.objs.size+1,[s1.heap.objs.size+1,s1.heap.objs.size],_,_,H1,rfl,I1.kept (t':=s1.toks) ck,
   yW (Nat.succ_ne_self _) (Nat.ne_of_lt (Nat.lt_succ_of_lt lt1)) (Nat.ne_of_lt lt1),⟨⟨_,c1⟩,c2⟩,λb hb=>?_,q⟩
  have hle:s1.heap.objs.size<=b:=by
   simp at hb
   rcases hb with rfl|rfl
   ·exact Nat.le_succ _
   ·exact Nat.le_refl _
  exact I1.fpOk hle (I1.hok.fresh hle)
end
end DL
namespace DL
open PySem PySem.Spec PyProof.Rows
theorem yX (t:SetTable) (es:Array (Int×Value)) (n:Nat):(relayAll t es n).2.1.led=t.led:=by
 unfold relayAll
 split
 ·rename_i t' order h
  unfold SetTable.relaid SetTable.laid at h
  obtain⟨ow,_,h⟩:=oX h
  cases h
  dsimp only
  split<;>rfl
 ·rfl
theorem uc (t:SetTable) (es:Array (Int×Value)) (n:Nat) (hp:t.plain=false):(relayAll t es n).2.1.plain=false:=by
 unfold relayAll
 split
 ·rename_i t' order h
  unfold SetTable.relaid SetTable.laid at h
  obtain⟨ow,_,h⟩:=oX h
  cases h
  dsimp only
  split
  ·exact hp
  ·rfl
 ·rfl
theorem Cu (t:SetTable) (es:Array (Int×Value)) (h:Int) (x:Value):(layNew t es h x).2.1.led=t.led:=by
 unfold layNew
 split
 ·dsimp only[SetTable.put,SetTable.orStandIn]
  repeat' (first|rfl|split)
 ·rfl
structure TabT (w:World) (es:Array (Int×Value)) (t:SetTable):Prop where
 fits:t.fits es.size=true
 led:t.led = !w.params.followText "set-order"
 plain:es.size≠0->t.plain=false
def f9 (prog:Program) (w:World) (h:Heap) (a:Addr) (ts:List Str):Prop :=
 ∃o es ep t,h.get? a=some o/\o.ExactSet/\o.data=.set es ep t/\ElemsOf (PySem.strKind prog w) es.toList/\(es.toList.map (λe=>strOf e.2)).Perm ts/\ts.Nodup/\ts.length<scanBound/\TabT w es t
def eD (ts:List Str) (x:Str):List Str:=if x∈ts then ts else ts++[x]
theorem A0 (ts:List Str) (x:Str):(eD ts x).length<=ts.length+1:=by unfold eD;split<;>simp
theorem ud {k:Str}{v:Value}(h:Value.isStrOf k v=true):strOf v=k:=by obtain⟨t,rfl⟩:=Value.isStrOf_shape h;rfl
section
variable {prog:Program}{w:World}{A:Around}{E:Value->Shared->Prop}{s:Shared}
theorem pQ {es:Array (Int×Value)}{ts:List Str}(hel:ElemsOf (PySem.strKind prog w) es.toList) (hp:(es.toList.map (λe=>strOf e.2)).Perm ts) (k:Str):k∈ts ↔ ∃e∈es.toList,(PySem.strKind prog w).is k e.2=true:=by
 rw[←hp.mem_iff,List.mem_map]
 constructor
 ·rintro⟨e,he,rfl⟩
  obtain⟨⟨k',hk,_⟩,_⟩:=hel e he
  have hk':Value.isStrOf k' e.2=true:=hk
  refine⟨e,he, ?_⟩
  show Value.isStrOf (strOf e.2) e.2=true
  rw[ud hk'];exact hk'
 ·rintro⟨e,he,hk⟩
  exact⟨e,he,ud hk⟩
theorem pR {h:Heap}{a:Addr}{o:Obj}{es:Array (Int×Value)}{ep:Nat}{t:SetTable}(ho:h.get? a=some o) (hd:o.data=.set es ep t) (es':Array (Int×Value)) (t':SetTable) :
  (h.update a (Obj.putSet es' t')).get? a=some { o with data:=.set es' (ep+1) t' }:=by
 have:=Heap.get?_update_self (Obj.putSet es' t') ho (by rw[putSet_of es' t' hd];rfl)
 rw[putSet_of es' t' hd]at this;exact this
theorem ue {g:Bool->Sem Unit}(hg:∀(b:Bool) (s₁:Shared) (Q':Unit->Shared->Prop),Q' () s₁->wpAny (model prog w) A (g b) Q' E s₁)
  {a:Addr}{o:Obj}{es:Array (Int×Value)}{ep:Nat}{t:SetTable}(ho:s.heap.get? a=some o) (hex:o.ExactSet) (hd:o.data=.set es ep t)
  {es1:Array (Int×Value)}{t2:SetTable}{ts:List Str}(hel1:ElemsOf (PySem.strKind prog w) es1.toList) (hp1:(es1.toList.map (λe=>strOf e.2)).Perm ts) (nd:ts.Nodup)
  (hb1:ts.length<scanBound) (hf2:t2.fits es1.size=true) (hl2:t2.led = !w.params.followText "set-order") (hpl:t2.plain=false) {wasDummy:Bool}{R:Option Bool->Shared->Prop}
  (h:∀h',Heap.SameBut a s.heap h'->f9 prog w h' a ts->R (some true) { s with heap:=h' }) :
  wpAny (model prog w) A (do
    storeSet a es1 t2
    if(!wasDummy && t2.tooFull)=true then do
      g (relayAll t2 es1 (SetTable.grown es1.size)).2.2
      storeSet a (relayAll t2 es1 (SetTable.grown es1.size)).1 (relayAll t2 es1 (SetTable.grown es1.size)).2.1
      pure (some true)
     else pure (some true)) R E s:=by
 have sz1:es1.size=ts.length:=by rw[←hp1.length_eq,List.length_map,Array.length_toList]
 refine wX (wpAny_storeSet_of ho hd ?_ (fits_of_scanBound (by rw[sz1];exact hb1)))
 have ho1:=pR ho hd es1 t2
 have hsb1:=Heap.SameBut.update s.heap a (Obj.putSet es1 t2)
 split
 ·have hp:=relayAll_perm t2 es1 (SetTable.grown es1.size)
  have hfr:=relayAll_fits t2 es1 (SetTable.grown es1.size)
  have hle:=yX t2 es1 (SetTable.grown es1.size)
  have hpa:=uc t2 es1 (SetTable.grown es1.size) hpl
  generalize hRl:relayAll t2 es1 (SetTable.grown es1.size)=Rl at hp hfr hle hpa ⊢
  obtain⟨es2,t3,gave2⟩:=Rl
  dsimp only at hp hfr hle hpa ⊢
  have hel2:ElemsOf (PySem.strKind prog w) es2.toList:=hel1.perm hp
  have hsz:es2.size=es1.size:=by rw[←Array.length_toList,hp.length_eq,Array.length_toList]
  refine wX (hg _ _ _ ?_)
  refine wX (wpAny_storeSet_of ho1 rfl ?_ (fits_of_scanBound (by rw[hsz,sz1];exact hb1)))
  have ho2:=pR ho1 rfl es2 t3
  exact wY (h _ (hsb1.trans (Heap.SameBut.update _ a _)) ⟨_,es2,_,t3,ho2,hex,rfl,hel2,(hp.map _).trans hp1,nd,hb1,hfr,hle.trans hl2,λ_=>hpa⟩)
 ·exact wY (h _ hsb1 ⟨_,es1,_,t2,ho1,hex,rfl,hel1,hp1,nd,hb1,hf2,hl2,λ_=>hpl⟩)
theorem wt {a:Addr}{ts:List Str}{k:Str}{tk:Tok}{Q:Bool->Shared->Prop}(hS:f9 prog w s.heap a ts) (hroom:ts.length+1<scanBound)
  (h:∀b h',Heap.SameBut a s.heap h'->f9 prog w h' a (eD ts k)->Q b { s with heap:=h' }) :
  wpAny (model prog w) A (setAddHashed a (.str k tk) ((PySem.strKind prog w).hash k)) Q E s:=by
 have hS0:=hS
 obtain⟨o,es,ep,t,ho,hex,hd,hel,hperm0,nd,hb,hf,hled,hpl⟩:=hS
 have hkey:(PySem.strKind prog w).is k (.str k tk)=true:=strKind_is prog w k tk
 have sz:es.size=ts.length:=by rw[←hperm0.length_eq,List.length_map,Array.length_toList]
 unfold setAddHashed setAddHashedIn
 refine wpAny_holding (wX (wpAny_setState_of ho hd hf ?_))
 dsimp only
 rw[byScan_of (x:=.str k tk) rfl (by rw[sz];exact hb) hel]
 simp only[↓reduceIte]
 unfold setAddByScan
 refine wX ?_
 refine wX (wpAny_rule ?_)
 refine wX (wpAny_setScan_of hkey ho hd hf hel ?_)
 cases hr:List.findIdx? (λe=>(PySem.strKind prog w).is k e.2) es.toList with
 | some j =>
  dsimp only
  obtain⟨hj,hpj,_⟩:=List.findIdx?_eq_some_iff_getElem.mp hr
  have hm:k∈ts:=(pQ hel hperm0 k).mpr ⟨es.toList[j],List.getElem_mem hj,hpj⟩
  refine wY (wY ?_)
  have e:eD ts k=ts:=by unfold eD;rw[if_pos hm]
  exact h false s.heap (Heap.SameBut.refl a s.heap) (by rw[e];exact hS0)
 | none =>
  dsimp only
  have hm:k∉ts:=λz=>by
   obtain⟨e,he,hp⟩:=(pQ hel hperm0 k).mp z
   have:=List.findIdx?_eq_none_iff.mp hr e he
   rw[hp]at this;exact Bool.noConfusion this
  have ea:eD ts k=ts++[k]:=by unfold eD;rw[if_neg hm]
  have hgw:∀(b:Bool) {s₁:Shared}{Q':Unit->Shared->Prop},Q' () s₁->wpAny (model prog w) A (match b with|true=>rule "set.scan.the-table-gave-way" | false=>pure ()) Q' E s₁ :=
   λb s₁ Q' hq=>by cases b<;>first|exact wY hq|exact wpAny_rule hq
  have hperm:=layNew_perm t es ((PySem.strKind prog w).hash k) (.str k tk)
  have hfits:=layNew_fits t es ((PySem.strKind prog w).hash k) (.str k tk)
  have hl1:=Cu t es ((PySem.strKind prog w).hash k) (.str k tk)
  generalize hL:layNew t es ((PySem.strKind prog w).hash k) (.str k tk)=L at hperm hfits hl1 ⊢
  obtain⟨es1,t1,wasDummy,gave⟩:=L
  dsimp only at hperm hfits hl1 ⊢
  rw[Array.toList_push]at hperm
  have hel1:ElemsOf (PySem.strKind prog w) es1.toList:=(hel.push hkey rfl).perm hperm
  have hp1:(es1.toList.map (λe=>strOf e.2)).Perm (ts++[k]):=(hperm.map _).trans (by rw[List.map_append];exact hperm0.append_right _)
  have nd1:(ts++[k]).Nodup:=by
   rw[List.nodup_append]
   refine⟨nd,by simp,λx hx y hy=>?_⟩
   rw[List.mem_singleton]at hy
   subst hy
   exact λz=>hm (z ▸ hx)
  have hb1:(ts++[k]).length<scanBound:=by rw[List.length_append];exact hroom
  refine wX (hgw _ ?_)
  have hend:∀h',Heap.SameBut a s.heap h'->f9 prog w h' a (ts++[k])->Q true { s with heap:=h' }:=λh' hsb hS'=>h true h' hsb (by rw[ea];exact hS')
  split
  ·refine wX ?_
   rw[hashByValue_scannable 8 (x:=.str k tk) rfl]
   refine wY ?_
   refine ue ?_ ho hex hd hel1 hp1 nd1 hb1 ?_ ?_ ?_ ?_
   ·intro b s₁ Q' hq;cases b<;>first|exact wY hq|exact wpAny_rule hq
   ·exact SetTable.fits_plain_off hfits
   ·exact hl1.trans hled
   ·rfl
   ·intro h' hsb hS';dsimp only;exact wY (hend h' hsb hS')
  ·rename_i hnp
   refine wX (wY ?_)
   simp only[↓reduceIte]
   refine ue ?_ ho hex hd hel1 hp1 nd1 hb1 hfits (hl1.trans hled) (by simpa using hnp) ?_
   ·intro b s₁ Q' hq;cases b<;>first|exact wY hq|exact wpAny_rule hq
   ·intro h' hsb hS';dsimp only;exact wY (hend h' hsb hS')
end
def dZ (ss:List Str):List Str:=ss.foldl eD []
theorem wu {ts:List Str}(h:ts.Nodup) (x:Str):(eD ts x).Nodup:=by
 unfold eD;split
 ·exact h
 ·rename_i hm
  rw[List.nodup_append]
  refine⟨h,by simp,λy hy z hz=>?_⟩
  rw[List.mem_singleton]at hz
  subst hz
  exact λe=>hm (e ▸ hy)
theorem mV {ts:List Str}{x y:Str}:y∈eD ts x↔y∈ts∨y=x:=by
 unfold eD;split
 ·rename_i hm;exact⟨.inl,λz=>z.elim id λe=>e ▸ hm⟩
 ·simp
theorem rQ (ss:List Str):∀ts:List Str,(ss.foldl eD ts).length<=ts.length+ss.length:=by
 induction ss with
 | nil=>intro ts;simp
 | cons x r ih=>intro ts;rw[List.foldl_cons];have:=ih (eD ts x);have:=A0 ts x;simp only[List.length_cons];omega
theorem jE (ss:List Str):(dZ ss).length<=ss.length:=by have:=rQ ss [];simpa [dZ]using this
theorem yY (ss:List Str) (x:Str):dZ (ss++[x])=eD (dZ ss) x:=by unfold dZ;rw[List.foldl_append];rfl
theorem StrsAre.at:∀ {vs:List Value}{ss:List Str},StrsAre vs ss->∀(i:Nat) (v:Value),vs[i]? = some v->∃x t,v=.str x t/\ss[i]? = some x
 | _,_,.nil,i,v,h=>by simp at h
 | _,_,.cons x t hr,0,v,h=>by simp at h;exact⟨x,t,h.symm,rfl⟩
 | _,_,.cons x t hr,i+1,v,h=>by
  simp only[List.getElem?_cons_succ]at h
  exact StrsAre.at hr i v h
theorem f9.at {prog:Program}{w:World}{h h':Heap}{a:Addr}{ts:List Str}(x:f9 prog w h a ts) (k:∀o,h.get? a=some o->h'.get? a=some o):f9 prog w h' a ts:=by
 obtain⟨o,es,ep,t,ho,r⟩:=x
 exact⟨o,es,ep,t,k o ho,r⟩
section
variable {prog:Program}{w:World}{A:Around}{R:Result->Shared->Prop}{I:Addr}{fp wr:List Addr}{G:Array GenState->Array GenState->Prop}{n:Nat}{P:Nat->Value->Prop}{St:Nat->Shared->Prop}
theorem rR (W:WalksS prog w A.in1 I fp wr G n P St) (S:Addr) (hSf:S∉fp) (ss:List Str) (hn:ss.length=n)
  (hval:∀i v,P i v->∃x t,v=.str x t/\ss[i]? = some x) (hb:n+1<scanBound) :
  ∀(k i:Nat) (s:Shared),n - i=k->i<=n->St i s->f9 prog w s.heap S (dZ (ss.take i)) ->
   (∀s',Moved (S::wr) G s s'->f9 prog w s'.heap S (dZ ss)->R (.ok (.ret .none)) s') ->
   codeAny (model prog w) A (.builtin "set.update.loop" ⟨[.ref S,.ref I],[]⟩) R s:=by
 have hSw:S∉wr:=λh=>hSf (W.sub _ h)
 have hsub:∀b∈wr,b∈S::wr:=λb hb=>mZ _ hb
 intro k
 induction k with
 | zero =>
  intro i s hk hi hst hS hR
  have hin:i=n:=by omega
  subst hin
  refine codeAny_builtin PyProof.Rows.F.entry_set_update_loop ?_
  rw[Around.under_plainId PyProof.Rows.F.plain_set_update_loop _]
  show wpAny _ A.in1 (pyNext (.ref I)>>=_) _ _ s
  refine wX (W.done s _ _ hst λs' hm=>?_)
  show wpAny _ A.in1 (ret Value.none) _ _ s'
  refine wY (hR s' (hm.mono hsub) ?_)
  rw[List.take_of_length_le (by omega)]at hS
  exact hS.at λo e=>hm.heap S _ hSw e
 | succ k ih =>
  intro i s hk hi hst hS hR
  have hlt:i<n:=by omega
  refine codeAny_builtin PyProof.Rows.F.entry_set_update_loop ?_
  rw[Around.under_plainId PyProof.Rows.F.plain_set_update_loop _]
  show wpAny _ A.in1 (pyNext (.ref I)>>=_) _ _ s
  refine wX (W.item i s _ _ hlt hst λv s' hP hst' hm=>?_)
  obtain⟨x,t,rfl,hx⟩:=hval i v hP
  have hS':f9 prog w s'.heap S (dZ (ss.take i)):=hS.at λo e=>hm.heap S _ hSw e
  show wpAny _ A.in1 (holding [Value.str x t] (setAdd S (.str x t))>>=_) _ _ s'
  refine wX (wpAny_holding ?_)
  unfold setAdd
  refine wpAny_holding ?_
  refine wX ((PySem.strKind prog w).pyHash (k:=x) (strKind_is prog w x t) ?_)
  have hl:(dZ (ss.take i)).length+1<scanBound:=by have:=jE (ss.take i);rw[List.length_take]at this;omega
  refine wt (s:={ s' with toks:=s'.toks+1 }) hS' hl λb h' hsb hS2=>?_
  have hS3:f9 prog w h' S (dZ (ss.take (i+1))):=by
   rw[List.take_add_one,hx,Option.toList_some,yY];exact hS2
  refine wY ⟨plainId_quiet PyProof.Rows.F.plain_set_update_loop _,ih (i+1) _ (by omega) hlt (W.frame _ s' _ _ hst' (Nat.le_succ _) λb hb o e=>?_) hS3 λs'' hm'' hS''=>?_⟩
  ·rw[hsb.2 b (λh:b=S=>hSf (by rw[←h];exact hb))];exact e
  ·refine hR s'' (Moved.trans W.gtrans ((hm.mono hsub).then_heap (Nat.le_succ _) λb o hb e=>?_) hm'') hS''
   rw[hsb.2 b (λh:b=S=>hb (by rw[h];exact mX))];exact e
end
section
variable {prog:Program}{w:World}{A:Around}{E:Value->Shared->Prop}{s:Shared}
abbrev da (w:World):Obj:={ cls:=.type "set",dict:=none,data:=.set #[] 0 (.fresh 0 0 (!w.params.followText "set-order")) }
theorem ug (a:Value) {Q₁:Value->Shared->Prop}
  (h:Q₁ (.ref s.heap.objs.size) { s with heap:=s.heap.push (da w) }) :
  codeAny (model prog w) A (.call (.builtin "set.__new__") ⟨[.type "set",a],[]⟩) (wants Q₁ E) s:=by
 refine codeAny_of_tree ?_
 show wpAny _ A.in1 (do checkBuiltinCall "set.__new__" ⟨[.type "set",a],[]⟩;again (.builtin "set.__new__" ⟨[.type "set",a],[]⟩)) _ _ s
 refine wX (wpAny_of_eq (PySem.F.newCall_set_1 a) (wY ⟨plainId_quiet PySem.F.plain_set_new _,codeAny_builtin PySem.F.entry_set_new ?_⟩))
 rw[Around.under_plainId PySem.F.plain_set_new _]
 unfold Builtin.«set.__new__» Builtin.Frozenset.newClass
 have hsub:=sub_set_self
 obtain⟨hp,g,d,tk,os⟩:=s
 dsimp only
 wp_walk
 refine wpAny_askSetting (wY ?_)
 dsimp only
 simp only[newObj]
 refine wX (wpAny_alloc (wY ?_))
 exact wY h
set_option maxHeartbeats 3200000 in
theorem mW {l:Addr}{items:Array Value}{ss:List Str}{Q:Value->Shared->Prop}
  (hh:A.handled=none) (hl:s.heap.IsList l items) (hi:StrsAre items.toList ss) (hb:items.size+1<scanBound)
  (h:∀(h':Heap) (tk:Nat),f9 prog w h' s.heap.objs.size (dZ ss) ->
   (∀b o,b<s.heap.objs.size->s.heap.get? b=some o->h'.get? b=some o)->Q (.ref s.heap.objs.size) { s with heap:=h',toks:=tk }) :
  wpAny (model prog w) A (call (.type "set") [.ref l]) Q E s:=by
 obtain⟨c,tl,hmro⟩:=PySem.F.called_set.mro
 have hmade:=PySem.F.called_set.made
 have hsub:=PySem.F.called_set.sub
 refine wpAny_call (codeAny_of_tree ?_)
 show wpAny _ _ (callAny (.type "set") _) _ _ _
 refine wY ⟨Code.quiet_builtin _ (by decide +kernel),codeAny_builtin PySem.F.entry_type_call ?_⟩
 rw[Around.under_plain (weight_type_call_type "set" [.ref l] []) rfl]
 have h1:=PySem.F.called_set.notType
 have h2:=PySem.F.called_set.canCreate
 have hct:=PySem.F.typeCall_set_1 (.ref l)
 have hlen:ss.length=items.size:=by have:=hi.strs;rw[←this,List.length_map,Array.length_toList]
 repeat (any_goals (first|assumption|wp_step))
 refine codeAny_mono (ug (.ref l) (E:=E) (Q₁:=λobj s₁=>obj=.ref s.heap.objs.size/\s₁={ s with heap:=s.heap.push (da w) }) ⟨rfl,rfl⟩) λr s₁ hr=>?_
 cases r with
 | error e=>exact hr
 | ok fl =>
  cases fl with
  | ret obj =>
   obtain⟨rfl,rfl⟩:=hr
   have hS:(s.heap.push (da w)).get? s.heap.objs.size=some (da w):=Heap.get?_push_size _ rfl
   have hT:Shared.TypeIs { s with heap:=s.heap.push (da w) } (.ref s.heap.objs.size) "set":=⟨_,hS,rfl⟩
   have hli:=PySem.F.called_set.init.lookup
   have hbi:=PySem.F.called_set.init.bind (.ref s.heap.objs.size)
   repeat (any_goals (first|assumption|wp_step))
   refine codeAny_mono (codeAny_call_builtin (R:=wants (λr s₂=>r=.none/\∃h' tk,s₂={ s with heap:=h',toks:=tk } /\
     f9 prog w h' s.heap.objs.size (dZ ss) /\
     (∀b o,b<s.heap.objs.size->s.heap.get? b=some o->h'.get? b=some o)) E) PySem.F.called_set.init.plain PySem.F.entry_set_init (check_set_init_1 hT ?_)) λr₂ s₂ hr₂=>?_
   ·obtain⟨ol,hol,hcl,nl,hdl⟩:=hl
    obtain⟨ocls,odict,odata,oslots⟩:=ol
    simp only at hcl hdl
    subst hcl;subst hdl
    have hol':(s.heap.push (da w)).get? l=some { cls:=.type "list",dict:=odict,data:=.seq items nl,slots:=oslots }:=Heap.get?_push_of_some _ hol
    have hsls:=PySem.F.sub_list_set
    have hslf:=PySem.F.sub_list_frozenset
    have hne:(Value.type "list" == Value.type "dict")=false:=by decide
    have hl1:(s.heap.push (da w)).IsList l items:=⟨_,hol',rfl,nl,rfl⟩
    unfold Builtin.«set.__init__» noKeywords Builtin.Frozenset.updateFrom
    generalize hPI:pyIter=PI
    wp_walk
    subst hPI
    refine wpAny_pyIter_list hl1 ?_
    refine wX (wpAny_runValue ?_)
    have hlS:l<s.heap.objs.size:=Heap.lt_size hol
    have hh3:A.in1.in1.in1.handled=none:=by simp[hh]
    have hneI:l≠(s.heap.push (da w)).objs.size:=by
     rw[Heap.size_push];exact Nat.ne_of_lt (Nat.lt_succ_of_lt hlS)
    have hSf:s.heap.objs.size∉[(s.heap.push (da w)).objs.size,l]:=by
     rw[Heap.size_push];simp only[List.mem_cons,List.mem_singleton,List.not_mem_nil,or_false,not_or]
     exact⟨Nat.ne_of_lt (Nat.lt_succ_self _),Nat.ne_of_gt hlS⟩
    have hval:∀(i:Nat) (v:Value),items[i]? = some v->∃x t,v=.str x t/\ss[i]? = some x:=λi v hv =>
     StrsAre.at hi i v (by rw[Array.getElem?_toList];exact hv)
    refine rR ((Walks.list hh3 _ l hneI items).toS) s.heap.objs.size
     hSf ss hlen hval hb (items.size - 0) 0 _ (by omega) (Nat.zero_le _)
     ⟨⟨_,Heap.get?_push_size _ rfl,rfl,rfl⟩,(hl1.push _)⟩ ?hS0 ?hR
    case hS0 =>
     have hget:((s.heap.push (da w)).push { cls:=.type "list_iterator",data:=.fields #[.ref l,.int 0 0] }).get? s.heap.objs.size
       = some (da w):=Heap.get?_push_of_some _ hS
     exact⟨_,#[],0,_,hget,⟨rfl,rfl,rfl⟩,rfl,λe he=>by simp at he,List.Perm.refl _,List.nodup_nil,(by show(0:Nat)<scanBound;decide),rfl,rfl,λz=>absurd rfl z⟩
    case hR =>
     intro s' hm hS'
     obtain⟨h',g',d',tk',os'⟩:=s'
     have eg:g'=s.gens:=hm.gens
     have ed:d'=s.drawn:=hm.drawn
     have eo:os'=s.os:=hm.os
     subst eg;subst ed;subst eo
     show wpAny _ _ _ _ _ _
     refine wY ?_
     show wpAny _ _ (ret Value.none) _ _ _
     refine wY ⟨rfl,h',tk',rfl,hS',λb o hb e=>?_⟩
     have hb1:b≠s.heap.objs.size:=Nat.ne_of_lt hb
     have hb2:b≠(s.heap.push (da w)).objs.size:=by
      rw[Heap.size_push];exact Nat.ne_of_lt (Nat.lt_succ_of_lt hb)
     exact hm.heap b o (by simp only[List.mem_cons,List.mem_singleton,List.not_mem_nil,or_false,not_or];exact⟨hb1,hb2⟩) (Heap.get?_push_of_some _ (Heap.get?_push_of_some _ e))
   ·cases r₂ with
    | error e=>exact hr₂
    | ok fl₂ =>
     cases fl₂ with
     | ret r =>
      obtain⟨rfl,h',tk,rfl,hS',hk'⟩:=hr₂
      repeat (any_goals (first|assumption|wp_step))
      exact h _ _ hS' hk'
     | _=>exact hr₂.elim
  | _=>exact hr.elim
end
open Sem (wp)
section
variable {M:Model}{A:Around}{E:Value->Shared->Prop}{s:Shared}
theorem Cv {src:Source}{n:Nat}{Q:Nat->Shared->Prop}(hn:n≠0) (h:∀k d,k<n->Q k { s with drawn:=d }):wpAny M A (choose src n) Q E s:=by
 intro Γ p hG
 unfold choose
 rw[Sem.wp_choose]
 refine⟨hn, ?_⟩
 have:=h _ (s.drawn.bump src) (Nat.mod_lt (M.w.draws src (s.drawn.get src)) (Nat.pos_of_ne_zero hn))
 simpa using this
end
theorem jF {α:Type}:∀(l:List α) (i:Nat),i<l.length->(l.eraseIdx i).length=l.length - 1:=λl i h=>by rw[List.length_eraseIdx,if_pos h]
theorem jg {α:Type}:∀(l:List α) (i:Nat) (x:α),l[i]? = some x->(x::l.eraseIdx i).Perm l
 | [],i,x,h=>by simp at h
 | a::l,0,x,h=>by simp at h;subst h;exact List.Perm.refl _
 | a::l,i+1,x,h=>by
  rw[List.eraseIdx_cons_succ]
  simp only[List.getElem?_cons_succ]at h
  exact(List.Perm.swap a x _).trans ((jg l i x h).cons a)
theorem xK {M:Model}{A:Around}{E:Value->Shared->Prop}{α:Type}:∀(n:Nat) (xs:List α) (s:Shared) (Q:List α->Shared->Prop),xs.length=n->(∀ys d,ys.Perm xs->Q ys { s with drawn:=d })->wpAny M A (drawOrder n xs) Q E s
 | 0,xs,s,Q,hl,h=>by
  have:xs=[]:=List.eq_nil_of_length_eq_zero hl
  subst this
  exact wY (h [] s.drawn (List.Perm.refl _))
 | n+1,[],s,Q,hl,h=>by simp at hl
 | n+1,x::r,s,Q,hl,h=>by
  show wpAny M A (choose .order (x::r).length>>=λi=>match (x::r)[i]? with
   | some x'=>(do return x'::(←drawOrder n ((x::r).eraseIdx i)))
   | none=>unsupported "internal:drawOrder") Q E s
  refine wX (Cv (by simp) λk d hk=>?_)
  obtain⟨y,hy⟩:∃y,(x::r)[k]? = some y:=⟨_,List.getElem?_eq_getElem hk⟩
  rw[hy]
  refine wX (xK n _ _ _ (by rw[jF _ _ hk,hl];rfl) λys d' hp=>wY (h _ _ ((hp.cons y).trans (jg _ _ _ hy))))
theorem xL {α:Type}(next:Nat->Nat):∀(fuel k:Nat) (left:List α) (out:Array α),left.length=fuel->(pickOrder.go next fuel k left out).toList.Perm (out.toList++left)
 | 0,k,left,out,hl=>by
  have:left=[]:=List.eq_nil_of_length_eq_zero hl
  subst this
  unfold pickOrder.go
  simp
 | fuel+1,k,left,out,hl=>by
  unfold pickOrder.go
  have hk:next k % left.length<left.length:=Nat.mod_lt _ (by omega)
  obtain⟨y,hy⟩:∃y,left[next k % left.length]? = some y:=⟨_,List.getElem?_eq_getElem hk⟩
  rw[hy]
  dsimp only
  refine(xL next fuel (k+1) _ _ (by rw[jF _ _ hk];omega)).trans ?_
  rw[Array.toList_push,List.append_assoc]
  exact(jg _ _ _ hy).append_left _
theorem yZ {α:Type}(next:Nat->Nat) (xs:Array α):(pickOrder next xs).toList.Perm xs.toList:=by
 have:=xL next xs.size 0 xs.toList #[] (by simp)
 simpa [pickOrder]using this
theorem bd:Slot "set_iterator" "__next__" "set_iterator.__next__" :=
 .of (owner:="set_iterator") (n:="__next__") (by rw[typeLookup_type,builtinLookup_eq_fast];kernel_rfl) (by decide +kernel) (by decide +kernel) (by decide +kernel)
  (by first|exact .inl (by decide +kernel)|exact .inr (by decide +kernel)) (by rw[isSubtype_type];kernel_rfl)
theorem dq:entryFor table "set_iterator.__next__" = some Builtin.«set_iterator.__next__»:=entryFor_of_tree (by kernel_rfl)
theorem dH (a:Value):argsOk "set_iterator.__next__" ⟨[a],[]⟩:=by unfold argsOk;kernel_rfl
theorem iM:Slot "set_iterator" "__iter__" "set_iterator.__iter__" :=
 .of (owner:="set_iterator") (n:="__iter__") (by rw[typeLookup_type,builtinLookup_eq_fast];kernel_rfl) (by decide +kernel) (by decide +kernel) (by decide +kernel)
  (by first|exact .inl (by decide +kernel)|exact .inr (by decide +kernel)) (by rw[isSubtype_type];kernel_rfl)
theorem ng:entryFor table "set_iterator.__iter__" = some Builtin.«dict_keyiterator.__iter__» :=
 entryFor_alias (id':="dict_keyiterator.__iter__") (by kernel_rfl) rfl (by decide +kernel) (by kernel_rfl)
theorem pq (a:Value):argsOk "set_iterator.__iter__" ⟨[a],[]⟩:=by unfold argsOk;kernel_rfl
theorem mh:entryFor table "set.__iter__" = some Builtin.«frozenset.__iter__» :=
 entryFor_alias (id':="frozenset.__iter__") (by kernel_rfl) rfl (by decide +kernel) (by kernel_rfl)
abbrev jh (fst:Value) (i:Nat) (S:Addr) (n ep:Nat):Obj:={ cls:=.type "set_iterator",data:=.fields #[fst,.int i 0,.ref S,.int n 0,.int ep 0] }
section
variable {prog:Program}{w:World}{A:Around}{E:Value->Shared->Prop}{s:Shared}{it S:Addr}{i ep:Nat}{o:Obj}{es:Array (Int×Value)}{t:SetTable}
theorem cH {fst:Value}{n:Nat}(ho:s.heap.get? it=some (jh fst i S n ep)):s.TypeIs (.ref it) "set_iterator":=⟨_,ho,rfl⟩
theorem rS {k k':Nat}{x:Value}{Q:Option Value->Shared->Prop}(ho:s.heap.get? it=some (jh (.int k 0) i S es.size ep))
  (hS:s.heap.get? S=some o) (hd:o.data=.set es ep t) (hf:t.fits es.size=true)
  (hN:∀(A':Around) (E':Value->Shared->Prop) (Q':Option (Value×Nat)->Shared->Prop),Q' (some (x,k')) s->wpAny (model prog w) A' (setNext S k i ep) Q' E' s)
  (hQ:∀h',h'.get? it=some (jh (.int k' 0) (i+1) S es.size ep)->Heap.SameBut it s.heap h'->Q (some x) { s with heap:=h' }) :
  wpAny (model prog w) A (pyNext (.ref it)) Q E s:=by
 unfold pyNext
 refine wX (wpAny_attempt (wpAny_callSpecial?_slot (name:=Str.ofString "__next__") (cH ho) bd
  (wpAny_call_entry bd (cH ho) dq ?_ (dH _))))
 show wpAny _ _ (fieldsOf (.ref it)>>=_) _ _ s
 refine wX (wpAny_fieldsOf ho rfl ?_)
 show wpAny _ _ (setEntries S>>=_) _ _ s
 refine wX (wpAny_setEntries_of hS hd hf ?_)
 rw[if_neg (by simp)]
 show wpAny _ _ (setNext S _ _ _>>=_) _ _ s
 simp only[Int.toNat_natCast]
 refine wX (hN _ _ _ ?_)
 dsimp only
 refine wX (wpAny_setField_rec ho (by simp) λh1 e1 b1=>?_)
 refine wX (wpAny_setField_rec e1 (by simp) λh2 e2 b2=>?_)
 exact wY ⟨x,rfl,wY (hQ h2 (by simpa [rawInt,jh]using e2) (b1.trans b2))⟩
theorem rT {k:Nat}{Q:Option Value->Shared->Prop}(hh:A.handled=none) (ho:s.heap.get? it=some (jh (.int k 0) i S es.size ep))
  (hS:s.heap.get? S=some o) (hd:o.data=.set es ep t) (hf:t.fits es.size=true)
  (hN:∀(A':Around) (E':Value->Shared->Prop) (Q':Option (Value×Nat)->Shared->Prop),Q' none s->wpAny (model prog w) A' (setNext S k i ep) Q' E' s)
  (hQ:∀h',Heap.ExtBut it s.heap h'->Q none { s with heap:=h' }) :
  wpAny (model prog w) A (pyNext (.ref it)) Q E s:=by
 unfold pyNext
 refine wX (wpAny_attempt (wpAny_callSpecial?_slot (name:=Str.ofString "__next__") (cH ho) bd
  (wpAny_call_entry bd (cH ho) dq ?_ (dH _))))
 show wpAny _ _ (fieldsOf (.ref it)>>=_) _ _ s
 refine wX (wpAny_fieldsOf ho rfl ?_)
 show wpAny _ _ (setEntries S>>=_) _ _ s
 refine wX (wpAny_setEntries_of hS hd hf ?_)
 rw[if_neg (by simp)]
 show wpAny _ _ (setNext S _ _ _>>=_) _ _ s
 simp only[Int.toNat_natCast]
 refine wX (hN _ _ _ ?_)
 dsimp only
 refine wX (wpAny_setField_rec ho (by simp) λh1 e1 b1=>?_)
 refine wX ?_
 simp only[newExc,newTuple]
 refine wX (wpAny_newObj_type ?_ (by size_fits))
 refine wX (m:=firstArgMember _ _) (wpAny_of_eq (a:=Value.none) (by first|rfl|(simp only[firstArgMember];rfl)) ?_)
 refine wpAny_newObj_type ?_ (by size_fits)
 simp only[raiseNew]
 refine wX (wpAny_handled ?_)
 rw[show A.in1.handled=none from hh]
 refine wX (wY (wpAny_throw ?_))
 refine wX (wpAny_isInstance (T:="StopIteration") (b:=true) ⟨_,Heap.get?_push_size _ rfl,rfl⟩ isSubtype_stop ?_)
 exact wY (hQ _ ((b1.extBut.push _).push _))
theorem pr {T:Addr}{pl:List Nat}{p:Nat}{x:Int×Value}{nt:Nat}{Q:Option Value->Shared->Prop}(ho:s.heap.get? it=some (jh (.ref T) i S es.size ep))
  (hT:s.heap.get? T=some (seqObj "tuple" (pl.map λ(p:Nat)=>Value.int p 0).toArray nt))
  (hS:s.heap.get? S=some o) (hd:o.data=.set es ep t) (hf:t.fits es.size=true) (hp:pl[i]? = some p) (hx:es[p]? = some x)
  (hQ:∀h',h'.get? it=some (jh (.ref T) (i+1) S es.size ep)->Heap.SameBut it s.heap h'->Q (some x.2) { s with heap:=h' }) :
  wpAny (model prog w) A (pyNext (.ref it)) Q E s:=by
 unfold pyNext
 refine wX (wpAny_attempt (wpAny_callSpecial?_slot (name:=Str.ofString "__next__") (cH ho) bd
  (wpAny_call_entry bd (cH ho) dq ?_ (dH _))))
 show wpAny _ _ (fieldsOf (.ref it)>>=_) _ _ s
 refine wX (wpAny_fieldsOf ho rfl ?_)
 show wpAny _ _ (setEntries S>>=_) _ _ s
 refine wX (wpAny_setEntries_of hS hd hf ?_)
 rw[if_neg (by simp)]
 show wpAny _ _ (seqItems? (.ref T)>>=_) _ _ s
 refine wX (wpAny_seqItems hT rfl ?_)
 have e1:(pl.map λ(p:Nat)=>Value.int p 0).toArray[(i:Int).toNat]? = some (.int p 0):=by simp[hp]
 dsimp only
 rw[e1]
 dsimp only
 have e2:wpAny (model prog w) A.in1 (setNextDrawn S (p:Int).toNat (ep:Int).toNat) (λy s'=>y=x.2/\s'=s) (λ_ _=>False) s:=by
  unfold setNextDrawn
  refine wX (wpAny_setState_of hS hd hf ?_)
  dsimp only
  rw[if_neg (by simp)]
  simp only[Int.toNat_natCast,hx]
  exact wY ⟨rfl,rfl⟩
 refine wX (wpAny_mono e2 (λy s' hy=>?_) λ_ _ z=>z.elim)
 obtain⟨rfl,rfl⟩:=hy
 refine wX (wpAny_setField_rec ho (by simp) λh1 e1 b1=>?_)
 exact wY ⟨_,rfl,wY (hQ h1 (by simpa [rawInt,jh]using e1) b1)⟩
theorem pv {T:Addr}{pl:List Nat}{nt:Nat}{Q:Option Value->Shared->Prop}(hh:A.handled=none) (ho:s.heap.get? it=some (jh (.ref T) i S es.size ep))
  (hT:s.heap.get? T=some (seqObj "tuple" (pl.map λ(p:Nat)=>Value.int p 0).toArray nt))
  (hS:s.heap.get? S=some o) (hd:o.data=.set es ep t) (hf:t.fits es.size=true) (hp:pl[i]? = none)
  (hQ:∀h',Heap.ExtBut it s.heap h'->Q none { s with heap:=h' }) :
  wpAny (model prog w) A (pyNext (.ref it)) Q E s:=by
 unfold pyNext
 refine wX (wpAny_attempt (wpAny_callSpecial?_slot (name:=Str.ofString "__next__") (cH ho) bd
  (wpAny_call_entry bd (cH ho) dq ?_ (dH _))))
 show wpAny _ _ (fieldsOf (.ref it)>>=_) _ _ s
 refine wX (wpAny_fieldsOf ho rfl ?_)
 show wpAny _ _ (setEntries S>>=_) _ _ s
 refine wX (wpAny_setEntries_of hS hd hf ?_)
 rw[if_neg (by simp)]
 show wpAny _ _ (seqItems? (.ref T)>>=_) _ _ s
 refine wX (wpAny_seqItems hT rfl ?_)
 have e1:(pl.map λ(p:Nat)=>Value.int p 0).toArray[(i:Int).toNat]? = none:=by simpa using hp
 dsimp only
 rw[e1]
 dsimp only
 refine wX (wpAny_setField_rec ho (by simp) λh0 e0 b0=>?_)
 refine wX (wpAny_setField_rec e0 (by simp) λh1 e1 b1=>?_)
 refine wX ?_
 simp only[newExc,newTuple]
 refine wX (wpAny_newObj_type ?_ (by size_fits))
 refine wX (m:=firstArgMember _ _) (wpAny_of_eq (a:=Value.none) (by first|rfl|(simp only[firstArgMember];rfl)) ?_)
 refine wpAny_newObj_type ?_ (by size_fits)
 simp only[raiseNew]
 refine wX (wpAny_handled ?_)
 rw[show A.in1.handled=none from hh]
 refine wX (wY (wpAny_throw ?_))
 refine wX (wpAny_isInstance (T:="StopIteration") (b:=true) ⟨_,Heap.get?_push_size _ rfl,rfl⟩ isSubtype_stop ?_)
 exact wY (hQ _ (((b0.trans b1).extBut.push _).push _))
theorem uh {fst:Value}{n:Nat}{Q:Value->Shared->Prop}(ho:s.heap.get? it=some (jh fst i S n ep)) (h:Q (.ref it) s):wpAny (model prog w) A (pyIter (.ref it)) Q E s:=by
 refine wpAny_pyIter_slot (cH ho) iM (wpAny_call_entry iM (cH ho) ng ?_ (pq _))
 show wpAny _ _ (ret (.ref it)) _ _ s
 exact wY ⟨_,rfl,"set_iterator",_,cH ho,bd.lookup,h⟩
end
section
variable {prog:Program}{w:World}{A:Around}{E:Value->Shared->Prop}{s:Shared}{it S:Addr}{i k ep:Nat}{o:Obj}{es:Array (Int×Value)}{t:SetTable}
theorem pT {Q:Option (Value×Nat)->Shared->Prop}(hS:s.heap.get? S=some o) (hd:o.data=.set es ep t) (hf:t.fits es.size=true) (hb:w.params.followText "set-order" = true)
  (h:Q (((pickOrder (w.params.setOrder S ep) es)[i]?).map λe=>(e.2,k)) s):wpAny (model prog w) A (setNext S k i ep) Q E s:=by
 unfold setNext
 refine wX (wpAny_setState_of hS hd hf ?_)
 dsimp only
 unfold setsByText
 refine wX (wX (wpAny_askSetting (wY ?_)))
 show wpAny _ _ (if w.params.followText "set-order" = true then _ else _) _ _ _
 rw[if_pos hb,if_neg (by simp)]
 unfold setWalk setsByText
 refine wX (wX (wpAny_setState_of hS hd hf ?_))
 dsimp only
 refine wX (wX (wpAny_askSetting (wY ?_)))
 show wpAny _ _ (if w.params.followText "set-order" = true then _ else _) _ _ _
 rw[if_pos hb]
 refine wX (wpAny_askSetting (wY ?_))
 exact wY h
theorem ni {Q:Option (Value×Nat)->Shared->Prop}(hS:s.heap.get? S=some o) (hd:o.data=.set es ep t) (hf:t.fits es.size=true) (hb:w.params.followText "set-order" = false) (hl:t.led=true) (hz:es.size<=1)
  (h:Q (match es[SetTable.below t.place k]?,t.place[SetTable.below t.place k]? with
   | some (_,x),some j=>some (x,j+1)
   | _,_=>none) s):wpAny (model prog w) A (setNext S k i ep) Q E s:=by
 unfold setNext
 refine wX (wpAny_setState_of hS hd hf ?_)
 dsimp only
 unfold setsByText
 refine wX (wX (wpAny_askSetting (wY ?_)))
 show wpAny _ _ (if w.params.followText "set-order" = true then _ else _) _ _ _
 rw[if_neg (by rw[hb];simp)]
 show wpAny _ _ (if(!t.plain && decide (es.size > 1))=true then _ else _) _ _ _
 rw[if_neg (by rw[decide_eq_false (by omega)];simp)]
 show wpAny _ _ ((if(!t.led && !es.isEmpty)=true then unsupported "set:maker-not-led" else pure ())>>=_) _ _ _
 rw[hl,if_neg (by simp)]
 refine wX (wY ?_)
 exact wY h
theorem pU (hh:A.handled=none) (hd:o.data=.set es ep t) (hf:t.fits es.size=true) (hne:S≠it) (vs:List Value) (hv:vs.length=es.size) (sl:Nat->Nat)
  (hN:∀i x,vs[i]? = some x->∀(A':Around) (E':Value->Shared->Prop) (s:Shared) (Q':Option (Value×Nat)->Shared->Prop),s.heap.get? S=some o->Q' (some (x,sl (i+1))) s->wpAny (model prog w) A' (setNext S (sl i) i ep) Q' E' s)
  (hE:∀(A':Around) (E':Value->Shared->Prop) (s:Shared) (Q':Option (Value×Nat)->Shared->Prop),s.heap.get? S=some o->Q' none s->wpAny (model prog w) A' (setNext S (sl es.size) es.size ep) Q' E' s) :
  Walks prog w A it [it,S] [it] es.size (λi v=>vs[i]? = some v) (λi h=>h.get? it=some (jh (.int (sl i) 0) i S es.size ep)/\h.get? S=some o) where
 sub:=λb hb=>by simp at hb;simp[hb]
 frame:=λ_ _ _ st hk=>⟨hk it (by simp) _ st.1,hk S (by simp) _ st.2⟩
 item:=λi s Q E hi st hQ=>by
  obtain⟨x,hx⟩:∃x,vs[i]? = some x:=⟨_,List.getElem?_eq_getElem (by omega)⟩
  refine rS st.1 st.2 hd hf (λA' E' Q' q=>hN i x hx A' E' s Q' st.2 q) λh' h1 h2=>?_
  exact hQ x h' s.toks hx ⟨h1,h2.extBut S _ hne st.2⟩ λb u hb e=>h2.extBut b u (λz=>hb (by simp[z])) e
 done:=λs Q E st hQ=>rT hh st.1 st.2 hd hf (λA' E' Q' q=>hE A' E' s Q' st.2 q) λh' h1=>hQ h' s.toks λb u hb e=>h1 b u (λz=>hb (by simp[z])) e
 self:=λ_ _ _ _ st hQ=>uh st.1 hQ
theorem wv {T:Addr}{pl:List Nat}{nt:Nat}(hh:A.handled=none) (hd:o.data=.set es ep t) (hf:t.fits es.size=true) (hne:S≠it) (hnT:T≠it) (hp:pl.Perm (List.range es.size)) :
  Walks prog w A it [it,S,T] [it] es.size (λi v=>(pl.map λp=>(es.getD p (0,.none)).2)[i]? = some v)
   (λi h=>h.get? it=some (jh (.ref T) i S es.size ep)/\h.get? S=some o/\h.get? T=some (seqObj "tuple" (pl.map λ(p:Nat)=>Value.int p 0).toArray nt)) where
 sub:=λb hb=>by simp at hb;simp[hb]
 frame:=λ_ _ _ st hk=>⟨hk it (by simp) _ st.1,hk S (by simp) _ st.2.1,hk T (by simp) _ st.2.2⟩
 item:=λi s Q E hi st hQ=>by
  have hlen:pl.length=es.size:=by rw[hp.length_eq,List.length_range]
  obtain⟨p,hx⟩:∃p,pl[i]? = some p:=⟨_,List.getElem?_eq_getElem (by omega)⟩
  have hpm:p<es.size:=List.mem_range.mp (hp.mem_iff.mp (List.mem_of_getElem? hx))
  have he:es[p]? = some (es.getD p (0,.none)):=by rw[Array.getD_eq_getD_getElem?,Array.getElem?_eq_getElem hpm];rfl
  refine pr st.1 st.2.2 st.2.1 hd hf hx he λh' h1 h2=>?_
  exact hQ _ h' s.toks (by simp[hx]) ⟨h1,h2.extBut S _ hne st.2.1,h2.extBut T _ hnT st.2.2⟩ λb u hb e=>h2.extBut b u (λz=>hb (by simp[z])) e
 done:=λs Q E st hQ=>by
  have hlen:pl.length=es.size:=by rw[hp.length_eq,List.length_range]
  exact pv hh st.1 st.2.2 st.2.1 hd hf (List.getElem?_eq_none (by omega)) λh' h1=>hQ h' s.toks λb u hb e=>h1 b u (λz=>hb (by simp[z])) e
 self:=λ_ _ _ _ st hQ=>uh st.1 hQ
end
theorem ww {α:Type}(es:Array α) (d:α):(List.range es.size).map (λp=>es.getD p d)=es.toList:=by
 apply List.ext_getElem?
 intro i
 by_cases h:i<es.size
 ·simp[h,Array.getD_eq_getD_getElem?]
 ·simp[h]
section
variable {prog:Program}{w:World}{A:Around}{E:Value->Shared->Prop}{s:Shared}
theorem pV {xs:Array Nat}{j k:Nat}(h:xs=#[j]):SetTable.below xs k=if j<k then 1 else 0:=by
 subst h
 by_cases h:j<k
 ·simp[SetTable.below,SetTable.below.go,h]
 ·simp[SetTable.below,SetTable.below.go,h]
theorem A1 {S:Addr}{ts:List Str}{Q:Value->Shared->Prop}(hS:f9 prog w s.heap S ts)
  (hQ:∀(h':Heap) (d:Drawn) (it:Addr) (vs:List Value) (fp:List Addr) (St:Nat->Heap->Prop),(∀A',A'.handled=none->Walks prog w A' it fp [it] ts.length (λi v=>vs[i]? = some v) St)->St 0 h' ->
   (∀b u,s.heap.get? b=some u->h'.get? b=some u)->s.heap.objs.size<=it->(∀b∈fp,b=S∨s.heap.objs.size<=b)->vs.length=ts.length->(vs.map strOf).Perm ts->(∀v∈vs,∃x t,v=.str x t) ->
   Q (.ref it) { s with heap:=h',drawn:=d }):wpAny (model prog w) A (pyIter (.ref S)) Q E s:=by
 obtain⟨o,es,ep,t,ho,hex,hd,hel,hp,nd,hb,hf,hled,hpl⟩:=hS
 have sz:es.size=ts.length:=by rw[←hp.length_eq,List.length_map,Array.length_toList]
 have hSlt:S<s.heap.objs.size:=Heap.lt_size ho
 have hTy:s.TypeIs (.ref S) "set":=⟨_,ho,hex.1⟩
 have hstrs:∀e∈es.toList,∃x t,e.2=.str x t:=λe he=>by
  obtain⟨⟨k,hk,_⟩,_⟩:=hel e he
  obtain⟨t,q⟩:=Value.isStrOf_shape (show Value.isStrOf k e.2=true from hk)
  exact⟨k,t,q⟩
 refine wpAny_pyIter_slot hTy PySem.F.slot_set_iter (wpAny_call_entry PySem.F.slot_set_iter hTy mh ?_ (PySem.F.args_set_iter_1 _))
 show wpAny _ _ (Builtin.Frozenset.sizeOf S>>=_) _ _ s
 unfold Builtin.Frozenset.sizeOf
 refine wX (wX (wpAny_setEntries_of ho hd hf (wY ?_)))
 unfold setDrawn setsByText
 refine wX (wX (wpAny_setState_of ho hd hf ?_))
 dsimp only
 refine wX (wX (wpAny_askSetting (wY (wY ?_))))
 show wpAny _ _ (if(!w.params.followText "set-order" && (!t.plain && decide (es.size > 1)))=true then _ else _) _ _ _
 have hmap:(es.toList.map (·.2)).map strOf=es.toList.map (λe=>strOf e.2):=by rw[List.map_map];rfl
 by_cases hbt:w.params.followText "set-order" = true
 ·rw[if_neg (by rw[hbt];simp)]
  refine wX (wY ?_)
  refine wX (wpAny_setEpoch_of ho hd hf ?_)
  have pp:=yZ (w.params.setOrder S ep) es
  have hlen:((pickOrder (w.params.setOrder S ep) es).toList.map (·.2)).length=es.size:=by rw[List.length_map,pp.length_eq,Array.length_toList]
  refine wX (wpAny_newObj_type (wY ⟨_,rfl,"set_iterator",_,⟨_,Heap.get?_push_size _ rfl,rfl⟩,bd.lookup, ?_⟩))
  refine hQ _ s.drawn s.heap.objs.size ((pickOrder (w.params.setOrder S ep) es).toList.map (·.2)) [s.heap.objs.size,S] (λi h=>h.get? s.heap.objs.size=some (jh (.int ((λ_=>0:Nat->Nat) i:Nat) 0) i S es.size ep)/\h.get? S=some o) (λA' hA=>?_) ?_ (λb u e=>Heap.get?_push_of_some _ e) (Nat.le_refl _) (λb hb=>?_) (hlen.trans sz) ?_ ?_
  ·rw[←sz]
   exact pU hA hd hf (Nat.ne_of_lt hSlt) _ hlen (λ_=>0) (λi x hx A' E' s Q' h1 h2=>pT h1 hd hf hbt (by
    rw[List.getElem?_map,Array.getElem?_toList]at hx
    obtain⟨e,he,rfl⟩:=oY hx
    rw[he];exact h2)) (λA' E' s Q' h1 h2=>pT h1 hd hf hbt (by
    rw[Array.getElem?_eq_none (by rw[←Array.length_toList,pp.length_eq,Array.length_toList];exact Nat.le_refl _)];exact h2))
  ·exact⟨Heap.get?_push_size _ rfl,Heap.get?_push_of_some _ ho⟩
  ·simp only[List.mem_cons,List.not_mem_nil,or_false]at hb
   rcases hb with rfl|rfl
   ·exact .inr (Nat.le_refl _)
   ·exact .inl rfl
  ·refine List.Perm.trans ?_ hp
   rw[←hmap]
   exact(pp.map _).map _
  ·intro v hv
   obtain⟨e,he,rfl⟩:=List.mem_map.mp hv
   exact hstrs e (pp.mem_iff.mp he)
 ·rw[Bool.not_eq_true]at hbt
  have hl:t.led=true:=by rw[hled,hbt];rfl
  by_cases h1:es.size<=1
  ·rw[if_neg (by rw[decide_eq_false (by omega)];simp)]
   refine wX (wY ?_)
   refine wX (wpAny_setEpoch_of ho hd hf ?_)
   refine wX (wpAny_newObj_type (wY ⟨_,rfl,"set_iterator",_,⟨_,Heap.get?_push_size _ rfl,rfl⟩,bd.lookup, ?_⟩))
   have hpz:t.place.size=es.size:=by
    simp only[SetTable.fits,Bool.and_eq_true,beq_iff_eq,decide_eq_true_eq]at hf
    exact hf.1
   refine hQ _ s.drawn s.heap.objs.size (es.toList.map (·.2)) [s.heap.objs.size,S] (λi h=>h.get? s.heap.objs.size=some (jh (.int ((λi=>if i=0 then 0 else t.place.getD 0 0+1:Nat->Nat) i:Nat) 0) i S es.size ep)/\h.get? S=some o) (λA' hA=>?_) ?_ (λb u e=>Heap.get?_push_of_some _ e) (Nat.le_refl _) (λb hb=>?_) (by rw[List.length_map,Array.length_toList,sz]) (by rw[hmap];exact hp) ?_
   ·rw[←sz]
    refine pU hA hd hf (Nat.ne_of_lt hSlt) _ (by simp) (λi=>if i=0 then 0 else t.place.getD 0 0+1) (λi x hx A' E' s Q' q1 q2=>ni q1 hd hf hbt hl h1 ?_) (λA' E' s Q' q1 q2=>ni q1 hd hf hbt hl h1 ?_)
    ·have hi:i<es.size:=by have:=(List.getElem?_eq_some_iff.mp hx).1;simpa using this
     have hi0:i=0:=by omega
     subst hi0
     obtain⟨j,hj⟩:∃j,t.place=#[j]:=Array.size_eq_one_iff.mp (by omega)
     rw[if_pos rfl,pV hj,if_neg (by omega)]
     rw[List.getElem?_map,Array.getElem?_toList]at hx
     obtain⟨e,he,rfl⟩:=oY hx
     rw[he]
     simp only[hj]at q2 ⊢
     simpa using q2
    ·by_cases h0:es.size=0
     ·have hp0:t.place=#[]:=Array.eq_empty_of_size_eq_zero (by omega)
      have he0:es=#[]:=Array.eq_empty_of_size_eq_zero h0
      rw[hp0,he0]
      simpa using q2
     ·obtain⟨j,hj⟩:∃j,t.place=#[j]:=Array.size_eq_one_iff.mp (by omega)
      rw[if_neg h0,pV hj]
      have:t.place.getD 0 0=j:=by rw[hj];rfl
      rw[this,if_pos (by omega),Array.getElem?_eq_none (by omega)]
      exact q2
   ·exact⟨Heap.get?_push_size _ rfl,Heap.get?_push_of_some _ ho⟩
   ·simp only[List.mem_cons,List.not_mem_nil,or_false]at hb
    rcases hb with rfl|rfl
    ·exact .inr (Nat.le_refl _)
    ·exact .inl rfl
   ·intro v hv
    obtain⟨e,he,rfl⟩:=List.mem_map.mp hv
    exact hstrs e he
  ·have hp0:t.plain=false:=hpl (by omega)
   rw[if_pos (by rw[hbt,hp0,decide_eq_true (by omega)];rfl)]
   refine wX (xK es.size (List.range es.size) _ _ (by simp) λpl d pp=>?_)
   refine wX (wpAny_newTuple ?_ (by rw[List.length_map,pp.length_eq,List.length_range,sz];exact fits_of_scanBound hb))
   refine wX (wpAny_setEpoch_of (Heap.get?_push_of_some _ ho) hd hf ?_)
   refine wX (wpAny_newObj_type (wY ⟨_,rfl,"set_iterator",_,⟨_,Heap.get?_push_size _ rfl,rfl⟩,bd.lookup, ?_⟩))
   have hsz:(s.heap.push (seqObj "tuple" (pl.map λ(p:Nat)=>Value.int p 0).toArray 0)).objs.size=s.heap.objs.size+1:=size_push' _ _
   have hperm:((pl.map λp=>(es.getD p (0,.none)).2)).Perm (es.toList.map (·.2)):=by
    have:=(pp.map λp=>es.getD p (0,Value.none)).map (·.2)
    rw[ww]at this
    rw[List.map_map]at this
    exact this
   refine hQ _ d _ (pl.map λp=>(es.getD p (0,.none)).2) [(s.heap.push (seqObj "tuple" (pl.map λ(p:Nat)=>Value.int p 0).toArray 0)).objs.size,S,s.heap.objs.size] (λi h=>h.get? (s.heap.push (seqObj "tuple" (pl.map λ(p:Nat)=>Value.int p 0).toArray 0)).objs.size=some (jh (.ref s.heap.objs.size) i S es.size ep)/\h.get? S=some o/\h.get? s.heap.objs.size=some (seqObj "tuple" (pl.map λ(p:Nat)=>Value.int p 0).toArray 0)) (λA' hA=>?_) ?_ (λb u e=>Heap.get?_push_of_some _ (Heap.get?_push_of_some _ e)) ?_ (λb hb=>?_) ?_ ?_ ?_
   ·rw[←sz]
    exact wv (nt:=0) hA hd hf (by show S≠(s.heap.push _).objs.size;rw[size_push'];exact Nat.ne_of_lt (Nat.lt_succ_of_lt hSlt)) (by show s.heap.objs.size≠(s.heap.push _).objs.size;rw[size_push'];exact Nat.ne_of_lt (Nat.lt_succ_self _)) pp
   ·exact⟨Heap.get?_push_size _ rfl,Heap.get?_push_of_some _ (Heap.get?_push_of_some _ ho),Heap.get?_push_of_some _ (Heap.get?_push_size _ rfl)⟩
   ·show s.heap.objs.size<=(s.heap.push _).objs.size
    rw[size_push'];omega
   ·simp only[List.mem_cons,List.not_mem_nil,or_false]at hb
    rcases hb with rfl|rfl|rfl
    ·refine .inr ?_
     show s.heap.objs.size<=(s.heap.push _).objs.size
     rw[size_push'];omega
    ·exact .inl rfl
    ·exact .inr (Nat.le_refl _)
   ·rw[hperm.length_eq,List.length_map,Array.length_toList,sz]
   ·exact((hperm.map strOf).trans (by rw[hmap])).trans hp
   ·intro v hv
    obtain⟨e,he,rfl⟩:=List.mem_map.mp (hperm.mem_iff.mp hv)
    exact hstrs e he
end
theorem za {vs:List Value}{acc:Array Value}(h:ItemsOf (λi v=>vs[i]? = some v) acc vs.length):acc.toList=vs:=by
 apply List.ext_getElem?
 intro i
 by_cases hi:i<acc.size
 ·have e:acc[i]? = some acc[i]:=Array.getElem?_eq_getElem hi
  rw[Array.getElem?_toList,e,h.2 i _ e]
 ·rw[List.getElem?_eq_none (by rw[Array.length_toList];omega),List.getElem?_eq_none (by rw[←h.1];omega)]
section
variable {prog:Program}{w:World}{A:Around}{E:Value->Shared->Prop}{s:Shared}
theorem ui {S:Addr}{ts:List Str}{Q:List Value->Shared->Prop}(hh:A.handled=none) (hS:f9 prog w s.heap S ts)
  (hQ:∀s' vs,(∀b u,s.heap.get? b=some u->s'.heap.get? b=some u)->s'.gens=s.gens->s'.os=s.os->vs.length=ts.length->(vs.map strOf).Perm ts->(∀v∈vs,∃x t,v=.str x t)->Q vs s') :
  wpAny (model prog w) A (collect (.ref S)) Q E s:=by
 have hty:∀(s1:Shared),f9 prog w s1.heap S ts->s1.TypeIs (.ref S) "set":=λs1 h=>by
  obtain⟨o,_,_,_,ho,hex,_⟩:=h
  exact⟨o,ho,hex.1⟩
 have hlt:S<s.heap.objs.size:=by obtain⟨o,_,_,_,ho,_⟩:=hS;exact Heap.lt_size ho
 have hscan:ts.length<scanBound:=by obtain⟨_,_,_,_,_,_,_,_,_,_,h,_⟩:=hS;exact h
 unfold collect
 refine wX (wpAny_runValue (codeAny_builtin PySem.F.entry_proto_collect ?_))
 rw[Around.under_plainId PySem.F.plain_proto_collect _]
 show wpAny _ A.in1 (newList []>>=λl=>again (.builtin "list.__iadd__" ⟨[l,.ref S],[]⟩)) _ _ s
 refine wX (wpAny_newObj_type ?_)
 refine wY ⟨plainId_quiet PySem.F.plain_list_iadd _,codeAny_builtin PySem.F.entry_list_iadd ?_⟩
 rw[Around.under_plainId PySem.F.plain_list_iadd _]
 show wpAny _ A.in1 (Builtin.List.listExtendWith (.ref s.heap.objs.size) (.ref S) (.ref s.heap.objs.size)) _ _ _
 unfold Builtin.List.listExtendWith
 have hS1:f9 prog w (s.heap.push { cls:=.type "list",data:=.seq ([]:List Value).toArray }) S ts:=hS.at λo e=>Heap.get?_push_of_some _ e
 refine wX (wpAny_typeOf (hty _ hS1) ?_)
 have hSI:s.heap.objs.size≠S:=Nat.ne_of_gt hlt
 have h1:Builtin.List.listSameRef (.ref s.heap.objs.size) (.ref S)=false:=by simp[Builtin.List.listSameRef,hSI]
 have h2:(Value.type "set" == Value.type "list")=false:=by decide
 have h3:(Value.type "set" == Value.type "tuple")=false:=by decide
 simp only[h1,h2,h3,Bool.or_false,Bool.false_eq_true,if_false]
 refine wX (A1 (s:={ s with heap:=s.heap.push { cls:=.type "list",data:=.seq ([]:List Value).toArray } }) hS1 λh' d it vs fp St W hst hk hit hfp hvl hperm hstr=>?_)
 have hS2:f9 prog w h' S ts:=hS1.at λo e=>hk _ _ e
 refine wX (wpAny_holding ?_)
 unfold Builtin.List.listLengthHint
 refine wX (wpAny_specialOf (hty _ hS2) PySem.F.slot_set_len.lookup ?_)
 wp_delta
 refine wX (wpAny_isInstance (hty _ hS2) sub_set_self ?_)
 show wpAny _ A.in1 (typeOf (Value.ref S)>>=_) _ _ _
 refine wX (wpAny_typeOf (hty _ hS2) ?_)
 refine wY ?_
 rw[if_pos (by decide)]
 refine wX (wpAny_rule ?_)
 refine wX ?_
 have hsz0:(s.heap.push { cls:=.type "list",data:=.seq ([]:List Value).toArray }).objs.size=s.heap.objs.size+1:=size_push' _ _
 have hL1:h'.get? s.heap.objs.size=some { cls:=.type "list",data:=.seq ([]:List Value).toArray }:=hk _ _ (Heap.get?_push_size _ rfl)
 show wpAny _ A.in1 (updateSeq s.heap.objs.size (·.push .none)>>=λ_=>updateSeq s.heap.objs.size (·.pop)) _ _ _
 refine wX (wpAny_updateSeq hL1 rfl ?_)
 have hL2:=Heap.get?_update_self (Obj.mapSeq (·.push Value.none)) hL1 rfl
 refine wpAny_updateSeq hL2 rfl ?_
 have hL3:=Heap.get?_update_self (Obj.mapSeq (·.pop)) hL2 rfl
 have hSf:s.heap.objs.size∉fp:=λhm=>by
  rcases hfp _ hm with z|z
  ·exact hSI z
  ·rw[hsz0]at z;exact absurd z (Nat.not_succ_le_self _)
 have oth:∀b u,b≠s.heap.objs.size->h'.get? b=some u ->
   ((h'.update s.heap.objs.size (Obj.mapSeq (·.push Value.none))).update s.heap.objs.size (Obj.mapSeq (·.pop))).get? b=some u :=
  λb u hb e=>(Heap.get?_update_other _ _ (Ne.symm hb)).trans ((Heap.get?_update_other _ _ (Ne.symm hb)).trans e)
 have W0:=W A.in1 hh
 refine wY ⟨plainId_quiet PySem.F.plain_extend_loop _,codeAny_extend_loopS W0.toS (fits_of_scanBound hscan) _ hSf _ ts.length 0 _ _ _ rfl (Nat.zero_le _)
  (W0.frame 0 _ _ hst λb hb u e=>oth b u (λz=>hSf (z ▸ hb)) e) hL3 (ItemsOf.nil _) λs' acc' c' hm hL' hacc=>?_⟩
 show wpAny _ A (load s.heap.objs.size>>=_) _ _ s'
 refine wX (wpAny_load hL' ?_)
 rw[←hvl]at hacc
 refine wY ?_
 show Q acc'.toList s'
 rw[za hacc]
 refine hQ s' vs (λb u e=>hm.heap b u (λhb=>?_) (oth b u (Nat.ne_of_lt (Heap.lt_size e)) (hk _ _ (Heap.get?_push_of_some _ e)))) hm.gens hm.os hvl hperm hstr
 have hl:=Heap.lt_size e
 simp only[List.mem_cons,List.not_mem_nil,or_false]at hb
 rcases hb with rfl|rfl
 ·exact absurd hl (Nat.lt_irrefl _)
 ·rw[hsz0]at hit;exact absurd (Nat.lt_of_lt_of_le hl (Nat.le_of_succ_le hit)) (Nat.lt_irrefl _)
theorem wx {S:Addr}{ts:List Str}{Q:Value->Shared->Prop}(hh:A.handled=none) (hS:f9 prog w s.heap S ts) (h64:ts.length<64)
  (hQ:∀(s1:Shared) (h':Heap) (a:Addr) (out:Array Value) (n:Nat) (ss':List Str),(∀b u,s.heap.get? b=some u->s1.heap.get? b=some u)->s1.os=s.os->s1.gens=s.gens->(∀b u,s1.heap.get? b=some u->h'.get? b=some u)->s1.heap.objs.size<=a->h'.get? a=some (seqObj "list" out n) ->
   StrsAre out.toList ss'->ss'.Perm ts->sortedS ss'=true->Q (.ref a) { s1 with heap:=h' }) :
  wpAny (model prog w) A (call (.builtin "sorted") [.ref S]) Q E s:=by
 refine Calls.call_function_entry kind_sorted plain_sorted entry_sorted (args_sorted1 _) ?_
 unfold Builtin.«sorted»
 refine wX (m:=checkCount "sorted" 1 1 _) (wY ?_)
 refine wX (ui (A:=A.in1) (by exact hh) hS λs1 vs hk hg hos hvl hperm hstr=>?_)
 have hst:StrsAre vs (vs.map strOf):=strsAre_map vs hstr
 refine wX (wpAny_newList ?_ (by rw[hvl,sizeLine_eq];omega))
 have hoL:(s1.heap.push (seqObj "list" vs.toArray 0)).get? s1.heap.objs.size=some (seqObj "list" vs.toArray 0):=Heap.get?_push_size _ rfl
 show wpAny _ _ _ _ _ { s1 with heap:=s1.heap.push (seqObj "list" vs.toArray 0) }
 refine wX (wpAny_holding (wpAny_call_entry slot_list_sort ⟨_,hoL,rfl⟩ entry_list_sort (list_sort_treeK strKind_oneLt hoL hst.keysOf (λv₁ v₂ a0 e=>keyKind_strs (by rw[←e];exact hst)) (by rw[hvl];exact h64) λst' a1 a2=>⟨_,rfl, ?_⟩) (args_list_sort _)))
 obtain⟨ss',b1,b2,b3⟩:=sorted_out_str hst a1 a2
 obtain⟨e,he⟩:=sortedHeap_at (out:=(arrOf st').map (·.2)) hoL
 refine wY ⟨_,rfl,hQ s1 _ _ _ e ss' hk hos hg (λb u q=>?_) (Nat.le_refl _) he b1 (b2.trans hperm) b3⟩
 have hl:=Heap.lt_size q
 rw[sortedHeap_old (Nat.ne_of_lt hl) (by rw[size_push'];exact Nat.lt_succ_of_lt hl)]
 exact Heap.get?_push_of_some _ q
end
end DL
namespace DL
open PySem PySem.Spec PyProof.Rows L2
def leT (a b:Str):Prop:=¬b.cps.toList<a.cps.toList
theorem xM {a b:Str}:ltCps b.cps.toList a.cps.toList=false↔leT a b:=by rw[ltCps_eq,decide_eq_false_iff_not];rfl
theorem pW {a b c:Str}(h:leT a b) (k:leT b c):leT a c:=by
 unfold leT at *
 exact List.not_lt.mpr (List.le_trans (List.not_lt.mp h) (List.not_lt.mp k))
theorem uj {a b:Str}(h:leT a b) (k:leT b a):a=b:=by
 have e:a.cps.toList=b.cps.toList:=List.le_antisymm (List.not_lt.mp h) (List.not_lt.mp k)
 obtain⟨a⟩:=a;obtain⟨b⟩:=b
 have:a=b:=Array.toList_inj.mp e
 rw[this]
def kF (x:Str):List Str->List Str
 | []=>[x]
 | y::r=>if ltCps y.cps.toList x.cps.toList then y::kF x r else x::y::r
def cX (l:List Str):List Str:=l.foldr kF []
theorem kG (x:Str):∀l,(kF x l).Perm (x::l)
 | []=>List.Perm.refl _
 | y::r=>by
  unfold kF
  split
  ·exact((kG x r).cons y).trans (List.Perm.swap x y r)
  ·exact List.Perm.refl _
theorem bi:∀l,(cX l).Perm l
 | []=>List.Perm.refl _
 | x::l=>(kG x (cX l)).trans ((bi l).cons x)
theorem pX (x:Str):∀l,l.Pairwise leT->(kF x l).Pairwise leT
 | [],_=>by simp[kF]
 | y::r,h=>by
  obtain⟨h1,h2⟩:=List.pairwise_cons.mp h
  unfold kF
  split
  ·rename_i hl
   refine List.pairwise_cons.mpr ⟨λz hz=>?_,pX x r h2⟩
   rcases List.mem_cons.mp ((kG x r).mem_iff.mp hz)with rfl|hz
   ·rw[ltCps_eq,decide_eq_true_eq]at hl
    exact λk=>List.lt_irrefl _ (List.lt_trans hl k)
   ·exact h1 z hz
  ·rename_i hl
   rw[Bool.not_eq_true]at hl
   have hxy:leT x y:=xM.mp hl
   refine List.pairwise_cons.mpr ⟨λz hz=>?_,h⟩
   rcases List.mem_cons.mp hz with rfl|hz
   ·exact hxy
   ·exact pW hxy (h1 z hz)
theorem gf:∀l,(cX l).Pairwise leT
 | []=>List.Pairwise.nil
 | x::l=>pX x _ (gf l)
theorem lE:∀(l:List Str) (p:Str),risingS p l=true->(p::l).Pairwise leT
 | [],p,_=>List.pairwise_singleton _ _
 | x::r,p,h=>by
  have h':(!ltCps x.cps.toList p.cps.toList && risingS x r)=true:=h
  rw[Bool.and_eq_true]at h'
  have hpx:leT p x:=xM.mp (by simpa using h'.1)
  have ih:=lE r x h'.2
  refine List.pairwise_cons.mpr ⟨λz hz=>?_,ih⟩
  rcases List.mem_cons.mp hz with rfl|hz
  ·exact hpx
  ·exact pW hpx ((List.pairwise_cons.mp ih).1 z hz)
theorem ul:∀(l:List Str),sortedS l=true->l.Pairwise leT
 | [],_=>List.Pairwise.nil
 | x::r,h=>lE r x h
theorem um (a:Str):leT a a:=List.lt_irrefl _
theorem nj:∀(l1 l2:List Str),l1.Perm l2->l1.Pairwise leT->l2.Pairwise leT->l1=l2
 | [],l2,p,_,_=>(List.nil_perm.mp p).symm
 | x::r1,[],p,_,_=>absurd p.length_eq (by simp)
 | x::r1,y::r2,p,h1,h2=>by
  have hxy:leT x y:=by
   rcases List.mem_cons.mp (p.mem_iff.mpr (mX ..))with z|z
   ·rw[z];exact um _
   ·exact(List.pairwise_cons.mp h1).1 y z
  have hyx:leT y x:=by
   rcases List.mem_cons.mp (p.mem_iff.mp (mX ..))with z|z
   ·rw[z];exact um _
   ·exact(List.pairwise_cons.mp h2).1 x z
  have e:=uj hxy hyx
  subst e
  rw[nj r1 r2 (List.Perm.cons_inv p) (List.pairwise_cons.mp h1).2 (List.pairwise_cons.mp h2).2]
theorem pY {l l':List Str}(p:l'.Perm l) (h:sortedS l'=true):l'=cX l:=nj _ _ (p.trans (bi l).symm) (ul _ h) (gf l)
section
variable {X:Cx}
def A2 (X:Cx) (S:Addr) (ts:List Str):HO:=.ext λh=>f9 X.prog X.w h S ts
theorem zc {pins:List (Addr×Obj)}{σ:St}{H:Hp}{s s1:Shared}(I:Inv X pins σ H s) (k:∀b u,s.heap.get? b=some u->s1.heap.get? b=some u) (ho:s1.os=s.os) (hg:s1.gens=s.gens):Inv X pins σ H s1:=by
 have I1:=I.step (g':=s.gens) (d':=s1.drawn) (t':=s1.toks) (h':=s1.heap) (H':=H) (ch:=[]) (λ_ z=>nomatch z) (λb o _ _ _ e _=>k b o e) (λb o _ _ _ e _=>⟨o.slots,k b o e⟩) (λ_ _ _ _ n=>n)
  (λb o _ e=>⟨o,k b o e⟩) (λ_ _ e=>e) (λ_ _ _ e=>e) (λ_ _ e=>e) (λm hm=>?_) (I.hok.kept k) I.bare
 ·obtain⟨h1,g1,d1,t1,o1⟩:=s1
  cases ho;cases hg
  exact I1
 ·obtain⟨o,es,ep,ho,r⟩:=hm
  exact⟨o,es,ep,k _ o ho,r⟩
theorem uo (hc:X.calm=true):cf X (.type "set") (λxs H Q=>∃p ys ss,xs=[.ref p]/\SqL X.K H p ys/\(∀its,aP ys its->StrsAre its ss)/\ss.length<4000/\∀S,H S=none->Q (.ref S) (upd H S (A2 X S (dZ ss)))):=by
 intro pins s σ H xs us Q I r h
 obtain⟨p,ys,ss,rfl,hq,hs,h64,q⟩:=h
 obtain⟨u,rfl,rx⟩:=jz r
 cases rx
 obtain⟨its,r',pl,hz⟩:=I.list hq
 have hst:=hs its r'
 have hlen:its.length=ss.length:=by rw[←hst.strs,List.length_map]
 refine mW (I.ok.hd hc) pl.isList (by simpa using hst) (by simp only[List.size_toArray];unfold scanBound;omega) λh' tk hS hk=>?_
 refine⟨.ref s.heap.objs.size,_,I.laid (t':=tk) (λb u e=>hk b u (Heap.lt_size e) e) (Nat.le_refl _) ?_,rfl,q _ (I.hok.fresh (Nat.le_refl _))⟩
 refine⟨hS, ?_,λh1 h2 z k=>z.at k⟩
 obtain⟨o,_,_,_,ho,_⟩:=hS
 exact⟨o,ho⟩
theorem ml (hc:X.calm=true):cf X (.builtin "sorted") (λxs H Q=>∃S ts,xs=[.ref S]/\H S=some (A2 X S ts)/\ts.length<64/\∀l,H l=none->Q (.ref l) (upd H l (.lst ((cX ts).map .str)))):=by
 intro pins s σ H xs us Q I r h
 obtain⟨S,ts,rfl,hS,h64,q⟩:=h
 obtain⟨u,rfl,rx⟩:=jz r
 cases rx
 have hT:f9 X.prog X.w s.heap S ts:=(I.hok S _ hS).1
 refine wx (I.ok.hd hc) hT h64 λs1 h' a out n ss' k1 ho hg k2 hp he hst hperm hso=>?_
 have e:=pY hperm hso
 subst e
 have I1:=zc I k1 ho hg
 have hv:∀ {its:List Value}{zs:List Str},StrsAre its zs->aP (zs.map V.str) its:=λz=>by
  induction z with
  | nil=>exact .nil
  | cons x t _ ih=>exact .cons ⟨t,rfl⟩ ih
 refine⟨.ref a,_,I1.laid (t':=s1.toks) k2 hp (show bH X.prog X.w _ h' _ (.lst _)from ⟨?_,out.toList,n,hv hst,he⟩),rfl,q _ (I1.hok.fresh hp)⟩
 rw[List.length_map,(bi ts).length_eq,sizeLine_eq];omega
end
@[simp] def dQ:D->Option (D×Bool)
 | .lst ds=>(eN ds).bind λss=>if ss.length<64 then some (.lst ((cX (dZ ss)).map .str),true)else none
 | _=>none
@[simp] def GU:D->Option (D×Bool)
 | .lst ds=>(eN ds).bind λss=>if ss.length<4000 then some (.int ((dZ ss).length:Nat),false)else none
 | _=>none
theorem uq:bootBuiltins "sorted" = some (.builtin "sorted"):=by decide +kernel
theorem GG:bootBuiltins "set" = some (.type "set"):=by decide +kernel
theorem jG {K:PySem.W.Frag}{N:Hp}:∀(zs:List Str),IsL K N (zs.map V.str) (zs.map D.str)
 | []=>.nil
 | z::zs=>.cons (.str z) (jG zs)
section
variable {X:Cx}{e:Expr}{pos pos2 p p2:Pos}
theorem nn {f:FE}(hc:X.calm=true) (m1:X.mg "sorted" = none) (m2:X.mg "set" = none) (he:JE X e f) (g1:Gl X "sorted":=by rfl) (g2:Gl X "set":=by rfl)
  (h1:starEach [e] X.env=(false,eval e X.env)::starEach [] X.env:=by rfl):JE X (.Call (.Name "sorted" p) [.Call (.Name "set" p2) [e] [] pos2] [] pos) (f1 dQ f):=by
 refine PE.to (tq (ml hc) g1 m1 uq (ga (pE (uo hc) g2 m2 GG (ga he iU h1) (he:=h1)) iU)) λσ H Q q=>?_
 obtain⟨B,ρ,d',bb,sB,r,ee,q⟩:=q
 obtain⟨x1,ex,ee⟩:=oX ee
 refine⟨B,ρ,x1.1,x1.2,sB,r,ex,λv H1 N1 xt i1 fr=>?_⟩
 obtain⟨xd,xb⟩:=x1
 cases i1<;>try (simp[dQ]at ee;done)
 rename_i l0 vs ds h hl
 simp only[dQ]at ee
 obtain⟨ss,ez,ee⟩:=oX ee
 split at ee
 ·rename_i h64
  cases ee
  refine⟨_,_,ss,rfl,xt.nh.seq h,λits r'=>jC r' hl ez,by omega,λS hS=>⟨S,_,rfl,aB,Nat.lt_of_le_of_lt (jE ss) h64,λl hl'=>?_⟩⟩
  have x2:=Ext.laid (o:=A2 X S (dZ ss)) xt.nh hS
  have x3:=Ext.laid (o:=.lst ((cX (dZ ss)).map V.str)) x2.nh hl'
  have hl0:H l=none:=((xt.trans x2).hh).free hl'
  exact q _ _ _ ((xt.trans x2).trans x3) (.lst (SqL.of aB) (jG _)) λ_=>⟨_,_,_,rfl,rfl,hl0,aB,jG _⟩
 ·cases ee
end
end DL
namespace DL
open PySem PySem.Spec PySem.W PyProof.Rows
inductive Run (n:Nat) (lt:Nat->Nat->Bool) {α:Type}:KasT α->α->Prop where
 | ret (a:α):Run n lt (.ret a) a
 | ask {i j:Nat}{k:Bool->KasT α}{a:α}(hi:i<n) (hj:j<n) (h:Run n lt (k (lt i j)) a):Run n lt (.ask i j k) a
theorem Run.bind {n:Nat}{lt:Nat->Nat->Bool}{α β:Type}{t:KasT α}{f:α->KasT β}{a:α}{b:β}(h:Run n lt t a) (k:Run n lt (f a) b):Run n lt (t.bind f) b:=by
 induction h with
 | ret a=>exact k
 | ask hi hj _ ih=>exact .ask hi hj (ih k)
theorem Run.wp {n:Nat}{lt:Nat->Nat->Bool}{α:Type}{cmp:Nat->Nat->(Bool->Shared->Prop)->Shared->Prop}{Q:α->Shared->Prop}{t:KasT α}{a:α}(J:Shared->Prop)
  (hc:∀i j C s,i<n->j<n->J s->(∀s',J s'->C (lt i j) s')->cmp i j C s) (h:Run n lt t a):∀ {s:Shared},J s->(∀s',J s'->Q a s')->t.kasWp cmp Q s:=by
 induction h with
 | ret a=>intro s hJ hQ;exact hQ s hJ
 | ask hi hj _ ih=>intro s hJ hQ;exact hc _ _ _ _ hi hj hJ λs' hJ'=>ih hJ' hQ
section
variable {n:Nat}{rk:Nat->Int}
abbrev ltR (rk:Nat->Int) (i j:Nat):Bool:=decide (rk i<rk j)
def bE (rk:Nat->Int) (p:Array Nat) (k:Nat):Int:=rk (p.getD k 0)
structure Arr (n:Nat) (p:Array Nat):Prop where
 size:p.size=n
 perm:p.toList.Perm (List.range n)
theorem Arr.lt {p:Array Nat}(h:Arr n p) {k:Nat}(hk:k<n):p.getD k 0<n:=by
 have hk':k<p.size:=by rw[h.size];exact hk
 have:p.getD k 0=p[k]:=by rw[Array.getD_eq_getD_getElem?,Array.getElem?_eq_getElem hk'];rfl
 rw[this]
 exact List.mem_range.mp (h.perm.mem_iff.mp (by simp))
theorem Arr.rev {p:Array Nat}(h:Arr n p) (i j:Nat):Arr n (kas_rev p i j) :=
 ⟨(mirror_size _ _ _ _).trans h.size,(Array.perm_iff_toList_perm.mp (mirror_perm p i j _)).trans h.perm⟩
theorem Arr.bub {p:Array Nat}(h:Arr n p) (k d:Nat):Arr n (bubble p k d) :=
 ⟨(bubble_size _ _ _).trans h.size,(Array.perm_iff_toList_perm.mp (bubble_perm p k d)).trans h.perm⟩
theorem rV {p:Array Nat}{i j:Nat}(hj:j<=p.size) (k:Nat):bE rk (kas_rev p i j) k=if i<=k/\k<j then bE rk p (i+j - 1 - k)else bE rk p k:=by
 unfold bE kas_rev
 rw[Array.getD_eq_getD_getElem?,getElem?_mirror_all hj]
 split<;>rw[Array.getD_eq_getD_getElem?]
theorem A3 {p:Array Nat}{src d:Nat}(hs:src<p.size) (hd:d<=src) (k:Nat):bE rk (bubble p src d) k=if k=src - d then bE rk p src else if src - d<k/\k<=src then bE rk p (k - 1)else bE rk p k:=by
 unfold bE
 simp only[Array.getD_eq_getD_getElem?]
 rw[getElem?_bubble hs d hd]
 repeat' split
 all_goals rfl
def Up (rk:Nat->Int) (p:Array Nat) (m:Nat):Prop:=∀i j,i<=j->j<m->bE rk p i<=bE rk p j
def rW (rk:Nat->Int) (p:Array Nat) (m:Nat):Prop:=∀i j,i<=j->j<m->bE rk p j<=bE rk p i
theorem Fb (p:Array Nat):Up rk p 1:=λi j h1 h2=>by
 have:i=j:=by omega
 subst this;exact Int.le_refl _
theorem rX {p:Array Nat}(h:Arr n p) {r:Nat}(hr:r<=n):∀(f m:Nat),r - m=f->1<=m->m<=r->Up rk p m->∃m',Run n (ltR rk) (kas_asc p f m) m'/\m<=m'/\m'<=r/\Up rk p m'/\(m'<r->bE rk p m'<bE rk p (m' - 1))
 | 0,m,hf,h1,hm,hu=>⟨m,.ret m,Nat.le_refl _,hm,hu,λz=>by omega⟩
 | f+1,m,hf,h1,hm,hu=>by
  have a1:=h.lt (k:=m) (by omega)
  have a2:=h.lt (k:=m - 1) (by omega)
  by_cases hc:bE rk p m<bE rk p (m - 1)
  ·refine⟨m,.ask a1 a2 ?_,Nat.le_refl _,hm,hu,λ_=>hc⟩
   have:ltR rk (p.getD m 0) (p.getD (m - 1) 0)=true:=decide_eq_true hc
   rw[this,if_pos rfl];exact .ret m
  ·have hu':Up rk p (m+1):=λi j hij hj=>by
    by_cases e:j=m
    ·subst e
     by_cases e2:i=j
     ·subst e2;exact Int.le_refl _
     ·have:=hu i (j - 1) (by omega) (by omega);omega
    ·exact hu i j hij (by omega)
   obtain⟨m',q1,q2,q3,q4,q5⟩:=rX h hr f (m+1) (by omega) (by omega) (by omega) hu'
   refine⟨m',.ask a1 a2 ?_,by omega,q3,q4,q5⟩
   have:ltR rk (p.getD m 0) (p.getD (m - 1) 0)=false:=decide_eq_false hc
   rw[this,if_neg Bool.false_ne_true];exact q1
def Cw (rk:Nat->Int) (p:Array Nat) (m q:Nat):Prop:=q+1<=m/\∀k,m - (q+1)<=k->k<m->bE rk p k=bE rk p (m - 1)
theorem ur {p:Array Nat}{m q:Nat}(hs:m<=p.size) (hf:Cw rk p m q) (k:Nat):bE rk (kas_rev p (m - (q+1)) m) k=bE rk p k:=by
 rw[rV hs]
 split
 ·rename_i hk
  have h0:=hf.1
  rw[hf.2 k hk.1 hk.2,hf.2 _ (by omega) (by omega)]
 ·rfl
theorem xN {p p':Array Nat}{m:Nat}(e:∀k,bE rk p' k=bE rk p k) (h:rW rk p m):rW rk p' m:=λi j h1 h2=>by rw[e,e];exact h i j h1 h2
theorem np (p:Array Nat) {m:Nat}(h:1<=m):Cw rk p m 0:=⟨h,λk h1 h2=>by
 have:k=m - 1:=by omega
 rw[this]⟩
theorem jH {r:Nat}(hr:r<=n):∀(f:Nat) (p:Array Nat) (m q:Nat),Arr n p->r - m=f->1<=m->m<=r->rW rk p m->Cw rk p m q->∃p' m' q',Run n (ltR rk) (kas_desc f p m q) (p',m',q')/\Arr n p'/\m<=m'/\m'<=r/\rW rk p' m'/\Cw rk p' m' q'
 | 0,p,m,q,h,hf,h1,hm,hd,hq=>⟨p,m,q,.ret _,h,Nat.le_refl _,hm,hd,hq⟩
 | f+1,p,m,q,h,hf,h1,hm,hd,hq=>by
  have a1:=h.lt (k:=m) (by omega)
  have a2:=h.lt (k:=m - 1) (by omega)
  have step:∀p':Array Nat,(∀k,bE rk p' k=bE rk p k)->bE rk p m<=bE rk p (m - 1)->rW rk p' (m+1):=λp' e hle i j hij hj=>by
   rw[e,e]
   by_cases z:j=m
   ·subst z
    by_cases z2:i=j
    ·subst z2;exact Int.le_refl _
    ·have:=hd i (j - 1) (by omega) (by omega);omega
   ·exact hd i j hij (by omega)
  by_cases hc:bE rk p m<bE rk p (m - 1)
  ·have hcl:ltR rk (p.getD m 0) (p.getD (m - 1) 0)=true:=decide_eq_true hc
   by_cases hq0:q > 0
   ·have e:=ur (p:=p) (by rw[h.size];omega) hq
    obtain⟨p',m',q',g1,g2,g3,g4,g5,g6⟩:=jH hr f (kas_rev p (m - (q+1)) m) (m+1) 0 (h.rev _ _) (by omega) (by omega) (by omega) (step _ e (by omega)) (np _ (by omega))
    refine⟨p',m',q',.ask a1 a2 ?_,g2,by omega,g4,g5,g6⟩
    rw[hcl,if_pos rfl,if_pos hq0];exact g1
   ·obtain⟨p',m',q',g1,g2,g3,g4,g5,g6⟩:=jH hr f p (m+1) 0 h (by omega) (by omega) (by omega) (step _ (λ_=>rfl) (by omega)) (np _ (by omega))
    refine⟨p',m',q',.ask a1 a2 ?_,g2,by omega,g4,g5,g6⟩
    rw[hcl,if_pos rfl,if_neg hq0];exact g1
  ·have hcl:ltR rk (p.getD m 0) (p.getD (m - 1) 0)=false:=decide_eq_false hc
   by_cases hc2:bE rk p (m - 1)<bE rk p m
   ·have hcl2:ltR rk (p.getD (m - 1) 0) (p.getD m 0)=true:=decide_eq_true hc2
    refine⟨p,m,q,.ask a1 a2 ?_,h,Nat.le_refl _,hm,hd,hq⟩
    rw[hcl,if_neg Bool.false_ne_true]
    refine .ask a2 a1 ?_
    rw[hcl2,if_pos rfl];exact .ret _
   ·have hcl2:ltR rk (p.getD (m - 1) 0) (p.getD m 0)=false:=decide_eq_false hc2
    have he:bE rk p m=bE rk p (m - 1):=by omega
    obtain⟨p',m',q',g1,g2,g3,g4,g5,g6⟩:=jH hr f p (m+1) (q+1) h (by omega) (by omega) (by omega) (step _ (λ_=>rfl) (by omega)) ⟨by have:=hq.1;omega,λk k1 k2=>by
     rw[Nat.add_sub_cancel]
     by_cases z:k=m
     ·rw[z]
     ·rw[hq.2 k (by omega) (by omega),he]⟩
    refine⟨p',m',q',.ask a1 a2 ?_,g2,by omega,g4,g5,g6⟩
    rw[hcl,if_neg Bool.false_ne_true]
    refine .ask a2 a1 ?_
    rw[hcl2,if_neg Bool.false_ne_true];exact g1
theorem ut {r:Nat}(hr:r<=n) {p:Array Nat}(h:Arr n p) {m:Nat}(h1:1<=m) (hm:m<=r) (hd:rW rk p m):∃m' p',Run n (ltR rk) (kas_tail3 m r p) (m',p')/\Arr n p'/\1<=m'/\m'<=r/\Up rk p' m':=by
 have hu:Up rk (kas_rev p 0 m) m:=λi j hij hj=>by
  rw[rV (by rw[h.size];omega),rV (by rw[h.size];omega),if_pos (by omega),if_pos (by omega)]
  exact hd _ _ (by omega) (by omega)
 obtain⟨m',q1,q2,q3,q4,_⟩:=rX (h.rev 0 m) hr (r - m) m rfl h1 hm hu
 exact⟨m',_,q1.bind (.ret _),h.rev 0 m,by omega,q3,q4⟩
theorem uu {r:Nat}(hr:r<=n) {p:Array Nat}(h:Arr n p) {m:Nat}(hm:m+1<=r) (hd:rW rk p (m+1)):∃m' p',Run n (ltR rk) (kas_descPart m r p) (m',p')/\Arr n p'/\1<=m'/\m'<=r/\Up rk p' m':=by
 obtain⟨p1,m1,q1,g1,g2,g3,g4,g5,g6⟩:=jH hr (r - (m+1)) p (m+1) 0 h rfl (by omega) hm hd (np _ (by omega))
 by_cases hq:q1 > 0
 ·obtain⟨m',p',k1,k2,k3,k4,k5⟩:=ut hr (g2.rev (m1 - (q1+1)) m1) (m:=m1) (by omega) g4 (xN (ur (by rw[g2.size];omega) g6) g5)
  exact⟨m',p',g1.bind (by dsimp only;rw[if_pos hq];exact k1),k2,k3,k4,k5⟩
 ·obtain⟨m',p',k1,k2,k3,k4,k5⟩:=ut hr g2 (m:=m1) (by omega) g4 g5
  exact⟨m',p',g1.bind (by dsimp only;rw[if_neg hq];exact k1),k2,k3,k4,k5⟩
theorem zd {p:Array Nat}(h:Arr n p) (hn:1<=n):∃m' p',Run n (ltR rk) (kas_count n p) (m',p')/\Arr n p'/\1<=m'/\m'<=n/\Up rk p' m':=by
 obtain⟨m,q1,q2,q3,q4,q5⟩:=rX h (Nat.le_refl n) (n - 1) 1 rfl (Nat.le_refl 1) hn (Fb (rk:=rk) p)
 by_cases e:m=n
 ·exact⟨m,p,q1.bind (by rw[if_pos (by simp[e])];exact .ret _),h,q2,q3,q4⟩
 ·have hlt:=q5 (by omega)
  have e1:¬(m == n)=true:=by simp[e]
  by_cases hm1:m > 1
  ·by_cases hc:bE rk p 0<bE rk p (m - 1)
   ·refine⟨m,p,q1.bind ?_,h,q2,q3,q4⟩
    rw[if_neg e1,if_pos hm1]
    refine .ask (h.lt (by omega)) (h.lt (by omega)) ?_
    have:ltR rk (p.getD 0 0) (p.getD (m - 1) 0)=true:=decide_eq_true hc
    rw[this,if_pos rfl];exact .ret _
   ·have hall:∀k,k<m->bE rk p k=bE rk p 0:=λk hk=>by
     have z1:=q4 0 k (by omega) hk
     have z2:=q4 k (m - 1) (by omega) (by omega)
     omega
    have er:∀k,bE rk (kas_rev p 0 m) k=bE rk p k:=λk=>by
     rw[rV (by rw[h.size];omega)]
     split
     ·rename_i z;rw[hall _ (by omega),hall k z.2]
     ·rfl
    have hd:rW rk p (m+1):=λi j hij hj=>by
     by_cases z:j=m
     ·subst z
      by_cases z2:i=j
      ·subst z2;exact Int.le_refl _
      ·rw[hall i (by omega)];rw[hall (j - 1) (by omega)]at hlt;omega
     ·rw[hall i (by omega),hall j (by omega)];exact Int.le_refl _
    obtain⟨m',p',k1,k2,k3,k4,k5⟩:=uu (Nat.le_refl n) (h.rev 0 m) (m:=m) (by omega) (xN er hd)
    refine⟨m',p',q1.bind ?_,k2,k3,k4,k5⟩
    rw[if_neg e1,if_pos hm1]
    refine .ask (h.lt (by omega)) (h.lt (by omega)) ?_
    have:ltR rk (p.getD 0 0) (p.getD (m - 1) 0)=false:=decide_eq_false hc
    rw[this,if_neg Bool.false_ne_true];exact k1
  ·have em:m=1:=by omega
   subst em
   have hd:rW rk p 2:=λi j hij hj=>by
    by_cases z2:i=j
    ·subst z2;exact Int.le_refl _
    ·have:i=0:=by omega
     have:j=1:=by omega
     subst_vars
     have:=hlt
     simp at this
     omega
   obtain⟨m',p',k1,k2,k3,k4,k5⟩:=uu (Nat.le_refl n) h (m:=1) (by omega) hd
   refine⟨m',p',q1.bind ?_,k2,k3,k4,k5⟩
   rw[if_neg e1,if_neg hm1];exact k1
theorem kH {p:Array Nat}(h:Arr n p) {k:Nat}(hk:k<n) (hu:Up rk p k):∀(f l r:Nat),r - l<=f->l<=r->r<=k->(∀i,i<l->bE rk p i<=bE rk p k)->(∀i,r<=i->i<k->bE rk p k<bE rk p i) ->
  ∃l',Run n (ltR rk) (kas_place p k f l r) l'/\l'<=k/\(∀i,i<l'->bE rk p i<=bE rk p k)/\(∀i,l'<=i->i<k->bE rk p k<bE rk p i)
 | 0,l,r,hf,hl,hr,h1,h2=>⟨l,.ret l,by omega,h1,λi a b=>h2 i (by omega) b⟩
 | f+1,l,r,hf,hl,hr,h1,h2=>by
  by_cases hge:l ≥ r
  ·refine⟨l, ?_,by omega,h1,λi a b=>h2 i (by omega) b⟩
   unfold kas_place;rw[if_pos hge];exact .ret l
  ·by_cases hc:bE rk p k<bE rk p ((l+r) / 2)
   ·obtain⟨l',q1,q2,q3,q4⟩:=kH h hk hu f l ((l+r) / 2) (by omega) (by omega) (by omega) h1 λi a b=>by
     have:=hu ((l+r) / 2) i a b;omega
    refine⟨l', ?_,q2,q3,q4⟩
    unfold kas_place;rw[if_neg hge]
    refine .ask (h.lt (by omega)) (h.lt (by omega)) ?_
    have:ltR rk (p.getD k 0) (p.getD ((l+r) / 2) 0)=true:=decide_eq_true hc
    rw[this,if_pos rfl];exact q1
   ·obtain⟨l',q1,q2,q3,q4⟩:=kH h hk hu f ((l+r) / 2+1) r (by omega) (by omega) hr (λi a=>by
     have:=hu i ((l+r) / 2) (by omega) (by omega);omega) h2
    refine⟨l', ?_,q2,q3,q4⟩
    unfold kas_place;rw[if_neg hge]
    refine .ask (h.lt (by omega)) (h.lt (by omega)) ?_
    have:ltR rk (p.getD k 0) (p.getD ((l+r) / 2) 0)=false:=decide_eq_false hc
    rw[this,if_neg Bool.false_ne_true];exact q1
theorem xO:∀(f:Nat) (p:Array Nat) (k:Nat),Arr n p->n - k=f->k<=n->Up rk p k->∃p',Run n (ltR rk) (kas_bin f p k) p'/\Arr n p'/\Up rk p' n
 | 0,p,k,h,hf,hk,hu=>⟨p,.ret p,h,(show k=n by omega) ▸ hu⟩
 | f+1,p,k,h,hf,hk,hu=>by
  have hk':k<n:=by omega
  obtain⟨l,q1,q2,q3,q4⟩:=kH h hk' hu k 0 k (by omega) (by omega) (Nat.le_refl _) (λi z=>by omega) (λi a b=>by omega)
  have hsz:k<p.size:=by rw[h.size];exact hk'
  have hu':Up rk (bubble p k (k - l)) (k+1):=λi j hij hj=>by
   rw[A3 hsz (by omega),A3 hsz (by omega)]
   have e:k - (k - l)=l:=by omega
   rw[e]
   by_cases i1:i=l
   ·rw[if_pos i1]
    by_cases j1:j=l
    ·rw[if_pos j1];exact Int.le_refl _
    ·rw[if_neg j1,if_pos (by omega)];have:=q4 (j - 1) (by omega) (by omega);omega
   ·rw[if_neg i1]
    by_cases i2:l<i/\i<=k
    ·rw[if_pos i2,if_neg (by omega),if_pos (by omega)];exact hu _ _ (by omega) (by omega)
    ·rw[if_neg i2]
     by_cases j1:j=l
     ·rw[if_pos j1];exact q3 i (by omega)
     ·rw[if_neg j1]
      by_cases j2:l<j/\j<=k
      ·rw[if_pos j2];exact hu _ _ (by omega) (by omega)
      ·rw[if_neg j2];exact hu _ _ hij (by omega)
  obtain⟨p',k1,k2,k3⟩:=xO f (bubble p k (k - l)) (k+1) (h.bub _ _) (by omega) (by omega) hu'
  exact⟨p',q1.bind k1,k2,k3⟩
theorem uw (hn:1<=n):∃p,Run n (ltR rk) (kas_sort n) p/\Arr n p/\Up rk p n:=by
 have h0:Arr n (List.toArray (List.range n)):=⟨by simp,by simp⟩
 obtain⟨m,p,q1,q2,q3,q4,q5⟩:=zd (rk:=rk) h0 hn
 by_cases e:m<n
 ·have hmx:max m 1=m:=by omega
  obtain⟨p',k1,k2,k3⟩:=xO (n - max m 1) p (max m 1) q2 rfl (by omega) (by rw[hmx];exact q5)
  exact⟨p',q1.bind (by dsimp only;rw[if_pos e];exact k1),k2,k3⟩
 ·have:m=n:=by omega
  subst this
  exact⟨p,q1.bind (by dsimp only;rw[if_neg e];exact .ret _),q2,q5⟩
end
theorem iq {a b c:List Int}(h:a<b) (k:b<c):a<c:=List.lt_trans h k
theorem ze {a b c:List Int}(h:¬b<a) (k:¬c<b):¬c<a:=List.not_lt.mpr (List.le_trans (List.not_lt.mp h) (List.not_lt.mp k))
theorem A4 {a b:List Int}(h:¬b<a) (k:¬a<b):a=b:=List.le_antisymm (List.not_lt.mp h) (List.not_lt.mp k)
section
variable {α:Type}(f:α->List Int)
def leF (a b:α):Prop:=¬f b<f a
def kI (x:α):List α->List α
 | []=>[x]
 | y::r=>if f y<f x then y::kI x r else x::y::r
def dr (l:List α):List α:=l.foldr (kI f) []
theorem kJ (x:α):∀l,(kI f x l).Perm (x::l)
 | []=>List.Perm.refl _
 | y::r=>by
  unfold kI
  split
  ·exact((kJ x r).cons y).trans (List.Perm.swap x y r)
  ·exact List.Perm.refl _
theorem bF:∀l,(dr f l).Perm l
 | []=>List.Perm.refl _
 | x::l=>(kJ f x (dr f l)).trans ((bF l).cons x)
theorem pZ (x:α):∀l,l.Pairwise (leF f)->(kI f x l).Pairwise (leF f)
 | [],_=>by simp[kI]
 | y::r,h=>by
  obtain⟨h1,h2⟩:=List.pairwise_cons.mp h
  unfold kI
  split
  ·rename_i hl
   refine List.pairwise_cons.mpr ⟨λz hz=>?_,pZ x r h2⟩
   rcases List.mem_cons.mp ((kJ f x r).mem_iff.mp hz)with rfl|hz
   ·exact λk=>List.lt_irrefl _ (iq hl k)
   ·exact h1 z hz
  ·rename_i hl
   refine List.pairwise_cons.mpr ⟨λz hz=>?_,h⟩
   rcases List.mem_cons.mp hz with rfl|hz
   ·exact hl
   ·exact ze hl (h1 z hz)
theorem gg:∀l,(dr f l).Pairwise (leF f)
 | []=>List.Pairwise.nil
 | x::l=>pZ f x _ (gg l)
theorem qc:∀(l1 l2:List α),(∀x∈l1,∀y∈l1,f x=f y->x=y)->l1.Perm l2->l1.Pairwise (leF f)->l2.Pairwise (leF f)->l1=l2
 | [],l2,_,p,_,_=>(List.nil_perm.mp p).symm
 | x::r1,[],_,p,_,_=>absurd p.length_eq (by simp)
 | x::r1,y::r2,hi,p,h1,h2=>by
  have hy:y∈x::r1:=p.mem_iff.mpr (mX ..)
  have hxy:leF f x y:=by
   rcases List.mem_cons.mp hy with z|z
   ·rw[z];exact List.lt_irrefl _
   ·exact(List.pairwise_cons.mp h1).1 y z
  have hyx:leF f y x:=by
   rcases List.mem_cons.mp (p.mem_iff.mp (mX ..))with z|z
   ·rw[z];exact List.lt_irrefl _
   ·exact(List.pairwise_cons.mp h2).1 x z
  have e:x=y:=hi x (mX ..) y hy (A4 hxy hyx)
  subst e
  rw[qc r1 r2 (λa ha b hb=>hi a (mZ _ ha) b (mZ _ hb)) (List.Perm.cons_inv p) (List.pairwise_cons.mp h1).2 (List.pairwise_cons.mp h2).2]
theorem gJ {l l':List α}(hi:∀x∈l,∀y∈l,f x=f y->x=y) (p:l'.Perm l) (h:l'.Pairwise (leF f)):l'=dr f l :=
 qc f _ _ (λx hx y hy=>hi x (p.mem_iff.mp hx) y (p.mem_iff.mp hy)) (p.trans (bF f l).symm) h (gg f l)
end
theorem ji {α:Type}{p q:α->Bool}(h:∀x,p x=true->q x=true):∀l:List α,(l.filter p).length<=(l.filter q).length
 | []=>Nat.le_refl _
 | x::l=>by
  have ih:=ji h l
  rw[List.filter_cons,List.filter_cons]
  by_cases z:p x=true
  ·rw[if_pos z,if_pos (h x z)];simp only[List.length_cons];omega
  ·rw[if_neg z]
   split
   ·simp only[List.length_cons];omega
   ·exact ih
def jI (cs:List (List Int)) (c:List Int):Int:=((cs.filter λx=>decide (x<c)).length:Nat)
theorem Cy {cs:List (List Int)}{a b:List Int}(h:¬b<a):jI cs a<=jI cs b:=by
 unfold jI
 refine Int.ofNat_le.mpr (ji (λx hx=>?_) cs)
 rw[decide_eq_true_eq]at hx ⊢
 rcases List.le_iff_lt_or_eq.mp (List.not_lt.mp h)with z|z
 ·exact iq hx z
 ·rw[←z];exact hx
theorem rY {cs:List (List Int)}{a b:List Int}(ha:a∈cs) (h:a<b):jI cs a<jI cs b:=by
 unfold jI
 apply Int.ofNat_lt.mpr
 induction cs with
 | nil=>simp at ha
 | cons c cs ih =>
  have key:∀l:List (List Int),(l.filter λx=>decide (x<a)).length<=(l.filter λx=>decide (x<b)).length:=λl =>
   ji (λx hx=>by rw[decide_eq_true_eq]at hx ⊢;exact iq hx h) l
  rw[List.filter_cons,List.filter_cons]
  rcases List.mem_cons.mp ha with rfl|ha
  ·rw[if_neg (by simp[List.lt_irrefl]),if_pos (by simpa using h)]
   have:=key cs
   simp only[List.length_cons];omega
  ·have:=ih ha
   by_cases z:c<a
   ·rw[if_pos (by simpa using z),if_pos (by simpa using iq z h)]
    simp only[List.length_cons];omega
   ·rw[if_neg (by simpa using z)]
    split
    ·simp only[List.length_cons];omega
    ·exact this
theorem A5 {cs:List (List Int)}{a b:List Int}(ha:a∈cs):decide (jI cs a<jI cs b)=decide (a<b):=by
 by_cases h:a<b
 ·rw[decide_eq_true h,decide_eq_true (rY ha h)]
 ·rw[decide_eq_false h,decide_eq_false]
  have:=Cy (cs:=cs) h
  omega
inductive At where
 | i (n:Int)
 | s (z:Str)
def enc:At->List Int
 | .i n=>[n]
 | .s z=>z.cps.toList.map (λ(c:Nat)=>(c:Int)+1)++[0]
def ce (xs:List At):List Int:=xs.flatMap enc
def aW:List At->List At->Option Bool
 | [],ys=>some (!ys.isEmpty)
 | _::_,[]=>some false
 | .i a::xs,.i b::ys=>if a=b then aW xs ys else some (decide (a<b))
 | .s a::xs,.s b::ys=>if a=b then aW xs ys else some (decide (a.cps.toList<b.cps.toList))
 | _::_,_::_=>none
theorem rZ:∀(a b:List Nat) (r r':List Int),(a.map (λ(c:Nat)=>(c:Int)+1)++0::r)<(b.map (λ(c:Nat)=>(c:Int)+1)++0::r')↔a<b∨(a=b/\r<r')
 | [],[],r,r'=>by simp[List.cons_lt_cons_iff]
 | [],y::b,r,r'=>by simp[List.cons_lt_cons_iff]
 | x::a,[],r,r'=>by simp[List.cons_lt_cons_iff];omega
 | x::a,y::b,r,r'=>by
  rw[List.map_cons,List.map_cons,List.cons_append,List.cons_append,List.cons_lt_cons_iff,rZ a b r r',List.cons_lt_cons_iff]
  constructor
  ·rintro (h|⟨h,k|⟨k1,k2⟩⟩)
   ·exact .inl (.inl (by omega))
   ·exact .inl (.inr ⟨by omega,k⟩)
   ·exact .inr ⟨by rw[k1,show x=y by omega],k2⟩
  ·rintro ((h|⟨h,k⟩)|⟨h,k⟩)
   ·exact .inl (by omega)
   ·exact .inr ⟨by omega,.inl k⟩
   ·injection h with h1 h2
    exact .inr ⟨by omega,.inr ⟨h2,k⟩⟩
theorem fN (x:At) (xs:List At):ce (x::xs)=enc x++ce xs:=by unfold ce;rw[List.flatMap_cons]
theorem Fc (x:At):enc x≠[]:=by cases x<;>simp[enc]
theorem xP {a b:Str}:a.cps.toList=b.cps.toList↔a=b:=by
 constructor
 ·intro h
  obtain⟨a⟩:=a;obtain⟨b⟩:=b
  have:a=b:=Array.toList_inj.mp h
  rw[this]
 ·rintro rfl;rfl
theorem jJ:∀(xs ys:List At) (b:Bool),aW xs ys=some b->b=decide (ce xs<ce ys)
 | [],[],b,h=>by simp[aW]at h;subst h;simp[ce]
 | [],y::ys,b,h=>by
  simp[aW]at h;subst h
  rw[fN]
  cases e:enc y with
  | nil=>exact absurd e (Fc y)
  | cons c cs=>simp[ce]
 | x::xs,[],b,h=>by simp[aW]at h;subst h;simp[ce]
 | .i a::xs,.i c::ys,b,h=>by
  rw[aW]at h
  rw[fN,fN]
  show b=decide (a::ce xs<c::ce ys)
  split at h
  ·rename_i e
   subst e
   rw[jJ xs ys b h]
   exact decide_eq_decide.mpr (by rw[List.cons_lt_cons_iff];simp)
  ·rename_i e
   cases h
   exact decide_eq_decide.mpr (by rw[List.cons_lt_cons_iff];simp[e])
 | .s a::xs,.s c::ys,b,h=>by
  rw[aW]at h
  rw[fN,fN]
  have e0:∀(z:Str) (r:List Int),enc (.s z)++r=z.cps.toList.map (λ(c:Nat)=>(c:Int)+1)++0::r:=λz r=>by simp[enc]
  rw[e0,e0]
  split at h
  ·rename_i e
   subst e
   rw[jJ xs ys b h]
   exact decide_eq_decide.mpr (by rw[rZ];exact⟨λz=>.inr ⟨rfl,z⟩,λz=>z.elim (λq=>absurd q (List.lt_irrefl _)) (·.2)⟩)
  ·rename_i e
   cases h
   exact decide_eq_decide.mpr (by rw[rZ,xP];exact⟨.inl,λz=>z.elim id λq=>absurd q.1 e⟩)
 | .i _::_,.s _::_,b,h=>by simp[aW]at h
 | .s _::_,.i _::_,b,h=>by simp[aW]at h
theorem wy:∀(xs ys:List At),aW xs ys=some false->aW ys xs=some false->xs=ys
 | [],[],_,_=>rfl
 | [],y::ys,h,_=>by simp[aW]at h
 | x::xs,[],_,h=>by simp[aW]at h
 | .i a::xs,.i c::ys,h,k=>by
  rw[aW]at h k
  by_cases e:a=c
  ·subst e
   rw[if_pos rfl]at h k
   rw[wy xs ys h k]
  ·rw[if_neg e]at h
   rw[if_neg (Ne.symm e)]at k
   simp at h k
   omega
 | .s a::xs,.s c::ys,h,k=>by
  rw[aW]at h k
  by_cases e:a=c
  ·subst e
   rw[if_pos rfl]at h k
   rw[wy xs ys h k]
  ·rw[if_neg e]at h
   rw[if_neg (Ne.symm e)]at k
   simp only[Option.some.injEq,decide_eq_false_iff_not]at h k
   exact absurd (xP.mp (List.le_antisymm (List.not_lt.mp k) (List.not_lt.mp h))) e
 | .i _::_,.s _::_,h,_=>by simp[aW]at h
 | .s _::_,.i _::_,h,_=>by simp[aW]at h
def cY (ks:List (List At)):Bool:=ks.all λx=>ks.all λy=>(aW x y).isSome
theorem fO {ks:List (List At)}(h:cY ks=true) {x y:List At}(hx:x∈ks) (hy:y∈ks):aW x y=some (decide (ce x<ce y)):=by
 have:=List.all_eq_true.mp (List.all_eq_true.mp h x hx) y hy
 obtain⟨b,e⟩:=Option.isSome_iff_exists.mp this
 rw[e,jJ _ _ _ e]
theorem kK {ks:List (List At)}(h:cY ks=true) {x y:List At}(hx:x∈ks) (hy:y∈ks) (e:ce x=ce y):x=y:=by
 refine wy _ _ ?_ ?_
 ·rw[fO h hx hy,e,decide_eq_false (List.lt_irrefl _)]
 ·rw[fO h hy hx,e,decide_eq_false (List.lt_irrefl _)]
def atV:At->Value->Prop
 | .i n,v=>∃t,v=.int n t
 | .s z,v=>∃t,v=.str z t
def dB (h:Heap) (xs:List At) (v:Value):Prop:=∃a o its n,v=.ref a/\h.get? a=some o/\o.cls=.type "tuple"/\o.data=.seq its n/\Paired atV xs its.toList
theorem dB.keep {h h':Heap}{xs:List At}{v:Value}(x:dB h xs v) (k:∀a o,o.cls=.type "tuple"->h.get? a=some o->h'.get? a=some o):dB h' xs v:=by
 obtain⟨a,o,its,n,e,ho,hc,r⟩:=x
 exact⟨a,o,its,n,e,k a o hc ho,hc,r⟩
def cx (ks:List (List At)):Bool:=ks.all (λx=>match x with|.i _::_=>true|_=>false) || ks.all (λx=>match x with|.s _::_=>true|_=>false)
section
variable {prog:Program}{w:World}{A:Around}{E:Value->Shared->Prop}{s:Shared}
theorem nq {Q:Bool->Shared->Prop}{b:Bool}{fin:Bool}:∀(xs ys:List At) (its jts:List Value) (i:Nat),Paired atV xs its->Paired atV ys jts->aW xs ys=some b->fin=decide (xs.length<ys.length)->Q b s->KatLex prog w A true fin Q (its.zip jts) i s
 | [],ys,_,jts,i,.nil,r2,h,hf,q=>by
  rw[List.zip_nil_left]
  refine kat_nil ?_
  cases ys with
  | nil=>simp[aW]at h;subst h;rw[hf];exact q
  | cons y ys=>simp[aW]at h;subst h;rw[hf];simpa using q
 | x::xs,[],_,_,i,_,.nil,h,hf,q=>by
  rw[List.zip_nil_right]
  refine kat_nil ?_
  simp[aW]at h;subst h;rw[hf];simpa using q
 | .i a::xs,.i c::ys,_,_,i,.cons r1 r1',.cons r2 r2',h,hf,q=>by
  obtain⟨t,rfl⟩:=r1
  obtain⟨u,rfl⟩:=r2
  rw[List.zip_cons_cons]
  refine kat_cons (wpAny_eqBool_int ?_)
  rw[aW]at h
  by_cases e:a=c
  ·rw[if_pos e]at h
   rw[show(a == c)=true by simp[e]]
   exact kat_yes (nq xs ys _ _ (i+1) r1' r2' h (by rw[hf];simp) q)
  ·rw[if_neg e]at h
   cases h
   rw[show(a == c)=false by simp[e]]
   refine kat_no ?_
   cases hb:(true && i == 0) with
   | true=>exact oneLt_int q
   | false=>exact kat_one _ _ (PyProof.Rows.lt_int q)
 | .s a::xs,.s c::ys,_,_,i,.cons r1 r1',.cons r2 r2',h,hf,q=>by
  obtain⟨t,rfl⟩:=r1
  obtain⟨u,rfl⟩:=r2
  rw[List.zip_cons_cons]
  refine kat_cons (wpAny_eqBool_str ?_)
  rw[aW]at h
  by_cases e:a=c
  ·rw[if_pos e]at h
   rw[decide_eq_true e]
   exact kat_yes (nq xs ys _ _ (i+1) r1' r2' h (by rw[hf];simp) q)
  ·rw[if_neg e]at h
   cases h
   rw[decide_eq_false e]
   refine kat_no ?_
   cases hb:(true && i == 0) with
   | true=>exact oneLt_str q
   | false=>exact kat_one _ _ (PySem.P.lt_str q)
 | .i _::_,.s _::_,_,_,_,_,_,h,_,_=>by simp[aW]at h
 | .s _::_,.i _::_,_,_,_,_,_,h,_,_=>by simp[aW]at h
theorem gh {α β:Type}{F:α->β->Prop}:∀ {l₁:List α}{l₂:List β},Paired F l₁ l₂->l₁.length=l₂.length
 | _,_,.nil=>rfl
 | _,_,.cons _ t=>by simp[gh t]
theorem Fd {Q:Bool->Shared->Prop}{xs ys:List At}{x y:Value}{b:Bool}(hx:dB s.heap xs x) (hy:dB s.heap ys y) (h:aW xs ys=some b) (q:Q b s):wpAny (model prog w) A (keyLt' (tuples' true) x y) Q E s:=by
 obtain⟨a,o,its,n,rfl,ho,_,hd,r⟩:=hx
 obtain⟨a',o',its',n',rfl,ho',_,hd',r'⟩:=hy
 refine kat_lt ho hd ho' hd' (nq xs ys _ _ 0 r r' h ?_ q)
 rw[←Array.length_toList,←Array.length_toList,gh r,gh r']
theorem lF {h:Heap}:∀ {ks:List (List At)}{vs:List Value},Paired (dB h) ks vs->(∀k∈ks,k≠[])->∃fs,KatTups h vs fs/\fs.length=ks.length/\∀v∈fs,∃k r,(k::r)∈ks/\atV k v
 | _,_,.nil,_=>⟨[],trivial,rfl,by simp⟩
 | k::ks,_,.cons x t,hne=>by
  obtain⟨fs,h1,h2,h3⟩:=lF t λz hz=>hne z (mZ _ hz)
  obtain⟨a,o,its,n,rfl,ho,hc,hd,r⟩:=x
  cases r':its.toList with
  | nil =>
   rw[r']at r
   cases r
   exact absurd rfl (hne [] (mX ..))
  | cons v vs =>
   rw[r']at r
   obtain⟨p,r1⟩:∃p,its[0]? = some v:=⟨(),by rw[←Array.getElem?_toList,r'];rfl⟩
   cases r with
   | cons q qs =>
    rename_i k0 kr
    refine⟨v::fs,KatTups.cons ho hc hd r1 h1,by simp[h2],λu hu=>?_⟩
    rcases List.mem_cons.mp hu with rfl|hu
    ·exact⟨k0,kr,mX ..,q⟩
    ·obtain⟨k1,r1,m1,m2⟩:=h3 u hu
     exact⟨k1,r1,mZ _ m1,m2⟩
theorem ux {ks:List (List At)}{vs:List Value}{Q:SortKind->Shared->Prop}(hp:Paired (dB s.heap) ks vs) (hf:cx ks=true) (hn:0<ks.length) (q:Q (tuples' true) s):wpAny (model prog w) A (keyKind' vs.toArray) Q E s:=by
 have hne:∀k∈ks,k≠[]:=λk hk z=>by
  subst z
  unfold cx at hf
  rw[Bool.or_eq_true]at hf
  rcases hf with hf|hf
  ·have:=List.all_eq_true.mp hf [] hk;simp at this
  ·have:=List.all_eq_true.mp hf [] hk;simp at this
 obtain⟨fs,h1,h2,h3⟩:=lF hp hne
 unfold cx at hf
 rw[Bool.or_eq_true]at hf
 rcases hf with hf|hf
 ·refine kat_kind (T:=.type "int") h1 (by omega) (λv hv=>?_) (by decide) q
  obtain⟨k,r,m,z⟩:=h3 v hv
  have:=List.all_eq_true.mp hf _ m
  cases k with
  | i n=>obtain⟨t,rfl⟩:=z;exact .now
  | s z'=>simp at this
 ·refine kat_kind (T:=.type "str") h1 (by omega) (λv hv=>?_) (by decide) q
  obtain⟨k,r,m,z⟩:=h3 v hv
  have:=List.all_eq_true.mp hf _ m
  cases k with
  | s z'=>obtain⟨t,rfl⟩:=z;exact .now
  | i n=>simp at this
end
section
variable {prog:Program}{w:World}{A:Around}{E:Value->Shared->Prop}{s:Shared}
theorem jj {α β:Type}{F:α->β->Prop}(d:α) (e:β):∀ {l₁:List α}{l₂:List β},Paired F l₁ l₂->∀ {i:Nat},i<l₁.length->F (l₁.getD i d) (l₂.getD i e)
 | _,_,.cons r t,0,_=>r
 | _,_,.cons r t,i+1,h=>by
  simp only[List.getD_cons_succ]
  exact jj d e t (by simpa using h)
 | _,_,.nil,i,h=>by simp at h
def rkK (ks:List (List At)) (i:Nat):Int:=jI (ks.map ce) (ce (ks.getD i []))
theorem xQ {ks:List (List At)}{vs:List Value}(hc:cY ks=true) (hp:Paired (dB s.heap) ks vs):∀(i j:Nat) (C:Bool->Shared->Prop) (s1:Shared),i<ks.length->j<ks.length->s1=s->(∀s',s'=s->C (ltR (rkK ks) i j) s')->kas_ask prog w A (tuples' true) vs i j C s1:=by
 intro i j C s1 hi hj e hC
 subst e
 unfold kas_ask
 have mi:ks.getD i []∈ks:=by rw[List.getD_eq_getElem?_getD,List.getElem?_eq_getElem hi];exact List.getElem_mem hi
 have mj:ks.getD j []∈ks:=by rw[List.getD_eq_getElem?_getD,List.getElem?_eq_getElem hj];exact List.getElem_mem hj
 refine Fd (jj [] Value.none hp hi) (jj [] Value.none hp hj) (fO hc mi mj) ?_
 have:=hC s1 rfl
 unfold ltR rkK at this
 rw[A5 (List.mem_map.mpr ⟨_,mi,rfl⟩)]at this
 exact this
theorem zf {a:Addr}{vs:List Value}{ks:List (List At)}{n:Nat}{P:PySem.Fin->Shared->Prop}(ho:s.heap.get? a=some (seqObj "list" vs.toArray n)) (hk:Paired (dB s.heap) ks vs) (hc:cY ks=true) (hf:cx ks=true) (h64:vs.length<64)
  (h:∀p:Array Nat,Arr vs.length p->Up (rkK ks) p vs.length->P (.done (.ret .none)) { s with heap:=sortedHeap s.heap a vs (List.toArray (p.toList.map λi=>vs.getD i Value.none)) }) :
  wpAny (model prog w) A (Builtin.«list.sort» ⟨[.ref a],[]⟩) P E s:=by
 have ha:=Heap.lt_size ho
 have hlen:ks.length=vs.length:=gh hk
 obtain⟨e1,ho1⟩:∃e1,(s.heap.update a (Obj.mapSeq λ_=>#[])).get? a=some (seqObj "list" #[] e1):=⟨_,get?_update_seq ho (λ_=>#[])⟩
 let h6:Heap:=((s.heap.update a (Obj.mapSeq λ_=>#[])).push (seqObj "tuple" vs.toArray 0)).push (seqObj "list" #[] 0)
 have old:∀b u,b≠a->s.heap.get? b=some u->h6.get? b=some u:=λb u hb q =>
  Heap.get?_push_of_some _ (Heap.get?_push_of_some _ ((Heap.get?_update_ne _ _ _ _ hb).trans q))
 have ho6:h6.get? a=some (seqObj "list" #[] e1):=Heap.get?_push_of_some _ (Heap.get?_push_of_some _ ho1)
 have hk6:Paired (dB h6) ks vs:=L2.Paired.mapP hk λk v x=>x.keep λb u hcl q=>old b u (λz=>by
  subst z;rw[ho]at q;cases q;injection hcl with z;exact absurd z (by decide)) q
 rw[list_sort_plain]
 refine wX (listItems_at ho rfl (wX (listUpdate_at ho rfl (wX (seqEpoch_at ho1 rfl (wX (wpAny_newTuple (wX (wpAny_newList (wpAny_holding ?_))) (by show vs.length<=sizeLine;rw[sizeLine_eq];omega))))))))
 show wpAny (model prog w) A _ P E { s with heap:=h6 }
 dsimp only
 have ends:∀(st:SortSt) (p:Array Nat),arrOf st=p.map (kas_item (vs.toArray.zip vs.toArray))->failedOf st=none->Arr vs.length p->Up (rkK ks) p vs.length ->
   wpAny (model prog w) A (do
    let touched:=(←seqEpoch a) != e1
    Builtin.List.listUpdate (.ref a) λ_=>(arrOf st).map (·.2)
    if let some e:=failedOf st then rule "list.sort.comparison-raised";throw e
    if touched then rule "list.sort.modified";raiseError "ValueError" "list modified during sort"
    ret .none) P E { s with heap:=h6 }:=λst p ea ef ap up=>by
  have eo:(arrOf st).map (·.2)=List.toArray (p.toList.map λi=>vs.getD i Value.none):=kat_snds rfl ea
  refine wX (seqEpoch_at ho6 rfl ?_)
  refine wX (listUpdate_at ho6 rfl ?_ (hsz2:=by rw[eo];simp only[List.size_toArray,List.length_map,Array.length_toList,ap.size,sizeLine_eq];omega))
  rw[ef]
  simp only[bne_self_eq_false,Bool.false_eq_true,if_false]
  rw[eo]
  exact wY (h p ap up)
 by_cases h2:vs.toArray.size<2
 ·rw[if_pos h2,if_pos h2]
  refine wX (wY ?_)
  rw[StateT.run_pure]
  refine wX (wY ?_)
  have hsm:vs.length<2:=by simpa using h2
  refine ends _ (List.toArray (List.range vs.length)) ?_ rfl ⟨by simp,by simp⟩ ?_
  ·show vs.toArray.zip vs.toArray=_
   have:=kas_range (vs.toArray.zip vs.toArray)
   rw[show(vs.toArray.zip vs.toArray).size=vs.length by simp]at this
   exact this.symm
  ·intro i j hij hj
   have:i=j:=by omega
   subst this;exact Int.le_refl _
 ·rw[if_neg h2,if_neg h2]
  have h2':2<=vs.length:=by simp at h2;omega
  refine wX (ux (s:={ s with heap:=h6 }) hk6 hf (by omega) ?_)
  obtain⟨p,r1,r2,r3⟩:=uw (n:=vs.length) (rk:=rkK ks) (by omega)
  refine wX (wpAny_mono (kat_run (E:=E) (ks:=vs) (vs:=vs) (κ:=tuples' true) (s:={ s with heap:=h6 }) (Q:=λst' s'=>s'={ s with heap:=h6 }/\arrOf st'=p.map (kas_item (vs.toArray.zip vs.toArray))/\failedOf st'=none)
   (G:=λp' s'=>p'=p/\s'={ s with heap:=h6 }) rfl h2' h64 (λp' st' s' _ e2 e3 e4=>by
    obtain⟨rfl,rfl⟩:=e4
    exact⟨rfl,e2,e3⟩) (Run.wp (λs'=>s'={ s with heap:=h6 }) (λi j C s1 hi hj e hC=>xQ (s:={ s with heap:=h6 }) hc hk6 i j C s1 (by omega) (by omega) e hC) r1 rfl λs' e=>⟨rfl,e⟩)) (λr s' hr=>?_) λ_ _ z=>z)
  obtain⟨⟨⟩,st'⟩:=r
  obtain⟨rfl,e2,e3⟩:=hr
  exact ends st' p e2 e3 r2 r3
theorem uy {l:Addr}{vs:List Value}{ks:List (List At)}{Q:Value->Shared->Prop}(hl:s.heap.IsList l vs.toArray) (hk:Paired (dB s.heap) ks vs) (hc:cY ks=true) (hf:cx ks=true) (h64:vs.length<64)
  (h:∀p:Array Nat,Arr vs.length p->Up (rkK ks) p vs.length->Q (.ref (s.heap.objs.size+1)) { s with heap:=sortedAll s.heap vs (List.toArray (p.toList.map λi=>vs.getD i Value.none)) }) :
  wpAny (model prog w) A (call (.builtin "sorted") [.ref l]) Q E s:=by
 let h1:Heap:=(s.heap.push (seqObj "list" #[] 0)).update s.heap.objs.size (Obj.mapSeq (· ++ vs.toArray))
 have hsz:h1.objs.size=s.heap.objs.size+1:=by show(Heap.update _ _ _).objs.size=_;rw[Heap.size_update,size_push']
 let h2:Heap:=h1.push (seqObj "list" vs.toArray 0)
 have hoL:h2.get? (s.heap.objs.size+1)=some (seqObj "list" vs.toArray 0):=by rw[←hsz];exact Heap.get?_push_size _ rfl
 have hk2:Paired (dB h2) ks vs:=L2.Paired.mapP hk λk v x=>x.keep λb u _ q =>
  Heap.get?_push_of_some _ ((Heap.get?_update_ne _ _ _ _ (Nat.ne_of_lt (Heap.lt_size q))).trans (Heap.get?_push_of_some _ q))
 refine Calls.call_function_entry kind_sorted plain_sorted entry_sorted (args_sorted1 _) ?_
 unfold Builtin.«sorted»
 refine wX (m:=checkCount "sorted" 1 1 _) (wY (wX (collect_list hl (wX (wpAny_newList ?_)))))
 show wpAny _ _ _ _ _ { s with heap:=h2 }
 rw[show((s.heap.push (seqObj "list" #[] 0)).update s.heap.objs.size (Obj.mapSeq (· ++ vs.toArray))).objs.size=s.heap.objs.size+1 from hsz]
 exact wX (wpAny_holding (wpAny_call_entry slot_list_sort ⟨_,hoL,rfl⟩ entry_list_sort (zf hoL hk2 hc hf h64 λp ap up=>⟨_,rfl,wY ⟨_,rfl,h p ap up⟩⟩) (args_list_sort _)))
end
end DL
namespace DL
open PySem PySem.Spec PySem.W PyProof.Rows L2
def qd:D->Option At
 | .int n=>some (.i n)
 | .str z=>some (.s z)
 | _=>none
def cU:List D->Option (List At)
 | []=>some []
 | d::ds=>(qd d).bind λa=>(cU ds).map (a :: ·)
def jK:D->Option (List At)
 | .tup es=>cU es
 | _=>none
def cA:List D->Option (List (List At))
 | []=>some []
 | d::ds=>(jK d).bind λa=>(cA ds).map (a :: ·)
def A6 (d:D):List Int:=ce ((jK d).getD [])
def qe:List D->Option (List Int)
 | []=>some []
 | .int n::ds=>(qe ds).map (n :: ·)
 | _::_=>none
def A7 (ns:List Int):List Int:=dr (λn=>[n]) ns
def gk:List D->Option (D×Bool)
 | [.lst ds]=>match eN ds with
  | some ss=>if ss.length<64 then some (.lst ((cX ss).map .str),true)else none
  | none=>match qe ds with
   | some ns=>if ns.length<64 then some (.lst ((A7 ns).map .int),true)else none
   | none=>match cA ds with
    | some ks=>if ks.length<64/\cY ks=true/\cx ks=true then some (.lst (dr A6 ds),true)else none
    | none=>none
 | _=>none
theorem zg {d e:D}{a:At}(h:qd d=some a) (k:qd e=some a):d=e:=by
 cases d<;>simp only[qd]at h<;>cases h<;>cases e<;>simp only[qd]at k<;>cases k<;>rfl
theorem nr:∀ {ds es:List D}{as:List At},cU ds=some as->cU es=some as->ds=es
 | [],[],_,_,_=>rfl
 | [],e::es,as,h,k=>by
  simp only[cU]at h k
  cases h
  obtain⟨a,_,k⟩:=oX k
  obtain⟨r,_,k⟩:=oY k
  cases k
 | d::ds,[],as,h,k=>by
  simp only[cU]at h k
  cases k
  obtain⟨a,_,h⟩:=oX h
  obtain⟨r,_,h⟩:=oY h
  cases h
 | d::ds,e::es,as,h,k=>by
  simp only[cU]at h k
  obtain⟨a,h1,h⟩:=oX h
  obtain⟨r,h2,h⟩:=oY h
  obtain⟨a',k1,k⟩:=oX k
  obtain⟨r',k2,k⟩:=oY k
  subst h
  injection k with z1 z2
  subst z1;subst z2
  rw[zg h1 k1,nr h2 k2]
theorem A8 {d e:D}{k:List At}(h:jK d=some k) (h':jK e=some k):d=e:=by
 cases d<;>simp only[jK]at h<;>try (cases h;done)
 cases e<;>simp only[jK]at h'<;>try (cases h';done)
 rw[nr h h']
theorem cQ:∀ {ds:List D}{ks:List (List At)},cA ds=some ks->ks.length=ds.length
 | [],_,h=>by simp only[cA]at h;cases h;rfl
 | d::ds,_,h=>by
  simp only[cA]at h
  obtain⟨a,h1,h⟩:=oX h
  obtain⟨r,h2,h⟩:=oY h
  subst h
  simp[cQ h2]
theorem eF:∀ {ds:List D}{ks:List (List At)},cA ds=some ks->∀ {i:Nat},i<ds.length->jK (ds.getD i .non)=some (ks.getD i [])
 | [],_,h,i,hi=>by simp at hi
 | d::ds,_,h,0,hi=>by
  simp only[cA]at h
  obtain⟨a,h1,h⟩:=oX h
  obtain⟨r,h2,h⟩:=oY h
  subst h
  exact h1
 | d::ds,_,h,i+1,hi=>by
  simp only[cA]at h
  obtain⟨a,h1,h⟩:=oX h
  obtain⟨r,h2,h⟩:=oY h
  subst h
  simp only[List.getD_cons_succ]
  exact eF h2 (by simpa using hi)
theorem nu {α:Type}(l:List α) (d:α):(List.range l.length).map (λi=>l.getD i d)=l:=by
 apply List.ext_getElem?
 intro i
 by_cases h:i<l.length
 ·simp[h]
 ·simp[h]
theorem wz {ds:List D}{ks:List (List At)}{p:Array Nat}(hk:cA ds=some ks) (hc:cY ks=true) (ap:Arr ds.length p) (up:Up (rkK ks) p ds.length):p.toList.map (λi=>ds.getD i .non)=dr A6 ds:=by
 have mem:∀x∈ds,∃k∈ks,jK x=some k:=λx hx=>by
  obtain⟨i,hi,rfl⟩:=List.mem_iff_getElem.mp hx
  have:=eF hk hi
  rw[List.getD_eq_getElem?_getD,List.getElem?_eq_getElem hi]at this
  refine⟨_, ?_,this⟩
  have hi':i<ks.length:=by rw[cQ hk];exact hi
  rw[List.getD_eq_getElem?_getD,List.getElem?_eq_getElem hi']
  exact List.getElem_mem hi'
 apply gJ A6
 ·intro x hx y hy e
  obtain⟨k,mk,ek⟩:=mem x hx
  obtain⟨k',mk',ek'⟩:=mem y hy
  unfold A6 at e
  rw[ek,ek']at e
  have:=kK hc mk mk' e
  subst this
  exact A8 ek ek'
 ·have:=ap.perm.map (λi=>ds.getD i .non)
  rw[nu]at this
  exact this
 ·rw[List.pairwise_iff_getElem]
  intro i j hi hj hij
  have hsz:=ap.size
  have hi':i<p.size:=by simpa using hi
  have hj':j<p.size:=by simpa using hj
  have:=up i j (Nat.le_of_lt hij) (by omega)
  unfold bE rkK at this
  have gi:p.getD i 0=p[i]:=by rw[Array.getD_eq_getD_getElem?,Array.getElem?_eq_getElem hi'];rfl
  have gj:p.getD j 0=p[j]:=by rw[Array.getD_eq_getD_getElem?,Array.getElem?_eq_getElem hj'];rfl
  have li:=ap.lt (k:=i) (by omega)
  have lj:=ap.lt (k:=j) (by omega)
  have mj:ks.getD (p.getD j 0) []∈ks:=by
   have h':p.getD j 0<ks.length:=by rw[cQ hk];exact lj
   rw[List.getD_eq_getElem?_getD,List.getElem?_eq_getElem h'];exact List.getElem_mem h'
  have nl:¬ce (ks.getD (p.getD j 0) [])<ce (ks.getD (p.getD i 0) []):=λz=>by
   have:=rY (cs:=ks.map ce) (List.mem_map.mpr ⟨_,mj,rfl⟩) z
   omega
  simp only[List.getElem_map,Array.getElem_toList]
  unfold leF A6
  rw[←gi,←gj,eF hk li,eF hk lj]
  exact nl
section
variable {X:Cx}
theorem uz {K:PySem.W.Frag}{B:Hp}:∀ {vs:List V}{es:List D}{k:List At}{its:List Value},aP vs its->IsL K B vs es->cU es=some k->Paired atV k its
 | _,_,_,_,.nil,.nil,h=>by simp only[cU]at h;cases h;exact .nil
 | _,_,_,_,.cons r rr,.cons i ii,h=>by
  simp only[cU]at h
  obtain⟨a,h1,h⟩:=oX h
  obtain⟨t,h2,h⟩:=oY h
  subst h
  refine .cons ?_ (uz rr ii h2)
  cases i<;>simp only[qd]at h1<;>cases h1
  ·exact r
  ·exact r
theorem mw {pins:List (Addr×Obj)}{σ:St}{H:Hp}{s:Shared}(I:Inv X pins σ H s):∀ {ys:List V}{ds:List D}{ks:List (List At)}{its:List Value},aP ys its->IsL X.K H ys ds->cA ds=some ks->Paired (dB s.heap) ks its
 | _,_,_,_,.nil,.nil,h=>by simp only[cA]at h;cases h;exact .nil
 | _,_,_,_,.cons r rr,.cons i ii,h=>by
  simp only[cA]at h
  obtain⟨a,h1,h⟩:=oX h
  obtain⟨t,h2,h⟩:=oY h
  subst h
  refine .cons ?_ (mw I rr ii h2)
  cases i<;>simp only[jK]at h1<;>try (cases h1;done)
  rename_i hq hl
  cases r
  obtain⟨its',r',⟨o,ho,hc,n,hd⟩,_⟩:=I.tuple hq
  exact⟨_,o,_,n,rfl,ho,hc,hd,by simpa using uz r' hl h1⟩
theorem xR {K:PySem.W.Frag}{B:Hp}:∀ {vs:List V}{ds:List D},IsL K B vs ds->∀ {i:Nat},i<ds.length->Is K B (vs.getD i .non) (ds.getD i .non)
 | _,_,.cons h _,0,_=>h
 | _,_,.cons _ t,i+1,hi=>by
  simp only[List.getD_cons_succ]
  exact xR t (by simpa using hi)
 | _,_,.nil,i,hi=>by simp at hi
theorem u0:∀ {vs:List V}{us:List Value},aP vs us->∀ {i:Nat},i<vs.length->aN (vs.getD i .non) (us.getD i Value.none)
 | _,_,.cons h _,0,_=>h
 | _,_,.cons _ t,i+1,hi=>by
  simp only[List.getD_cons_succ]
  exact u0 t (by simpa using hi)
 | _,_,.nil,i,hi=>by simp at hi
theorem nv {K:PySem.W.Frag}{B:Hp}{vs:List V}{ds:List D}(h:IsL K B vs ds):∀(l:List Nat),(∀i∈l,i<ds.length)->IsL K B (l.map λi=>vs.getD i .non) (l.map λi=>ds.getD i .non)
 | [],_=>.nil
 | i::l,hl=>.cons (xR h (hl i (mX ..))) (nv h l λj hj=>hl j (mZ _ hj))
theorem kL {vs:List V}{us:List Value}(h:aP vs us):∀(l:List Nat),(∀i∈l,i<vs.length)->aP (l.map λi=>vs.getD i .non) (l.map λi=>us.getD i Value.none)
 | [],_=>.nil
 | i::l,hl=>.cons (u0 h (hl i (mX ..))) (kL h l λj hj=>hl j (mZ _ hj))
end
section
variable {X:Cx}
theorem xS {K:PySem.W.Frag}{B:Hp}:∀ {vs:List V}{ds:List D}{ns:List Int}{its:List Value},aP vs its->IsL K B vs ds->qe ds=some ns->IntsAre its ns
 | _,_,_,_,.nil,.nil,h=>by simp only[qe]at h;cases h;exact .nil
 | _,_,_,_,.cons r rr,.cons i ii,h=>by
  cases i<;>simp only[qe]at h<;>try (cases h;done)
  obtain⟨t,h2,h⟩:=oY h
  subst h
  obtain⟨u,rfl⟩:=r
  exact .cons _ u (xS rr ii h2)
theorem qg:∀ {its:List Value}{zs:List Str},StrsAre its zs->aP (zs.map V.str) its
 | _,_,.nil=>.nil
 | _,_,.cons x t r=>.cons ⟨t,rfl⟩ (qg r)
theorem fH:∀ {its:List Value}{zs:List Int},IntsAre its zs->aP (zs.map V.int) its
 | _,_,.nil=>.nil
 | _,_,.cons x t r=>.cons ⟨t,rfl⟩ (fH r)
theorem u5 {K:PySem.W.Frag}{N:Hp}:∀(zs:List Int),IsL K N (zs.map V.int) (zs.map D.int)
 | []=>.nil
 | z::zs=>.cons (.int z) (u5 zs)
theorem A9 {l l':List Int}(p:l'.Perm l) (h:l'.Pairwise (·<=·)):l'=A7 l:=by
 refine gJ _ (λx _ y _ e=>by injection e) p (h.imp λ{a b} hab=>?_)
 unfold leF
 intro z
 rw[List.cons_lt_cons_iff]at z
 rcases z with z|⟨_,z⟩
 ·omega
 ·exact List.lt_irrefl _ z
theorem jk {pins:List (Addr×Obj)}{σ:St}{H B:Hp}{s:Shared}{Q:VK}{its:List Value}{out:Array Value}{ys:List V}{ds:List D}(I:Inv X pins σ H s) (sB:aJ B H) (q:Fin X.K B H (.lst ds) true Q) (hv:aP ys out.toList) (hl:IsL X.K B ys ds) (hz:ys.length<=sizeLine) :
  EP X pins σ Q (.ref (s.heap.objs.size+1)) { s with heap:=sortedAll s.heap its out }:=by
 obtain⟨e,he⟩:=sortedAll_at s.heap its out
 have hp:H (s.heap.objs.size+1)=none:=I.hok.fresh (Nat.le_succ _)
 have xt:=Ext.laid (o:=.lst ys) sB hp
 exact⟨.ref _,_,I.laid (t':=s.toks) (λb o=>sortedAll_old) (Nat.le_succ _) (show bH X.prog X.w _ _ _ (.lst ys)from ⟨hz,out.toList,e,hv,he⟩),rfl,
  q _ _ _ xt (.lst (SqL.of aB) (hl.mono xt.bn)) λ_=>⟨_,_,_,rfl,rfl,hp,aB,hl.mono xt.bn⟩⟩
theorem AA:cf X (.builtin "sorted") (rDA X.K gk):=by
 intro pins s σ H xs us Q I r h
 obtain⟨B,dl,d,bb,sB,i,ee,q⟩:=h
 cases i with
 | nil=>simp[gk]at ee
 | cons i1 i2 =>
  cases i2 with
  | cons _ _=>cases i1<;>simp[gk]at ee
  | nil =>
   cases i1<;>try (simp[gk]at ee;done)
   rename_i l0 vs ds h hl
   obtain⟨u,rfl,rx⟩:=jz r
   cases rx
   obtain⟨its,r',pl,hz⟩:=I.list (sB.seq h)
   have hvl:vs.length=its.length:=r'.length
   have hdl:ds.length=vs.length:=hl.length.symm
   simp only[gk]at ee
   split at ee
   ·rename_i ss es
    split at ee
    ·rename_i h64
     cases ee
     have hst:=jC r' hl es
     have hsl:its.length=ss.length:=by rw[←hst.strs,List.length_map]
     refine sorted_strs pl.isList (by simpa using hst) (by omega) λout ss' a1 a2 a3=>?_
     have e:=pY a2 a3
     subst e
     exact jk I sB q (qg a1) (jG _) (by rw[List.length_map,(bi ss).length_eq,sizeLine_eq];omega)
    ·cases ee
   ·split at ee
    ·rename_i ns es
     split at ee
     ·rename_i h64
      cases ee
      have hst:=xS r' hl es
      have hsl:its.length=ns.length:=IntsAre.length hst
      refine sorted_ints pl.isList (by simpa using hst) (by omega) λout ss' a1 a2 a3=>?_
      have e:=A9 a2 a3
      subst e
      exact jk I sB q (fH a1) (u5 _) (by rw[List.length_map];unfold A7;rw[(bF _ ns).length_eq,sizeLine_eq];omega)
     ·cases ee
    ·split at ee
     ·rename_i ks es
      split at ee
      ·rename_i hh
       obtain⟨h64,hc,hf⟩:=hh
       cases ee
       have hkl:=cQ es
       have hst:=mw I r' (hl.mono sB) es
       refine uy pl.isList (by simpa using hst) hc hf (by omega) λp ap up=>?_
       have hpl:its.length=ds.length:=by omega
       rw[hpl]at ap up
       have e:=wz es hc ap up
       have hin:∀i∈p.toList,i<ds.length:=λi hi=>List.mem_range.mp (ap.perm.mem_iff.mp hi)
       have il:=nv hl p.toList hin
       rw[e]at il
       refine jk I sB q (ys:=p.toList.map λi=>vs.getD i .non) ?_ il ?_
       ·simpa using kL r' p.toList λi hi=>by rw[←hdl];exact hin i hi
       ·rw[List.length_map,Array.length_toList,ap.size,sizeLine_eq];omega
      ·cases ee
     ·cases ee
end
end DL
namespace DL
open PySem PySem.Spec PyProof.Rows L2
section
variable {X:Cx}{pos:Pos}
@[simp] def Ic (i:Nat) (f:FE):FS:=λρ=>match ρ[i]? with
 | some (some (.lst ds,true))=>(f ρ).bind λx=>(qe ds).bind λns=>match x.1 with
  | .int n=>if ns.findIdx (· == n)<ns.length then some (.nx (ρ.set i (some (.lst ((ns.eraseIdx (ns.findIdx (· == n))).map .int),true))))else none
  | _=>none
 | _=>none
end
section
variable {prog:Program}{w:World}{A:Around}{E:Value->Shared->Prop}{s:Shared}
theorem w4 {a:Addr}{o:Obj}{its:Array Value}{n:Nat}{x:Value}{e:Value->Bool}{j:Nat}{P:PySem.Fin->Shared->Prop}(ho:s.heap.get? a=some o) (hd:o.data=.seq its n)
  (he:∀y∈its,MeetsSeq.EqGives y x (e y)) (hj:j<its.size) (hit:e its[j]=true) (hno:∀m (hm:m<its.size),m<j->e its[m]=false)
  (h:P (.done (.ret (.int j s.toks))) { s with toks:=s.toks+1 }):wpAny (model prog w) A (Builtin.«tuple.index» ⟨[.ref a,x],[]⟩) P E s:=by
 show wpAny _ _ (Builtin.Tuple.tupleItemsOf (.ref a)>>=_) _ _ s
 refine wX (wpAny_tupleItemsOf ho hd ?_)
 dsimp only
 refine wX (wY (wX (wY (wX ?_))))
 rw[Std.Legacy.Range.forIn_eq_forIn_range']
 refine wpAny_forIn_list _
  (λa0 r s'=>r.1=none/\s'=s/\∃i,i<=j/\a0=List.range' i (its.size - i))
  _ ?_ ?_ _ _ ⟨rfl,rfl,0,Nat.zero_le _, ?_⟩
 ·rintro k a0 r s' ⟨hr,rfl,i,hi,hz⟩
  have hlt:i<its.size:=by omega
  obtain⟨m,hm⟩:∃m,its.size - i=m+1:=⟨its.size - i - 1,by omega⟩
  rw[hm,List.range'_succ]at hz
  injection hz with z1 z2
  have z1:=z1.symm
  subst z1
  subst z2
  have hg:its[i]? = some its[i]:=by simp[hlt]
  simp only[hg]
  refine wX (he _ (Array.getElem_mem hlt) prog w _ _ _ _ ?_)
  by_cases hij:i=j
  ·subst hij
   rw[hit]
   simp only[if_true]
   refine wX ?_
   show wpAny _ _ (mkInt (i:Int)>>=λv=>ret v) _ _ _
   exact wX (wpAny_mkInt (wY (wY (wY h))))
  ·rw[hno i hlt (by omega)]
   simp only[Bool.false_eq_true,if_false]
   exact wY ⟨rfl,rfl,i+1,by omega,by rw[show its.size - (i+1)=m by omega]⟩
 ·rintro⟨r1,r2⟩ s' ⟨hr,rfl,i,hi,hz⟩
  exfalso
  have:(List.range' i (its.size - i)).length=0:=by rw[←hz];rfl
  rw[List.length_range']at this
  omega
 ·simp
end
theorem CRows.findT {K:PySem.W.Frag}{P:Params}(y:Str) {ds:List D}:∀ {es:List DictEntry}{kvs:List (Str×D)},CRows K P es kvs->kvs.lookup y=some (.tup ds) ->
  ∃e a its n osl,es.find? (λe=>Value.isStrOf y e.key)=some e/\e.val=.ref a/\K.lookup a=some ⟨.type "tuple",none,.seq its n,osl⟩/\gd its.toList ds=true
 | _,_,.nil,h=>by simp at h
 | _,_,.tup (x:=x) (t:=t) (a:=a) (ds:=ds') hh l f tl,h=>by
  by_cases e:y=x
  ·subst e
   rw[List.lookup_cons_self]at h
   cases h
   rw[Bool.and_eq_true]at f
   exact⟨_,a,_,_,_,List.find?_cons_of_pos (by simp[Value.isStrOf]),rfl,l,f.2⟩
  ·rw[List.lookup_cons,beq_eq_false_iff_ne.mpr e]at h
   have nf:Value.isStrOf y (Value.str x t)=false:=by
    rw[Bool.eq_false_iff]
    intro z
    obtain⟨t',q⟩:=Value.isStrOf_shape z
    injection q with q1
    exact e q1.symm
   simp only[List.find?_cons,nf]
   exact tl.findT y h
 | _,_,.flat (x:=x) (t:=t) (u:=u) (d:=d) hh f tl,h=>by
  by_cases e:y=x
  ·subst e
   rw[List.lookup_cons_self]at h
   cases h
   cases u<;>simp[rM]at f
  ·rw[List.lookup_cons,beq_eq_false_iff_ne.mpr e]at h
   have nf:Value.isStrOf y (Value.str x t)=false:=by
    rw[Bool.eq_false_iff]
    intro z
    obtain⟨t',q⟩:=Value.isStrOf_shape z
    injection q with q1
    exact e q1.symm
   simp only[List.find?_cons,nf]
   exact tl.findT y h
section
variable {X:Cx}{b e:Expr}{pos:Pos}{x:Str}{p:Pos}
def Hy (K:PySem.W.Frag):V->List V->Hp->VK->Prop:=λx xs H Q=>∃(a:Addr) (o:Obj) (its:Array Value) (n:Nat) (zs:List Str) (y:Str),x=.ref a/\xs=[.str y]/\K.lookup a=some o/\o.cls=.type "tuple"/\o.data=.seq its n/\StrsAre its.toList zs/\zs.findIdx (· == y)<zs.length/\Q (.int (zs.findIdx (· == y):Nat)) H
def DQ (y:Str):Value->Bool
 | .str z _=>z == y
 | _=>false
theorem xT:∀ {its:List Value}{zs:List Str},StrsAre its zs->∀(i:Nat) (hi:i<its.length),∃(h:i<zs.length) (t:Tok),its[i]=.str zs[i] t
 | _,_,.cons z t h,0,_=>⟨by simp,t,rfl⟩
 | _,_,.cons z t h,i+1,hi=>by
  obtain⟨h',t',e⟩:=xT h i (by simpa using hi)
  exact⟨by simpa using h',t',by simpa using e⟩
 | _,_,.nil,i,hi=>by simp at hi
theorem u6:∀ {its:List Value}{zs:List Str},StrsAre its zs->its.length=zs.length
 | _,_,.nil=>rfl
 | _,_,.cons _ _ h=>by rw[List.length_cons,List.length_cons,u6 h]
theorem AB:MtR X "tuple.index" (Hy X.K):=by
 intro pins s σ H x xs v us Q I rx rv h
 obtain⟨a,o,its,n,zs,y,rfl,rfl,lk,hc,hd,hz,hk,q⟩:=h
 cases rx
 obtain⟨u,rfl,⟨t,rfl⟩⟩:=rv.one
 have ho:=I.kIn a o lk
 have hl:=u6 hz
 rw[Array.length_toList]at hl
 have at':∀(i:Nat) (hi:i<its.size),∃(h:i<zs.length) (t:Tok),its[i]=.str zs[i] t:=λi hi=>by
  obtain⟨h',t',e⟩:=xT hz i (by simpa using hi)
  exact⟨h',t',by simpa using e⟩
 refine wpAny_call_entry PySem.F.slot_tuple_index ⟨o,ho,hc⟩ PySem.F.entry_tuple_index (w4 (e:=DQ y) (j:=zs.findIdx (· == y)) ho hd (λz hm=>?_) (by omega) ?_ (λm hm hlt=>?_) ⟨_,rfl,.int (zs.findIdx (· == y):Nat),H,I.tok _,⟨_,rfl⟩,q⟩) (PySem.F.args_tuple_index_2 _ _)
 ·obtain⟨i,hi,rfl⟩:=Array.mem_iff_getElem.mp hm
  obtain⟨_,t',e'⟩:=at' i hi
  rw[e']
  exact eqGives_str _ _ _ _
 ·obtain⟨_,t',e'⟩:=at' (zs.findIdx (· == y)) (by omega)
  rw[e']
  exact List.findIdx_getElem (p:=(· == y)) (w:=hk)
 ·obtain⟨_,t',e'⟩:=at' m hm
  rw[e']
  have:=List.not_of_lt_findIdx (p:=(· == y)) (xs:=zs) hlt
  simpa [DQ]using this
@[simp] def pw (kvs:List (Str×D)):D->D->Option (D×Bool)
 | .str y,.str z=>match kvs.lookup y with
  | some (.tup ds)=>(eN ds).bind λzs=>if zs.findIdx (· == z)<zs.length then some (.int (zs.findIdx (· == z):Nat),false)else none
  | _=>none
 | _,_=>none
theorem Cz {kvs:List (Str×D)}{f g:FE}{apos cpos:Pos}(h:∃d,X.mg x=some (.ref d)/\pP X.K X.w.params d kvs) (hb:JE X b f) (he:JE X e g) (hg:Gl X x:=by rfl) (hdb:(x == ("__debug__" : Str))=false:=by decide) (hs:mr b:=by intro _ _;rfl)
  (hbase:attributeBase (.Subscript (.Name x p) b pos) "index" X.env (eval (.Subscript (.Name x p) b pos) X.env)=eval (.Subscript (.Name x p) b pos) X.env:=by rfl)
  (hfew:((backTo cpos (starEach [e] X.env)).all (λx=>!x.1) && (backToKw cpos (keywordEach [] X.env)).all (λx=>x.1.isSome)
   && decide ([e].length+([]:List Keyword).length+(if([]:List Keyword).isEmpty then 0 else 1)<30))=true:=by rfl)
  (hline:(apos.endLine == cpos.line)=true:=by rfl) (hst:starEach [e] X.env=[(false,eval e X.env)]:=by rfl) :
  JE X (.Call (.Attribute (.Subscript (.Name x p) b pos) "index" apos) [e] [] cpos) (f2 (pw kvs) f g):=by
 obtain⟨d,hm,cd⟩:=h
 have ix:IxR X (λx y H Q=>∃z ds,x=.ref d/\y=.str z/\kvs.lookup z=some (.tup ds)/\∀a its n osl,X.K.lookup a=some ⟨.type "tuple",none,.seq its n,osl⟩->gd its.toList ds=true->Q (.ref a) H):=by
  intro value slice pins s σ H x y v u Q I rx ry q hs
  obtain⟨z,ds,rfl,rfl,el,q⟩:=q
  cases rx
  obtain⟨t,rfl⟩:=ry
  obtain⟨es,n,l,r,sm⟩:=cd
  have hM:=PySem.W.mapOf_K (prog:=X.prog) (w:=X.w) I.kIn l r.lit
  obtain⟨en,a,its,n',osl,e1,e2,e3,e4⟩:=r.findT z el
  have ff:findBy Value.isStrOf es z=some (.ref a):=by
   unfold findBy
   obtain⟨es⟩:=es
   rw[List.find?_toArray,e1,←e2]
   rfl
  exact tail_any hM.typeIs slot_dict_getitem.lookup (wpAny_getItem_of (strKind_is X.prog X.w z t) hM ff ⟨.ref a,H,I.tok _,rfl,q a _ _ _ e3 e4⟩) hs
 refine PE.to (Dy (T:="tuple") PySem.F.plainAttrs_tuple PySem.F.slot_tuple_index PySem.F.type_tuple_index AB (Dx ix (xp (v:=.ref d) hg hm rfl hdb) hb hs) (ga he iU hst) hbase hfew hline hst rfl) λσ H Q q=>?_
 obtain⟨B,ρ,d',bb,sB,r,ee,q⟩:=q
 obtain⟨x1,ex,ee⟩:=oX ee
 obtain⟨y1,ey,ee⟩:=oX ee
 obtain⟨xd,xb⟩:=x1
 obtain⟨yd,yb⟩:=y1
 cases xd with
 | str z =>
  cases yd with
  | str y =>
   refine⟨B,ρ,_,xb,sB,r,ex,λv H1 N1 xt i1 _=>?_⟩
   cases i1
   simp only[pw]at ee
   split at ee
   ·rename_i ds el
    obtain⟨zs,ez,ee⟩:=oX ee
    split at ee
    ·rename_i hk
     cases ee
     refine⟨z,ds,rfl,rfl,el,λa its n osl l fl=>⟨.inr (.inl ⟨rfl,_,l,rfl,rfl⟩),N1,ρ,_,yb,xt.nh,r.mono xt.bn,ey,λv2 H2 N2 xt2 i2 _=>?_⟩⟩
     cases i2
     obtain⟨vs,rv,iv⟩:=ge (K:=X.K) fl
     exact⟨a,_,its,n,zs,y,rfl,rfl,l,rfl,rfl,jC rv (iv N2) ez,hk,(q.into (xt.trans xt2)).one xt2.nh (.int _)⟩
    ·cases ee
   ·cases ee
  | _=>simp[pw]at ee
 | _=>simp[pw]at ee
end
open PySem.W (tabIn tabObj CodeHd kla_fn kla_obj kla_eval kla_makeFunction kla_makeFunctionHit kla_callFunE kla_codeExpr envX)
def GH (K:PySem.W.Frag) (c P:Addr):Prop:=∃o vs file tf flags tg inF text tt,K.lookup c=some o/\o.cls=.type "code"/\o.data=.fields vs/\vs[11]? = some (.ref P)/\vs.getD 11 .none=.ref P/\vs.getD 18 .none=.str file tf /\
 vs.getD 7 .none=.int flags tg/\vs.getD 9 .none=.bool inF/\vs.getD 10 .none=.int text tt/\c≠P
def sd (K:PySem.W.Frag) (x:Str):Prop:=∃c P,tabIn K x=some (c,P)/\GH K c P
def AC (H:Hp) (f:Addr) (q:Str) (params:Arguments) (body:Expr) (scope:Scope) (cl:List (Str×Addr)):Prop :=
 ∃pm c ctv u oc u' vs t,H f=some (.frz (kla_obj "<lambda>" q params body scope cl pm c ctv) u)/\H c=some (.frz oc u')/\oc.data=.fields vs/\vs[1]? = some (.str q t)
theorem AC.mono {H H':Hp}{f:Addr}{q:Str}{params:Arguments}{body:Expr}{scope:Scope}{cl:List (Str×Addr)}(h:AC H f q params body scope cl) (e:aJ H H'):AC H' f q params body scope cl :=
 let ⟨pm,c,ctv,u,oc,u',vs,t,h1,h2,h3,h4⟩:=h;⟨pm,c,ctv,u,oc,u',vs,t,e _ _ h1,e _ _ h2,h3,h4⟩
theorem lam_mk {K:PySem.W.Frag}{x:Str}{f c P:Addr}{oc:Value}{od od':Option Addr}{osl osl':Array (Option Value)}{fd:FuncData}{vs:Array Value}{file:Str}{tf tg tt:Tok}{flags text:Int}{inF:Bool}(e1:PySem.W.nsIn K mainGlobals x=some (some (.ref f))) (e2:K.lookup f=some ⟨oc,od,.func fd,osl⟩)
  (e3:fd.code=.ref c) (e4:K.lookup c=some ⟨.type "code",od',.fields vs,osl'⟩) (e5:vs[11]? = some (.ref P)) (e6:vs.getD 11 .none=.ref P) (e7:vs.getD 18 .none=.str file tf) (e8:vs.getD 7 .none=.int flags tg) (e9:vs.getD 9 .none=.bool inF) (e10:vs.getD 10 .none=.int text tt) (e11:(c == P)=false):sd K x :=
 ⟨c,P,tab_yes e1 e2 e3 e4 e5,_,vs,file,tf,flags,tg,inF,text,tt,e4,rfl,rfl,e5,e6,e7,e8,e9,e10,λz=>by rw[z]at e11;simp at e11⟩
theorem wA {pos:Pos}{a b:Int}{c cv:Value}(l:List Value) (h:TriplesOk l) (e:codeAmong pos (l++[rawInt a,rawInt b,c])=some cv):codeAmong pos l=some cv∨cv=c:=by
 fun_induction TriplesOk l with
 | case1 =>
  simp only[List.nil_append,rawInt,codeAmong]at e
  split at e
  ·cases e;exact .inr rfl
  ·cases e
 | case2 a' t b' u x a0 ih =>
  simp only[List.cons_append,codeAmong]at e ⊢
  split at e
  ·rename_i hc;rw[if_pos hc];exact .inl e
  ·rename_i hc;rw[if_neg hc];exact ih h e
 | case3 l h1 h2=>exact h.elim
section
variable {X:Cx}{pins:List (Addr×Obj)}{σ:St}{H:Hp}{s:Shared}
theorem AD {x:Str}{params:Arguments}{body:Expr}{scope:Scope}{pos:Pos}{cl:List (Str×Addr)}{Q:Value->Shared->Prop}{E:Value->Shared->Prop}
  (hx:x∈j6) (L:sd X.K x) (hc:∀c P,tabIn X.K x=some (c,P)->X.env.code=.ref c) (hq:X.env.qual ++ "<lambda>" = mJ x) (hdef:defaultsOf params X.env=([],[])) (hcl:closureFor scope X.env=pure cl)
  (I:Inv X pins σ H s) (tb:Tb X.K H) (k:∀f H' s',Inv X pins σ H' s'->aJ H H'->AC H' f (mJ x) params body scope cl->Q (.ref f) s') :
  wpAny (model X.prog X.w) X.A (eval (.Lambda params body scope pos) X.env) Q E s:=by
 refine kla_eval hdef ?_
 rw[hq]
 obtain⟨c,P,ht,o,vs,file,tf,flags,tg,inF,text,tt,lk,ck⟩:=L
 have hcode:=hc c P ht
 have hP:=tb x hx c P ht
 obtain⟨ps,e,tr,co⟩:=I.hok P _ hP
 have C:CodeHd s.heap c P:=⟨o,vs,file,tf,flags,tg,inF,text,tt,I.kIn c o lk,ck⟩
 have hg:s.heap.Ns mainGlobals X.mg:=I.mod.glob.keeps I.bk
 have nP:∀b,H b=none->b≠P:=λb n z=>by rw[z,hP]at n;cases n
 have hgP:mainGlobals≠P:=by
  obtain⟨og,_,_,eg,_⟩:=I.mod.glob
  exact nP _ (I.bs _ _ eg).2
 have hb:s.heap.BuiltinsAt X.mg P:=by
  obtain⟨bm,ob,b1,b2,b3,b4,b5,b6⟩:=I.mod.bmain
  refine⟨bm,ob,b1,b2,λz=>?_,nP _ (I.bs _ _ b3).2,I.bk _ _ b3,b4,b5,b6⟩
  obtain⟨og,es,ep,eg,dg,_⟩:=I.mod.glob
  rw[z,eg]at b3;cases b3
  rw[dg]at b6;cases b6
 cases hf:codeAmong pos ps.toList with
 | some cv =>
  obtain⟨c',oc,u,ws,t,rfl,hH,hd,hv⟩:=co pos cv hf
  refine kla_makeFunctionHit (mg:=X.mg) hcl I.ok.glob hg hcode C e tr hf hb λctv h' tk hk hsz=>?_
  have hn:H h'.objs.size=none:=I.hok.fresh hsz
  have sm:aJ H (upd H h'.objs.size (.frz (kla_obj "<lambda>" (mJ x) params body scope cl ((X.mg "__name__").getD .none) c' ctv) (.own h'.objs.size))):=λb u q=>by rw[a9 (aL q hn)];exact q
  refine k _ _ _ (I.laid (t':=tk) (λb u q=>Heap.get?_push_of_some _ (hk b u q)) hsz (show bH X.prog X.w _ _ _ (.frz _ (.own h'.objs.size))from ⟨Heap.get?_push_size _ rfl,_,Heap.get?_push_size _ rfl⟩)) sm ?_
  exact⟨_,c',ctv,_,oc,u,ws,t,aB,sm _ _ hH,hd,hv⟩
 | none =>
  refine kla_makeFunction (mg:=X.mg) hcl I.ok.glob hg hcode C e tr hf hgP hb λc' ctv h' tk hx' hge hlt hrec htb=>?_
  obtain⟨c2,oc,ws,t,e2,hoc,hd,hv⟩:=hrec
  cases e2
  have hnc:H c'=none:=I.hok.fresh hge
  have hsz:s.heap.objs.size<=h'.objs.size:=Nat.le_trans hge (Nat.le_of_lt hlt)
  have hnf:H h'.objs.size=none:=I.hok.fresh hsz
  have ncf:c'≠h'.objs.size:=Nat.ne_of_lt hlt
  let fo:Obj:=kla_obj "<lambda>" (mJ x) params body scope cl ((X.mg "__name__").getD .none) c' ctv
  let H1:Hp:=upd (upd H c' (.frz oc (.own c'))) h'.objs.size (.frz fo (.own h'.objs.size))
  have sm:aJ H H1:=λb u q=>by
   show upd _ _ _ b=_
   rw[a9 (aL q hnf),a9 (aL q hnc)];exact q
  have H1c:H1 c'=some (.frz oc (.own c')):=by show upd _ _ _ c'=_;rw[a9 ncf,aB]
  have keep:∀b u,b≠P->s.heap.get? b=some u->(h'.push fo).get? b=some u:=λb u n q=>Heap.get?_push_of_some _ (hx' b u n q)
  have lt:∀b u,s.heap.get? b=some u->b≠c'/\b≠h'.objs.size:=λb u q=>⟨Nat.ne_of_lt (Nat.lt_of_lt_of_le (Heap.lt_size q) hge),Nat.ne_of_lt (Nat.lt_of_lt_of_le (Heap.lt_size q) hsz)⟩
  have htb':(h'.push fo).get? P=some (tabObj (ps++#[rawInt pos.line,rawInt pos.col,.ref c'])):=Heap.get?_push_of_some _ htb
  refine k _ H1 _ (I.un (t':=tk) (h':=h'.push fo) ⟨λb u q n _ _=>keep b u (nP b n) q,λb u q n _ _=>⟨u.slots,keep b u (nP b n) q⟩,λb u q n _=>?_,λb u q _=>?_,λb xs q=>sm _ _ q,λb ob u q=>sm _ _ q,λb u q=>sm _ _ q⟩ λb u q=>?_) sm ⟨_,c',ctv,_,oc,_,ws,t,aB,H1c,hd,hv⟩
  ·show upd _ _ _ b=_
   rw[a9 (lt b u q).2,a9 (lt b u q).1];exact n
  ·by_cases z:b=P
   ·subst z;exact⟨_,htb'⟩
   ·exact⟨u,keep b u z q⟩
  ·by_cases z1:b=h'.objs.size
   ·subst z1
    have q':some (HO.frz fo (.own h'.objs.size))=some u:=by rw[←q];exact aB.symm
    cases q'
    exact⟨Heap.get?_push_size _ rfl,_,Heap.get?_push_size _ rfl⟩
   ·by_cases z2:b=c'
    ·subst z2
     rw[H1c]at q;cases q
     exact⟨Heap.get?_push_of_some _ hoc,_,Heap.get?_push_of_some _ hoc⟩
    ·have q':H b=some u:=by
      have:H1 b=H b:=by show upd _ _ _ b=_;rw[a9 z1,a9 z2]
      rw[←this];exact q
     by_cases z3:b=P
     ·subst z3
      rw[hP]at q';cases q'
      refine⟨_,htb', ?_,λpos' cv' ea=>?_⟩
      ·rw[Array.toList_append];exact TriplesOk_snoc _ _ _ _ tr
      ·rw[Array.toList_append]at ea
       rcases wA _ tr ea with ea|rfl
       ·obtain⟨c3,oc3,u3,vs3,t3,y1,y2,y3⟩:=co pos' cv' ea
        exact⟨c3,oc3,u3,vs3,t3,y1,sm _ _ y2,y3⟩
       ·exact⟨c',oc,_,ws,t,rfl,H1c,hd,hv⟩
     ·refine(I.hok b u q').stay (λd v hd' r=>keep d v ?_ r) (λd r=>sm _ _ r) (λd xs r=>sm _ _ r) λd ob v r=>sm _ _ r
      rcases hd' with rfl|r
      ·exact z3
      ·intro z;rw[z,hP]at r;cases r
end
section
variable {P:Program}{w:World}{K:PySem.W.Frag}{mg:Str->Option Value}{base:Heap}
theorem Def.fnL {x:Str}{st:Stmt}{N ps:List Str}{k:Nat}{g:FS}{h:Heap}(F:Def K x st) (X:K.In h) (G:h.Ns mainGlobals mg) (S:FnScope N ps (ax st))
  (hbd:∀(kV doc pm:Value) (an:Option Addr) (cdv ct:Value) (us:List Value),us.length=ps.length->bindArgs (PySem.W.fnOf x x (eY st) (c7 st) (ax st) .none kV doc pm an cdv ct) ⟨us,[]⟩=pure (ps.zip us))
  (hb:∀(f:Addr) (cdv:Value) (A:Around) (outer:List PySem.Env) (s:Shared) (H:Hp) (E:XK),(∀c P,tabIn K x=some (c,P)->cdv=.ref c)->Room k (A.deeper (envOfC x (ax st) s.heap.objs.size f cdv))->JSs (mF CX0 P w K mg base N x (ax st) f cdv A outer s H E).nox (c7 st) g) :
  Fn P w K mg base (k+1) x (aX g ps.length (N.length - ps.length)):=by
 obtain⟨f,fd,F1,a⟩:=F
 have F2:=F1
 obtain⟨oc,od,kV,doc,pm,an,cdv,ct,osl,rfl,lk,hcd⟩:=F2.ex
 have hc:∀c P,tabIn K x=some (c,P)->cdv=.ref c:=λc P e=>by
  unfold tabIn at e
  simp only[a,lk]at e
  split at e
  ·rename_i c' _
   split at e
   ·split at e
    ·cases e;rfl
    ·cases e
   ·cases e
  ·cases e
 have len:∀vs H Q E,spD K (aX g ps.length (N.length - ps.length)) vs H Q E->vs.length=ps.length:=λvs H Q E h=>by
  obtain⟨B,ds,d,b,sB,i,e,q⟩:=h
  unfold aX at e
  split at e
  ·rename_i hl;rw[i.length];exact hl
  ·cases e
 refine⟨f,_,ps,Dw lk hcd S len λA outer s H vs Q E hr h=>⟨_,PSs.nox (hb f cdv A outer s H E hc hr), ?_⟩,PySem.W.mg_of X G a,F1.kp,F1.binds hbd⟩
 have hlen:=len vs H Q E h
 obtain⟨B,ds,d,b,sB,i,e,q⟩:=h
 unfold aX at e
 rw[if_pos (by rw[←i.length];exact hlen)]at e
 have s0:=tG (N:=N) sB.1 sB.2 i
 rw[hlen]at s0
 split at e
 ·rename_i d' b' eg
  cases e
  exact⟨B,H,_,_,⟨B,s0⟩,eg,λv H' N' x' i' f'=>q v H' N' x' i' f'⟩
 ·rename_i ρ' eg
  cases e
  exact⟨B,H,_,_,⟨B,s0⟩,eg,λσ' H' ⟨N',s'⟩=>q .non H' N' s'.ext .non (by simp)⟩
 ·cases e
end
inductive LCaps (X:Cx) (N':List Str) (scope:Scope) (cl:List (Str×Addr)):Nat->List Nat->Prop where
 | nil {j:Nat}(h:N'.length=j):LCaps X N' scope cl j []
 | cons {j i:Nat}{r:List Nat}{x:Str}(h1:N'[j]? = some x) (h2:X.N[i]? = some x) (h3:X.env.kindOf x=some .cell∨X.env.kindOf x=some .free)
   (h4:scope.names.lookup x=some .free) (h5:cl.lookup x=X.env.cells.lookup x) (t:LCaps X N' scope cl (j+1) r):LCaps X N' scope cl j (i::r)
theorem LCaps.len {X:Cx}{N':List Str}{scope:Scope}{cl:List (Str×Addr)}:∀ {j:Nat}{cap:List Nat},LCaps X N' scope cl j cap->N'.length=j+cap.length
 | _,_,.nil h=>by rw[h];rfl
 | j,i::r,.cons _ _ _ _ _ t=>by rw[t.len,List.length_cons];omega
theorem LCaps.get {X:Cx}{N':List Str}{scope:Scope}{cl:List (Str×Addr)}:∀ {j:Nat}{cap:List Nat}{k i:Nat},LCaps X N' scope cl j cap->cap[k]? = some i->∃x,N'[j+k]? = some x/\X.N[i]? = some x/\(X.env.kindOf x=some .cell∨X.env.kindOf x=some .free) /\
  scope.names.lookup x=some .free/\cl.lookup x=X.env.cells.lookup x
 | _,_,_,_,.nil _,e=>by simp at e
 | j,_,0,_,.cons h1 h2 h3 h4 h5 _,e=>by simp at e;subst e;exact⟨_,h1,h2,h3,h4,h5⟩
 | j,_,k+1,i,.cons _ _ _ _ _ t,e=>by
  obtain⟨x,q,r⟩:=t.get (k:=k) (i:=i) (by simpa using e)
  exact⟨x,by rw[show j+(k+1)=j+1+k by omega];exact q,r⟩
abbrev u7 (X:Cx) (N':List Str) (scope:Scope) (cl:List (Str×Addr)) (q:Str) (A:Around) (f c:Addr) (s:Shared) (H:Hp):Cx :=
 { X with A:=A.deeper (envX q scope s.heap.objs.size f (.ref c) cl),N:=N',s₀:=s,H₀:=H,env:=envX q scope s.heap.objs.size f (.ref c) cl,outer:=X.stack,stack:=envX q scope s.heap.objs.size f (.ref c) cl::X.stack,ex:=[],fn:=λ_=>false,calm:=true,pn:=[],xe:=λ_ _=>False }
structure LamSc (X:Cx) (scope:Scope) (cl:List (Str×Addr)) (y:Str):Prop where
 clos:closureFor scope X.env=pure cl
 nocell:∀z∈scope.names,z.2≠.cell
 kind:scope.kind=.function
 co:scope.isCoroutine=false
 gen:scope.isGenerator=false
 par:scope.names.lookup y=some .local
 sub:∀x c,cl.lookup x=some c->X.env.cells.lookup x=some c
 has:∀x,scope.names.lookup x=some .free->∃c,cl.lookup x=some c
theorem AE {X:Cx}{scope:Scope}{y:Str}(h1:∀z∈scope.names,z.2≠.cell) (h2:scope.kind=.function) (h3:scope.isCoroutine=false) (h3':scope.isGenerator=false) (hp:scope.names.lookup y=some .local)
  (h4':(scope.names.all λz=>!(z.2 == NameKind.free) || (X.env.cells.lookup z.1).isSome)=true):LamSc X scope (eW scope.names X.env.cells []) y:=by
 have h4:∀z∈scope.names,z.2=.free->(X.env.cells.lookup z.1).isSome=true:=λz hz e=>by
  have:=List.all_eq_true.mp h4' z hz
  rw[e]at this
  simpa using this
 exact⟨pL scope.names [] h4,h1,h2,h3,h3',hp,λx c e=>j7 scope.names [] (λy d q=>by cases q) e,λx h=>by
  have:=j8 (x:=x) scope.names [] (d8 h) (h4 _ (d8 h) rfl)
  exact Option.isSome_iff_exists.mp this⟩
section
variable {X:Cx}{pins:List (Addr×Obj)}{σ:St}{H:Hp}{s:Shared}{A:Around}{N':List Str}{scope:Scope}{cl:List (Str×Addr)}{q y:Str}{cap:List Nat}
theorem C0 {f c:Addr}{v:V}{u:Value}{h₁:Heap}{tk:Nat}(S:LamSc X scope cl y) (N0:N'[0]? = some y) (cp:LCaps X N' scope cl 1 cap) (I:Inv X pins σ H s) (hA:A.frames=some X.stack) (hh:A.handled=none) (r:aN v u)
  (hns:h₁.Ns s.heap.objs.size (λx=>[(y,u)].reverse.lookup x)) (hk:∀b o,s.heap.get? b=some o->h₁.get? b=some o) :
  Inv (u7 X N' scope cl q A f c s H) [] (some v::pj 0 cap σ) H { s with heap:=h₁,toks:=tk }:=by
 have noA:∀b:Addr,b∉(u7 X N' scope cl q A f c s H).ex:=λb z=>absurd (show b∈([]:List Addr)from z) (by simp)
 refine⟨⟨I.ok.mod,S.kind,rfl,rfl,Nat.le_refl _,λx z d e1 e2=>I.ok.inj x z d (S.sub _ _ e1) (S.sub _ _ e2),λx hx=>?_,(λx d e=>by cases e),λ_=>hh,Around.frames_deeper hA,.inr ⟨rfl,rfl⟩,λb z=>absurd z (noA b),I.bs,Nat.le_trans I.ok.bsz I.sz,λb _ _=>noA b,λb z=>absurd z (noA b),I.stack,I.stkFree⟩,
  rfl,I.bare,Un.kept hk,⟨_,hns,λi x v' e1 e2 e3=>?_⟩,λx d e=>?_,I.hok.fresh (Nat.le_refl _),λx d e=>I.freeC x d (S.sub _ _ e),λp hp=>absurd (show p∈([]:List (Addr×Obj))from hp) (by simp),I.hok.kept hk, ?_⟩
 ·have hx':scope.names.lookup x=some .cell∨scope.names.lookup x=some .free:=hx
  rcases hx' with hx'|hx'
  ·exact absurd rfl (S.nocell _ (d8 hx'))
  ·exact S.has x hx'
 ·cases i with
  | zero =>
   have e1':N'[0]? = some x:=e1
   rw[N0]at e1';cases e1'
   have e2':some v=some v':=by simpa using e2
   cases e2'
   exact⟨u,r,.inl ⟨S.par,by simp⟩⟩
  | succ k =>
   have e2':(pj 0 cap σ)[k]? = some (some v'):=by simpa using e2
   obtain⟨k',i',hk',g1,g2⟩:=rA e2'
   have:k=k':=by omega
   subst this
   obtain⟨x',n1,n2,n3,n4,n5⟩:=cp.get g1
   have:x'=x:=by
    have e1':N'[k+1]? = some x:=e1
    rw[show 1+k=k+1 by omega]at n1
    rw[n1]at e1';exact Option.some.inj e1'
   subst this
   have g2':σ[i']? = some (some v'):=by
    cases z:σ[i']? with
    | none=>rw[z]at g2;cases g2
    | some w=>rw[z]at g2;cases w with
     | none=>cases g2
     | some w=>cases g2;rfl
   obtain⟨m,_,hl⟩:=I.loc
   obtain⟨u',ru,lk⟩:=hl i' x' v' n2 g2' (by
    rcases n3 with n3|n3
    ·exact .inr (.inl n3)
    ·exact .inr (.inr n3))
   refine⟨u',ru,.inr ⟨.inr n4, ?_⟩⟩
   rcases lk with ⟨l1,_⟩|⟨_,d,l2,l3⟩
   ·rcases n3 with n3|n3<;>(rw[l1]at n3;cases n3)
   ·obtain⟨ob,ho,hd⟩:=l3
    exact⟨d,by show cl.lookup x'=_;rw[n5];exact l2,ob,hk _ _ ho,hd⟩
 ·obtain⟨w,ob,ho,hd⟩:=I.cell x d (S.sub _ _ e)
  exact⟨w,ob,hk _ _ ho,hd⟩
 ·have:=cp.len
  show(some v::pj 0 cap σ).length=N'.length
  unfold pj
  rw[this];simp;omega
theorem C1 {f:Addr}{params:Arguments}{body:Expr}{fb:FE}{B:Hp}{ρ:Env}{v:V}{u:Value}{d d':D}{b':Bool}{Q:VK}(S:LamSc X scope cl y) (N0:N'[0]? = some y) (cp:LCaps X N' scope cl 1 cap) (I:Inv X pins σ H s)
  (hA:A.frames=some X.stack) (hh:A.handled=none) (hroom:A.depth<recursionLimit) (lv:AC H f q params body scope cl)
  (hbind:∀pm c ctv u,bindArgs (kla_fn "<lambda>" q params body scope cl pm (.ref c) ctv) ⟨[u],[]⟩=pure [(y,u)])
  (hb:∀(f c:Addr) (s:Shared) (H:Hp),JE (u7 X N' scope cl q A f c s H) body fb)
  (rep:RepE X.K B σ ρ) (sB:aJ B H) (r:aN v u) (i:Is X.K B v d) (e:fb (some (d,false)::bM 0 cap ρ)=some (d',b')) (qf:Fin X.K B H d' b' Q) :
  wpAny (model X.prog X.w) A (call (.ref f) [u]) (EP X pins σ Q) (λ_ _=>False) s:=by
 obtain⟨pm,c,ctv,uf,oc,u',ws,t,hf,hc,hd,hv⟩:=lv
 have ho:=(I.hok f _ hf).1
 have hoc:=(I.hok c _ hc).1
 refine wpAny_call (codeAny_mono (R:=λr s'=>CR CX0 X.stack X.prog X.w H s Q (λ_ _ _=>False) r s') ?_ λr s' hq=>?_)
 ·refine kla_callFunE hroom ho rfl S.co S.gen rfl ⟨c,oc,ws,t,rfl,hoc,hd,hv⟩ ?_
  rw[hbind]
  refine wY (wpAny_newFunctionEnv S.nocell (λz hz=>by rw[List.mem_singleton.mp hz];exact S.par) (λh₁ hns hsb=>⟨I.nolimit.fresh _ hsb, ?_⟩) S.kind)
  have hk₁:∀b o,s.heap.get? b=some o->h₁.get? b=some o:=λb o e=>hsb.extBut b o (Nat.ne_of_lt (Heap.lt_size e)) (Heap.get?_push_of_some _ e)
  have J:=C0 (f:=f) (c:=c) (q:=q) (tk:=s.toks+1) S N0 cp I hA hh r hns hk₁
  refine kla_codeExpr (wpAny_mono (hb f c s H [] _ _ H Q J ⟨B,_,d',b',sB,⟨rep.tb,λj e0 b0 z=>?_⟩,e,qf⟩) (λw s' hw=>?_) λ_ _ z=>z.elim)
  ·cases j with
   | zero=>
    have z':some (d,false)=some (e0,b0):=by simpa using z
    cases z'
    exact⟨v,rfl,i⟩
   | succ j =>
    obtain⟨w,h1,h2⟩:=(rep.caps (nT:=0) (cap:=cap)).at' j e0 b0 (by simpa using z)
    exact⟨w,by simpa using h1,h2⟩
  ·obtain⟨v',H',J',rv,qv⟩:=hw
   exact⟨v',H',J'.os,J'.bare,J'.base,J'.hok,rv,qv⟩
 ·cases r with
  | error e=>exact False.elim hq
  | ok fl =>
   cases fl with
   | ret w=>exact I.after hq
   | next=>exact False.elim hq
   | brk=>exact False.elim hq
   | cont=>exact False.elim hq
end
end DL
namespace DL
open PySem PySem.Spec PySem.W PyProof.Rows L2
section
variable {X:Cx}{pins:List (Addr×Obj)}{σ:St}{H:Hp}{s:Shared}{h':Heap}{t':Nat}
theorem kM {p:Addr}{o:Obj}(I:Inv X ((p,o)::pins) σ H s):∀x c,X.env.cells.lookup x=some c->c≠p:=λx c e z=>by
 have pf:=I.pin (p,o) (mY _ mX)
 obtain⟨v,ob,ho,hd⟩:=I.cell x c e
 rw[z,pf.1]at ho;cases ho
 exact pf.2.2.2.2 v hd
theorem gL {p:Addr×Obj}(I:Inv X (p::pins) σ H s):Inv X pins σ H s:=I.pins_of λq hq=>I.pin q (mY _ (mZ _ hq))
theorem dR {p:Addr}{o o':Obj}(I:Inv X ((p,o)::pins) σ H s) (h0:X.s₀.heap.objs.size<=p) (hp:∀q∈X.pn++pins,q.1≠p) (k:∀b u,b≠p->s.heap.get? b=some u->h'.get? b=some u) (e':h'.get? p=some o') (nc:∀v,o'.data≠.cell v) :
  Inv X ((p,o')::pins) σ H { s with heap:=h',toks:=t' }:=by
 have pf:=I.pin (p,o) (mY _ mX)
 have J:=(gL I).turned (t':=t') k pf.2.1 pf.2.2.1 (.inr h0) (kM I) hp
 refine J.pins_of λq hq=>?_
 rcases List.mem_cons.mp hq with rfl|hq
 ·exact⟨e',pf.2.1,pf.2.2.1,pf.2.2.2.1,nc⟩
 ·exact J.pin q (mY _ hq)
theorem mz {p:Addr}{o:Obj}(I:Inv X pins σ H s) (k:∀b u,s.heap.get? b=some u->h'.get? b=some u) (hs:s.heap.objs.size<=p) (e':h'.get? p=some o) (nc:∀v,o.data≠.cell v):Inv X ((p,o)::pins) σ H { s with heap:=h',toks:=t' }:=by
 have J:=I.kept (t':=t') k
 refine J.pins_of λq hq=>?_
 rcases List.mem_cons.mp hq with rfl|hq
 ·exact⟨e',I.hok.fresh hs,Nat.ne_of_gt (Nat.lt_of_lt_of_le I.lt hs),I.nofs hs,nc⟩
 ·exact J.pin q (mY _ hq)
theorem C2 {p:Addr}{o:Obj}{ob:HO}(I:Inv X ((p,o)::pins) σ H s) (h0:X.s₀.heap.objs.size<=p) (hp:∀q∈X.pn++pins,q.1≠p) (k:∀b u,b≠p->s.heap.get? b=some u->h'.get? b=some u) (eo:∃u,h'.get? p=some u)
  (new:bH X.prog X.w (upd H p ob) h' p ob):Inv X pins σ (upd H p ob) { s with heap:=h',toks:=t' }:=by
 have pf:=I.pin (p,o) (mY _ mX)
 have hn:=pf.2.1
 have hn:H p=none:=hn
 have cs:=kM I
 refine(gL I).step (g':=s.gens) (d':=s.drawn) (ch:=[p]) (λb hb=>?_) (λb u _ _ hc e _=>k b u (λz=>hc (by simp[z])) e) (λb u _ _ hc e _=>⟨u.slots,k b u (λz=>hc (by simp[z])) e⟩) (λb u hc _ n=>by rw[a9 (λz=>hc (by simp[z]))];exact n)
  (λb u hc e=>⟨u,k b u (λz=>hc (by simp[z])) e⟩) (λb xs e=>by rw[a9 (aL e hn)];exact e) (λb u w e=>by rw[a9 (aL e hn)];exact e) (λb q e=>by rw[a9 (aL e hn)];exact e) (λm hm=>?_) (λb u e=>?_) I.bare
 ·have z:b=p:=by simpa using hb
  subst z
  exact⟨.inr h0,pf.2.2.1,cs,hp⟩
 ·obtain⟨ol,es,ep,ho,r⟩:=hm
  exact⟨ol,es,ep,k _ ol (λz=>pf.2.2.1 z.symm) ho,r⟩
 ·by_cases z:b=p
  ·subst z;rw[aB]at e;cases e;exact new
  ·rw[a9 z]at e
   refine(I.hok b u e).stay (λc v hc q=>k c v ?_ q) (λc q=>?_) (λc xs q=>?_) λc w xs q=>?_
   ·rcases hc with rfl|hc
    ·exact z
    ·exact aL hc hn
   ·rw[a9 (aL q hn)];exact q
   ·rw[a9 (aL q hn)];exact q
   ·rw[a9 (aL q hn)];exact q
end
def AF (X:Cx) (A:Around) (σ:St) (qv:Value) (B H1:Hp) (kf:D->Option D):Prop :=
 ∀(pins:List (Addr×Obj)) (s:Shared) (H N:Hp) (v:V) (u:Value) (d d':D),Inv X pins σ H s->aJ H1 H->aJ B N->aJ N H->Is X.K N v d->aN v u->kf d=some d' ->
  wpAny (model X.prog X.w) A (call qv [u]) (EP X pins σ λv' H'=>∃N',Ext N N' H H'/\Is X.K N' v' d') (λ_ _=>False) s
def JK (X:Cx) (A:Around) (e:Expr) (kf:Env->D->Option D):Prop:=∀(pins:List (Addr×Obj)) (s:Shared) (σ:St) (H B:Hp) (ρ:Env) (Q:Value->Shared->Prop) (E:Value->Shared->Prop),Inv X pins σ H s->aJ B H->RepE X.K B σ ρ ->
 (∀qa H1 s1,Inv X pins σ H1 s1->aJ H H1->AF X A σ (.ref qa) B H1 (kf ρ)->Q (.ref qa) s1)->wpAny (model X.prog X.w) X.A (eval e X.env) Q E s
section
variable {X:Cx}{A:Around}
@[simp] def u8 (cap:List Nat) (fb:FE):Env->D->Option D:=λρ d=>(fb (some (d,false)::bM 0 cap ρ)).map (·.1)
theorem wB {x y:Str}{params:Arguments}{body:Expr}{scope:Scope}{pos:Pos}{N':List Str}{cap:List Nat}{fb:FE}(hx:x∈j6) (L:sd X.K x) (hc:∀c P,tabIn X.K x=some (c,P)->X.env.code=.ref c) (hq:X.env.qual ++ "<lambda>" = mJ x)
  (hdef:defaultsOf params X.env=([],[])) (S:LamSc X scope (eW scope.names X.env.cells []) y) (N0:N'[0]? = some y) (cp:LCaps X N' scope (eW scope.names X.env.cells []) 1 cap) {k:Nat}(hA:A.frames=X.A.frames) (hr:Room (k+1) A)
  (hbind:∀pm c ctv u,bindArgs (kla_fn "<lambda>" (mJ x) params body scope (eW scope.names X.env.cells []) pm (.ref c) ctv) ⟨[u],[]⟩=pure [(y,u)])
  (hb:∀(f c:Addr) (s:Shared) (H:Hp),Room k (u7 X N' scope (eW scope.names X.env.cells []) (mJ x) A f c s H).A->JE (u7 X N' scope (eW scope.names X.env.cells []) (mJ x) A f c s H) body fb):JK X A (.Lambda params body scope pos) (u8 cap fb):=by
 intro pins s σ H B ρ Q E I sB rep kk
 refine AD hx L hc hq hdef S.clos I (rep.tb.mono sB) λf H1 s1 I1 sm lv=>kk f H1 s1 I1 sm ?_
 intro pins' s' H' N v u d d' I' m1 m2 m3 iv r e
 simp only[u8]at e
 obtain⟨⟨d2,b2⟩,e1,e2⟩:=oY e
 cases e2
 exact C1 S N0 cp I' (hA.trans I'.ok.frames) hr.hd hr.depth (lv.mono m1) hbind (λf c s H=>hb f c s H (hr.deeper _)) (rep.mono m2) m3 r iv e1 λv' H2 N2 x2 i2 _=>⟨N2,x2,i2⟩
@[simp] def px (g:List D->Option (D×Bool)):Env->D->Option D:=λ_ d=>(g [d]).map (·.1)
theorem xU {k:Nat}{x:Str}{g:List D->Option (D×Bool)}{p:Pos}(F:Fn X.prog X.w X.K X.mg X.base k x g) (hr:Room k A) (hA:A.frames=X.A.frames) (hg:Gl X x:=by rfl) (hdb:(x == ("__debug__" : Str))=false:=by decide):JK X A (.Name x p) (px g):=by
 intro pins s σ H B ρ Q E I sB rep kk
 obtain⟨ad,fd,ps,F1,hm,hk,hb⟩:=F.ex
 refine qY I hg hm ?_ hdb
 refine kk ad H s I (.refl H) ?_
 intro pins' s' H' N v u d d' I' m1 m2 m3 iv r e
 simp only[px]at e
 obtain⟨⟨d2,b2⟩,e1,e2⟩:=oY e
 cases e2
 have sp:spD X.K g [v] H' (λv' H2=>∃N',Ext N N' H' H2/\Is X.K N' v' d2) (λ_ _ _=>False):=⟨N,[d],d2,b2,⟨m3,rep.tb.mono m2⟩,.cons iv .nil,e1,λv' H2 N2 x2 i2 _=>⟨N2,x2,i2⟩⟩
 have hl:[u].length=ps.length:=by have:=F1.len _ _ _ _ sp;simpa using this
 have e0:=I'.env0
 have bb:=hb s' [u] I'.kIn (by simpa using hl)
 rw[List.append_nil]at bb
 refine wpAny_call (codeAny_mono (F1.run A X.stack s' H' ⟨[u],[]⟩ [u] [v] _ (λ_ _ _=>False) hr ⟨hA.trans e0.frames,e0.mod,e0.bs,e0.bsz,e0.funs,e0.frf,e0.hok,e0.bare⟩ bb (.cons r .nil) sp) λr s' hq=>?_)
 cases r with
 | error e=>exact False.elim hq
 | ok fl =>
  cases fl with
  | ret w=>exact I'.after hq
  | next=>exact False.elim hq
  | brk=>exact False.elim hq
  | cont=>exact False.elim hq
end
def gA (f:D->Option D):List D->Option (List D)
 | []=>some []
 | d::ds=>(f d).bind λx=>(gA f ds).map (x :: ·)
theorem eO {f:D->Option D}:∀ {ds ks:List D},gA f ds=some ks->ks.length=ds.length
 | [],_,h=>by simp only[gA]at h;cases h;rfl
 | d::ds,_,h=>by
  simp only[gA]at h
  obtain⟨a,h1,h⟩:=oX h
  obtain⟨r,h2,h⟩:=oY h
  subst h
  simp[eO h2]
theorem jL {f:D->Option D}:∀ {ds ks:List D},gA f ds=some ks->∀ {i:Nat}{d:D},ds[i]? = some d->∃k,ks[i]? = some k/\f d=some k
 | [],_,h,i,d,e=>by simp at e
 | d::ds,_,h,0,e,q=>by
  simp only[gA]at h
  obtain⟨a,h1,h⟩:=oX h
  obtain⟨r,h2,h⟩:=oY h
  subst h
  simp at q;subst q
  exact⟨a,by simp,h1⟩
 | d::ds,_,h,i+1,e,q=>by
  simp only[gA]at h
  obtain⟨a,h1,h⟩:=oX h
  obtain⟨r,h2,h⟩:=oY h
  subst h
  obtain⟨k,z1,z2⟩:=jL h2 (i:=i) (d:=e) (by simpa using q)
  exact⟨k,by simpa using z1,z2⟩
section
variable {X:Cx}{pins:List (Addr×Obj)}{σ:St}{s:Shared}
theorem qh {x:V}{u:Value}(r:aN x u):∀ {vs:List V}{us:List Value},aP vs us->aP (vs++[x]) (us++[u])
 | _,_,.nil=>.cons r .nil
 | _,_,.cons h t=>.cons h (qh r t)
theorem cj {c:Value}{od:Option Addr}{its:Array Value}{n:Nat}{sl:Array (Option Value)}:∀v,(Obj.mk c od (.seq its n) sl).data≠.cell v:=λv z=>by cases z
theorem wC {A:Around}{E:Value->Shared->Prop}{a:Addr}{n:Nat}{qv:Value}{its:List Value}{vs:List V}{ds kds:List D}{ks:List (List At)}{B H:Hp}{kf:D->Option D}{P:PySem.Fin->Shared->Prop}
  (I:Inv X ((a,seqObj "list" its.toArray n)::pins) σ H s) (h0:X.s₀.heap.objs.size<=a) (hp:∀q∈X.pn++pins,q.1≠a) (kfn:AF X A σ qv B H kf) (rv:aP vs its) (iv:IsL X.K B vs ds) (sB:aJ B H)
  (em:gA kf ds=some kds) (ek:cA kds=some ks) (hc:cY ks=true) (hf:cx ks=true) (h64:its.length<64)
  (h:∀(p:Array Nat) (s':Shared) (H' N:Hp),Arr its.length p->Up (rkK ks) p its.length->Inv X pins σ (upd H' a (.lst (p.toList.map λi=>vs.getD i .non))) s'->Ext B N H H'->H' a=none->P (.done (.ret .none)) s') :
  wpAny (model X.prog X.w) A (ksk_tree a qv false) P E s:=by
 have pa:=I.pin (a,seqObj "list" its.toArray n) (mY _ mX)
 have hvl:vs.length=its.length:=rv.length
 have hdl:ds.length=vs.length:=iv.length.symm
 have hkd:kds.length=ds.length:=eO em
 have hks:ks.length=kds.length:=cQ ek
 have hz:its.length<=sizeLine:=by rw[sizeLine_eq];omega
 have hna:H a=none:=pa.2.1
 obtain⟨e1,ho1⟩:∃e1,(s.heap.update a (Obj.mapSeq λ_=>(#[]:Array Value))).get? a=some (seqObj "list" #[] e1):=⟨_,get?_update_seq pa.1 λ_=>#[]⟩
 have u1:=Heap.SameBut.update s.heap a (Obj.mapSeq λ_=>(#[]:Array Value))
 have I1:Inv X ((a,seqObj "list" #[] e1)::pins) σ H { s with heap:=s.heap.update a (Obj.mapSeq λ_=>(#[]:Array Value)) }:=dR (t':=s.toks) I h0 hp (λb u n q=>(u1.2 b n).trans q) ho1 cj
 let h2:Heap:=(s.heap.update a (Obj.mapSeq λ_=>(#[]:Array Value))).push (seqObj "tuple" its.toArray 0)
 have I2:Inv X ((a,seqObj "list" #[] e1)::pins) σ H { s with heap:=h2 }:=I1.kept (t':=s.toks) λb u q=>Heap.get?_push_of_some _ q
 let kS:Addr:=h2.objs.size
 have I3:Inv X ((kS,seqObj "list" #[] 0)::(a,seqObj "list" #[] e1)::pins) σ H { s with heap:=h2.push (seqObj "list" #[] 0) }:=mz (s:={ s with heap:=h2 }) (t':=s.toks) I2 (λb u q=>Heap.get?_push_of_some _ q) (Nat.le_refl _) (Heap.get?_push_size _ rfl) cj
 have k0:X.s₀.heap.objs.size<=kS:=I2.sz
 have kp:∀q∈X.pn++((a,seqObj "list" #[] e1)::pins),q.1≠kS:=λq hq=>Nat.ne_of_lt (Heap.lt_size (I2.pin q hq).1)
 have kna:kS≠a:=λz=>kp (a,seqObj "list" #[] e1) (mY _ mX) z.symm
 unfold ksk_tree
 refine wX (listItems_at pa.1 rfl ?_)
 refine wX (listUpdate_at pa.1 rfl ?_ (by simpa using hz) (Nat.zero_le _))
 refine wX (seqEpoch_at ho1 rfl ?_)
 refine wX (wpAny_newTuple ?_ (by show its.length<=sizeLine;exact hz))
 refine wX (wpAny_newList ?_ (Nat.zero_le _))
 refine wpAny_holding ?_
 show wpAny (model X.prog X.w) A (ksk_rest a qv false its.toArray e1 (.ref kS)) P E { s with heap:=h2.push (seqObj "list" #[] 0) }
 unfold ksk_rest
 refine wX (wpAny_rule ?_)
 rw[List.forIn_toArray]
 refine wX (ksk_fold (λi s'=>∃(H' N:Hp) (kA:Array Value) (e:Nat) (kvs:List V),Inv X ((kS,seqObj "list" kA e)::(a,seqObj "list" #[] e1)::pins) σ H' s'/\Ext B N H H'/\aP kvs kA.toList/\IsL X.K N kvs (kds.take i)) its 0 _
  ⟨H,B,#[],0,[],I3,.refl sB,.nil,by simpa using IsL.nil⟩ ?step ?done)
 case step =>
  rintro j u s' hu ⟨H',N,kA,e,kvs,J,x1,rk,ik⟩
  simp only[Nat.zero_add]at ik ⊢
  have hj:j<its.length:=(List.getElem?_eq_some_iff.mp hu).1
  obtain⟨d,hd⟩:∃d,ds[j]? = some d:=⟨_,List.getElem?_eq_getElem (by omega)⟩
  obtain⟨v,hv,iv'⟩:=iv.get hd
  obtain⟨kd,hkj,hkf⟩:=jL em hd
  obtain⟨u',hu',ru⟩:=rv.get hv
  rw[hu]at hu';cases hu'
  have kl:kA.size=j:=by
   have z1:=rk.length
   have z2:=ik.length
   rw[List.length_take]at z2
   rw[Array.length_toList]at z1
   exact z1.symm.trans (z2.trans (Nat.min_eq_left (by omega)))
  refine wX (wpAny_attempt (wpAny_mono (kfn _ s' H' N v u d kd J x1.hh x1.bn x1.nh (iv'.mono x1.bn) ru hkf) (λw s'' hw=>?_) λ_ _ hF=>hF.elim))
  obtain⟨v',H'',J',rv',N',x2,i2⟩:=hw
  have pk:=J'.pin (kS,seqObj "list" kA e) (mY _ mX)
  obtain⟨c2,hc2⟩:∃c2,(s''.heap.update kS (Obj.mapSeq (·.push w))).get? kS=some (seqObj "list" (kA.push w) c2):=⟨_,get?_update_seq pk.1 (·.push w)⟩
  have u2:=Heap.SameBut.update s''.heap kS (Obj.mapSeq (·.push w))
  refine wX (listUpdate_at pk.1 rfl ?_ (by rw[sizeLine_eq];omega) (Nat.le_trans (Nat.le_of_eq (Array.size_push ..)) (by rw[sizeLine_eq];omega)))
  refine wY ⟨rfl,H'',N',kA.push w,c2,kvs++[v'],dR (t':=s''.toks) J' k0 kp (λb q n z=>(u2.2 b n).trans z) hc2 cj,x1.trans x2, ?_, ?_⟩
  ·rw[Array.toList_push];exact qh rv' rk
  ·rw[List.take_add_one,hkj];exact(ik.mono x2.bn).append (.cons i2 .nil)
 case done =>
  rintro s' ⟨H',N,kA,e,kvs,J,x1,rk,ik⟩
  have ik':IsL X.K N kvs kds:=by
   have z:kds.take (0+its.length)=kds:=List.take_of_length_le (by omega)
   rw[z]at ik;exact ik
  have pk:=J.pin (kS,seqObj "list" kA e) (mY _ mX)
  have pa':=J.pin (a,seqObj "list" #[] e1) (mY _ (mZ _ mX))
  have hn':H' a=none:=pa'.2.1
  have kz:kA.toList.length=its.length:=by rw[←rk.length,ik'.length];omega
  have kz':kA.size=its.length:=by rw[←Array.length_toList];exact kz
  refine wX (listItems_at pk.1 rfl ?_)
  have hkp:Paired (dB s'.heap) ks kA.toList:=mw J rk (ik'.mono x1.nh) ek
  -- the end of the sort,for a permutation p
  have ends:∀(st:SortSt) (p:Array Nat),arrOf st=p.map (kas_item (kA.toList.toArray.zip its.toArray))->failedOf st=none->Arr its.length p->Up (rkK ks) p its.length ->
    wpAny (model X.prog X.w) A (ksk_tail a false e1 (.ref kS) st) P E s':=λst p ea ef ap up=>by
   have eo:(arrOf st).map (·.2)=List.toArray (p.toList.map λi=>its.getD i Value.none):=kat_snds kz ea
   have hin:∀i∈p.toList,i<vs.length:=λi hi=>by
    have:=List.mem_range.mp (ap.perm.mem_iff.mp hi)
    omega
   obtain⟨c3,hc3⟩:∃c3,(s'.heap.update kS (Obj.mapSeq λ_=>(#[]:Array Value))).get? kS=some (seqObj "list" #[] c3):=⟨_,get?_update_seq pk.1 λ_=>#[]⟩
   have u3:=Heap.SameBut.update s'.heap kS (Obj.mapSeq λ_=>(#[]:Array Value))
   have J3:=gL (dR (t':=s'.toks) J k0 kp (λb q n z=>(u3.2 b n).trans z) hc3 cj)
   have pa3:=J3.pin (a,seqObj "list" #[] e1) (mY _ mX)
   obtain⟨c4,hc4⟩:∃c4,((s'.heap.update kS (Obj.mapSeq λ_=>(#[]:Array Value))).update a (Obj.mapSeq λ_=>(arrOf st).map (·.2))).get? a=some (seqObj "list" ((arrOf st).map (·.2)) c4):=⟨_,get?_update_seq pa3.1 λ_=>(arrOf st).map (·.2)⟩
   have u4:=Heap.SameBut.update (s'.heap.update kS (Obj.mapSeq λ_=>(#[]:Array Value))) a (Obj.mapSeq λ_=>(arrOf st).map (·.2))
   have so:((arrOf st).map (·.2)).size=its.length:=by rw[eo];simp only[List.size_toArray,List.length_map,Array.length_toList,ap.size]
   unfold ksk_tail
   try dsimp only
   refine wX (listUpdate_at pk.1 rfl ?_ (by rw[kz',sizeLine_eq];omega) (Nat.zero_le _))
   refine wX (wpAny_letGo ?_)
   refine wX (seqEpoch_at pa3.1 rfl ?_)
   refine wX (listUpdate_at pa3.1 rfl ?_ (Nat.zero_le _) (by simp only[Bool.false_eq_true,if_false];rw[so,sizeLine_eq];omega))
   rw[ef]
   simp only[bne_self_eq_false,Bool.false_eq_true,if_false]
   refine wY (h p _ H' N ap up (C2 (s:={ s' with heap:=s'.heap.update kS (Obj.mapSeq λ_=>(#[]:Array Value)) }) (t':=s'.toks) J3 h0 hp (λb q n z=>(u4.2 b n).trans z) ⟨_,hc4⟩ ?_) x1 hn')
   refine⟨by rw[List.length_map,Array.length_toList,ap.size];exact hz,p.toList.map λi=>its.getD i Value.none,c4,kL rv p.toList hin, ?_⟩
   rw[←eo];exact hc4
  unfold ksk_end
  try dsimp only
  simp only[Bool.false_eq_true,if_false]
  have ekA:kA=kA.toList.toArray:=by simp
  by_cases h2':its.toArray.size<2
  ·rw[if_pos h2',if_pos h2']
   refine wX (wY ?_)
   rw[StateT.run_pure]
   refine wX (wY ?_)
   have hsm:its.length<2:=by simpa using h2'
   refine ends _ (List.toArray (List.range its.length)) ?_ rfl ⟨by simp,by simp⟩ ?_
   ·show kA.zip its.toArray=_
    have:=kas_range (kA.toList.toArray.zip its.toArray)
    rw[show(kA.toList.toArray.zip its.toArray).size=its.length by simp[kz']]at this
    rw[this]
   ·intro i j hij hj
    have:i=j:=by omega
    subst this;exact Int.le_refl _
  ·rw[if_neg h2',if_neg h2']
   have h2'':2<=its.length:=by simp at h2';omega
   rw[ekA]
   refine wX (ux hkp hf (by omega) ?_)
   obtain⟨p,r1,r2,r3⟩:=uw (n:=its.length) (rk:=rkK ks) (by omega)
   refine wX (wpAny_mono (kat_run (E:=E) (ks:=kA.toList) (vs:=its) (κ:=tuples' true) (s:=s') (Q:=λst' s2=>s2=s'/\arrOf st'=p.map (kas_item (kA.toList.toArray.zip its.toArray))/\failedOf st'=none)
    (G:=λp' s2=>p'=p/\s2=s') kz h2'' h64 (λp' st' s2 _ e2 e3 e4=>by
     obtain⟨rfl,rfl⟩:=e4
     exact⟨rfl,e2,e3⟩) (Run.wp (λs2=>s2=s') (λi j C s2 hi hj e hC=>xQ (s:=s') hc hkp i j C s2 (by omega) (by omega) e hC) r1 rfl λs2 e=>⟨rfl,e⟩)) (λr s2 hr=>?_) λ_ _ z=>z)
   obtain⟨⟨⟩,st'⟩:=r
   obtain⟨rfl,e2,e3⟩:=hr
   exact ends st' p e2 e3 r2 r3
end
theorem u9 {α β:Type}{f:α->β}:∀ {l:List α},(l.map f).Nodup->l.Nodup
 | [],_=>List.nodup_nil
 | a::l,h=>by
  rw[List.map_cons,List.nodup_cons]at h
  exact List.nodup_cons.mpr ⟨λz=>h.1 (List.mem_map.mpr ⟨a,z,rfl⟩),u9 h.2⟩
def gM (ks:List (List At)) (ds:List D):List D:=(dr (λp:List At×D=>ce p.1) (ks.zip ds)).map (·.2)
theorem AG {α β:Type}(d:α) (e:β):∀ {l₁:List α}{l₂:List β},l₁.length=l₂.length->(List.range l₂.length).map (λi=>(l₁.getD i d,l₂.getD i e))=l₁.zip l₂:=λ{l₁ l₂} h=>by
 apply List.ext_getElem?
 intro i
 by_cases hi:i<l₂.length
 ·have hi':i<l₁.length:=by omega
  have:=(List.getElem?_zip_eq_some (z:=(l₁[i],l₂[i]))).mpr ⟨List.getElem?_eq_getElem hi',List.getElem?_eq_getElem hi⟩
  rw[this]
  simp[hi,hi']
 ·simp[hi,h]
theorem C3 {α β:Type}{l₁:List α}{l₂:List β}(nd:l₁.Nodup) {a:α}{b c:β}(h1:(a,b)∈l₁.zip l₂) (h2:(a,c)∈l₁.zip l₂):b=c:=by
 obtain⟨i,hi⟩:=List.mem_iff_getElem?.mp h1
 obtain⟨j,hj⟩:=List.mem_iff_getElem?.mp h2
 obtain⟨i1,i2⟩:=List.getElem?_zip_eq_some.mp hi
 obtain⟨j1,j2⟩:=List.getElem?_zip_eq_some.mp hj
 obtain⟨li,ei⟩:=List.getElem?_eq_some_iff.mp i1
 obtain⟨lj,ej⟩:=List.getElem?_eq_some_iff.mp j1
 have:i=j:=(List.getElem_inj nd).mp (ei.trans ej.symm)
 subst this
 rw[i2]at j2;exact Option.some.inj j2
theorem wD {ds:List D}{ks:List (List At)}{p:Array Nat}(hl:ks.length=ds.length) (hc:cY ks=true) (nd:ks.Nodup) (ap:Arr ds.length p) (up:Up (rkK ks) p ds.length):p.toList.map (λi=>ds.getD i .non)=gM ks ds:=by
 unfold gM
 have e:p.toList.map (λi=>(ks.getD i [],ds.getD i .non))=dr (λp:List At×D=>ce p.1) (ks.zip ds):=by
  apply gJ
  ·intro x hx y hy e
   have mx:=(List.of_mem_zip hx).1
   have my:=(List.of_mem_zip hy).1
   have:=kK hc mx my e
   obtain⟨k1,d1⟩:=x
   obtain⟨k2,d2⟩:=y
   have z:k1=k2:=this
   subst z
   rw[C3 nd hx hy]
  ·have:=ap.perm.map (λi=>(ks.getD i [],ds.getD i D.non))
   rw[AG [] D.non hl]at this
   exact this
  ·rw[List.pairwise_iff_getElem]
   intro i j hi hj hij
   have hsz:=ap.size
   have hi':i<p.size:=by simpa using hi
   have hj':j<p.size:=by simpa using hj
   have:=up i j (Nat.le_of_lt hij) (by omega)
   unfold bE rkK at this
   have gi:p.getD i 0=p[i]:=by rw[Array.getD_eq_getD_getElem?,Array.getElem?_eq_getElem hi'];rfl
   have gj:p.getD j 0=p[j]:=by rw[Array.getD_eq_getD_getElem?,Array.getElem?_eq_getElem hj'];rfl
   have lj:=ap.lt (k:=j) (by omega)
   have mj:ks.getD (p.getD j 0) []∈ks:=by
    have h':p.getD j 0<ks.length:=by omega
    rw[List.getD_eq_getElem?_getD,List.getElem?_eq_getElem h'];exact List.getElem_mem h'
   have nl:¬ce (ks.getD (p.getD j 0) [])<ce (ks.getD (p.getD i 0) []):=λz=>by
    have:=rY (cs:=ks.map ce) (List.mem_map.mpr ⟨_,mj,rfl⟩) z
    omega
   simp only[List.getElem_map,Array.getElem_toList]
   unfold leF
   rw[←gi,←gj]
   exact nl
 rw[←e,List.map_map]
 rfl
@[simp] def kN (f:FE) (kf:Env->D->Option D):FE:=λρ=>(f ρ).bind λx=>match x.1 with
 | .lst ds=>(gA (kf ρ) ds).bind λkds=>(cA kds).bind λks=>if ks.length<64/\cY ks=true/\cx ks=true/\(ks.map ce).Nodup then some (.lst (gM ks ds),true)else none
 | _=>none
section
variable {X:Cx}{e ke:Expr}{p pos kp:Pos}
theorem uA {f:FE}{kf:Env->D->Option D}(hm:X.mg "sorted" = none) (he:JE X e f) (hk:JK X X.A.in1.in1 ke kf) (hg:Gl X "sorted":=by rfl)
  (hes:starEach [e] X.env=[(false,eval e X.env)]:=by rfl) (heb:backTo pos (starEach [e] X.env)=(false,eval e X.env)::backTo pos (starEach [] X.env):=by rfl) (hpl:(backTo pos (starEach [e] X.env)).any (·.1)=false:=by rfl)
  (hall:(backToKw pos (keywordEach [⟨some "key",ke,kp⟩] X.env)).all (·.1.isSome)=true:=by rfl) (hkw:(backToKw pos (keywordEach [⟨some "key",ke,kp⟩] X.env)).any (·.1.isNone)=false:=by rfl)
  (hnm:(backToKw pos (keywordEach [⟨some "key",ke,kp⟩] X.env)).filterMap (·.1)=[("key" : Str)]:=by rfl) :
  JE X (.Call (.Name "sorted" p) [e] [⟨some "key",ke,kp⟩] pos) (kN f kf):=by
 intro pins s σ H Q I h
 obtain⟨B,ρ,d,b,sB,rep,ee,q⟩:=h
 obtain⟨⟨xd,xb⟩,ex,ee⟩:=oX ee
 cases xd<;>try (cases ee;done)
 rename_i ds
 obtain⟨kds,em,ee⟩:=oX ee
 obtain⟨ks,ek,ee⟩:=oX ee
 split at ee
 ·rename_i hh
  obtain⟨h64,hc,hf,nd⟩:=hh
  cases ee
  refine wpAny_Call_Name_kw (iT I hg hm (u:=.builtin "sorted") rfl ?_)
  refine callWith_kw (thn ((ga he iU hes) pos pins s σ H (λvs H1=>∃v N,vs=[v]/\Ext B N H H1/\Is X.K N v (.lst ds)) I ⟨B,ρ,_,_,sB,rep,ex,λv H1 N x1 i1 _=>⟨v,N,rfl,x1,i1⟩⟩) λus s1 hA=>?_) heb hpl hall hkw
  obtain⟨vs1,H1,I1,r1,v,N,rfl,x1,i1⟩:=hA
  obtain⟨u,rfl,ru⟩:=jz r1
  refine kws_cons (hk pins s1 σ H1 N ρ _ _ I1 x1.nh (rep.mono x1.bn) λqa H2 s2 I2 m2 kfn=>kws_nil ?_)
  rw[hnm]
  show wpAny _ _ (call (.builtin "sorted") [u] [(("key" : Str),.ref qa)]) _ _ _
  cases i1
  rename_i l vs hq il
  cases ru
  have sN:aJ N H2:=x1.nh.trans m2
  obtain⟨its,rv,pl,hz⟩:=I2.list (sN.seq hq)
  have hvl:vs.length=its.length:=rv.length
  have hdl:ds.length=vs.length:=il.length.symm
  have hkd:kds.length=ds.length:=eO em
  have hks:ks.length=kds.length:=cQ ek
  have h64':its.length<64:=by omega
  refine call_function_entry_kw kind_sorted plain_sorted entry_sorted (ksk_s1 _ _) ?_
  unfold Builtin.«sorted»
  refine wX (m:=checkCount "sorted" 1 1 _) (wY (wX (collect_list pl.isList (wX (wpAny_newList ?_ (by rw[sizeLine_eq];omega))) (by rw[sizeLine_eq];omega))))
  let h1:Heap:=(s2.heap.push (seqObj "list" #[] 0)).update s2.heap.objs.size (Obj.mapSeq (· ++ its.toArray))
  have hsz:h1.objs.size=s2.heap.objs.size+1:=by show(Heap.update _ _ _).objs.size=_;rw[Heap.size_update,size_push']
  have keep1:∀b o,s2.heap.get? b=some o->h1.get? b=some o:=λb o q=>(Heap.get?_update_ne _ _ _ _ (Nat.ne_of_lt (Heap.lt_size q))).trans (Heap.get?_push_of_some _ q)
  have I3:Inv X ((h1.objs.size,seqObj "list" its.toArray 0)::pins) σ H2 { s2 with heap:=h1.push (seqObj "list" its.toArray 0) } :=
   mz (t':=s2.toks) I2 (λb u q=>Heap.get?_push_of_some _ (keep1 b u q)) (by rw[hsz];exact Nat.le_succ _) (Heap.get?_push_size _ rfl) cj
  have p3:=I3.pin (h1.objs.size,seqObj "list" its.toArray 0) (mY _ mX)
  show wpAny (model X.prog X.w) X.A.in1 (holding [.ref h1.objs.size] (call (.builtin "list.sort") [.ref h1.objs.size] [(("key" : Str),.ref qa)])>>=_) _ _ { s2 with heap:=h1.push (seqObj "list" its.toArray 0) }
  refine wX (wpAny_holding (wpAny_call_entry_kw slot_list_sort ⟨_,p3.1,rfl⟩ entry_list_sort ?_ (ksk_l1 _ _)))
  show wpAny (model X.prog X.w) X.A.in1.in1 (Builtin.«list.sort» ⟨[.ref h1.objs.size],[(Str.ofString "key",.ref qa)]⟩) _ _ _
  rw[ksk_t1]
  refine wC I3 (Nat.le_trans I2.sz (by rw[hsz];exact Nat.le_succ _)) (λq hq=>by rw[hsz];exact Nat.ne_of_lt (Nat.lt_succ_of_lt (Heap.lt_size (I2.pin q hq).1))) kfn rv il sN em ek hc hf h64' λpm s' H' N' ap up J x3 hn=>⟨_,rfl,wY ⟨_,rfl, ?_⟩⟩
  have hpl:its.length=ds.length:=by omega
  rw[hpl]at ap up
  have er:=wD (by omega) hc (u9 nd) ap up
  have hin:∀i∈pm.toList,i<ds.length:=λi hi=>List.mem_range.mp (ap.perm.mem_iff.mp hi)
  have ip:=nv (il.mono x3.bn) pm.toList hin
  rw[er]at ip
  have x4:Ext B N' H H':=(x1.trans (.grow x1.nh m2)).trans x3
  have hN:N' h1.objs.size=none:=x3.nh.free hn
  have x5:=x4.trans (Ext.laid (o:=.lst (pm.toList.map λi=>vs.getD i .non)) x3.nh hn)
  exact⟨.ref h1.objs.size,_,J,rfl,q _ _ _ x5 (.lst (SqL.of aB) (ip.mono (Ext.laid (o:=.lst (pm.toList.map λi=>vs.getD i .non)) x3.nh hn).bn)) λ_=>⟨_,_,_,rfl,rfl,x4.hh.free hn,aB,ip.mono (Ext.laid (o:=.lst (pm.toList.map λi=>vs.getD i .non)) x3.nh hn).bn⟩⟩
 ·cases ee
end
section
variable {prog:Program}{w:World}{A:Around}{E:Value->Shared->Prop}{s:Shared}
theorem dB.type {xs:List At}{v:Value}(h:dB s.heap xs v):s.TypeIs v "tuple":=by
 obtain⟨a,o,its,n,rfl,ho,hc,_⟩:=h
 exact⟨o,ho,hc⟩
theorem AH {xs ys:List At}{a b:Addr}{r:Bool}{P:PySem.Fin->Shared->Prop}(hx:dB s.heap xs (.ref a)) (hy:dB s.heap ys (.ref b)) (h:aW xs ys=some r) (q:P (.done (.ret (.bool r))) s):wpAny (model prog w) A (Builtin.«tuple.__lt__» ⟨[.ref a,.ref b],[]⟩) P E s:=by
 have hTb:=hy.type
 obtain⟨a',oa,its,na,ea,hoa,_,hda,ra⟩:=hx
 obtain⟨b',ob,jts,nb,eb,hob,_,hdb,rb⟩:=hy
 cases ea
 cases eb
 show wpAny _ _ (isInstance (.ref _) (.type "tuple")>>=_) _ _ s
 refine wX (wpAny_isInstance hTb isSubtype_tuple_tuple ?_)
 simp only[Bool.not_true,Bool.false_eq_true,if_false]
 refine wX (wpAny_tupleItemsOf hoa hda ?_)
 refine wX (wpAny_tupleItemsOf hob hdb ?_)
 refine wX ?_
 refine wpAny_forIn_list _
  (λa0 z s'=>z.1=none/\s'=s/\∃xs' ys' its' jts' n,a0=List.zip its' jts'/\Paired atV xs' its'/\Paired atV ys' jts'/\aW xs' ys'=some r/\its'.length+n=its.size/\jts'.length+n=jts.size)
  _ ?_ ?_ _ _ ⟨rfl,rfl,xs,ys,its.toList,jts.toList,0,rfl,ra,rb,h,by simp,by simp⟩
 ·rintro⟨u,v⟩ a0 z s' ⟨hz,rfl,xs',ys',its',jts',n,e,p1,p2,hl,n1,n2⟩
  cases p1 with
  | nil=>simp at e
  | @cons x u' xs'' its'' r1 p1' =>
   cases p2 with
   | nil=>simp at e
   | @cons y v' ys'' jts'' r2 p2' =>
    simp only[List.zip_cons_cons,List.cons.injEq,Prod.mk.injEq]at e
    obtain⟨⟨rfl,rfl⟩,rfl⟩:=e
    cases x with
    | i i =>
     cases y with
     | s j=>simp[aW]at hl
     | i j =>
      obtain⟨t,rfl⟩:=r1
      obtain⟨t',rfl⟩:=r2
      rw[aW]at hl
      refine wX (wpAny_eqBool_int ?_)
      by_cases hk:i=j
      ·rw[if_pos hk]at hl
       rw[show(i == j)=true by simp[hk]]
       simp only[Bool.not_true,Bool.false_eq_true,if_false]
       exact wY ⟨rfl,rfl,xs'',ys'',its'',jts'',n+1,rfl,p1',p2',hl,by rw[←n1,List.length_cons];omega,by rw[←n2,List.length_cons];omega⟩
      ·rw[if_neg hk]at hl
       cases hl
       rw[show(i == j)=false by simp[hk]]
       simp only[Bool.not_false,if_true]
       refine wX (wpAny_rule (wX (m:=richCompare .Lt (.int i t) (.int j t')) (wpAny_mono (show wpAny _ _ (richCompare .Lt (.int i t) (.int j t')) (λv s''=>v=.bool (decide (i<j))/\s''=s') E s' from PyProof.Rows.lt_int ⟨rfl,rfl⟩) (λv s'' hv=>?_) λ_ _ z=>z)))
       obtain⟨rfl,rfl⟩:=hv
       exact wX (wY (wY (wY q)))
    | s i =>
     cases y with
     | i j=>simp[aW]at hl
     | s j =>
      obtain⟨t,rfl⟩:=r1
      obtain⟨t',rfl⟩:=r2
      rw[aW]at hl
      refine wX (wpAny_eqBool_str ?_)
      by_cases hk:i=j
      ·rw[if_pos hk]at hl
       rw[decide_eq_true hk]
       simp only[Bool.not_true,Bool.false_eq_true,if_false]
       exact wY ⟨rfl,rfl,xs'',ys'',its'',jts'',n+1,rfl,p1',p2',hl,by rw[←n1,List.length_cons];omega,by rw[←n2,List.length_cons];omega⟩
      ·rw[if_neg hk]at hl
       cases hl
       rw[decide_eq_false hk]
       simp only[Bool.not_false,if_true]
       refine wX (wpAny_rule (wX (m:=richCompare .Lt (.str i t) (.str j t')) (wpAny_mono (show wpAny _ _ (richCompare .Lt (.str i t) (.str j t')) (λv s''=>v=.bool (decide (i.cps.toList<j.cps.toList))/\s''=s') E s' from PySem.P.lt_str ⟨rfl,rfl⟩) (λv s'' hv=>?_) λ_ _ z=>z)))
       obtain⟨rfl,rfl⟩:=hv
       exact wX (wY (wY (wY q)))
 ·rintro⟨z1,z2⟩ s' ⟨hz,rfl,xs',ys',its',jts',n,e,p1,p2,hl,n1,n2⟩
  simp only at hz
  subst hz
  refine wY ?_
  have:decide (its.size<jts.size)=r:=by
   cases p1 with
   | nil =>
    cases p2 with
    | nil=>simp[aW]at hl;subst hl;simp at n1 n2;simp;omega
    | cons _ _=>simp[aW]at hl;subst hl;simp at n1 n2;simp;omega
   | cons _ _ =>
    cases p2 with
    | nil=>simp[aW]at hl;subst hl;simp at n1 n2;simp;omega
    | cons _ _=>simp at e
  show P (.done (.ret (.bool (decide (its.size<jts.size))))) s'
  rw[this];exact q
theorem AI {xs ys:List At}{a b:Addr}{r:Bool}{P:PySem.Fin->Shared->Prop}(hx:dB s.heap xs (.ref a)) (hy:dB s.heap ys (.ref b)) (h:aW ys xs=some r) (q:P (.done (.ret (.bool r))) s):wpAny (model prog w) A (Builtin.«tuple.__gt__» ⟨[.ref a,.ref b],[]⟩) P E s:=by
 have hTb:=hy.type
 obtain⟨a',oa,its,na,ea,hoa,_,hda,ra⟩:=hx
 obtain⟨b',ob,jts,nb,eb,hob,_,hdb,rb⟩:=hy
 cases ea
 cases eb
 show wpAny _ _ (isInstance (.ref _) (.type "tuple")>>=_) _ _ s
 refine wX (wpAny_isInstance hTb isSubtype_tuple_tuple ?_)
 simp only[Bool.not_true,Bool.false_eq_true,if_false]
 refine wX (wpAny_tupleItemsOf hoa hda ?_)
 refine wX (wpAny_tupleItemsOf hob hdb ?_)
 refine wX ?_
 refine wpAny_forIn_list _
  (λa0 z s'=>z.1=none/\s'=s/\∃xs' ys' its' jts' n,a0=List.zip its' jts'/\Paired atV xs' its'/\Paired atV ys' jts'/\aW ys' xs'=some r/\its'.length+n=its.size/\jts'.length+n=jts.size)
  _ ?_ ?_ _ _ ⟨rfl,rfl,xs,ys,its.toList,jts.toList,0,rfl,ra,rb,h,by simp,by simp⟩
 ·rintro⟨u,v⟩ a0 z s' ⟨hz,rfl,xs',ys',its',jts',n,e,p1,p2,hl,n1,n2⟩
  cases p1 with
  | nil=>simp at e
  | @cons x u' xs'' its'' r1 p1' =>
   cases p2 with
   | nil=>simp at e
   | @cons y v' ys'' jts'' r2 p2' =>
    simp only[List.zip_cons_cons,List.cons.injEq,Prod.mk.injEq]at e
    obtain⟨⟨rfl,rfl⟩,rfl⟩:=e
    cases x with
    | i i =>
     cases y with
     | s j=>simp[aW]at hl
     | i j =>
      obtain⟨t,rfl⟩:=r1
      obtain⟨t',rfl⟩:=r2
      rw[aW]at hl
      refine wX (wpAny_eqBool_int ?_)
      by_cases hk:j=i
      ·rw[if_pos hk]at hl
       rw[show(i == j)=true by simp[hk]]
       simp only[Bool.not_true,Bool.false_eq_true,if_false]
       exact wY ⟨rfl,rfl,xs'',ys'',its'',jts'',n+1,rfl,p1',p2',hl,by rw[←n1,List.length_cons];omega,by rw[←n2,List.length_cons];omega⟩
      ·rw[if_neg hk]at hl
       cases hl
       rw[show(i == j)=false by simp;exact λz=>hk z.symm]
       simp only[Bool.not_false,if_true]
       refine wX (wpAny_rule (wX (m:=richCompare .Gt (.int i t) (.int j t')) (wpAny_mono (show wpAny _ _ (richCompare .Gt (.int i t) (.int j t')) (λv s''=>v=.bool (decide (j<i))/\s''=s') E s' from PyProof.Rows.gt_int ⟨rfl,rfl⟩) (λv s'' hv=>?_) λ_ _ z=>z)))
       obtain⟨rfl,rfl⟩:=hv
       exact wX (wY (wY (wY q)))
    | s i =>
     cases y with
     | i j=>simp[aW]at hl
     | s j =>
      obtain⟨t,rfl⟩:=r1
      obtain⟨t',rfl⟩:=r2
      rw[aW]at hl
      refine wX (wpAny_eqBool_str ?_)
      by_cases hk:j=i
      ·rw[if_pos hk]at hl
       rw[decide_eq_true hk.symm]
       simp only[Bool.not_true,Bool.false_eq_true,if_false]
       exact wY ⟨rfl,rfl,xs'',ys'',its'',jts'',n+1,rfl,p1',p2',hl,by rw[←n1,List.length_cons];omega,by rw[←n2,List.length_cons];omega⟩
      ·rw[if_neg hk]at hl
       cases hl
       rw[decide_eq_false λz=>hk z.symm]
       simp only[Bool.not_false,if_true]
       refine wX (wpAny_rule (wX (m:=richCompare .Gt (.str i t) (.str j t')) (wpAny_mono (show wpAny _ _ (richCompare .Gt (.str i t) (.str j t')) (λv s''=>v=.bool (decide (j.cps.toList<i.cps.toList))/\s''=s') E s' from PySem.P.gt_str ⟨rfl,rfl⟩) (λv s'' hv=>?_) λ_ _ z=>z)))
       obtain⟨rfl,rfl⟩:=hv
       exact wX (wY (wY (wY q)))
 ·rintro⟨z1,z2⟩ s' ⟨hz,rfl,xs',ys',its',jts',n,e,p1,p2,hl,n1,n2⟩
  simp only at hz
  subst hz
  refine wY ?_
  have:decide (jts.size<its.size)=r:=by
   cases p1 with
   | nil =>
    cases p2 with
    | nil=>simp[aW]at hl;subst hl;simp at n1 n2;simp;omega
    | cons _ _=>simp[aW]at hl;subst hl;simp at n1 n2;simp;omega
   | cons _ _ =>
    cases p2 with
    | nil=>simp[aW]at hl;subst hl;simp at n1 n2;simp;omega
    | cons _ _=>simp at e
  show P (.done (.ret (.bool (decide (jts.size<its.size))))) s'
  rw[this];exact q
theorem GI {xs ys:List At}{x y:Value}{r:Bool}{Q:Value->Shared->Prop}(hx:dB s.heap xs x) (hy:dB s.heap ys y) (h:aW xs ys=some r) (hu:A.units<cLine) (q:Q (.bool r) s):wpAny (model prog w) A (richCompare .Lt x y) Q E s:=by
 have tx:=hx.type
 have ty:=hy.type
 obtain⟨a,_,_,_,rfl,_⟩:=id hx
 obtain⟨b,_,_,_,rfl,_⟩:=id hy
 exact wpAny_richCompare_same_room (op:=.Lt) tx ty PySem.F.slot_tuple_lt (wpAny_call_entry PySem.F.slot_tuple_lt tx PySem.F.entry_tuple_lt (AH hx hy h ⟨_,rfl,(λe=>nomatch e),q⟩) (PySem.F.args_tuple_lt_2 _ _)) hu
theorem GJ {xs ys:List At}{x y:Value}{r:Bool}{Q:Value->Shared->Prop}(hx:dB s.heap xs x) (hy:dB s.heap ys y) (h:aW ys xs=some r) (hu:A.units<cLine) (q:Q (.bool r) s):wpAny (model prog w) A (richCompare .Gt x y) Q E s:=by
 have tx:=hx.type
 have ty:=hy.type
 obtain⟨a,_,_,_,rfl,_⟩:=id hx
 obtain⟨b,_,_,_,rfl,_⟩:=id hy
 exact wpAny_richCompare_same_room (op:=.Gt) tx ty PySem.F.slot_tuple_gt (wpAny_call_entry PySem.F.slot_tuple_gt tx PySem.F.entry_tuple_gt (AI hx hy h ⟨_,rfl,(λe=>nomatch e),q⟩) (PySem.F.args_tuple_gt_2 _ _)) hu
end
def jM:List At×D->List (List At×D)->D
 | b,[]=>b.2
 | b,x::r=>if aW b.1 x.1=some true then jM x r else jM b r
def iN:List At×D->List (List At×D)->D
 | b,[]=>b.2
 | b,x::r=>if aW x.1 b.1=some true then iN x r else iN b r
def mmP {f:String->CmpOp->Builtin}(_:f "max" .Gt=Builtin.«max.loop»):=f
def mmL:String->CmpOp->Builtin:=mmP rfl
def mmQ {f:String->Builtin}(_:f "max" = Builtin.«max»):=f
def mmF:String->Builtin:=mmQ rfl
structure MM (nm lp:String) (ns:Str) (op:CmpOp) (lt:List At->List At->Option Bool) (go:List At×D->List (List At×D)->D):Prop where
 hn:(toString nm++toString ".loop" : String)=lp
 en:entryFor table lp=some (mmL nm op)
 pl:plainId lp=true
 k2:builtinKind nm=none
 p2:plainId nm=true
 e2:entryFor table nm=some (mmF nm)
 ka:∀a v:Value,argsOk nm ⟨[a],[(Str.ofString "key",v)]⟩
 bt:bootBuiltins ns=some (.builtin nm)
 n1:ns ≠ "__name__"
 n2:(ns == ("__debug__" : Str))=false
 g0:∀b,go b []=b.2
 g1:∀b x r,go b (x::r)=if lt b.1 x.1=some true then go x r else go b r
 cg:∀ {ks:List (List At)},cY ks=true->∀ {a b},a∈ks->b∈ks->∃r,lt a b=some r
 rc:∀ {prog:Program}{w:World}{A:Around}{E:Value->Shared->Prop}{s:Shared}{xs ys:List At}{x y:Value}{r:Bool}{Q:Value->Shared->Prop},dB s.heap xs x->dB s.heap ys y->lt ys xs=some r->A.units<cLine->Q (.bool r) s->wpAny (model prog w) A (richCompare op x y) Q E s
theorem mmx:MM "max" "max.loop" "max" .Gt aW jM :=
 ⟨by decide,PySem.F.entry_max_loop,PySem.F.plain_max_loop,PySem.F.kind_max,PySem.F.plain_max,PySem.F.entry_max,λ_ _=>by unfold argsOk;kernel_rfl,rfl,by decide,by decide,λ_=>rfl,λ_ _ _=>rfl,λh _ _ a b=>⟨_,fO h a b⟩,GJ⟩
theorem mmn:MM "min" "min.loop" "min" .Lt (λa b=>aW b a) iN :=
 ⟨by decide,PySem.F.entry_min_loop,PySem.F.plain_min_loop,PySem.F.kind_min,PySem.F.plain_min,PySem.F.entry_min,λ_ _=>by unfold argsOk;kernel_rfl,rfl,by decide,by decide,λ_=>rfl,λ_ _ _=>rfl,λh _ _ a b=>⟨_,fO h b a⟩,GI⟩
section
variable {X:Cx}{pins:List (Addr×Obj)}{σ:St}
theorem nw {o1 o2:Obj}{H':Hp}{s':Shared}{a1 a2:Addr}(J:Inv X ((a1,o1)::(a2,o2)::pins) σ H' s'):Inv X ((a2,o2)::(a1,o1)::pins) σ H' s' :=
 J.pins_of λq hq=>J.pin q (by
  rcases List.mem_cons.mp hq with rfl|hq
  ·exact mY _ (mZ _ mX)
  ·rcases List.mem_cons.mp hq with rfl|hq
   ·exact mY _ mX
   ·exact mY _ (mZ _ (mZ _ hq)))
theorem ny {S a:Addr}{o:Obj}(hp:∀q∈X.pn++pins,q.1≠a) (h:S≠a):∀q∈X.pn++((S,o)::pins),q.1≠a:=λq hq=>by
 rcases List.mem_append.mp hq with hq|hq
 ·exact hp q (List.mem_append_left _ hq)
 ·rcases List.mem_cons.mp hq with rfl|hq
  ·exact h
  ·exact hp q (mY _ hq)
theorem xV {pins:List (Addr×Obj)}{H:Hp}{s:Shared}{v:V}{u:Value}{d:D}{k:List At}(I:Inv X pins σ H s) (r:aN v u) (i:Is X.K H v d) (e:jK d=some k):dB s.heap k u:=by
 have:=mw I (ys:=[v]) (ds:=[d]) (ks:=[k]) (its:=[u]) (.cons r .nil) (.cons i .nil) (by simp only[cA,e];rfl)
 cases this;assumption
theorem C4 {nm lp:String}{ns:Str}{op:CmpOp}{lt:List At->List At->Option Bool}{go:List At×D->List (List At×D)->D}(M:MM nm lp ns op lt go) {qv:Value}{l S It:Addr}{vs:List V}{ds kds:List D}{ks:List (List At)}{B H1:Hp}{kf:D->Option D}{d0:D}{R:Result->Shared->Prop}(hh:X.A.handled=none) (hu:X.A.in1.units<cLine) (kfn:AF X X.A.in1 σ qv B H1 kf) (hqv:∃a,qv=.ref a) (hq:SqL X.K B l vs) (iv:IsL X.K B vs ds)
  (em:gA kf ds=some kds) (ek:cA kds=some ks) (hc:cY ks=true) (S0:X.s₀.heap.objs.size<=S) (I0:X.s₀.heap.objs.size<=It) (hSp:∀q∈X.pn++pins,q.1≠S) (hIp:∀q∈X.pn++pins,q.1≠It) (hSI:S≠It) (hSl:S≠l) (hIl:l≠It)
  (hR:∀(s':Shared) (H' N:Hp) (v:V) (u:Value),Inv X pins σ H' s'->Ext B N H1 H'->aN v u->Is X.K N v d0->R (.ok (.ret u)) s') :
  ∀(r j:Nat) (s:Shared) (H N:Hp) (ub kub:Value) (vb kvb:V) (db kdb:D) (kb:List At) (c:Nat) (oI:Obj),vs.length - j=r->j<=vs.length->Inv X ((S,seqObj "list" #[ub,kub] c)::(It,oI)::pins) σ H s->s.heap.IsListIter It l j->Ext B N H1 H ->
   aN vb ub->Is X.K N vb db->aN kvb kub->Is X.K N kvb kdb->jK kdb=some kb->kb∈ks->go (kb,db) ((ks.zip ds).drop j)=d0 ->
   codeAny (model X.prog X.w) X.A (.builtin lp ⟨[.ref It,qv,.ref S],[]⟩) R s:=by
 obtain⟨qa,rfl⟩:=hqv
 intro r
 induction r with
 | zero =>
  intro j s H N ub kub vb kvb db kdb kb c oI hr hj I hit x1 r1 i1 r2 i2 ekb mk hd
  have pS:=I.pin (S,seqObj "list" #[ub,kub] c) (mY _ mX)
  have sB:aJ B H:=x1.bn.trans x1.nh
  obtain⟨its,rv,pl,_⟩:=I.list (sB.seq hq)
  have hl:=pl.isList
  have W:=Walks.list (prog:=X.prog) (w:=X.w) (A:=X.A.in1) hh It l hIl its.toArray
  have hsz:its.toArray.size=its.length:=List.size_toArray ..
  have hvl:vs.length=its.length:=rv.length
  have hdl:ds.length=its.length:=by rw[←iv.length];exact rv.length
  have hkl:ks.length=ds.length:=by rw[cQ ek,eO em]
  have hd':db=d0:=by
   rw[List.drop_of_length_le (by rw[List.length_zip];omega)]at hd
   rw[M.g0]at hd;exact hd
  subst hd'
  refine codeAny_builtin M.en ?_
  rw[Around.under_plainId M.pl _]
  show wpAny _ X.A.in1 (seqItems? (.ref S)>>=_) _ _ _
  refine wX (wpAny_seqItems pS.1 rfl ?_)
  show wpAny _ X.A.in1 (tryCatch (pyNext (.ref It)) _>>=_) _ _ _
  refine wX (wpAny_tryCatch (W.done _ _ _ ⟨by rw[hsz,show its.length=j by omega];exact hit,hl⟩ λh' tk' hk'=>?_))
  have J1:Inv X ((It,oI)::(S,seqObj "list" #[ub,kub] c)::pins) σ H s:=nw I
  have hIp':∀q∈X.pn++((S,seqObj "list" #[ub,kub] c)::pins),q.1≠It:=ny hIp hSI
  have J2:Inv X ((S,seqObj "list" #[ub,kub] c)::pins) σ H { s with heap:=h',toks:=tk' } :=
   (gL J1).turned (t':=tk') (λb o n e=>hk' b o (by simpa using n) e) (J1.pin (It,oI) (mY _ mX)).2.1 (J1.pin (It,oI) (mY _ mX)).2.2.1 (.inr I0) (kM J1) hIp'
  have pS2:=J2.pin (S,seqObj "list" #[ub,kub] c) (mY _ mX)
  obtain⟨c2,hc2⟩:∃c2,(h'.update S (Obj.mapSeq λ_=>(#[]:Array Value))).get? S=some (seqObj "list" #[] c2):=⟨_,get?_update_seq pS2.1 λ_=>#[]⟩
  have u2:=Heap.SameBut.update h' S (Obj.mapSeq λ_=>(#[]:Array Value))
  show wpAny _ X.A.in1 (updateSeq S (λ_=>#[])>>=_) _ _ _
  refine wX ?_
  refine wpAny_updateSeq pS2.1 rfl (wX (wpAny_letGo (wY ?_)))
  exact hR _ H N vb ub (gL (dR (t':=tk') J2 S0 hSp (λb o n e=>(u2.2 b n).trans e) hc2 cj)) x1 r1 i1
 | succ r ih =>
  intro j s H N ub kub vb kvb db kdb kb c oI hr hj I hit x1 r1 i1 r2 i2 ekb mk hd
  have hlt:j<vs.length:=by omega
  have pS:=I.pin (S,seqObj "list" #[ub,kub] c) (mY _ mX)
  have sB:aJ B H:=x1.bn.trans x1.nh
  obtain⟨its,rv,pl,_⟩:=I.list (sB.seq hq)
  have hl:=pl.isList
  have W:=Walks.list (prog:=X.prog) (w:=X.w) (A:=X.A.in1) hh It l hIl its.toArray
  have hsz:its.toArray.size=its.length:=List.size_toArray ..
  have hvl:vs.length=its.length:=rv.length
  have hdl:ds.length=its.length:=by rw[←iv.length];exact rv.length
  have hkl:ks.length=ds.length:=by rw[cQ ek,eO em]
  refine codeAny_builtin M.en ?_
  rw[Around.under_plainId M.pl _]
  show wpAny _ X.A.in1 (seqItems? (.ref S)>>=_) _ _ _
  refine wX (wpAny_seqItems pS.1 rfl ?_)
  show wpAny _ X.A.in1 (tryCatch (pyNext (.ref It)) _>>=_) _ _ _
  refine wX (wpAny_tryCatch (W.item j _ _ _ (by rw[hsz];omega) ⟨hit,hl⟩ λu h' tk' hP hst' hk'=>?_))
  have hu':its[j]? = some u:=by simpa using hP
  obtain⟨d,hdj⟩:∃d,ds[j]? = some d:=⟨_,List.getElem?_eq_getElem (by omega)⟩
  obtain⟨v,hv,iv'⟩:=iv.get hdj
  obtain⟨kd,hkj,hkf⟩:=jL em hdj
  obtain⟨u2,hu2,ru⟩:=rv.get hv
  rw[hu']at hu2;cases hu2
  obtain⟨k,hk1⟩:∃k,ks[j]? = some k:=⟨_,List.getElem?_eq_getElem (by omega)⟩
  have ekd:jK kd=some k:=by
   have:=eF ek (i:=j) (by rw[eO em];omega)
   rw[List.getD_eq_getElem?_getD,hkj,List.getD_eq_getElem?_getD,hk1]at this
   exact this
  have hm:k∈ks:=List.mem_of_getElem? hk1
  obtain⟨oI',hoI',hoc,hod⟩:=id hst'.1
  have J1:Inv X ((It,oI)::(S,seqObj "list" #[ub,kub] c)::pins) σ H s:=nw I
  have hIp':∀q∈X.pn++((S,seqObj "list" #[ub,kub] c)::pins),q.1≠It:=ny hIp hSI
  have hSp':∀q∈X.pn++((It,oI')::pins),q.1≠S:=ny hSp hSI.symm
  have J2:Inv X ((It,oI')::(S,seqObj "list" #[ub,kub] c)::pins) σ H { s with heap:=h',toks:=tk' } :=
   dR (t':=tk') J1 I0 hIp' (λb o n e=>hk' b o (by simpa using n) e) hoI' (λv z=>by rw[hod]at z;cases z)
  have J3:Inv X ((S,seqObj "list" #[ub,kub] c)::(It,oI')::pins) σ H { s with heap:=h',toks:=tk' }:=nw J2
  show wpAny _ X.A.in1 (tryCatch (holding [u] (call (.ref qa) [u])) _>>=_) _ _ _
  refine wX (wpAny_tryCatch (wpAny_holding (wpAny_mono (kfn _ _ H N v u d kd J3 x1.hh x1.bn x1.nh (iv'.mono x1.bn) ru hkf) (λku s2 he=>?_) λ_ _ hF=>hF.elim)))
  obtain⟨kv,H2,J4,rk,N2,x2,ik⟩:=he
  have pI4:=J4.pin (It,oI') (mY _ (mZ _ mX))
  have pS4:=J4.pin (S,seqObj "list" #[ub,kub] c) (mY _ mX)
  have hit2:s2.heap.IsListIter It l (j+1):=⟨oI',pI4.1,hoc,hod⟩
  have t1:=xV J4 rk (ik.mono x2.nh) ekd
  have t2:=xV J4 r2 (i2.mono (x2.bn.trans x2.nh)) ekb
  have hz:(ks.zip ds).drop j=(k,d)::(ks.zip ds).drop (j+1):=by
   have hj':j<(ks.zip ds).length:=by rw[List.length_zip];omega
   rw[List.drop_eq_getElem_cons hj']
   have:(ks.zip ds)[j]? = some (k,d):=List.getElem?_zip_eq_some.mpr ⟨hk1,hdj⟩
   rw[List.getElem?_eq_getElem hj']at this
   rw[Option.some.inj this]
  rw[hz,M.g1]at hd
  obtain⟨r,hlx⟩:=M.cg hc mk hm
  show wpAny _ X.A.in1 (tryCatch (holding [u,ku] (richCompare op ku kub>>=_)) _>>=_) _ _ _
  refine wX (wpAny_tryCatch (wpAny_holding (wX (M.rc t1 t2 hlx hu ?_))))
  refine wX (wpAny_holding (wpAny_truthy_bool ?_))
  refine wX (wpAny_letGo (wY ?_))
  cases r with
  | true =>
   rw[if_pos hlx]at hd
   obtain⟨c2,hc2⟩:∃c2,(s2.heap.update S (Obj.mapSeq λ_=>#[u,ku])).get? S=some (seqObj "list" #[u,ku] c2):=⟨_,get?_update_seq pS4.1 λ_=>#[u,ku]⟩
   have u2:=Heap.SameBut.update s2.heap S (Obj.mapSeq λ_=>#[u,ku])
   simp only[if_true]
   refine wX ?_
   refine wpAny_updateSeq pS4.1 rfl (wX (wpAny_letGo ?_))
   rw[M.hn]
   exact wY ⟨plainId_quiet M.pl _,ih (j+1) _ H2 N2 u ku v kv d kd k c2 oI' (by omega) hlt (dR (t':=s2.toks) J4 S0 hSp' (λb o n e=>(u2.2 b n).trans e) hc2 cj) ⟨oI',(u2.2 It hSI.symm).trans pI4.1,hoc,hod⟩ (x1.trans x2) ru (iv'.mono (x1.bn.trans x2.bn)) rk ik ekd hm hd⟩
  | false =>
   rw[if_neg (by rw[hlx];simp)]at hd
   simp only[Bool.false_eq_true,if_false]
   refine wX (wpAny_letGo ?_)
   rw[M.hn]
   exact wY ⟨plainId_quiet M.pl _,ih (j+1) _ H2 N2 ub kub vb kvb db kdb kb c oI' (by omega) hlt J4 hit2 (x1.trans x2) r1 (i1.mono x2.bn) r2 (i2.mono x2.bn) ekb mk hd⟩
end
@[simp] def fKK (go:List At×D->List (List At×D)->D) (f:FE) (kf:Env->D->Option D):FE:=λρ=>(f ρ).bind λx=>match x.1 with
 | .lst ds=>(gA (kf ρ) ds).bind λkds=>(cA kds).bind λks=>if cY ks=true then match ks.zip ds with
  | []=>none
  | y::r=>some (go y r,false)
  else none
 | _=>none
@[simp] def qi:=fKK jM
@[simp] def qj:=fKK iN
section
variable {X:Cx}{e ke:Expr}{p pos kp:Pos}
theorem uB {nm lp:String}{ns:Str}{op:CmpOp}{lt:List At->List At->Option Bool}{go:List At×D->List (List At×D)->D}(M:MM nm lp ns op lt go) {f:FE}{kf:Env->D->Option D}{k:Nat}(hm:X.mg ns=none) (he:JE X e f) (hk:JK X X.A.in1 ke kf) (hr:Room k X.A) (hg:Gl X ns:=by rfl)
  (hes:starEach [e] X.env=[(false,eval e X.env)]:=by rfl) (heb:backTo pos (starEach [e] X.env)=(false,eval e X.env)::backTo pos (starEach [] X.env):=by rfl) (hpl:(backTo pos (starEach [e] X.env)).any (·.1)=false:=by rfl)
  (hall:(backToKw pos (keywordEach [⟨some "key",ke,kp⟩] X.env)).all (·.1.isSome)=true:=by rfl) (hkw:(backToKw pos (keywordEach [⟨some "key",ke,kp⟩] X.env)).any (·.1.isNone)=false:=by rfl)
  (hnm:(backToKw pos (keywordEach [⟨some "key",ke,kp⟩] X.env)).filterMap (·.1)=[("key" : Str)]:=by rfl) :
  JE X (.Call (.Name ns p) [e] [⟨some "key",ke,kp⟩] pos) (fKK go f kf):=by
 intro pins s σ H Q I h
 obtain⟨B,ρ,d,b,sB,rep,ee,q⟩:=h
 obtain⟨⟨xd,xb⟩,ex,ee⟩:=oX ee
 cases xd<;>try (cases ee;done)
 rename_i ds
 obtain⟨kds,em,ee⟩:=oX ee
 obtain⟨ks,ek,ee⟩:=oX ee
 split at ee
 ·rename_i hc
  split at ee
  ·cases ee
  ·rename_i y a0 ez
   cases ee
   refine wpAny_Call_Name_kw (iT I hg hm M.bt ?_ M.n1 M.n2)
   refine callWith_kw (thn ((ga he iU hes) pos pins s σ H (λvs H1=>∃v N,vs=[v]/\Ext B N H H1/\Is X.K N v (.lst ds)) I ⟨B,ρ,_,_,sB,rep,ex,λv H1 N x1 i1 _=>⟨v,N,rfl,x1,i1⟩⟩) λus s1 hA=>?_) heb hpl hall hkw
   obtain⟨vs1,H1,I1,r1,v,N,rfl,x1,i1⟩:=hA
   obtain⟨u,rfl,ru⟩:=jz r1
   refine kws_cons (hk pins s1 σ H1 N ρ _ _ I1 x1.nh (rep.mono x1.bn) λqa H2 s2 I2 m2 kfn=>kws_nil ?_)
   rw[hnm]
   show wpAny _ _ (call (.builtin nm) [u] [(("key" : Str),.ref qa)]) _ _ _
   cases i1
   rename_i l vs hq il
   cases ru
   have sN:aJ N H2:=x1.nh.trans m2
   obtain⟨its,rv,pl,hz⟩:=I2.list (sN.seq hq)
   have hvl:vs.length=its.length:=rv.length
   have hdl:ds.length=vs.length:=il.length.symm
   have hkd:kds.length=ds.length:=eO em
   have hks:ks.length=kds.length:=cQ ek
   have hll:l<s2.heap.objs.size:=by
    obtain⟨ol,hol,_⟩:=pl.isList
    exact Heap.lt_size hol
   -- the first item
   obtain⟨k0,d0⟩:=y
   have hne:0<its.length:=by
    have:=congrArg List.length ez
    rw[List.length_zip,List.length_cons]at this
    omega
   have z0:(ks.zip ds)[0]? = some (k0,d0):=by rw[ez];rfl
   obtain⟨hk0,hd0⟩:=List.getElem?_zip_eq_some.mp z0
   have hrest:(ks.zip ds).drop 1=a0:=by rw[ez];rfl
   refine kmk_tree M.k2 M.p2 M.e2 (M.ka _ _) ?_
   show wpAny _ X.A.in1 (Builtin.Builtins.bindParams nm ["key","default"] 0 ⟨[],[(Str.ofString "key",.ref qa)]⟩>>=_) _ _ s2
   refine wX (wpAny_of_eq (show Builtin.Builtins.bindParams nm ["key","default"] 0 ⟨[],[(Str.ofString "key",.ref qa)]⟩=pure [some (.ref qa),none]from rfl) ?_)
   refine wX (wY ?_)
   refine wX (wpAny_pyIter_list pl.isList ?_)
   refine wX (wpAny_newList ?_ (Nat.zero_le _))
   rw[M.hn]
   let It:Addr:=s2.heap.objs.size
   let oI:Obj:={ cls:=.type "list_iterator",data:=.fields #[.ref l,.int 0 0] }
   let S:Addr:=(s2.heap.push oI).objs.size
   have hS:S=s2.heap.objs.size+1:=size_push' ..
   have hSI:S≠It:=by rw[hS];exact Nat.ne_of_gt (Nat.lt_succ_self _)
   have J1:Inv X ((It,oI)::pins) σ H2 { s2 with heap:=s2.heap.push oI }:=mz (t':=s2.toks) I2 (λb u q=>Heap.get?_push_of_some _ q) (Nat.le_refl _) (Heap.get?_push_size _ rfl) (λv z=>by cases z)
   have J2:Inv X ((S,seqObj "list" #[] 0)::(It,oI)::pins) σ H2 { s2 with heap:=(s2.heap.push oI).push (seqObj "list" #[] 0) }:=mz (s:={ s2 with heap:=s2.heap.push oI }) (t':=s2.toks) J1 (λb u q=>Heap.get?_push_of_some _ q) (Nat.le_refl _) (Heap.get?_push_size _ rfl) cj
   have I0:X.s₀.heap.objs.size<=It:=I2.sz
   have S0:X.s₀.heap.objs.size<=S:=by rw[hS];exact Nat.le_succ_of_le I2.sz
   have hIp:∀q∈X.pn++pins,q.1≠It:=λq hq=>Nat.ne_of_lt (Heap.lt_size (I2.pin q hq).1)
   have hSp:∀q∈X.pn++pins,q.1≠S:=λq hq=>by rw[hS];exact Nat.ne_of_lt (Nat.lt_succ_of_lt (Heap.lt_size (I2.pin q hq).1))
   have hIl:l≠It:=Nat.ne_of_lt hll
   have hSl:S≠l:=by rw[hS];exact Nat.ne_of_gt (Nat.lt_succ_of_lt hll)
   have hh:X.A.handled=none:=hr.hd
   have hu:X.A.in1.units<cLine:=by have:=hr.un;show X.A.units+1<cLine;omega
   have pS:=J2.pin (S,seqObj "list" #[] 0) (mY _ mX)
   have pI:=J2.pin (It,oI) (mY _ (mZ _ mX))
   obtain⟨its2,rv2,pl2,_⟩:=J2.list (sN.seq hq)
   have hv2:vs.length=its2.length:=rv2.length
   have W:=Walks.list (prog:=X.prog) (w:=X.w) (A:=X.A.in1) hh It l hIl its2.toArray
   have hsz:its2.toArray.size=its2.length:=List.size_toArray ..
   refine wY ⟨plainId_quiet M.pl _, ?_⟩
   refine codeAny_builtin M.en ?_
   rw[Around.under_plainId M.pl _]
   show wpAny _ X.A.in1 (seqItems? (.ref S)>>=_) _ _ { s2 with heap:=(s2.heap.push oI).push (seqObj "list" #[] 0) }
   refine wX (wpAny_seqItems pS.1 rfl ?_)
   show wpAny _ X.A.in1 (tryCatch (pyNext (.ref It)) _>>=_) _ _ _
   refine wX (wpAny_tryCatch (W.item 0 _ _ _ (by rw[hsz];omega) ⟨⟨oI,pI.1,rfl,rfl⟩,pl2.isList⟩ λu h' tk' hP hst' hk'=>?_))
   have hu':its2[0]? = some u:=by simpa using hP
   obtain⟨v,hv,iv'⟩:=il.get hd0
   obtain⟨kd,hkj,hkf⟩:=jL em hd0
   obtain⟨u2,hu2,ru⟩:=rv2.get hv
   rw[hu']at hu2;cases hu2
   have ekd:jK kd=some k0:=by
    have:=eF ek (i:=0) (by omega)
    rw[List.getD_eq_getElem?_getD,hkj,List.getD_eq_getElem?_getD,hk0]at this
    exact this
   obtain⟨oI',hoI',hoc,hod⟩:=id hst'.1
   have hIp':∀q∈X.pn++((S,seqObj "list" #[] 0)::pins),q.1≠It:=ny hIp hSI
   have hSp':∀q∈X.pn++((It,oI')::pins),q.1≠S:=ny hSp hSI.symm
   have J3:=nw (dR (t':=tk') (nw J2) I0 hIp' (λb o n e=>hk' b o (by simpa using n) e) hoI' (λv z=>by rw[hod]at z;cases z))
   show wpAny _ X.A.in1 (tryCatch (holding [u] (call (.ref qa) [u])) _>>=_) _ _ _
   refine wX (wpAny_tryCatch (wpAny_holding (wpAny_mono (kfn _ _ H2 N v u d0 kd J3 (.refl _) (.refl _) sN iv' ru hkf) (λku s3 he=>?_) λ_ _ hF=>hF.elim)))
   obtain⟨kv,H3,J4,rk,N3,x3,ik⟩:=he
   have pI4:=J4.pin (It,oI') (mY _ (mZ _ mX))
   have pS4:=J4.pin (S,seqObj "list" #[] 0) (mY _ mX)
   obtain⟨c2,hc2⟩:∃c2,(s3.heap.update S (Obj.mapSeq λ_=>#[u,ku])).get? S=some (seqObj "list" #[u,ku] c2):=⟨_,get?_update_seq pS4.1 λ_=>#[u,ku]⟩
   have u2:=Heap.SameBut.update s3.heap S (Obj.mapSeq λ_=>#[u,ku])
   show wpAny _ X.A.in1 (updateSeq S (λ_=>#[u,ku])>>=_) _ _ _
   refine wX ?_
   refine wpAny_updateSeq pS4.1 rfl ?_
   rw[M.hn]
   have xx:Ext B N H H2:=x1.trans (.grow x1.nh m2)
   refine wY ⟨plainId_quiet M.pl _,C4 M (S:=S) (It:=It) hh hu kfn ⟨qa,rfl⟩ hq il em ek hc S0 I0 hSp hIp hSI hSl hIl (λs' H' N' v' u' J' x' r' i'=>⟨v',H',J',r',q _ _ _ (xx.trans x') i' (by simp)⟩) _ 1 _ H3 N3 u ku v kv d0 kd k0 c2 oI' rfl (by omega)
    (dR (t':=s3.toks) J4 S0 hSp' (λb o n e=>(u2.2 b n).trans e) hc2 cj) ⟨oI',(u2.2 It hSI.symm).trans pI4.1,hoc,hod⟩ x3 ru (iv'.mono x3.bn) rk ik ekd (List.mem_of_getElem? hk0) (by rw[hrest])⟩
 ·cases ee
end
section
variable {X:Cx}
@[simp] def tLt:D->D->Option (D×Bool)
 | .tup xs,.tup ys=>(cU xs).bind λas=>(cU ys).bind λbs=>(aW as bs).map λr=>(.bl r,false)
 | _,_=>none
@[simp] def tGt:D->D->Option (D×Bool)
 | .tup xs,.tup ys=>(cU xs).bind λas=>(cU ys).bind λbs=>(aW bs as).map λr=>(.bl r,false)
 | _,_=>none
end
section
variable {X:Cx}{a b:Expr}{p pos:Pos}
@[simp] def GV (f g:FE):FA:=λρ=>(f ρ).bind λx=>(g ρ).bind λy=>match x.1,y.1 with
 | .int i,.int j=>if -1000<=i/\i<=1000/\-1000<=j/\j<=1000 then some (f8 i (j - i).toNat)else none
 | _,_=>none
end
@[simp] def HL:List D->Option (D×Bool)
 | [.tup xs,.tup ys]=>(cU xs).bind λas=>(cU ys).bind λbs=>(aW as bs).map λr=>(if r=true then .tup ys else .tup xs,false)
 | _=>none
end DL
namespace DL
open PySem PySem.Spec PyProof.Rows L2
section
variable {X:Cx}
def nz:D->D->Option (D×Bool)
 | .tup xs,.tup ys=>if xs.isEmpty=true then some (.tup ys,false)else none
 | _,_=>none
theorem C5:OpR X (binaryOp .Add) (rD X.K nz):=by
 intro pins s σ H x y v u Q I rx ry q
 obtain⟨B,dx,dy,d,bb,sB,ix,iy,ee,q⟩:=q
 cases ix<;>cases iy<;>try (simp[nz]at ee;done)
 rename_i l vs ds h hl l' ws es h' hl'
 simp only[nz]at ee
 split at ee
 ·rename_i hz
  cases ee
  cases rx
  cases ry
  obtain⟨its,r1,p1,_⟩:=I.tuple (aV sB h)
  obtain⟨its2,r2,p2,_⟩:=I.tuple (aV sB h')
  have he:its.toArray.isEmpty=true:=by
   have e1:=hl.length
   have e2:=r1.length
   have e3:=List.isEmpty_iff.mp hz
   rw[e3]at e1
   cases its with
   | nil=>rfl
   | cons a b=>rw[e1]at e2;simp at e2
  obtain⟨⟨cls,dd,data,sl⟩,ho,hc,n,hd⟩:=id p1
  obtain⟨⟨cls2,dd2,data2,sl2⟩,ho2,hc2,n2,hd2⟩:=id p2
  dsimp only at hc hd hc2 hd2
  subst hc;subst hd;subst hc2;subst hd2
  exact concat_meets ⟨_,ho,rfl⟩ ⟨_,ho2,rfl⟩ noFill_tuple_add seq_tuple_add PySem.F.slot_tuple_add PySem.F.entry_tuple_add (PySem.F.args_tuple_add_2 _ _)
   (tuple_addW0 l l' its.toArray its2.toArray n n2 dd dd2 sl sl2 he) ⟨ho,ho2,⟨.ref l',H,I,rfl,q.one sB (.tup h' hl')⟩⟩
 ·cases ee
@[simp] def xW:D->D->Option (D×Bool)
 | .tup xs,.tup ys=>if xs.length+ys.length<=sizeLine then some (.tup (xs++ys),false)else none
 | _,_=>none
theorem C6 (xs ys:List D) (z:xs.length+ys.length<=sizeLine):orD mT nz (.tup xs) (.tup ys)=some (.tup (xs++ys),false):=by
 cases xs with
 | nil =>
  have:mT (.tup []) (.tup ys)=none:=if_neg (λh=>by cases h.2)
  show(match mT (.tup []) (.tup ys) with|some z=>some z|none=>nz (.tup []) (.tup ys))=_
  rw[this]
  rfl
 | cons a l =>
  have:mT (.tup (a::l)) (.tup ys)=some (.tup (a::l++ys),false):=if_pos ⟨z,rfl⟩
  show(match mT (.tup (a::l)) (.tup ys) with|some z=>some z|none=>nz (.tup (a::l)) (.tup ys))=_
  rw[this]
theorem AJ:OpR X (binaryOp .Add) (rD X.K xW):=by
 refine f7 (r:=rD X.K (orD mT nz)) (kD Au C5) λx y H Q q=>?_
 obtain⟨B,dx,dy,d,bb,sB,ix,iy,ee,q⟩:=q
 refine⟨B,dx,dy,d,bb,sB,ix,iy, ?_,q⟩
 cases ix<;>try (cases ee;done)
 cases iy<;>try (cases ee;done)
 rename_i l vs ds h hl l' ws es h' hl'
 simp only[xW]at ee
 split at ee
 ·rename_i hz
  rw[C6 _ _ hz]
  exact ee
 ·cases ee
end
section
variable {X:Cx}
@[simp] def GW:List D->Option (D×Bool)
 | [d,.tup [.ty n,.ty m]]=>if G7 d=true then none else if n = "list"/\m = "tuple" then some (.bl (EU d == "list" || EU d == "tuple"),false)else none
 | _=>none
end
@[simp] def fP:D->Option Key
 | .int i=>some (.inl i)
 | .str x=>some (.inr x)
 | _=>none
theorem uC {K:PySem.W.Frag}{B:Hp}{v:V}{d:D}{k:Key}(i:Is K B v d) (e:fP d=some k):v=kV k:=by
 cases i<;>simp only[fP]at e<;>cases e<;>rfl
def bw {κ:Type}[DecidableEq κ]:List κ->List D->κ->Option D
 | k'::ks,d::ds,k=>if k'=k then some d else bw ks ds k
 | _,_,_=>none
theorem se {κ:Type}[DecidableEq κ] {K:PySem.W.Frag}{B:Hp}(k:κ):∀ {ks:List κ}{vs:List V}{ds:List D},ks.length=vs.length->IsL K B vs ds ->
  (∃v d,gD (ks.zip vs) k=some v/\bw ks ds k=some d/\Is K B v d)∨(gD (ks.zip vs) k=none/\bw ks ds k=none)
 | [],vs,ds,_,_=>.inr ⟨by cases vs<;>rfl,by cases ds<;>rfl⟩
 | k'::ks,[],_,h,_=>by simp at h
 | k'::ks,v::vs,_,h,.cons i is=>by
  rw[List.zip_cons_cons]
  unfold bw
  by_cases e:k'=k
  ·rw[if_pos e]
   exact .inl ⟨v,_,j4 (p:=(k',v)) e,rfl,i⟩
  ·rw[if_neg e,j5 (p:=(k',v)) e]
   exact se k (by simpa using h) is
section
variable {X:Cx}{o e i:Expr}{pos:Pos}
@[simp] def wE:D->D->Option (D×Bool)
 | .dk ks vs,y=>(fP y).map λk=>((bw ks vs k).getD .non,false)
 | _,_=>none
theorem uE {apos cpos:Pos}{fo fe:FE}(hu:X.A.units+1<cLine) (ho:JE X o fo) (he:JE X e fe) (m:M1 X o "get" apos e cpos):JE X (.Call (.Attribute o "get" apos) [e] [] cpos) (f2 wE fo fe):=by
 refine PE.to (t8 hu ho he m) λσ H Q q=>?_
 obtain⟨B,ρ,d,bb,sB,r,ee,q⟩:=q
 obtain⟨x,ex,ee⟩:=oX ee
 obtain⟨y,ey,ee⟩:=oX ee
 refine⟨B,ρ,x.1,x.2,sB,r,ex,λv H1 N1 x1 i1 ff=>?_⟩
 obtain⟨xd,xb⟩:=x
 cases i1 with
 | @dk a ks vs ds h hl hs =>
  simp only[wE]at ee
  obtain⟨k,hk,ee⟩:=oY ee
  cases ee
  refine⟨a,rfl,.inl ⟨_,.inl (x1.nh _ _ h)⟩,N1,ρ,y.1,y.2,x1.nh,r.mono x1.bn,ey,λv2 H2 N2 x2 i2 _=>?_⟩
  have hv:=uC i2 hk
  subst hv
  refine⟨gD (ks.zip vs) k,.inl ⟨_,k,.inl (x2.nh _ _ (x2.bn _ _ h)),rfl,rfl⟩, ?_⟩
  have hs2:=hs.mono x2.bn
  rcases se k hl hs2 with ⟨v,d',e1,e2,i3⟩|⟨e1,e2⟩
  ·rw[e1]
   rw[e2]at q
   exact(q.into (x1.trans x2)).one x2.nh i3
  ·rw[e1]
   rw[e2]at q
   exact(q.into (x1.trans x2)).one x2.nh .non
 | _=>simp[wE]at ee
@[simp] def ixK:D->D->Option (D×Bool)
 | .dk ks vs,y=>(fP y).bind λk=>(bw ks vs k).map λd=>(d,false)
 | _,_=>none
theorem eP {fo fi:FE}(hu:X.A.units+1<cLine) (ho:JE X o fo) (hi:JE X i fi) (hs:E7 i):JE X (.Subscript o i pos) (f2 ixK fo fi):=by
 refine PE.to (BW hu ho hi hs) λσ H Q q=>?_
 obtain⟨B,ρ,d,bb,sB,r,ee,q⟩:=q
 obtain⟨x,ex,ee⟩:=oX ee
 obtain⟨y,ey,ee⟩:=oX ee
 refine⟨B,ρ,x.1,x.2,sB,r,ex,λv H1 N1 x1 i1 ff=>?_⟩
 obtain⟨xd,xb⟩:=x
 cases i1 with
 | @dk a ks vs ds h hl hs' =>
  simp only[ixK]at ee
  obtain⟨k,hk,ee⟩:=oX ee
  obtain⟨d0,hd,ee⟩:=oY ee
  cases ee
  refine⟨N1,ρ,y.1,y.2,x1.nh,r.mono x1.bn,ey,λv2 H2 N2 x2 i2 _=>?_⟩
  have hv:=uC i2 hk
  subst hv
  rcases se k hl (hs'.mono x2.bn)with ⟨v,d',e1,e2,i3⟩|⟨_,e2⟩
  ·rw[hd]at e2
   cases e2
   exact⟨a,v,rfl,.inl ⟨_,k,.inl (x2.nh _ _ (x2.bn _ _ h)),rfl,e1.symm⟩,(q.into (x1.trans x2)).one x2.nh i3⟩
  ·rw[hd]at e2;cases e2
 | _=>simp[ixK]at ee
@[simp] def inK:D->D->Option (D×Bool)
 | y,.dk ks vs=>(fP y).map λk=>(.bl (bw ks vs k).isSome,false)
 | _,_=>none
@[simp] def Hz:D->D->Option (D×Bool)
 | y,.dk ks vs=>(fP y).map λk=>(.bl (!(bw ks vs k).isSome),false)
 | _,_=>none
end
def bY {κ:Type}[DecidableEq κ] (ks:List κ) (k:κ):List κ:=if k∈ks then ks else ks++[k]
def bZ {κ α:Type}[DecidableEq κ] (ks:List κ) (xs:List α) (k:κ) (x:α):List α:=if k∈ks then List.zipWith (λk' x'=>if k'=k then x else x') ks xs else xs++[x]
theorem xX {κ:Type}[DecidableEq κ] (k:κ):∀ {ks:List κ}{vs:List V},ks.length=vs.length->((ks.zip vs).any λkv=>decide (kv.1=k))=decide (k∈ks)
 | [],_,_=>by simp
 | k'::ks,[],h=>by simp at h
 | k'::ks,v::vs,h=>by
  have ih:=xX k (ks:=ks) (vs:=vs) (by simpa using h)
  rw[List.zip_cons_cons,List.any_cons,ih]
  by_cases e:k'=k
  ·simp[e]
  ·have e':¬k=k':=λz=>e z.symm
   simp[e,e']
theorem xY {κ:Type}[DecidableEq κ] (k:κ) (v:V):∀(ks:List κ) (vs:List V),(ks.zip vs).map (λkv=>if kv.1=k then (kv.1,v)else kv)=ks.zip (List.zipWith (λk' x'=>if k'=k then v else x') ks vs)
 | [],_=>by simp
 | _::_,[]=>by simp
 | k'::ks,w::vs=>by
  rw[List.zip_cons_cons,List.map_cons,xY k v ks vs,List.zipWith_cons_cons,List.zip_cons_cons]
  by_cases e:k'=k
  ·simp[e]
  ·simp[e]
theorem sf {κ:Type}[DecidableEq κ] {ks:List κ}{vs:List V}(hl:ks.length=vs.length) (k:κ) (v:V):dX (ks.zip vs) k v=(bY ks k).zip (bZ ks vs k v):=by
 unfold dX bY bZ
 rw[xX k hl]
 by_cases h:k∈ks
 ·rw[if_pos (decide_eq_true h),if_pos h,if_pos h,xY]
 ·rw[if_neg (by simpa using h),if_neg h,if_neg h,List.zip_append hl]
  rfl
theorem m4 {κ α:Type}[DecidableEq κ] {ks:List κ}{xs:List α}(hl:ks.length=xs.length) (k:κ) (x:α):(bY ks k).length=(bZ ks xs k x).length:=by
 unfold bY bZ
 split<;>simp[hl]
theorem IsL.zipWith {κ:Type}[DecidableEq κ] {K:PySem.W.Frag}{B:Hp}{k:κ}{v:V}{d:D}(i:Is K B v d):∀ {ks:List κ}{vs:List V}{ds:List D},IsL K B vs ds->IsL K B (List.zipWith (λk' x'=>if k'=k then v else x') ks vs) (List.zipWith (λk' x'=>if k'=k then d else x') ks ds)
 | [],_,_,_=>by simpa using IsL.nil
 | _::_,_,_,.nil=>by simpa using IsL.nil
 | k'::ks,_,_,.cons h t=>by
  rw[List.zipWith_cons_cons,List.zipWith_cons_cons]
  refine .cons ?_ (IsL.zipWith i t)
  by_cases e:k'=k
  ·rw[if_pos e,if_pos e];exact i
  ·rw[if_neg e,if_neg e];exact h
theorem IsL.put {κ:Type}[DecidableEq κ] {K:PySem.W.Frag}{B:Hp}{k:κ}{v:V}{d:D}(i:Is K B v d) {ks:List κ}{vs:List V}{ds:List D}(h:IsL K B vs ds):IsL K B (bZ ks vs k v) (bZ ks ds k d):=by
 unfold bZ
 split
 ·exact h.zipWith i
 ·exact h.append (.cons i .nil)
section
variable {K:PySem.W.Frag}{E:Ends}{σ:St}{H:Hp}
def AK (i:Nat):FS:=λρ=>some (.nx (ρ.set i (some (.dt [] [],true))))
theorem StN.newBox {B0 H0 N:Hp}{ρ:Env}(s:StN K B0 H0 N H σ ρ) {p:Addr}{ob:HO}{dd:D}(i:Nat) (hp:H p=none) (hb:∀C,Bx K C ob dd):StN K B0 H0 (upd N p ob) (upd H p ob) (σ.set i (some (.ref p))) (ρ.set i (some (dd,true))):=by
 have x:=Ext.laid (o:=ob) s.ext.nh hp
 have s1:=s.grow x
 have hNp:N p=none:=s.ext.nh.free hp
 have hop:¬own σ ρ p:=λz=>by obtain⟨ws,⟨q,_⟩,_⟩:=s.owned z;rw[hNp]at q;cases q
 have c:aJ (cut N (own σ ρ)) (cut (upd N p ob) (λb=>own σ ρ b∨b=p)):=cV λb u e q=>⟨x.bn _ _ e,λz=>z.elim q λz=>by subst z;rw[hNp]at e;cases e⟩
 refine s1.bindOwn aB (s.ext.hh.free hp) (λj e q z=>hop ⟨j,e,q,z⟩) (λj e _ q=>?_) (λj e _ q=>?_) (hb _)
 ·obtain⟨w,h1,h2⟩:=s.sh j e q;exact⟨w,h1,h2.mono c⟩
 ·obtain⟨a',o',h1,h2,_,h4⟩:=s.ow j e q
  exact⟨a',o',h1,x.bn _ _ h2,h4.mono c⟩
theorem AL {i:Nat}(q:tDS K (AK i) E σ H):zK zY (jy i) E σ H:=by
 obtain⟨B0,H0,ρ,r,⟨N,s⟩,e,p⟩:=q
 cases e
 exact λa ha=>p _ _ ⟨_,s.newBox i ha λ_=>.dt (ks:=[]) (vs:=[]) rfl .nil⟩
def qk (i:Nat) (fk fv:FE):FS:=λρ=>match ρ[i]? with
 | some (some (.dk ks vs,true))=>(fv ρ).bind λv=>(fk ρ).bind λk=>(fP k.1).bind λkk=>if ba v.1=true/\ks.length<sizeLine then some (.nx (ρ.set i (some (.dk (bY ks kk) (bZ ks vs kk v.1),true))))else none
 | _=>none
theorem AM {i:Nat}{fk fv:FE}(q:tDS K (qk i fk fv) E σ H):zW (BA i) (tD K fk) (tD K fv) E σ H:=by
 obtain⟨B0,H0,ρ,r,⟨N,s⟩,e,p⟩:=q
 unfold qk at e
 split at e
 ·rename_i ks ds ei
  obtain⟨v,ev,e⟩:=oX e
  obtain⟨k,ek,e⟩:=oX e
  obtain⟨kk,hk,e⟩:=oX e
  split at e
  ·rename_i hx
   cases e
   refine⟨N,ρ,v.1,v.2,s.ext.nh,s.rep,ev,λv1 H1 N1 x1 i1 _=>?_⟩
   have s1:=s.grow x1
   obtain⟨a,o,h1,h2,h3,h4⟩:=s1.ow i _ ei
   refine⟨.ref a,h1,N1,ρ,k.1,k.2,s1.ext.nh,s1.rep,ek,λv2 H2 N2 x2 i2 _=>?_⟩
   have s2:=s1.grow x2
   have hv:=uC i2 hk
   subst hv
   obtain⟨a',o',k1,k2,k3,k4⟩:=s2.ow i _ ei
   rw[h1]at k1
   cases k1
   cases k4 with
   | @dk ks vs ds hl h5 =>
    refine⟨a,_,rfl,.inl ⟨_,kk,s2.ext.nh _ _ k2,rfl, ?_,rfl⟩, ?_⟩
    ·rw[List.length_zip];omega
    ·rw[sf hl]
     exact p σ _ ⟨_,s2.writeB ei h1 (.dk (m4 hl _ _) (h5.put (s2.flat (i1.mono x2.bn) hx.1)))⟩
  ·cases e
 ·cases e
end
section
variable {X:Cx}{pos:Pos}{e k:Expr}
theorem C7 {i:Nat}{x:Str}{p dp:Pos}(hN:X.N.Nodup) (hi:X.N[i]? = some x:=by rfl) (hx:Loc X.env.scope x:=by first|exact Or.inl rfl|exact Or.inr rfl) (hs:swapsWith (.Dict [] [] dp) (some (.Name x p)) pos.line X.env=pure false:=by rfl)
  (hf:X.fn x=true∨X.env.scope.names.lookup x=some .local:=by first|exact .inl rfl|exact .inr rfl):JS X (.Assign [.Name x p] (.Dict [] [] dp) pos) (AK i):=PS.to (vO hN hi hx zZ hs hf) λ_ _ _ q=>AL q
theorem C8 {i:Nat}{y:Str}{py pt:Pos}{fk fv:FE}(hu:X.A.units+1<cLine) (hv:JE X e fv) (hk:JE X k fk) (hN:X.N[i]? = some y:=by rfl) (hvis:Vis X.env.scope y:=by first|exact Or.inl rfl|exact Or.inr (Or.inl rfl)|exact Or.inr (Or.inr rfl)) (hd:(y == ("__debug__" : Str))=false:=by decide)
  (hcd:(y == ("__classdict__" : Str))=false:=by decide) (hs:swapsWith e (some (.Subscript (.Name y py) k pt)) pos.line X.env=pure false:=by rfl):JS X (.Assign [.Subscript (.Name y py) k pt] e pos) (qk i fk fv) :=
 PS.to (xu hu (mC hN hvis hd hcd) hk hv hs) λ_ _ _ q=>AM q
end
section
variable {prog:Program}{w:World}{A:Around}{E:Value->Shared->Prop}{s:Shared}
abbrev Fe (h:Heap) (z TI TO T0:Addr) (f:Bool):Prop:=h.get? z=some { cls:=.type "zip",dict:=none,data:=.fields #[rawInt T0,.bool f,.bool false,.ref TI,.ref TO],slots:=#[] }
end
def ZSt (k1 k2:Bool) (z TI TO i1 i2 l1 l2 S:Addr) (i:Nat) (h:Heap):Prop :=
 IsPair h TI (.ref i1) (.ref i2)/\KIt k1 h i1 l1 i/\KIt k2 h i2 l2 i/\((IsZip h z TI TO .none/\∃a b,IsPair h TO a b) ∨ ∃T0 f oT oO,Fe h z TI TO T0 f/\h.get? T0=some oT/\T0∉[z,TI,TO,i1,i2]/\T0≠S/\h.get? TO=some oO)
section
variable {prog:Program}{w:World}{A:Around}{E:Value->Shared->Prop}{s:Shared}{k1 k2:Bool}{z TI TO i1 i2 l1 l2 S:Addr}{j:Nat}{xs ys:Array Value}
theorem ZSt.ty {h:Heap}(st:ZSt k1 k2 z TI TO i1 i2 l1 l2 S j h):∃o,h.get? z=some o/\o.cls=.type "zip":=by
 obtain⟨_,_,_,a4⟩:=st
 rcases a4 with ⟨b1,_⟩|⟨T0,f,oT,oO,b1,_⟩
 ·exact⟨_,b1,rfl⟩
 ·exact⟨_,b1,rfl⟩
end
theorem n0 {H:Hp}{a:Addr}{o:HO}(h:H a=none):aJ H (upd H a o):=λb u e=>by rw[a9 (aL e h)];exact e
@[simp] def fLZ (fa fb:FE):FE:=λρ=>(Hu fa fb ρ).map λds=>(.lst ds,true)
end DL
namespace DL
open PySem PySem.Spec PyProof.Rows
theorem sg:typeLookup (.type "list") "keys" = pure none:=by rw[typeLookup_type,builtinLookup_eq_fast];kernel_rfl
theorem zh {prog:Program}{w:World}{A:Around}{E:Value->Shared->Prop}{s:Shared}{a:Addr}{xs:Array Value}{k:Nat}{sl:Array (Option Value)}{Q:Option Value->Shared->Prop}
  (hx:s.heap.get? a=some { cls:=.type "list",dict:=none,data:=.seq xs k,slots:=sl }) (hA:A.handled=none)
  (h:∀h' tk,(∀b o,s.heap.get? b=some o->h'.get? b=some o)->Q none { s with heap:=h',toks:=tk }) :
  wpAny (model prog w) A (getAttr? (.ref a) "keys") Q E s:=by
 obtain⟨hp,g,d,tk,os⟩:=s
 have hT:∀tk',(⟨hp,g,d,tk',os⟩:Shared).TypeIs (.ref a) "list":=λ_=>⟨_,hx,rfl⟩
 have f1:=sub_AttributeError
 have f3:=PySem.F.slot_list_getattribute.lookup
 have f4:=PySem.F.slot_list_getattribute.bind (.ref a)
 have f5:=am_list_getattr_none
 unfold getAttr? getAttrBy? getAttrBy
 repeat (any_goals (first|assumption|exact hT _|((with_reducible show wpAny _ _ (call (Value.builtin "list.__getattribute__") _ _) _ _ _);refine call_meets PySem.F.slot_list_getattribute (hT _) am_entry_list_getattribute (PySem.F.args_list_getattribute_2 _ _) (meets_getattribute_miss_list a xs k sl "keys" _ sg (by decide) (by decide)) ⟨hx,hA,λh' tk' e hx'=>?_⟩)|wp_step))
 obtain⟨t',u',he⟩:=hx'.there
 show wpAny _ _ (getattributeRaised _ _ _ _ _ _ _) _ _ _
 unfold getattributeRaised
 repeat (any_goals (first|assumption|wp_step))
 exact h _ _ hx'.of.keeps
end DL
namespace DL
open PySem PySem.Spec PyProof.Rows L2
def fB:List D->Option (List (Key×D))
 | []=>some []
 | .tup [k,v]::r=>(fP k).bind λkk=>(fB r).map λl=>(kk,v)::l
 | _=>none
def jl (a:List Key×List D) (p:Key×D):List Key×List D:=(bY a.1 p.1,bZ a.1 a.2 p.1 p.2)
def bp (l:List (Key×D)):List Key×List D:=l.foldl jl ([],[])
theorem n6 (l:List (Key×D)) (p:Key×D):bp (l++[p])=jl (bp l) p:=by unfold bp;rw[List.foldl_append];rfl
theorem n8:∀ {ds:List D}{l:List (Key×D)},fB ds=some l->l.length=ds.length
 | [],l,h=>by simp[fB]at h;subst h;rfl
 | d::r,l,h=>by
  unfold fB at h
  split at h
  ·rename_i h0;cases h0
  ·rename_i k v r' h0
   cases h0
   obtain⟨kk,_,h⟩:=oX h
   obtain⟨l',h1,rfl⟩:=oY h
   simp[n8 h1]
  ·cases h
theorem nA:∀ {ds:List D}{l:List (Key×D)}{i:Nat}{d:D},fB ds=some l->ds[i]? = some d->∃k v kk,d=.tup [k,v]/\fP k=some kk/\l[i]? = some (kk,v)
 | [],l,i,d,_,h=>by simp at h
 | d0::r,l,i,d,h,hi=>by
  unfold fB at h
  split at h
  ·rename_i h0;cases h0
  ·rename_i k v r' h0
   cases h0
   obtain⟨kk,h2,h⟩:=oX h
   obtain⟨l',h1,rfl⟩:=oY h
   cases i with
   | zero=>simp at hi;subst hi;exact⟨k,v,kk,rfl,h2,rfl⟩
   | succ i=>simp only[List.getElem?_cons_succ]at hi ⊢;exact nA h1 hi
  ·cases h
theorem AN (l:List (Key×D)):∀a:List Key×List D,a.1.length=a.2.length->(l.foldl jl a).1.length=(l.foldl jl a).2.length/\(l.foldl jl a).1.length<=a.1.length+l.length:=by
 induction l with
 | nil=>intro a h;exact⟨h,Nat.le_refl _⟩
 | cons p l ih =>
  intro a h
  have h1:(jl a p).1.length<=a.1.length+1:=by
   show(bY _ _).length<=_
   unfold bY
   split<;>simp
  have:=ih (jl a p) (m4 h _ _)
  rw[List.foldl_cons,List.length_cons]
  exact⟨this.1,by omega⟩
theorem zi (l:List (Key×D)):(bp l).1.length=(bp l).2.length/\(bp l).1.length<=l.length:=by
 have:=AN l ([],[]) rfl
 exact⟨this.1,Nat.le_trans this.2 (by simp)⟩
theorem ql:entryFor table "dict.update.loop" = some Builtin.«dict.update.loop»:=entryFor_of_tree (by kernel_rfl)
theorem ir:plainId "dict.update.loop" = true:=by decide +kernel
section
variable {X:Cx}{pins:List (Addr×Obj)}{σ:St}{B H0:Hp}{A:Around}{R:Result->Shared->Prop}{it l d:Addr}{us:List V}{ds:List D}{kds:List (Key×D)}
theorem wF (hA:A.handled=none) (nl:l≠it) (nd:d≠it) (hl:SqL X.K B l us) (il:IsL X.K B us ds) (hp:fB ds=some kds)
  (hR:∀Hc N vs s',Inv X pins σ (upd Hc d (.dK ((bp kds).1.zip vs))) s'->Hc d=none->Ext B N H0 Hc->(bp kds).1.length=vs.length->IsL X.K N vs (bp kds).2->R (.ok (.ret .none)) s') :
  ∀(k i:Nat) (tk:Nat) (s:Shared) (Hc N:Hp) (vs:List V),ds.length - i=k->i<=ds.length->Inv X pins σ (upd Hc d (.dK ((bp (kds.take i)).1.zip vs))) s->Hc d=none->Ext B N H0 Hc->k6 X pins (upd Hc d (.dK ((bp (kds.take i)).1.zip vs))) it ->
   s.heap.IsListIter it l i->(bp (kds.take i)).1.length=vs.length->IsL X.K N vs (bp (kds.take i)).2 ->
   codeAny (model X.prog X.w) A (.builtin "dict.update.loop" ⟨[.ref d,.ref it,.int i tk,.none],[]⟩) R s:=by
 have n1:=il.length
 have n2:=n8 hp
 intro k
 induction k with
 | zero =>
  intro i tk s Hc N vs hk hi I hc xt fp st hz hv
  have hin:i=ds.length:=by omega
  have sm:aJ B (upd Hc d (.dK ((bp (kds.take i)).1.zip vs))):=(xt.bn.trans xt.nh).trans (n0 hc)
  obtain⟨its,r1,p1,z1⟩:=I.list (sm.seq hl)
  have e1:=r1.length
  refine codeAny_builtin ql ?_
  rw[Around.under_plainId ir _]
  show wpAny _ A.in1 (pyNext (.ref it)>>=_) _ _ s
  refine wX (wpAny_pyNext_list_end (A:=A.in1) hA st p1.isList (by simp;omega) λh' hk'=>?_)
  show wpAny _ _ (Builtin.Dict.addKeywords d []>>=_) _ _ _
  refine wX (wY (wY ?_))
  have I1:=rO (t':=s.toks) (h':=h') (ch:=[it]) I (λb hb=>by rw[List.mem_singleton.mp hb];exact fp) λb o hb e=>hk' b o (λq=>hb (by simp[q])) e
  rw[hin,←n2,List.take_length]at I1 hz hv
  exact hR Hc N vs _ I1 hc xt hz hv
 | succ k ih =>
  intro i tk s Hc N vs hk hi I hc xt fp st hz hv
  have hlt:i<ds.length:=by omega
  have sm:aJ B (upd Hc d (.dK ((bp (kds.take i)).1.zip vs))):=(xt.bn.trans xt.nh).trans (n0 hc)
  obtain⟨its,r1,p1,z1⟩:=I.list (sm.seq hl)
  obtain⟨kd,vd,kk,ed,ek,el⟩:=nA hp (List.getElem?_eq_getElem hlt)
  obtain⟨x,hx,ix⟩:=il.get (List.getElem?_eq_getElem hlt)
  rw[ed]at ix
  cases ix with
  | @tup T xs _ hT hxs =>
   cases hxs with
   | cons ik r =>
    cases r with
    | cons iv r =>
     cases r
     rename_i xk xv
     have exk:=uC ik ek
     subst exk
     obtain⟨u,hu,ru⟩:=r1.get hx
     cases (show u=Value.ref T from ru)
     refine codeAny_builtin ql ?_
     rw[Around.under_plainId ir _]
     show wpAny _ A.in1 (pyNext (.ref it)>>=_) _ _ s
     refine wX (wpAny_pyNext_list_item (A:=A.in1) st p1.isList (x:=.ref T) (by simpa using hu) λh' st' hs=>?_)
     have I1:=rO (t':=s.toks) (h':=h') (ch:=[it]) I (λb hb=>by rw[List.mem_singleton.mp hb];exact fp) λb o hb e=>hs.extBut b o (λq=>hb (by simp[q])) e
     obtain⟨ps,r2,p2,z2⟩:=I1.tuple (aV sm hT)
     obtain⟨uk,uv,rfl,rk,rv⟩:=r2.two
     have hpr:Shared.TypeIs { s with heap:=h' } (.ref T) "tuple":=by obtain⟨o,e,c,_⟩:=p2;exact⟨o,e,c⟩
     dsimp only
     refine wX (wpAny_holding (wX (wpAny_tryCatch ?_)))
     unfold Builtin.Dict.pairItems
     refine wX (wpAny_typeOf hpr ?_)
     obtain⟨oT,eT,cT,nT,dT⟩:=p2
     rw[if_pos (by decide)]
     refine wX (wpAny_seqItems eT dT (wY ?_))
     show wpAny _ _ (holding [uk,uv] (dictSet d uk uv)) _ _ _
     obtain⟨zz,hsm,vs0,rel,dd⟩:=zV I1.hok (a:=d) aB
     have hz0:vs0.length<=sizeLine:=by rw[←rel.length];exact zz
     have nk:((bp (kds.take i)).1.zip vs).length<sizeLine:=by
      have a1:=(zi (kds.take i)).2
      have a2:=z1
      rw[List.length_take]at a1
      rw[List.length_zip]
      omega
     refine wpAny_holding (wpAny_dictSet_pairs (hsz:=hz0) (pG rk) dd λh2 dd2 hs2=>?_)
     have hl2:(dX ((bp (kds.take i)).1.zip vs) kk xv).length<=sizeLine:=by have:=eZ ((bp (kds.take i)).1.zip vs) kk xv;omega
     have he2:∃q,h2.get? d=some q:=let ⟨q,_,_,hq,_⟩:=dd2;⟨q,hq⟩
     have I2:=ms (t':=s.toks+1) I1 (a:=d) (ob:=.dK (dX ((bp (kds.take i)).1.zip vs) kk xv)) (by rw[aB];exact True.intro) hs2 he2 (vZ hl2 hsm (rel.put kk rv) dd2)
     rw[B7,sf hz]at I2
     have et:kds.take (i+1)=kds.take i++[(kk,vd)]:=by rw[List.take_add_one,el];rfl
     have ed1:(bp (kds.take (i+1))).1=bY (bp (kds.take i)).1 kk:=by rw[et,n6];rfl
     have ed2:(bp (kds.take (i+1))).2=bZ (bp (kds.take i)).1 (bp (kds.take i)).2 kk vd:=by rw[et,n6];rfl
     refine wY ⟨plainId_quiet ir _, ?_⟩
     refine ih (i+1) 0 _ Hc N (bZ (bp (kds.take i)).1 vs kk xv) (by omega) hlt (by rw[ed1];exact I2) hc xt ?_ ?_ ?_ ?_
     ·obtain⟨f0,f1⟩:=fp
      refine⟨?_,f1⟩
      rw[a9 nd.symm]at f0 ⊢
      exact f0
     ·exact st'.at λo e=>(hs2.2 it nd.symm).trans e
     ·rw[ed1];exact m4 hz _ _
     ·rw[ed2]
      exact hv.put (iv.mono xt.bn)
end
@[simp] def gl:List D->Option (D×Bool)
 | [.lst ds]=>(fB ds).map λkds=>(.dk (bp kds).1 (bp kds).2,false)
 | _=>none
theorem Ff:bootBuiltins "dict" = some (.type "dict"):=by decide +kernel
section
variable {X:Cx}
theorem Fg (hcal:X.calm=true):cf X (.type "dict") (rDA X.K gl):=by
 intro pins s σ H xs us Q I r h
 obtain⟨B,dds,d0,bb,sB,i0,ee,q⟩:=h
 cases i0 with
 | nil=>simp[gl]at ee
 | cons i1 i2 =>
  cases i2 with
  | cons _ _=>cases i1<;>simp[gl]at ee
  | nil =>
   cases i1<;>try (simp[gl]at ee;done)
   rename_i l ws ds hl il
   simp only[gl]at ee
   obtain⟨kds,hp,ee⟩:=oY ee
   cases ee
   obtain⟨u,rfl,rx⟩:=jz r
   cases rx
   have hA:X.A.handled=none:=I.ok.hd hcal
   refine callType_codes (Q₁:=λobj s₁=>obj=.ref s.heap.objs.size/\s₁={ s with heap:=s.heap.push { cls:=.type "dict",data:=.dict #[] } }) PySem.F.kt_called_dict (PySem.F.kt_typeCall_dict_1 _) PySem.F.entry_dict_init (kt_code_dict_new _ ⟨rfl,rfl⟩) ?_
   rintro obj s₁ ⟨rfl,rfl⟩
   have I1:Inv X pins σ (upd H s.heap.objs.size (.dK [])) { s with heap:=s.heap.push { cls:=.type "dict",data:=.dict #[] } }:=I.laid (t':=s.toks) (λb o e=>Heap.get?_push_of_some _ e) (Nat.le_refl _) (t7 s.heap I.big)
   have hc0:H s.heap.objs.size=none:=I.fresh
   have hT:Shared.TypeIs { s with heap:=s.heap.push { cls:=.type "dict",data:=.dict #[] } } (.ref s.heap.objs.size) "dict":=⟨_,Heap.get?_push_size _ rfl,rfl⟩
   refine⟨hT,PySem.F.args_dict_init_2 _ _, ?_⟩
   unfold Builtin.«dict.__init__»
   refine wX ?_
   unfold Builtin.Dict.selfAndRest
   refine wX (wpAny_notOrdered_dict hT ?_)
   show wpAny _ _ (pure (s.heap.objs.size,[Value.ref l])) _ _ _
   refine wY ?_
   show wpAny _ _ (Builtin.Dict.updateFrom "dict.__init__" s.heap.objs.size (.ref l) [] .none) _ _ _
   unfold Builtin.Dict.updateFrom
   have sm:aJ B (upd H s.heap.objs.size (.dK [])):=sB.trans (n0 hc0)
   obtain⟨its,r1,p1,z1⟩:=I1.list (sm.seq hl)
   have pl:=p1.isList
   obtain⟨ol,nl,eol,cl,ddl,dl⟩:=p1
   have hTl:Shared.TypeIs { s with heap:=s.heap.push { cls:=.type "dict",data:=.dict #[] } } (.ref l) "list":=⟨ol,eol,cl⟩
   refine wX (wpAny_typeOf hTl ?_)
   rw[if_pos (by decide)]
   obtain⟨oc,od,oo,os⟩:=ol
   simp only at cl ddl dl
   subst cl ddl dl
   refine wX (zh eol (by exact hA) λh' tk hk=>?_)
   dsimp only[Option.isNone_none]
   rw[if_pos rfl]
   have I2:Inv X pins σ (upd H s.heap.objs.size (.dK [])) { s with heap:=h',toks:=tk }:=I1.kept (t':=tk) hk
   refine wX (wpAny_rule ?_)
   refine wX (wpAny_pyIter_list (items:=its.toArray) ⟨_,hk _ _ eol,rfl,nl,rfl⟩ ?_)
   have I3:Inv X pins σ (upd H s.heap.objs.size (.dK [])) { s with heap:=h'.push { cls:=.type "list_iterator",data:=.fields #[.ref l,.int 0 0] },toks:=tk }:=I2.kept (t':=tk) λb o e=>Heap.get?_push_of_some _ e
   have ld:s.heap.objs.size<h'.objs.size:=Heap.lt_size (hk _ _ (Heap.get?_push_size _ rfl))
   have ll:l<h'.objs.size:=Heap.lt_size (hk _ _ eol)
   refine wY ⟨plainId_quiet ir _,wF (A:=X.A.in1) (B:=B) (H0:=H) (l:=l) (d:=s.heap.objs.size) (it:=h'.objs.size) hA (Nat.ne_of_lt ll) (Nat.ne_of_lt ld) hl il hp (λHc N vs s' I' hc' xt hz hv=>?_) _ 0 0 _ H B [] rfl (Nat.zero_le _) I3 hc0 (Ext.refl sB) (I2.fpOk (Nat.le_refl _) (I2.hok.fresh (Nat.le_refl _))) ⟨_,Heap.get?_push_size _ rfl,rfl,rfl⟩ rfl .nil⟩
   refine⟨rfl,.ref s.heap.objs.size,_,I',rfl, ?_⟩
   have x3:=xt.trans (Ext.laid (o:=.dK ((bp kds).1.zip vs)) xt.nh hc')
   exact q _ _ _ x3 (.dk aB hz (hv.mono (Ext.laid (o:=.dK ((bp kds).1.zip vs)) xt.nh hc').bn)) (by simp)
end
@[simp] def HM:FE:=λ_=>none
@[simp] def HN:FA:=λ_=>none
theorem hu1 {n:Nat}(h:n+40<cLine):n+1<cLine:=by omega
@[simp] def HA:D->D->Option (D×Bool)
 | .lst ds,.int k=>if 0<=k/\ds.length*k.toNat<=1000/\k<=1000 then some (.lst (List.replicate k.toNat ds).flatten,true)else none
 | _,_=>none
@[simp] def Id (fa fb:FE):FE:=λρ=>(fa ρ).bind λx=>if x.2=true then (fb ρ).bind λy=>HA x.1 y.1 else none
def fj:List D->Option (List Key)
 | []=>some []
 | d::ds=>(fP d).bind λk=>(fj ds).map (k :: ·)
theorem wG {K:PySem.W.Frag}{B:Hp}:∀ {vs:List V}{ds:List D}{ks:List Key},IsL K B vs ds->fj ds=some ks->vs=ks.map kV
 | _,_,ks,.nil,e=>by simp[fj]at e;subst e;rfl
 | _,_,ks,.cons i is,e=>by
  simp only[fj]at e
  obtain⟨k,h1,e⟩:=oX e
  obtain⟨r,h2,rfl⟩:=oY e
  rw[uC i h1,wG is h2]
  rfl
@[simp] def AO (fo:FE) (fa:FA):FE:=λρ=>(fo ρ).bind λx=>(fa ρ).bind λds=>match x.1 with
 | .dt kss vs=>if ds.length<=sizeLine then (fj ds).map λk=>((bw kss vs k).getD .non,false)else none
 | _=>none
section
variable {X:Cx}{o:Expr}{es:List Expr}{pos:Pos}
theorem AQ {apos cpos tpos:Pos}{x1:Nat}{fo:FE}{fa:FA}(hu:X.A.units+1<cLine) (ho:JE X o fo) (ha:JA X es fa) (m:M1 X o "get" apos (.Tuple es x1 tpos) cpos):JE X (.Call (.Attribute o "get" apos) [.Tuple es x1 tpos] [] cpos) (AO fo fa):=by
 refine PE.to (t8 hu ho (vT ha) m) λσ H Q q=>?_
 obtain⟨B,ρ,d,bb,sB,r,ee,q⟩:=q
 obtain⟨x,ex,ee⟩:=oX ee
 obtain⟨ds,ey,ee⟩:=oX ee
 refine⟨B,ρ,x.1,x.2,sB,r,ex,λv H1 N1 x1 i1 ff=>?_⟩
 obtain⟨xd,xb⟩:=x
 cases i1 with
 | @dt a ks vs dvs h hl hs =>
  simp only at ee
  split at ee
  ·rename_i hz
   obtain⟨k,hk,ee⟩:=oY ee
   cases ee
   refine⟨a,rfl,.inr ⟨_,.inl (x1.nh _ _ h)⟩,N1,ρ,ds,x1.nh,r.mono x1.bn,ey,λus H2 N2 x2 i2=>?_⟩
   have hv:=wG i2 hk
   have hul:us.length<=sizeLine:=by rw[i2.length];exact hz
   refine⟨hul,λp hp=>?_⟩
   have x3:=Ext.laid (o:=.tup us) x2.nh hp
   have ha2:N2 a=some (.dT (ks.zip vs)):=x2.bn _ _ h
   refine⟨gD (ks.zip vs) k,.inr ⟨_,k,p,.inl (x3.nh _ _ (x3.bn _ _ ha2)),rfl,by rw[aB,hv],rfl⟩, ?_⟩
   have hs2:=(hs.mono x2.bn).mono x3.bn
   rcases se k hl hs2 with ⟨v,d',e1,e2,i3⟩|⟨e1,e2⟩
   ·rw[e1]
    rw[e2]at q
    exact(q.into ((x1.trans x2).trans x3)).one x3.nh i3
   ·rw[e1]
    rw[e2]at q
    exact(q.into ((x1.trans x2).trans x3)).one x3.nh .non
  ·cases ee
 | _=>simp at ee
end
section
variable {K:PySem.W.Frag}{E:Ends}{σ:St}{H:Hp}
def qm (i:Nat) (fk:FA) (fv:FE):FS:=λρ=>match ρ[i]? with
 | some (some (.dt ks vs,true))=>(fv ρ).bind λv=>(fk ρ).bind λkd=>(fj kd).bind λkk=>if ba v.1=true/\ks.length<sizeLine/\kd.length<=sizeLine then some (.nx (ρ.set i (some (.dt (bY ks kk) (bZ ks vs kk v.1),true))))else none
 | _=>none
theorem AR {i:Nat}{fk:FA}{fv:FE}(q:tDS K (qm i fk fv) E σ H):zW (BA i) (Ge (tDA K fk)) (tD K fv) E σ H:=by
 obtain⟨B0,H0,ρ,r,⟨N,s⟩,e,p⟩:=q
 unfold qm at e
 split at e
 ·rename_i ks ds ei
  obtain⟨v,ev,e⟩:=oX e
  obtain⟨kd,ek,e⟩:=oX e
  obtain⟨kk,hk,e⟩:=oX e
  split at e
  ·rename_i hx
   cases e
   refine⟨N,ρ,v.1,v.2,s.ext.nh,s.rep,ev,λv1 H1 N1 x1 i1 _=>?_⟩
   have s1:=s.grow x1
   obtain⟨a,o,h1,h2,h3,h4⟩:=s1.ow i _ ei
   refine⟨.ref a,h1,N1,ρ,kd,s1.ext.nh,s1.rep,ek,λus H2 N2 x2 i2=>?_⟩
   have s2:=s1.grow x2
   have hv:=wG i2 hk
   refine⟨by rw[i2.length];exact hx.2.2,λpp hp=>?_⟩
   have x3:=Ext.laid (o:=.tup us) s2.ext.nh hp
   have s3:=s2.grow x3
   obtain⟨a',o',k1,k2,k3,k4⟩:=s3.ow i _ ei
   rw[h1]at k1
   cases k1
   cases k4 with
   | @dt ks vs ds hl h5 =>
    refine⟨a,_,rfl,.inr ⟨_,kk,pp,s3.ext.nh _ _ k2,rfl,by rw[aB,hv], ?_,rfl⟩, ?_⟩
    ·rw[List.length_zip];omega
    ·rw[sf hl]
     exact p σ _ ⟨_,s3.writeB ei h1 (.dt (m4 hl _ _) (h5.put (s3.flat ((i1.mono x2.bn).mono x3.bn) hx.1)))⟩
  ·cases e
 ·cases e
end
section
variable {X:Cx}{pos:Pos}{e:Expr}{es:List Expr}
theorem C9 {i:Nat}{y:Str}{py pt tpos:Pos}{x1:Nat}{fk:FA}{fv:FE}(hu:X.A.units+1<cLine) (hv:JE X e fv) (hk:JA X es fk) (hN:X.N[i]? = some y:=by rfl) (hvis:Vis X.env.scope y:=by first|exact Or.inl rfl|exact Or.inr (Or.inl rfl)|exact Or.inr (Or.inr rfl)) (hd:(y == ("__debug__" : Str))=false:=by decide)
  (hcd:(y == ("__classdict__" : Str))=false:=by decide) (hs:swapsWith e (some (.Subscript (.Name y py) (.Tuple es x1 tpos) pt)) pos.line X.env=pure false:=by rfl):JS X (.Assign [.Subscript (.Name y py) (.Tuple es x1 tpos) pt] e pos) (qm i fk fv) :=
 PS.to (xu hu (mC hN hvis hd hcd) (vT hk) hv hs) λ_ _ _ q=>AR q
end
end DL
namespace L2
open PySem PySem.Spec PyProof.Rows
def CA (lo c:Int) (n:Nat):It:=⟨λi _=>i<n,λi H x H'=>H'=H/\x=.int (lo+i*c),λi _=>n<=i⟩
theorem uF {P:Program}{w:World}{K:PySem.W.Frag}{tg:Expr}(it:Addr) (lo c:Int) (n:Nat):Turn P w K tg (CA lo c n) [it] it (λi h=>IsRangeIter h it (lo+(i:Nat)*c) ((n:Int) - (i:Nat)) c) where
 mem:=by simp
 obj:=λi h st b hb=>by
  have e:b=it:=by simpa using hb
  subst e
  exact⟨_,st,λv z=>by
   have z':Data.fields _=Data.cell v:=z
   cases z'⟩
 keep:=λi h h' st k=>k it (by simp) _ st
 item:=by
  intro X hP hw hK hc i pins s σ H E I hf st hg
  subst hP hw hK
  obtain⟨f0,f1,f2,f3,f4,f5⟩:=hf it (by simp)
  have W:=Walks.range (prog:=X.prog) (w:=X.w) (I.ok.hd hc) it lo c n
  refine W.item i s _ _ hg st λv h' tk hv st' kk=>?_
  obtain⟨t,rfl⟩:=hv
  have I1:Inv X pins σ H { s with heap:=h',toks:=tk }:=I.turned (λb o hb e=>kk b o (by simpa using hb) e) f0 f1 f3 f4 f5
  exact⟨_,rfl,p8 (s:={ s with heap:=h',toks:=tk }) (n:="range_iterator") st' rfl rfl (by decide) ⟨.int (lo+i*c),H,I1,⟨t,rfl⟩,⟨rfl,rfl⟩,st',λb hb=>(hf b hb).1⟩⟩
 done:=by
  intro X hP hw hK hc i pins s σ H E I hf st hg
  subst hP hw hK
  obtain⟨f0,f1,f2,f3,f4,f5⟩:=hf it (by simp)
  exact wpAny_pyNext_range_end (I.ok.hd hc) st (by have:n<=i:=hg;omega) λh' eb=>⟨rfl,I.turned (t':=s.toks) (λb o hb e=>eb b o hb e) f0 f1 f3 f4 f5⟩
 self:=λ_ _ _ _ _ st h=>wpAny_pyIter_rangeiter st h
section
variable {X:Cx}{tg:Expr}
theorem uG {a b c:Int}(ha : -1000<=a/\a<=1000/\-1000<=b/\b<=1000) (hc:c=1∨c=2∨c=3):Builtin.Range.small a b c=true/\0<=Builtin.Range.rangeSize a b c:=by
 unfold Builtin.Range.small Builtin.Range.rangeSize Builtin.Range.rangeFitsLong
 rcases hc with rfl|rfl|rfl
 all_goals
  simp only[Bool.and_eq_true,Bool.or_eq_true,decide_eq_true_eq,beq_iff_eq,show(1:Int) > 0 by decide,show(2:Int) > 0 by decide,show(3:Int) > 0 by decide,if_true]
  split<;>omega
theorem zj {pins:List (Addr×Obj)}{σ:St}{H:Hp}{s:Shared}{R:It->Hp->Prop}{E:Value->Shared->Prop}{lo hi c:Int}{t u v:Tok}{tk:Nat}(I:Inv X pins σ H s) (h1 : -1000<=lo/\lo<=1000/\-1000<=hi/\hi<=1000) (h2:c=1∨c=2∨c=3)
  (q:R (CA lo c (Builtin.Range.rangeSize lo hi c).toNat) H):wpAny (model X.prog X.w) X.A (pyIter (.ref s.heap.objs.size)) (PIE X pins σ tg R) E { s with heap:=s.heap.push { cls:=.type "range",data:=.fields #[.int lo t,.int hi u,.int c v] },toks:=tk }:=by
 obtain⟨hs,hz⟩:=uG h1 h2
 refine wpAny_pyIter_range (IsRange.new ..) hs ?_
 have I1:Inv X pins σ H { s with heap:=s.heap.push { cls:=.type "range",data:=.fields #[.int lo t,.int hi u,.int c v] },toks:=tk }:=I.kept λb o e=>Heap.get?_push_of_some _ e
 refine⟨(s.heap.push { cls:=.type "range",data:=.fields #[.int lo t,.int hi u,.int c v] }).objs.size,[(s.heap.push { cls:=.type "range",data:=.fields #[.int lo t,.int hi u,.int c v] }).objs.size],_,_,H,rfl,
  I1.kept (t':=tk) λb o e=>Heap.get?_push_of_some _ e,uF _ lo c (Builtin.Range.rangeSize lo hi c).toNat, ?_,λb hb=>?_,q⟩
 ·have e1:lo+((0:Nat):Int)*c=lo:=by simp
  have e2:(((Builtin.Range.rangeSize lo hi c).toNat:Nat):Int) - ((0:Nat):Int)=Builtin.Range.rangeSize lo hi c:=by omega
  show IsRangeIter _ _ (lo+((0:Nat):Int)*c) ((((Builtin.Range.rangeSize lo hi c).toNat:Nat):Int) - ((0:Nat):Int)) c
  rw[e1,e2]
  exact Heap.get?_push_size _ rfl
 ·have e:b=(s.heap.push { cls:=.type "range",data:=.fields #[.int lo t,.int hi u,.int c v] }).objs.size:=by simpa using hb
  subst e
  exact I1.fpOk (Nat.le_refl _) (I1.hok.fresh (Nat.le_refl _))
def GK (ta:TA):TI:=λσ H R=>ta σ H λvs H1=>∃i j c:Int,vs=[.int i,.int j,.int c]/\((-1000<=i/\i<=1000/\-1000<=j/\j<=1000)/\(c=1∨c=2∨c=3))/\R (CA i c (Builtin.Range.rangeSize i j c).toNat) H1
theorem zk {a b c:Expr}{ta:TA}{p pos:Pos}(hg:Gl X "range") (hm:X.mg "range" = none) (ha:PA X [a,b,c] ta) (hs:starEach [a,b,c] X.env=(false,eval a X.env)::starEach [b,c] X.env) (hs1:starEach [b,c] X.env=[(false,eval b X.env),(false,eval c X.env)]) :
  PI X tg (.Call (.Name "range" p) [a,b,c] [] pos) (GK ta):=by
 intro pins s σ H R I h
 refine Call_ (iT I hg hm boot_range (PyProof.Rows.callWith_type1 (thn (ha pos pins s σ H _ I h) λus s1 ⟨vs,H1,I1,r1,q1⟩=>?_) hs (by rw[hs1];rfl)))
 obtain⟨i,j,c,e,⟨q1,q2⟩,q⟩:=q1
 subst e
 cases r1 with
 | cons r rr =>
  cases rr with
  | cons r' rr =>
   cases rr with
   | cons r'' rr =>
    cases rr
    obtain⟨t,rfl⟩:=r
    obtain⟨t',rfl⟩:=r'
    obtain⟨t'',rfl⟩:=r''
    exact call_range_3 (by omega) (zj I1 q1 q2 q) (Or.inl (PyProof.noPylong_small (by omega)))
end
end L2
namespace DL
open PySem PySem.Spec PySem.W PyProof.Rows L2
section
variable {X:Cx}{a b c:Expr}{p pos:Pos}
def jm (lo c:Int) (n:Nat):List D:=(List.range n).map λ(k:Nat)=>.int (lo+(k:Int)*c)
theorem zl {K:PySem.W.Frag}{B:Hp}(lo c:Int) (n:Nat):pi K (CA lo c n) B (jm lo c n):=by
 intro i H s
 unfold jm
 refine⟨λd ed=>?_,λhl=>by rw[List.length_map,List.length_range]at hl;exact hl⟩
 rw[List.getElem?_map]at ed
 obtain⟨k,ek,ed⟩:=oY ed
 have hk:=List.getElem?_eq_some_iff.mp ek
 obtain⟨hlt,hk⟩:=hk
 rw[List.length_range]at hlt
 rw[List.getElem_range]at hk
 subst hk
 subst ed
 refine⟨hlt,λx H' hy=>?_⟩
 obtain⟨rfl,rfl⟩:=hy
 exact⟨B,.refl s,.int _⟩
@[simp] def m7 (f g h:FE):FA:=λρ=>(f ρ).bind λx=>(g ρ).bind λy=>(h ρ).bind λz=>match x.1,y.1,z.1 with
 | .int i,.int j,.int c=>if(-1000<=i/\i<=1000/\-1000<=j/\j<=1000)/\(c=1∨c=2∨c=3)then some (jm i c (Builtin.Range.rangeSize i j c).toNat)else none
 | _,_,_=>none
theorem zm {tg:Expr}{f g h:FE}(hm:X.mg "range" = none) (ja:JE X a f) (jb:JE X b g) (jc:JE X c h) (hg:Gl X "range":=by rfl) (hs:starEach [a,b,c] X.env=(false,eval a X.env)::starEach [b,c] X.env:=by rfl) (hs1:starEach [b,c] X.env=[(false,eval b X.env),(false,eval c X.env)]:=by rfl) (hs2:starEach [c] X.env=[(false,eval c X.env)]:=by rfl):PI X tg (.Call (.Name "range" p) [a,b,c] [] pos) (tDR X.K (m7 f g h)):=by
 refine PI.to (zk hg hm (ac ja (ac jb (ac jc ah hs2) (by rw[hs1,hs2])) hs) hs hs1) λσ H R q=>?_
 obtain⟨B,ρ,ds,sB,r,e',q⟩:=q
 obtain⟨⟨x,xb⟩,ex,e'⟩:=oX e'
 obtain⟨⟨y,yb⟩,ey,e'⟩:=oX e'
 obtain⟨⟨z,zb⟩,ez,e'⟩:=oX e'
 match x,y,z,ex,ey,ez,e' with
 | .int i,.int j,.int k,ex,ey,ez,e' =>
  dsimp only at e'
  split at e'
  ·rename_i hj
   cases e'
   refine⟨B,ρ,[.int i,.int j,.int k],sB,r,by simp[ae,ak,ex,ey,ez],λvs H1 N1 x1 i1=>?_⟩
   cases i1 with
   | cons i1 i2 =>
    cases i1
    cases i2 with
    | cons i2 i3 =>
     cases i2
     cases i3 with
     | cons i3 i4 =>
      cases i3;cases i4
      exact⟨i,j,k,rfl,hj,q _ H1 N1 x1 λ_=>zl i k _⟩
  ·cases e'
end
def gN:List (Str×FE)->Env->Option (List Str)
 | [],_=>some []
 | q::r,ρ=>(q.2 ρ).bind λx=>match x.1 with
  | .str z=>(gN r ρ).map (z :: ·)
  | _=>none
def uH (i:Nat) (prs:List (Str×FE)):FS:=λρ=>(gN prs ρ).bind λzs=>if(prs.map (·.1)).Nodup/\prs.length<=15 then some (.nx (ρ.set i (some (.dk (prs.map λq=>.inr q.1) (zs.map .str),true))))else none
theorem qo:∀ {prs:List (Str×FE)}{ρ:Env}{zs:List Str},gN prs ρ=some zs->zs.length=prs.length
 | [],_,_,h=>by cases h;rfl
 | q::r,ρ,zs,h=>by
  unfold gN at h
  obtain⟨x,_,h⟩:=oX h
  split at h
  ·obtain⟨zs',h1,rfl⟩:=oY h
   rw[List.length_cons,List.length_cons,qo h1]
  ·cases h
section
variable {K:PySem.W.Frag}{E:Ends}{σ:St}{ρ:Env}
theorem qp {N:Hp}(rep:RepE K N σ ρ):∀(prs:List (Str×FE)) (zs:List Str) (H:Hp) (Q:List (V×V)->Hp->Prop),gN prs ρ=some zs->aJ N H->(∀H2,aJ H H2->Q (List.zipWith (λq z=>(V.str q.1,V.str z)) prs zs) H2)->ro (prs.map λq=>(tD K (fC (.str q.1)),tD K q.2)) σ H Q
 | [],zs,H,Q,e,sN,h=>by cases e;exact h H (.refl _)
 | q::r,zs,H,Q,e,sN,h=>by
  unfold gN at e
  obtain⟨⟨x,xb⟩,ex,e⟩:=oX e
  split at e
  ·rename_i z hz
   obtain⟨zs',e1,rfl⟩:=oY e
   have hz:x=.str z:=hz
   subst hz
   refine⟨N,ρ,.str q.1,false,sN,rep,rfl,λv H1 N1 x1 i1 _=>?_⟩
   cases i1
   refine⟨N,ρ,.str z,xb,sN.trans x1.hh,rep,ex,λv H2 N2 x2 i2 _=>?_⟩
   cases i2
   exact qp rep r zs' H2 _ e1 (sN.trans (x1.hh.trans x2.hh)) λH3 s3=>h H3 (x1.hh.trans (x2.hh.trans s3))
  ·cases e
theorem StN.newBox' {B0 H0 N H H2:Hp}(s:StN K B0 H0 N H σ ρ) {p:Addr}{ob:HO}{dd:D}(i:Nat) (hp:H p=none) (h2:∀a o,a≠p->H a=some o->H2 a=some o) (hb:∀C,Bx K C ob dd):StN K B0 H0 (upd N p ob) (upd H2 p ob) (σ.set i (some (.ref p))) (ρ.set i (some (dd,true))):=by
 have hNp:N p=none:=s.ext.nh.free hp
 have x:Ext N (upd N p ob) H (upd H2 p ob):=by
  refine⟨λa u e=>?_,λa u e=>?_,λa u e=>?_,λa u e=>?_⟩
  ·have z:a≠p:=λq=>by subst q;rw[hp]at e;cases e
   rw[a9 z];exact h2 a u z e
  ·rw[a9 (λq=>by subst q;rw[hNp]at e;cases e)];exact e
  ·by_cases q:a=p
   ·subst q;rw[aB]at e ⊢;exact e
   ·rw[a9 q]at e ⊢;exact h2 a u q (s.ext.nh a u e)
  ·by_cases q:a=p
   ·subst q;exact .inr hp
   ·rw[a9 q]at e;exact .inl e
 have s1:=s.grow x
 have hop:¬own σ ρ p:=λz=>by obtain⟨ws,⟨q,_⟩,_⟩:=s.owned z;rw[hNp]at q;cases q
 have c:aJ (cut N (own σ ρ)) (cut (upd N p ob) (λb=>own σ ρ b∨b=p)):=cV λb u e q=>⟨x.bn _ _ e,λz=>z.elim q λz=>by subst z;rw[hNp]at e;cases e⟩
 refine s1.bindOwn aB (s.ext.hh.free hp) (λj e q z=>hop ⟨j,e,q,z⟩) (λj e _ q=>?_) (λj e _ q=>?_) (hb _)
 ·obtain⟨w,h1,h2⟩:=s.sh j e q;exact⟨w,h1,h2.mono c⟩
 ·obtain⟨a',o',h1,h2,_,h4⟩:=s.ow j e q
  exact⟨a',o',h1,x.bn _ _ h2,h4.mono c⟩
theorem tw {k:Key}{v:V}:∀ {kvs:List (Key×V)},k∉kvs.map (·.1)->dX kvs k v=kvs++[(k,v)]:=by
 intro kvs h
 unfold dX
 rw[if_neg]
 intro z
 obtain⟨x,hx,e⟩:=List.any_eq_true.mp z
 exact h (List.mem_map.mpr ⟨x,hx,of_decide_eq_true e⟩)
theorem nB:∀(more kvs:List (Key×V)),((kvs++more).map (·.1)).Nodup->iV kvs more=kvs++more
 | [],kvs,_=>by rw[List.append_nil];rfl
 | p::r,kvs,h=>by
  show iV (dX kvs p.1 p.2) r=_
  have hn:p.1∉kvs.map (·.1):=by
   rw[List.map_append,List.nodup_append]at h
   exact λz=>h.2.2 _ z _ mX rfl
  rw[tw hn,nB r (kvs++[(p.1,p.2)]) (by rw[List.append_assoc];exact h),List.append_assoc]
  rfl
theorem uI:∀(prs:List (Str×FE)) (zs:List Str),List.zipWith (λ(q:Str×FE) z=>((Sum.inr q.1:Key),V.str z)) prs zs=(prs.map λq=>(Sum.inr q.1:Key)).zip (zs.map V.str)
 | [],_=>rfl
 | _::_,[]=>rfl
 | q::r,z::zs=>by rw[List.zipWith_cons_cons,uI r zs];rfl
theorem uJ (C:Hp):∀zs:List Str,IsL K C (zs.map V.str) (zs.map D.str)
 | []=>.nil
 | z::zs=>.cons (.str z) (uJ C zs)
theorem AS {H:Hp}{i:Nat}{prs:List (Str×FE)}(q:tDS K (uH i prs) E σ H):zK (D0 (prs.map λq=>(tD K (fC (.str q.1)),tD K q.2))) (jy i) E σ H:=by
 obtain⟨B0,H0,ρ,r,⟨N,s⟩,e,p⟩:=q
 obtain⟨zs,ez,e⟩:=oX e
 split at e
 ·rename_i hc
  cases e
  intro a ha
  have sN:aJ N (upd H a (.dK [])):=λb o eb=>by
   have eb:=s.ext.nh b o eb
   rw[a9 (λq=>by subst q;rw[ha]at eb;cases eb)];exact eb
  refine qp s.rep prs zs _ _ ez sN λH2 s2=>⟨s2 _ _ aB,List.zipWith (λq z=>(Sum.inr q.1,V.str z)) prs zs, ?_, ?_, ?_⟩
  ·rw[List.map_zipWith];rfl
  ·rw[List.length_zipWith];omega
  ·have hl:=qo ez
   have e1:=uI prs zs
   have e2:((prs.map λq=>(Sum.inr q.1:Key)).zip (zs.map V.str)).map (·.1)=prs.map λq=>(Sum.inr q.1:Key):=by
    rw[List.map_fst_zip];rw[List.length_map,List.length_map];omega
   have hn:(prs.map λq=>(Sum.inr q.1:Key)).Nodup:=List.pairwise_map.mpr ((List.pairwise_map.mp hc.1).imp λh z=>h (Sum.inr.inj z))
   rw[e1,nB _ [] (by rw[List.nil_append,e2];exact hn),List.nil_append]
   refine p _ _ ⟨_,s.newBox' i ha (λb o nb eb=>s2 b o (by rw[a9 nb];exact eb)) λC=>.dk (by rw[List.length_map,List.length_map];omega) (uJ C zs)⟩
 ·cases e
end
section
variable {X:Cx}{pos:Pos}
def JPs (X:Cx) (pos:Pos) (keys:List (Option Expr)) (values:List Expr) (prs:List (Str×FE)):Prop:=PPs X pos keys values (prs.map λq=>(tD X.K (fC (.str q.1)),tD X.K q.2))
theorem CB:JPs X pos [] [] []:=BX
theorem nD {z:Str}{j:Nat}{cp:Pos}{v:Expr}{ks:List (Option Expr)}{vs:List Expr}{f:FE}{prs:List (Str×FE)}(hk:JE X (.Constant (.str z) j cp) (fC (.str z))) (hv:JE X v f) (hr:JPs X pos ks vs prs):JPs X pos (some (.Constant (.str z) j cp)::ks) (v::vs) ((z,f)::prs):=Aa hk hv hr
theorem CC {i:Nat}{x:Str}{p dp:Pos}{keys:List (Option Expr)}{values:List Expr}{prs:List (Str×FE)}(hN:X.N.Nodup) (h:JPs X dp keys values prs) (hi:X.N[i]? = some x:=by rfl) (hall:keys.all (·.isSome)=true:=by rfl) (hl:keys.length=values.length:=by rfl) (h0:keys≠[]:=by exact List.cons_ne_nil _ _) (h15:keys.length<=15:=by decide)
  (hx:Loc X.env.scope x:=by first|exact Or.inl rfl|exact Or.inr rfl) (hs:swapsWith (.Dict keys values dp) (some (.Name x p)) pos.line X.env=pure false:=by rfl)
  (hf:X.fn x=true∨X.env.scope.names.lookup x=some .local:=by first|exact .inl rfl|exact .inr rfl):JS X (.Assign [.Name x p] (.Dict keys values dp) pos) (uH i prs):=PS.to (vO hN hi hx (BY h hall hl h0 h15) hs hf) λ_ _ _ q=>AS q
end
end DL
namespace DL
open PySem L2
theorem eQ {tg:FG}{g:FS}(I:Nat->Env->Prop) (ds:List D) (ρ0:Env) (h0:I 0 ρ0)
  (step:∀i d ρ,ds[i]? = some d->I i ρ->∃ρ1 ρ',tg d ρ=some ρ1/\(g ρ1=some (.nx ρ')∨g ρ1=some (.ct ρ'))/\I (i+1) ρ') :
  ∃ρ',fJ tg g ds ρ0=some (.nx ρ')/\I ds.length ρ':=by
 have key:∀(es:List D) (i:Nat) (ρ:Env),ds.drop i=es->i+es.length=ds.length->I i ρ->∃ρ',fJ tg g es ρ=some (.nx ρ')/\I ds.length ρ':=by
  intro es
  induction es with
  | nil=>intro i ρ e hl h;refine⟨ρ,by rw[Af], ?_⟩;rw[←hl];exact h
  | cons d es ih =>
   intro i ρ e hl h
   have hd:ds[i]? = some d:=by
    have:(ds.drop i)[0]? = some d:=by rw[e];rfl
    rwa [List.getElem?_drop,Nat.add_zero]at this
   obtain⟨ρ1,ρ',h1,h2,h3⟩:=step i d ρ hd h
   have he:ds.drop (i+1)=es:=by rw[←List.drop_drop,e];rfl
   obtain⟨ρ2,k1,k2⟩:=ih (i+1) ρ' he (by simp at hl;omega) h3
   refine⟨ρ2, ?_,k2⟩
   rw[yO,h1]
   rcases h2 with h2|h2<;>simp only[Option.bind_some,h2]<;>exact k1
 exact key ds 0 ρ0 (by simp) (by simp) h0
theorem nE {tg:FG}{g:FS}(n:Nat) (I:Nat->Env->Prop) (ρ0:Env) (h0:I 0 ρ0)
  (step:∀(i:Nat) ρ,i<n->I i ρ->∃ρ1 ρ',tg (.int (i:Int)) ρ=some ρ1/\(g ρ1=some (.nx ρ')∨g ρ1=some (.ct ρ'))/\I (i+1) ρ') :
  ∃ρ',fJ tg g (f8 0 n) ρ0=some (.nx ρ')/\I n ρ':=by
 have hl:(f8 0 n).length=n:=by simp[f8]
 obtain⟨ρ',h1,h2⟩:=eQ (tg:=tg) (g:=g) I (f8 0 n) ρ0 h0 λi d ρ hd h=>by
  unfold f8 at hd
  rw[List.getElem?_map]at hd
  obtain⟨k,hk,hd⟩:=oY hd
  obtain⟨hlt,hk⟩:=List.getElem?_eq_some_iff.mp hk
  rw[List.length_range]at hlt
  rw[List.getElem_range]at hk
  subst hk
  rw[Int.zero_add]at hd
  subst hd
  exact step i ρ hlt h
 rw[hl]at h2
 exact⟨ρ',h1,h2⟩
theorem gP {α:Type}{xs:List α}{j:Nat}(h:j<xs.length):atI xs (j:Int)=some xs[j]:=BS (by simp[h])
theorem si {α:Type}{xs:List α}{i:Int}(h0:0<=i) (h:i.toNat<xs.length):atI xs i=some xs[i.toNat]:=by
 have:=gP h
 rwa [Int.toNat_of_nonneg h0]at this
@[simp] theorem DR (xs:List Int):br (xs.map D.int)=true:=by
 induction xs with
 | nil=>simp
 | cons x xs ih=>simp[ih]
@[simp] theorem B6 (n:Nat) (xs:List Int):(xs.map D.int).all (aj n)=true:=by
 induction xs with
 | nil=>simp
 | cons x xs ih=>simpa using ih
@[simp] theorem CD (xs:List Int):(xs.map D.int).all eA=true:=by
 induction xs with
 | nil=>simp
 | cons x xs ih=>simpa using ih
mutual
def jN:D->D->Bool
 | .non,.non=>true
 | .bl a,.bl b=>a == b
 | .int a,.int b=>decide (a=b)
 | .str a,.str b=>decide (a=b)
 | .ty a,.ty b=>decide (a=b)
 | .tup xs,.tup ys=>nF xs ys
 | .lst xs,.lst ys=>nF xs ys
 | _,_=>false
def nF:List D->List D->Bool
 | [],[]=>true
 | x::xs,y::ys=>jN x y && nF xs ys
 | _,_=>false
end
mutual
theorem xZ:∀ {x y:D},jN x y=true->x=y
 | .non,.non,_=>rfl
 | .bl a,.bl b,h=>by simp[jN]at h;rw[h]
 | .int a,.int b,h=>by simp[jN]at h;rw[h]
 | .str a,.str b,h=>by simp[jN]at h;rw[h]
 | .ty a,.ty b,h=>by simp[jN]at h;rw[h]
 | .tup xs,.tup ys,h=>by rw[jN]at h;rw[nG h]
 | .lst xs,.lst ys,h=>by rw[jN]at h;rw[nG h]
theorem nG:∀ {xs ys:List D},nF xs ys=true->xs=ys
 | [],[],_=>rfl
 | x::xs,y::ys,h=>by
  rw[nF,Bool.and_eq_true]at h
  rw[xZ h.1,nG h.2]
end
def isR (r:Option (D×Bool)) (d:D) (b:Bool):Bool:=match r with
 | some (e,c)=>jN e d && c == b
 | none=>false
theorem bj {r:Option (D×Bool)}{d:D}{b:Bool}(h:isR r d b=true):r=some (d,b):=by
 unfold isR at h
 split at h
 ·rw[Bool.and_eq_true]at h
  rw[xZ h.1,eq_of_beq h.2]
 ·cases h
section
variable {f:FE}{c:FT}{g g' h:FS}{ρ ρ':Env}{i:Nat}{d:D}{b:Bool}{r:Option Res}{ds:List D}
theorem a8 {n k:Nat}(hl:ds.length=n) (e:g (ds.map (λd=>some (d,false))++List.replicate k none)=some (.rt d b)):aX g n k ds=some (d,b):=by
 unfold aX;rw[if_pos hl,e]
theorem qq (n:ba d=true):setE ρ i d b=ρ.set i (some (d,false)):=by unfold setE;rw[if_pos n]
theorem uK (n:br ds=true):setE ρ i (.lst ds) true=ρ.set i (some (.lst ds,true)):=by
 unfold setE
 rw[if_neg (by simp),if_pos ⟨rfl,by simpa using n⟩]
theorem CF (n:ba d=false) (m:b=false∨xw d=false):setE ρ i d b=(unown ρ).set i (some (d,false)):=by
 unfold setE
 have hz:¬(b=true/\xw d=true):=λz=>by
  rcases m with m|m
  ·rw[m]at z;exact absurd z.1 (by decide)
  ·rw[m]at z;exact absurd z.2 (by decide)
 rw[if_neg (by simp[n]),if_neg hz]
theorem DS (e:f ρ=some (d,b)) (k:h (setE ρ i d b)=r):aK (bf i f) h ρ=r:=by simp[e];exact k
theorem aT (e:f ρ=some (d,b)) (n:ba d=true) (k:h (ρ.set i (some (d,false)))=r):aK (bf i f) h ρ=r:=DS e (by rw[qq n];exact k)
theorem cB (e:f ρ=some (.lst ds,true)) (n:br ds=true) (k:h (ρ.set i (some (.lst ds,true)))=r):aK (bf i f) h ρ=r:=DS e (by rw[uK n];exact k)
theorem d6 (e:g ρ=some (.nx ρ')) (k:h ρ'=r):aK g h ρ=r:=by unfold aK;rw[e];exact k
theorem HB (e:g ρ=some (.rt d b)):aK g h ρ=some (.rt d b):=by unfold aK;rw[e]
theorem HC (e:g ρ=some (.ct ρ')):aK g h ρ=some (.ct ρ'):=by unfold aK;rw[e]
theorem nH (e:c ρ=some true) (k:g ρ=r):gIf c g g' ρ=r:=by unfold gIf;rw[e];exact k
theorem jO (e:c ρ=some false) (k:g' ρ=r):gIf c g g' ρ=r:=by unfold gIf;rw[e];exact k
theorem cI (e:c ρ=some true) (k:g ρ=some (.rt d b)):aK (gIf c g g') h ρ=some (.rt d b):=HB (nH e k)
theorem bo (e:c ρ=some false) (k:h ρ=r):aK (gIf c g bQ) h ρ=r:=d6 (jO e rfl) k
theorem aI (e:f ρ=some (d,b)):bu f ρ=some (.rt d b):=by simp[e]
theorem jP (e:ρ[i]? = some (some (d,b))) (hb:D2 d=false:=by rfl):iJ i ρ=some (.rt d b):=by simp only[iJ,e,hb];simp
theorem nI (e:f ρ=some (d,b)) (n:ba d=true):bf i f ρ=some (.nx (ρ.set i (some (d,false)))):=by
 show(f ρ).map _=_
 rw[e,Option.map_some,qq n]
theorem sj (e:f ρ=some (.lst ds,true)) (n:br ds=true):bf i f ρ=some (.nx (ρ.set i (some (.lst ds,true)))):=by
 show(f ρ).map _=_
 rw[e,Option.map_some,uK n]
theorem gQ (e:ρ[i]? = some (some (.lst ds,true))) (ef:f ρ=some (d,b)) (n:ba d=true) (l:ds.length<sizeLine):mf i f ρ=some (.nx (ρ.set i (some (.lst (ds++[d]),true)))):=by
 simp[e,ef,n,l]
theorem jQ {fi:FA}{tg:FG}{ds:List D}(e:fi ρ=some ds) (k:fJ tg g ds ρ=some (.nx ρ')):lB fi tg g ρ=some (.nx ρ'):=by unfold lB;rw[e];exact k
theorem jR {fi:FA}{tg:FG}{ds:List D}(e:fi (t9 ρ)=some ds) (k:fJ tg g ds ρ=some (.nx ρ')):r6 fi tg g ρ=some (.nx ρ'):=by unfold r6;rw[e];exact k
theorem kO {f:FE}{j:Nat}(e:f ρ=some (.int j,b)) (hj:j<=1000):je f ρ=some (f8 0 j):=by
 unfold je;rw[e];simp only[];rw[if_pos (by omega)];simp
theorem aM {x:Bool}(e:f ρ=some (.bl x,b)):tOf f ρ=some x:=by unfold tOf;rw[e]
theorem ai {F:List D->Option (D×Bool)}{fa:FA}{x:Option (D×Bool)}(e:fa ρ=some ds) (k:F ds=x):fA F fa ρ=x:=by unfold fA;rw[e,Option.bind_some];exact k
theorem AT {f1 g1:D->D->Option (D×Bool)}{fa fb fc:FE}{x y z:D}{b1 b2 b3 b4 p q:Bool}(ea:fa ρ=some (x,b1)) (eb:fb ρ=some (y,b2)) (ec:fc ρ=some (z,b3)) (e1:f1 x y=some (.bl p,b4)) (e2:p=true->g1 y z=some (.bl q,false)):k8 f1 g1 fa fb fc ρ=some (.bl (p && q),false):=by
 unfold k8
 rw[ea,eb,ec]
 simp only[Option.bind_some,e1]
 cases p
 ·rfl
 ·exact e2 rfl
theorem kP {f1 f2:FE}{p q b1:Bool}(e1:f1 ρ=some (.bl p,b1)) (e2:p=true->f2 ρ=some (.bl q,false)):mN f1 f2 ρ=some (.bl (p && q),false):=by
 unfold mN
 rw[e1]
 cases p
 ·rfl
 ·exact e2 rfl
theorem DT {f1 f2:FE}{p q b1:Bool}(e1:f1 ρ=some (.bl p,b1)) (e2:p=false->f2 ρ=some (.bl q,false)):fOr f1 f2 ρ=some (.bl (p || q),false):=by
 unfold fOr
 rw[e1]
 cases p
 ·exact e2 rfl
 ·rfl
theorem ar {fr:FA}{xs:List D}(e1:f ρ=some (d,b)) (e2:fr ρ=some xs):ae f fr ρ=some (d::xs):=by
 unfold ae;rw[e1,Option.bind_some,e2,Option.bind_some]
theorem aD {op:D->D->Option (D×Bool)}{fa fb:FE}{x y:D}{b1 b2:Bool}{z:Option (D×Bool)}(e1:fa ρ=some (x,b1)) (e2:fb ρ=some (y,b2)) (e3:op x y=z):f2 op fa fb ρ=z:=by
 unfold f2;rw[e1,Option.bind_some,e2,Option.bind_some];exact e3
theorem dI {c1 c2:FT}{p q:Bool}(e1:c1 ρ=some p) (e2:p=true->c2 ρ=some q):dM c1 c2 ρ=some (p && q):=by
 unfold dM
 rw[e1]
 cases p
 ·rfl
 ·exact e2 rfl
theorem nJ {c1 c2:FT}{p q:Bool}(e1:c1 ρ=some p) (e2:p=false->c2 ρ=some q):iC c1 c2 ρ=some (p || q):=by
 unfold iC
 rw[e1]
 cases p
 ·exact e2 rfl
 ·rfl
theorem sk {c1:FT}{p:Bool}(e1:c1 ρ=some p):iI c1 ρ=some (!p):=by
 unfold iI;rw[e1];rfl
end
theorem lt1 (a c:Nat):decide ([a]<[c])=decide (a<c):=by
 congr 1
 rw[List.cons_lt_cons_iff]
 simp
@[simp] theorem GX (a c:Nat):dLe (.str ⟨#[a]⟩) (.str ⟨#[c]⟩)=some (.bl (decide (a<=c)),false):=by
 unfold dLe
 show some (D.bl (!decide ([c]<[a])),false)=_
 rw[lt1]
 congr 3
 by_cases h:c<a
 ·rw[decide_eq_true h,decide_eq_false (by omega)];rfl
 ·rw[decide_eq_false h,decide_eq_true (by omega)];rfl
theorem bJ {n:Nat}(h:n<=100000):n<sizeLine:=Nat.lt_of_le_of_lt h (by decide)
theorem bC {n:Nat}(h:n<=100000):n<=sizeLine:=Nat.le_of_lt (bJ h)
theorem lG {α:Type}{fi:FA}{nT:Nat}{cap:List Nat}{tg:FG}{c:FT}{fe:FE}{ρ:DL.Env}(l:List α) (g:α->D) (p:α->Bool) (h:α->D) (e:fi ρ=some (l.map g)) (hl:l.length<=100000)
  (k:∀x∈l,∃ρ1,tg (g x) (bM nT cap ρ)=some ρ1/\c ρ1=some (p x)/\(p x=true->∃b,fe ρ1=some (h x,b))):c8 fi nT cap tg c fe ρ=some (.lst ((l.filter p).map h),true):=by
 have key:∀l':List α,(∀x∈l',x∈l)->eJ tg c fe (bM nT cap ρ) (l'.map g)=some ((l'.filter p).map h):=by
  intro l'
  induction l' with
  | nil=>intro _;simp
  | cons x l' ih =>
   intro hm
   obtain⟨ρ1,h1,h2,h3⟩:=k x (hm x mX)
   have ih:=ih λy hy=>hm y (mZ _ hy)
   rw[List.map_cons,wb,h1,Option.bind_some,h2,Option.bind_some]
   cases hp:p x with
   | false=>simp[hp,ih]
   | true =>
    obtain⟨b,h4⟩:=h3 hp
    simp[hp,ih,h4]
 unfold c8
 rw[e,Option.bind_some,if_pos (bC (by simpa using hl)),key l λ_ h=>h,Option.map_some]
theorem nK {α:Type}{fi:FA}{nT:Nat}{cap:List Nat}{tg:FG}{fe:FE}{ρ:DL.Env}(l:List α) (g:α->D) (h:α->D) (e:fi ρ=some (l.map g)) (hl:l.length<=100000)
  (k:∀x∈l,∃ρ1,tg (g x) (bM nT cap ρ)=some ρ1/\∃b,fe ρ1=some (h x,b)):c8 fi nT cap tg gE fe ρ=some (.lst (l.map h),true):=by
 have:=lG (c:=gE) (fe:=fe) l g (λ_=>true) h e hl λx hx=>by
  obtain⟨ρ1,h1,h2⟩:=k x hx
  exact⟨ρ1,h1,rfl,λ_=>h2⟩
 rw[List.filter_eq_self.mpr λ_ _=>rfl]at this
 exact this
@[simp] theorem GL {α:Type}(f:α->Bool) (l:List α):wm (l.map λx=>.bl (f x))=some (l.map f):=by
 induction l with
 | nil=>rfl
 | cons x l ih=>simp[ih]
theorem vY {z:Str}{i:Int}(h0:0<=i) (h:i.toNat<z.cps.size) (hz:z.length<=100000):ixD (.str z) (.int i)=some (.str ⟨#[z.cps.toList.getD i.toNat 0]⟩,false):=by
 have hh:i.toNat<z.cps.toList.length:=by simpa using h
 simp only[ixD]
 rw[if_pos (bC hz),si h0 hh]
 simp[List.getD,h]
theorem sn {ds:List D}{i:Int}(h0:0<=i) (h:i.toNat<ds.length):ixD (.lst ds) (.int i)=some (ds.getD i.toNat .non,false):=by
 simp only[ixD]
 rw[si h0 h]
 simp[List.getD,h]
theorem vX {ds:List D}{i:Int}(h0:0<=i) (h:i.toNat<ds.length):ixD (.tup ds) (.int i)=some (ds.getD i.toNat .non,false):=by
 simp only[ixD]
 rw[si h0 h]
 simp[List.getD,h]
theorem sq {xs:List Int}{i:Int}(h0:0<=i) (h:i.toNat<xs.length):ixD (.lst (xs.map .int)) (.int i)=some (.int (xs.getD i.toNat 0),false):=by
 rw[sn h0 (by simpa using h)]
 simp[List.getD,h]
theorem mod_lt {x m:Int}(hm:0<m):0<=x % m/\x % m<m:=⟨Int.emod_nonneg _ (by omega),Int.emod_lt_of_pos _ hm⟩
theorem CG {ds:List D}:dY [.lst ds]=some (.int ds.length,false):=rfl
theorem yc {i j:Int}:dEq (.int i) (.int j)=some (.bl (decide (i=j)),false):=by simp
theorem nL {n d:Nat}{v:Int}(h:0<=v):HT.sIx n d (some v)=min v.toNat n:=by
 show(if v<0 then (v+(n:Int)).toNat else min v.toNat n)=_
 rw[if_neg (by omega)]
def AU {α:Type}(xs:List α) (lo hi:Option Int):List α:=(xs.drop (HT.sIx xs.length 0 lo)).take (HT.sIx xs.length xs.length hi - HT.sIx xs.length 0 lo)
theorem AV {α:Type}(f:α->D) (xs:List α) (lo hi:Option Int):iD (xs.map f) lo hi=(AU xs lo hi).map f:=by
 unfold iD AU
 rw[List.length_map,List.map_take,List.map_drop]
end DL
namespace Lw
open PySem DL
def fm:List (PySem.Str×D):=[(("root" : Str),(.tup [(.str "office"),(.str "matters"),(.str "further"),(.str "rule")])),(("named" : Str),(.tup [(.str "day"),(.str "office"),(.str "person")])),(("chosen" : Str),(.tup [(.str "day"),(.str "by"),(.str "office"),(.str "person"),(.str "since")])),(("heir" : Str),(.tup [(.str "day"),(.str "by"),(.str "office"),(.str "person")])),(("death" : Str),(.tup [(.str "day"),(.str "person")])),(("lost" : Str),(.tup [(.str "day"),(.str "person")])),(("found" : Str),(.tup [(.str "day"),(.str "person")])),(("leave" : Str),(.tup [(.str "day"),(.str "by"),(.str "person"),(.str "matters"),(.str "stretch"),(.str "further")])),(("paper" : Str),(.tup [(.str "day"),(.str "by"),(.str "matters"),(.str "stretch"),(.str "whom"),(.str "pieces")])),(("like" : Str),(.tup [(.str "day"),(.str "by"),(.str "matters"),(.str "stretch"),(.str "whom"),(.str "of"),(.str "changes")])),(("copy" : Str),(.tup [(.str "day"),(.str "by"),(.str "of")])),(("call" : Str),(.tup [(.str "day"),(.str "by"),(.str "of")]))]
def dC:D:=(.tup [(.str "chosen"),(.str "heir"),(.str "leave"),(.str "paper"),(.str "like"),(.str "copy"),(.str "call")])
def qr:FS :=
  (bu (f2 ixD (f2 ixD (ag 0) (fC (.int 1))) (fC (.int 0))))
def aE:List D->Option (D×Bool):=aX qr 1 0
def qt:FS :=
  (bu (f2 ixD (f2 ixD (ag 0) (fC (.int 1))) (f2 b7 (fC (.int 1)) (f2 (pw fm) (fA aE (ae (ag 0) ak)) (ag 1)))))
def av:List D->Option (D×Bool):=aX qt 2 0
def uL:FS :=
  (aK (gIf (tOf (f2 dEq (fA aE (ae (ag 0) ak)) (fC (.str "root")))) (bu (fC .non)) bQ)
  (bu (fA av (ae (ag 0) (ae (fC (.str "day")) ak)))))
def aO:List D->Option (D×Bool):=aX uL 1 0
def ye:FS :=
  (bu (c8 (xI (ag 0)) 2 [1] (tgT [0,1]) (tOf (f2 dLe (f2 ixD (ag 1) (fC (.int 0))) (ag 2))) (ag 0)))
def cm:List D->Option (D×Bool):=aX ye 2 0
def AW:FS :=
  (bu (fA aQ (ae (fA aO (ae (f2 ixD (ag 0) (ag 1)) ak)) (ae (ag 1) ak))))
def de:List D->Option (D×Bool):=aX AW 2 0
def nM:FS :=
  (aK (bf 2 (c8 (cE (fA cm (ae (ag 0) (ae (ag 1) ak)))) 1 [0] (tgN 0) (tOf (f2 jd (fA aO (ae (f2 ixD (ag 1) (ag 0)) ak)) (fC .non))) (ag 0)))
  (bu (kN (ag 2) (u8 [0] (fA de (ae (ag 1) (ae (ag 0) ak)))))))
def dD:List D->Option (D×Bool):=aX nM 2 1
def lH:FS :=
  (bu (fA aQ (ae (f2 ixD (ag 0) (fC (.int 0))) (ae (f2 ixD (ag 0) (fC (.int 2))) (ae (f2 ixD (ag 0) (fC (.int 4))) ak)))))
def dj:List D->Option (D×Bool):=aX lH 1 0
def yf:FS :=
  (aK (bf 2 (c8 (cE (fA cm (ae (ag 0) (ae (ag 1) ak)))) 1 [0] (tgN 0) gE (f2 ixD (ag 1) (ag 0))))
  (bu (fA gl (ae (c8 (cE (ag 2)) 1 [] (tgN 0) (tOf (f2 dEq (fA aE (ae (ag 0) ak)) (fC (.str "root")))) (fA aQ (ae (fA av (ae (ag 0) (ae (fC (.str "office")) ak))) (ae (ag 0) ak)))) ak))))
def fq:List D->Option (D×Bool):=aX yf 2 1
def nN:FS :=
  (bu (mN (k8 dLe dLt (fC (.int 0)) (ag 2) (fA dY (ae (ag 0) ak))) (f2 dLe (f2 ixD (f2 ixD (ag 0) (ag 2)) (fC (.int 0))) (ag 1))))
def eR:List D->Option (D×Bool):=aX nN 3 0
def yg:FS :=
  (bu (mN (f2 dIn (fA aE (ae (ag 0) ak)) (ag 1)) (mN (f2 dEq (fA av (ae (ag 0) (ae (fC (.str "person")) ak))) (ag 2)) (f2 dLe (fA aO (ae (ag 0) ak)) (ag 3)))))
def jS:List D->Option (D×Bool):=aX yg 4 0
def qu:FS :=
  (bu (c8 (cE (fA cm (ae (ag 0) (ae (ag 1) ak)))) 1 [2,3,4,0] (tgN 0) (tOf (fA jS (ae (f2 ixD (ag 4) (ag 0)) (ae (ag 1) (ae (ag 2) (ae (ag 3) ak)))))) (ag 0)))
def cR:List D->Option (D×Bool):=aX qu 5 0
def yh:FS :=
  (bu (f2 dEq (fA dY (ae (fA cR (ae (ag 0) (ae (ag 1) (ae (fA aQ (ae (fC (.str "death")) ak)) (ae (ag 2) (ae (ag 3) ak)))))) ak)) (fC (.int 0))))
def gm:List D->Option (D×Bool):=aX yh 4 0
def nO:FS :=
  (aK (bf 4 (fA cR (ae (ag 0) (ae (ag 1) (ae (fA aQ (ae (fC (.str "lost")) (ae (fC (.str "found")) ak))) (ae (ag 2) (ae (ag 3) ak)))))))
  (aK (gIf (tOf (f2 dEq (fA dY (ae (ag 4) ak)) (fC (.int 0)))) (bu (fC (.bl true))) bQ)
  (bu (f2 dEq (fA aE (ae (f2 ixD (ag 0) (qi (ag 4) (u8 [0] (fA de (ae (ag 1) (ae (ag 0) ak)))))) ak)) (fC (.str "found"))))))
def gn:List D->Option (D×Bool):=aX nO 4 1
def nQ:FS :=
  (aK (gIf (iC (iI (tOf (fA eR (ae (ag 0) (ae (ag 1) (ae (ag 2) ak)))))) (tOf (f2 eM (fA aE (ae (f2 ixD (ag 0) (ag 2)) ak)) (fC dC)))) (bu (fC (.bl false))) bQ)
  (aK (bf 3 (fA av (ae (f2 ixD (ag 0) (ag 2)) (ae (fC (.str "by")) ak))))
  (aK (bf 4 (fA aO (ae (f2 ixD (ag 0) (ag 2)) ak)))
  (bu (mN (fA gm (ae (ag 0) (ae (ag 1) (ae (ag 3) (ae (ag 4) ak))))) (fA gn (ae (ag 0) (ae (ag 1) (ae (ag 3) (ae (ag 4) ak))))))))))
def gp:List D->Option (D×Bool):=aX nQ 3 2
def qw:FS :=
  (bu (mN (f2 dLe (f2 ixD (ag 1) (fC (.int 0))) (ag 0)) (fOr (f2 dIs (f2 ixD (ag 1) (fC (.int 1))) (fC .non)) (f2 dLt (ag 0) (f2 ixD (ag 1) (fC (.int 1)))))))
def iu:List D->Option (D×Bool):=aX qw 2 0
def nR:FS :=
  (bu (fA iu (ae (ag 1) (ae (fA aQ (ae (f2 ixD (ag 0) (fC (.int 2))) (ae (f2 ixD (ag 0) (fC (.int 3))) ak))) ak))))
def bv:List D->Option (D×Bool):=aX nR 2 0
def nS:FS :=
  (bu (fA aQ (ae (f2 ixD (ag 0) (fC (.int 2))) (ae (f2 ixD (ag 0) (fC (.int 4))) ak))))
def bK:List D->Option (D×Bool):=aX nS 1 0
def nU:FS :=
  (aK (gIf (tOf (f2 dEq (ag 1) (fC (.str "last")))) (bu (f2 ixD (qi (ag 0) (px bK)) (fC (.int 1)))) bQ)
  (bu (f2 ixD (qj (ag 0) (px bK)) (fC (.int 1)))))
def gq:List D->Option (D×Bool):=aX nU 2 0
def lI:FS :=
  (aK (bf 3 (c8 (cE (ag 0)) 1 [2,1] (tgN 0) (dM (tOf (f2 dEq (f2 ixD (ag 0) (fC (.int 0))) (fA av (ae (ag 2) (ae (fC (.str "office")) ak))))) (tOf (fA bv (ae (ag 0) (ae (ag 1) ak))))) (ag 0)))
  (aK (bf 4 (f1 dQ (c8 (cE (ag 3)) 1 [] (tgN 0) gE (f2 ixD (ag 0) (fC (.int 1))))))
  (aK (gIf (tOf (f2 dEq (fA dY (ae (ag 4) ak)) (fC (.int 0)))) (bu (fA aQ (ae (fC (.str "none")) ak))) bQ)
  (aK (gIf (dM (tOf (f2 iGt (fA dY (ae (ag 4) ak)) (fC (.int 1)))) (tOf (f2 dEq (fA av (ae (ag 1) (ae (fC (.str "rule")) ak))) (fC (.str "open"))))) (bu (fA aQ (ae (fC (.str "parted")) (ae (ag 4) ak)))) bQ)
  (aK (bf 5 (fA gq (ae (ag 3) (ae (fA av (ae (ag 1) (ae (fC (.str "rule")) ak))) ak))))
  (aK (bf 6 (qj (c8 (cE (ag 3)) 1 [5] (tgN 0) (tOf (f2 dEq (f2 ixD (ag 0) (fC (.int 1))) (ag 1))) (ag 0)) (px bK)))
  (bu (fA aQ (ae (fC (.str "one")) (ae (ag 5) (ae (f2 ixD (ag 6) (fC (.int 4))) ak)))))))))))
def ci:List D->Option (D×Bool):=aX lI 3 4
def jT:FS :=
  (bu (f2 dEq (fSl (fA ci (ae (ag 0) (ae (ag 1) (ae (ag 3) ak)))) gH (eu (fC (.int 2)))) (fA aQ (ae (fC (.str "one")) (ae (ag 2) ak)))))
def du:List D->Option (D×Bool):=aX jT 4 0
def fQ:FS :=
  (aK (bf 3 (f2 ixD (ag 0) (ag 2)))
  (aK (bf 4 (fA cR (ae (ag 0) (ae (ag 1) (ae (fA aQ (ae (fC (.str "death")) ak)) (ae (fA av (ae (ag 3) (ae (fC (.str "person")) ak))) (ae (fA aO (ae (ag 3) ak)) ak)))))))
  (bu (f2 dEq (qj (ag 4) (u8 [0] (fA de (ae (ag 1) (ae (ag 0) ak))))) (ag 2)))))
def cS:List D->Option (D×Bool):=aX fQ 3 2
def uM:FS :=
  (aK (bf 4 (f2 ixD (ag 0) (ag 3)))
  (aK (gIf (tOf (f2 dEq (fA aE (ae (ag 4) ak)) (fC (.str "death")))) (bu (fA cS (ae (ag 0) (ae (ag 1) (ae (ag 3) ak))))) bQ)
  (aK (gIf (tOf (f2 eM (fA aE (ae (ag 4) ak)) (fA aQ (ae (fC (.str "named")) (ae (fC (.str "chosen")) (ae (fC (.str "heir")) ak)))))) (bu (fC (.bl false))) bQ)
  (aK (bf 5 (f2 wE (fA fq (ae (ag 0) (ae (ag 1) ak))) (fA av (ae (ag 4) (ae (fC (.str "office")) ak)))))
  (aK (gIf (tOf (f2 dIs (ag 5) (fC .non))) (bu (fC (.bl false))) bQ)
  (aK (gIf (tOf (f2 dEq (fA aE (ae (ag 4) ak)) (fC (.str "named")))) (bu (fC (.bl true))) bQ)
  (bu (mN (fA gp (ae (ag 0) (ae (ag 1) (ae (ag 3) ak)))) (fA du (ae (ag 2) (ae (ag 5) (ae (fA av (ae (ag 4) (ae (fC (.str "by")) ak))) (ae (fA aO (ae (ag 4) ak)) ak)))))))))))))
def gS:List D->Option (D×Bool):=aX uM 4 2
def lJ:FS :=
  (bu (fA aQ (ae (fA av (ae (ag 0) (ae (fC (.str "office")) ak))) (ae (fA av (ae (ag 0) (ae (fC (.str "person")) ak))) (ae (ag 1) (ae (fC .non) (ae (ag 2) ak)))))))
def cJ:List D->Option (D×Bool):=aX lJ 3 0
def nV:FS :=
  (gIf (iC (tOf (f2 eM (f2 ixD (ag 5) (fC (.int 0))) (ag 1))) (iC (tOf (f2 dNe (f2 ixD (ag 5) (fC (.int 1))) (ag 2))) (iI (iC (tOf (fA bv (ae (ag 5) (ae (ag 3) ak)))) (tOf (f2 iGt (f2 ixD (ag 5) (fC (.int 2))) (ag 3))))))) (mf 4 (ag 5)) (gIf (tOf (f2 dLt (f2 ixD (ag 5) (fC (.int 2))) (ag 3))) (mf 4 (fA aQ (ae (f2 ixD (ag 5) (fC (.int 0))) (ae (ag 2) (ae (f2 ixD (ag 5) (fC (.int 2))) (ae (ag 3) (ae (f2 ixD (ag 5) (fC (.int 4))) ak))))))) bQ))
def yi:FS :=
  (aK (bf 4 (fA bN ak))
  (aK (r6 (cE (ag 0)) (tgN 5) nV)
  (iJ 4)))
def iw:List D->Option (D×Bool):=aX yi 4 2
def gT:FS :=
  (aK (bf 3 (fA av (ae (ag 1) (ae (fC (.str "since")) ak))))
  (aK (bf 4 (fA iw (ae (ag 0) (ae (fA bN (ae (fA av (ae (ag 1) (ae (fC (.str "office")) ak))) ak)) (ae (fA av (ae (ag 1) (ae (fC (.str "by")) ak))) (ae (ag 3) ak))))))
  (bu (f2 b7 (ag 4) (fA bN (ae (fA cJ (ae (ag 1) (ae (ag 3) (ae (ag 2) ak)))) ak))))))
def dw:List D->Option (D×Bool):=aX gT 3 2
def eE:FS :=
  (aK (bf 9 (AO (ag 3) (ae (ag 8) (ae (ag 5) ak))))
  (gIf (dM (tOf (f2 jd (ag 9) (fC .non))) (tOf (fA gm (ae (ag 0) (ae (ag 1) (ae (ag 9) (ae (ag 6) ak))))))) (mf 7 (fA aQ (ae (ag 8) (ae (ag 9) (ae (ag 6) (ae (fC .non) (ae (ag 4) ak))))))) bQ))
def lK:FS :=
  (aK (bf 5 (fA av (ae (f2 ixD (ag 0) (ag 4)) (ae (fC (.str "person")) ak))))
  (aK (bf 6 (fA aO (ae (f2 ixD (ag 0) (ag 4)) ak)))
  (aK (bf 7 (fA bN ak))
  (aK (gUn [5,6] (r6 (cE (f1 dQ (c8 (cE (ag 2)) 1 [5,6] (tgN 0) (dM (tOf (f2 dEq (f2 ixD (ag 0) (fC (.int 1))) (ag 1))) (tOf (fA bv (ae (ag 0) (ae (ag 2) ak))))) (f2 ixD (ag 0) (fC (.int 0)))))) (tgN 8) eE))
  (iJ 7)))))
def ft:List D->Option (D×Bool):=aX lK 5 5
def iO:FS :=
  (aK (bf 5 (c8 (cE (ag 2)) 1 [] (tgN 0) gE (f2 ixD (ag 0) (fC (.int 0)))))
  (aK (bf 6 (fA iw (ae (ag 2) (ae (ag 5) (ae (fA av (ae (f2 ixD (ag 0) (ag 4)) (ae (fC (.str "person")) ak))) (ae (fA aO (ae (f2 ixD (ag 0) (ag 4)) ak)) ak))))))
  (bu (f2 b7 (ag 6) (fA ft (ae (ag 0) (ae (ag 1) (ae (ag 2) (ae (ag 3) (ae (ag 4) ak))))))))))
def dJ:List D->Option (D×Bool):=aX iO 5 2
def iz:FS :=
  (aK (bf 5 (f2 ixD (ag 0) (ag 4)))
  (aK (gIf (iI (tOf (fA gS (ae (ag 0) (ae (ag 1) (ae (ag 2) (ae (ag 4) ak))))))) DP bQ)
  (gIf (tOf (f2 dEq (fA aE (ae (ag 5) ak)) (fC (.str "named")))) (bf 2 (f2 b7 (ag 2) (fA bN (ae (fA cJ (ae (ag 5) (ae (fA aO (ae (ag 5) ak)) (ae (ag 4) ak)))) ak)))) (gIf (tOf (f2 dEq (fA aE (ae (ag 5) ak)) (fC (.str "chosen")))) (bf 2 (fA dw (ae (ag 2) (ae (ag 5) (ae (ag 4) ak))))) (gIf (tOf (f2 dEq (fA aE (ae (ag 5) ak)) (fC (.str "heir")))) (qm 3 (ae (fA av (ae (ag 5) (ae (fC (.str "office")) ak))) (ae (fA av (ae (ag 5) (ae (fC (.str "by")) ak))) ak)) (fA av (ae (ag 5) (ae (fC (.str "person")) ak)))) (bf 2 (fA dJ (ae (ag 0) (ae (ag 1) (ae (ag 2) (ae (ag 3) (ae (ag 4) ak))))))))))))
def uN:FS :=
  (aK (bf 2 (fA bN ak))
  (aK (AK 3)
  (aK (r6 (cE (fA dD (ae (ag 0) (ae (ag 1) ak)))) (tgN 4) iz)
  (bu (kN (ag 2) (px dj))))))
def dz:List D->Option (D×Bool):=aX uN 2 4
def uO:FS :=
  (aK (bf 4 (f2 wE (fA fq (ae (ag 0) (ae (ag 1) ak))) (ag 2)))
  (aK (gIf (tOf (f2 dIs (ag 4) (fC .non))) (bu (fA aQ (ae (fC (.str "none")) ak))) bQ)
  (bu (fA ci (ae (fA dz (ae (ag 0) (ae (ag 1) ak))) (ae (ag 4) (ae (ag 3) ak)))))))
def cK:List D->Option (D×Bool):=aX uO 4 1
def lL:FS :=
  (aK (gIf (tOf (f2 dLt (ag 1) (fA dY (ae (ag 0) ak)))) (bu (f2 ixD (ag 0) (ag 1))) bQ)
  (bu (fC (.int 0))))
def aG:List D->Option (D×Bool):=aX lL 2 0
def nW:FS :=
  (aK (bf 7 (f2 ixD (fC (.str "bqcxdlenhusv")) (f2 c6 (f2 b7 (f2 d9 (ag 0) (fC (.int 64))) (f2 rG (fC (.int 5)) (ag 6))) (fC (.int 12)))))
  (mf 5 (f2 b7 (f2 b7 (fSl (ag 3) gH (eu (ag 4))) (ag 7)) (fSl (ag 3) (eu (f2 b7 (ag 4) (fC (.int 1)))) gH))))
def qx:FS :=
  (aK (bf 2 (f2 b7 (fC (.int 1)) (f2 c6 (ag 0) (fC (.int 8)))))
  (aK (bf 3 (fSl (fC (.str "gmtazkfw")) gH (eu (ag 2))))
  (aK (bf 4 (f2 c6 (f2 d9 (ag 0) (fC (.int 8))) (ag 2)))
  (aK (bf 5 (fA bN ak))
  (aK (lB (je (ag 1)) (tgN 6) nW)
  (iJ 5))))))
def i6:List D->Option (D×Bool):=aX qx 2 6
def nX:FS :=
  (aK (bf 4 (f2 c6 (f2 b7 (f2 b7 (f2 rG (ag 4) (fC (.int 48271))) (fA dY (ae (ag 3) ak))) (fC (.int 1))) (fC (.int 2147483647))))
  (mf 3 (ag 4)))
def qy:FS :=
  (aK (bf 3 (fSl (ag 0) (eu (ag 1)) (eu (f2 b7 (ag 1) (ag 2)))))
  (aK (bf 4 (f2 c6 (fA aG (ae (ag 0) (ae (fC (.int 1)) ak))) (fC (.int 2147483647))))
  (aK (f6 (dM (tOf (f2 dEq (f2 c6 (f2 d9 (fA aG (ae (ag 0) (ae (fC (.int 0)) ak))) (fC (.int 21))) (fC (.int 8))) (fC (.int 5)))) (tOf (f2 dLt (fA dY (ae (ag 3) ak)) (ag 2)))) nX 1000)
  (iJ 3))))
def fR:List D->Option (D×Bool):=aX qy 3 2
def uP:FS :=
  (aK (bf 5 (fA bN (ae (fA aQ (ae (fC (.str "chosen")) (ae (ag 1) (ae (ag 2) (ae (ag 3) (ae (ag 4) (ae (f2 b7 (ag 1) (f2 c6 (f2 d9 (ag 0) (fC (.int 16))) (fC (.int 5)))) ak))))))) (ae (fA aQ (ae (fC (.str "heir")) (ae (ag 1) (ae (ag 2) (ae (ag 3) (ae (ag 4) ak)))))) ak))))
  (aK (bf 5 (f2 b7 (ag 5) (fA bN (ae (fA aQ (ae (fC (.str "death")) (ae (ag 1) (ae (ag 2) ak)))) (ae (fA aQ (ae (fC (.str "named")) (ae (ag 1) (ae (ag 3) (ae (ag 4) ak))))) (ae (fA aQ (ae (fC (.str "lost")) (ae (ag 1) (ae (ag 2) ak)))) (ae (fA aQ (ae (fC (.str "found")) (ae (ag 1) (ae (ag 2) ak)))) ak)))))))
  (aK (bf 5 (f2 b7 (ag 5) (fA bN (ae (fA aQ (ae (fC (.str "death")) (ae (ag 1) (ae (ag 4) ak)))) (ae (fA aQ (ae (fC (.str "copy")) (ae (ag 1) (ae (ag 2) (ae (f2 c6 (ag 0) (fC (.int 60))) ak))))) ak)))))
  (bu (f2 ixD (ag 5) (f2 ixD (fA bN (ae (fC (.int 0)) (ae (fC (.int 0)) (ae (fC (.int 0)) (ae (fC (.int 0)) (ae (fC (.int 0)) (ae (fC (.int 1)) (ae (fC (.int 1)) (ae (fC (.int 1)) (ae (fC (.int 1)) (ae (fC (.int 2)) (ae (fC (.int 2)) (ae (fC (.int 3)) (ae (fC (.int 3)) (ae (fC (.int 4)) (ae (fC (.int 5)) (ae (f2 b7 (fC (.int 6)) (f2 c6 (f2 d9 (ag 0) (fC (.int 80))) (fC (.int 2)))) ak))))))))))))))))) (f2 c6 (ag 0) (fC (.int 16)))))))))
def gU:List D->Option (D×Bool):=aX uP 5 1
def kQ:FS :=
  (mf 4 (fA aQ (ae (fC (.int 0)) (ae (fA aQ (ae (fC (.str "root")) (ae (f2 ixD (ag 3) (ag 5)) (ae (fC (.int 7)) (ae (fC (.int 1)) (ae (f2 ixD (fA bN (ae (fC (.str "open")) (ae (fC (.str "first")) (ae (fC (.str "last")) ak)))) (f2 c6 (f2 d9 (ag 2) (f2 b7 (fC (.int 2)) (ag 5))) (fC (.int 3)))) ak)))))) ak))))
def kR:FS :=
  (aK (bf 7 (f2 b7 (f2 d9 (ag 5) (fC (.int 3))) (f2 c6 (f2 d9 (ag 2) (fC (.int 400))) (fC (.int 3)))))
  (aK (bf 8 (f2 ixD (f2 b7 (ag 3) (fA bN (ae (fC (.str "mill")) ak))) (f2 d9 (f2 c6 (f2 d9 (ag 2) (fC (.int 1200))) (f2 b7 (f2 rG (fC (.int 4)) (fA dY (ae (ag 3) ak))) (fC (.int 1)))) (fC (.int 4)))))
  (aK (bf 9 (f2 ixD (ag 1) (f2 c6 (f2 d9 (ag 2) (fC (.int 30000))) (fA dY (ae (ag 1) ak)))))
  (aK (bf 10 (fA gU (ae (ag 2) (ae (ag 7) (ae (f2 ixD (ag 6) (f2 Gv (f1 Co (fC (.int 1))) (f2 c6 (f2 d9 (ag 2) (fC (.int 10000))) (fA ET (ae (fC (.int 3)) (ae (fA dY (ae (ag 6) ak)) ak)))))) (ae (ag 8) (ae (ag 9) ak)))))))
  (aK (gIf (iC (tOf (f2 dEq (ag 5) (fC (.int 0)))) (tOf (f2 dEq (f2 c6 (f2 d9 (ag 2) (fC (.int 200000))) (fC (.int 9))) (fC (.int 1))))) (bf 10 (fA aQ (ae (fC (.str "named")) (ae (ag 7) (ae (ag 8) (ae (ag 9) ak)))))) bQ)
  (aK (gIf (tOf (f2 dIn (f2 ixD (ag 10) (fC (.int 0))) (fA aQ (ae (fC (.str "named")) (ae (fC (.str "chosen")) ak))))) (mf 6 (ag 9)) bQ)
  (mf 4 (fA aQ (ae (f2 b7 (ag 7) (f2 ixD (fA bN (ae (fC (.int 0)) (ae (fC (.int 0)) (ae (fC (.int 0)) (ae (fC (.int 0)) (ae (fC (.int 1)) (ae (fC (.int 6)) ak))))))) (f2 c6 (f2 d9 (ag 2) (fC (.int 7))) (fC (.int 6))))) (ae (ag 10) ak))))))))))
def uQ:FS :=
  (aK (bf 2 (fA aG (ae (ag 0) (ae (fC (.int 1)) ak))))
  (aK (bf 3 (fSl (fA bN (ae (fC (.str "crown")) (ae (fC (.str "abbey")) ak))) gH (eu (f2 b7 (fC (.int 1)) (f2 c6 (ag 2) (fC (.int 2)))))))
  (aK (bf 4 (fA bN ak))
  (aK (lB (je (fA dY (ae (ag 3) ak))) (tgN 5) kQ)
  (aK (bf 6 (fA bN (ae (f2 ixD (ag 1) (fC (.int 0))) ak)))
  (aK (r6 (xI (fA fR (ae (ag 0) (ae (fC (.int 5)) (ae (fC (.int 30)) ak))))) (tgT [5,2]) kR)
  (bu (fA dn (ae (ag 4) ak)))))))))
def jU:List D->Option (D×Bool):=aX uQ 2 9
def q8:FS :=
  (aK (gIf (tOf (f2 dEq (f2 ixD (ag 0) (fC (.int 0))) (fC (.str "root")))) (bu (f2 xW (fA aQ (ae (fC (.str "root")) (ae (f2 ixK (ag 1) (f2 ixD (ag 0) (fC (.int 1)))) ak))) (fSl (ag 0) (eu (fC (.int 2))) gH))) bQ)
  (aK (gIf (tOf (f2 dEq (f2 ixD (ag 0) (fC (.int 0))) (fC (.str "chosen")))) (bu (fA aQ (ae (fC (.str "chosen")) (ae (f2 b7 (f2 ixD (ag 0) (fC (.int 1))) (ag 2)) (ae (f2 ixK (ag 1) (f2 ixD (ag 0) (fC (.int 2)))) (ae (f2 ixK (ag 1) (f2 ixD (ag 0) (fC (.int 3)))) (ae (f2 ixK (ag 1) (f2 ixD (ag 0) (fC (.int 4)))) (ae (f2 b7 (f2 ixD (ag 0) (fC (.int 5))) (ag 2)) ak)))))))) bQ)
  (aK (gIf (tOf (f2 dEq (f2 ixD (ag 0) (fC (.int 0))) (fC (.str "copy")))) (bu (fA aQ (ae (fC (.str "copy")) (ae (f2 b7 (f2 ixD (ag 0) (fC (.int 1))) (ag 2)) (ae (f2 ixK (ag 1) (f2 ixD (ag 0) (fC (.int 2)))) (ae (f2 ixD (ag 0) (fC (.int 3))) ak)))))) bQ)
  (bu (f2 xW (fA aQ (ae (f2 ixD (ag 0) (fC (.int 0))) (ae (f2 b7 (f2 ixD (ag 0) (fC (.int 1))) (ag 2)) ak))) (fA dn (ae (c8 (cE (fSl (ag 0) (eu (fC (.int 2))) gH)) 1 [1] (tgN 0) gE (f2 ixK (ag 1) (ag 0))) ak)))))))
def eG:List D->Option (D×Bool):=aX q8 3 0
def qA:FS :=
  (aK (bf 3 (f2 ixD (ag 0) (fC (.int 3))))
  (aK (gIf (tOf (f2 jd (ag 3) (fC .non))) (bf 3 (f2 b7 (ag 3) (ag 2))) bQ)
  (bu (fA aQ (ae (f2 ixK (ag 1) (f2 ixD (ag 0) (fC (.int 0)))) (ae (f2 ixK (ag 1) (f2 ixD (ag 0) (fC (.int 1)))) (ae (f2 b7 (f2 ixD (ag 0) (fC (.int 2))) (ag 2)) (ae (ag 3) (ae (f2 ixD (ag 0) (fC (.int 4))) ak)))))))))
def fS:List D->Option (D×Bool):=aX qA 3 1
def nY:FS :=
  (aK (gIf (tOf (f2 dEq (f2 ixD (ag 0) (fC (.int 0))) (fC (.str "one")))) (bu (fA aQ (ae (fC (.str "one")) (ae (f2 ixK (ag 1) (f2 ixD (ag 0) (fC (.int 1)))) (ae (f2 ixD (ag 0) (fC (.int 2))) ak))))) bQ)
  (aK (gIf (tOf (f2 dEq (f2 ixD (ag 0) (fC (.int 0))) (fC (.str "parted")))) (bu (fA aQ (ae (fC (.str "parted")) (ae (fA gk (ae (c8 (cE (f2 ixD (ag 0) (fC (.int 1)))) 1 [1] (tgN 0) gE (f2 ixK (ag 1) (ag 0))) ak)) ak)))) bQ)
  (iJ 0)))
def df:List D->Option (D×Bool):=aX nY 2 0
def sr:FS :=
  (qk 4 (f2 ixD (ag 1) (ag 6)) (f2 ixD (ag 5) (f2 c6 (f2 b7 (f2 rG (ag 6) (fC (.int 5))) (f2 d9 (fA aG (ae (ag 0) (ae (fC (.int 3)) ak))) (fC (.int 9900)))) (fC (.int 6)))))
def wH:FS :=
  (aK (bf 12 (fA df (ae (fA cK (ae (ag 2) (ae (ag 8) (ae (ag 10) (ae (ag 11) ak))))) (ae (ag 4) ak))))
  (gIf (tOf (f2 dNe (fA cK (ae (ag 7) (ae (f2 b7 (ag 8) (ag 3)) (ae (f2 ixK (ag 4) (ag 10)) (ae (f2 b7 (ag 11) (ag 3)) ak))))) (ag 12))) (bu (fC (.bl false))) bQ))
def AX:FS :=
  (lB (m7 (fC (.int 0)) (fC (.int 18)) (f2 b7 (fC (.int 1)) (f2 c6 (f2 d9 (fA aG (ae (ag 0) (ae (fC (.int 0)) ak))) (fC (.int 5))) (fC (.int 3))))) (tgN 11) wH)
def AY:FS :=
  (aK (bf 1 (fA i6 (ae (fA aG (ae (ag 0) (ae (fC (.int 2)) ak))) (ae (f2 b7 (fC (.int 2)) (f2 c6 (fA aG (ae (ag 0) (ae (fC (.int 0)) ak))) (fC (.int 5)))) ak))))
  (aK (bf 2 (fA jU (ae (ag 0) (ae (ag 1) ak))))
  (aK (bf 3 (f2 c6 (fA aG (ae (ag 0) (ae (fC (.int 3)) ak))) (fC (.int 9900))))
  (aK (uH 4 [(("abbey" : Str),(f2 ixD (fA bN (ae (fC (.str "ab")) (ae (fC (.str "a")) ak))) (f2 c6 (ag 3) (fC (.int 2))))),(("crown" : Str),(fC (.str "abc"))),(("mill" : Str),(fC (.str "zzzzzzzz")))])
  (aK (bf 5 (fA bN (ae (fC (.str "yb")) (ae (fC (.str "b")) (ae (fC (.str "crown")) (ae (fC (.str "y")) (ae (fC (.str "abbey")) (ae (fC (.str "ya")) ak))))))))
  (aK (lB (je (fA dY (ae (ag 1) ak))) (tgN 6) sr)
  (aK (bf 7 (fA dn (ae (c8 (cE (ag 2)) 2 [3,4] (tgT [0,1]) gE (fA aQ (ae (f2 b7 (ag 0) (ag 2)) (ae (fA eG (ae (ag 1) (ae (ag 3) (ae (ag 2) ak)))) ak)))) ak)))
  (aK (bf 8 (f2 ixD (fA bN (ae (fC (.int 50)) (ae (f2 c6 (f2 d9 (fA aG (ae (ag 0) (ae (fC (.int 4)) ak))) (fC (.int 2))) (fC (.int 15))) ak))) (f2 c6 (fA aG (ae (ag 0) (ae (fC (.int 4)) ak))) (fC (.int 2)))))
  (aK (bf 9 (c8 (cE (fA dz (ae (ag 2) (ae (ag 8) ak)))) 1 [4,3] (tgN 0) gE (fA fS (ae (ag 0) (ae (ag 1) (ae (ag 2) ak))))))
  (aK (gIf (tOf (f2 dNe (fA dz (ae (ag 7) (ae (f2 b7 (ag 8) (ag 3)) ak))) (ag 9))) (bu (fC (.bl false))) bQ)
  (aK (r6 (cE (fA bN (ae (fC (.str "crown")) (ae (fC (.str "abbey")) (ae (fC (.str "mill")) ak))))) (tgN 10) AX)
  (bu (fC (.bl true))))))))))))))
def F_law:List D->Option (D×Bool):=aX AY 1 12
end Lw
namespace Lw
open PySem DL L2
theorem jV (ns:List Int) (k:Nat):aG [.lst (ns.map .int),.int k]=some (.int (ns.getD k 0),false):=by
 by_cases h:k<ns.length
 ·refine a8 rfl (cI (aM (b:=false) (by simp;omega)) (aI ?_))
  exact aD (x:=.lst (ns.map .int)) (y:=.int k) (b1:=false) (b2:=false) rfl rfl (by have:=sq (xs:=ns) (i:=k) (by omega) (by simpa using h);simpa using this)
 ·have z:ns.getD k 0=0:=by simp[List.getD_eq_getElem?_getD,List.getElem?_eq_none (Nat.not_lt.mp h)]
  rw[z]
  exact a8 rfl (bo (aM (b:=false) (by simp;omega)) (aI rfl))
theorem qB {c:FT}{g:FS}(I:Nat->DL.Env->Prop) (step:∀m ρ,I m ρ->c ρ=some false∨(c ρ=some true/\∃m' ρ',m=m'+1/\g ρ=some (.nx ρ')/\I m' ρ')):∀(n m:Nat) (ρ:DL.Env),m<n->I m ρ->∃m' ρ',f6 c g n ρ=some (.nx ρ')/\I m' ρ'
 | 0,m,ρ,h,_=>by omega
 | n+1,m,ρ,h,i=>by
  rw[f6]
  rcases step m ρ i with e|⟨e,m',ρ',rfl,e2,i'⟩
  ·exact⟨m,ρ,by rw[e],i⟩
  ·obtain⟨m2,ρ2,h1,h2⟩:=qB I step n m' ρ' (by omega) i'
   exact⟨m2,ρ2,by rw[e];dsimp only;rw[e2];exact h1,h2⟩
theorem zn (ns:List Int) (most:Nat) (hm:most<=900):∃cs:List Int,fR [.lst (ns.map .int),.int 5,.int most]=some (.lst (cs.map .int),true)/\cs.length<=most:=by
 have c1:=jV ns 1
 have c0:=jV ns 0
 let cs0:List Int:=AU ns (some 5) (some (5+most))
 have hl0:cs0.length<=most:=by
  show(AU ns (some 5) (some (5+most))).length<=most
  unfold AU
  rw[List.length_take,nL (by omega),nL (by omega)]
  omega
 have e0:fSl (ag 0) (eu (ag 1)) (eu (f2 b7 (ag 1) (ag 2))) [some (.lst (ns.map .int),false),some (.int 5,false),some (.int most,false),none,none]=some (.lst (cs0.map .int),true):=by
  simp[cs0,AV]
 obtain⟨m',ρ',hw,cs,num,rfl,hl,_⟩:=qB (c:=dM (tOf (f2 dEq (f2 c6 (f2 d9 (fA aG (ae (ag 0) (ae (fC (.int 0)) ak))) (fC (.int 21))) (fC (.int 8))) (fC (.int 5)))) (tOf (f2 dLt (fA dY (ae (ag 3) ak)) (ag 2)))) (g:=nX)
  (λm ρ=>∃(cs:List Int) (num:Int),ρ=[some (.lst (ns.map .int),false),some (.int 5,false),some (.int most,false),some (.lst (cs.map .int),true),some (.int num,false)]/\cs.length+m=most/\m<=most) (λm ρ hI=>by
   obtain⟨cs,num,rfl,hl,hm'⟩:=hI
   have t1:tOf (f2 dEq (f2 c6 (f2 d9 (fA aG (ae (ag 0) (ae (fC (.int 0)) ak))) (fC (.int 21))) (fC (.int 8))) (fC (.int 5))) [some (.lst (ns.map .int),false),some (.int 5,false),some (.int most,false),some (.lst (cs.map .int),true),some (.int num,false)]=some (decide (ns.getD 0 0 / 21 % 8=5)):=by
    refine aM (b:=false) (aD (x:=.int (ns.getD 0 0 / 21 % 8)) (y:=.int 5) (b1:=false) (b2:=false) (aD (x:=.int (ns.getD 0 0 / 21)) (y:=.int 8) (b1:=false) (b2:=false) (aD (x:=.int (ns.getD 0 0)) (y:=.int 21) (b1:=false) (b2:=false) (ai (ds:=[.lst (ns.map .int),.int 0]) rfl (by simpa using c0)) rfl (by simp[])) rfl (by simp)) rfl (by simp))
   have t2:tOf (f2 dLt (fA dY (ae (ag 3) ak)) (ag 2)) [some (.lst (ns.map .int),false),some (.int 5,false),some (.int most,false),some (.lst (cs.map .int),true),some (.int num,false)]=some (decide (cs.length<most)):=by simp
   by_cases h1:ns.getD 0 0 / 21 % 8=5
   ·by_cases h2:cs.length<most
    ·refine .inr ⟨by rw[dI (p:=true) (q:=true) (by rw[t1,decide_eq_true h1]) λ_=>by rw[t2,decide_eq_true h2]];rfl,m - 1,[some (.lst (ns.map .int),false),some (.int 5,false),some (.int most,false),some (.lst ((cs++[(num*48271+cs.length+1) % 2147483647]).map .int),true),some (.int ((num*48271+cs.length+1) % 2147483647),false)],by omega, ?_,cs++[(num*48271+cs.length+1) % 2147483647],_,rfl,by simp;omega,by omega⟩
     refine aT (d:=.int ((num*48271+cs.length+1) % 2147483647)) (b:=false) (by simp) rfl ?_
     rw[gQ (ds:=cs.map .int) (d:=.int ((num*48271+cs.length+1) % 2147483647)) (b:=false) rfl rfl rfl (bJ (by simp;omega))]
     simp
    ·exact .inl (by rw[dI (p:=true) (q:=false) (by rw[t1,decide_eq_true h1]) λ_=>by rw[t2,decide_eq_false h2]];rfl)
   ·exact .inl (by rw[dI (p:=false) (q:=false) (by rw[t1,decide_eq_false h1]) (by simp)];rfl)) 1000 (most - cs0.length) [some (.lst (ns.map .int),false),some (.int 5,false),some (.int most,false),some (.lst (cs0.map .int),true),some (.int (ns.getD 1 0 % 2147483647),false)] (by omega) ⟨cs0,_,rfl,by omega,by omega⟩
 refine⟨cs,a8 rfl (cB (ds:=cs0.map .int) e0 (by simp) (aT (d:=.int (ns.getD 1 0 % 2147483647)) (b:=false) ?_ rfl (d6 hw (jP rfl)))),by omega⟩
 exact aD (x:=.int (ns.getD 1 0)) (y:=.int 2147483647) (b1:=false) (b2:=false) (ai (ds:=[.lst (ns.map .int),.int 1]) rfl (by simpa using c1)) rfl (by simp)
theorem su (a b:Str):(a++b).length=a.length+b.length:=by
 show(a.cps++b.cps).size=_
 exact Array.size_append
theorem sv (a b:Str):(a++b).cps.toList=a.cps.toList++b.cps.toList:=by show(a.cps++b.cps).toList=_;simp
def wI (z:Str):Prop:=z.cps.toList.head? = some 103∨(z.cps.toList.tail=[]∨z.cps.toList.tail.head? = some 109)
theorem CH:∀i j:Fin 12,("bqcxdlenhusv" : Str).cps.toList.getD i.val 0=("bqcxdlenhusv" : Str).cps.toList.getD j.val 0->i=j:=by decide +kernel
theorem CI (i j:Nat) (hi:i<12) (hj:j<12) (h:("bqcxdlenhusv" : Str).cps.toList.getD i 0=("bqcxdlenhusv" : Str).cps.toList.getD j 0):i=j:=congrArg Fin.val (CH ⟨i,hi⟩ ⟨j,hj⟩ h)
theorem nZ:∀s:Fin 9,∀a:Fin 9,0<s.val->a.val<s.val->((Txt.slice (Txt.slice ("gmtazkfw" : Str) none (some (s.val:Int))) none (some (a.val:Int))).cps.toList.head? = some 103∨((Txt.slice (Txt.slice ("gmtazkfw" : Str) none (some (s.val:Int))) none (some (a.val:Int))).cps.toList=[]/\((Txt.slice (Txt.slice ("gmtazkfw" : Str) none (some (s.val:Int))) (some ((a.val:Int)+1)) none).cps.toList=[]∨(Txt.slice (Txt.slice ("gmtazkfw" : Str) none (some (s.val:Int))) (some ((a.val:Int)+1)) none).cps.toList.head? = some 109))):=by decide +kernel
theorem wJ (s a:Nat) (h1:0<s/\s<9) (h2:a<s):(Txt.slice (Txt.slice ("gmtazkfw" : Str) none (some (s:Int))) none (some (a:Int))).cps.toList.head? = some 103∨((Txt.slice (Txt.slice ("gmtazkfw" : Str) none (some (s:Int))) none (some (a:Int))).cps.toList=[]/\((Txt.slice (Txt.slice ("gmtazkfw" : Str) none (some (s:Int))) (some ((a:Int)+1)) none).cps.toList=[]∨(Txt.slice (Txt.slice ("gmtazkfw" : Str) none (some (s:Int))) (some ((a:Int)+1)) none).cps.toList.head? = some 109)) :=
 nZ ⟨s,h1.2⟩ ⟨a,by omega⟩ h1.1 h2
theorem io (c:Int) (n:Nat) (hn:n<=12):∃zs:List Str,i6 [.int c,.int n]=some (.lst (zs.map .str),true)/\zs.length=n/\zs.Nodup/\∀z∈zs,wI z:=by
 have h8:=mod_lt (x:=c) (m:=8) (by decide)
 obtain⟨sz,hsz⟩:∃sz:Int,1+c % 8=sz:=⟨_,rfl⟩
 have hs0:0<sz:=by omega
 have hs1:sz<1073741824:=by omega
 obtain⟨base,hbase⟩:∃base:Str,Txt.slice ("gmtazkfw" : Str) none (some sz)=base:=⟨_,rfl⟩
 have hb8:base.length<=8:=by rw[←hbase];exact Nat.le_trans (Txt.slice_le _ _ _) (by decide +kernel)
 obtain⟨aa,haa⟩:∃aa:Int,c / 8 % sz=aa:=⟨_,rfl⟩
 obtain⟨b1,hb1⟩:∃b1:Str,Txt.slice base none (some aa)=b1:=⟨_,rfl⟩
 obtain⟨b2,hb2⟩:∃b2:Str,Txt.slice base (some (aa+1)) none=b2:=⟨_,rfl⟩
 have l1:b1.length<=8:=by rw[←hb1];exact Nat.le_trans (Txt.slice_le _ _ _) hb8
 have l2:b2.length<=8:=by rw[←hb2];exact Nat.le_trans (Txt.slice_le _ _ _) hb8
 let ltr:Nat->Str:=λk=>⟨#[("bqcxdlenhusv" : Str).cps.toList.getD ((c / 64+5*k) % 12).toNat 0]⟩
 let nm:Nat->Str:=λk=>b1++ltr k++b2
 have ln:∀k,(nm k).length<=20:=λk=>by
  show(b1++ltr k++b2).length<=20
  rw[su,su]
  have:(ltr k).length=1:=rfl
  omega
 obtain⟨ρ',e,v6,v7,rfl⟩:=nE (tg:=tgN 6) (g:=nW) n (λi ρ=>∃v6 v7:Option (D×Bool),ρ=[some (.int c,false),some (.int n,false),some (.int sz,false),some (.str base,false),some (.int aa,false),some (.lst (((List.range i).map nm).map .str),true),v6,v7])
  [some (.int c,false),some (.int n,false),some (.int sz,false),some (.str base,false),some (.int aa,false),some (.lst [],true),none,none] ⟨none,none,rfl⟩ (by
   rintro i ρ hi ⟨v6,v7,rfl⟩
   have h12:=mod_lt (x:=c / 64+5*(i:Int)) (m:=12) (by decide)
   have hi2 : -18446744073709551616<(i:Int)/\(i:Int)<18446744073709551616:=by omega
   refine⟨_,_,rfl,.inl (aT (d:=.str (ltr i)) (b:=false) ?_ rfl (gQ (ds:=((List.range i).map nm).map .str) (d:=.str (nm i)) (b:=false) rfl ?_ rfl (bJ (by simp;omega)))),some (.int i,false),some (.str (ltr i),false), ?_⟩
   ·refine aD (x:=.str "bqcxdlenhusv") (y:=.int ((c / 64+5*i) % 12)) (b1:=false) (b2:=false) rfl (by simp) ?_
    exact DL.vY h12.1 (by rw[show("bqcxdlenhusv" : Str).cps.size=12 by decide +kernel];omega) (by decide +kernel)
   ·refine aD (x:=.str (b1++ltr i)) (y:=.str b2) (b1:=false) (b2:=false) (aD (x:=.str b1) (y:=.str (ltr i)) (b1:=false) (b2:=false) ?_ rfl ?_) ?_ ?_
    ·simp[hb1];exact bC (by omega)
    ·simp;exact bC (by have:(ltr i).length=1:=rfl;omega)
    ·simp[hb2];exact bC (by omega)
    ·have hh:(b1++ltr i).length+b2.length<=sizeLine:=bC (by rw[su];have:(ltr i).length=1:=rfl;omega)
     show b7 (.str (b1++ltr i)) (.str b2)=some (.str (b1++ltr i++b2),false)
     simp only[b7,if_pos hh]
   ·simp[List.range_succ])
 refine⟨(List.range n).map nm,a8 rfl (aT (d:=.int sz) (b:=false) (by simp[hsz]) rfl (aT (d:=.str base) (b:=false) ?_ rfl (aT (d:=.int aa) (b:=false) (by simp[hs0,hs1,haa]) rfl (cB (ds:=[]) (by simp[sizeLine]) (by simp) (d6 (jQ (kO (j:=n) (b:=false) (by simp) (by omega)) e) (jP rfl)))))),by simp, ?_, ?_⟩
 ·simp[hbase];decide +kernel
 ·refine List.pairwise_map.mpr (List.Pairwise.imp_of_mem (R:=λa b=>a≠b) (λ{i j} hi hj hne e=>hne ?_) (List.nodup_range (n:=n)))
  have hi:=List.mem_range.mp hi
  have hj:=List.mem_range.mp hj
  have e:b1++ltr i++b2=b1++ltr j++b2:=e
  have e:=congrArg (λs:Str=>s.cps.toList) e
  simp only[sv]at e
  have e:=List.append_cancel_left (List.append_cancel_right e)
  have e:([("bqcxdlenhusv" : Str).cps.toList.getD ((c / 64+5*(i:Int)) % 12).toNat 0]:List Nat)=[("bqcxdlenhusv" : Str).cps.toList.getD ((c / 64+5*(j:Int)) % 12).toNat 0]:=e
  have h1:=mod_lt (x:=c / 64+5*(i:Int)) (m:=12) (by decide)
  have h2:=mod_lt (x:=c / 64+5*(j:Int)) (m:=12) (by decide)
  have:=CI ((c / 64+5*(i:Int)) % 12).toNat ((c / 64+5*(j:Int)) % 12).toNat (by omega) (by omega) (List.cons.inj e).1
  omega
 ·intro z hz
  obtain⟨k,_,rfl⟩:=List.mem_map.mp hz
  show wI (b1++ltr k++b2)
  have ha:=mod_lt (x:=c / 8) (m:=sz) hs0
  have hp:=wJ sz.toNat aa.toNat (by omega) (by omega)
  rw[show((sz.toNat:Nat):Int)=sz by omega,show((aa.toNat:Nat):Int)=aa by omega,hbase,hb1,hb2]at hp
  unfold wI
  rw[sv,sv]
  rcases hp with h|⟨h1,h2⟩
  ·left
   cases hb:b1.cps.toList with
   | nil=>rw[hb]at h;cases h
   | cons x r=>rw[hb]at h;exact h
  ·right
   rw[h1]
   exact h2
end Lw
namespace DL
open PySem L2
theorem dh:∀(n m:Nat) (d:D),n<=m->aj n d=true->aj m d=true
 | n,m,.non,_,_=>by simp
 | n,m,.bl _,_,_=>by simp
 | n,m,.int _,_,_=>by simp
 | n,m,.str _,_,_=>by simp
 | n,m,.ty _,_,h=>by cases n<;>simp[aj]at h
 | n,m,.dk _ _,_,h=>by simp at h
 | n,m,.dt _ _,_,h=>by simp at h
 | 0,m,.tup _,_,h=>by simp[aj]at h
 | 0,m,.lst _,_,h=>by simp[aj]at h
 | n+1,0,_,h,_=>by omega
 | n+1,m+1,.tup ds,hl,h=>by
  simp only[aj,List.all_eq_true]at h ⊢
  exact λd hd=>dh n m d (by omega) (h d hd)
 | n+1,m+1,.lst ds,hl,h=>by
  simp only[aj,List.all_eq_true]at h ⊢
  exact λd hd=>dh n m d (by omega) (h d hd)
theorem kT:∀(ds:List D),(∀d∈ds,eqD d d=true)->cW ds ds=true
 | [],_=>by simp only[cW]
 | d::ds,h=>by
  simp only[cW,h d mX,Bool.true_and]
  exact kT ds λe he=>h e (mZ _ he)
theorem oe:∀(n:Nat) (d:D),aj n d=true->eqD d d=true
 | n,.non,_=>by simp
 | n,.bl _,_=>by simp
 | n,.int _,_=>by simp
 | n,.str _,_=>by simp
 | n,.ty _,h=>by cases n<;>simp[aj]at h
 | n,.dk _ _,h=>by simp at h
 | n,.dt _ _,h=>by simp at h
 | 0,.tup _,h=>by simp[aj]at h
 | 0,.lst _,h=>by simp[aj]at h
 | n+1,.tup ds,h=>by
  simp only[aj,List.all_eq_true]at h
  simp only[eqD]
  exact kT ds λd hd=>oe n d (h d hd)
 | n+1,.lst ds,h=>by
  simp only[aj,List.all_eq_true]at h
  simp only[eqD]
  exact kT ds λd hd=>oe n d (h d hd)
end DL
namespace Lw
open PySem DL L2
theorem at0 (d:D) (r:List D):atI (d::r) 0=some d:=by have:=gP (xs:=d::r) (j:=0) (by simp);simpa using this
theorem at1 (d e:D) (r:List D):atI (d::e::r) 1=some e:=by have:=gP (xs:=d::e::r) (j:=1) (by simp);simpa using this
theorem at2 (d e f:D) (r:List D):atI (d::e::f::r) 2=some f:=by have:=gP (xs:=d::e::f::r) (j:=2) (by simp);simpa using this
def bV (k:Str):Bool:=decide (k=("death" : Str)) || decide (k=("lost" : Str)) || decide (k=("found" : Str))
def cL (k:Str):Bool:=decide (k=("chosen" : Str)) || decide (k=("heir" : Str)) || decide (k=("leave" : Str)) || decide (k=("paper" : Str)) || decide (k=("like" : Str)) || decide (k=("copy" : Str)) || decide (k=("call" : Str))
structure DeedP (kind:Str) (a0:List D):Prop where
 flat:br a0=true
 plain:a0.all (aj 5)=true
 three:bV kind=true->∃(day:Int) (p:Str),a0=[.int day,.str p]
 slg:cL kind=true->∃(day:Int) (p:Str) (r:List D),a0=.int day::.str p::r
def row (h:Int) (kind:Str) (a0:List D):D:=.tup [.int h,.tup (.str kind::a0)]
def kU (r:D):Prop:=∃h kind a0,r=row h kind a0/\DeedP kind a0
theorem kU.flat {r:D}(h:kU r):ba r=true:=by obtain⟨a,k,a0,rfl,dp⟩:=h;simp[row,dp.flat]
theorem kU.plain {r:D}(h:kU r):aj 39 r=true:=by
 obtain⟨a,k,a0,rfl,dp⟩:=h
 refine dh 7 39 _ (by decide) ?_
 have:=dp.plain
 simp only[row,aj,List.all_cons,List.all_nil,Bool.and_true,Bool.true_and]
 exact this
theorem cM {ds:List D}(h:∀d∈ds,ba d=true):br ds=true:=by
 induction ds with
 | nil=>rfl
 | cons d r ih=>simp[h d (by simp),ih λe he=>h e (by simp[he])]
theorem dS (zs:List Str):br (zs.map D.str)=true:=by
 induction zs with
 | nil=>rfl
 | cons a l ih=>simp[ih]
def cC:D->Int
 | .tup (.int h::_)=>h
 | _=>0
def kindOf:D->Str
 | .tup [_,.tup (.str k::_)]=>k
 | _=>("" : Str)
def a7:D->Int
 | .tup [_,.tup (_::.int d::_)]=>d
 | _=>0
def lM (p:Str) (day:Int):List D->Bool
 | [.int d,.str q]=>decide (q=p) && decide (d<=day)
 | _=>false
def told (ws:List Str) (p:Str) (day:Int):D->Bool
 | .tup [_,.tup (.str kind::a0)]=>decide (kind∈ws) && lM p day a0
 | _=>false
theorem fu (h:Int) (kind:Str) (a0:List D):aE [row h kind a0]=some (.str kind,false):=a8 rfl (aI (by simp[row,at1,at0]))
theorem gV {k:Str}(h:bV k=true):k=("death" : Str)∨k=("lost" : Str)∨k=("found" : Str):=by
 unfold bV at h
 simp only[Bool.or_eq_true,decide_eq_true_eq]at h
 rcases h with (h|h)|h
 ·exact .inl h
 ·exact .inr (.inl h)
 ·exact .inr (.inr h)
theorem jn {k:Str}(h:cL k=true):k=("chosen" : Str)∨k=("heir" : Str)∨k=("leave" : Str)∨k=("paper" : Str)∨k=("like" : Str)∨k=("copy" : Str)∨k=("call" : Str):=by
 unfold cL at h
 simp only[Bool.or_eq_true,decide_eq_true_eq]at h
 rcases h with (((((h|h)|h)|h)|h)|h)|h
 ·exact .inl h
 ·exact .inr (.inl h)
 ·exact .inr (.inr (.inl h))
 ·exact .inr (.inr (.inr (.inl h)))
 ·exact .inr (.inr (.inr (.inr (.inl h))))
 ·exact .inr (.inr (.inr (.inr (.inr (.inl h)))))
 ·exact .inr (.inr (.inr (.inr (.inr (.inr h)))))
theorem CJ {k:Str}(h:bV k=true∨cL k=true):pw fm (.str k) (.str "day")=some (.int 0,false):=by
 rcases h with h|h
 ·rcases gV h with rfl|rfl|rfl<;>exact bj (by decide +kernel)
 ·rcases jn h with rfl|rfl|rfl|rfl|rfl|rfl|rfl<;>exact bj (by decide +kernel)
theorem wK {k:Str}(h:bV k=true):pw fm (.str k) (.str "person")=some (.int 1,false):=by
 rcases gV h with rfl|rfl|rfl<;>exact bj (by decide +kernel)
theorem AZ {k:Str}(h:bV k=true∨cL k=true):dEq (.str k) (.str "root")=some (.bl false,false):=by
 rcases h with h|h
 ·rcases gV h with rfl|rfl|rfl<;>exact bj (by decide +kernel)
 ·rcases jn h with rfl|rfl|rfl|rfl|rfl|rfl|rfl<;>exact bj (by decide +kernel)
theorem bq {h:Int}{k:Str}{a0:List D}{part:Str}{i:Nat}{d:D}(hi:pw fm (.str k) (.str part)=some (.int i,false)) (hd:a0[i]? = some d):av [row h k a0,.str part]=some (d,false):=by
 refine a8 rfl (aI ?_)
 refine aD (x:=.tup (.str k::a0)) (y:=.int (1+i)) (b1:=false) (b2:=false) (by simp[row,at1]) (aD (x:=.int 1) (y:=.int i) (b1:=false) (b2:=false) rfl (aD (x:=.str k) (y:=.str part) (b1:=false) (b2:=false) (ai (ds:=[row h k a0]) rfl (fu _ _ _)) rfl hi) (by simp)) ?_
 have hlt:i<a0.length:=(List.getElem?_eq_some_iff.mp hd).1
 have:atI (.str k::a0) (1+(i:Int))=some d:=by
  have:=gP (xs:=(.str k:D)::a0) (j:=i+1) (by simp;omega)
  rw[show(1+(i:Int))=((i+1:Nat):Int) by omega,this]
  simp only[List.getElem_cons_succ]
  rw[List.getElem?_eq_getElem hlt]at hd
  exact hd
 simp[this]
theorem fT {h:Int}{k:Str}{a0:List D}{d:Int}{r:List D}(hk:bV k=true∨cL k=true) (hr:a0=.int d::r):aO [row h k a0]=some (.int d,false):=by
 subst hr
 refine a8 rfl (bo (aM (b:=false) (aD (x:=.str k) (y:=.str "root") (b1:=false) (b2:=false) (ai (ds:=[row h k (.int d::r)]) rfl (fu _ _ _)) rfl (AZ hk))) (aI (ai (ds:=[row h k (.int d::r),.str "day"]) rfl (bq (i:=0) (CJ hk) rfl))))
theorem oh (k:Str) (ws:List Str):inD (.str k) (ws.map .str)=decide (k∈ws):=by
 induction ws with
 | nil=>simp[inD]
 | cons w ws ih =>
  have:inD (.str k) ((w::ws).map .str)=(eqD (.str w) (.str k) || inD (.str k) (ws.map .str)):=rfl
  rw[this,ih,lD]
  by_cases e:w=k
  ·simp[e]
  ·have e':¬k=w:=λz=>e z.symm
   simp[e,e']
theorem kW (ws:List Str):(ws.map D.str).all eA=true:=by
 induction ws with
 | nil=>rfl
 | cons w ws ih=>simp[eA]
theorem uR (k:Str) (ws:List Str):dIn (.str k) (.tup (ws.map .str))=some (.bl (decide (k∈ws)),false):=by
 simp only[dIn,fg,Option.bind_some,oh]
 rw[if_pos ⟨rfl,kW ws⟩]
theorem Ba {r:D}(hr:kU r) (ws:List Str) (hw:∀w∈ws,bV w=true) (p:Str) (day:Int):jS [r,.tup (ws.map .str),.str p,.int day]=some (.bl (told ws p day r),false):=by
 obtain⟨h,kind,a0,rfl,dp⟩:=hr
 have hin:f2 dIn (fA aE (ae (ag 0) ak)) (ag 1) [some (row h kind a0,false),some (.tup (ws.map .str),false),some (.str p,false),some (.int day,false)]=some (.bl (decide (kind∈ws)),false) :=
  aD (x:=.str kind) (y:=.tup (ws.map .str)) (b1:=false) (b2:=false) (ai (ds:=[row h kind a0]) rfl (fu _ _ _)) rfl (uR kind ws)
 have ht:told ws p day (row h kind a0)=(decide (kind∈ws) && lM p day a0):=rfl
 rw[ht]
 refine a8 rfl (aI (kP (b1:=false) hin λhk=>?_))
 have h3:=hw kind (of_decide_eq_true hk)
 obtain⟨d,q,rfl⟩:=dp.three h3
 show mN _ _ _=some (.bl (decide (q=p) && decide (d<=day)),false)
 refine kP (b1:=false) ?_ λ_=>?_
 ·exact aD (x:=.str q) (y:=.str p) (b1:=false) (b2:=false) (ai (ds:=[row h kind [.int d,.str q],.str "person"]) rfl (bq (i:=1) (wK h3) rfl)) rfl (by simp)
 ·exact aD (x:=.int d) (y:=.int day) (b1:=false) (b2:=false) (ai (ds:=[row h kind [.int d,.str q]]) rfl (fT (.inl h3) rfl)) rfl (by simp)
theorem oi (ds:List D):jD ds=ds.zipIdx.map λx=>.tup [.int x.2,x.1]:=by
 unfold jD
 apply List.ext_getElem?
 intro i
 simp[List.getElem?_mapIdx,List.getElem?_zipIdx]
 cases ds[i]?<;>simp
def aw (rows:List D) (known:Int):List (D×Nat):=rows.zipIdx.filter λx=>decide (cC x.1<=known)
theorem oj (rows:List D) (hr:∀r∈rows,kU r) (hl:rows.length<=1000) (known:Int):cm [.tup rows,.int known]=some (.lst ((aw rows known).map λx=>.int x.2),true):=by
 have hc:=lG (fi:=xI (ag 0)) (nT:=2) (cap:=[1]) (tg:=tgT [0,1]) (c:=tOf (f2 dLe (f2 ixD (ag 1) (fC (.int 0))) (ag 2))) (fe:=ag 0) (ρ:=[some (.tup rows,false),some (.int known,false)]) rows.zipIdx (λx=>.tup [.int x.2,x.1]) (λx=>decide (cC x.1<=known)) (λx=>.int x.2)
  (by simp[oi]) (by simp;omega) λx hx=>by
   obtain⟨h,kind,a0,e,_⟩:=hr x.1 (List.fst_mem_of_mem_zipIdx hx)
   refine⟨_,rfl,aM (b:=false) ?_,λ_=>⟨false,by simp[bM]⟩⟩
   simp[bM,e,row,at0,cC]
 exact a8 rfl (aI hc)
def mn (rows:List D) (known:Int) (ws:List Str) (p:Str) (day:Int):List (D×Nat):=(aw rows known).filter λx=>told ws p day x.1
theorem yj {rows:List D}{known:Int}{ws:List Str}{p:Str}{day:Int}{x:D×Nat}(h:x∈mn rows known ws p day):rows[x.2]? = some x.1/\told ws p day x.1=true:=by
 obtain⟨h1,h2⟩:=List.mem_filter.mp h
 exact⟨(List.mk_mem_zipIdx_iff_getElem? (x:=x.1) (i:=x.2)).mp (List.mem_filter.mp h1).1,h2⟩
theorem jo {rows:List D}{i:Nat}{r:D}(h:rows[i]? = some r):atI rows (i:Int)=some r:=by
 obtain⟨hlt,e⟩:=List.getElem?_eq_some_iff.mp h
 rw[gP hlt,e]
theorem CK (rows:List D) (known:Int) (ws:List Str) (p:Str) (day:Int):(mn rows known ws p day).length<=rows.length:=by
 have h1:=List.length_filter_le (λx:D×Nat=>told ws p day x.1) (aw rows known)
 have h2:=List.length_filter_le (λx:D×Nat=>decide (cC x.1<=known)) rows.zipIdx
 rw[List.length_zipIdx]at h2
 exact Nat.le_trans h1 h2
theorem sw (rows:List D) (hr:∀r∈rows,kU r) (hl:rows.length<=1000) (known:Int) (ws:List Str) (hw:∀w∈ws,bV w=true) (p:Str) (day:Int) :
  cR [.tup rows,.int known,.tup (ws.map .str),.str p,.int day]=some (.lst ((mn rows known ws p day).map λx=>.int x.2),true):=by
 have hc:=lG (fi:=cE (fA cm (ae (ag 0) (ae (ag 1) ak)))) (nT:=1) (cap:=[2,3,4,0]) (tg:=tgN 0) (c:=tOf (fA jS (ae (f2 ixD (ag 4) (ag 0)) (ae (ag 1) (ae (ag 2) (ae (ag 3) ak)))))) (fe:=ag 0)
  (ρ:=[some (.tup rows,false),some (.int known,false),some (.tup (ws.map .str),false),some (.str p,false),some (.int day,false)]) (aw rows known) (λx=>.int x.2) (λx=>told ws p day x.1) (λx=>.int x.2)
  (by
   show(fA cm (ae (ag 0) (ae (ag 1) ak)) _).bind _=_
   rw[ai (ds:=[.tup rows,.int known]) rfl (oj rows hr hl known)]
   rfl) (by have:=List.length_filter_le (λx:D×Nat=>decide (cC x.1<=known)) rows.zipIdx;rw[List.length_zipIdx]at this;exact Nat.le_trans this (by omega)) λx hx=>by
   have hg:rows[x.2]? = some x.1:=(List.mk_mem_zipIdx_iff_getElem? (x:=x.1) (i:=x.2)).mp (List.mem_filter.mp hx).1
   refine⟨_,rfl,aM (b:=false) (ai (ds:=[x.1,.tup (ws.map .str),.str p,.int day]) ?_ (Ba (hr _ (List.mem_of_getElem? hg)) ws hw p day)),λ_=>⟨false,by simp[bM]⟩⟩
   have ha:=jo hg
   simp[bM,ha]
 exact a8 rfl (aI hc)
def kA (x:D×Nat):List At:=[.i (a7 x.1),.i x.2]
def d7 (a b:D×Nat):Bool:=decide (a7 a.1<a7 b.1∨(a7 a.1=a7 b.1/\(a.2:Int)<b.2))
def cn:D×Nat->List (D×Nat)->D×Nat
 | b,[]=>b
 | b,x::r=>if d7 b x=true then cn x r else cn b r
def DU:List (D×Nat)->Option (D×Nat)
 | []=>none
 | x::r=>some (cn x r)
theorem zo (a b c d:Int):aW [.i a,.i b] [.i c,.i d]=some (decide (a<c∨(a=c/\b<d))):=by
 rw[aW]
 by_cases h:a=c
 ·rw[if_pos h,aW]
  by_cases h2:b=d
  ·rw[if_pos h2,aW];simp[h,h2]
  ·rw[if_neg h2];simp[h]
 ·rw[if_neg h];simp[h]
theorem om (a b:D×Nat):aW (kA a) (kA b)=some (d7 a b):=zo _ _ _ _
theorem sx (l:List (D×Nat)):cY (l.map kA)=true:=by
 unfold cY
 simp[List.all_eq_true,om]
theorem kX:∀(r:List (D×Nat)) (b:D×Nat),jM (kA b,.int b.2) (r.map λx=>(kA x,D.int x.2))=.int (cn b r).2
 | [],b=>rfl
 | x::r,b=>by
  rw[List.map_cons,jM,cn]
  show(if aW (kA b) (kA x)=some true then _ else _)=_
  rw[om]
  by_cases h:d7 b x=true
  ·rw[if_pos h,if_pos (by rw[h])];exact kX r x
  ·rw[if_neg h,if_neg (by simpa using h)];exact kX r b
theorem jW:∀(r:List (D×Nat)) (b:D×Nat),cn b r∈b::r
 | [],b=>by simp[cn]
 | x::r,b=>by
  rw[cn]
  split
  ·exact mZ _ (jW r x)
  ·rcases List.mem_cons.mp (jW r b)with h|h
   ·rw[h];exact mX
   ·exact mZ _ (mZ _ h)
theorem fU {α:Type}{f:D->Option D}{g h:α->D}:∀(l:List α),(∀x∈l,f (g x)=some (h x))->gA f (l.map g)=some (l.map h)
 | [],_=>rfl
 | x::l,hx=>by
  rw[List.map_cons,gA,hx x mX,Option.bind_some,fU l λy hy=>hx y (mZ _ hy)]
  rfl
theorem eI {α:Type}{g:α->D}{h:α->List At}:∀(l:List α),(∀x∈l,jK (g x)=some (h x))->cA (l.map g)=some (l.map h)
 | [],_=>rfl
 | x::l,hx=>by
  rw[List.map_cons,cA,hx x mX,Option.bind_some,eI l λy hy=>hx y (mZ _ hy)]
  rfl
def g7:List Str:=[("lost" : Str),("found" : Str)]
theorem lN:∀w∈g7,bV w=true:=by
 intro w hw
 rcases List.mem_cons.mp hw with rfl|hw
 ·decide +kernel
 ·rcases List.mem_cons.mp hw with rfl|hw
  ·decide +kernel
  ·cases hw
def uS (rows:List D) (known:Int) (p:Str) (day:Int):Bool:=match DU (mn rows known g7 p day) with
 | none=>true
 | some b=>decide (kindOf b.1=("found" : Str))
theorem oq {ws:List Str}(hw:∀w∈ws,bV w=true) {p:Str}{day:Int}{r:D}(hr:kU r) (ht:told ws p day r=true):∃h k d,r=row h k [.int d,.str p]/\bV k=true/\k∈ws/\d<=day:=by
 obtain⟨h,kind,a0,rfl,dp⟩:=hr
 have ht':(decide (kind∈ws) && lM p day a0)=true:=ht
 rw[Bool.and_eq_true]at ht'
 have hm:=of_decide_eq_true ht'.1
 obtain⟨d,q,rfl⟩:=dp.three (hw _ hm)
 have hq:(decide (q=p) && decide (d<=day))=true:=ht'.2
 rw[Bool.and_eq_true]at hq
 have:=of_decide_eq_true hq.1
 subst this
 exact⟨h,kind,d,rfl,hw _ hm,hm,of_decide_eq_true hq.2⟩
theorem yk {rows:List D}{i:Nat}{h d:Int}{k p:Str}(hg:rows[i]? = some (row h k [.int d,.str p])) (h3:bV k=true):de [.tup rows,.int i]=some (.tup [.int d,.int i],false):=by
 have ha:=jo hg
 refine a8 rfl (aI (ai (ds:=[.int d,.int i]) (ar (d:=.int d) (b:=false) (ai (ds:=[row h k [.int d,.str p]]) (by simp[ha]) (fT (.inl h3) rfl)) rfl) (by simp[sizeLine])))
theorem CL (rows:List D) (hr:∀r∈rows,kU r) (hl:rows.length<=1000) (known:Int) (p:Str) (day:Int):gn [.tup rows,.int known,.str p,.int day]=some (.bl (uS rows known p day),false):=by
 have ht:=sw rows hr hl known g7 lN p day
 have hsl:=CK rows known g7 p day
 have key:∀x∈mn rows known g7 p day,∃h k d,rows[x.2]? = some (row h k [.int d,.str p])/\x.1=row h k [.int d,.str p]/\bV k=true:=λx hx=>by
  obtain⟨hg,htl⟩:=yj hx
  obtain⟨h,k,d,e,h3,_⟩:=oq lN (hr _ (List.mem_of_getElem? hg)) htl
  exact⟨h,k,d,by rw[hg,e],e,h3⟩
 unfold uS
 generalize hsel:mn rows known g7 p day=sel at ht key hsl ⊢
 have hset:fA cR (ae (ag 0) (ae (ag 1) (ae (fA aQ (ae (fC (.str "lost")) (ae (fC (.str "found")) ak))) (ae (ag 2) (ae (ag 3) ak))))) [some (.tup rows,false),some (.int known,false),some (.str p,false),some (.int day,false),none]=some (.lst (sel.map λx=>.int x.2),true) :=
  ai (ds:=[.tup rows,.int known,.tup (g7.map .str),.str p,.int day]) (by simp[g7,sizeLine]) ht
 have hnl:br (sel.map λx=>D.int x.2)=true:=cM λd hd=>by obtain⟨x,_,rfl⟩:=List.mem_map.mp hd;rfl
 cases sel with
 | nil=>exact a8 rfl (cB hset hnl (cI (aM (b:=false) (by simp)) (aI rfl)))
 | cons x r =>
  refine a8 rfl (cB hset hnl (bo (aM (b:=false) (by simp;omega)) (aI ?_)))
  obtain⟨h,k,d,hg,e,h3⟩:=key (cn x r) (jW r x)
  have hb:kindOf (cn x r).1=k:=by rw[e];rfl
  show _=some (D.bl (decide (kindOf (cn x r).1=("found" : Str))),false)
  rw[hb]
  refine aD (x:=.str k) (y:=.str "found") (b1:=false) (b2:=false) (ai (ds:=[row h k [.int d,.str p]]) (ar (d:=row h k [.int d,.str p]) (b:=false) (aD (x:=.tup rows) (y:=.int (cn x r).2) (b1:=false) (b2:=false) rfl ?_ (by simp[jo hg])) rfl) (fu _ _ _)) rfl (by simp)
  have hm:∀ρ:DL.Env,ρ[0]? = some (some (.tup rows,false))->gA (u8 [0] (fA de (ae (ag 1) (ae (ag 0) ak))) ρ) ((x::r).map λx=>D.int x.2)=some ((x::r).map λx=>.tup [.int (a7 x.1),.int x.2]):=λρ h0 =>
   fU (x::r) λy hy=>by
    obtain⟨h,k,d,hg,e,h3⟩:=key y hy
    have hd:a7 y.1=d:=by rw[e];rfl
    rw[hd]
    show(fA de _ _).map _=_
    rw[ai (ds:=[.tup rows,.int y.2]) (by simp[bM,h0]) (yk hg h3)]
    rfl
  have hk:cA ((x::r).map λx=>D.tup [.int (a7 x.1),.int x.2])=some ((x::r).map kA):=eI (x::r) λy _=>rfl
  have hz:((x::r).map kA).zip ((x::r).map λx=>D.int x.2)=(kA x,.int x.2)::r.map λx=>(kA x,D.int x.2):=by
   rw[List.zip_map']
   rfl
  show(qi (ag 4) _ _)=_
  unfold qi fKK
  show((some (D.lst ((x::r).map λx=>D.int x.2),false)).bind _)=_
  simp only[Option.bind_some]
  rw[hm _ rfl]
  simp only[Option.bind_some]
  rw[hk]
  simp only[Option.bind_some]
  rw[if_pos (sx _),hz]
  simp only[kX]
def cq:List Str:=[("death" : Str)]
theorem gs:∀w∈cq,bV w=true:=by
 intro w hw
 rcases List.mem_cons.mp hw with rfl|hw
 ·decide +kernel
 ·cases hw
def kY (rows:List D) (known:Int) (p:Str) (day:Int):Bool:=(mn rows known cq p day).isEmpty
theorem uT (rows:List D) (hr:∀r∈rows,kU r) (hl:rows.length<=1000) (known:Int) (p:Str) (day:Int):gm [.tup rows,.int known,.str p,.int day]=some (.bl (kY rows known p day),false):=by
 have ht:=sw rows hr hl known cq gs p day
 unfold kY
 generalize mn rows known cq p day=sel at ht ⊢
 refine a8 rfl (aI (aD (x:=.int ((sel.map λx=>D.int x.2).length:Nat)) (y:=.int 0) (b1:=false) (b2:=false) ?_ rfl ?_))
 ·exact ai (ds:=[.lst (sel.map λx=>.int x.2)]) (ar (d:=.lst (sel.map λx=>.int x.2)) (b:=true) (ai (ds:=[.tup rows,.int known,.tup (cq.map .str),.str p,.int day]) (by simp[sizeLine,cq]) ht) rfl) CG
 ·rw[yc]
  cases sel<;>simp
  omega
def uU:D->Str
 | .tup [_,.tup (_::_::.str p::_)]=>p
 | _=>("" : Str)
def ym:List Str:=[("chosen" : Str),("heir" : Str),("leave" : Str),("paper" : Str),("like" : Str),("copy" : Str),("call" : Str)]
theorem wL (k:Str):cL k=decide (k∈ym):=by
 unfold cL ym
 simp[List.mem_cons,Bool.or_assoc]
theorem wM:dC=.tup (ym.map .str):=rfl
theorem lO (k:Str) (ws:List Str):eM (.str k) (.tup (ws.map .str))=some (.bl (!decide (k∈ws)),false):=by
 simp only[eM,fg,Option.bind_some,oh]
 rw[if_pos ⟨rfl,kW ws⟩]
theorem Fh {k:Str}(h:cL k=true):pw fm (.str k) (.str "by")=some (.int 1,false):=by
 rcases jn h with rfl|rfl|rfl|rfl|rfl|rfl|rfl<;>exact bj (by decide +kernel)
def sy (rows:List D) (known:Int) (r:D):Bool:=(decide (cC r<=known) && cL (kindOf r)) && (kY rows known (uU r) (a7 r) && uS rows known (uU r) (a7 r))
theorem Bb {rows:List D}{i:Nat}{h:Int}{kind:Str}{a0:List D}(hg:rows[i]? = some (row h kind a0)) (known:Int):eR [.tup rows,.int known,.int i]=some (.bl (decide (h<=known)),false):=by
 have hlt:i<rows.length:=(List.getElem?_eq_some_iff.mp hg).1
 have ha:=jo hg
 refine a8 rfl (aI ?_)
 have:=kP (f1:=k8 dLe dLt (fC (.int 0)) (ag 2) (fA dY (ae (ag 0) ak))) (f2:=f2 dLe (f2 ixD (f2 ixD (ag 0) (ag 2)) (fC (.int 0))) (ag 1)) (ρ:=[some (.tup rows,false),some (.int known,false),some (.int i,false)]) (p:=true) (q:=decide (h<=known)) (b1:=false)
  (by
   refine(AT (x:=.int 0) (y:=.int i) (z:=.int rows.length) (b1:=false) (b2:=false) (b3:=false) (b4:=false) (p:=true) (q:=true) rfl rfl (by simp) (by simp) λ_=>?_).trans rfl
   simp;omega) λ_=>by simp[ha,row,at0]
 exact this
theorem Bc (rows:List D) (hr:∀r∈rows,kU r) (hl:rows.length<=1000) (known:Int) {i:Nat}{r:D}(hg:rows[i]? = some r):gp [.tup rows,.int known,.int i]=some (.bl (sy rows known r),false):=by
 obtain⟨h,kind,a0,rfl,dp⟩:=hr r (List.mem_of_getElem? hg)
 have hk:=Bb hg known
 have ha:=jo hg
 have hword:∀(ρ:DL.Env),f2 ixD (ag 0) (ag 2) ρ=some (row h kind a0,false)->fA aE (ae (f2 ixD (ag 0) (ag 2)) ak) ρ=some (.str kind,false):=λρ e=>ai (ds:=[row h kind a0]) (ar e rfl) (fu _ _ _)
 have hrow:f2 ixD (ag 0) (ag 2) [some (.tup rows,false),some (.int known,false),some (.int i,false),none,none]=some (row h kind a0,false):=by simp[ha]
 have hc:(iC (iI (tOf (fA eR (ae (ag 0) (ae (ag 1) (ae (ag 2) ak)))))) (tOf (f2 eM (fA aE (ae (f2 ixD (ag 0) (ag 2)) ak)) (fC dC)))) [some (.tup rows,false),some (.int known,false),some (.int i,false),none,none]=some (!decide (h<=known) || !cL kind):=by
  refine nJ (sk (aM (b:=false) (ai (ds:=[.tup rows,.int known,.int i]) rfl hk))) λ_=>aM (b:=false) (aD (x:=.str kind) (y:=dC) (b1:=false) (b2:=false) (hword _ hrow) rfl ?_)
  rw[wM,wL]
  exact lO kind ym
 have hs:sy rows known (row h kind a0)=((decide (h<=known) && cL kind) && (kY rows known (uU (row h kind a0)) (a7 (row h kind a0)) && uS rows known (uU (row h kind a0)) (a7 (row h kind a0)))):=rfl
 cases hb:(decide (h<=known) && cL kind) with
 | false =>
  rw[hs,hb]
  refine a8 rfl (cI (hc.trans ?_) (aI rfl))
  rw[←Bool.not_and,hb];rfl
 | true =>
  rw[hs,hb]
  rw[Bool.and_eq_true]at hb
  obtain⟨day,p,r',rfl⟩:=dp.slg hb.2
  show _=some (D.bl (true && (kY rows known p day && uS rows known p day)),false)
  rw[Bool.true_and]
  refine a8 rfl (bo (hc.trans (by rw[hb.1,hb.2];rfl)) (aT (d:=.str p) (b:=false) (ai (ds:=[row h kind (.int day::.str p::r'),.str "by"]) (ar hrow rfl) (bq (i:=1) (Fh hb.2) rfl)) rfl (aT (d:=.int day) (b:=false) (ai (ds:=[row h kind (.int day::.str p::r')]) (ar (d:=row h kind (.int day::.str p::r')) (b:=false) (by simp[ha]) rfl) (fT (.inr hb.2) rfl)) rfl (aI ?_))))
  exact kP (b1:=false) (ai (ds:=[.tup rows,.int known,.str p,.int day]) (by simp) (uT rows hr hl known p day)) λ_=>ai (ds:=[.tup rows,.int known,.str p,.int day]) (by simp) (CL rows hr hl known p day)
inductive Cd:Str->List D->Prop
 | root (o r:Str) (m f:Int):Cd ("root" : Str) [.str o,.int m,.int f,.str r]
 | named (d:Int) (o p:Str):Cd ("named" : Str) [.int d,.str o,.str p]
 | chosen (d:Int) (b o p:Str) (s:Int):Cd ("chosen" : Str) [.int d,.str b,.str o,.str p,.int s]
 | heir (d:Int) (b o p:Str):Cd ("heir" : Str) [.int d,.str b,.str o,.str p]
 | three (k:Str) (hk:k=("death" : Str)∨k=("lost" : Str)∨k=("found" : Str)) (d:Int) (p:Str):Cd k [.int d,.str p]
 | other (k:Str) (hk:k=("leave" : Str)∨k=("paper" : Str)∨k=("like" : Str)∨k=("copy" : Str)∨k=("call" : Str)) (d:Int) (b:Str) (r:List D) (hf:br r=true) (hp:r.all (aj 5)=true):Cd k (.int d::.str b::r)
theorem Cd.deed {k:Str}{r:List D}(h:Cd k r):DeedP k r:=by
 cases h with
 | root o rl m f=>exact⟨rfl,by simp,λh=>absurd h (by decide +kernel),λh=>absurd h (by decide +kernel)⟩
 | named d o p=>exact⟨rfl,by simp,λh=>absurd h (by decide +kernel),λh=>absurd h (by decide +kernel)⟩
 | chosen d b o p s=>exact⟨rfl,by simp,λh=>absurd h (by decide +kernel),λ_=>⟨d,b,_,rfl⟩⟩
 | heir d b o p=>exact⟨rfl,by simp,λh=>absurd h (by decide +kernel),λ_=>⟨d,b,_,rfl⟩⟩
 | three k hk d p=>exact⟨rfl,by simp,λ_=>⟨d,p,rfl⟩,λh=>by rcases hk with rfl|rfl|rfl<;>exact absurd h (by decide +kernel)⟩
 | other k hk d b r hf hp=>exact⟨by simp[hf],by simp only[List.all_cons,hp,aj,Bool.and_true],λh=>by rcases hk with rfl|rfl|rfl|rfl|rfl<;>exact absurd h (by decide +kernel),λ_=>⟨d,b,r,rfl⟩⟩
def cN (r:D):Prop:=∃h k a0,r=row h k a0/\Cd k a0
theorem cN.rp {r:D}(h:cN r):kU r:=by obtain⟨a,k,a0,rfl,d⟩:=h;exact⟨a,k,a0,rfl,d.deed⟩
def aS (r:D):Bool:=decide (kindOf r=("root" : Str))
theorem Cd.day {k:Str}{r:List D}(h:Cd k r) (hk:k≠("root" : Str)):∃d q,r=.int d::q:=by
 cases h with
 | root=>exact absurd rfl hk
 | named d=>exact⟨d,_,rfl⟩
 | chosen d=>exact⟨d,_,rfl⟩
 | heir d=>exact⟨d,_,rfl⟩
 | three _ _ d=>exact⟨d,_,rfl⟩
 | other _ _ d=>exact⟨d,_,rfl⟩
theorem Cd.day_idx {k:Str}{r:List D}(h:Cd k r) (hk:k≠("root" : Str)):pw fm (.str k) (.str "day")=some (.int 0,false):=by
 cases h with
 | root=>exact absurd rfl hk
 | named=>exact bj (by decide +kernel)
 | chosen=>exact bj (by decide +kernel)
 | heir=>exact bj (by decide +kernel)
 | three _ hh=>rcases hh with rfl|rfl|rfl<;>exact bj (by decide +kernel)
 | other _ hh=>rcases hh with rfl|rfl|rfl|rfl|rfl<;>exact bj (by decide +kernel)
theorem bL {f:FE}{ρ:DL.Env}{a b:Str}{x:Bool}{bb:Bool}(e:f ρ=some (.str a,bb)) (h:decide (a=b)=x):tOf (f2 dEq f (fC (.str b))) ρ=some x:=aM (b:=false) (aD (x:=.str a) (y:=.str b) (b1:=bb) (b2:=false) e rfl (by rw[←h];simp))
def wN (r:D):D:=if aS r=true then .non else .int (a7 r)
theorem wO {r:D}(g:cN r):aE [r]=some (.str (kindOf r),false):=by
 obtain⟨h,k,a0,rfl,_⟩:=g
 exact fu h k a0
theorem yn {r:D}(g:cN r):aO [r]=some (wN r,false):=by
 obtain⟨h,k,a0,rfl,d⟩:=g
 unfold wN
 by_cases hk:k=("root" : Str)
 ·have:aS (row h k a0)=true:=decide_eq_true hk
  rw[if_pos this]
  exact a8 rfl (cI (bL (a:=k) (bb:=false) (ai (ds:=[row h k a0]) rfl (fu _ _ _)) (decide_eq_true hk)) (aI rfl))
 ·have:aS (row h k a0)=false:=decide_eq_false hk
  rw[if_neg (by rw[this];decide)]
  obtain⟨dd,q,rfl⟩:=d.day hk
  exact a8 rfl (bo (bL (a:=k) (bb:=false) (ai (ds:=[row h k (.int dd::q)]) rfl (fu _ _ _)) (decide_eq_false hk)) (aI (ai (ds:=[row h k (.int dd::q),.str "day"]) rfl (bq (i:=0) (d.day_idx hk) rfl))))
def dU (rows:List D):Prop:=rows.length<=60/\∀r∈rows,cN r
theorem dU.rp {rows:List D}(g:dU rows):∀r∈rows,kU r:=λr hr=>(g.2 r hr).rp
theorem dU.le {rows:List D}(g:dU rows):rows.length<=1000:=Nat.le_trans g.1 (by decide)
theorem cr {rows:List D}{known:Int}{x:D×Nat}(h:x∈aw rows known):rows[x.2]? = some x.1:=by
 obtain⟨h1,_⟩:=List.mem_filter.mp h
 exact List.mem_zipIdx_iff_getElem?.mp h1
theorem ot (rows:List D) (known:Int):(aw rows known).length<=rows.length:=by
 have:=List.length_filter_le (λx:D×Nat=>decide (cC x.1<=known)) rows.zipIdx
 rw[List.length_zipIdx]at this
 exact this
theorem jX (rows:List D) (known:Int):((aw rows known).map (·.2)).Nodup:=by
 have h1:(rows.zipIdx.map (·.2)).Nodup:=by rw[List.zipIdx_map_snd];exact List.nodup_range'
 exact List.Nodup.sublist (List.Sublist.map _ (List.filter_sublist)) h1
def ca (rows:List D) (known:Int):List (D×Nat):=(aw rows known).filter λx=>!aS x.1
def GM (rows:List D) (known:Int):List (D×Nat):=dr (λx=>ce (kA x)) (ca rows known)
theorem Bd {a b:D×Nat}(h:ce (kA a)=ce (kA b)):a.2=b.2:=by
 have h:[a7 a.1,(a.2:Int)]=[a7 b.1,(b.2:Int)]:=h
 injection h with _ h
 injection h with h
 omega
theorem CM {rows:List D}{known:Int}{a b:D×Nat}(ha:a∈aw rows known) (hb:b∈aw rows known) (h:a.2=b.2):a=b:=by
 have h1:=cr ha
 have h2:=cr hb
 rw[h,h2]at h1
 exact Prod.ext (Option.some.inj h1).symm h
theorem uV {rows:List D}(g:dU rows) (known:Int):dD [.tup rows,.int known]=some (.lst ((GM rows known).map λx=>.int x.2),true):=by
 have hl:=g.1
 have hll:=ot rows known
 have hrow:∀x∈aw rows known,atI rows (x.2:Int)=some x.1/\cN x.1:=λx hx=>⟨jo (cr hx),g.2 _ (List.mem_of_getElem? (cr hx))⟩
 have hc:=lG (fi:=cE (fA cm (ae (ag 0) (ae (ag 1) ak)))) (nT:=1) (cap:=[0]) (tg:=tgN 0) (c:=tOf (f2 jd (fA aO (ae (f2 ixD (ag 1) (ag 0)) ak)) (fC .non))) (fe:=ag 0) (ρ:=[some (.tup rows,false),some (.int known,false),none]) (aw rows known) (λx=>.int x.2) (λx=>!aS x.1) (λx=>.int x.2)
  (by
   show(fA cm (ae (ag 0) (ae (ag 1) ak)) _).bind _=_
   rw[ai (ds:=[.tup rows,.int known]) rfl (oj rows g.rp g.le known)]
   rfl) (by omega) λx hx=>by
   obtain⟨ha,gx⟩:=hrow x hx
   refine⟨_,rfl,aM (b:=false) (aD (x:=wN x.1) (y:=.non) (b1:=false) (b2:=false) (ai (ds:=[x.1]) (by simp[bM,ha]) (yn gx)) rfl ?_),λ_=>⟨false,by simp[bM]⟩⟩
   unfold wN
   cases aS x.1<;>simp[yQ]
 have hc':c8 (cE (fA cm (ae (ag 0) (ae (ag 1) ak)))) 1 [0] (tgN 0) (tOf (f2 jd (fA aO (ae (f2 ixD (ag 1) (ag 0)) ak)) (fC .non))) (ag 0) [some (.tup rows,false),some (.int known,false),none]=some (.lst ((ca rows known).map λx=>.int x.2),true):=hc
 have hfl:br ((ca rows known).map λx=>D.int x.2)=true:=cM λd hd=>by obtain⟨x,_,rfl⟩:=List.mem_map.mp hd;rfl
 have hdl:(ca rows known).length<=60:=Nat.le_trans (List.length_filter_le _ _) (by omega)
 have hmem:∀x∈ca rows known,x∈aw rows known/\aS x.1=false:=λx hx=>by
  obtain⟨h1,h2⟩:=List.mem_filter.mp hx
  exact⟨h1,by simpa using h2⟩
 have hm:∀ρ:DL.Env,ρ[0]? = some (some (.tup rows,false))->gA (u8 [0] (fA de (ae (ag 1) (ae (ag 0) ak))) ρ) ((ca rows known).map λx=>.int x.2)=some ((ca rows known).map λx=>.tup [.int (a7 x.1),.int x.2]):=λρ h0 =>
  fU (ca rows known) λx hx=>by
   obtain⟨h1,h2⟩:=hmem x hx
   obtain⟨ha,gx⟩:=hrow x h1
   have hd:=yn gx
   unfold wN at hd
   rw[h2,if_neg (by decide)]at hd
   have hr:de [.tup rows,.int x.2]=some (.tup [.int (a7 x.1),.int x.2],false):=a8 rfl (aI (ai (ds:=[.int (a7 x.1),.int x.2]) (ar (d:=.int (a7 x.1)) (b:=false) (ai (ds:=[x.1]) (by simp[ha]) hd) rfl) (by simp[sizeLine])))
   show(fA de _ _).map _=_
   rw[ai (ds:=[.tup rows,.int x.2]) (by simp[bM,h0]) hr]
   rfl
 have hk:cA ((ca rows known).map λx=>D.tup [.int (a7 x.1),.int x.2])=some ((ca rows known).map kA):=eI _ λx _=>rfl
 have hz:((ca rows known).map kA).zip ((ca rows known).map λx=>D.int x.2)=(ca rows known).map λx=>(kA x,D.int x.2):=by rw[List.zip_map']
 have hnd:((ca rows known).map (·.2)).Nodup:=List.Nodup.sublist (List.Sublist.map _ (List.filter_sublist)) (jX rows known)
 have hcond:((ca rows known).map kA).length<64/\cY ((ca rows known).map kA)=true/\cx ((ca rows known).map kA)=true/\(((ca rows known).map kA).map ce).Nodup:=by
  refine⟨by rw[List.length_map];omega,sx _, ?_, ?_⟩
  ·unfold cx
   rw[Bool.or_eq_true]
   left
   simp[List.all_eq_true,kA]
  ·rw[List.map_map]
   exact List.Pairwise.map _ (λa b h e=>h (Bd e)) (List.pairwise_map.mp hnd)
 refine a8 rfl (cB hc' hfl (aI ?_))
 show(kN (ag 2) _ _)=_
 unfold kN
 show((some (D.lst ((ca rows known).map λx=>D.int x.2),false)).bind _)=_
 simp only[Option.bind_some]
 rw[hm _ rfl]
 simp only[Option.bind_some]
 rw[hk]
 simp only[Option.bind_some]
 rw[if_pos hcond]
 unfold gM
 rw[hz]
 have key:((GM rows known).map λx=>(kA x,D.int x.2))=dr (λp:List At×D=>ce p.1) ((ca rows known).map λx=>(kA x,D.int x.2)):=by
  refine gJ _ (λx hx y hy e=>?_) ((bF _ _).map _) ?_
  ·obtain⟨a,ha,rfl⟩:=List.mem_map.mp hx
   obtain⟨b,hb,rfl⟩:=List.mem_map.mp hy
   rw[CM (hmem a ha).1 (hmem b hb).1 (Bd e)]
  ·exact List.pairwise_map.mpr (gg _ _)
 rw[←key,List.map_map]
 rfl
structure Cl where
 o:Str
 p:Str
 s:Int
 u:Option Int
 n:Nat
def uD:Option Int->D
 | none=>.non
 | some x=>.int x
def clD (c:Cl):D:=.tup [.str c.o,.str c.p,.int c.s,uD c.u,.int c.n]
theorem yo (u:Option Int):ba (uD u)=true:=by cases u<;>rfl
theorem gW (c:Cl):ba (clD c)=true:=by simp[clD,yo]
theorem fV (cs:List Cl):br (cs.map clD)=true:=cM λd hd=>by obtain⟨c,_,rfl⟩:=List.mem_map.mp hd;exact gW c
def cb (c:Cl) (day:Int):Bool:=decide (c.s<=day) && (match c.u with|none=>true|some x=>decide (day<x))
theorem at3 (d e f g:D) (r:List D):atI (d::e::f::g::r) 3=some g:=by have:=gP (xs:=d::e::f::g::r) (j:=3) (by simp);simpa using this
theorem at4 (d e f g h:D) (r:List D):atI (d::e::f::g::h::r) 4=some h:=by have:=gP (xs:=d::e::f::g::h::r) (j:=4) (by simp);simpa using this
theorem cl0 (c:Cl):ixD (clD c) (.int 0)=some (.str c.o,false):=by simp[clD,at0]
theorem cl1 (c:Cl):ixD (clD c) (.int 1)=some (.str c.p,false):=by simp[clD,at1]
theorem cl2 (c:Cl):ixD (clD c) (.int 2)=some (.int c.s,false):=by simp[clD,at2]
theorem cl3 (c:Cl):ixD (clD c) (.int 3)=some (uD c.u,false):=by simp[clD,at3]
theorem cl4 (c:Cl):ixD (clD c) (.int 4)=some (.int c.n,false):=by simp[clD,at4]
theorem cD (ds:List D) (h:ds.length<=100):aQ ds=some (.tup ds,false):=if_pos (bC (by omega))
theorem gX (ds:List D) (h:ds.length<=100):bN ds=some (.lst ds,true):=if_pos (bC (by omega))
theorem CN (s day:Int) (u:Option Int):iu [.int day,.tup [.int s,uD u]]=some (.bl (decide (s<=day) && (match u with|none=>true|some x=>decide (day<x))),false):=by
 refine a8 rfl (aI (kP (b1:=false) (by simp[at0]) λ_=>?_))
 cases u with
 | none=>exact DT (p:=true) (q:=true) (b1:=false) (by simp[at1,uD]) (by simp)
 | some x=>exact DT (p:=false) (q:=decide (day<x)) (b1:=false) (by simp[at1,uD]) λ_=>by simp[at1,uD]
theorem ou (c:Cl) (day:Int):bv [clD c,.int day]=some (.bl (cb c day),false) :=
 a8 rfl (aI (ai (ds:=[.int day,.tup [.int c.s,uD c.u]]) (ar (b:=false) rfl (ar (b:=false) (ai (ds:=[.int c.s,uD c.u]) (ar (aD (x:=clD c) (y:=.int 2) (b1:=false) (b2:=false) rfl rfl (cl2 c)) (ar (aD (x:=clD c) (y:=.int 3) (b1:=false) (b2:=false) rfl rfl (cl3 c)) rfl)) (cD _ (by simp))) rfl)) (CN c.s day c.u)))
theorem uW (c:Cl):bK [clD c]=some (.tup [.int c.s,.int c.n],false) :=
 a8 rfl (aI (ai (ds:=[.int c.s,.int c.n]) (ar (aD (x:=clD c) (y:=.int 2) (b1:=false) (b2:=false) rfl rfl (cl2 c)) (ar (aD (x:=clD c) (y:=.int 4) (b1:=false) (b2:=false) rfl rfl (cl4 c)) rfl)) (cD _ (by simp))))
theorem sA (c:Cl):dj [clD c]=some (.tup [.str c.o,.int c.s,.int c.n],false) :=
 a8 rfl (aI (ai (ds:=[.str c.o,.int c.s,.int c.n]) (ar (aD (x:=clD c) (y:=.int 0) (b1:=false) (b2:=false) rfl rfl (cl0 c)) (ar (aD (x:=clD c) (y:=.int 2) (b1:=false) (b2:=false) rfl rfl (cl2 c)) (ar (aD (x:=clD c) (y:=.int 4) (b1:=false) (b2:=false) rfl rfl (cl4 c)) rfl))) (cD _ (by simp))))
def kS (c:Cl):List At:=[.i c.s,.i c.n]
def fW:Cl->List Cl->Cl
 | b,[]=>b
 | b,x::r=>if aW (kS x) (kS b)=some true then fW x r else fW b r
def jY:Cl->List Cl->Cl
 | b,[]=>b
 | b,x::r=>if aW (kS b) (kS x)=some true then jY x r else jY b r
theorem oy:∀(r:List Cl) (b:Cl),iN (kS b,clD b) (r.map λx=>(kS x,clD x))=clD (fW b r)
 | [],b=>rfl
 | x::r,b=>by
  rw[List.map_cons,iN,fW]
  split
  ·exact oy r x
  ·exact oy r b
theorem oz:∀(r:List Cl) (b:Cl),jM (kS b,clD b) (r.map λx=>(kS x,clD x))=clD (jY b r)
 | [],b=>rfl
 | x::r,b=>by
  rw[List.map_cons,jM,jY]
  split
  ·exact oz r x
  ·exact oz r b
theorem yp (cs:List Cl):cY (cs.map kS)=true:=by
 unfold cY
 simp[List.all_eq_true,kS,zo]
theorem o0 (ρ:DL.Env) (cs:List Cl):gA (px bK ρ) (cs.map clD)=some (cs.map λc=>.tup [.int c.s,.int c.n]):=fU cs λc _=>by
 show(bK [clD c]).map _=_
 rw[uW]
 rfl
theorem lP (cs:List Cl):cA (cs.map λc=>D.tup [.int c.s,.int c.n])=some (cs.map kS):=eI cs λc _=>rfl
theorem Be {f:FE}{ρ:DL.Env}{b:Cl}{r:List Cl}{bb:Bool}(e:f ρ=some (.lst ((b::r).map clD),bb)):qj f (px bK) ρ=some (clD (fW b r),false):=by
 unfold qj fKK
 rw[e,Option.bind_some]
 dsimp only
 rw[o0,Option.bind_some,lP,Option.bind_some,if_pos (yp _)]
 have:((b::r).map kS).zip ((b::r).map clD)=(kS b,clD b)::r.map λx=>(kS x,clD x):=by rw[List.zip_map'];rfl
 rw[this]
 show some (iN _ _,false)=_
 rw[oy]
theorem Fi {f:FE}{ρ:DL.Env}{b:Cl}{r:List Cl}{bb:Bool}(e:f ρ=some (.lst ((b::r).map clD),bb)):qi f (px bK) ρ=some (clD (jY b r),false):=by
 unfold qi fKK
 rw[e,Option.bind_some]
 dsimp only
 rw[o0,Option.bind_some,lP,Option.bind_some,if_pos (yp _)]
 have:((b::r).map kS).zip ((b::r).map clD)=(kS b,clD b)::r.map λx=>(kS x,clD x):=by rw[List.zip_map'];rfl
 rw[this]
 show some (jM _ _,false)=_
 rw[oz]
def di (rl:Str) (b:Cl) (r:List Cl):Cl:=if rl=("last" : Str)then jY b r else fW b r
theorem Bf (rl:Str) (b:Cl) (r:List Cl):gq [.lst ((b::r).map clD),.str rl]=some (.str (di rl b r).p,false):=by
 unfold di
 by_cases h:rl=("last" : Str)
 ·rw[if_pos h]
  exact a8 rfl (cI (bL (a:=rl) (bb:=false) rfl (decide_eq_true h)) (aI (aD (x:=clD (jY b r)) (y:=.int 1) (b1:=false) (b2:=false) (Fi (bb:=false) rfl) rfl (cl1 _))))
 ·rw[if_neg h]
  exact a8 rfl (bo (bL (a:=rl) (bb:=false) rfl (decide_eq_false h)) (aI (aD (x:=clD (fW b r)) (y:=.int 1) (b1:=false) (b2:=false) (Be (bb:=false) rfl) rfl (cl1 _))))
theorem o3:∀(r:List Cl) (b:Cl),fW b r∈b::r
 | [],b=>by simp[fW]
 | x::r,b=>by
  rw[fW]
  split
  ·exact mZ _ (o3 r x)
  ·rcases List.mem_cons.mp (o3 r b)with h|h
   ·rw[h];exact mX
   ·exact mZ _ (mZ _ h)
theorem o4:∀(r:List Cl) (b:Cl),jY b r∈b::r
 | [],b=>by simp[jY]
 | x::r,b=>by
  rw[jY]
  split
  ·exact mZ _ (o4 r x)
  ·rcases List.mem_cons.mp (o4 r b)with h|h
   ·rw[h];exact mX
   ·exact mZ _ (mZ _ h)
theorem qC (rl:Str) (b:Cl) (r:List Cl):di rl b r∈b::r:=by
 unfold di
 split
 ·exact o4 r b
 ·exact o3 r b
def alL (cs:List Cl) (o:Str) (day:Int):List Cl:=cs.filter λc=>decide (c.o=o) && cb c day
def eX (cs:List Cl):List Str:=cX (dZ (cs.map (·.p)))
def CO:List Cl->Nat
 | []=>0
 | b::r=>(fW b r).n
def fw (rl:Str):List Cl->D
 | []=>.tup [.str "none"]
 | b::r=>if 1<(eX (b::r)).length/\rl=("open" : Str)then .tup [.str "parted",.lst ((eX (b::r)).map .str)]
  else .tup [.str "one",.str (di rl b r).p,.int (CO ((b::r).filter λc=>decide (c.p=(di rl b r).p)))]
def eS (cs:List Cl) (o rl:Str) (day:Int):D:=fw rl (alL cs o day)
theorem CP {z:Str}{zs:List Str}:dZ (z::zs)≠[]:=by
 have:∀(ss:List Str) (ts:List Str),z∈ts->z∈ss.foldl eD ts:=λss=>by
  induction ss with
  | nil=>intro ts h;exact h
  | cons a l ih=>intro ts h;exact ih _ (mV.mpr (.inl h))
 have h:=this zs (eD [] z) (mV.mpr (.inr rfl))
 intro e
 unfold dZ at e
 rw[List.foldl_cons]at e
 rw[e]at h
 cases h
theorem lQ {h:Int}{o rl:Str}{m f:Int}:av [row h ("root" : Str) [.str o,.int m,.int f,.str rl],.str "office"]=some (.str o,false):=bq (i:=0) (bj (by decide +kernel)) rfl
theorem zp {h:Int}{o rl:Str}{m f:Int}:av [row h ("root" : Str) [.str o,.int m,.int f,.str rl],.str "rule"]=some (.str rl,false):=bq (i:=3) (bj (by decide +kernel)) rfl
theorem o5 (zs:List Str):eN (zs.map .str)=some zs:=by
 induction zs with
 | nil=>rfl
 | cons z zs ih=>simp[ih]
theorem jZ (cs:List Cl) (hl:cs.length<=60) {h:Int}{o rl:Str}{m f:Int}(day:Int):ci [.lst (cs.map clD),row h ("root" : Str) [.str o,.int m,.int f,.str rl],.int day]=some (eS cs o rl day,false):=by
 let rt:D:=row h ("root" : Str) [.str o,.int m,.int f,.str rl]
 have h1:=lG (fi:=cE (ag 0)) (nT:=1) (cap:=[2,1]) (tg:=tgN 0) (c:=dM (tOf (f2 dEq (f2 ixD (ag 0) (fC (.int 0))) (fA av (ae (ag 2) (ae (fC (.str "office")) ak))))) (tOf (fA bv (ae (ag 0) (ae (ag 1) ak))))) (fe:=ag 0)
  (ρ:=[some (.lst (cs.map clD),false),some (rt,false),some (.int day,false),none,none,none,none]) cs clD (λc=>decide (c.o=o) && cb c day) clD (by simp) (by omega) λc hc=>by
   refine⟨_,rfl,dI (aM (b:=false) (aD (x:=.str c.o) (y:=.str o) (b1:=false) (b2:=false) (aD (x:=clD c) (y:=.int 0) (b1:=false) (b2:=false) (by simp[bM]) rfl (cl0 c)) (ai (ds:=[rt,.str "office"]) (by simp[bM]) lQ) (by simp))) λ_=>aM (b:=false) (ai (ds:=[clD c,.int day]) (by simp[bM]) (ou c day)),λ_=>⟨false,by simp[bM]⟩⟩
 have h1':c8 (cE (ag 0)) 1 [2,1] (tgN 0) (dM (tOf (f2 dEq (f2 ixD (ag 0) (fC (.int 0))) (fA av (ae (ag 2) (ae (fC (.str "office")) ak))))) (tOf (fA bv (ae (ag 0) (ae (ag 1) ak))))) (ag 0) [some (.lst (cs.map clD),false),some (rt,false),some (.int day,false),none,none,none,none]=some (.lst ((alL cs o day).map clD),true):=h1
 have hal:(alL cs o day).length<=60:=Nat.le_trans (List.length_filter_le _ _) hl
 unfold eS
 generalize alL cs o day=al at h1' hal
 have h2:∀ρ:DL.Env,ρ[3]? = some (some (.lst (al.map clD),true))->f1 dQ (c8 (cE (ag 3)) 1 [] (tgN 0) gE (f2 ixD (ag 0) (fC (.int 1)))) ρ=some (.lst ((eX al).map .str),true):=λρ h3=>by
  have hc:=nK (fi:=cE (ag 3)) (nT:=1) (cap:=[]) (tg:=tgN 0) (fe:=f2 ixD (ag 0) (fC (.int 1))) (ρ:=ρ) al clD (λc=>.str c.p) (by simp[h3]) (by omega) λc hc=>⟨_,rfl,false,aD (x:=clD c) (y:=.int 1) (b1:=false) (b2:=false) (by simp[bM]) rfl (cl1 c)⟩
  have e2:al.map (λc=>D.str c.p)=(al.map (·.p)).map .str:=by rw[List.map_map];rfl
  rw[e2]at hc
  unfold f1
  rw[hc,Option.bind_some]
  show(eN ((al.map (·.p)).map .str)).bind _=_
  rw[o5,Option.bind_some,if_pos (by rw[List.length_map];omega)]
  rfl
 have hpl:br ((eX al).map D.str)=true:=dS _
 refine a8 rfl (cB (ds:=al.map clD) h1' (fV al) (cB (ds:=(eX al).map .str) (h2 _ rfl) hpl ?_))
 cases al with
 | nil=>exact cI (aM (b:=false) (by simp[eX,dZ,cX])) (aI (ai (ds:=[.str "none"]) rfl (cD _ (by simp))))
 | cons b r =>
  have hne:(eX (b::r)).length≠0:=by
   unfold eX
   rw[(bi _).length_eq]
   intro e
   exact CP (List.length_eq_zero_iff.mp e)
  refine bo (aM (b:=false) (by simp[hne])) ?_
  have hrule:∀ρ:DL.Env,ρ[1]? = some (some (rt,false))->fA av (ae (ag 1) (ae (fC (.str "rule")) ak)) ρ=some (.str rl,false):=λρ q1=>ai (ds:=[rt,.str "rule"]) (by simp[q1]) zp
  by_cases hp:1<(eX (b::r)).length/\rl=("open" : Str)
  ·have:fw rl (b::r)=.tup [.str "parted",.lst ((eX (b::r)).map .str)]:=by rw[fw,if_pos hp]
   rw[this]
   exact cI (dI (p:=true) (q:=true) (aM (b:=false) (by simp;omega)) λ_=>bL (bb:=false) (hrule _ rfl) (decide_eq_true hp.2)) (aI (ai (ds:=[.str "parted",.lst ((eX (b::r)).map .str)]) (by simp) (cD _ (by simp))))
  ·have:fw rl (b::r)=.tup [.str "one",.str (di rl b r).p,.int (CO ((b::r).filter λc=>decide (c.p=(di rl b r).p)))]:=by rw[fw,if_neg hp]
   rw[this]
   have hcond:dM (tOf (f2 iGt (fA dY (ae (ag 4) ak)) (fC (.int 1)))) (tOf (f2 dEq (fA av (ae (ag 1) (ae (fC (.str "rule")) ak))) (fC (.str "open")))) [some (.lst (cs.map clD),false),some (rt,false),some (.int day,false),some (.lst ((b::r).map clD),true),some (.lst ((eX (b::r)).map .str),true),none,none]=some false:=by
    by_cases h5:1<(eX (b::r)).length
    ·exact dI (p:=true) (q:=false) (aM (b:=false) (by simp;omega)) λ_=>bL (bb:=false) (hrule _ rfl) (decide_eq_false λe=>hp ⟨h5,e⟩)
    ·exact dI (p:=false) (q:=false) (aM (b:=false) (by simp;omega)) (by simp)
   have hmem:=qC rl b r
   let ch:=di rl b r
   have h6:=lG (fi:=cE (ag 3)) (nT:=1) (cap:=[5]) (tg:=tgN 0) (c:=tOf (f2 dEq (f2 ixD (ag 0) (fC (.int 1))) (ag 1))) (fe:=ag 0) (ρ:=[some (.lst (cs.map clD),false),some (rt,false),some (.int day,false),some (.lst ((b::r).map clD),true),some (.lst ((eX (b::r)).map .str),true),some (.str ch.p,false),none]) (b::r) clD (λc=>decide (c.p=ch.p)) clD (by simp) (by omega) λc hc=>⟨_,rfl,aM (b:=false) (aD (x:=.str c.p) (y:=.str ch.p) (b1:=false) (b2:=false) (aD (x:=clD c) (y:=.int 1) (b1:=false) (b2:=false) (by simp[bM]) rfl (cl1 c)) (by simp[bM]) (by simp)),λ_=>⟨false,by simp[bM]⟩⟩
   obtain⟨b2,r2,hf⟩:∃b2 r2,(b::r).filter (λc=>decide (c.p=ch.p))=b2::r2:=by
    cases hq:(b::r).filter (λc=>decide (c.p=ch.p)) with
    | nil =>
     have:=List.filter_eq_nil_iff.mp hq _ hmem
     simp[ch]at this
    | cons b2 r2=>exact⟨b2,r2,rfl⟩
   rw[hf]at h6 ⊢
   refine bo hcond (aT (d:=.str ch.p) (b:=false) (ai (ds:=[.lst ((b::r).map clD),.str rl]) (ar (b:=false) (by simp) (ar (hrule _ rfl) rfl)) (Bf rl b r)) rfl (aT (d:=clD (fW b2 r2)) (b:=false) (Be (bb:=true) h6) (gW _) (aI (ai (ds:=[.str "one",.str ch.p,.int (fW b2 r2).n]) (ar (b:=false) rfl (ar (b:=false) rfl (ar (aD (x:=clD (fW b2 r2)) (y:=.int 4) (b1:=false) (b2:=false) rfl rfl (cl4 _)) rfl))) (cD _ (by simp))))))
def DV:D->D
 | .tup ds=>.tup (iD ds none (some 2))
 | d=>d
def iP (cs:List Cl) (o rl p:Str) (day:Int):Bool:=eqD (DV (eS cs o rl day)) (.tup [.str "one",.str p])
theorem wP (n:Nat) (zs:List Str):(zs.map D.str).all (aj n)=true:=by
 induction zs with
 | nil=>rfl
 | cons a l ih=>simp
theorem qD (rl:Str) (al:List Cl):∃ds,fw rl al=.tup ds/\ds.all (aj 5)=true:=by
 cases al with
 | nil=>exact⟨_,rfl,by simp⟩
 | cons b r =>
  rw[fw]
  split
  ·exact⟨_,rfl,by simp only[List.all_cons,List.all_nil,aj,Bool.and_true,Bool.true_and];exact wP _ _⟩
  ·exact⟨_,rfl,by simp⟩
theorem Bg {ds:List D}{lo hi:Option Int}(h:ds.all (aj 5)=true):(iD ds lo hi).all (aj 5)=true:=by
 rw[List.all_eq_true]at h ⊢
 exact λd hd=>h d (List.mem_of_mem_drop (List.mem_of_mem_take hd))
theorem qE {ds:List D}(h:ds.all (aj 5)=true):aj 40 (.tup ds)=true:=dh 6 40 _ (by decide) (by simpa only[aj]using h)
theorem wQ (cs:List Cl) (o rl:Str) (day:Int):aj 39 (eS cs o rl day)=true:=by
 obtain⟨ds,e,h⟩:=qD rl (alL cs o day)
 unfold eS
 rw[e]
 exact dh 6 39 _ (by decide) (by simpa only[aj]using h)
theorem CQ (cs:List Cl) (hl:cs.length<=60) {h:Int}{o rl:Str}{m f:Int}(p:Str) (day:Int):du [.lst (cs.map clD),row h ("root" : Str) [.str o,.int m,.int f,.str rl],.str p,.int day]=some (.bl (iP cs o rl p day),false):=by
 have hb:=jZ cs hl (h:=h) (o:=o) (rl:=rl) (m:=m) (f:=f) day
 obtain⟨ds,e,hd⟩:=qD rl (alL cs o day)
 have e':eS cs o rl day=.tup ds:=e
 refine a8 rfl (aI (aD (x:=DV (eS cs o rl day)) (y:=.tup [.str "one",.str p]) (b1:=false) (b2:=false) ?_ (by simp[sizeLine]) ?_))
 ·have hc:=ai (F:=ci) (fa:=ae (ag 0) (ae (ag 1) (ae (ag 3) ak))) (ρ:=[some (.lst (cs.map clD),false),some (row h ("root" : Str) [.str o,.int m,.int f,.str rl],false),some (.str p,false),some (.int day,false)]) (ds:=[.lst (cs.map clD),row h ("root" : Str) [.str o,.int m,.int f,.str rl],.int day]) rfl hb
  rw[e']at hc ⊢
  show fSl (fA ci (ae (ag 0) (ae (ag 1) (ae (ag 3) ak)))) gH (eu (fC (.int 2))) _=_
  unfold fSl
  rw[show(List.map (λd=>some (d,false)) [D.lst (cs.map clD),row h ("root" : Str) [.str o,.int m,.int f,.str rl],.str p,.int day]++List.replicate 0 none:DL.Env)=[some (.lst (cs.map clD),false),some (row h ("root" : Str) [.str o,.int m,.int f,.str rl],false),some (.str p,false),some (.int day,false)]from rfl,hc]
  rfl
 ·unfold iP dEq
  rw[if_pos]
  rw[e']
  exact⟨qE (Bg hd),qE (by simp)⟩
def aq (j:Nat):D->Str
 | .tup [_,.tup (_::a0)]=>match a0[j]? with
  | some (.str s)=>s
  | _=>("" : Str)
 | _=>("" : Str)
def kc (j:Nat):D->Int
 | .tup [_,.tup (_::a0)]=>match a0[j]? with
  | some (.int s)=>s
  | _=>0
 | _=>0
theorem Cd.root_of {r:List D}(h:Cd ("root" : Str) r):∃o rl,∃m f:Int,r=[.str o,.int m,.int f,.str rl]:=by
 generalize hk:("root" : Str)=k at h
 cases h with
 | root o rl m f=>exact⟨o,rl,m,f,rfl⟩
 | named=>exact absurd hk (by decide +kernel)
 | chosen=>exact absurd hk (by decide +kernel)
 | heir=>exact absurd hk (by decide +kernel)
 | three _ hh=>rcases hh with rfl|rfl|rfl<;>exact absurd hk (by decide +kernel)
 | other _ hh=>rcases hh with rfl|rfl|rfl|rfl|rfl<;>exact absurd hk (by decide +kernel)
theorem kZ {κ α:Type}[DecidableEq κ] {ks:List κ}{k:κ}{x y:α}:∀ {xs:List α},y∈bZ ks xs k x->y=x∨y∈xs:=by
 intro xs h
 unfold bZ at h
 split at h
 ·rename_i hk0
  clear hk0
  induction ks generalizing xs with
  | nil=>simp at h
  | cons a ks ih =>
   cases xs with
   | nil=>simp at h
   | cons b xs =>
    rw[List.zipWith_cons_cons,List.mem_cons]at h
    rcases h with h|h
    ·split at h
     ·exact .inl h
     ·exact .inr (by rw[h];exact mX)
    ·rcases ih h with h|h
     ·exact .inl h
     ·exact .inr (mZ _ h)
 ·rcases List.mem_append.mp h with h|h
  ·exact .inr h
  ·exact .inl (List.mem_singleton.mp h)
theorem la:∀(l:List (Key×D)) (a:List Key×List D) (y:D),y∈(l.foldl jl a).2->y∈a.2 ∨ ∃p∈l,p.2=y
 | [],a,y,h=>.inl h
 | p::l,a,y,h=>by
  rw[List.foldl_cons]at h
  rcases la l _ y h with h|⟨q,hq,e⟩
  ·rcases kZ (show y∈bZ a.1 a.2 p.1 p.2 from h)with h|h
   ·exact .inr ⟨p,mX,h.symm⟩
   ·exact .inl h
  ·exact .inr ⟨q,mZ _ hq,e⟩
theorem qF {α:Type}(f:α->Str) (g:α->D):∀(l:List α),fB (l.map λx=>D.tup [.str (f x),g x])=some (l.map λx=>(.inr (f x),g x))
 | []=>rfl
 | x::l=>by
  rw[List.map_cons,fB,qF f g l]
  rfl
theorem gY {κ:Type}[DecidableEq κ]:∀ {ks:List κ}{vs:List D}{k:κ}{v:D},bw ks vs k=some v->v∈vs
 | k'::ks,d::ds,k,v,h=>by
  unfold bw at h
  split at h
  ·cases h;exact mX
  ·exact mZ _ (gY h)
 | [],_,_,_,h=>by simp[bw]at h
 | _::_,[],_,_,h=>by simp[bw]at h
def fX (KL:List (D×Nat)):List (Key×D):=(KL.filter λx=>aS x.1).map λx=>(.inr (aq 0 x.1),x.1)
def dW (KL:List (D×Nat)) (o:Str):Option D:=bw (bp (fX KL)).1 (bp (fX KL)).2 (.inr o)
theorem gt {r:D}(g:cN r) (h:aS r=true):∃a o rl,∃m f:Int,r=row a ("root" : Str) [.str o,.int m,.int f,.str rl]:=by
 obtain⟨a,k,a0,rfl,d⟩:=g
 have hk:k=("root" : Str):=of_decide_eq_true h
 subst hk
 obtain⟨o,rl,m,f,rfl⟩:=d.root_of
 exact⟨a,o,rl,m,f,rfl⟩
theorem cz {rows:List D}(g:dU rows) {known:Int}{x:D×Nat}(hx:x∈aw rows known):atI rows (x.2:Int)=some x.1/\cN x.1:=⟨jo (cr hx),g.2 _ (List.mem_of_getElem? (cr hx))⟩
theorem lR {rows:List D}(g:dU rows) {known:Int}{o:Str}{v:D}(h:dW (aw rows known) o=some v):∃a o2 rl,∃m f:Int,v=row a ("root" : Str) [.str o2,.int m,.int f,.str rl]:=by
 have hv:=gY h
 rcases la _ ([],[]) v hv with h|⟨p,hp,e⟩
 ·cases h
 ·obtain⟨x,hx,rfl⟩:=List.mem_map.mp hp
  obtain⟨h1,h2⟩:=List.mem_filter.mp hx
  rw[←e]
  exact gt (cz g h1).2 h2
theorem uX {rows:List D}(g:dU rows) (known:Int):fq [.tup rows,.int known]=some (.dk (bp (fX (aw rows known))).1 (bp (fX (aw rows known))).2,false):=by
 have hl:=ot rows known
 have hl2:=g.1
 have h1:=nK (fi:=cE (fA cm (ae (ag 0) (ae (ag 1) ak)))) (nT:=1) (cap:=[0]) (tg:=tgN 0) (fe:=f2 ixD (ag 1) (ag 0)) (ρ:=[some (.tup rows,false),some (.int known,false),none]) (aw rows known) (λx=>.int x.2) Prod.fst
  (by
   show(fA cm (ae (ag 0) (ae (ag 1) ak)) _).bind _=_
   rw[ai (ds:=[.tup rows,.int known]) rfl (oj rows g.rp g.le known)]
   rfl) (by omega) λx hx=>by
   have ha:=(cz g hx).1
   exact⟨_,rfl,false,by simp[bM,ha]⟩
 have hn:br ((aw rows known).map Prod.fst)=true:=cM λd hd=>by
  obtain⟨x,hx,rfl⟩:=List.mem_map.mp hd
  exact(cz g hx).2.rp.flat
 have h2:=lG (fi:=cE (ag 2)) (nT:=1) (cap:=[]) (tg:=tgN 0) (c:=tOf (f2 dEq (fA aE (ae (ag 0) ak)) (fC (.str "root")))) (fe:=fA aQ (ae (fA av (ae (ag 0) (ae (fC (.str "office")) ak))) (ae (ag 0) ak)))
  (ρ:=[some (.tup rows,false),some (.int known,false),some (.lst ((aw rows known).map Prod.fst),true)]) (aw rows known) Prod.fst (λx=>aS x.1) (λx=>.tup [.str (aq 0 x.1),x.1]) (by simp) (by omega) λx hx=>by
   have gr:=(cz g hx).2
   refine⟨_,rfl,bL (a:=kindOf x.1) (bb:=false) (ai (ds:=[x.1]) rfl (wO gr)) rfl,λhp=>⟨false, ?_⟩⟩
   obtain⟨a,o,rl,m,f,e⟩:=gt gr hp
   refine ai (ds:=[.str (aq 0 x.1),x.1]) (ar (b:=false) (ai (ds:=[x.1,.str "office"]) rfl ?_) rfl) (cD _ (by simp))
   rw[e]
   exact lQ
 refine a8 rfl (cB (ds:=(aw rows known).map Prod.fst) h1 hn (aI (ai (ds:=[.lst (((aw rows known).filter λx:D×Nat=>aS x.1).map λx:D×Nat=>D.tup [.str (aq 0 x.1),x.1])]) (ar h2 rfl) ?_)))
 rw[gl,qF (λx:D×Nat=>aq 0 x.1) Prod.fst]
 rfl
def gB:D×Nat->List (D×Nat)->D×Nat
 | b,[]=>b
 | b,x::r=>if aW (kA x) (kA b)=some true then gB x r else gB b r
theorem sC:∀(r:List (D×Nat)) (b:D×Nat),iN (kA b,.int b.2) (r.map λx=>(kA x,D.int x.2))=.int (gB b r).2
 | [],b=>rfl
 | x::r,b=>by
  rw[List.map_cons,iN,gB]
  split
  ·exact sC r x
  ·exact sC r b
def d3 (KL:List (D×Nat)) (p:Str) (day:Int) (i:Nat):Bool:=match KL.filter (λx=>told cq p day x.1) with
 | []=>false
 | b::r=>decide ((gB b r).2=i)
theorem Bh {rows:List D}(g:dU rows) (known:Int) {x:D×Nat}(hx:x∈aw rows known) {a d:Int}{p:Str}(e:x.1=row a ("death" : Str) [.int d,.str p]):cS [.tup rows,.int known,.int x.2]=some (.bl (d3 (aw rows known) p d x.2),false):=by
 have ha:=(cz g hx).1
 have gx:=(cz g hx).2
 have ht:=sw rows g.rp g.le known cq gs p d
 have hpart:av [x.1,.str "person"]=some (.str p,false):=by rw[e];exact bq (i:=1) (bj (by decide +kernel)) rfl
 have hday:aO [x.1]=some (.int d,false):=by rw[e];exact fT (.inl (by decide +kernel)) rfl
 have hmem:x∈mn rows known cq p d:=List.mem_filter.mpr ⟨hx,by rw[e];simp[told,row,cq,lM]⟩
 have hfv:d3 (aw rows known) p d x.2=match mn rows known cq p d with|[]=>false|b::r=>decide ((gB b r).2=x.2):=rfl
 have key:∀y∈mn rows known cq p d,∃h k dd,rows[y.2]? = some (row h k [.int dd,.str p])/\y.1=row h k [.int dd,.str p]/\bV k=true:=λy hy=>by
  obtain⟨hg,htl⟩:=yj hy
  obtain⟨h,k,dd,e2,h3,_⟩:=oq gs (g.rp _ (List.mem_of_getElem? hg)) htl
  exact⟨h,k,dd,by rw[hg,e2],e2,h3⟩
 rw[hfv]
 cases hs:mn rows known cq p d with
 | nil=>rw[hs]at hmem;cases hmem
 | cons b r =>
  rw[hs]at ht key
  have hm:∀ρ:DL.Env,ρ[0]? = some (some (.tup rows,false))->gA (u8 [0] (fA de (ae (ag 1) (ae (ag 0) ak))) ρ) ((b::r).map λy=>.int y.2)=some ((b::r).map λy=>.tup [.int (a7 y.1),.int y.2]):=λρ h0 =>
   fU (b::r) λy hy=>by
    obtain⟨h,k,dd,hg,e2,h3⟩:=key y hy
    show(fA de _ _).map _=_
    rw[ai (ds:=[.tup rows,.int y.2]) (by simp[bM,h0]) (yk hg h3),e2]
    rfl
  have hk:cA ((b::r).map λy=>D.tup [.int (a7 y.1),.int y.2])=some ((b::r).map kA):=eI _ λy _=>rfl
  have hz:((b::r).map kA).zip ((b::r).map λy=>D.int y.2)=(kA b,D.int b.2)::r.map λy=>(kA y,D.int y.2):=by rw[List.zip_map'];rfl
  have hfl:br ((b::r).map λy=>D.int y.2)=true:=cM λd hd=>by obtain⟨y,_,rfl⟩:=List.mem_map.mp hd;rfl
  refine a8 rfl (aT (d:=x.1) (b:=false) (by simp[ha]) gx.rp.flat (cB (ds:=(b::r).map λy=>.int y.2) (ai (ds:=[.tup rows,.int known,.tup (cq.map .str),.str p,.int d]) (ar (b:=false) rfl (ar (b:=false) rfl (ar (b:=false) (ai (ds:=[.str "death"]) rfl (cD _ (by simp))) (ar (ai (ds:=[x.1,.str "person"]) rfl hpart) (ar (ai (ds:=[x.1]) rfl hday) rfl))))) ht) hfl (aI (aD (x:=.int (gB b r).2) (y:=.int x.2) (b1:=false) (b2:=false) ?_ rfl ?_))))
  ·unfold qj fKK
   show((some (D.lst ((b::r).map λy=>D.int y.2),false)).bind _)=_
   rw[Option.bind_some]
   dsimp only
   rw[hm _ rfl,Option.bind_some,hk,Option.bind_some,if_pos (sx _),hz]
   show some (iN _ _,false)=_
   rw[sC]
  ·rw[yc]
   congr 3
   apply decide_eq_decide.mpr
   omega
abbrev KL:=List (D×Nat)
def fD (K:KL) (p:Str) (day:Int):Bool:=(K.filter λx=>told cq p day x.1).isEmpty
def yq (K:KL) (p:Str) (day:Int):Bool:=match DU (K.filter λx=>told g7 p day x.1) with
 | none=>true
 | some x=>decide (kindOf x.1=("found" : Str))
def dE (K:KL) (r:D):Bool:=cL (kindOf r) && (fD K (uU r) (a7 r) && yq K (uU r) (a7 r))
def iE (r:D):Str:=if kindOf r=("named" : Str)then aq 1 r else aq 2 r
def gu:List Str:=[("named" : Str),("chosen" : Str),("heir" : Str)]
def aZ (K:KL) (so:List Cl) (x:D×Nat):Bool :=
 if kindOf x.1=("death" : Str)then d3 K (aq 1 x.1) (a7 x.1) x.2
 else if kindOf x.1∈gu then match dW K (iE x.1) with
  | none=>false
  | some v=>if kindOf x.1=("named" : Str)then true else dE K x.1 && iP so (aq 0 v) (aq 3 v) (aq 1 x.1) (a7 x.1)
 else false
theorem CS (rows:List D) (known:Int) (p:Str) (day:Int):kY rows known p day=fD (aw rows known) p day:=rfl
theorem CT {rows:List D}{known:Int}{r:D}(h:cC r<=known):sy rows known r=dE (aw rows known) r:=by
 unfold sy dE
 rw[decide_eq_true h,Bool.true_and]
 rfl
theorem zq {rows:List D}(g:dU rows) (known:Int) (so:List Cl) (hso:so.length<=60) {x:D×Nat}(hx:x∈aw rows known) (hnr:aS x.1=false):gS [.tup rows,.int known,.lst (so.map clD),.int x.2]=some (.bl (aZ (aw rows known) so x),false):=by
 obtain⟨ha,gx⟩:=cz g hx
 have hh:cC x.1<=known:=of_decide_eq_true (List.mem_filter.mp hx).2
 have hf:ba x.1=true:=gx.rp.flat
 have hw:∀ρ:DL.Env,ρ[4]? = some (some (x.1,false))->fA aE (ae (ag 4) ak) ρ=some (.str (kindOf x.1),false):=λρ h4=>ai (ds:=[x.1]) (by simp[h4]) (wO gx)
 have hni:∀ρ:DL.Env,ρ[4]? = some (some (x.1,false))->tOf (f2 eM (fA aE (ae (ag 4) ak)) (fA aQ (ae (fC (.str "named")) (ae (fC (.str "chosen")) (ae (fC (.str "heir")) ak))))) ρ=some (!decide (kindOf x.1∈gu)):=λρ h4 =>
  aM (b:=false) (aD (x:=.str (kindOf x.1)) (y:=.tup (gu.map .str)) (b1:=false) (b2:=false) (hw ρ h4) (by simp[sizeLine,gu]) (lO _ _))
 by_cases hd:kindOf x.1=("death" : Str)
 ·obtain⟨a,k,a0,e,d⟩:=gx
  have hk:k=("death" : Str):=by rw[e]at hd;exact hd
  subst hk
  obtain⟨dd,p,rfl⟩:=d.deed.three (by decide +kernel)
  have hc:aZ (aw rows known) so x=d3 (aw rows known) p dd x.2:=by
   unfold aZ
   rw[if_pos hd,e]
   rfl
  rw[hc]
  exact a8 rfl (aT (d:=x.1) (b:=false) (by simp[ha]) hf (cI (bL (bb:=false) (hw _ rfl) (decide_eq_true hd)) (aI (ai (ds:=[.tup rows,.int known,.int x.2]) rfl (Bh g known hx e)))))
 ·by_cases h3:kindOf x.1∈gu
  ·have hoff:av [x.1,.str "office"]=some (.str (iE x.1),false):=by
    obtain⟨a,k,a0,e,d⟩:=gx
    rw[e]at h3 hd hnr ⊢
    replace h3:k∈gu:=h3
    clear hd hnr
    cases d with
    | root=>exact absurd h3 (by decide +kernel)
    | named d o p=>exact bq (i:=1) (bj (by decide +kernel)) rfl
    | chosen d b o p s=>exact bq (i:=2) (bj (by decide +kernel)) rfl
    | heir d b o p=>exact bq (i:=2) (bj (by decide +kernel)) rfl
    | three _ hk=>rcases hk with rfl|rfl|rfl<;>exact absurd h3 (by decide +kernel)
    | other _ hk=>rcases hk with rfl|rfl|rfl|rfl|rfl<;>exact absurd h3 (by decide +kernel)
   have e5:∀ρ:DL.Env,ρ[0]? = some (some (.tup rows,false))->ρ[1]? = some (some (.int known,false))->ρ[4]? = some (some (x.1,false))->f2 wE (fA fq (ae (ag 0) (ae (ag 1) ak))) (fA av (ae (ag 4) (ae (fC (.str "office")) ak))) ρ=some ((dW (aw rows known) (iE x.1)).getD .non,false):=λρ q0 q1 q4 =>
    aD (x:=.dk (bp (fX (aw rows known))).1 (bp (fX (aw rows known))).2) (y:=.str (iE x.1)) (b1:=false) (b2:=false) (ai (ds:=[.tup rows,.int known]) (by simp[q0,q1]) (uX g known)) (ai (ds:=[x.1,.str "office"]) (by simp[q4]) hoff) rfl
   cases hr:dW (aw rows known) (iE x.1) with
   | none =>
    rw[hr]at e5
    have hc:aZ (aw rows known) so x=false:=by unfold aZ;rw[if_neg hd,if_pos h3,hr]
    rw[hc]
    exact a8 rfl (aT (d:=x.1) (b:=false) (by simp[ha]) hf (bo (bL (bb:=false) (hw _ rfl) (decide_eq_false hd)) (bo (by rw[hni _ rfl,decide_eq_true h3];rfl) (aT (d:=.non) (b:=false) (e5 _ rfl rfl rfl) rfl (cI (aM (b:=false) (aD (x:=.non) (y:=.non) (b1:=false) (b2:=false) rfl rfl (by simp))) (aI rfl))))))
   | some v =>
    rw[hr]at e5
    obtain⟨va,vo,vrl,vm,vf,ev⟩:=lR g hr
    have hvf:ba v=true:=by rw[ev];rfl
    have hvn:dIs v .non=some (.bl false,false):=by rw[ev];simp[row]
    by_cases hn:kindOf x.1=("named" : Str)
    ·have hc:aZ (aw rows known) so x=true:=by unfold aZ;rw[if_neg hd,if_pos h3,hr];dsimp only;rw[if_pos hn]
     rw[hc]
     exact a8 rfl (aT (d:=x.1) (b:=false) (by simp[ha]) hf (bo (bL (bb:=false) (hw _ rfl) (decide_eq_false hd)) (bo (by rw[hni _ rfl,decide_eq_true h3];rfl) (aT (d:=v) (b:=false) (e5 _ rfl rfl rfl) hvf (bo (aM (b:=false) (aD (x:=v) (y:=.non) (b1:=false) (b2:=false) rfl rfl hvn)) (cI (bL (bb:=false) (hw _ rfl) (decide_eq_true hn)) (aI rfl)))))))
    ·have hc:aZ (aw rows known) so x=(dE (aw rows known) x.1 && iP so (aq 0 v) (aq 3 v) (aq 1 x.1) (a7 x.1)):=by unfold aZ;rw[if_neg hd,if_pos h3,hr];dsimp only;rw[if_neg hn]
     have hby:av [x.1,.str "by"]=some (.str (aq 1 x.1),false)/\aO [x.1]=some (.int (a7 x.1),false):=by
      refine⟨?_,by rw[yn gx];unfold wN;rw[hnr];rfl⟩
      obtain⟨a,k,a0,e,d⟩:=gx
      rw[e]at h3 hn ⊢
      replace h3:k∈gu:=h3
      cases d with
      | root=>exact absurd h3 (by decide +kernel)
      | named=>exact absurd rfl hn
      | chosen d b o p s=>exact bq (i:=1) (bj (by decide +kernel)) rfl
      | heir d b o p=>exact bq (i:=1) (bj (by decide +kernel)) rfl
      | three _ hk=>rcases hk with rfl|rfl|rfl<;>exact absurd h3 (by decide +kernel)
      | other _ hk=>rcases hk with rfl|rfl|rfl|rfl|rfl<;>exact absurd h3 (by decide +kernel)
     have hs:=Bc rows g.rp g.le known (cr hx)
     rw[CT hh]at hs
     have hheld:du [.lst (so.map clD),v,.str (aq 1 x.1),.int (a7 x.1)]=some (.bl (iP so (aq 0 v) (aq 3 v) (aq 1 x.1) (a7 x.1)),false):=by
      rw[ev]
      exact CQ so hso _ _
     rw[hc]
     refine a8 rfl (aT (d:=x.1) (b:=false) (by simp[ha]) hf (bo (bL (bb:=false) (hw _ rfl) (decide_eq_false hd)) (bo (by rw[hni _ rfl,decide_eq_true h3];rfl) (aT (d:=v) (b:=false) (e5 _ rfl rfl rfl) hvf (bo (aM (b:=false) (aD (x:=v) (y:=.non) (b1:=false) (b2:=false) rfl rfl hvn)) (bo (bL (bb:=false) (hw _ rfl) (decide_eq_false hn)) (aI ?_)))))))
     exact kP (b1:=false) (ai (ds:=[.tup rows,.int known,.int x.2]) rfl hs) λ_=>ai (ds:=[.lst (so.map clD),v,.str (aq 1 x.1),.int (a7 x.1)]) (ar (b:=false) rfl (ar (b:=false) rfl (ar (ai (ds:=[x.1,.str "by"]) rfl hby.1) (ar (ai (ds:=[x.1]) rfl hby.2) rfl)))) hheld
  ·have hc:aZ (aw rows known) so x=false:=by unfold aZ;rw[if_neg hd,if_neg h3]
   rw[hc]
   exact a8 rfl (aT (d:=x.1) (b:=false) (by simp[ha]) hf (bo (bL (bb:=false) (hw _ rfl) (decide_eq_false hd)) (cI (by rw[hni _ rfl,decide_eq_false h3];rfl) (aI rfl))))
def cO (offs:List Str) (p:Str) (day:Int) (c:Cl):List Cl :=
 if(!decide (c.o∈offs) || (!decide (c.p=p) || !(cb c day || decide (day<c.s))))=true then [c]else if c.s<day then [⟨c.o,p,c.s,some day,c.n⟩]else []
def aY (so:List Cl) (offs:List Str) (p:Str) (day:Int):List Cl:=so.flatMap (cO offs p day)
theorem dF (offs:List Str) (p:Str) (day:Int):∀so:List Cl,(aY so offs p day).length<=so.length
 | []=>Nat.le_refl _
 | c::so=>by
  unfold aY
  rw[List.flatMap_cons,List.length_append,List.length_cons]
  have h1:=dF offs p day so
  have h2:(cO offs p day c).length<=1:=by
   unfold cO
   split
   ·simp
   ·split<;>simp
  unfold aY at h1
  omega
theorem wR (k:Str) (ws:List Str):eM (.str k) (.lst (ws.map .str))=some (.bl (!decide (k∈ws)),false):=by
 simp only[eM,fg,Option.bind_some,oh]
 rw[if_pos ⟨rfl,kW ws⟩]
theorem uY (so:List Cl) (hso:so.length<=60) (offs:List Str) (p:Str) (day:Int):iw [.lst (so.map clD),.lst (offs.map .str),.str p,.int day]=some (.lst ((aY so offs p day).map clD),true):=by
 obtain⟨ρ',e,v5,rfl⟩:=eQ (tg:=tgN 5) (g:=nV) (λj ρ=>∃v5:Option (D×Bool),ρ=[some (.lst (so.map clD),false),some (.lst (offs.map .str),false),some (.str p,false),some (.int day,false),some (.lst ((aY (so.take j) offs p day).map clD),true),v5]) (so.map clD)
  [some (.lst (so.map clD),false),some (.lst (offs.map .str),false),some (.str p,false),some (.int day,false),some (.lst [],true),none] ⟨none,rfl⟩ (by
   rintro j d ρ hd ⟨v5,rfl⟩
   rw[List.getElem?_map]at hd
   obtain⟨c,hc,rfl⟩:=oY hd
   have hj:j<so.length:=(List.getElem?_eq_some_iff.mp hc).1
   have et:aY (so.take (j+1)) offs p day=aY (so.take j) offs p day++cO offs p day c:=by
    unfold aY
    rw[List.take_add_one,hc,Option.toList_some,List.flatMap_append,List.flatMap_cons,List.flatMap_nil,List.append_nil]
   have hlen:(aY (so.take j) offs p day).length<=60:=Nat.le_trans (dF offs p day _) (by rw[List.length_take];omega)
   let ρ1:DL.Env:=[some (.lst (so.map clD),false),some (.lst (offs.map .str),false),some (.str p,false),some (.int day,false),some (.lst ((aY (so.take j) offs p day).map clD),true),some (clD c,false)]
   have q0:f2 ixD (ag 5) (fC (.int 0)) ρ1=some (.str c.o,false):=aD (x:=clD c) (y:=.int 0) (b1:=false) (b2:=false) rfl rfl (cl0 c)
   have q1:f2 ixD (ag 5) (fC (.int 1)) ρ1=some (.str c.p,false):=aD (x:=clD c) (y:=.int 1) (b1:=false) (b2:=false) rfl rfl (cl1 c)
   have q2:f2 ixD (ag 5) (fC (.int 2)) ρ1=some (.int c.s,false):=aD (x:=clD c) (y:=.int 2) (b1:=false) (b2:=false) rfl rfl (cl2 c)
   have q4:f2 ixD (ag 5) (fC (.int 4)) ρ1=some (.int c.n,false):=aD (x:=clD c) (y:=.int 4) (b1:=false) (b2:=false) rfl rfl (cl4 c)
   have hcond:iC (tOf (f2 eM (f2 ixD (ag 5) (fC (.int 0))) (ag 1))) (iC (tOf (f2 dNe (f2 ixD (ag 5) (fC (.int 1))) (ag 2))) (iI (iC (tOf (fA bv (ae (ag 5) (ae (ag 3) ak)))) (tOf (f2 iGt (f2 ixD (ag 5) (fC (.int 2))) (ag 3)))))) ρ1=some (!decide (c.o∈offs) || (!decide (c.p=p) || !(cb c day || decide (day<c.s)))) :=
    nJ (aM (b:=false) (aD (x:=.str c.o) (y:=.lst (offs.map .str)) (b1:=false) (b2:=false) q0 rfl (wR _ _))) λ_=>nJ (aM (b:=false) (aD (x:=.str c.p) (y:=.str p) (b1:=false) (b2:=false) q1 rfl (by simp))) λ_=>sk (nJ (aM (b:=false) (ai (ds:=[clD c,.int day]) rfl (ou c day))) λ_=>aM (b:=false) (aD (x:=.int c.s) (y:=.int day) (b1:=false) (b2:=false) q2 rfl (by simp)))
   by_cases h1:(!decide (c.o∈offs) || (!decide (c.p=p) || !(cb c day || decide (day<c.s))))=true
   ·have eo:cO offs p day c=[c]:=by unfold cO;rw[if_pos h1]
    rw[h1]at hcond
    refine⟨_,_,rfl,.inl (nH hcond (gQ (ds:=(aY (so.take j) offs p day).map clD) (d:=clD c) (b:=false) rfl rfl (gW c) (bJ (by simp;omega)))),some (clD c,false), ?_⟩
    rw[et,eo,List.map_append]
    rfl
   ·rw[Bool.not_eq_true]at h1
    rw[h1]at hcond
    by_cases h2:c.s<day
    ·have eo:cO offs p day c=[⟨c.o,p,c.s,some day,c.n⟩]:=by unfold cO;rw[if_neg (by rw[h1];decide),if_pos h2]
     refine⟨_,_,rfl,.inl (jO hcond (nH (aM (b:=false) (aD (x:=.int c.s) (y:=.int day) (b1:=false) (b2:=false) q2 rfl (by simp[h2]))) (gQ (ds:=(aY (so.take j) offs p day).map clD) (d:=clD ⟨c.o,p,c.s,some day,c.n⟩) (b:=false) rfl (ai (ds:=[.str c.o,.str p,.int c.s,.int day,.int c.n]) (ar q0 (ar (b:=false) rfl (ar q2 (ar (b:=false) rfl (ar q4 rfl))))) (cD _ (by simp))) (gW _) (bJ (by simp;omega))))),some (clD c,false), ?_⟩
     rw[et,eo,List.map_append]
     rfl
    ·have eo:cO offs p day c=[]:=by unfold cO;rw[if_neg (by rw[h1];decide),if_neg h2]
     refine⟨_,_,rfl,.inl (jO hcond (jO (aM (b:=false) (aD (x:=.int c.s) (y:=.int day) (b1:=false) (b2:=false) q2 rfl (by simp;omega))) rfl)),some (clD c,false), ?_⟩
     rw[et,eo,List.append_nil]
     rfl)
 have e':fJ (tgN 5) nV (so.map clD) [some (.lst (so.map clD),false),some (.lst (offs.map .str),false),some (.str p,false),some (.int day,false),some (.lst [],true),none]=some (.nx [some (.lst (so.map clD),false),some (.lst (offs.map .str),false),some (.str p,false),some (.int day,false),some (.lst ((aY so offs p day).map clD),true),v5]):=by
  rw[e]
  have:so.take (so.map clD).length=so:=by rw[List.length_map,List.take_length]
  rw[this]
 exact a8 rfl (cB (ds:=[]) (by simp[sizeLine]) rfl (d6 (jR (ds:=so.map clD) (by simp[t9]) e') (jP rfl)))
theorem DW {r:D}{o p:Str}(ho:av [r,.str "office"]=some (.str o,false)) (hp:av [r,.str "person"]=some (.str p,false)) (s:Int) (n:Nat):cJ [r,.int s,.int n]=some (clD ⟨o,p,s,none,n⟩,false) :=
 a8 rfl (aI (ai (ds:=[.str o,.str p,.int s,.non,.int n]) (ar (ai (ds:=[r,.str "office"]) rfl ho) (ar (ai (ds:=[r,.str "person"]) rfl hp) rfl)) (cD _ (by simp))))
theorem zr (so:List Cl) (hso:so.length<=60) {a d s:Int}{b o p:Str}(n:Nat):dw [.lst (so.map clD),row a ("chosen" : Str) [.int d,.str b,.str o,.str p,.int s],.int n]=some (.lst ((aY so [o] b s++[(⟨o,p,s,none,n⟩:Cl)]).map clD),true):=by
 let r:D:=row a ("chosen" : Str) [.int d,.str b,.str o,.str p,.int s]
 have ho:av [r,.str "office"]=some (.str o,false):=bq (i:=2) (bj (by decide +kernel)) rfl
 have hp:av [r,.str "person"]=some (.str p,false):=bq (i:=3) (bj (by decide +kernel)) rfl
 have hb:av [r,.str "by"]=some (.str b,false):=bq (i:=1) (bj (by decide +kernel)) rfl
 have hs:av [r,.str "since"]=some (.int s,false):=bq (i:=4) (bj (by decide +kernel)) rfl
 have hl:=dF [o] b s so
 refine a8 rfl (aT (d:=.int s) (b:=false) (ai (ds:=[r,.str "since"]) rfl hs) rfl (cB (ds:=(aY so [o] b s).map clD) (ai (ds:=[.lst (so.map clD),.lst ([o].map .str),.str b,.int s]) (ar (b:=false) rfl (ar (b:=true) (ai (ds:=[.str o]) (ar (ai (ds:=[r,.str "office"]) rfl ho) rfl) (gX _ (by simp))) (ar (ai (ds:=[r,.str "by"]) rfl hb) rfl))) (uY so hso [o] b s)) (fV _) (aI ?_)))
 refine aD (x:=.lst ((aY so [o] b s).map clD)) (y:=.lst [clD ⟨o,p,s,none,n⟩]) (b1:=false) (b2:=true) rfl (ai (ds:=[clD ⟨o,p,s,none,n⟩]) (ar (ai (ds:=[r,.int s,.int n]) rfl (DW ho hp s n)) rfl) (gX _ (by simp))) ?_
 rw[List.map_append]
 exact if_pos (bC (by rw[List.length_map,List.length_singleton];omega))
def iQ (hk:List (List Key)) (hv:List D) (o p:Str):Option Str:=match bw hk hv [.inr o,.inr p] with
 | some (.str h)=>some h
 | _=>none
def bU (K:KL) (hk:List (List Key)) (hv:List D) (p:Str) (day:Int) (n:Nat) (o:Str):List Cl:=match iQ hk hv o p with
 | some h=>if fD K h day=true then [⟨o,h,day,none,n⟩]else []
 | none=>[]
def bG (so:List Cl) (p:Str) (day:Int):List Str:=cX (dZ ((so.filter λc=>decide (c.p=p) && cb c day).map (·.o)))
def gZ (K:KL) (so:List Cl) (hk:List (List Key)) (hv:List D) (p:Str) (day:Int) (n:Nat):List Cl:=(bG so p day).flatMap (bU K hk hv p day n)
theorem jp (K:KL) (hk:List (List Key)) (hv:List D) (p:Str) (day:Int) (n:Nat) (o:Str):(bU K hk hv p day n o).length<=1:=by
 unfold bU
 split
 ·split<;>simp
 ·simp
theorem o6 {α β:Type}(f:α->List β) (h:∀a,(f a).length<=1):∀l:List α,(l.flatMap f).length<=l.length
 | []=>Nat.le_refl _
 | a::l=>by
  rw[List.flatMap_cons,List.length_append,List.length_cons]
  have:=h a
  have:=o6 f h l
  omega
theorem uZ (so:List Cl) (p:Str) (day:Int):(bG so p day).length<=so.length:=by
 unfold bG
 rw[(bi _).length_eq]
 refine Nat.le_trans (jE _) ?_
 rw[List.length_map]
 exact List.length_filter_le _ _
theorem sD {rows:List D}(g:dU rows) (known:Int) (so:List Cl) (hso:so.length<=60) (hk:List (List Key)) (hv:List D) (hhv:∀v∈hv,∃s,v=.str s) {x:D×Nat}(hx:x∈aw rows known) {a d:Int}{p:Str}(e:x.1=row a ("death" : Str) [.int d,.str p]) :
  ft [.tup rows,.int known,.lst (so.map clD),.dt hk hv,.int x.2]=some (.lst ((gZ (aw rows known) so hk hv p d x.2).map clD),true):=by
 have ha:=(cz g hx).1
 have hpart:av [x.1,.str "person"]=some (.str p,false):=by rw[e];exact bq (i:=1) (bj (by decide +kernel)) rfl
 have hday:aO [x.1]=some (.int d,false):=by rw[e];exact fT (.inl (by decide +kernel)) rfl
 have holen:=uZ so p d
 have hstep:∀(o:Str) (l:List Cl) (v9:Option (D×Bool)),l.length<=60->eE [some (.tup rows,false),some (.int known,false),some (.lst (so.map clD),false),some (.dt hk hv,false),some (.int x.2,false),some (.str p,false),some (.int d,false),some (.lst (l.map clD),true),some (.str o,false),v9]=some (.nx [some (.tup rows,false),some (.int known,false),some (.lst (so.map clD),false),some (.dt hk hv,false),some (.int x.2,false),some (.str p,false),some (.int d,false),some (.lst ((l++bU (aw rows known) hk hv p d x.2 o).map clD),true),some (.str o,false),some ((bw hk hv [.inr o,.inr p]).getD .non,false)]):=λo l v9 hl=>by
  have eg:AO (ag 3) (ae (ag 8) (ae (ag 5) ak)) [some (.tup rows,false),some (.int known,false),some (.lst (so.map clD),false),some (.dt hk hv,false),some (.int x.2,false),some (.str p,false),some (.int d,false),some (.lst (l.map clD),true),some (.str o,false),v9]=some ((bw hk hv [.inr o,.inr p]).getD .non,false):=by
   simp[fj,sizeLine]
  cases hlk:bw hk hv [.inr o,.inr p] with
  | none =>
   rw[hlk]at eg
   have ei:bU (aw rows known) hk hv p d x.2 o=[]:=by unfold bU iQ;rw[hlk]
   rw[ei,List.append_nil]
   exact aT (d:=.non) (b:=false) eg rfl (jO (dI (p:=false) (q:=false) (aM (b:=false) (by simp)) (by simp)) rfl)
  | some v =>
   obtain⟨h,rfl⟩:=hhv v (gY hlk)
   rw[hlk]at eg
   have hlv:=uT rows g.rp g.le known h d
   rw[CS]at hlv
   have hand:∀ρ:DL.Env,ρ[0]? = some (some (.tup rows,false))->ρ[1]? = some (some (.int known,false))->ρ[6]? = some (some (.int d,false))->ρ[9]? = some (some (.str h,false))->dM (tOf (f2 jd (ag 9) (fC .non))) (tOf (fA gm (ae (ag 0) (ae (ag 1) (ae (ag 9) (ae (ag 6) ak)))))) ρ=some (true && fD (aw rows known) h d):=λρ q0 q1 q6 q9 =>
    dI (aM (b:=false) (by simp[q9])) λ_=>aM (b:=false) (ai (ds:=[.tup rows,.int known,.str h,.int d]) (by simp[q0,q1,q6,q9]) hlv)
   cases hl2:fD (aw rows known) h d with
   | false =>
    have ei:bU (aw rows known) hk hv p d x.2 o=[]:=by unfold bU iQ;rw[hlk];dsimp only;rw[hl2];rfl
    rw[ei,List.append_nil]
    exact aT (d:=.str h) (b:=false) eg rfl (jO (by rw[hand _ rfl rfl rfl rfl,hl2];rfl) rfl)
   | true =>
    have ei:bU (aw rows known) hk hv p d x.2 o=[⟨o,h,d,none,x.2⟩]:=by unfold bU iQ;rw[hlk];dsimp only;rw[hl2];rfl
    rw[ei,List.map_append]
    exact aT (d:=.str h) (b:=false) eg rfl (nH (by rw[hand _ rfl rfl rfl rfl,hl2];rfl) (gQ (ds:=l.map clD) (d:=clD ⟨o,h,d,none,x.2⟩) (b:=false) rfl (ai (ds:=[.str o,.str h,.int d,.non,.int x.2]) rfl (cD _ (by simp))) rfl (bJ (by simp;omega))))
 obtain⟨ρ',el,v8,v9,rfl⟩:=eQ (tg:=tgN 8) (g:=eE) (λj ρ=>∃v8 v9:Option (D×Bool),ρ=[some (.tup rows,false),some (.int known,false),some (.lst (so.map clD),false),some (.dt hk hv,false),some (.int x.2,false),some (.str p,false),some (.int d,false),some (.lst ((((bG so p d).take j).flatMap (bU (aw rows known) hk hv p d x.2)).map clD),true),v8,v9]) ((bG so p d).map .str)
  [some (.tup rows,false),some (.int known,false),some (.lst (so.map clD),false),some (.dt hk hv,false),some (.int x.2,false),some (.str p,false),some (.int d,false),some (.lst [],true),none,none] ⟨none,none,rfl⟩ (by
   rintro j dd ρ hd ⟨v8,v9,rfl⟩
   rw[List.getElem?_map]at hd
   obtain⟨o,ho,rfl⟩:=oY hd
   have hl:(((bG so p d).take j).flatMap (bU (aw rows known) hk hv p d x.2)).length<=60:=Nat.le_trans (o6 _ (jp _ _ _ _ _ _) _) (by rw[List.length_take];omega)
   refine⟨_,_,rfl,.inl (hstep o _ v9 hl),some (.str o,false),some ((bw hk hv [.inr o,.inr p]).getD .non,false), ?_⟩
   rw[List.take_add_one,ho,Option.toList_some,List.flatMap_append,List.flatMap_cons,List.flatMap_nil,List.append_nil])
 have e':fJ (tgN 8) eE ((bG so p d).map .str) [some (.tup rows,false),some (.int known,false),some (.lst (so.map clD),false),some (.dt hk hv,false),some (.int x.2,false),some (.str p,false),some (.int d,false),some (.lst [],true),none,none]=some (.nx [some (.tup rows,false),some (.int known,false),some (.lst (so.map clD),false),some (.dt hk hv,false),some (.int x.2,false),some (.str p,false),some (.int d,false),some (.lst ((gZ (aw rows known) so hk hv p d x.2).map clD),true),v8,v9]):=by
  rw[el]
  have:(bG so p d).take ((bG so p d).map D.str).length=bG so p d:=by rw[List.length_map,List.take_length]
  rw[this]
  rfl
 have hset:∀ρ:DL.Env,ρ[2]? = some (some (.lst (so.map clD),false))->ρ[5]? = some (some (.str p,false))->ρ[6]? = some (some (.int d,false))->cE (f1 dQ (c8 (cE (ag 2)) 1 [5,6] (tgN 0) (dM (tOf (f2 dEq (f2 ixD (ag 0) (fC (.int 1))) (ag 1))) (tOf (fA bv (ae (ag 0) (ae (ag 2) ak))))) (f2 ixD (ag 0) (fC (.int 0))))) ρ=some ((bG so p d).map .str):=λρ q2 q5 q6=>by
  have hc:=lG (fi:=cE (ag 2)) (nT:=1) (cap:=[5,6]) (tg:=tgN 0) (c:=dM (tOf (f2 dEq (f2 ixD (ag 0) (fC (.int 1))) (ag 1))) (tOf (fA bv (ae (ag 0) (ae (ag 2) ak))))) (fe:=f2 ixD (ag 0) (fC (.int 0))) (ρ:=ρ) so clD (λc=>decide (c.p=p) && cb c d) (λc=>.str c.o) (by simp[q2]) (by omega) λc hc =>
   ⟨_,rfl,dI (aM (b:=false) (aD (x:=.str c.p) (y:=.str p) (b1:=false) (b2:=false) (aD (x:=clD c) (y:=.int 1) (b1:=false) (b2:=false) (by simp[bM]) rfl (cl1 c)) (by simp[bM,q5]) (by simp))) λ_=>aM (b:=false) (ai (ds:=[clD c,.int d]) (by simp[bM,q6]) (ou c d)),λ_=>⟨false,aD (x:=clD c) (y:=.int 0) (b1:=false) (b2:=false) (by simp[bM]) rfl (cl0 c)⟩⟩
  have e2:(so.filter λc=>decide (c.p=p) && cb c d).map (λc=>D.str c.o)=((so.filter λc=>decide (c.p=p) && cb c d).map (·.o)).map .str:=by rw[List.map_map];rfl
  rw[e2]at hc
  show(f1 dQ _ ρ).bind _=_
  unfold f1
  rw[hc,Option.bind_some]
  have hln:((so.filter λc=>decide (c.p=p) && cb c d).map (·.o)).length<64:=by rw[List.length_map];exact Nat.lt_of_le_of_lt (List.length_filter_le _ _) (by omega)
  show((eN _).bind _).bind _=_
  rw[o5,Option.bind_some,if_pos hln]
  rfl
 refine a8 rfl (aT (d:=.str p) (b:=false) (ai (ds:=[x.1,.str "person"]) (by simp[ha]) hpart) rfl (aT (d:=.int d) (b:=false) (ai (ds:=[x.1]) (by simp[ha]) hday) rfl (cB (ds:=[]) (by simp[sizeLine]) rfl (d6 (ρ':=[some (.tup rows,false),some (.int known,false),some (.lst (so.map clD),false),some (.dt hk hv,false),some (.int x.2,false),some (.str p,false),some (.int d,false),some (.lst ((gZ (aw rows known) so hk hv p d x.2).map clD),true),v8,v9]) ?_ (jP rfl)))))
 exact jR (ρ:=[some (.tup rows,false),some (.int known,false),some (.lst (so.map clD),false),some (.dt hk hv,false),some (.int x.2,false),some (.str p,false),some (.int d,false),some (.lst [],true),none,none]) (hset _ rfl rfl rfl) e'
theorem Bi {rows:List D}(g:dU rows) (known:Int) (so:List Cl) (hso:so.length<=60) (hk:List (List Key)) (hv:List D) (hhv:∀v∈hv,∃s,v=.str s) {x:D×Nat}(hx:x∈aw rows known) {a d:Int}{p:Str}(e:x.1=row a ("death" : Str) [.int d,.str p]) :
  dJ [.tup rows,.int known,.lst (so.map clD),.dt hk hv,.int x.2]=some (.lst ((aY so (so.map Cl.o) p d++gZ (aw rows known) so hk hv p d x.2).map clD),true):=by
 have ha:=(cz g hx).1
 have hpart:av [x.1,.str "person"]=some (.str p,false):=by rw[e];exact bq (i:=1) (bj (by decide +kernel)) rfl
 have hday:aO [x.1]=some (.int d,false):=by rw[e];exact fT (.inl (by decide +kernel)) rfl
 have h1:=nK (fi:=cE (ag 2)) (nT:=1) (cap:=[]) (tg:=tgN 0) (fe:=f2 ixD (ag 0) (fC (.int 0))) (ρ:=[some (.tup rows,false),some (.int known,false),some (.lst (so.map clD),false),some (.dt hk hv,false),some (.int x.2,false),none,none]) so clD (λc=>.str c.o) (by simp) (by omega) λc hc=>⟨_,rfl,false,aD (x:=clD c) (y:=.int 0) (b1:=false) (b2:=false) (by simp[bM]) rfl (cl0 c)⟩
 have e2:so.map (λc=>D.str c.o)=(so.map Cl.o).map .str:=by rw[List.map_map];rfl
 rw[e2]at h1
 have hl1:=dF (so.map Cl.o) p d so
 have hl2:(gZ (aw rows known) so hk hv p d x.2).length<=60:=Nat.le_trans (o6 _ (jp _ _ _ _ _ _) _) (Nat.le_trans (uZ so p d) hso)
 refine a8 rfl (cB (ds:=(so.map Cl.o).map .str) h1 (dS _) (cB (ds:=(aY so (so.map Cl.o) p d).map clD) (ai (ds:=[.lst (so.map clD),.lst ((so.map Cl.o).map .str),.str p,.int d]) (ar (b:=false) rfl (ar (b:=false) rfl (ar (b:=false) (ai (ds:=[x.1,.str "person"]) (by simp[ha]) hpart) (ar (b:=false) (ai (ds:=[x.1]) (by simp[ha]) hday) rfl)))) (uY so hso _ p d)) (fV _) (aI ?_)))
 refine aD (x:=.lst ((aY so (so.map Cl.o) p d).map clD)) (y:=.lst ((gZ (aw rows known) so hk hv p d x.2).map clD)) (b1:=false) (b2:=true) rfl (ai (ds:=[.tup rows,.int known,.lst (so.map clD),.dt hk hv,.int x.2]) rfl (sD g known so hso hk hv hhv hx e)) ?_
 rw[List.map_append]
 exact if_pos (bC (by rw[List.length_map,List.length_map];omega))
abbrev St3:=List Cl×List (List Key)×List D
def bS (K:KL) (st:St3) (x:D×Nat):St3 :=
 if aZ K st.1 x=true then
  if kindOf x.1=("named" : Str)then (st.1++[⟨aq 1 x.1,aq 2 x.1,a7 x.1,none,x.2⟩],st.2)
  else if kindOf x.1=("chosen" : Str)then (aY st.1 [aq 2 x.1] (aq 1 x.1) (kc 4 x.1)++[⟨aq 2 x.1,aq 3 x.1,kc 4 x.1,none,x.2⟩],st.2)
  else if kindOf x.1=("heir" : Str)then (st.1,bY st.2.1 [.inr (aq 2 x.1),.inr (aq 1 x.1)],bZ st.2.1 st.2.2 [.inr (aq 2 x.1),.inr (aq 1 x.1)] (.str (aq 3 x.1)))
  else (aY st.1 (st.1.map Cl.o) (aq 1 x.1) (a7 x.1)++gZ K st.1 st.2.1 st.2.2 (aq 1 x.1) (a7 x.1) x.2,st.2)
 else st
def cZ (K:KL):KL:=dr (λx=>ce (kA x)) (K.filter λx=>!aS x.1)
def iR (K:KL) (l:KL):St3:=l.foldl (bS K) ([],[],[])
def kC (c:Cl):List At:=[.s c.o,.i c.s,.i c.n]
def b8 (K:KL):List Cl:=dr (λc=>ce (kC c)) (iR K (cZ K)).1
def wS:List Key->Str
 | [_,.inr p]=>p
 | _=>("" : Str)
def lvK (dd:List Str) (ks:List (List Key)):Nat:=(ks.filter λk=>decide (wS k∉dd)).length
structure SoOk (K l:KL) (dd:List Str) (st:St3):Prop where
 len:st.1.length+lvK dd st.2.1<=l.length
 ded:∀q∈dd,∃y∈l,d3 K q (a7 y.1) y.2=true
 nod:(st.1.map λc=>(c.o,c.n)).Nodup
 num:∀c∈st.1,c.n∈l.map (·.2)
 hs:∀v∈st.2.2,∃s,v=D.str s
 hk:st.2.1.length<=l.length
theorem yr {ws:List Str}{p:Str}{d:Int}{r:D}(h:told ws p d r=true):a7 r<=d/\∀d',a7 r<=d'->told ws p d' r=true:=by
 unfold told at h
 split at h
 ·rename_i k a0
  rw[Bool.and_eq_true]at h
  obtain⟨h1,h2⟩:=h
  unfold lM at h2
  split at h2
  ·rename_i dd q
   rw[Bool.and_eq_true]at h2
   refine⟨of_decide_eq_true h2.2,λd' hd=>?_⟩
   unfold told
   rw[Bool.and_eq_true]
   refine⟨h1, ?_⟩
   unfold lM
   rw[Bool.and_eq_true]
   exact⟨h2.1,decide_eq_true hd⟩
  ·cases h2
 ·cases h
theorem o7:∀(r:KL) (b:D×Nat),gB b r∈b::r/\∀y∈b::r,d7 y (gB b r)=false
 | [],b=>⟨by simp[gB],λy hy=>by rw[List.mem_singleton.mp hy];simp[gB,d7]⟩
 | x::r,b=>by
  rw[gB,om]
  by_cases h:d7 x b=true
  ·rw[if_pos (by rw[h])]
   obtain⟨h1,h2⟩:=o7 r x
   refine⟨mZ _ h1,λy hy=>?_⟩
   rcases List.mem_cons.mp hy with rfl|hy
   ·have:=h2 x mX
    unfold d7 at *
    simp at *
    omega
   ·exact h2 y hy
  ·rw[if_neg (by simpa using h)]
   obtain⟨h1,h2⟩:=o7 r b
   refine⟨?_,λy hy=>?_⟩
   ·rcases List.mem_cons.mp h1 with e|e
    ·rw[e];exact mX
    ·exact mZ _ (mZ _ e)
   ·rcases List.mem_cons.mp hy with rfl|hy
    ·exact h2 _ mX
    ·rcases List.mem_cons.mp hy with rfl|hy
     ·have:=h2 b mX
      unfold d7 at *
      simp at *
      omega
     ·exact h2 y (mZ _ hy)
theorem o8 {K:KL}{p:Str}{d:Int}{i:Nat}(h:d3 K p d i=true):∃m∈K,told cq p d m.1=true/\m.2=i/\∀y∈K,told cq p d y.1=true->d7 y m=false:=by
 unfold d3 at h
 split at h
 ·cases h
 ·rename_i b r e
  obtain⟨h1,h2⟩:=o7 r b
  rw[←e]at h1 h2
  obtain⟨h3,h4⟩:=List.mem_filter.mp h1
  exact⟨_,h3,h4,of_decide_eq_true h,λy hy ht=>h2 y (List.mem_filter.mpr ⟨hy,ht⟩)⟩
theorem wT {K:KL}{p:Str}{d1 d2:Int}{i1 i2:Nat}(h1:d3 K p d1 i1=true) (h2:d3 K p d2 i2=true):i1=i2:=by
 obtain⟨m1,k1,t1,e1,q1⟩:=o8 h1
 obtain⟨m2,k2,t2,e2,q2⟩:=o8 h2
 have a1:=yr t1
 have a2:=yr t2
 by_cases hd:d1<=d2
 ·have z1:=q2 m1 k1 (a1.2 d2 (by omega))
  have hm:a7 m2.1<=a7 m1.1:=by unfold d7 at z1;simp at z1;omega
  have z2:=q1 m2 k2 (a2.2 d1 (by omega))
  unfold d7 at z1 z2
  simp at z1 z2
  omega
 ·have z1:=q1 m2 k2 (a2.2 d1 (by omega))
  have hm:a7 m1.1<=a7 m2.1:=by unfold d7 at z1;simp at z1;omega
  have z2:=q2 m1 k1 (a1.2 d2 (by omega))
  unfold d7 at z1 z2
  simp at z1 z2
  omega
theorem vc {κ:Type}[DecidableEq κ]:∀ {ks:List κ}{vs:List D}{k:κ}{v:D},bw ks vs k=some v->k∈ks
 | k'::ks,d::ds,k,v,h=>by
  unfold bw at h
  split at h
  ·rename_i e;rw[←e];exact mX
  ·exact mZ _ (vc h)
 | [],_,_,_,h=>by simp[bw]at h
 | _::_,[],_,_,h=>by simp[bw]at h
theorem o9 (p:Str) (dd:List Str) (hp:p∉dd):∀ks:List (List Key),lvK dd ks=lvK (p::dd) ks+(ks.filter λk=>decide (wS k=p)).length
 | []=>rfl
 | k::ks=>by
  have ih:=o9 p dd hp ks
  unfold lvK at ih ⊢
  by_cases e:wS k=p
  ·rw[List.filter_cons_of_pos (by simpa [e]using hp),List.filter_cons_of_neg (by simp[e]),List.filter_cons_of_pos (by simp[e]),List.length_cons,List.length_cons]
   omega
  ·by_cases h:wS k∈dd
   ·rw[List.filter_cons_of_neg (by simp[h]),List.filter_cons_of_neg (by simp[h]),List.filter_cons_of_neg (by simp[e])]
    exact ih
   ·rw[List.filter_cons_of_pos (by simp[h]),List.filter_cons_of_pos (by simp[h,e]),List.filter_cons_of_neg (by simp[e]),List.length_cons,List.length_cons]
    omega
theorem i7 (offs:List Str) (p:Str) (day:Int):∀so:List Cl,((aY so offs p day).map λc=>(c.o,c.n)).Sublist (so.map λc=>(c.o,c.n))
 | []=>List.Sublist.slnil
 | c::so=>by
  have ih:=i7 offs p day so
  unfold aY at ih ⊢
  rw[List.flatMap_cons,List.map_append,List.map_cons]
  have:((cO offs p day c).map λc=>(c.o,c.n))=[(c.o,c.n)]∨((cO offs p day c).map λc=>(c.o,c.n))=[]:=by
   unfold cO
   split
   ·exact .inl rfl
   ·split
    ·exact .inl rfl
    ·exact .inr rfl
  rcases this with h|h
  ·rw[h];exact ih.cons₂ _
  ·rw[h];exact ih.cons _
theorem iA {offs:List Str}{p:Str}{day:Int}{so:List Cl}{c:Cl}(h:c∈aY so offs p day):∃c'∈so,c'.o=c.o/\c'.n=c.n:=by
 have:=(i7 offs p day so).subset (List.mem_map.mpr ⟨c,h,rfl⟩)
 obtain⟨c',h1,h2⟩:=List.mem_map.mp this
 injection h2 with h3 h4
 exact⟨c',h1,h3,h4⟩
theorem fY:∀(ss ts:List Str),ts.Nodup->(ss.foldl eD ts).Nodup
 | [],_,h=>h
 | s::ss,ts,h=>fY ss _ (wu h s)
theorem d4:∀(ss ts:List Str) (x:Str),x∈ss.foldl eD ts->x∈ts∨x∈ss
 | [],_,_,h=>.inl h
 | s::ss,ts,x,h=>by
  rcases d4 ss _ x h with h|h
  ·rcases mV.mp h with h|h
   ·exact .inl h
   ·exact .inr (by rw[h];exact mX)
  ·exact .inr (mZ _ h)
theorem oB (so:List Cl) (p:Str) (day:Int):(bG so p day).Nodup:=(bi _).nodup_iff.mpr (fY _ [] List.nodup_nil)
theorem Bj {so:List Cl}{p:Str}{day:Int}{o:Str}(h:o∈bG so p day):∃c∈so,c.o=o:=by
 have h1:=(bi _).mem_iff.mp h
 rcases d4 _ _ _ h1 with h|h
 ·cases h
 ·obtain⟨c,hc,e⟩:=List.mem_map.mp h
  exact⟨c,(List.mem_filter.mp hc).1,e⟩
theorem ve (K:KL) (hk:List (List Key)) (hv:List D) (p:Str) (day:Int) (n:Nat):∀os:List Str,((os.flatMap (bU K hk hv p day n)).map λc=>(c.o,c.n)).Sublist (os.map λo=>(o,n))
 | []=>List.Sublist.slnil
 | o::os=>by
  have ih:=ve K hk hv p day n os
  rw[List.flatMap_cons,List.map_append,List.map_cons]
  have:((bU K hk hv p day n o).map λc=>(c.o,c.n))=[(o,n)]∨((bU K hk hv p day n o).map λc=>(c.o,c.n))=[]:=by
   unfold bU
   split
   ·split
    ·exact .inl rfl
    ·exact .inr rfl
   ·exact .inr rfl
  rcases this with h|h
  ·rw[h];exact ih.cons₂ _
  ·rw[h];exact ih.cons _
theorem qG {α:Type}[DecidableEq α]:∀(l m:List α),l.Nodup->(∀x∈l,x∈m)->l.length<=m.length
 | [],_,_,_=>Nat.zero_le _
 | x::l,m,h,s=>by
  rw[List.nodup_cons]at h
  have hx:=s x mX
  have:=qG l (m.erase x) h.2 λy hy=>(List.mem_erase_of_ne (a:=y) (b:=x) (λe=>h.1 (by rw[←e];exact hy))).mpr (s y (mZ _ hy))
  rw[List.length_erase_of_mem hx]at this
  have:0<m.length:=List.length_pos_of_mem hx
  rw[List.length_cons]
  omega
theorem qH {α β:Type}(f:α->List β) (q:α->Bool) (h:∀a,(f a).length<=1/\(q a=false->f a=[])):∀l:List α,(l.flatMap f).length<=(l.filter q).length
 | []=>Nat.le_refl _
 | a::l=>by
  have ih:=qH f q h l
  rw[List.flatMap_cons,List.length_append]
  cases hq:q a with
  | true=>rw[List.filter_cons_of_pos hq,List.length_cons];have:=(h a).1;omega
  | false=>rw[List.filter_cons_of_neg (by rw[hq];decide),(h a).2 hq];simpa using ih
theorem CU (K:KL) (so:List Cl) (hk:List (List Key)) (hv:List D) (p:Str) (day:Int) (n:Nat):(gZ K so hk hv p day n).length<=(hk.filter λk=>decide (wS k=p)).length:=by
 refine Nat.le_trans (qH _ (λo=>(bw hk hv [.inr o,.inr p]).isSome) (λo=>⟨jp _ _ _ _ _ _ _,λh=>?_⟩) _) ?_
 ·have hl:bw hk hv [.inr o,.inr p]=none:=by simpa using h
  unfold bU iQ
  rw[hl]
 ·have hnd:(((bG so p day).filter λo=>(bw hk hv [.inr o,.inr p]).isSome).map λo=>([.inr o,.inr p]:List Key)).Nodup:=List.Pairwise.map _ (λa b hab e=>hab (by injection e with e _;injection e)) ((oB so p day).filter _)
  have:=qG _ (hk.filter λk=>decide (wS k=p)) hnd λk hm=>by
   obtain⟨o,ho,rfl⟩:=List.mem_map.mp hm
   obtain⟨v,hv⟩:=Option.isSome_iff_exists.mp (List.mem_filter.mp ho).2
   exact List.mem_filter.mpr ⟨vc hv,decide_eq_true rfl⟩
  rwa [List.length_map]at this
theorem SoOk.step {K l:KL}{dd:List Str}{st:St3}(h:SoOk K l dd st) {x:D×Nat}(hx:x.2∉l.map (·.2)):∃dd',SoOk K (l++[x]) dd' (bS K st x):=by
 have up:∀ {n:Nat},n∈l.map (·.2)->n∈(l++[x]).map (·.2):=λh=>by rw[List.map_append];exact List.mem_append_left _ h
 have me:x.2∈(l++[x]).map (·.2):=by simp
 have ll:(l++[x]).length=l.length+1:=by simp
 have dup:∀q∈dd,∃y∈l++[x],d3 K q (a7 y.1) y.2=true:=λq hq=>by
  obtain⟨y,h1,h2⟩:=h.ded q hq
  exact⟨y,List.mem_append_left _ h1,h2⟩
 have wk:SoOk K (l++[x]) dd st:=⟨by have:=h.len;omega,dup,h.nod,λc hc=>up (h.num c hc),h.hs,by have:=h.hk;omega⟩
 have hlen:=h.len
 unfold bS
 split
 ·rename_i hcount
  split
  ·refine⟨dd,by simp;omega,dup, ?_,λc hc=>?_,h.hs,by rw[ll];exact Nat.le_succ_of_le h.hk⟩
   ·rw[List.map_append,List.nodup_append]
    refine⟨h.nod,by simp,λa ha b hb e=>?_⟩
    obtain⟨c,hc,rfl⟩:=List.mem_map.mp ha
    simp at hb
    subst hb
    injection e with _ e2
    exact hx (e2 ▸ h.num c hc)
   ·rcases List.mem_append.mp hc with hc|hc
    ·exact up (h.num c hc)
    ·rw[List.mem_singleton.mp hc];exact me
  ·split
   ·have hl:=dF [aq 2 x.1] (aq 1 x.1) (kc 4 x.1) st.1
    refine⟨dd,by simp;omega,dup, ?_,λc hc=>?_,h.hs,by rw[ll];exact Nat.le_succ_of_le h.hk⟩
    ·rw[List.map_append,List.nodup_append]
     refine⟨h.nod.sublist (i7 _ _ _ _),by simp,λa ha b hb e=>?_⟩
     obtain⟨c,hc,rfl⟩:=List.mem_map.mp ha
     simp at hb
     subst hb
     injection e with _ e2
     obtain⟨c',h1,_,h3⟩:=iA hc
     exact hx (e2 ▸ h3 ▸ h.num c' h1)
    ·rcases List.mem_append.mp hc with hc|hc
     ·obtain⟨c',h1,_,h3⟩:=iA hc
      rw[←h3];exact up (h.num c' h1)
     ·rw[List.mem_singleton.mp hc];exact me
   ·split
    ·have hp:∀k:List Key,lvK dd (bY st.2.1 k)<=lvK dd st.2.1+1/\(bY st.2.1 k).length<=st.2.1.length+1:=λk=>by
      unfold bY
      split
      ·omega
      ·have:([k].filter λk=>decide (wS k∉dd)).length<=1:=List.length_filter_le _ _
       unfold lvK
       rw[List.filter_append,List.length_append,List.length_append,List.length_singleton]
       omega
     refine⟨dd, ?_,dup,wk.nod,wk.num,λv hv=>?_, ?_⟩
     ·have:=(hp [.inr (aq 2 x.1),.inr (aq 1 x.1)]).1
      rw[ll]
      show st.1.length+lvK dd (bY st.2.1 [.inr (aq 2 x.1),.inr (aq 1 x.1)])<=_
      omega
     ·rcases kZ hv with hv|hv
      ·exact⟨_,hv⟩
      ·exact h.hs v hv
     ·have:=(hp [.inr (aq 2 x.1),.inr (aq 1 x.1)]).2
      have:=h.hk
      rw[ll]
      show(bY _ _).length<=_
      omega
    ·rename_i n1 n2 n3
     have hd:kindOf x.1=("death" : Str):=by
      unfold aZ at hcount
      by_cases hd:kindOf x.1=("death" : Str)
      ·exact hd
      ·rw[if_neg hd,if_neg (by simp[gu,n1,n2,n3])]at hcount
       cases hcount
     have hf:d3 K (aq 1 x.1) (a7 x.1) x.2=true:=by unfold aZ at hcount;rwa [if_pos hd]at hcount
     have hnp:aq 1 x.1∉dd:=λhm=>by
      obtain⟨y,h1,h2⟩:=h.ded _ hm
      exact hx (by rw[←wT h2 hf];exact List.mem_map.mpr ⟨y,h1,rfl⟩)
     have hl:=dF (st.1.map Cl.o) (aq 1 x.1) (a7 x.1) st.1
     have hio:=CU K st.1 st.2.1 st.2.2 (aq 1 x.1) (a7 x.1) x.2
     have hks:=o9 (aq 1 x.1) dd hnp st.2.1
     have hik:=ve K st.2.1 st.2.2 (aq 1 x.1) (a7 x.1) x.2 (bG st.1 (aq 1 x.1) (a7 x.1))
     have him:∀c∈gZ K st.1 st.2.1 st.2.2 (aq 1 x.1) (a7 x.1) x.2,c.o∈bG st.1 (aq 1 x.1) (a7 x.1)/\c.n=x.2:=λc hc=>by
      have:=hik.subset (List.mem_map.mpr ⟨c,hc,rfl⟩)
      obtain⟨o,h1,h2⟩:=List.mem_map.mp this
      injection h2 with h3 h4
      exact⟨h3 ▸ h1,h4.symm⟩
     refine⟨aq 1 x.1::dd, ?_,λq hq=>?_, ?_,λc hc=>?_,h.hs,by rw[ll];exact Nat.le_succ_of_le h.hk⟩
     ·rw[ll]
      show(aY st.1 (st.1.map Cl.o) (aq 1 x.1) (a7 x.1)++gZ K st.1 st.2.1 st.2.2 (aq 1 x.1) (a7 x.1) x.2).length+lvK _ st.2.1<=_
      rw[List.length_append]
      omega
     ·rcases List.mem_cons.mp hq with rfl|hq
      ·exact⟨x,by simp,hf⟩
      ·exact dup q hq
     ·rw[List.map_append,List.nodup_append]
      refine⟨h.nod.sublist (i7 _ _ _ _),List.Nodup.sublist hik (List.Pairwise.map _ (λa b hab e=>hab (by injection e)) (oB _ _ _)),λa ha b hb e=>?_⟩
      obtain⟨c,hc,rfl⟩:=List.mem_map.mp ha
      obtain⟨c2,hc2,rfl⟩:=List.mem_map.mp hb
      injection e with _ e2
      obtain⟨c',h1,_,h3⟩:=iA hc
      exact hx ((him c2 hc2).2 ▸ e2 ▸ h3 ▸ h.num c' h1)
     ·rcases List.mem_append.mp hc with hc|hc
      ·obtain⟨c',h1,_,h3⟩:=iA hc
       rw[←h3];exact up (h.num c' h1)
      ·rw[(him c hc).2];exact me
 ·exact⟨dd,wk⟩
theorem CV {ρ:DL.Env}{i:Nat}{ks:List (List Key)}{vs:List D}{fk:FA}{fv:FE}{d:D}{b:Bool}{kd:List D}{kk:List Key}(e:ρ[i]? = some (some (.dt ks vs,true))) (ev:fv ρ=some (d,b)) (ek:fk ρ=some kd) (hk:fj kd=some kk) (hf:ba d=true) (h1:ks.length<=1000) (h2:kd.length<=1000):qm i fk fv ρ=some (.nx (ρ.set i (some (.dt (bY ks kk) (bZ ks vs kk d),true)))):=by
 unfold qm
 rw[e]
 dsimp only
 rw[ev,Option.bind_some,ek,Option.bind_some,hk,Option.bind_some,if_pos ⟨hf,bJ (by omega),bC (by omega)⟩]
theorem GN (a b:Cl):(aW (kC a) (kC b)).isSome=true:=by
 unfold kC
 rw[aW]
 split
 ·rw[aW]
  split
  ·rw[aW]
   split
   ·rw[aW];rfl
   ·rfl
  ·rfl
 ·rfl
theorem yt (cs:List Cl):cY (cs.map kC)=true:=by
 unfold cY
 simp[List.all_eq_true,GN]
theorem qI {α β:Type}(f:α->β):∀ {l:List α},(l.map f).Nodup->∀ {a b:α},a∈l->b∈l->f a=f b->a=b
 | [],_,_,_,ha,_,_=>by cases ha
 | c::l,h,a,b,ha,hb,e=>by
  rw[List.map_cons,List.nodup_cons]at h
  rcases List.mem_cons.mp ha with ea|ha1
  ·rcases List.mem_cons.mp hb with eb|hb1
   ·rw[ea,eb]
   ·exact absurd (List.mem_map.mpr ⟨b,hb1,by rw[←e,ea]⟩) h.1
  ·rcases List.mem_cons.mp hb with eb|hb1
   ·exact absurd (List.mem_map.mpr ⟨a,ha1,by rw[e,eb]⟩) h.1
   ·exact qI f h.2 ha1 hb1 e
theorem Bk {cs:List Cl}{a b:Cl}(ha:a∈cs) (hb:b∈cs) (e:ce (kC a)=ce (kC b)):(a.o,a.n)=(b.o,b.n):=by
 have h:=kK (yt cs) (List.mem_map.mpr ⟨a,ha,rfl⟩) (List.mem_map.mpr ⟨b,hb,rfl⟩) e
 unfold kC at h
 injection h with h1 h2
 injection h1 with h1
 injection h2 with _ h3
 injection h3 with h3 _
 injection h3 with h3
 rw[h1,show a.n=b.n by omega]
theorem CW {rows:List D}(g:dU rows) (known:Int) {l:KL}{dd:List Str}{st:St3}(h:SoOk (aw rows known) l dd st) (hj:l.length<=60) {x:D×Nat}(hx:x∈aw rows known) (hnr:aS x.1=false) (v5:Option (D×Bool)) :
  ∃w5,(iz [some (.tup rows,false),some (.int known,false),some (.lst (st.1.map clD),true),some (.dt st.2.1 st.2.2,true),some (.int x.2,false),v5]=some (.nx [some (.tup rows,false),some (.int known,false),some (.lst ((bS (aw rows known) st x).1.map clD),true),some (.dt (bS (aw rows known) st x).2.1 (bS (aw rows known) st x).2.2,true),some (.int x.2,false),w5])
   ∨ iz [some (.tup rows,false),some (.int known,false),some (.lst (st.1.map clD),true),some (.dt st.2.1 st.2.2,true),some (.int x.2,false),v5]=some (.ct [some (.tup rows,false),some (.int known,false),some (.lst ((bS (aw rows known) st x).1.map clD),true),some (.dt (bS (aw rows known) st x).2.1 (bS (aw rows known) st x).2.2,true),some (.int x.2,false),w5])):=by
 obtain⟨ha,gx⟩:=cz g hx
 have hso:st.1.length<=60:=by have:=h.len;omega
 have hf:ba x.1=true:=gx.rp.flat
 have ec:=zq g known st.1 hso hx hnr
 have ecall:iI (tOf (fA gS (ae (ag 0) (ae (ag 1) (ae (ag 2) (ae (ag 4) ak)))))) [some (.tup rows,false),some (.int known,false),some (.lst (st.1.map clD),true),some (.dt st.2.1 st.2.2,true),some (.int x.2,false),some (x.1,false)]=some (!aZ (aw rows known) st.1 x) :=
  sk (aM (b:=false) (ai (ds:=[.tup rows,.int known,.lst (st.1.map clD),.int x.2]) (by simp) ec))
 have hw:fA aE (ae (ag 5) ak) [some (.tup rows,false),some (.int known,false),some (.lst (st.1.map clD),true),some (.dt st.2.1 st.2.2,true),some (.int x.2,false),some (x.1,false)]=some (.str (kindOf x.1),false):=ai (ds:=[x.1]) rfl (wO gx)
 refine⟨some (x.1,false), ?_⟩
 cases hc:aZ (aw rows known) st.1 x with
 | false =>
  rw[hc]at ecall
  have es:bS (aw rows known) st x=st:=by unfold bS;rw[hc];rfl
  rw[es]
  exact .inr (aT (d:=x.1) (b:=false) (by simp[ha]) hf (HC (nH ecall rfl)))
 | true =>
  rw[hc]at ecall
  left
  refine aT (d:=x.1) (b:=false) (by simp[ha]) hf (d6 (jO ecall rfl) ?_)
  by_cases hn:kindOf x.1=("named" : Str)
  ·have es:bS (aw rows known) st x=(st.1++[⟨aq 1 x.1,aq 2 x.1,a7 x.1,none,x.2⟩],st.2):=by unfold bS;rw[hc,if_pos rfl,if_pos hn]
   rw[es]
   refine nH (bL (bb:=false) hw (decide_eq_true hn)) ?_
   have hpo:av [x.1,.str "office"]=some (.str (aq 1 x.1),false)/\av [x.1,.str "person"]=some (.str (aq 2 x.1),false):=by
    obtain⟨a,k,a0,e,d⟩:=gx
    rw[e]at hn ⊢
    replace hn:k=("named" : Str):=hn
    cases d with
    | named d o p=>exact⟨bq (i:=1) (bj (by decide +kernel)) rfl,bq (i:=2) (bj (by decide +kernel)) rfl⟩
    | root=>exact absurd hn (by decide +kernel)
    | chosen=>exact absurd hn (by decide +kernel)
    | heir=>exact absurd hn (by decide +kernel)
    | three _ hk=>rcases hk with rfl|rfl|rfl<;>exact absurd hn (by decide +kernel)
    | other _ hk=>rcases hk with rfl|rfl|rfl|rfl|rfl<;>exact absurd hn (by decide +kernel)
   have hday:aO [x.1]=some (.int (a7 x.1),false):=by rw[yn gx];unfold wN;rw[hnr];rfl
   have e2:f2 b7 (ag 2) (fA bN (ae (fA cJ (ae (ag 5) (ae (fA aO (ae (ag 5) ak)) (ae (ag 4) ak)))) ak)) [some (.tup rows,false),some (.int known,false),some (.lst (st.1.map clD),true),some (.dt st.2.1 st.2.2,true),some (.int x.2,false),some (x.1,false)]=some (.lst (st.1.map clD++[clD ⟨aq 1 x.1,aq 2 x.1,a7 x.1,none,x.2⟩]),true):=by
    refine aD (x:=.lst (st.1.map clD)) (y:=.lst [clD ⟨aq 1 x.1,aq 2 x.1,a7 x.1,none,x.2⟩]) (b1:=false) (b2:=true) rfl ?_ (if_pos (bC (by rw[List.length_map,List.length_singleton];omega)))
    exact ai (ds:=[clD ⟨aq 1 x.1,aq 2 x.1,a7 x.1,none,x.2⟩]) (ar (ai (ds:=[x.1,.int (a7 x.1),.int x.2]) (ar (b:=false) rfl (ar (b:=false) (ai (ds:=[x.1]) rfl hday) rfl)) (DW hpo.1 hpo.2 _ _)) rfl) (gX _ (by simp))
   have:=sj (i:=2) e2 (by have hq:=fV (st.1++[(⟨aq 1 x.1,aq 2 x.1,a7 x.1,none,x.2⟩:Cl)]);rwa [List.map_append]at hq)
   rw[List.map_append]
   exact this
  ·refine jO (bL (bb:=false) hw (decide_eq_false hn)) ?_
   by_cases hch:kindOf x.1=("chosen" : Str)
   ·have es:bS (aw rows known) st x=(aY st.1 [aq 2 x.1] (aq 1 x.1) (kc 4 x.1)++[⟨aq 2 x.1,aq 3 x.1,kc 4 x.1,none,x.2⟩],st.2):=by unfold bS;rw[hc,if_pos rfl,if_neg hn,if_pos hch]
    rw[es]
    refine nH (bL (bb:=false) hw (decide_eq_true hch)) (sj (i:=2) (ai (ds:=[.lst (st.1.map clD),x.1,.int x.2]) rfl ?_) (fV _))
    obtain⟨a,k,a0,e,d⟩:=gx
    rw[e]at hch ⊢
    replace hch:k=("chosen" : Str):=hch
    cases d with
    | chosen d b o p s=>exact zr st.1 hso x.2
    | root=>exact absurd hch (by decide +kernel)
    | named=>exact absurd hch (by decide +kernel)
    | heir=>exact absurd hch (by decide +kernel)
    | three _ hk=>rcases hk with rfl|rfl|rfl<;>exact absurd hch (by decide +kernel)
    | other _ hk=>rcases hk with rfl|rfl|rfl|rfl|rfl<;>exact absurd hch (by decide +kernel)
   ·refine jO (bL (bb:=false) hw (decide_eq_false hch)) ?_
    by_cases hh:kindOf x.1=("heir" : Str)
    ·have es:bS (aw rows known) st x=(st.1,bY st.2.1 [.inr (aq 2 x.1),.inr (aq 1 x.1)],bZ st.2.1 st.2.2 [.inr (aq 2 x.1),.inr (aq 1 x.1)] (.str (aq 3 x.1))):=by unfold bS;rw[hc,if_pos rfl,if_neg hn,if_neg hch,if_pos hh]
     rw[es]
     have hpo:av [x.1,.str "office"]=some (.str (aq 2 x.1),false)/\av [x.1,.str "by"]=some (.str (aq 1 x.1),false)/\av [x.1,.str "person"]=some (.str (aq 3 x.1),false):=by
      obtain⟨a,k,a0,e,d⟩:=gx
      rw[e]at hh ⊢
      replace hh:k=("heir" : Str):=hh
      cases d with
      | heir d b o p=>exact⟨bq (i:=2) (bj (by decide +kernel)) rfl,bq (i:=1) (bj (by decide +kernel)) rfl,bq (i:=3) (bj (by decide +kernel)) rfl⟩
      | root=>exact absurd hh (by decide +kernel)
      | named=>exact absurd hh (by decide +kernel)
      | chosen=>exact absurd hh (by decide +kernel)
      | three _ hk=>rcases hk with rfl|rfl|rfl<;>exact absurd hh (by decide +kernel)
      | other _ hk=>rcases hk with rfl|rfl|rfl|rfl|rfl<;>exact absurd hh (by decide +kernel)
     exact nH (bL (bb:=false) hw (decide_eq_true hh)) (CV (ks:=st.2.1) (vs:=st.2.2) (kd:=[.str (aq 2 x.1),.str (aq 1 x.1)]) (b:=false) rfl (ai (ds:=[x.1,.str "person"]) rfl hpo.2.2) (ar (ai (ds:=[x.1,.str "office"]) rfl hpo.1) (ar (ai (ds:=[x.1,.str "by"]) rfl hpo.2.1) rfl)) rfl rfl (by have:=h.hk;omega) (by simp))
    ·refine jO (bL (bb:=false) hw (decide_eq_false hh)) ?_
     have es:bS (aw rows known) st x=(aY st.1 (st.1.map Cl.o) (aq 1 x.1) (a7 x.1)++gZ (aw rows known) st.1 st.2.1 st.2.2 (aq 1 x.1) (a7 x.1) x.2,st.2):=by unfold bS;rw[hc,if_pos rfl,if_neg hn,if_neg hch,if_neg hh]
     rw[es]
     have hd:kindOf x.1=("death" : Str):=by
      unfold aZ at hc
      by_cases hd:kindOf x.1=("death" : Str)
      ·exact hd
      ·rw[if_neg hd,if_neg (by simp[gu,hn,hch,hh])]at hc
       cases hc
     refine sj (i:=2) (ai (ds:=[.tup rows,.int known,.lst (st.1.map clD),.dt st.2.1 st.2.2,.int x.2]) (by simp) ?_) (fV _)
     obtain⟨a,k,a0,e,d⟩:=gx
     have hk:k=("death" : Str):=by rw[e]at hd;exact hd
     subst hk
     obtain⟨dd,p,rfl⟩:=d.deed.three (by decide +kernel)
     have:=Bi g known st.1 hso st.2.1 st.2.2 h.hs hx e
     rw[this,e]
     rfl
theorem yu (K:KL):∀(l l0:KL) (st:St3) (dd:List Str),SoOk K l0 dd st->((l0++l).map (·.2)).Nodup->∃dd',SoOk K (l0++l) dd' (l.foldl (bS K) st)
 | [],l0,st,dd,h,_=>⟨dd,by rw[List.append_nil];exact h⟩
 | x::l,l0,st,dd,h,hn=>by
  have hx:x.2∉l0.map (·.2):=λhm=>by
   rw[List.map_append,List.nodup_append]at hn
   exact hn.2.2 _ hm x.2 (by simp) rfl
  obtain⟨dd',h'⟩:=h.step hx
  have e:l0++x::l=(l0++[x])++l:=by simp
  rw[e]at hn ⊢
  exact yu K l _ _ _ h' hn
theorem yv (K l:KL) (h:(l.map (·.2)).Nodup):∃dd,SoOk K l dd (iR K l):=by
 have:=yu K l [] ([],[],[]) [] ⟨Nat.zero_le _,by simp,by simp,by simp,by simp,Nat.zero_le _⟩ h
 exact this
theorem zu {K:KL}(h:(K.map (·.2)).Nodup):((cZ K).map (·.2)).Nodup:=((bF _ _).map _).nodup_iff.mpr (List.Nodup.sublist (List.Sublist.map _ List.filter_sublist) h)
theorem lb {rows:List D}(g:dU rows) (known:Int) (hlen:(cZ (aw rows known)).length<=60):dz [.tup rows,.int known]=some (.lst ((b8 (aw rows known)).map clD),true)/\(b8 (aw rows known)).length<=60:=by
 have eL:dD [.tup rows,.int known]=some (.lst ((cZ (aw rows known)).map λx=>.int x.2),true):=uV g known
 generalize hK:aw rows known=K at hlen eL ⊢
 have hmem:∀x∈cZ K,x∈K/\aS x.1=false:=λx hx=>by
  obtain⟨h1,h2⟩:=List.mem_filter.mp ((bF _ _).mem_iff.mp hx)
  exact⟨h1,by simpa using h2⟩
 have hnd:((cZ K).map (·.2)).Nodup:=zu (by rw[←hK];exact jX rows known)
 obtain⟨ρ',e,v4,v5,rfl⟩:=eQ (tg:=tgN 4) (g:=iz) (λj ρ=>∃v4 v5:Option (D×Bool),ρ=[some (.tup rows,false),some (.int known,false),some (.lst ((iR K ((cZ K).take j)).1.map clD),true),some (.dt (iR K ((cZ K).take j)).2.1 (iR K ((cZ K).take j)).2.2,true),v4,v5]) ((cZ K).map λx=>.int x.2)
  [some (.tup rows,false),some (.int known,false),some (.lst [],true),some (.dt [] [],true),none,none] ⟨none,none,rfl⟩ (by
   rintro j d ρ hd ⟨v4,v5,rfl⟩
   rw[List.getElem?_map]at hd
   obtain⟨x,hx,rfl⟩:=oY hd
   have hjl:j<(cZ K).length:=(List.getElem?_eq_some_iff.mp hx).1
   have et:(cZ K).take (j+1)=(cZ K).take j++[x]:=by rw[List.take_add_one,hx];rfl
   have ef:iR K ((cZ K).take (j+1))=bS K (iR K ((cZ K).take j)) x:=by rw[et];unfold iR;rw[List.foldl_append];rfl
   obtain⟨hxK,hxr⟩:=hmem x (List.mem_of_getElem? hx)
   obtain⟨dd,h⟩:=yv K ((cZ K).take j) (List.Nodup.sublist (List.Sublist.map _ (List.take_sublist _ _)) hnd)
   rw[←hK]at h
   have hst:=CW g known h (by rw[hK,List.length_take];omega) (x:=x) (by rw[hK];exact hxK) hxr v5
   rw[hK]at hst
   obtain⟨w5,hst⟩:=hst
   exact⟨_,_,rfl,hst,some (.int x.2,false),w5,by rw[ef]⟩)
 have hall:(cZ K).take ((cZ K).map λx=>D.int x.2).length=cZ K:=by rw[List.length_map,List.take_length]
 rw[hall]at e
 obtain⟨dd,hso⟩:=yv K (cZ K) hnd
 generalize hcs:(iR K (cZ K))=st at e hso
 have hcl:st.1.length<=60:=by have:=hso.len;omega
 have hCk:b8 K=dr (λc=>ce (kC c)) st.1:=by unfold b8;rw[hcs]
 have hm:∀ρ:DL.Env,gA (px dj ρ) (st.1.map clD)=some (st.1.map λc=>.tup [.str c.o,.int c.s,.int c.n]):=λρ=>fU st.1 λc _=>by
  show(dj [clD c]).map _=_
  rw[sA]
  rfl
 have hk:cA (st.1.map λc=>D.tup [.str c.o,.int c.s,.int c.n])=some (st.1.map kC):=eI st.1 λc _=>rfl
 have hcond:(st.1.map kC).length<64/\cY (st.1.map kC)=true/\cx (st.1.map kC)=true/\((st.1.map kC).map ce).Nodup:=by
  refine⟨by rw[List.length_map];omega,yt _, ?_, ?_⟩
  ·unfold cx
   rw[Bool.or_eq_true]
   right
   simp[List.all_eq_true,kC]
  ·rw[List.map_map]
   have h1:st.1.Pairwise λa b=>(a.o,a.n)≠(b.o,b.n):=List.pairwise_map.mp hso.nod
   have h2:st.1.Pairwise λa b=>ce (kC a)≠ce (kC b):=by
    refine List.Pairwise.imp_of_mem ?_ h1
    intro a b ha hb hne e
    exact hne (Bk ha hb e)
   exact List.pairwise_map.mpr h2
 have hz:(st.1.map kC).zip (st.1.map clD)=st.1.map λc=>(kC c,clD c):=by rw[List.zip_map']
 have key:((b8 K).map λc=>(kC c,clD c))=dr (λp:List At×D=>ce p.1) (st.1.map λc=>(kC c,clD c)):=by
  rw[hCk]
  refine gJ _ (λx hx y hy e=>?_) ((bF _ _).map _) ?_
  ·obtain⟨a,ha,rfl⟩:=List.mem_map.mp hx
   obtain⟨b,hb,rfl⟩:=List.mem_map.mp hy
   rw[qI (λc:Cl=>(c.o,c.n)) hso.nod ha hb (Bk ha hb e)]
  ·exact List.pairwise_map.mpr (gg _ _)
 refine⟨a8 rfl (cB (ds:=[]) (by simp[sizeLine]) rfl (d6 (ρ':=[some (.tup rows,false),some (.int known,false),some (.lst [],true),some (.dt [] [],true),none,none]) rfl (d6 (jR (ds:=(cZ K).map λx=>.int x.2) ?_ e) (aI ?_)))),by rw[hCk,(bF _ _).length_eq];exact hcl⟩
 ·show(fA dD (ae (ag 0) (ae (ag 1) ak)) _).bind _=_
  rw[ai (ds:=[.tup rows,.int known]) rfl eL]
  rfl
 ·unfold kN
  show((some (D.lst (st.1.map clD),false)).bind _)=_
  simp only[Option.bind_some]
  rw[hm]
  simp only[Option.bind_some]
  rw[hk]
  simp only[Option.bind_some]
  rw[if_pos hcond]
  unfold gM
  rw[hz,←key,List.map_map]
  rfl
def dL (K:KL) (o:Str) (day:Int):D:=match dW K o with
 | none=>.tup [.str "none"]
 | some v=>eS (b8 K) (aq 0 v) (aq 3 v) day
theorem qJ {rows:List D}(g:dU rows) (known:Int) (hlen:(cZ (aw rows known)).length<=60) (o:Str) (day:Int):cK [.tup rows,.int known,.str o,.int day]=some (dL (aw rows known) o day,false):=by
 obtain⟨ec,hcl⟩:=lb g known hlen
 have e4:f2 wE (fA fq (ae (ag 0) (ae (ag 1) ak))) (ag 2) [some (.tup rows,false),some (.int known,false),some (.str o,false),some (.int day,false),none]=some ((dW (aw rows known) o).getD .non,false) :=
  aD (x:=.dk (bp (fX (aw rows known))).1 (bp (fX (aw rows known))).2) (y:=.str o) (b1:=false) (b2:=false) (ai (ds:=[.tup rows,.int known]) rfl (uX g known)) rfl rfl
 unfold dL
 cases hr:dW (aw rows known) o with
 | none =>
  rw[hr]at e4
  exact a8 rfl (aT (d:=.non) (b:=false) e4 rfl (cI (aM (b:=false) (by simp)) (aI (ai (ds:=[.str "none"]) rfl (cD _ (by simp))))))
 | some v =>
  rw[hr]at e4
  obtain⟨va,vo,vrl,vm,vf,ev⟩:=lR g hr
  subst ev
  exact a8 rfl (aT (d:=row va ("root" : Str) [.str vo,.int vm,.int vf,.str vrl]) (b:=false) e4 rfl (bo (aM (b:=false) (by simp[row])) (aI (ai (ds:=[.lst ((b8 (aw rows known)).map clD),row va ("root" : Str) [.str vo,.int vm,.int vf,.str vrl],.int day]) (ar (ai (ds:=[.tup rows,.int known]) rfl ec) rfl) (jZ _ hcl day)))))
end Lw
namespace Lw
open PySem PySem.Spec DL L2
theorem vg {α β:Type}{f:α->List Int}{g:β->List Int}(h:α->β) (x:α):∀l:List α,(∀y∈l,(g (h y)<g (h x))↔(f y<f x))->kI g (h x) (l.map h)=(kI f x l).map h
 | [],_=>rfl
 | y::r,e=>by
  rw[List.map_cons,kI,kI]
  by_cases c:f y<f x
  ·rw[if_pos c,if_pos ((e y mX).mpr c),List.map_cons,vg h x r λz hz=>e z (mZ _ hz)]
  ·rw[if_neg c,if_neg λz=>c ((e y mX).mp z),List.map_cons,List.map_cons]
theorem lf {α β:Type}{f:α->List Int}{g:β->List Int}(h:α->β):∀l:List α,(∀x∈l,∀y∈l,(g (h y)<g (h x))↔(f y<f x))->dr g (l.map h)=(dr f l).map h
 | [],_=>rfl
 | x::r,e=>by
  show kI g (h x) (dr g (r.map h))=(kI f x (dr f r)).map h
  rw[lf h r λa ha b hb=>e a (mZ _ ha) b (mZ _ hb)]
  exact vg h x _ λy hy=>e x mX y (mZ _ ((bF f r).mem_iff.mp hy))
theorem vh (φ:Str->Str) (x:Str):∀l:List Str,(∀y∈l,ltCps (φ y).cps.toList (φ x).cps.toList=ltCps y.cps.toList x.cps.toList)->kF (φ x) (l.map φ)=(kF x l).map φ
 | [],_=>rfl
 | y::r,e=>by
  rw[List.map_cons,kF,kF,e y mX]
  by_cases c:ltCps y.cps.toList x.cps.toList=true
  ·rw[if_pos c,if_pos c,List.map_cons,vh φ x r λz hz=>e z (mZ _ hz)]
  ·rw[if_neg c,if_neg c,List.map_cons,List.map_cons]
theorem qK (φ:Str->Str):∀l:List Str,(∀x∈l,∀y∈l,ltCps (φ y).cps.toList (φ x).cps.toList=ltCps y.cps.toList x.cps.toList)->cX (l.map φ)=(cX l).map φ
 | [],_=>rfl
 | x::r,e=>by
  show kF (φ x) (cX (r.map φ))=(kF x (cX r)).map φ
  rw[qK φ r λa ha b hb=>e a (mZ _ ha) b (mZ _ hb)]
  exact vh φ x _ λy hy=>e x mX y (mZ _ ((bi r).mem_iff.mp hy))
theorem qL:∀(l1 l2:List Str),l1.Perm l2->l1.Pairwise leT->l2.Pairwise leT->l1=l2
 | [],l2,p,_,_=>(List.nil_perm.mp p).symm
 | a::r,[],p,_,_=>absurd p.symm (by simp)
 | a::r,b::r2,p,h1,h2=>by
  rw[List.pairwise_cons]at h1 h2
  have ha:a∈b::r2:=p.mem_iff.mp mX
  have hb:b∈a::r:=p.mem_iff.mpr mX
  have e:a=b:=by
   rcases List.mem_cons.mp ha with h|h
   ·exact h
   ·rcases List.mem_cons.mp hb with k|k
    ·exact k.symm
    ·exact uj (h1.1 b k) (h2.1 a h)
  subst e
  rw[qL r r2 ((List.perm_cons a).mp p) h1.2 h2.2]
theorem pz {l1 l2:List Str}(p:l1.Perm l2):cX l1=cX l2:=qL _ _ ((bi l1).trans (p.trans (bi l2).symm)) (gf l1) (gf l2)
section
variable {φ:Str->Str}(hφ:∀a b,φ a=φ b->a=b)
include hφ
theorem sE {x:Str}{l:List Str}:φ x∈l.map φ↔x∈l:=by
 rw[List.mem_map]
 exact⟨λ⟨y,hy,e⟩=>hφ _ _ e ▸ hy,λh=>⟨x,h,rfl⟩⟩
theorem gv {a b:Str}:(φ a=φ b)=(a=b):=propext ⟨hφ a b,λh=>h ▸ rfl⟩
theorem Bl (ts:List Str) (x:Str):eD (ts.map φ) (φ x)=(eD ts x).map φ:=by
 unfold eD
 by_cases h:x∈ts
 ·rw[if_pos h,if_pos ((sE hφ).mpr h)]
 ·rw[if_neg h,if_neg λz=>h ((sE hφ).mp z),List.map_append];rfl
theorem qM:∀(l ts:List Str),(l.map φ).foldl eD (ts.map φ)=(l.foldl eD ts).map φ
 | [],_=>rfl
 | x::l,ts=>by rw[List.map_cons,List.foldl_cons,List.foldl_cons,Bl hφ];exact qM l _
theorem vi (l:List Str):dZ (l.map φ)=(dZ l).map φ:=qM hφ l []
end
def swp (a b x:Str):Str:=if x=a then b else if x=b then a else x
theorem CY (a b x y:Str) (h:swp a b x=swp a b y):x=y:=by
 unfold swp at h
 by_cases h1:x=a
 ·by_cases h2:y=a
  ·rw[h1,h2]
  ·rw[if_pos h1,if_neg h2]at h
   by_cases h3:y=b
   ·rw[if_pos h3]at h;rw[h1,h3,h]
   ·rw[if_neg h3]at h;exact absurd h.symm h3
 ·rw[if_neg h1]at h
  by_cases h2:y=a
  ·rw[if_pos h2]at h
   by_cases h3:x=b
   ·rw[if_pos h3]at h;rw[h3,h2,h]
   ·rw[if_neg h3]at h;exact absurd h h3
  ·rw[if_neg h2]at h
   by_cases h3:x=b
   ·rw[if_pos h3]at h
    by_cases h4:y=b
    ·rw[h3,h4]
    ·rw[if_neg h4]at h;exact absurd h.symm h2
   ·rw[if_neg h3]at h
    by_cases h4:y=b
    ·rw[if_pos h4]at h;exact absurd h h1
    ·rw[if_neg h4]at h;exact h
theorem yw:∀l:List (Str×Str),(l.map (·.1)).Nodup->(l.map (·.2)).Nodup->∃φ:Str->Str,(∀a b,φ a=φ b->a=b)/\∀p∈l,φ p.1=p.2
 | [],_,_=>⟨id,λ_ _ h=>h,λp h=>by cases h⟩
 | p::l,h1,h2=>by
  rw[List.map_cons,List.nodup_cons]at h1 h2
  obtain⟨φ,i,e⟩:=yw l h1.2 h2.2
  refine⟨λx=>swp (φ p.1) p.2 (φ x),λa b h=>i _ _ (CY _ _ _ _ h),λq hq=>?_⟩
  rcases List.mem_cons.mp hq with rfl|hq
  ·show swp (φ q.1) q.2 (φ q.1)=q.2
   unfold swp;rw[if_pos rfl]
  ·show swp (φ p.1) p.2 (φ q.1)=q.2
   unfold swp
   rw[e q hq,if_neg,if_neg]
   ·intro z;exact h2.1 (z ▸ List.mem_map_of_mem hq)
   ·intro z;rw[←e q hq]at z;exact h1.1 (i _ _ z ▸ List.mem_map_of_mem hq)
def rnS (φ:Str->Str):D->D
 | .str s=>.str (φ s)
 | d=>d
def rnT (φ:Str->Str) (m:Int):List D->List D
 | .str o::r=>.str (φ o)::r
 | [.int d,b,o,p,.int s]=>[.int (d+m),rnS φ b,rnS φ o,rnS φ p,.int (s+m)]
 | .int d::r=>.int (d+m)::r.map (rnS φ)
 | r=>r
def rn (φ:Str->Str) (m:Int):D->D
 | .tup [.int h,.tup (.str k::a0)]=>.tup [.int (h+m),.tup (.str k::rnT φ m a0)]
 | d=>d
def rx (φ:Str->Str) (m:Int) (x:D×Nat):D×Nat:=(rn φ m x.1,x.2)
def rc (φ:Str->Str) (m:Int) (c:Cl):Cl:=⟨φ c.o,φ c.p,c.s+m,c.u.map (· + m),c.n⟩
theorem wU (φ:Str->Str) (m h:Int) (k:Str) (a0:List D):rn φ m (row h k a0)=row (h+m) k (rnT φ m a0):=rfl
theorem oC (φ:Str->Str) (m d:Int) (b:Str) (r:List D):∃r',rnT φ m (.int d::.str b::r)=.int (d+m)::.str (φ b)::r'/\r'.length=r.length:=by
 unfold rnT
 split
 ·rename_i h;cases h
 ·rename_i h;cases h;exact⟨_,rfl,rfl⟩
 ·rename_i h;cases h;exact⟨_,rfl,List.length_map _⟩
 ·rename_i h1 h2 h3;exact absurd rfl (h3 d (.str b::r))
section
variable {φ:Str->Str}{m:Int}
theorem kg {r:D}(g:cN r):kindOf (rn φ m r)=kindOf r:=by obtain⟨h,k,a0,rfl,_⟩:=g;rfl
theorem Bm {r:D}(g:cN r):cC (rn φ m r)=cC r+m:=by obtain⟨h,k,a0,rfl,_⟩:=g;rfl
theorem yy {r:D}(g:cN r):aS (rn φ m r)=aS r:=by unfold aS;rw[kg g]
theorem lg {r:D}(g:cN r) (hr:aS r=false):a7 (rn φ m r)=a7 r+m:=by
 obtain⟨h,k,a0,rfl,d⟩:=g
 rw[wU]
 cases d with
 | root o rl a f=>exact absurd (show decide (("root" : Str)=("root" : Str))=false from hr) (by decide +kernel)
 | named d o p=>rfl
 | chosen d b o p s=>rfl
 | heir d b o p=>rfl
 | three k hk d p=>rfl
 | other k hk d b r hf hp=>obtain⟨r',e,_⟩:=oC φ m d b r;rw[e];rfl
theorem zv {ws:List Str}{p:Str}{day:Int}{r:D}(g:cN r) (h:told ws p day r=true):aS r=false:=by
 obtain⟨a,k,a0,rfl,d⟩:=g
 cases d with
 | root o rl a f=>
  have:(decide (("root" : Str)∈ws) && false)=true:=h
  simp at this
 | named d o p=>rfl
 | chosen d b o p s=>rfl
 | heir d b o p=>rfl
 | three k hk d p=>rcases hk with rfl|rfl|rfl<;>rfl
 | other k hk d b r hf hp=>rcases hk with rfl|rfl|rfl|rfl|rfl<;>rfl
end
def Sh (φ:Str->Str) (m:Int) (x:D×Nat):Prop:=a7 (rn φ m x.1)=a7 x.1+m
section
variable {φ:Str->Str}{m:Int}
theorem vj {a b:D×Nat}(ha:Sh φ m a) (hb:Sh φ m b):d7 (rx φ m a) (rx φ m b)=d7 a b:=by
 unfold d7
 show decide (a7 (rn φ m a.1)<a7 (rn φ m b.1)∨(a7 (rn φ m a.1)=a7 (rn φ m b.1)/\(a.2:Int)<b.2))=_
 rw[show a7 (rn φ m a.1)=a7 a.1+m from ha,show a7 (rn φ m b.1)=a7 b.1+m from hb]
 exact decide_eq_decide.mpr (by omega)
theorem lh:∀(r:KL) (b:D×Nat),(∀x∈b::r,Sh φ m x)->cn (rx φ m b) (r.map (rx φ m))=rx φ m (cn b r)
 | [],b,_=>rfl
 | x::r,b,h=>by
  rw[List.map_cons,cn,cn,vj (h b mX) (h x (mZ _ mX))]
  by_cases c:d7 b x=true
  ·rw[if_pos c,if_pos c];exact lh r x λz hz=>h z (mZ _ hz)
  ·rw[if_neg c,if_neg c]
   exact lh r b λz hz=>by
    rcases List.mem_cons.mp hz with rfl|hz
    ·exact h _ mX
    ·exact h z (mZ _ (mZ _ hz))
theorem sF:∀(r:KL) (b:D×Nat),(∀x∈b::r,Sh φ m x)->gB (rx φ m b) (r.map (rx φ m))=rx φ m (gB b r)
 | [],b,_=>rfl
 | x::r,b,h=>by
  rw[List.map_cons,gB,gB,om,om,vj (h x (mZ _ mX)) (h b mX)]
  by_cases c:d7 x b=true
  ·rw[if_pos (by rw[c]),if_pos (by rw[c])];exact sF r x λz hz=>h z (mZ _ hz)
  ·rw[if_neg (by simpa using c),if_neg (by simpa using c)]
   exact sF r b λz hz=>by
    rcases List.mem_cons.mp hz with rfl|hz
    ·exact h _ mX
    ·exact h z (mZ _ (mZ _ hz))
end
section
variable {φ:Str->Str}(hφ:∀a b,φ a=φ b->a=b) {m:Int}
include hφ
theorem CZ {ws:List Str}{p:Str}{day:Int}{r:D}(g:cN r):told ws (φ p) (day+m) (rn φ m r)=told ws p day r:=by
 obtain⟨h,k,a0,rfl,d⟩:=g
 rw[wU]
 show(decide (k∈ws) && lM (φ p) (day+m) (rnT φ m a0))=(decide (k∈ws) && lM p day a0)
 have two:∀(d:Int) (q:Str),(decide (φ q=φ p) && decide (d+m<=day+m))=(decide (q=p) && decide (d<=day)):=λd q=>by
  simp only[gv hφ,Int.add_le_add_iff_right]
 refine congrArg (decide (k∈ws) && ·) ?_
 cases d with
 | root o rl a f=>rfl
 | named d o p=>rfl
 | chosen d b o p s=>rfl
 | heir d b o p=>rfl
 | three k hk d q=>exact two d q
 | other k hk d b r hf hp =>
  cases r with
  | nil=>exact two d b
  | cons c r =>
   obtain⟨r',e,hl⟩:=oC φ m d b (c::r)
   rw[e]
   cases r' with
   | nil=>simp at hl
   | cons c' r'=>rfl
variable {K:KL}(g:∀x∈K,cN x.1)
include g
theorem wV (ws:List Str) (p:Str) (day:Int):(K.map (rx φ m)).filter (λx=>told ws (φ p) (day+m) x.1)=(K.filter λx=>told ws p day x.1).map (rx φ m):=by
 rw[List.filter_map]
 exact congrArg (List.map (rx φ m)) (List.filter_congr λx hx=>CZ hφ (g x hx))
omit hφ in
theorem Bn {ws:List Str}{p:Str}{day:Int}:∀x∈K.filter (λx=>told ws p day x.1),Sh φ m x:=λx hx=>by
 obtain⟨h1,h2⟩:=List.mem_filter.mp hx
 exact lg (g x h1) (zv (g x h1) h2)
theorem vk (p:Str) (day:Int):fD (K.map (rx φ m)) (φ p) (day+m)=fD K p day:=by
 unfold fD
 rw[wV hφ g,List.isEmpty_map]
theorem Da (p:Str) (day:Int):yq (K.map (rx φ m)) (φ p) (day+m)=yq K p day:=by
 unfold yq
 rw[wV hφ g]
 have hs:=Bn (φ:=φ) (m:=m) g (ws:=g7) (p:=p) (day:=day)
 have hg:∀x∈K.filter (λx=>told g7 p day x.1),cN x.1:=λx hx=>g x (List.mem_filter.mp hx).1
 generalize K.filter (λx=>told g7 p day x.1)=l at hs hg
 cases l with
 | nil=>rfl
 | cons b r =>
  show decide (kindOf (cn (rx φ m b) (r.map (rx φ m))).1=_)=decide (kindOf (cn b r).1=_)
  rw[lh r b hs]
  show decide (kindOf (rn φ m (cn b r).1)=_)=_
  rw[kg (hg _ (jW r b))]
theorem Bo (p:Str) (day:Int) (i:Nat):d3 (K.map (rx φ m)) (φ p) (day+m) i=d3 K p day i:=by
 unfold d3
 rw[wV hφ g]
 have hs:=Bn (φ:=φ) (m:=m) g (ws:=cq) (p:=p) (day:=day)
 generalize K.filter (λx=>told cq p day x.1)=l at hs
 cases l with
 | nil=>rfl
 | cons b r =>
  show decide ((gB (rx φ m b) (r.map (rx φ m))).2=i)=decide ((gB b r).2=i)
  rw[sF r b hs]
  rfl
theorem vn {r:D}(gr:cN r):dE (K.map (rx φ m)) (rn φ m r)=dE K r:=by
 unfold dE
 rw[kg gr]
 cases hs:cL (kindOf r) with
 | false=>rfl
 | true =>
  have hb:uU (rn φ m r)=φ (uU r):=by
   obtain⟨h,k,a0,rfl,d⟩:=gr
   cases d with
   | root o rl a f=>exact absurd (show cL ("root" : Str)=true from hs) (by decide +kernel)
   | named d o p=>exact absurd (show cL ("named" : Str)=true from hs) (by decide +kernel)
   | chosen d b o p s=>rfl
   | heir d b o p=>rfl
   | three k hk d q=>rfl
   | other k hk d b r hf hp=>rw[wU];obtain⟨r',e,_⟩:=oC φ m d b r;rw[e];rfl
  have hr:aS r=false:=by
   cases h:aS r with
   | false=>rfl
   | true=>rw[show kindOf r=("root" : Str)from of_decide_eq_true h]at hs;exact absurd hs (by decide +kernel)
  rw[hb,lg gr hr,vk hφ g,Da hφ g]
end
section
variable {κ κ':Type}[DecidableEq κ] [DecidableEq κ'] {ψ:κ->κ'}(hψ:∀a b,ψ a=ψ b->a=b)
include hψ
theorem lm (g:D->D) (k:κ):∀(ks:List κ) (vs:List D),bw (ks.map ψ) (vs.map g) (ψ k)=(bw ks vs k).map g
 | [],_=>by cases ‹List D›<;>rfl
 | _::_,[]=>rfl
 | k'::ks,d::vs=>by
  rw[List.map_cons,List.map_cons,bw,bw]
  by_cases h:k'=k
  ·rw[if_pos h,if_pos (by rw[h])];rfl
  ·rw[if_neg h,if_neg λz=>h (hψ _ _ z)];exact lm g k ks vs
theorem kh {k:κ}{ks:List κ}:ψ k∈ks.map ψ↔k∈ks:=by
 rw[List.mem_map]
 exact⟨λ⟨y,hy,e⟩=>hψ _ _ e ▸ hy,λh=>⟨k,h,rfl⟩⟩
theorem qN (ks:List κ) (k:κ):bY (ks.map ψ) (ψ k)=(bY ks k).map ψ:=by
 unfold bY
 by_cases h:k∈ks
 ·rw[if_pos h,if_pos ((kh hψ).mpr h)]
 ·rw[if_neg h,if_neg λz=>h ((kh hψ).mp z),List.map_append];rfl
theorem vp {α β:Type}(g:α->β) (k:κ) (x:α):∀(ks:List κ) (xs:List α),List.zipWith (λk' x'=>if k'=ψ k then g x else x') (ks.map ψ) (xs.map g)=(List.zipWith (λk' x'=>if k'=k then x else x') ks xs).map g
 | [],_=>rfl
 | _::_,[]=>rfl
 | k'::ks,y::xs=>by
  rw[List.map_cons,List.map_cons,List.zipWith_cons_cons,List.zipWith_cons_cons,List.map_cons,vp g k x ks xs]
  refine congrArg (· :: _) ?_
  by_cases h:k'=k
  ·rw[if_pos h,if_pos (by rw[h])]
  ·rw[if_neg h,if_neg λz=>h (hψ _ _ z)]
theorem qO {α β:Type}(g:α->β) (ks:List κ) (xs:List α) (k:κ) (x:α):bZ (ks.map ψ) (xs.map g) (ψ k) (g x)=(bZ ks xs k x).map g:=by
 unfold bZ
 by_cases h:k∈ks
 ·rw[if_pos h,if_pos ((kh hψ).mpr h),vp hψ]
 ·rw[if_neg h,if_neg λz=>h ((kh hψ).mp z),List.map_append];rfl
end
def rk (φ:Str->Str):Key->Key
 | .inl i=>.inl i
 | .inr s=>.inr (φ s)
theorem sG {φ:Str->Str}(hφ:∀a b,φ a=φ b->a=b):∀a b,rk φ a=rk φ b->a=b
 | .inl i,.inl j,h=>by cases h;rfl
 | .inl i,.inr j,h=>by cases h
 | .inr i,.inl j,h=>by cases h
 | .inr i,.inr j,h=>by rw[hφ i j (Sum.inr.inj h)]
theorem m8 {φ:Str->Str}(hφ:∀a b,φ a=φ b->a=b):∀a b:List Key,a.map (rk φ)=b.map (rk φ)->a=b
 | [],[],_=>rfl
 | [],_::_,h=>by cases h
 | _::_,[],h=>by cases h
 | x::a,y::b,h=>by
  rw[List.map_cons,List.map_cons]at h
  injection h with h1 h2
  rw[sG hφ _ _ h1,m8 hφ a b h2]
section
variable {φ:Str->Str}(hφ:∀a b,φ a=φ b->a=b) {m:Int}
include hφ
theorem qP (g:D->D):∀(l:List (Key×D)) (a:List Key×List D),(l.map λp=>(rk φ p.1,g p.2)).foldl jl (a.1.map (rk φ),a.2.map g)=((l.foldl jl a).1.map (rk φ),(l.foldl jl a).2.map g)
 | [],_=>rfl
 | p::l,a=>by
  rw[List.map_cons,List.foldl_cons,List.foldl_cons]
  have:jl (a.1.map (rk φ),a.2.map g) (rk φ p.1,g p.2)=((jl a p).1.map (rk φ),(jl a p).2.map g):=by
   unfold jl
   show(bY (a.1.map (rk φ)) (rk φ p.1),bZ (a.1.map (rk φ)) (a.2.map g) (rk φ p.1) (g p.2))=_
   rw[qN (sG hφ),qO (sG hφ)]
  rw[this]
  exact qP g l _
variable {K:KL}(g:∀x∈K,cN x.1)
include g
omit hφ in
theorem Bp:fX (K.map (rx φ m))=(fX K).map λp=>(rk φ p.1,rn φ m p.2):=by
 unfold fX
 have hf:K.filter ((λx=>aS x.1) ∘ rx φ m)=K.filter λx=>aS x.1:=List.filter_congr λx hx=>yy (g x hx)
 rw[List.filter_map,List.map_map,List.map_map,hf]
 refine List.map_congr_left λx hx=>?_
 obtain⟨h1,h2⟩:=List.mem_filter.mp hx
 obtain⟨a,o,rl,mm,f,e⟩:=gt (g x h1) h2
 show((Sum.inr (aq 0 (rn φ m x.1)):Key),rn φ m x.1)=(Sum.inr (φ (aq 0 x.1)),rn φ m x.1)
 rw[e];rfl
theorem ki (o:Str):dW (K.map (rx φ m)) (φ o)=(dW K o).map (rn φ m):=by
 unfold dW bp
 rw[Bp g]
 have:=qP hφ (rn φ m) (fX K) ([],[])
 rw[show(([]:List Key),([]:List D))=((([]:List Key).map (rk φ)),(([]:List D).map (rn φ m)))from rfl,this]
 exact lm (sG hφ) (rn φ m) (.inr o) _ _
omit hφ in
theorem oD {o:Str}{v:D}(h:dW K o=some v):∃a o2 rl,∃mm f:Int,v=row a ("root" : Str) [.str o2,.int mm,.int f,.str rl]:=by
 unfold dW bp at h
 rcases la _ _ _ (gY h)with z|⟨p,hp,e⟩
 ·cases z
 ·unfold fX at hp
  obtain⟨x,hx,rfl⟩:=List.mem_map.mp hp
  obtain⟨h1,h2⟩:=List.mem_filter.mp hx
  rw[←e]
  exact gt (g x h1) h2
end
theorem hU {α β:Type}{f g:α->List β}:∀ {l:List α},(∀a∈l,f a=g a)->l.flatMap f=l.flatMap g
 | [],_=>rfl
 | a::l,h=>by rw[List.flatMap_cons,List.flatMap_cons,h a mX,hU λb hb=>h b (mZ _ hb)]
inductive HR (φ:Str->Str):D->D->Prop
 | none:HR φ (.tup [.str "none"]) (.tup [.str "none"])
 | parted (zs:List Str):HR φ (.tup [.str "parted",.lst (zs.map .str)]) (.tup [.str "parted",.lst ((cX (zs.map φ)).map .str)])
 | one (p:Str) (n:Nat):HR φ (.tup [.str "one",.str p,.int n]) (.tup [.str "one",.str (φ p),.int n])
section
variable {φ:Str->Str}{m:Int}
theorem oE (c:Cl) (day:Int):cb (rc φ m c) (day+m)=cb c day:=by
 obtain⟨o,p,s,u,n⟩:=c
 show(decide (s+m<=day+m) && (match u.map (· + m) with|none=>true|some x=>decide (day+m<x)))=(decide (s<=day) && (match u with|none=>true|some x=>decide (day<x)))
 cases u with
 | none=>simp only[Option.map_none,Int.add_le_add_iff_right]
 | some x=>simp only[Option.map_some,Int.add_le_add_iff_right,Int.add_lt_add_iff_right]
theorem Bq (a b:Cl):aW (kS (rc φ m a)) (kS (rc φ m b))=aW (kS a) (kS b):=by
 unfold kS
 rw[zo,zo]
 show some (decide (a.s+m<b.s+m∨(a.s+m=b.s+m/\(a.n:Int)<b.n)))=_
 exact congrArg some (decide_eq_decide.mpr (by omega))
theorem m9:∀(r:List Cl) (b:Cl),fW (rc φ m b) (r.map (rc φ m))=rc φ m (fW b r)
 | [],_=>rfl
 | x::r,b=>by
  rw[List.map_cons,fW,fW,Bq]
  split
  ·exact m9 r x
  ·exact m9 r b
theorem sI:∀(r:List Cl) (b:Cl),jY (rc φ m b) (r.map (rc φ m))=rc φ m (jY b r)
 | [],_=>rfl
 | x::r,b=>by
  rw[List.map_cons,jY,jY,Bq]
  split
  ·exact sI r x
  ·exact sI r b
theorem Br (rl:Str) (b:Cl) (r:List Cl):di rl (rc φ m b) (r.map (rc φ m))=rc φ m (di rl b r):=by
 unfold di
 split
 ·exact sI r b
 ·exact m9 r b
theorem Db (cs:List Cl):CO (cs.map (rc φ m))=CO cs:=by
 cases cs with
 | nil=>rfl
 | cons b r =>
  show(fW (rc φ m b) (r.map (rc φ m))).n=(fW b r).n
  rw[m9];rfl
end
section
variable {φ:Str->Str}(hφ:∀a b,φ a=φ b->a=b) {m:Int}
include hφ
theorem Bs (cs:List Cl) (o:Str) (day:Int):alL (cs.map (rc φ m)) (φ o) (day+m)=(alL cs o day).map (rc φ m):=by
 unfold alL
 rw[List.filter_map]
 refine congrArg (List.map (rc φ m)) (List.filter_congr λc _=>?_)
 show(decide (φ c.o=φ o) && cb (rc φ m c) (day+m))=(decide (c.o=o) && cb c day)
 rw[oE]
 simp only[gv hφ]
theorem Fj (cs:List Cl):eX (cs.map (rc φ m))=cX ((eX cs).map φ):=by
 unfold eX
 rw[List.map_map,show(λc:Cl=>c.p) ∘ rc φ m=φ ∘ λc:Cl=>c.p from rfl,←List.map_map,vi hφ]
 exact pz ((bi _).map φ).symm
theorem vq (rl:Str) (al:List Cl):HR φ (fw rl al) (fw rl (al.map (rc φ m))):=by
 cases al with
 | nil=>exact .none
 | cons b r =>
  rw[List.map_cons,fw,fw,←List.map_cons,Fj hφ,(bi _).length_eq,List.length_map]
  by_cases h:1<(eX (b::r)).length/\rl=("open" : Str)
  ·rw[if_pos h,if_pos h];exact .parted _
  ·rw[if_neg h,if_neg h,Br,List.filter_map]
   have:((b::r).filter ((λc=>decide (c.p=(rc φ m (di rl b r)).p)) ∘ rc φ m))=(b::r).filter λc=>decide (c.p=(di rl b r).p):=List.filter_congr λc _=>by
    show decide (φ c.p=φ (di rl b r).p)=_
    simp only[gv hφ]
   rw[this,Db]
   exact .one _ _
theorem yz (cs:List Cl) (o rl p:Str) (day:Int):iP (cs.map (rc φ m)) (φ o) rl (φ p) (day+m)=iP cs o rl p day:=by
 unfold iP eS
 rw[Bs hφ]
 have h:=vq hφ (m:=m) rl (alL cs o day)
 generalize fw rl (alL cs o day)=x at h
 generalize fw rl ((alL cs o day).map (rc φ m))=y at h
 cases h with
 | none=>
  show eqD (.tup [.str "none"]) (.tup [.str "one",.str (φ p)])=eqD (.tup [.str "none"]) (.tup [.str "one",.str p])
  simp[eqD,cW]
 | parted zs =>
  show eqD (.tup [.str "parted",.lst _]) (.tup [.str "one",.str (φ p)])=eqD (.tup [.str "parted",.lst _]) (.tup [.str "one",.str p])
  simp[eqD,cW]
 | one q n =>
  show eqD (.tup [.str "one",.str (φ q)]) (.tup [.str "one",.str (φ p)])=eqD (.tup [.str "one",.str q]) (.tup [.str "one",.str p])
  simp[eqD,cW,gv hφ]
theorem zw (offs:List Str) (p:Str) (day:Int) (c:Cl):cO (offs.map φ) (φ p) (day+m) (rc φ m c)=(cO offs p day c).map (rc φ m):=by
 unfold cO
 rw[oE]
 show(if(!decide (φ c.o∈offs.map φ) || (!decide (φ c.p=φ p) || !(cb c day || decide (day+m<c.s+m))))=true then [rc φ m c]else if c.s+m<day+m then [⟨φ c.o,φ p,c.s+m,some (day+m),c.n⟩]else [])=_
 simp only[gv hφ,sE hφ,Int.add_lt_add_iff_right]
 split
 ·rfl
 ·split<;>rfl
theorem vt (so:List Cl) (offs:List Str) (p:Str) (day:Int):aY (so.map (rc φ m)) (offs.map φ) (φ p) (day+m)=(aY so offs p day).map (rc φ m):=by
 unfold aY
 rw[List.flatMap_map,List.map_flatMap]
 exact hU λc _=>zw hφ offs p day c
theorem Dc (hk:List (List Key)) (hv:List D) (o p:Str):iQ (hk.map (List.map (rk φ))) (hv.map (rnS φ)) (φ o) (φ p)=(iQ hk hv o p).map φ:=by
 unfold iQ
 have:=lm (m8 hφ) (rnS φ) [.inr o,.inr p] hk hv
 rw[show([.inr (φ o),.inr (φ p)]:List Key)=List.map (rk φ) [.inr o,.inr p]from rfl,this]
 cases bw hk hv [.inr o,.inr p] with
 | none=>rfl
 | some d=>cases d<;>rfl
variable {K:KL}(g:∀x∈K,cN x.1)
include g
theorem zx (hk:List (List Key)) (hv:List D) (p:Str) (day:Int) (n:Nat) (o:Str):bU (K.map (rx φ m)) (hk.map (List.map (rk φ))) (hv.map (rnS φ)) (φ p) (day+m) n (φ o)=(bU K hk hv p day n o).map (rc φ m):=by
 unfold bU
 rw[Dc hφ]
 cases iQ hk hv o p with
 | none=>rfl
 | some h =>
  show(if fD (K.map (rx φ m)) (φ h) (day+m)=true then _ else _)=_
  rw[vk hφ g]
  show _=List.map (rc φ m) (if fD K h day=true then [⟨o,h,day,none,n⟩]else [])
  split<;>rfl
omit g in
theorem wW (so:List Cl) (ho:∀a∈so,∀b∈so,ltCps (φ b.o).cps.toList (φ a.o).cps.toList=ltCps b.o.cps.toList a.o.cps.toList) (p:Str) (day:Int):bG (so.map (rc φ m)) (φ p) (day+m)=(bG so p day).map φ:=by
 unfold bG
 rw[List.filter_map]
 have:so.filter ((λc=>decide (c.p=φ p) && cb c (day+m)) ∘ rc φ m)=so.filter λc=>decide (c.p=p) && cb c day:=List.filter_congr λc _=>by
  show(decide (φ c.p=φ p) && cb (rc φ m c) (day+m))=_
  rw[oE]
  simp only[gv hφ]
 rw[this,List.map_map,show(λc:Cl=>c.o) ∘ rc φ m=φ ∘ λc:Cl=>c.o from rfl,←List.map_map,vi hφ]
 refine qK φ _ λx hx y hy=>?_
 have hm:∀z∈dZ ((so.filter λc=>decide (c.p=p) && cb c day).map (·.o)),∃c∈so,c.o=z:=λz hz=>by
  rcases d4 _ [] z hz with h|h
  ·cases h
  ·obtain⟨c,hc,e⟩:=List.mem_map.mp h
   exact⟨c,(List.mem_filter.mp hc).1,e⟩
 obtain⟨a,ha,rfl⟩:=hm x hx
 obtain⟨b,hb,rfl⟩:=hm y hy
 exact ho a ha b hb
theorem Fk (so:List Cl) (ho:∀a∈so,∀b∈so,ltCps (φ b.o).cps.toList (φ a.o).cps.toList=ltCps b.o.cps.toList a.o.cps.toList) (hk:List (List Key)) (hv:List D) (p:Str) (day:Int) (n:Nat) :
  gZ (K.map (rx φ m)) (so.map (rc φ m)) (hk.map (List.map (rk φ))) (hv.map (rnS φ)) (φ p) (day+m) n=(gZ K so hk hv p day n).map (rc φ m):=by
 unfold gZ
 rw[wW hφ so ho,List.flatMap_map,List.map_flatMap]
 exact hU λo _=>zx hφ g hk hv p day n o
end
theorem wZ {r:D}(g:cN r) (hr:aS r=false):(∃h d o p,r=row h ("named" : Str) [.int d,.str o,.str p])∨(∃h d b o p,∃s:Int,r=row h ("chosen" : Str) [.int d,.str b,.str o,.str p,.int s]) ∨
  (∃h d b o p,r=row h ("heir" : Str) [.int d,.str b,.str o,.str p])∨(∃h d p,r=row h ("death" : Str) [.int d,.str p])∨(kindOf r∉gu/\kindOf r≠("death" : Str)):=by
 obtain⟨h,k,a0,rfl,d⟩:=g
 cases d with
 | root o rl a f=>exact absurd (show decide (("root" : Str)=("root" : Str))=false from hr) (by decide +kernel)
 | named d o p=>exact .inl ⟨_,_,_,_,rfl⟩
 | chosen d b o p s=>exact .inr (.inl ⟨_,_,_,_,_,_,rfl⟩)
 | heir d b o p=>exact .inr (.inr (.inl ⟨_,_,_,_,_,rfl⟩))
 | three k hk d p =>
  rcases hk with rfl|rfl|rfl
  ·exact .inr (.inr (.inr (.inl ⟨_,_,_,rfl⟩)))
  ·exact .inr (.inr (.inr (.inr ⟨show("lost" : Str)∉gu by decide +kernel,show("lost" : Str)≠_ by decide +kernel⟩)))
  ·exact .inr (.inr (.inr (.inr ⟨show("found" : Str)∉gu by decide +kernel,show("found" : Str)≠_ by decide +kernel⟩)))
 | other k hk d b r hf hp =>
  refine .inr (.inr (.inr (.inr ?_)))
  show k∉gu/\k≠_
  rcases hk with rfl|rfl|rfl|rfl|rfl<;>exact⟨by decide +kernel,by decide +kernel⟩
theorem gw {K:KL}{so:List Cl}{x:D×Nat}(h:kindOf x.1∉gu/\kindOf x.1≠("death" : Str)):aZ K so x=false:=by
 unfold aZ
 rw[if_neg h.2,if_neg h.1]
section
variable {φ:Str->Str}(hφ:∀a b,φ a=φ b->a=b) {m:Int}{K:KL}(g:∀x∈K,cN x.1)
include hφ g
theorem zy (so:List Cl) {x:D×Nat}(gx:cN x.1) (hr:aS x.1=false):aZ (K.map (rx φ m)) (so.map (rc φ m)) (rx φ m x)=aZ K so x:=by
 have hk:kindOf (rx φ m x).1=kindOf x.1:=kg gx
 rcases wZ gx hr with ⟨h,d,o,p,e⟩|⟨h,d,b,o,p,s,e⟩|⟨h,d,b,o,p,e⟩|⟨h,d,p,e⟩|e
 ·have e1:kindOf x.1=("named" : Str):=by rw[e];rfl
  have e2:iE (rx φ m x).1=φ o:=by show iE (rn φ m x.1)=_;rw[e];rfl
  have e3:iE x.1=o:=by rw[e];rfl
  unfold aZ
  rw[hk,e1,if_neg (by decide +kernel),if_pos (by decide +kernel),if_neg (by decide +kernel),if_pos (by decide +kernel),e2,e3,ki hφ g]
  cases dW K o<;>rfl
 all_goals try (
  have e1:a7 (rx φ m x).1=a7 x.1+m:=lg gx hr
  have es:aq 1 (rx φ m x).1=φ (aq 1 x.1):=by show aq 1 (rn φ m x.1)=_;rw[e];rfl)
 ·have hq:kindOf x.1=("chosen" : Str):=by rw[e];rfl
  have e2:iE (rx φ m x).1=φ o:=by show iE (rn φ m x.1)=_;rw[e];rfl
  have e3:iE x.1=o:=by rw[e];rfl
  have hsd:dE (K.map (rx φ m)) (rx φ m x).1=dE K x.1:=vn hφ g gx
  unfold aZ
  rw[hk,hq,if_neg (by decide +kernel),if_pos (by decide +kernel),if_neg (by decide +kernel),if_pos (by decide +kernel),e2,e3,ki hφ g]
  cases hv:dW K o with
  | none=>rfl
  | some v =>
   obtain⟨a,o2,rl,mm,f,ev⟩:=oD g hv
   show(if _ then true else dE (K.map (rx φ m)) (rx φ m x).1 && iP (so.map (rc φ m)) (aq 0 (rn φ m v)) (aq 3 (rn φ m v)) (aq 1 (rx φ m x).1) (a7 (rx φ m x).1))=_
   rw[hsd,es,e1,show aq 0 (rn φ m v)=φ (aq 0 v) by rw[ev];rfl,show aq 3 (rn φ m v)=aq 3 v by rw[ev];rfl,yz hφ]
 ·have hq:kindOf x.1=("heir" : Str):=by rw[e];rfl
  have e2:iE (rx φ m x).1=φ o:=by show iE (rn φ m x.1)=_;rw[e];rfl
  have e3:iE x.1=o:=by rw[e];rfl
  have hsd:dE (K.map (rx φ m)) (rx φ m x).1=dE K x.1:=vn hφ g gx
  unfold aZ
  rw[hk,hq,if_neg (by decide +kernel),if_pos (by decide +kernel),if_neg (by decide +kernel),if_pos (by decide +kernel),e2,e3,ki hφ g]
  cases hv:dW K o with
  | none=>rfl
  | some v =>
   obtain⟨a,o2,rl,mm,f,ev⟩:=oD g hv
   show(if _ then true else dE (K.map (rx φ m)) (rx φ m x).1 && iP (so.map (rc φ m)) (aq 0 (rn φ m v)) (aq 3 (rn φ m v)) (aq 1 (rx φ m x).1) (a7 (rx φ m x).1))=_
   rw[hsd,es,e1,show aq 0 (rn φ m v)=φ (aq 0 v) by rw[ev];rfl,show aq 3 (rn φ m v)=aq 3 v by rw[ev];rfl,yz hφ]
 ·have hq:kindOf x.1=("death" : Str):=by rw[e];rfl
  unfold aZ
  rw[hk,if_pos hq,if_pos hq,es,e1,Bo hφ g];rfl
 ·rw[gw e,gw (by rw[hk];exact e)]
end
def rst (φ:Str->Str) (m:Int) (st:St3):St3:=(st.1.map (rc φ m),st.2.1.map (List.map (rk φ)),st.2.2.map (rnS φ))
section
variable {φ:Str->Str}(hφ:∀a b,φ a=φ b->a=b) {m:Int}{K:KL}(g:∀x∈K,cN x.1)
include hφ g
theorem De {st:St3}(ho:∀a∈st.1,∀b∈st.1,ltCps (φ b.o).cps.toList (φ a.o).cps.toList=ltCps b.o.cps.toList a.o.cps.toList) {x:D×Nat}(gx:cN x.1) (hr:aS x.1=false) :
  bS (K.map (rx φ m)) (rst φ m st) (rx φ m x)=rst φ m (bS K st x):=by
 have hk:kindOf (rx φ m x).1=kindOf x.1:=kg gx
 have hc:aZ (K.map (rx φ m)) (rst φ m st).1 (rx φ m x)=aZ K st.1 x:=zy hφ g st.1 gx hr
 have e1:a7 (rx φ m x).1=a7 x.1+m:=lg gx hr
 unfold bS
 rw[hc,hk]
 cases hcc:aZ K st.1 x with
 | false=>rfl
 | true =>
  rw[if_pos rfl,if_pos rfl]
  rcases wZ gx hr with ⟨h,d,o,p,e⟩|⟨h,d,b,o,p,s,e⟩|⟨h,d,b,o,p,e⟩|⟨h,d,p,e⟩|e
  ·have hq:kindOf x.1=("named" : Str):=by rw[e];rfl
   rw[if_pos hq,if_pos hq,e1]
   show((st.1.map (rc φ m)++[(⟨aq 1 (rn φ m x.1),aq 2 (rn φ m x.1),a7 x.1+m,none,x.2⟩:Cl)],_):St3)=((st.1++[(⟨aq 1 x.1,aq 2 x.1,a7 x.1,none,x.2⟩:Cl)]).map (rc φ m),_)
   rw[List.map_append,e];rfl
  ·have hq:kindOf x.1=("chosen" : Str):=by rw[e];rfl
   rw[hq,if_neg (by decide +kernel),if_pos rfl,if_neg (by decide +kernel),if_pos rfl]
   have a1:aq 1 (rx φ m x).1=φ (aq 1 x.1):=by show aq 1 (rn φ m x.1)=_;rw[e];rfl
   have a2:aq 2 (rx φ m x).1=φ (aq 2 x.1):=by show aq 2 (rn φ m x.1)=_;rw[e];rfl
   have a3:aq 3 (rx φ m x).1=φ (aq 3 x.1):=by show aq 3 (rn φ m x.1)=_;rw[e];rfl
   have a4:kc 4 (rx φ m x).1=kc 4 x.1+m:=by show kc 4 (rn φ m x.1)=_;rw[e];rfl
   rw[a1,a2,a3,a4]
   have:=vt hφ (m:=m) st.1 [aq 2 x.1] (aq 1 x.1) (kc 4 x.1)
   rw[List.map_cons,List.map_nil]at this
   show(aY (st.1.map (rc φ m)) _ _ _++_,_)=((aY st.1 _ _ _++_).map (rc φ m),_)
   rw[this,List.map_append];rfl
  ·have hq:kindOf x.1=("heir" : Str):=by rw[e];rfl
   rw[hq,if_neg (by decide +kernel),if_neg (by decide +kernel),if_pos rfl,if_neg (by decide +kernel),if_neg (by decide +kernel),if_pos rfl]
   have a1:aq 1 (rx φ m x).1=φ (aq 1 x.1):=by show aq 1 (rn φ m x.1)=_;rw[e];rfl
   have a2:aq 2 (rx φ m x).1=φ (aq 2 x.1):=by show aq 2 (rn φ m x.1)=_;rw[e];rfl
   have a3:aq 3 (rx φ m x).1=φ (aq 3 x.1):=by show aq 3 (rn φ m x.1)=_;rw[e];rfl
   rw[a1,a2,a3]
   have p1:=qN (m8 hφ) st.2.1 [.inr (aq 2 x.1),.inr (aq 1 x.1)]
   have p2:=qO (m8 hφ) (rnS φ) st.2.1 st.2.2 [.inr (aq 2 x.1),.inr (aq 1 x.1)] (.str (aq 3 x.1))
   show(st.1.map (rc φ m),bY (st.2.1.map (List.map (rk φ))) _,bZ (st.2.1.map (List.map (rk φ))) (st.2.2.map (rnS φ)) _ _)=(st.1.map (rc φ m),(bY st.2.1 _).map (List.map (rk φ)),(bZ st.2.1 st.2.2 _ _).map (rnS φ))
   rw[←p1,←p2];rfl
  ·have hq:kindOf x.1=("death" : Str):=by rw[e];rfl
   rw[hq,if_neg (by decide +kernel),if_neg (by decide +kernel),if_neg (by decide +kernel),if_neg (by decide +kernel),if_neg (by decide +kernel),if_neg (by decide +kernel),e1]
   have a1:aq 1 (rx φ m x).1=φ (aq 1 x.1):=by show aq 1 (rn φ m x.1)=_;rw[e];rfl
   rw[a1]
   have p1:=vt hφ (m:=m) st.1 (st.1.map Cl.o) (aq 1 x.1) (a7 x.1)
   have p2:=Fk hφ (m:=m) g st.1 ho st.2.1 st.2.2 (aq 1 x.1) (a7 x.1) x.2
   have p0:(st.1.map (rc φ m)).map Cl.o=(st.1.map Cl.o).map φ:=by rw[List.map_map,List.map_map];rfl
   show(aY (st.1.map (rc φ m)) ((st.1.map (rc φ m)).map Cl.o) _ _++gZ (K.map (rx φ m)) (st.1.map (rc φ m)) _ _ _ _ x.2,_)=((aY st.1 _ _ _++gZ K st.1 _ _ _ _ _).map (rc φ m),_)
   rw[p0,p1,List.map_append,←p2];rfl
  ·rw[gw e]at hcc;cases hcc
end
structure RowIn (O P:List Str) (r:D):Prop where
 off:kindOf r∈gu->iE r∈O
 nam:kindOf r=("named" : Str)->aq 2 r∈P
 oth:kindOf r=("chosen" : Str)∨kindOf r=("heir" : Str)->aq 3 r∈P
structure StIn (O P:List Str) (st:St3):Prop where
 cl:∀c∈st.1,c.o∈O/\c.p∈P
 hv:∀v∈st.2.2,∃s∈P,v=.str s
section
variable {K:KL}{O P:List Str}
theorem vv {offs:List Str}{p:Str}{day:Int}{so:List Cl}(h:∀c∈so,c.o∈O/\c.p∈P):∀c∈aY so offs p day,c.o∈O/\c.p∈P:=λc hc=>by
 unfold aY at hc
 obtain⟨c',h1,h2⟩:=List.mem_flatMap.mp hc
 unfold cO at h2
 split at h2
 ·rw[List.mem_singleton.mp h2];exact h c' h1
 ·rename_i hn
  split at h2
  ·rw[List.mem_singleton.mp h2]
   have hp:c'.p=p:=by
    apply Classical.byContradiction
    intro z
    exact hn (by simp[z])
   exact⟨(h c' h1).1,hp ▸ (h c' h1).2⟩
  ·cases h2
theorem Df {st:St3}(h:StIn O P st) {x:D×Nat}(gx:cN x.1) (hr:aS x.1=false) (hx:RowIn O P x.1):StIn O P (bS K st x):=by
 unfold bS
 split
 ·rename_i hcc
  rcases wZ gx hr with ⟨a,d,o,p,e⟩|⟨a,d,b,o,p,s,e⟩|⟨a,d,b,o,p,e⟩|⟨a,d,p,e⟩|e
  ·have hq:kindOf x.1=("named" : Str):=by rw[e];rfl
   have h1:=hx.off (by rw[hq];decide +kernel)
   have h2:=hx.nam hq
   rw[if_pos hq]
   refine⟨λc hc=>?_,h.hv⟩
   rcases List.mem_append.mp hc with hc|hc
   ·exact h.cl c hc
   ·rw[List.mem_singleton.mp hc]
    rw[e]at h1 h2 ⊢;exact⟨h1,h2⟩
  ·have hq:kindOf x.1=("chosen" : Str):=by rw[e];rfl
   have h1:=hx.off (by rw[hq];decide +kernel)
   have h2:=hx.oth (.inl hq)
   rw[hq,if_neg (by decide +kernel),if_pos rfl]
   refine⟨λc hc=>?_,h.hv⟩
   rcases List.mem_append.mp hc with hc|hc
   ·exact vv h.cl c hc
   ·rw[List.mem_singleton.mp hc]
    rw[e]at h1 h2 ⊢;exact⟨h1,h2⟩
  ·have hq:kindOf x.1=("heir" : Str):=by rw[e];rfl
   have h2:=hx.oth (.inr hq)
   rw[hq,if_neg (by decide +kernel),if_neg (by decide +kernel),if_pos rfl]
   refine⟨h.cl,λv hv=>?_⟩
   rcases kZ hv with rfl|hv
   ·exact⟨_,h2,rfl⟩
   ·exact h.hv v hv
  ·have hq:kindOf x.1=("death" : Str):=by rw[e];rfl
   rw[hq,if_neg (by decide +kernel),if_neg (by decide +kernel),if_neg (by decide +kernel)]
   refine⟨λc hc=>?_,h.hv⟩
   rcases List.mem_append.mp hc with hc|hc
   ·exact vv h.cl c hc
   ·unfold gZ at hc
    obtain⟨o,ho,hc⟩:=List.mem_flatMap.mp hc
    obtain⟨c',h1,h2⟩:=Bj ho
    unfold bU iQ at hc
    split at hc
    ·rename_i hh
     split at hc
     ·rw[List.mem_singleton.mp hc]
      refine⟨h2 ▸ (h.cl c' h1).1, ?_⟩
      split at hh
      ·rename_i hl
       obtain⟨s,hs,es⟩:=h.hv _ (gY hl)
       cases hh;cases es;exact hs
      ·cases hh
     ·cases hc
    ·cases hc
  ·rw[gw e]at hcc;cases hcc
 ·exact h
end
section
variable {φ:Str->Str}(hφ:∀a b,φ a=φ b->a=b) {m:Int}{K:KL}(g:∀x∈K,cN x.1) {O P:List Str}(hO:∀a∈O,∀b∈O,ltCps (φ b).cps.toList (φ a).cps.toList=ltCps b.cps.toList a.cps.toList)
include hφ g hO
theorem y0:∀(l:KL) (st:St3),StIn O P st->(∀x∈l,cN x.1/\aS x.1=false/\RowIn O P x.1) ->
  (l.map (rx φ m)).foldl (bS (K.map (rx φ m))) (rst φ m st)=rst φ m (l.foldl (bS K) st)/\StIn O P (l.foldl (bS K) st)
 | [],st,h,_=>⟨rfl,h⟩
 | x::l,st,h,hl=>by
  obtain⟨h1,h2,h3⟩:=hl x mX
  rw[List.map_cons,List.foldl_cons,List.foldl_cons,De hφ g (λa ha b hb=>hO _ (h.cl a ha).1 _ (h.cl b hb).1) h1 h2]
  exact y0 l _ (Df h h1 h2 h3) λy hy=>hl y (mZ _ hy)
omit hφ hO in
theorem Bt:cZ (K.map (rx φ m))=(cZ K).map (rx φ m):=by
 unfold cZ
 have e:(K.map (rx φ m)).filter (λx=>!aS x.1)=(K.filter λx=>!aS x.1).map (rx φ m):=by
  rw[List.filter_map]
  exact congrArg (List.map (rx φ m)) (List.filter_congr λx hx=>by show(!aS (rn φ m x.1))=_;rw[yy (g x hx)])
 rw[e]
 refine lf (rx φ m) _ λx hx y hy=>?_
 obtain⟨x1,x2⟩:=List.mem_filter.mp hx
 obtain⟨y1,y2⟩:=List.mem_filter.mp hy
 have ex:a7 (rx φ m x).1=a7 x.1+m:=lg (g x x1) (by simpa using x2)
 have ey:a7 (rx φ m y).1=a7 y.1+m:=lg (g y y1) (by simpa using y2)
 show [a7 (rx φ m y).1,(y.2:Int)]<[a7 (rx φ m x).1,(x.2:Int)]↔[a7 y.1,(y.2:Int)]<[a7 x.1,(x.2:Int)]
 rw[ex,ey]
 have e1:(a7 y.1+m=a7 x.1+m)=(a7 y.1=a7 x.1):=propext (by omega)
 have e2:(a7 y.1+m<a7 x.1+m)=(a7 y.1<a7 x.1):=propext (by omega)
 simp only[List.cons_lt_cons_iff,e1,e2]
theorem qQ (hK:∀x∈K,RowIn O P x.1):b8 (K.map (rx φ m))=(b8 K).map (rc φ m)/\∀c∈b8 K,c.o∈O/\c.p∈P:=by
 unfold b8 iR
 rw[Bt g]
 have hl:∀x∈cZ K,cN x.1/\aS x.1=false/\RowIn O P x.1:=λx hx=>by
  obtain⟨h1,h2⟩:=List.mem_filter.mp ((bF _ _).mem_iff.mp hx)
  exact⟨g x h1,by simpa using h2,hK x h1⟩
 obtain⟨e,ho⟩:=y0 hφ g hO (cZ K) ([],[],[]) ⟨λc h=>(by cases h),λv h=>(by cases h)⟩ hl
 rw[show(([],[],[]):St3)=rst φ m ([],[],[])from rfl,e]
 refine⟨lf (rc φ m) _ λx hx y hy=>?_,λc hc=>ho.cl c ((bF _ _).mem_iff.mp hc)⟩
 have lx:aW (kC (rc φ m y)) (kC (rc φ m x))=aW (kC y) (kC x):=by
  have l2:=zo (y.s+m) y.n (x.s+m) x.n
  have l3:=zo y.s y.n x.s x.n
  have e2:(decide (y.s+m<x.s+m∨(y.s+m=x.s+m/\(y.n:Int)<x.n)))=decide (y.s<x.s∨(y.s=x.s/\(y.n:Int)<x.n)):=decide_eq_decide.mpr (by omega)
  have h1:=hO _ (ho.cl x hx).1 _ (ho.cl y hy).1
  rw[PyProof.Rows.ltCps_eq,PyProof.Rows.ltCps_eq]at h1
  show(if φ y.o=φ x.o then aW [.i (y.s+m),.i y.n] [.i (x.s+m),.i x.n]else some (decide ((φ y.o).cps.toList<(φ x.o).cps.toList)))=(if y.o=x.o then aW [.i y.s,.i y.n] [.i x.s,.i x.n]else some (decide (y.o.cps.toList<x.o.cps.toList)))
  rw[l2,l3,e2,h1]
  simp only[gv hφ]
 obtain⟨b,hb⟩:=Option.isSome_iff_exists.mp (GN y x)
 have b1:=jJ _ _ _ hb
 have b2:=jJ _ _ _ (lx.trans hb)
 exact decide_eq_decide.mp (b2.symm.trans b1)
theorem z4 (hK:∀x∈K,RowIn O P x.1) (o:Str) (day:Int):HR φ (dL K o day) (dL (K.map (rx φ m)) (φ o) (day+m)):=by
 unfold dL
 rw[ki hφ g]
 cases hv:dW K o with
 | none=>exact .none
 | some v =>
  obtain⟨a,o2,rl,mm,f,ev⟩:=oD g hv
  show HR φ (eS (b8 K) (aq 0 v) (aq 3 v) day) (eS (b8 (K.map (rx φ m))) (aq 0 (rn φ m v)) (aq 3 (rn φ m v)) (day+m))
  rw[(qQ hφ g hO hK).1,show aq 0 (rn φ m v)=φ (aq 0 v) by rw[ev];rfl,show aq 3 (rn φ m v)=aq 3 v by rw[ev];rfl]
  unfold eS
  rw[Bs hφ]
  exact vq hφ _ _
end
theorem vw (φ:Str->Str) (m known:Int):∀(rows:List D) (n:Nat),(∀r∈rows,cN r)->((rows.map (rn φ m)).zipIdx n).filter (λx=>decide (cC x.1<=known+m))=((rows.zipIdx n).filter λx=>decide (cC x.1<=known)).map (rx φ m)
 | [],_,_=>rfl
 | r::rows,n,h=>by
  rw[List.map_cons,List.zipIdx_cons,List.zipIdx_cons,List.filter_cons,List.filter_cons,vw φ m known rows (n+1) λz hz=>h z (mZ _ hz),Bm (h r mX)]
  by_cases c:cC r<=known
  ·rw[if_pos (by simpa using c),if_pos (by simpa using c)];rfl
  ·rw[if_neg (by simpa using c),if_neg (by simpa using c)]
theorem z5 (φ:Str->Str) (m known:Int) {rows:List D}(h:∀r∈rows,cN r):aw (rows.map (rn φ m)) (known+m)=(aw rows known).map (rx φ m):=vw φ m known rows 0 h
def O3:List Str:=[("crown" : Str),("abbey" : Str),("mill" : Str)]
def O2:List Str:=[("crown" : Str),("abbey" : Str)]
theorem DX {ns:List Int}{i:Int}(h1:0<=i) (h2:i<ns.length):∃m∈ns,ixD (.lst (ns.map .int)) (.int i)=some (.int m,false):=by
 have h:i.toNat<ns.length:=by omega
 refine⟨ns.getD i.toNat 0, ?_,sq h1 h⟩
 rw[List.getD_eq_getElem?_getD,List.getElem?_eq_getElem h]
 exact List.getElem_mem h
theorem lq {zs:List Str}{i:Int}(h1 : -(zs.length:Int)<=i) (h2:i<zs.length):∃z∈zs,ixD (.lst (zs.map .str)) (.int i)=some (.str z,false):=by
 obtain⟨j,hj,hl⟩:∃j,ixN (zs.map D.str).length i=some j/\j<zs.length:=by
  unfold ixN
  rw[List.length_map]
  by_cases h0:0<=i
  ·rw[if_pos h0,if_pos h2];exact⟨_,rfl,by omega⟩
  ·rw[if_neg h0,if_pos (by omega)];exact⟨_,rfl,by omega⟩
 refine⟨zs[j],List.getElem_mem hl, ?_⟩
 have:atI (zs.map D.str) i=some (.str zs[j]):=by unfold atI;rw[hj,Option.bind_some,List.getElem?_map,List.getElem?_eq_getElem hl];rfl
 simp[this]
inductive Ck (zs:List Str):Str->List D->Prop
 | root (o r:Str) (ho:o∈O3):Ck zs ("root" : Str) [.str o,.int 7,.int 1,.str r]
 | named (d:Int) (o p:Str) (ho:o∈O3) (hp:p∈zs):Ck zs ("named" : Str) [.int d,.str o,.str p]
 | chosen (d:Int) (b o p:Str) (s:Int) (hb:b∈zs) (ho:o∈O3) (hp:p∈zs):Ck zs ("chosen" : Str) [.int d,.str b,.str o,.str p,.int s]
 | heir (d:Int) (b o p:Str) (hb:b∈zs) (ho:o∈O3) (hp:p∈zs):Ck zs ("heir" : Str) [.int d,.str b,.str o,.str p]
 | three (k:Str) (hk:k=("death" : Str)∨k=("lost" : Str)∨k=("found" : Str)) (d:Int) (p:Str) (hp:p∈zs):Ck zs k [.int d,.str p]
 | copy (d:Int) (b:Str) (n:Int) (hb:b∈zs):Ck zs ("copy" : Str) [.int d,.str b,.int n]
theorem Ck.cd {zs:List Str}{k:Str}{r:List D}(h:Ck zs k r):Cd k r:=by
 cases h with
 | root o r ho=>exact .root _ _ _ _
 | named d o p ho hp=>exact .named _ _ _
 | chosen d b o p s hb ho hp=>exact .chosen _ _ _ _ _
 | heir d b o p hb ho hp=>exact .heir _ _ _ _
 | three k hk d p hp=>exact .three _ hk _ _
 | copy d b n hb=>exact .other _ (.inr (.inr (.inr (.inl rfl)))) _ _ _ rfl (by simp)
def iF (zs:List Str) (r:D):Prop:=∃h k a0,r=row h k a0/\Ck zs k a0
theorem iF.c {zs:List Str}{r:D}(g:iF zs r):cN r:=by obtain⟨h,k,a0,e,d⟩:=g;exact⟨h,k,a0,e,d.cd⟩
theorem iF.flat {zs:List Str}{r:D}(g:iF zs r):ba r=true:=g.c.rp.flat
theorem iF.off {zs:List Str}{r:D}(g:iF zs r) (hk:kindOf r∈gu):iE r∈O3:=by
 obtain⟨h,k,a0,rfl,d⟩:=g
 cases d with
 | root o r ho=>exact absurd (show("root" : Str)∈gu from hk) (by decide +kernel)
 | named d o p ho hp=>exact ho
 | chosen d b o p s hb ho hp=>exact ho
 | heir d b o p hb ho hp=>exact ho
 | three k hk' d p hp =>
  have hk:k∈gu:=hk
  rcases hk' with rfl|rfl|rfl<;>exact absurd hk (by decide +kernel)
 | copy d b n hb=>exact absurd (show("copy" : Str)∈gu from hk) (by decide +kernel)
theorem Dg {zs:List Str}(c day:Int) (b o p:Str) (hb:b∈zs) (ho:o∈O3) (hp:p∈zs):∃k r,gU [.int c,.int day,.str b,.str o,.str p]=some (.tup (.str k::r),false)/\Ck zs k r:=by
 have h16:=mod_lt (x:=c) (m:=16) (by decide)
 have h5:=mod_lt (x:=c / 16) (m:=5) (by decide)
 have h2:=mod_lt (x:=c / 80) (m:=2) (by decide)
 have h60:=mod_lt (x:=c) (m:=60) (by decide)
 obtain⟨iv,hiv,eiv⟩:=DX (ns:=[0,0,0,0,0,1,1,1,1,2,2,3,3,4,5,6+c / 80 % 2]) (i:=c % 16) h16.1 h16.2
 have hi8:0<=iv/\iv<8:=by simp only[List.mem_cons,List.not_mem_nil,or_false]at hiv;omega
 let L1:List D:=[.tup [.str "chosen",.int day,.str b,.str o,.str p,.int (day+c / 16 % 5)],.tup [.str "heir",.int day,.str b,.str o,.str p]]
 let L2:List D:=[.tup [.str "death",.int day,.str b],.tup [.str "named",.int day,.str o,.str p],.tup [.str "lost",.int day,.str b],.tup [.str "found",.int day,.str b]]
 let L3:List D:=[.tup [.str "death",.int day,.str p],.tup [.str "copy",.int day,.str b,.int (c % 60)]]
 have e1:fA bN (ae (fA aQ (ae (fC (.str "chosen")) (ae (ag 1) (ae (ag 2) (ae (ag 3) (ae (ag 4) (ae (f2 b7 (ag 1) (f2 c6 (f2 d9 (ag 0) (fC (.int 16))) (fC (.int 5)))) ak))))))) (ae (fA aQ (ae (fC (.str "heir")) (ae (ag 1) (ae (ag 2) (ae (ag 3) (ae (ag 4) ak)))))) ak)) [some (.int c,false),some (.int day,false),some (.str b,false),some (.str o,false),some (.str p,false),none]=some (.lst L1,true):=by simp[L1,sizeLine]
 have q:∀n:Nat,n<=100->n<=sizeLine:=λn h=>bC (by omega)
 have e2:f2 b7 (ag 5) (fA bN (ae (fA aQ (ae (fC (.str "death")) (ae (ag 1) (ae (ag 2) ak)))) (ae (fA aQ (ae (fC (.str "named")) (ae (ag 1) (ae (ag 3) (ae (ag 4) ak))))) (ae (fA aQ (ae (fC (.str "lost")) (ae (ag 1) (ae (ag 2) ak)))) (ae (fA aQ (ae (fC (.str "found")) (ae (ag 1) (ae (ag 2) ak)))) ak))))) [some (.int c,false),some (.int day,false),some (.str b,false),some (.str o,false),some (.str p,false),some (.lst L1,true)]=some (.lst (L1++L2),true) :=
  aD (x:=.lst L1) (y:=.lst L2) (b1:=false) (b2:=true) rfl (by simp[L2,sizeLine]) (if_pos (c:=6<=sizeLine) (e:=none) (q 6 (by decide)))
 have e3:f2 b7 (ag 5) (fA bN (ae (fA aQ (ae (fC (.str "death")) (ae (ag 1) (ae (ag 4) ak)))) (ae (fA aQ (ae (fC (.str "copy")) (ae (ag 1) (ae (ag 2) (ae (f2 c6 (ag 0) (fC (.int 60))) ak))))) ak))) [some (.int c,false),some (.int day,false),some (.str b,false),some (.str o,false),some (.str p,false),some (.lst (L1++L2),true)]=some (.lst (L1++L2++L3),true) :=
  aD (x:=.lst (L1++L2)) (y:=.lst L3) (b1:=false) (b2:=true) rfl (by simp[L3,sizeLine]) (if_pos (c:=8<=sizeLine) (e:=none) (q 8 (by decide)))
 have hl8:(L1++L2++L3).length=8:=rfl
 have fin:gU [.int c,.int day,.str b,.str o,.str p]=some ((L1++L2++L3).getD iv.toNat .non,false):=by
  refine a8 rfl (cB (ds:=L1) e1 rfl (cB (ds:=L1++L2) e2 rfl (cB (ds:=L1++L2++L3) e3 rfl (aI (aD (x:=.lst (L1++L2++L3)) (y:=.int iv) (b1:=false) (b2:=false) rfl (aD (x:=.lst (([0,0,0,0,0,1,1,1,1,2,2,3,3,4,5,6+c / 80 % 2]:List Int).map .int)) (y:=.int (c % 16)) (b1:=true) (b2:=false) ?_ (by simp) eiv) (sn hi8.1 (by rw[hl8];omega)))))))
  exact ai (ds:=([0,0,0,0,0,1,1,1,1,2,2,3,3,4,5,6+c / 80 % 2]:List Int).map .int) (by simp) (gX _ (by simp))
 rw[fin]
 rcases (show iv=0∨iv=1∨iv=2∨iv=3∨iv=4∨iv=5∨iv=6∨iv=7 by omega)with h|h|h|h|h|h|h|h<;>subst h
 ·exact⟨_,_,rfl,.chosen _ _ _ _ _ hb ho hp⟩
 ·exact⟨_,_,rfl,.heir _ _ _ _ hb ho hp⟩
 ·exact⟨_,_,rfl,.three _ (.inl rfl) _ _ hb⟩
 ·exact⟨_,_,rfl,.named _ _ _ ho hp⟩
 ·exact⟨_,_,rfl,.three _ (.inr (.inl rfl)) _ _ hb⟩
 ·exact⟨_,_,rfl,.three _ (.inr (.inr rfl)) _ _ hb⟩
 ·exact⟨_,_,rfl,.three _ (.inl rfl) _ _ hp⟩
 ·exact⟨_,_,rfl,.copy _ _ _ hb⟩
theorem y4 {x n:Int}(h:0<n):c6 (.int x) (.int n)=some (.int (x % n),false):=by
 show(if decide ((0:Int)<n)=true then _ else _)=_
 rw[if_pos (decide_eq_true h)]
def mo (rows:List D):Nat:=(rows.filter λr=>!aS r).length
theorem z6 (rows:List D) (r:D):mo (rows++[r])<=mo rows+1:=by
 unfold mo
 rw[List.filter_append,List.length_append]
 have:([r].filter λr=>!aS r).length<=1:=List.length_filter_le _ _
 omega
theorem z7 (rows:List D) (r:D) (h:aS r=true):mo (rows++[r])=mo rows:=by
 unfold mo
 rw[List.filter_append,List.filter_cons,if_neg (by rw[h];decide)]
 simp
theorem GO (c:Int) (ns:List Int) (zs offs:List Str) (hof:∀o∈offs,o∈O3) (rows:List D) (hr:rows.length<=100) (i:Nat) (hi:i<offs.length) (hi2:i<10) :
  ∃r,iF zs r/\aS r=true/\kQ [some (.lst (ns.map .int),false),some (.lst (zs.map .str),false),some (.int c,false),some (.lst (offs.map .str),true),some (.lst rows,true),some (.int i,false),none,none,none,none,none]=some (.nx [some (.lst (ns.map .int),false),some (.lst (zs.map .str),false),some (.int c,false),some (.lst (offs.map .str),true),some (.lst (rows++[r]),true),some (.int i,false),none,none,none,none,none]):=by
 have h3:=mod_lt (x:=c / (2+i)) (m:=3) (by decide)
 obtain⟨rl,_,erl⟩:=lq (zs:=[("open" : Str),("first" : Str),("last" : Str)]) (i:=c / (2+i) % 3) (by simp;omega) (by simp;omega)
 obtain⟨o,ho,eo⟩:=lq (zs:=offs) (i:=i) (by omega) (by omega)
 have b2:(0:Int)<2+i/\(2:Int)+i<1073741824:=by omega
 refine⟨row 0 ("root" : Str) [.str o,.int 7,.int 1,.str rl],⟨_,_,_,rfl,.root _ _ (hof o ho)⟩,decide_eq_true rfl, ?_⟩
 refine gQ (ds:=rows) (d:=row 0 ("root" : Str) [.str o,.int 7,.int 1,.str rl]) (b:=false) rfl ?_ rfl (bJ (by omega))
 refine ai (ds:=[.int 0,.tup [.str "root",.str o,.int 7,.int 1,.str rl]]) (ar (b:=false) rfl (ar (b:=false) (ai (ds:=[.str "root",.str o,.int 7,.int 1,.str rl]) (ar (b:=false) rfl (ar (b:=false) (aD (x:=.lst (offs.map .str)) (y:=.int i) (b1:=false) (b2:=false) rfl rfl eo) (ar (b:=false) rfl (ar (b:=false) rfl (ar (b:=false) ?_ rfl))))) (cD _ (by simp))) rfl)) (cD _ (by simp))
 exact aD (x:=.lst (([("open" : Str),("first" : Str),("last" : Str)]:List Str).map .str)) (y:=.int (c / (2+i) % 3)) (b1:=true) (b2:=false) (by simp[sizeLine]) (by simp[b2]) erl
theorem GP (c:Int) (k:Nat) (hk:k<100) (ns:List Int) (zs offs had:List Str) (hz:0<zs.length) (hol:0<offs.length) (hol2:offs.length<=2) (hof:∀o∈offs,o∈O3) (rows:List D) (hr:rows.length<=100) (hh:had≠[]) (hh2:had.length<=100) (hhz:∀x∈had,x∈zs) (v8 v9 v10 v11:Option (D×Bool)) :
  ∃r had' w8 w9 w10 w11,iF zs r/\(∀x∈had',x∈zs)/\had'≠[]/\had'.length<=had.length+1/\kR [some (.lst (ns.map .int),false),some (.lst (zs.map .str),false),some (.int c,false),some (.lst (offs.map .str),true),some (.lst rows,true),some (.int k,false),some (.lst (had.map .str),true),v8,v9,v10,v11]=some (.nx [some (.lst (ns.map .int),false),some (.lst (zs.map .str),false),some (.int c,false),some (.lst (offs.map .str),true),some (.lst (rows++[r]),true),some (.int k,false),some (.lst (had'.map .str),true),w8,w9,w10,w11]):=by
 obtain⟨day,hday⟩:∃day:Int,(k:Int) / 3+c / 400 % 3=day:=⟨_,rfl⟩
 have hol3:offs.length+1<=sizeLine:=bC (by omega)
 have sz1:1<=sizeLine:=bC (by decide)
 have hl2:(0:Int)<zs.length:=by omega
 have hm0:(0:Int)<4*offs.length+1:=by omega
 have hm1:=mod_lt (x:=c / 1200) (m:=4*offs.length+1) hm0
 obtain⟨o,ho,eo⟩:=lq (zs:=offs++[("mill" : Str)]) (i:=c / 1200 % (4*offs.length+1) / 4) (by omega) (by rw[List.length_append,List.length_singleton];omega)
 have ho3:o∈O3:=by
  rcases List.mem_append.mp ho with h|h
  ·exact hof o h
  ·rw[List.mem_singleton.mp h];decide +kernel
 have hm2:=mod_lt (x:=c / 30000) (m:=zs.length) hl2
 obtain⟨p,hp,ep⟩:=lq (zs:=zs) (i:=c / 30000 % zs.length) (by omega) (by omega)
 obtain⟨n,hn,hn1,hn3⟩:∃n:Int,(if(had.length:Int)<3 then (had.length:Int)else 3)=n/\0<n/\n<=had.length:=by
  have:0<had.length:=List.length_pos_iff.mpr hh
  split
  ·exact⟨_,rfl,by omega,by omega⟩
  ·exact⟨_,rfl,by omega,by omega⟩
 have hmn:=mod_lt (x:=c / 10000) (m:=n) hn1
 obtain⟨b,hb,eb⟩:=lq (zs:=had) (i:=-1 - c / 10000 % n) (by omega) (by omega)
 obtain⟨kd,r,ed,dd⟩:=Dg c day b o p (hhz b hb) ho3 hp
 have hdf:ba (.tup (.str kd::r))=true:=by simp[dd.cd.deed.flat]
 have h6:=mod_lt (x:=c / 7) (m:=6) (by decide)
 obtain⟨tv,_,etv⟩:=DX (ns:=[0,0,0,0,1,6]) (i:=c / 7 % 6) h6.1 h6.2
 obtain⟨k2,r2,e2,hf2⟩:∃k2 r2,gIf (iC (tOf (f2 dEq (ag 5) (fC (.int 0)))) (tOf (f2 dEq (f2 c6 (f2 d9 (ag 2) (fC (.int 200000))) (fC (.int 9))) (fC (.int 1))))) (bf 10 (fA aQ (ae (fC (.str "named")) (ae (ag 7) (ae (ag 8) (ae (ag 9) ak)))))) bQ [some (.lst (ns.map .int),false),some (.lst (zs.map .str),false),some (.int c,false),some (.lst (offs.map .str),true),some (.lst rows,true),some (.int k,false),some (.lst (had.map .str),true),some (.int day,false),some (.str o,false),some (.str p,false),some (.tup (.str kd::r),false)]=some (.nx [some (.lst (ns.map .int),false),some (.lst (zs.map .str),false),some (.int c,false),some (.lst (offs.map .str),true),some (.lst rows,true),some (.int k,false),some (.lst (had.map .str),true),some (.int day,false),some (.str o,false),some (.str p,false),some (.tup (.str k2::r2),false)])/\Ck zs k2 r2:=by
  have hcond:iC (tOf (f2 dEq (ag 5) (fC (.int 0)))) (tOf (f2 dEq (f2 c6 (f2 d9 (ag 2) (fC (.int 200000))) (fC (.int 9))) (fC (.int 1)))) [some (.lst (ns.map .int),false),some (.lst (zs.map .str),false),some (.int c,false),some (.lst (offs.map .str),true),some (.lst rows,true),some (.int k,false),some (.lst (had.map .str),true),some (.int day,false),some (.str o,false),some (.str p,false),some (.tup (.str kd::r),false)]=some (decide ((k:Int)=0) || decide (c / 200000 % 9=1)):=nJ (aM (b:=false) (by simp)) λ_=>aM (b:=false) (by simp)
  cases hb:(decide ((k:Int)=0) || decide (c / 200000 % 9=1)) with
  | true=>exact⟨("named" : Str),[.int day,.str o,.str p],nH (hcond.trans (by rw[hb])) (nI (d:=.tup [.str "named",.int day,.str o,.str p]) (b:=false) (ai (ds:=[.str "named",.int day,.str o,.str p]) (by simp) (cD _ (by simp))) rfl),.named _ _ _ ho3 hp⟩
  | false=>exact⟨kd,r,jO (hcond.trans (by rw[hb])) rfl,dd⟩
 have e4:∀(ρ:DL.Env),ρ[10]? = some (some (.tup (.str k2::r2),false))->f2 ixD (ag 10) (fC (.int 0)) ρ=some (.str k2,false):=λρ h=>aD (x:=.tup (.str k2::r2)) (y:=.int 0) (b1:=false) (b2:=false) (by simp[h]) rfl (by simp[at0])
 have hin:∀(ρ:DL.Env),ρ[10]? = some (some (.tup (.str k2::r2),false))->tOf (f2 dIn (f2 ixD (ag 10) (fC (.int 0))) (fA aQ (ae (fC (.str "named")) (ae (fC (.str "chosen")) ak)))) ρ=some (decide (k2∈[("named" : Str),("chosen" : Str)])):=λρ h=>aM (b:=false) (aD (x:=.str k2) (y:=.tup (([("named" : Str),("chosen" : Str)]:List Str).map .str)) (b1:=false) (b2:=false) (e4 ρ h) (by simp[sizeLine]) (uR _ _))
 let had':List Str:=if k2∈[("named" : Str),("chosen" : Str)]then had++[p]else had
 have hnz:∀x∈had',x∈zs:=by
  simp only[had'];split
  ·intro x hx;rcases List.mem_append.mp hx with h|h
   ·exact hhz x h
   ·rw[List.mem_singleton.mp h];exact hp
  ·exact hhz
 have hne:had'≠[]:=by simp only[had'];split<;>simp[hh]
 have hln:had'.length<=had.length+1:=by simp only[had'];split<;>simp
 refine⟨row (day+tv) k2 r2,had',some (.int day,false),some (.str o,false),some (.str p,false),some (.tup (.str k2::r2),false),⟨_,_,_,rfl,hf2⟩,hnz,hne,hln, ?_⟩
 refine aT (d:=.int day) (b:=false) (by simp[hday]) rfl (aT (d:=.str o) (b:=false) (aD (x:=.lst ((offs++[("mill" : Str)]).map .str)) (y:=.int (c / 1200 % (4*offs.length+1) / 4)) (b1:=true) (b2:=false) (by simp[hol3,sz1]) (aD (x:=.int (c / 1200 % (4*offs.length+1))) (y:=.int 4) (b1:=false) (b2:=false) (aD (x:=.int (c / 1200)) (y:=.int (4*offs.length+1)) (b1:=false) (b2:=false) (by simp) (by simp) (y4 hm0)) rfl (by simp)) eo) rfl (aT (d:=.str p) (b:=false) (aD (x:=.lst (zs.map .str)) (y:=.int (c / 30000 % zs.length)) (b1:=false) (b2:=false) rfl (aD (x:=.int (c / 30000)) (y:=.int zs.length) (b1:=false) (b2:=false) (by simp) (by simp) (y4 hl2)) ep) rfl (aT (d:=.tup (.str kd::r)) (b:=false) ?_ hdf (d6 e2 (d6 (ρ':=[some (.lst (ns.map .int),false),some (.lst (zs.map .str),false),some (.int c,false),some (.lst (offs.map .str),true),some (.lst rows,true),some (.int k,false),some (.lst (had'.map .str),true),some (.int day,false),some (.str o,false),some (.str p,false),some (.tup (.str k2::r2),false)]) ?_ (gQ (ds:=rows) (d:=row (day+tv) k2 r2) (b:=false) rfl ?_ (show ba (row (day+tv) k2 r2)=true from iF.flat (zs:=zs) ⟨_,_,_,rfl,hf2⟩) (bJ (by omega))))))))
 ·refine ai (ds:=[.int c,.int day,.str b,.str o,.str p]) (ar (b:=false) rfl (ar (b:=false) rfl (ar (b:=false) (aD (x:=.lst (had.map .str)) (y:=.int (-1 - c / 10000 % n)) (b1:=false) (b2:=false) rfl ?_ eb) rfl))) ed
  refine aD (x:=.int (-1)) (y:=.int (c / 10000 % n)) (b1:=false) (b2:=false) rfl (aD (x:=.int (c / 10000)) (y:=.int n) (b1:=false) (b2:=false) (by simp) (by simp[hn]) (y4 hn1)) rfl
 ·by_cases hx:k2∈[("named" : Str),("chosen" : Str)]
  ·have eh:had'=had++[p]:=by simp only[had'];rw[if_pos hx]
   rw[eh,List.map_append]
   exact nH ((hin _ rfl).trans (by rw[decide_eq_true hx])) (gQ (ds:=had.map .str) (d:=.str p) (b:=false) rfl rfl rfl (bJ (by simp;omega)))
  ·have eh:had'=had:=by simp only[had'];rw[if_neg hx]
   rw[eh]
   exact jO ((hin _ rfl).trans (by rw[decide_eq_false hx])) rfl
 ·exact ai (ds:=[.int (day+tv),.tup (.str k2::r2)]) (ar (b:=false) (aD (x:=.int day) (y:=.int tv) (b1:=false) (b2:=false) rfl (aD (x:=.lst (([0,0,0,0,1,6]:List Int).map .int)) (y:=.int (c / 7 % 6)) (b1:=true) (b2:=false) (by simp[sizeLine]) (by simp) etv) rfl) (ar (b:=false) rfl rfl)) (cD _ (by simp))
theorem Dh (ns:List Int) (zs:List Str) (hz:0<zs.length/\zs.length<=100):∃rows:List D,jU [.lst (ns.map .int),.lst (zs.map .str)]=some (.tup rows,false)/\(∀r∈rows,iF zs r)/\rows.length<=32/\mo rows<=30:=by
 obtain⟨c,hc⟩:∃c,ns.getD 1 0=c:=⟨_,rfl⟩
 have e1:=jV ns 1
 rw[hc]at e1
 have h2:=mod_lt (x:=c) (m:=2) (by decide)
 obtain⟨offs,hoffs,hol,hol2,hom⟩:∃offs:List Str,iD (O2.map .str) none (some (1+c % 2))=offs.map .str/\0<offs.length/\offs.length<=2/\∀o∈offs,o∈O3:=by
  rcases (show c % 2=0∨c % 2=1 by omega)with h|h
  ·rw[h];exact⟨[("crown" : Str)],rfl,by decide,by decide,by decide +kernel⟩
  ·rw[h];exact⟨O2,rfl,by decide,by decide,by decide +kernel⟩
 obtain⟨cs,ecs,hcs⟩:=zn ns 30 (by decide)
 obtain⟨z0,hz0,ez0⟩:=lq (zs:=zs) (i:=0) (by omega) (by omega)
 obtain⟨ρ1,f1,rows1,v5,rfl,g1,l1,k1⟩:=nE (tg:=tgN 5) (g:=kQ) offs.length (λi ρ=>∃(rows:List D) (v5:Option (D×Bool)),ρ=[some (.lst (ns.map .int),false),some (.lst (zs.map .str),false),some (.int c,false),some (.lst (offs.map .str),true),some (.lst rows,true),v5,none,none,none,none,none]/\(∀r∈rows,iF zs r)/\rows.length=i/\mo rows=0)
  [some (.lst (ns.map .int),false),some (.lst (zs.map .str),false),some (.int c,false),some (.lst (offs.map .str),true),some (.lst [],true),none,none,none,none,none,none] ⟨[],none,rfl,by simp,rfl,rfl⟩ (by
   rintro i ρ hi ⟨rows,v5,rfl,g,l,k⟩
   obtain⟨r,q1,q2,e⟩:=GO c ns zs offs hom rows (by omega) i hi (by omega)
   refine⟨_,_,rfl,.inl e,rows++[r],_,rfl, ?_,by simp[l],by rw[z7 _ _ q2,k]⟩
   intro r' hr
   simp only[List.mem_append,List.mem_singleton]at hr
   rcases hr with hr|rfl
   ·exact g r' hr
   ·exact q1)
 obtain⟨ρ2,f2',rows2,had2,c2,w5,w8,w9,w10,w11,rfl,g2,l2,k2,q2,q3,_⟩:=eQ (tg:=tgT [5,2]) (g:=kR) (λi ρ=>∃(rows:List D) (had:List Str) (v2 v5 v8 v9 v10 v11:Option (D×Bool)),ρ=[some (.lst (ns.map .int),false),some (.lst (zs.map .str),false),v2,some (.lst (offs.map .str),true),some (.lst rows,true),v5,some (.lst (had.map .str),true),v8,v9,v10,v11]/\(∀r∈rows,iF zs r)/\rows.length=offs.length+i/\mo rows<=i/\had≠[]/\had.length<=i+1/\∀x∈had,x∈zs) (jD (cs.map .int))
  [some (.lst (ns.map .int),false),some (.lst (zs.map .str),false),some (.int c,false),some (.lst (offs.map .str),true),some (.lst rows1,true),v5,some (.lst ([z0].map .str),true),none,none,none,none] ⟨rows1,[z0],some (.int c,false),v5,none,none,none,none,rfl,g1,by omega,by omega,by simp,by simp,λx hx=>by rw[List.mem_singleton.mp hx];exact hz0⟩ (by
   rintro i d ρ hd ⟨rows,had,v2,v5,v8,v9,v10,v11,rfl,g,l,k,q,q',qz⟩
   rw[oi,List.getElem?_map]at hd
   obtain⟨x,hx,rfl⟩:=oY hd
   rw[List.getElem?_zipIdx]at hx
   obtain⟨dv,hdv,rfl⟩:=oY hx
   rw[List.getElem?_map]at hdv
   obtain⟨cc,hcc,rfl⟩:=oY hdv
   have hi:i<cs.length:=(List.getElem?_eq_some_iff.mp hcc).1
   obtain⟨r,had',w8,w9,w10,w11,q1,qn,q2,q3,e⟩:=GP cc i (by omega) ns zs offs had hz.1 hol hol2 hom rows (by omega) q (by omega) qz v8 v9 v10 v11
   refine⟨_,_,by simp[d5],.inl e,rows++[r],had',some (.int cc,false),some (.int i,false),w8,w9,w10,w11,rfl, ?_,by simp;omega,Nat.le_trans (z6 _ _) (by omega),q2,by omega,qn⟩
   intro r' hr
   simp only[List.mem_append,List.mem_singleton]at hr
   rcases hr with hr|rfl
   ·exact g r' hr
   ·exact q1)
 have hel:(jD (cs.map D.int)).length=cs.length:=by rw[oi];simp
 rw[hel]at l2 k2 q3
 refine⟨rows2,a8 rfl (aT (d:=.int c) (b:=false) (ai (ds:=[.lst (ns.map .int),.int ((1:Nat):Int)]) rfl e1) rfl (cB (ds:=offs.map .str) ?_ (dS _) (cB (ds:=[]) (by simp[sizeLine]) rfl (d6 (jQ (kO (j:=offs.length) (b:=false) (by simp) (by omega)) f1) (cB (ds:=[z0].map .str) (ai (ds:=[.str z0]) (ar (b:=false) (aD (x:=.lst (zs.map .str)) (y:=.int 0) (b1:=false) (b2:=false) rfl rfl ez0) rfl) (gX _ (by simp))) rfl (d6 (jR (ds:=jD (cs.map .int)) ?_ f2') (aI (by simp)))))))),g2,by omega,by omega⟩
 ·show fSl (fA bN (ae (fC (.str "crown")) (ae (fC (.str "abbey")) ak))) gH (eu (f2 b7 (fC (.int 1)) (f2 c6 (ag 2) (fC (.int 2))))) _=_
  rw[←hoffs]
  simp[sizeLine,O2]
 ·show(fA fR (ae (ag 0) (ae (fC (.int 5)) (ae (fC (.int 30)) ak))) _).bind _=_
  rw[ai (ds:=[.lst (ns.map .int),.int 5,.int ((30:Nat):Int)]) rfl ecs]
  rfl
theorem Di (rows:List D) (known:Int):(cZ (aw rows known)).length<=mo rows:=by
 unfold cZ
 rw[(bF _ _).length_eq]
 have h1:((aw rows known).filter λx=>!aS x.1).length<=(rows.zipIdx.filter λx=>!aS x.1).length:=(List.Sublist.filter _ List.filter_sublist).length_le
 have h2:mo rows=(rows.zipIdx.filter λx=>!aS x.1).length:=by
  unfold mo
  conv=>lhs;rw[←List.zipIdx_map_fst 0 rows]
  rw[List.filter_map,List.length_map]
  rfl
 omega
section
variable {zs:List Str}{ks:List Key}{vs:List D}{φ:Str->Str}(hc:∀x,x∈zs∨x∈O3->bw ks vs (.inr x)=some (.str (φ x)))
include hc
theorem ixk {x:Str}(h:x∈zs∨x∈O3):ixK (.dk ks vs) (.str x)=some (.str (φ x),false):=by
 simp only[ixK,fP,Option.bind_some,hc x h,Option.map_some]
theorem eU {fo fi:FE}{ρ:DL.Env}{x:Str}{b b':Bool}(h:x∈zs∨x∈O3) (e1:fo ρ=some (.dk ks vs,b)) (e2:fi ρ=some (.str x,b')):f2 ixK fo fi ρ=some (.str (φ x),false):=aD e1 e2 (ixk hc h)
theorem Bu (m:Int) {k:Str}{a0:List D}(d:Ck zs k a0):eG [.tup (.str k::a0),.dk ks vs,.int m]=some (.tup (.str k::rnT φ m a0),false):=by
 have ew:f2 ixD (ag 0) (fC (.int 0)) [some (.tup (.str k::a0),false),some (.dk ks vs,false),some (.int m,false)]=some (.str k,false):=aD (x:=.tup (.str k::a0)) (y:=.int 0) (b1:=false) (b2:=false) rfl rfl (by simp[at0])
 have nx:∀ {x:Str},k≠x->tOf (f2 dEq (f2 ixD (ag 0) (fC (.int 0))) (fC (.str x))) [some (.tup (.str k::a0),false),some (.dk ks vs,false),some (.int m,false)]=some false:=λh=>bL ew (decide_eq_false h)
 have yx:tOf (f2 dEq (f2 ixD (ag 0) (fC (.int 0))) (fC (.str k))) [some (.tup (.str k::a0),false),some (.dk ks vs,false),some (.int m,false)]=some true:=bL ew (decide_eq_true rfl)
 have at_:∀(j:Nat) (e:D),j<a0.length+1->(D.str k::a0).getD j .non=e->f2 ixD (ag 0) (fC (.int j)) [some (.tup (.str k::a0),false),some (.dk ks vs,false),some (.int m,false)]=some (e,false):=λj e hj he=>aD (x:=.tup (.str k::a0)) (y:=.int j) (b1:=false) (b2:=false) rfl rfl (by rw[DL.vX (by omega) (by simpa using hj),←he];rfl)
 have dk_:ag 1 [some (.tup (.str k::a0),false),some (.dk ks vs,false),some (.int m,false)]=some (.dk ks vs,false):=rfl
 have day_:∀(j:Nat) (e:Int),j<a0.length+1->(D.str k::a0).getD j .non=.int e->f2 b7 (f2 ixD (ag 0) (fC (.int j))) (ag 2) [some (.tup (.str k::a0),false),some (.dk ks vs,false),some (.int m,false)]=some (.int (e+m),false):=λj e hj he=>aD (x:=.int e) (y:=.int m) (b1:=false) (b2:=false) (at_ j _ hj he) rfl rfl
 -- the deeds of names alone
 have gen:∀(names:List Str) (e:Int),a0=.int e::names.map .str->(∀x∈names,x∈zs∨x∈O3)->names.length<=10->k≠("root" : Str)->k≠("chosen" : Str)->k≠("copy" : Str)->rnT φ m a0=.int (e+m)::(names.map φ).map .str->eG [.tup (.str k::a0),.dk ks vs,.int m]=some (.tup (.str k::rnT φ m a0),false):=by
  intro names e hrest hn hl n1 n2 n3 hrn
  have hcut:iD (.str k::a0) (some 2) none=names.map .str:=by
   rw[hrest]
   unfold iD
   rw[nL (by decide)]
   show((D.str k::.int e::names.map .str).drop (min 2 _)).take _=_
   have h2:min (2:Int).toNat (D.str k::.int e::names.map D.str).length=2:=by simp
   rw[h2]
   show(names.map D.str).take _=_
   refine List.take_of_length_le ?_
   show _<=(D.str k::.int e::names.map D.str).length - 2
   simp
  have hcomp:=nK (fi:=cE (fSl (ag 0) (eu (fC (.int 2))) gH)) (nT:=1) (cap:=[1]) (tg:=tgN 0) (fe:=f2 ixK (ag 1) (ag 0)) (ρ:=[some (.tup (.str k::a0),false),some (.dk ks vs,false),some (.int m,false)]) names .str (λx=>.str (φ x))
   (by show Ax (.tup (iD (.str k::a0) (some 2) none))=_;rw[hcut];rfl) (by omega) λx hx=>⟨_,rfl,false,eU hc (b:=false) (b':=false) (hn x hx) rfl rfl⟩
  refine a8 rfl (bo (nx n1) (bo (nx n2) (bo (nx n3) (aI (aD (x:=.tup [.str k,.int (e+m)]) (y:=.tup (names.map λx=>.str (φ x))) (b1:=false) (b2:=false) (ai (ds:=[.str k,.int (e+m)]) (ar ew (ar (day_ 1 e (by rw[hrest];simp) (by rw[hrest];rfl)) rfl)) (cD _ (by simp))) (ai (ds:=[.lst (names.map λx=>.str (φ x))]) (ar hcomp rfl) rfl) ?_)))))
  show(if _ then _ else _)=_
  rw[if_pos (bC (by simp;omega)),hrn,List.map_map]
  rfl
 cases d with
 | root o r ho =>
  refine a8 rfl (cI yx (aI (aD (x:=.tup [.str "root",.str (φ o)]) (y:=.tup [.int 7,.int 1,.str r]) (b1:=false) (b2:=false) (ai (ds:=[.str "root",.str (φ o)]) (ar (b:=false) rfl (ar (eU hc (.inr ho) dk_ (at_ 1 _ (by simp) rfl)) rfl)) (cD _ (by simp))) rfl ?_)))
  show(if 2+3<=sizeLine then _ else none)=_
  rw[if_pos (bC (by decide))];rfl
 | named d o p ho hp=>exact gen [o,p] d rfl (λx hx=>by rcases List.mem_cons.mp hx with rfl|hx;exact .inr ho;exact .inl (List.mem_singleton.mp hx ▸ hp)) (by simp) (by decide +kernel) (by decide +kernel) (by decide +kernel) rfl
 | chosen d b o p s hb ho hp =>
  exact a8 rfl (bo (nx (by decide +kernel)) (cI yx (aI (ai (ds:=[.str "chosen",.int (d+m),.str (φ b),.str (φ o),.str (φ p),.int (s+m)]) (ar (b:=false) rfl (ar (day_ 1 d (by simp) rfl) (ar (eU hc (.inl hb) dk_ (at_ 2 _ (by simp) rfl)) (ar (eU hc (.inr ho) dk_ (at_ 3 _ (by simp) rfl)) (ar (eU hc (.inl hp) dk_ (at_ 4 _ (by simp) rfl)) (ar (day_ 5 s (by simp) rfl) rfl)))))) (cD _ (by simp))))))
 | heir d b o p hb ho hp=>exact gen [b,o,p] d rfl (λx hx=>by rcases List.mem_cons.mp hx with rfl|hx;exact .inl hb;rcases List.mem_cons.mp hx with rfl|hx;exact .inr ho;exact .inl (List.mem_singleton.mp hx ▸ hp)) (by simp) (by decide +kernel) (by decide +kernel) (by decide +kernel) rfl
 | three k hk d p hp =>
  have n3:k≠("root" : Str)/\k≠("chosen" : Str)/\k≠("copy" : Str):=by rcases hk with rfl|rfl|rfl<;>exact⟨by decide +kernel,by decide +kernel,by decide +kernel⟩
  exact gen [p] d rfl (λx hx=>.inl (List.mem_singleton.mp hx ▸ hp)) (by simp) n3.1 n3.2.1 n3.2.2 rfl
 | copy d b n hb =>
  exact a8 rfl (bo (nx (by decide +kernel)) (bo (nx (by decide +kernel)) (cI yx (aI (ai (ds:=[.str "copy",.int (d+m),.str (φ b),.int n]) (ar (b:=false) rfl (ar (day_ 1 d (by simp) rfl) (ar (eU hc (.inl hb) dk_ (at_ 2 _ (by simp) rfl)) (ar (at_ 3 _ (by simp) rfl) rfl)))) (cD _ (by simp)))))))
theorem Bv (m:Int) {c:Cl}(ho:c.o∈O3) (hp:c.p∈zs):fS [clD c,.dk ks vs,.int m]=some (clD (rc φ m c),false):=by
 have fin:∀u:D,ba u=true->bu (fA aQ (ae (f2 ixK (ag 1) (f2 ixD (ag 0) (fC (.int 0)))) (ae (f2 ixK (ag 1) (f2 ixD (ag 0) (fC (.int 1)))) (ae (f2 b7 (f2 ixD (ag 0) (fC (.int 2))) (ag 2)) (ae (ag 3) (ae (f2 ixD (ag 0) (fC (.int 4))) ak)))))) [some (clD c,false),some (.dk ks vs,false),some (.int m,false),some (u,false)]=some (.rt (.tup [.str (φ c.o),.str (φ c.p),.int (c.s+m),u,.int c.n]) false):=λu _ =>
  aI (ai (ds:=[.str (φ c.o),.str (φ c.p),.int (c.s+m),u,.int c.n]) (ar (eU hc (b:=false) (b':=false) (.inr ho) rfl (aD (x:=clD c) (y:=.int 0) (b1:=false) (b2:=false) rfl rfl (cl0 c))) (ar (eU hc (b:=false) (b':=false) (.inl hp) rfl (aD (x:=clD c) (y:=.int 1) (b1:=false) (b2:=false) rfl rfl (cl1 c))) (ar (b:=false) (aD (x:=.int c.s) (y:=.int m) (b1:=false) (b2:=false) (aD (x:=clD c) (y:=.int 2) (b1:=false) (b2:=false) rfl rfl (cl2 c)) rfl rfl) (ar (b:=false) rfl (ar (aD (x:=clD c) (y:=.int 4) (b1:=false) (b2:=false) rfl rfl (cl4 c)) rfl))))) (cD _ (by simp)))
 refine a8 rfl (aT (d:=uD c.u) (b:=false) (aD (x:=clD c) (y:=.int 3) (b1:=false) (b2:=false) rfl rfl (cl3 c)) (yo _) ?_)
 obtain⟨o,p,s,u,n⟩:=c
 cases u with
 | none=>exact bo (aM (b:=false) rfl) (fin .non rfl)
 | some x=>exact d6 (nH (aM (b:=false) rfl) (nI (d:=.int (x+m)) (b:=false) rfl rfl)) (fin (.int (x+m)) rfl)
theorem xa {x y:D}(h:HR φ x y) (hz:∀ps:List Str,x=.tup [.str "parted",.lst (ps.map .str)]->(∀p∈ps,p∈zs)/\ps.length<=60) (hp:∀p n,x=.tup [.str "one",.str p,n]->p∈zs):df [x,.dk ks vs]=some (y,false):=by
 have tst:∀ {k:Str}{r:List D}{w:Str}{b:Bool},decide (k=w)=b->tOf (f2 dEq (f2 ixD (ag 0) (fC (.int 0))) (fC (.str w))) [some (.tup (.str k::r),false),some (.dk ks vs,false)]=some b:=λ{k r w b} h=>bL (a:=k) (bb:=false) (aD (x:=.tup (.str k::r)) (y:=.int 0) (b1:=false) (b2:=false) rfl rfl (by simp[at0])) h
 cases h with
 | none=>exact a8 rfl (bo (tst (by decide +kernel)) (bo (tst (by decide +kernel)) (jP rfl)))
 | one p n =>
  exact a8 rfl (cI (tst (by decide +kernel)) (aI (ai (ds:=[.str "one",.str (φ p),.int n]) (ar (b:=false) rfl (ar (eU hc (b:=false) (b':=false) (.inl (hp p _ rfl)) rfl (aD (x:=.tup [.str "one",.str p,.int n]) (y:=.int 1) (b1:=false) (b2:=false) rfl rfl (by simp[at1]))) (ar (aD (x:=.tup [.str "one",.str p,.int n]) (y:=.int 2) (b1:=false) (b2:=false) rfl rfl (by simp[at2];rfl)) rfl))) (cD _ (by simp)))))
 | parted ps =>
  obtain⟨h1,h2⟩:=hz ps rfl
  have hcomp:=nK (fi:=cE (f2 ixD (ag 0) (fC (.int 1)))) (nT:=1) (cap:=[1]) (tg:=tgN 0) (fe:=f2 ixK (ag 1) (ag 0)) (ρ:=[some (.tup [.str "parted",.lst (ps.map .str)],false),some (.dk ks vs,false)]) ps .str (λx=>.str (φ x))
   (by simp[at1]) (by omega) λx hx=>⟨_,rfl,false,eU hc (b:=false) (b':=false) (.inl (h1 x hx)) rfl rfl⟩
  refine a8 rfl (bo (tst (by decide +kernel)) (cI (tst (by decide +kernel)) (aI (ai (ds:=[.str "parted",.lst ((cX (ps.map φ)).map .str)]) (ar (b:=false) rfl (ar (d:=.lst ((cX (ps.map φ)).map .str)) (b:=true) (ai (ds:=[.lst (ps.map λx=>.str (φ x))]) (ar hcomp rfl) ?_) rfl)) (cD _ (by simp))))))
  rw[show(ps.map λx=>D.str (φ x))=(ps.map φ).map .str by rw[List.map_map];rfl]
  simp only[gk,o5]
  exact if_pos (by rw[List.length_map];omega)
end
theorem p4 (K:KL) (o:Str) (day:Int):aj 39 (dL K o day)=true:=by
 unfold dL
 split
 ·simp[aj]
 ·exact wQ _ _ _ _
theorem z8 (c:Cl):aj 38 (clD c)=true:=by
 obtain⟨o,p,s,u,n⟩:=c
 cases u<;>simp[clD,uD,aj]
theorem vx {d:D}(h:aj 40 d=true):dNe d d=some (.bl false,false):=by
 unfold dNe
 rw[if_pos ⟨h,h⟩,oe 40 _ h]
 rfl
theorem Dj {ρ:DL.Env}{f:FE}{i:Nat}{d:D}(e:f ρ=some (d,false)):bf i f ρ=some (.nx (ρ.set i (some (d,false))))∨bf i f ρ=some (.nx ((unown ρ).set i (some (d,false)))):=by
 cases h:ba d with
 | true=>exact .inl (nI e h)
 | false=>exact .inr (by simp only[bf,e,Option.map_some,CF h (.inl rfl)])
theorem Dk {cs:List Cl}{p:Str}(h:p∈eX cs):∃c∈cs,c.p=p:=by
 unfold eX at h
 rcases d4 _ [] p ((bi _).mem_iff.mp h)with h|h
 ·cases h
 ·obtain⟨c,hc,e⟩:=List.mem_map.mp h
  exact⟨c,hc,e⟩
theorem Dl (cs:List Cl):(eX cs).length<=cs.length:=by
 unfold eX
 rw[(bi _).length_eq]
 exact Nat.le_trans (jE _) (by rw[List.length_map];exact Nat.le_refl _)
theorem lS:∀ {a b:List Str},a.map D.str=b.map D.str->a=b
 | [],[],_=>rfl
 | [],_::_,h=>by cases h
 | _::_,[],h=>by cases h
 | x::a,y::b,h=>by
  rw[List.map_cons,List.map_cons]at h
  injection h with h1 h2
  cases h1
  rw[lS h2]
theorem z9 {K:KL}{P:List Str}(hl:(b8 K).length<=60) (h:∀c∈b8 K,c.p∈P) (o:Str) (day:Int) :
  (∀ps:List Str,dL K o day=.tup [.str "parted",.lst (ps.map .str)]->(∀p∈ps,p∈P)/\ps.length<=60)/\∀p n,dL K o day=.tup [.str "one",.str p,n]->p∈P:=by
 unfold dL
 cases dW K o with
 | none=>exact⟨λps e=>(by cases e),λp n e=>(by cases e)⟩
 | some v =>
  show(∀ps:List Str,eS _ _ _ _=_->_)/\∀p n,eS _ _ _ _=_->_
  unfold eS
  have hm:∀c∈alL (b8 K) (aq 0 v) day,c.p∈P:=λc hc=>h c (List.mem_filter.mp hc).1
  have hl2:(alL (b8 K) (aq 0 v) day).length<=60:=Nat.le_trans (List.length_filter_le _ _) hl
  generalize alL (b8 K) (aq 0 v) day=al at hm hl2
  cases al with
  | nil=>exact⟨λps e=>(by cases e),λp n e=>(by cases e)⟩
  | cons b r =>
   rw[fw]
   split
   ·refine⟨λps e=>?_,λp n e=>(by cases e)⟩
    injection e with e
    injection e with _ e
    injection e with e
    injection e with e
    have:=lS e
    subst this
    refine⟨λp hp=>?_,Nat.le_trans (Dl _) hl2⟩
    obtain⟨c,hc,rfl⟩:=Dk hp
    exact hm c hc
   ·refine⟨λps e=>(by cases e),λp n e=>?_⟩
    injection e with e
    injection e with _ e
    injection e with e
    injection e with e
    rw[←e]
    exact hm _ (qC _ b r)
theorem iF.rn {zs:List Str}{r:D}(φ:Str->Str) (m:Int) (g:iF zs r):cN (rn φ m r):=by
 obtain⟨h,k,a0,rfl,d⟩:=g
 refine⟨_,_,_,rfl, ?_⟩
 cases d with
 | root o r ho=>exact .root _ _ _ _
 | named d o p ho hp=>exact .named _ _ _
 | chosen d b o p s hb ho hp=>exact .chosen _ _ _ _ _
 | heir d b o p hb ho hp=>exact .heir _ _ _ _
 | three k hk d p hp=>exact .three _ hk _ _
 | copy d b n hb=>exact .other _ (.inr (.inr (.inr (.inl rfl)))) _ _ _ rfl (by simp[rnS])
theorem iF.inn {zs:List Str}{r:D}(g:iF zs r):RowIn O3 zs r:=by
 refine⟨g.off,λhk=>?_,λhk=>?_⟩<;>obtain⟨h,k,a0,rfl,d⟩:=g
 ·have hk2:k=("named" : Str):=hk
  clear hk
  cases d with
  | named d o p ho hp=>exact hp
  | root=>exact absurd hk2 (by decide +kernel)
  | chosen=>exact absurd hk2 (by decide +kernel)
  | heir=>exact absurd hk2 (by decide +kernel)
  | three k hk'=>rcases hk' with rfl|rfl|rfl<;>exact absurd hk2 (by decide +kernel)
  | copy=>exact absurd hk2 (by decide +kernel)
 ·have hk2:k=("chosen" : Str)∨k=("heir" : Str):=hk
  clear hk
  cases d with
  | chosen d b o p s hb ho hp=>exact hp
  | heir d b o p hb ho hp=>exact hp
  | named=>exact absurd hk2 (by decide +kernel)
  | root=>exact absurd hk2 (by decide +kernel)
  | three k hk'=>rcases hk' with rfl|rfl|rfl<;>exact absurd hk2 (by decide +kernel)
  | copy=>exact absurd hk2 (by decide +kernel)
def frs:List Str:=[("yb" : Str),("b" : Str),("crown" : Str),("y" : Str),("abbey" : Str),("ya" : Str)]
def frK (q:Int) (k:Nat):Str:=frs.getD (((k:Int)*5+q) % 6).toNat ("" : Str)
def oN:List Str:=[("abbey" : Str),("crown" : Str),("mill" : Str)]
def oA (m:Int):Str:=if m % 2=0 then ("ab" : Str)else ("a" : Str)
def oV (m:Int):List Str:=[oA m,("abc" : Str),("zzzzzzzz" : Str)]
theorem vy {z:Str}(h:wI z):z∉oN:=by
 intro hm
 unfold oN at hm
 unfold wI at h
 rcases List.mem_cons.mp hm with rfl|hm
 ·exact absurd h (by decide +kernel)
 ·rcases List.mem_cons.mp hm with rfl|hm
  ·exact absurd h (by decide +kernel)
  ·rw[List.mem_singleton.mp hm]at h
   exact absurd h (by decide +kernel)
theorem sJ:∀r:Fin 6,(([("ab" : Str),("abc" : Str),("zzzzzzzz" : Str)]:List Str)++(List.range 6).map λk:Nat=>frs.getD (((k:Int)*5+(r.val:Int)) % 6).toNat ("" : Str)).Nodup/\(([("a" : Str),("abc" : Str),("zzzzzzzz" : Str)]:List Str)++(List.range 6).map λk:Nat=>frs.getD (((k:Int)*5+(r.val:Int)) % 6).toNat ("" : Str)).Nodup:=by decide +kernel
theorem Bw (m q:Int) (n:Nat) (hn:n<=6):(oV m++(List.range n).map (frK q)).Nodup:=by
 have h6:=mod_lt (x:=q) (m:=6) (by decide)
 have e:∀k:Nat,frK q k=frs.getD (((k:Int)*5+((⟨(q % 6).toNat,by omega⟩:Fin 6).val:Int)) % 6).toNat ("" : Str):=λk=>by
  unfold frK
  congr 2
  show _=((k:Int)*5+((q % 6).toNat:Int)) % 6
  omega
 have hs:(oV m++(List.range n).map (frK q)).Sublist (oV m++(List.range 6).map (frK q)):=List.Sublist.append_left ((List.range_sublist.mpr hn).map _) _
 refine List.Nodup.sublist hs ?_
 obtain⟨a1,a2⟩:=sJ ⟨(q % 6).toNat,by omega⟩
 rw[List.map_congr_left λk _=>e k]
 unfold oV oA
 split
 ·exact a1
 ·exact a2
theorem vz {φ:Str->Str}{x:Str}:∀ {xs:List Str},x∈xs->bw (xs.map λy=>(.inr y:Key)) ((xs.map φ).map .str) (.inr x)=some (.str (φ x))
 | y::r,h=>by
  rw[List.map_cons,List.map_cons,List.map_cons,bw]
  by_cases e:y=x
  ·rw[if_pos (by rw[e]),e]
  ·rw[if_neg λz=>e (Sum.inr.inj z)]
   rcases List.mem_cons.mp h with h|h
   ·exact absurd h.symm e
   ·exact vz h
theorem zA (m q:Int) {zs:List Str}(hn:zs.Nodup) (hg:∀z∈zs,wI z) (hl:zs.length<=6) :
  ∃φ:Str->Str,(∀a b,φ a=φ b->a=b)/\oN.map φ=oV m/\zs.map φ=(List.range zs.length).map (frK q):=by
 have hlen:(oN++zs).length=(oV m++(List.range zs.length).map (frK q)).length:=by simp[oN,oV]
 obtain⟨φ,i,e⟩:=yw ((oN++zs).zip (oV m++(List.range zs.length).map (frK q))) (by
  rw[List.map_fst_zip (Nat.le_of_eq hlen)]
  rw[List.nodup_append]
  exact⟨by decide +kernel,hn,λa ha b hb hab=>vy (hg b hb) (hab ▸ ha)⟩) (by
  rw[List.map_snd_zip (Nat.le_of_eq hlen.symm)]
  exact Bw m q zs.length hl)
 have all:(oN++zs).map φ=oV m++(List.range zs.length).map (frK q):=by
  refine List.ext_getElem (by rw[List.length_map];exact hlen) λj h1 h2=>?_
  rw[List.getElem_map]
  have hj:j<((oN++zs).zip (oV m++(List.range zs.length).map (frK q))).length:=by rw[List.length_zip];rw[List.length_map]at h1;omega
  have:=e _ (List.getElem_mem hj)
  rw[List.getElem_zip]at this
  exact this
 rw[List.map_append]at all
 obtain⟨a1,a2⟩:=List.append_inj all (by simp[oN,oV])
 exact⟨φ,i,a1,a2⟩
theorem Fl {φ:Str->Str}{m:Int}(h:oN.map φ=oV m):∀a∈O3,∀b∈O3,ltCps (φ b).cps.toList (φ a).cps.toList=ltCps b.cps.toList a.cps.toList:=by
 have h:[φ ("abbey" : Str),φ ("crown" : Str),φ ("mill" : Str)]=[oA m,("abc" : Str),("zzzzzzzz" : Str)]:=h
 injection h with h1 h
 injection h with h2 h
 injection h with h3 _
 have c3:∀a∈O3,a=("crown" : Str)∨a=("abbey" : Str)∨a=("mill" : Str):=λa ha=>by
  rcases List.mem_cons.mp ha with h|ha
  ·exact .inl h
  ·rcases List.mem_cons.mp ha with h|ha
   ·exact .inr (.inl h)
   ·exact .inr (.inr (List.mem_singleton.mp ha))
 intro a ha b hb
 unfold oA at h1
 rcases c3 a ha with rfl|rfl|rfl<;>rcases c3 b hb with rfl|rfl|rfl<;>(first|rw[h1]|skip)<;>(first|rw[h2]|skip)<;>(first|rw[h3]|skip)<;>(first|(split<;>decide +kernel)|decide +kernel)
theorem Dm {ρ:DL.Env}{i:Nat}{ks:List Key}{vs:List D}{fk fv:FE}{d k:D}{b b':Bool}{kk:Key}(e:ρ[i]? = some (some (.dk ks vs,true))) (ev:fv ρ=some (d,b)) (ek:fk ρ=some (k,b')) (hk:fP k=some kk) (hn:ba d=true) (hl:ks.length<sizeLine):qk i fk fv ρ=some (.nx (ρ.set i (some (.dk (bY ks kk) (bZ ks vs kk d),true)))):=by
 unfold qk
 rw[e]
 show((fv ρ).bind _)=_
 rw[ev,Option.bind_some,ek,Option.bind_some]
 show(fP k).bind _=_
 rw[hk,Option.bind_some,if_pos ⟨hn,hl⟩]
theorem Dn {κ α:Type}[DecidableEq κ] {ks:List κ}{xs:List α}{k:κ}{x:α}(h:k∉ks):bY ks k=ks++[k]/\bZ ks xs k x=xs++[x]:=by
 unfold bY bZ
 rw[if_neg h,if_neg h]
 exact⟨rfl,rfl⟩
theorem zB {ρ:DL.Env}{h:FE}{c:Int}{b:Bool}(e:h ρ=some (.int c,b)) (hc:c=1∨c=2∨c=3):∃n,m7 (fC (.int 0)) (fC (.int 18)) h ρ=some (jm 0 c n):=by
 refine⟨(Builtin.Range.rangeSize 0 18 c).toNat, ?_⟩
 unfold m7
 show((h ρ).bind _)=_
 rw[e,Option.bind_some]
 exact if_pos ⟨by decide,hc⟩
theorem xc {lo c:Int}{n j:Nat}{d:D}(h:(jm lo c n)[j]? = some d):∃z:Int,d=.int z:=by
 unfold jm at h
 rw[List.getElem?_map]at h
 obtain⟨k,_,rfl⟩:=oY h
 exact⟨_,rfl⟩
theorem qR (l:List Str) (j:Nat) (h:j<l.length):(l.map D.str).getD j .non=.str l[j]:=by
 rw[List.getD_eq_getElem?_getD,List.getElem?_map,List.getElem?_eq_getElem h];rfl
theorem Do (j:Int) (h0:0<=j) (h:j<6):ixD (.lst (frs.map .str)) (.int j)=some (.str (frs.getD j.toNat ("" : Str)),false):=by
 have hl:j.toNat<frs.length:=by show j.toNat<6;omega
 rw[DL.sn h0 (by rw[List.length_map];exact hl),qR _ _ hl,List.getD_eq_getElem?_getD,List.getElem?_eq_getElem hl];rfl
def ksI (zs:List Str) (i:Nat):List Key:=(oN++zs.take i).map .inr
def vsI (m q:Int) (i:Nat):List D:=(oV m++(List.range i).map (frK q)).map .str
theorem Dp (x y:Int) (h : -1000<=x/\x<=1000):rG (.int x) (.int y)=some (.int (x*y),false):=by
 have : -18446744073709551616<x/\x<18446744073709551616:=by omega
 simp[this]
theorem GQ (ns:List Int) (q:Int) (hq:ns.getD 3 0 / 9900=q) (i:Nat) (hi:i<100) (ρ:DL.Env) (h0:ρ[0]? = some (some (.lst (ns.map .int),false))) (h5:ρ[5]? = some (some (.lst (frs.map .str),true))) (h6:ρ[6]? = some (some (.int i,false))) :
  f2 ixD (ag 5) (f2 c6 (f2 b7 (f2 rG (ag 6) (fC (.int 5))) (f2 d9 (fA aG (ae (ag 0) (ae (fC (.int 3)) ak))) (fC (.int 9900)))) (fC (.int 6))) ρ=some (.str (frK q i),false):=by
 have m6:=mod_lt (x:=(i:Int)*5+q) (m:=6) (by decide)
 have e0:ag 0 ρ=some (.lst (ns.map .int),false):=by simp[h0]
 have e5:ag 5 ρ=some (.lst (frs.map .str),false):=by simp[h5]
 have e6:ag 6 ρ=some (.int i,false):=by simp[h6]
 have ec:fA aG (ae (ag 0) (ae (fC (.int 3)) ak)) ρ=some (.int (ns.getD 3 0),false):=ai (ds:=[.lst (ns.map .int),.int ((3:Nat):Int)]) (ar e0 (ar (b:=false) rfl rfl)) (jV ns 3)
 have ed:f2 d9 (fA aG (ae (ag 0) (ae (fC (.int 3)) ak))) (fC (.int 9900)) ρ=some (.int q,false):=aD (x:=.int (ns.getD 3 0)) (y:=.int 9900) (b1:=false) (b2:=false) ec rfl (by rw[←hq];simp)
 have em:f2 rG (ag 6) (fC (.int 5)) ρ=some (.int ((i:Int)*5),false):=aD (x:=.int i) (y:=.int 5) (b1:=false) (b2:=false) e6 rfl (Dp _ _ (by omega))
 have ea:f2 b7 (f2 rG (ag 6) (fC (.int 5))) (f2 d9 (fA aG (ae (ag 0) (ae (fC (.int 3)) ak))) (fC (.int 9900))) ρ=some (.int ((i:Int)*5+q),false):=aD (x:=.int ((i:Int)*5)) (y:=.int q) (b1:=false) (b2:=false) em ed (by simp)
 exact aD (x:=.lst (frs.map .str)) (y:=.int (((i:Int)*5+q) % 6)) (b1:=false) (b2:=false) e5 (aD (x:=.int ((i:Int)*5+q)) (y:=.int 6) (b1:=false) (b2:=false) ea rfl (y4 (by decide))) (Do _ m6.1 m6.2)
theorem Fm (ns:List Int) (zs:List Str) (rows:List D) (mv q:Int) (hq:ns.getD 3 0 / 9900=q) (hn:zs.Nodup) (hg:∀z∈zs,wI z) (hl:zs.length<=6) (i:Nat) (hi:i<zs.length) :
  sr [some (.lst (ns.map .int),false),some (.lst (zs.map .str),true),some (.tup rows,false),some (.int mv,false),some (.dk (ksI zs i) (vsI mv q i),true),some (.lst (frs.map .str),true),some (.int i,false),none,none,none,none,none,none]
   = some (.nx [some (.lst (ns.map .int),false),some (.lst (zs.map .str),true),some (.tup rows,false),some (.int mv,false),some (.dk (ksI zs (i+1)) (vsI mv q (i+1)),true),some (.lst (frs.map .str),true),some (.int i,false),none,none,none,none,none,none]):=by
 have hz:zs[i]∉oN++zs.take i:=λh=>by
  rcases List.mem_append.mp h with h|h
  ·exact vy (hg _ (List.getElem_mem hi)) h
  ·obtain⟨j,hj,e⟩:=List.mem_take_iff_getElem.mp h
   exact List.pairwise_iff_getElem.mp hn j i (by omega) hi (by omega) e
 have hk:(Sum.inr zs[i]:Key)∉ksI zs i:=λh=>by
  obtain⟨x,hx,e⟩:=List.mem_map.mp h
  exact hz (Sum.inr.inj e ▸ hx)
 obtain⟨p1,p2⟩:=Dn (xs:=vsI mv q i) (x:=D.str (frK q i)) hk
 have hks:ksI zs (i+1)=ksI zs i++[.inr zs[i]]:=by
  unfold ksI
  rw[List.take_add_one,List.getElem?_eq_getElem hi,←List.append_assoc,List.map_append];rfl
 have hvs:vsI mv q (i+1)=vsI mv q i++[.str (frK q i)]:=by
  unfold vsI
  rw[List.range_succ]
  simp only[List.map_append,List.map_cons,List.map_nil,List.append_assoc]
 have hkl:(ksI zs i).length<sizeLine:=bJ (by unfold ksI;rw[List.length_map,List.length_append];have:=List.length_take_le i zs;simp[oN];omega)
 have ek:f2 ixD (ag 1) (ag 6) [some (.lst (ns.map .int),false),some (.lst (zs.map .str),true),some (.tup rows,false),some (.int mv,false),some (.dk (ksI zs i) (vsI mv q i),true),some (.lst (frs.map .str),true),some (.int i,false),none,none,none,none,none,none]=some (.str zs[i],false) :=
  aD (x:=.lst (zs.map .str)) (y:=.int i) (b1:=false) (b2:=false) rfl rfl (by rw[DL.sn (by omega) (by rw[List.length_map];omega),qR _ _ (show(i:Int).toNat<zs.length by omega)];rfl)
 have ev:=GQ ns q hq i (by omega) [some (.lst (ns.map .int),false),some (.lst (zs.map .str),true),some (.tup rows,false),some (.int mv,false),some (.dk (ksI zs i) (vsI mv q i),true),some (.lst (frs.map .str),true),some (.int i,false),none,none,none,none,none,none] rfl rfl rfl
 unfold sr
 rw[Dm (ks:=ksI zs i) (vs:=vsI mv q i) (kk:=.inr zs[i]) rfl ev ek rfl rfl hkl,p1,p2,←hks,←hvs]
 rfl
theorem Dq {i:Nat}{prs:List (Str×FE)}{ρ:DL.Env}{zs:List Str}(e:gN prs ρ=some zs) (hn:(prs.map (·.1)).Nodup) (hl:prs.length<=15):uH i prs ρ=some (.nx (ρ.set i (some (.dk (prs.map λq=>.inr q.1) (zs.map .str),true)))):=by
 unfold uH
 rw[e,Option.bind_some,if_pos ⟨hn,hl⟩]
theorem lr {k:Str}{f:FE}{r:List (Str×FE)}{ρ:DL.Env}{z:Str}{zs:List Str}{b:Bool}(e:f ρ=some (.str z,b)) (h:gN r ρ=some zs):gN ((k,f)::r) ρ=some (z::zs):=by
 unfold gN
 show(f ρ).bind _=_
 rw[e,Option.bind_some]
 show(gN r ρ).map _=_
 rw[h];rfl
def Ev (ns:List Int) (zs:List Str) (rows os due:List D) (mv kn:Int) (ks:List Key) (vs:List D) (b1 b4 b5 b9:Bool) (v6 v10 v11 v12:Option (D×Bool)):DL.Env :=
 [some (.lst (ns.map .int),false),some (.lst (zs.map .str),b1),some (.tup rows,false),some (.int mv,false),some (.dk ks vs,b4),some (.lst (frs.map .str),b5),v6,some (.tup os,false),some (.int kn,false),some (.lst due,b9),v10,v11,v12]
theorem Fo {ns:List Int}{zs:List Str}{rows os due:List D}{mv kn:Int}{ks:List Key}{vs:List D}{φ:Str->Str}(hc:∀x,x∈zs∨x∈O3->bw ks vs (.inr x)=some (.str (φ x))) {o:Str}(ho:o∈O3) (day:Int) {y1 y2:D}
  (e1:cK [.tup rows,.int kn,.str o,.int day]=some (y1,false)) (e2:df [y1,.dk ks vs]=some (y2,false)) (e3:cK [.tup os,.int (kn+mv),.str (φ o),.int (day+mv)]=some (y2,false)) (hp:aj 40 y2=true) (b1 b4 b5 b9:Bool) (v6 v12:Option (D×Bool)) :
  ∃b1' b4' b5' b9' v6' v12',wH (Ev ns zs rows os due mv kn ks vs b1 b4 b5 b9 v6 (some (.str o,false)) (some (.int day,false)) v12)=some (.nx (Ev ns zs rows os due mv kn ks vs b1' b4' b5' b9' v6' (some (.str o,false)) (some (.int day,false)) v12')):=by
 have es:fA df (ae (fA cK (ae (ag 2) (ae (ag 8) (ae (ag 10) (ae (ag 11) ak))))) (ae (ag 4) ak)) (Ev ns zs rows os due mv kn ks vs b1 b4 b5 b9 v6 (some (.str o,false)) (some (.int day,false)) v12)=some (y2,false) :=
  ai (ds:=[y1,.dk ks vs]) (ar (ai (ds:=[.tup rows,.int kn,.str o,.int day]) rfl e1) rfl) e2
 have tst:∀b1 b4 b5 b9 v6,tOf (f2 dNe (fA cK (ae (ag 7) (ae (f2 b7 (ag 8) (ag 3)) (ae (f2 ixK (ag 4) (ag 10)) (ae (f2 b7 (ag 11) (ag 3)) ak))))) (ag 12)) (Ev ns zs rows os due mv kn ks vs b1 b4 b5 b9 v6 (some (.str o,false)) (some (.int day,false)) (some (y2,false)))=some false:=λb1 b4 b5 b9 v6 =>
  aM (b:=false) (aD (x:=y2) (y:=y2) (b1:=false) (b2:=false) (ai (ds:=[.tup os,.int (kn+mv),.str (φ o),.int (day+mv)]) (ar (b:=false) rfl (ar (b:=false) rfl (ar (eU hc (b:=false) (b':=false) (.inr ho) rfl rfl) (ar (b:=false) rfl rfl)))) e3) rfl (vx hp))
 rcases Dj (i:=12) es with h|h
 ·exact⟨b1,b4,b5,b9,v6,some (y2,false),d6 h (jO (tst b1 b4 b5 b9 v6) rfl)⟩
 ·exact⟨false,false,false,false,v6.map λy=>(y.1,false),some (y2,false),d6 h (jO (tst false false false false (v6.map λy=>(y.1,false))) rfl)⟩
theorem law_true (ns:List Int) (hn:ns.length<=63):∃b,F_law [.lst (ns.map .int)]=some (.bl true,b):=by
 have m5:=mod_lt (x:=ns.getD 0 0) (m:=5) (by decide)
 obtain⟨many,hmany⟩:∃many:Nat,2+ns.getD 0 0 % 5=many:=⟨(2+ns.getD 0 0 % 5).toNat,by omega⟩
 obtain⟨zs,hz,hzl,hnd,hgood⟩:=io (ns.getD 2 0) many (by omega)
 have hzz:0<zs.length/\zs.length<=100:=by omega
 have hz6:zs.length<=6:=by omega
 obtain⟨rows,hrows,hR,hrl,hnr⟩:=Dh ns zs hzz
 obtain⟨mv,hmv⟩:∃mv:Int,ns.getD 3 0 % 9900=mv:=⟨_,rfl⟩
 obtain⟨q,hq⟩:∃q:Int,ns.getD 3 0 / 9900=q:=⟨_,rfl⟩
 obtain⟨kn,hkn⟩:∃kn:Int,([50,ns.getD 4 0 / 2 % 15]:List Int).getD (ns.getD 4 0 % 2).toNat 0=kn:=⟨_,rfl⟩
 have m2:=mod_lt (x:=ns.getD 4 0) (m:=2) (by decide)
 have mm2:=mod_lt (x:=mv) (m:=2) (by decide)
 have cel:∀(k:Nat) (ρ:DL.Env) (f:FE),ag 0 ρ=some (.lst (ns.map .int),false)->f ρ=some (.int k,false)->fA aG (ae (ag 0) (ae f ak)) ρ=some (.int (ns.getD k 0),false):=λk ρ f h1 h2=>ai (ds:=[.lst (ns.map .int),.int k]) (ar h1 (ar h2 rfl)) (jV ns k)
 have hflat:br rows=true:=cM λr hr=>(hR r hr).flat
 have hC:∀r∈rows,cN r:=λr hr=>(hR r hr).c
 -- the names
 obtain⟨φ,hφ,hN,hZ⟩:=zA mv q hnd hgood hz6
 have hO:=Fl hN
 obtain⟨ρ1,f1,v6,rfl⟩:=nE (tg:=tgN 6) (g:=sr) zs.length (λi ρ=>∃v6:Option (D×Bool),ρ=[some (.lst (ns.map .int),false),some (.lst (zs.map .str),true),some (.tup rows,false),some (.int mv,false),some (.dk (ksI zs i) (vsI mv q i),true),some (.lst (frs.map .str),true),v6,none,none,none,none,none,none])
  [some (.lst (ns.map .int),false),some (.lst (zs.map .str),true),some (.tup rows,false),some (.int mv,false),some (.dk (ksI zs 0) (vsI mv q 0),true),some (.lst (frs.map .str),true),none,none,none,none,none,none,none] ⟨none,rfl⟩ (by
   rintro i ρ hi ⟨v6,rfl⟩
   exact⟨_,_,rfl,.inl (Fm ns zs rows mv q hq hnd hgood hz6 i hi),some (.int i,false),rfl⟩)
 have eks:ksI zs zs.length=(oN++zs).map .inr:=by unfold ksI;rw[List.take_length]
 have evs:vsI mv q zs.length=((oN++zs).map φ).map .str:=by unfold vsI;rw[List.map_append (f:=φ),hN,hZ]
 have hcl:∀x,x∈zs∨x∈O3->bw (ksI zs zs.length) (vsI mv q zs.length) (.inr x)=some (.str (φ x)):=λx hx=>by
  rw[eks,evs]
  refine vz (List.mem_append.mpr ?_)
  rcases hx with h|h
  ·exact .inr h
  ·exact .inl (by
    have:∀x∈O3,x∈oN:=by decide +kernel
    exact this x h)
 generalize ksI zs zs.length=ks at hcl f1
 generalize vsI mv q zs.length=vs at hcl f1
 -- the other register
 have hos:=nK (fi:=cE (ag 2)) (nT:=2) (cap:=[3,4]) (tg:=tgT [0,1]) (fe:=fA aQ (ae (f2 b7 (ag 0) (ag 2)) (ae (fA eG (ae (ag 1) (ae (ag 3) (ae (ag 2) ak)))) ak)))
  (ρ:=[some (.lst (ns.map .int),false),some (.lst (zs.map .str),true),some (.tup rows,false),some (.int mv,false),some (.dk ks vs,true),some (.lst (frs.map .str),true),v6,none,none,none,none,none,none]) rows id (rn φ mv) (by simp) (by omega) λr hr=>by
   obtain⟨h,k,a0,rfl,d⟩:=hR r hr
   exact⟨[some (.int h,false),some (.tup (.str k::a0),false),some (.int mv,false),some (.dk ks vs,false)],rfl,false,ai (ds:=[.int (h+mv),.tup (.str k::rnT φ mv a0)]) (ar (b:=false) rfl (ar (ai (ds:=[.tup (.str k::a0),.dk ks vs,.int mv]) rfl (Bu hcl mv d)) rfl)) (cD _ (by simp))⟩
 have hoC:∀r∈rows.map (rn φ mv),cN r:=λr hr=>by
  obtain⟨r',h,rfl⟩:=List.mem_map.mp hr
  exact(hR r' h).rn φ mv
 have hofl:br (rows.map (rn φ mv))=true:=cM λr hr=>(hoC r hr).rp.flat
 have hK:aw (rows.map (rn φ mv)) (kn+mv)=(aw rows kn).map (rx φ mv):=z5 φ mv kn hC
 have gK:∀x∈aw rows kn,cN x.1:=λx hx=>hC _ (List.mem_of_getElem? (cr hx))
 have iK:∀x∈aw rows kn,RowIn O3 zs x.1:=λx hx=>(hR _ (List.mem_of_getElem? (cr hx))).inn
 have hol:(cZ (aw rows kn)).length<=60:=Nat.le_trans (Di rows kn) (by omega)
 have hol2:(cZ (aw (rows.map (rn φ mv)) (kn+mv))).length<=60:=by rw[hK,Bt gK,List.length_map];exact hol
 have gR:dU rows:=⟨by omega,hC⟩
 have gO:dU (rows.map (rn φ mv)):=⟨by rw[List.length_map];omega,hoC⟩
 obtain⟨ec,hcl60⟩:=lb gR kn hol
 obtain⟨ec2,_⟩:=lb gO (kn+mv) hol2
 obtain⟨hcr,hcin⟩:=qQ hφ gK hO iK (m:=mv)
 rw[hK,hcr,List.map_map]at ec2
 have hdue:=nK (fi:=cE (fA dz (ae (ag 2) (ae (ag 8) ak)))) (nT:=1) (cap:=[4,3]) (tg:=tgN 0) (fe:=fA fS (ae (ag 0) (ae (ag 1) (ae (ag 2) ak))))
  (ρ:=[some (.lst (ns.map .int),false),some (.lst (zs.map .str),true),some (.tup rows,false),some (.int mv,false),some (.dk ks vs,true),some (.lst (frs.map .str),true),v6,some (.tup (rows.map (rn φ mv)),false),some (.int kn,false),none,none,none,none]) (b8 (aw rows kn)) clD (λc=>clD (rc φ mv c))
  (by show(fA dz _ _).bind _=_;rw[ai (ds:=[.tup rows,.int kn]) rfl ec];rfl) (by omega) λc hc=>⟨_,rfl,false,ai (ds:=[clD c,.dk ks vs,.int mv]) rfl (Bv hcl mv (hcin c hc).1 (hcin c hc).2)⟩
 have hdp:aj 40 (.lst ((b8 (aw rows kn)).map λc=>clD (rc φ mv c)))=true:=by
  simp only[aj,List.all_eq_true]
  intro d hd
  obtain⟨c,_,rfl⟩:=List.mem_map.mp hd
  exact dh 38 39 _ (by decide) (z8 _)
 -- who holds
 have hold:∀(o:Str) (day:Int),∃y1 y2,cK [.tup rows,.int kn,.str o,.int day]=some (y1,false)/\df [y1,.dk ks vs]=some (y2,false)/\cK [.tup (rows.map (rn φ mv)),.int (kn+mv),.str (φ o),.int (day+mv)]=some (y2,false)/\aj 40 y2=true:=λo day=>by
  obtain⟨h1,h2⟩:=z9 hcl60 (λc hc=>(hcin c hc).2) o day
  exact⟨_,_,qJ gR kn hol o day,xa hcl (z4 hφ gK hO iK (m:=mv) o day) h1 h2,by rw[qJ gO (kn+mv) hol2 (φ o) (day+mv),hK],dh 39 40 _ (by decide) (p4 _ _ _)⟩
 obtain⟨due,edue⟩:∃due,((b8 (aw rows kn)).map λc=>clD (rc φ mv c))=due:=⟨_,rfl⟩
 obtain⟨os,eos⟩:∃os,rows.map (rn φ mv)=os:=⟨_,rfl⟩
 rw[eos]at hos hofl hold hdue ec2
 rw[edue]at hdue hdp
 have m3:=mod_lt (x:=ns.getD 0 0 / 5) (m:=3) (by decide)
 obtain⟨ρ2,f2',b1,b4,b5,b9,w6,w10,w11,w12,rfl⟩:=eQ (tg:=tgN 10) (g:=AX) (λ_ ρ=>∃(b1 b4 b5 b9:Bool) (v6 v10 v11 v12:Option (D×Bool)),ρ=Ev ns zs rows os due mv kn ks vs b1 b4 b5 b9 v6 v10 v11 v12) (O3.map .str)
  (Ev ns zs rows os due mv kn ks vs true true true true v6 none none none) ⟨_,_,_,_,_,_,_,_,rfl⟩ (by
   rintro i d ρ hd ⟨b1,b4,b5,b9,v6,v10,v11,v12,rfl⟩
   rw[List.getElem?_map]at hd
   obtain⟨o,ho,rfl⟩:=oY hd
   have ho:=List.mem_of_getElem? ho
   obtain⟨n,er⟩:=zB (ρ:=Ev ns zs rows os due mv kn ks vs b1 b4 b5 b9 v6 (some (.str o,false)) v11 v12) (h:=f2 b7 (fC (.int 1)) (f2 c6 (f2 d9 (fA aG (ae (ag 0) (ae (fC (.int 0)) ak))) (fC (.int 5))) (fC (.int 3)))) (c:=1+ns.getD 0 0 / 5 % 3) (b:=false)
    (aD (x:=.int 1) (y:=.int (ns.getD 0 0 / 5 % 3)) (b1:=false) (b2:=false) rfl (aD (x:=.int (ns.getD 0 0 / 5)) (y:=.int 3) (b1:=false) (b2:=false) (aD (x:=.int (ns.getD 0 0)) (y:=.int 5) (b1:=false) (b2:=false) (cel 0 _ _ rfl rfl) rfl (by simp)) rfl (by simp)) rfl) (by omega)
   obtain⟨ρ3,e3,c1,c4,c5,c9,x6,x11,x12,rfl⟩:=eQ (tg:=tgN 11) (g:=wH) (λ_ ρ=>∃(b1 b4 b5 b9:Bool) (v6 v11 v12:Option (D×Bool)),ρ=Ev ns zs rows os due mv kn ks vs b1 b4 b5 b9 v6 (some (.str o,false)) v11 v12) (jm 0 (1+ns.getD 0 0 / 5 % 3) n)
    (Ev ns zs rows os due mv kn ks vs b1 b4 b5 b9 v6 (some (.str o,false)) v11 v12) ⟨_,_,_,_,_,_,_,rfl⟩ (by
     rintro j d ρ hd ⟨b1,b4,b5,b9,v6,v11,v12,rfl⟩
     obtain⟨day,rfl⟩:=xc hd
     obtain⟨y1,y2,h1,h2,h3,h4⟩:=hold o day
     obtain⟨b1',b4',b5',b9',v6',v12',e⟩:=Fo (ns:=ns) (due:=due) hcl ho day h1 h2 h3 h4 b1 b4 b5 b9 v6 v12
     exact⟨_,_,rfl,.inl e,b1',b4',b5',b9',v6',_,v12',rfl⟩)
   exact⟨_,_,rfl,.inl (jQ er e3),c1,c4,c5,c9,x6,_,x11,x12,rfl⟩)
 refine⟨false,a8 rfl (cB (ds:=zs.map .str) ?_ (dS zs) (aT (d:=.tup rows) (b:=false) ?_ (by simp[hflat]) (aT (d:=.int mv) (b:=false) ?_ rfl (d6 (ρ':=[some (.lst (ns.map .int),false),some (.lst (zs.map .str),true),some (.tup rows,false),some (.int mv,false),some (.dk (ksI zs 0) (vsI mv q 0),true),none,none,none,none,none,none,none,none]) ?_ (cB (ds:=frs.map .str) ?_ (dS _) (d6 (jQ (kO (j:=zs.length) (b:=false) (by simp) (by omega)) f1) (aT (d:=.tup os) (b:=false) ?_ (by simp[hofl]) (aT (d:=.int kn) (b:=false) ?_ rfl (cB (ds:=due) hdue ?_ (bo (aM (b:=false) ?_) (d6 (jR (ds:=O3.map .str) ?_ f2') (aI rfl))))))))))))⟩
 ·refine ai (ds:=[.int (ns.getD 2 0),.int many]) (ar (cel 2 _ _ rfl rfl) (ar (d:=.int many) (b:=false) (aD (x:=.int 2) (y:=.int (ns.getD 0 0 % 5)) (b1:=false) (b2:=false) rfl (aD (x:=.int (ns.getD 0 0)) (y:=.int 5) (b1:=false) (b2:=false) (cel 0 _ _ rfl rfl) rfl (by simp)) (by simp only[b7,hmany])) rfl)) hz
 ·exact ai (ds:=[.lst (ns.map .int),.lst (zs.map .str)]) (by simp) hrows
 ·exact aD (x:=.int (ns.getD 3 0)) (y:=.int 9900) (b1:=false) (b2:=false) (cel 3 _ _ rfl rfl) rfl (by rw[←hmv];simp)
 ·have ea:f2 ixD (fA bN (ae (fC (.str "ab")) (ae (fC (.str "a")) ak))) (f2 c6 (ag 3) (fC (.int 2))) [some (.lst (ns.map .int),false),some (.lst (zs.map .str),true),some (.tup rows,false),some (.int mv,false),none,none,none,none,none,none,none,none,none]=some (.str (oA mv),false):=by
   refine aD (x:=.lst [.str "ab",.str "a"]) (y:=.int (mv % 2)) (b1:=true) (b2:=false) (ai (ds:=[.str "ab",.str "a"]) rfl (gX _ (by simp))) (aD (x:=.int mv) (y:=.int 2) (b1:=false) (b2:=false) rfl rfl (by simp)) ?_
   unfold oA
   rcases (show mv % 2=0∨mv % 2=1 by omega)with h|h
   ·rw[h,if_pos rfl];rfl
   ·rw[h,if_neg (by decide)];rfl
  exact Dq (lr ea (lr (b:=false) rfl (lr (b:=false) rfl rfl))) (show([("abbey" : Str),("crown" : Str),("mill" : Str)]:List Str).Nodup by decide +kernel) (by decide)
 ·exact ai (ds:=frs.map .str) rfl (gX _ (by simp[frs]))
 ·exact ai (ds:=[.lst os]) (ar hos rfl) rfl
 ·refine aD (x:=.lst (([50,ns.getD 4 0 / 2 % 15]:List Int).map .int)) (y:=.int (ns.getD 4 0 % 2)) (b1:=true) (b2:=false) (ai (ds:=[.int 50,.int (ns.getD 4 0 / 2 % 15)]) (ar (b:=false) rfl (ar (b:=false) (aD (x:=.int (ns.getD 4 0 / 2)) (y:=.int 15) (b1:=false) (b2:=false) (aD (x:=.int (ns.getD 4 0)) (y:=.int 2) (b1:=false) (b2:=false) (cel 4 _ _ rfl rfl) rfl (by simp)) rfl (by simp)) rfl)) (gX _ (by simp))) (aD (x:=.int (ns.getD 4 0)) (y:=.int 2) (b1:=false) (b2:=false) (cel 4 _ _ rfl rfl) rfl (by simp)) ?_
  rw[sq m2.1 (by simp;omega),hkn]
 ·rw[←edue];exact cM λd hd=>by obtain⟨c,_,rfl⟩:=List.mem_map.mp hd;exact gW _
 ·refine aD (x:=.lst due) (y:=.lst due) (b1:=true) (b2:=false) (ai (ds:=[.tup os,.int (kn+mv)]) rfl ?_) rfl (vx hdp)
  rw[ec2,←edue];rfl
 ·rfl
end Lw
namespace Lw
open PySem PySem.Spec PyProof.Rows L2 DL
theorem cy {X:Cx}{es:List Expr}{g:FA}{i:Int}{j:Nat}{pos:Pos}(hr:JA X es g):JA X (.Constant (.int i) j pos::es) (ae (fC (.int i)) g):=ac am hr
theorem Fp {a b:Expr}{pos:Pos}:mr (.Subscript a b pos):=by intro _ _;rfl
def top (i:Nat):Stmt:=PySem.Challenge.pw_sealchain_k20_whole_names_and_days_excha.main.body.getD i (.Pass ⟨0,0,0,0⟩)
structure Tx (K:PySem.W.Frag) (P:Params) (mg:Str->Option Value):Prop where
 n_dict:mg "dict" = none
 n_enumerate:mg "enumerate" = none
 n_len:mg "len" = none
 n_max:mg "max" = none
 n_min:mg "min" = none
 n_range:mg "range" = none
 n_set:mg "set" = none
 n_sorted:mg "sorted" = none
 n_tuple:mg "tuple" = none
 k_PARTS:∃d,mg "PARTS" = some (.ref d)/\pP K P d fm
 k_SEALINGS:∃u v,mg "SEALINGS" = some u/\aN v u/\∀B,Is K B v dC
section
variable {P:Program}{w:World}{K:PySem.W.Frag}{mg:Str->Option Value}{base h:Heap}
abbrev ls:Stmt:=top 4
theorem oF:FnScope ["row"] ["row"] (ax ls):=by refine⟨rfl,rfl,rfl, ?_,rfl, ?_, ?_⟩<;>decide +kernel
theorem xf (T:Tx K w.params mg) (F:Def K "word_of" ls) (KX:K.In h) (G:h.Ns mainGlobals mg)  : Fn P w K mg base 1 "word_of" aE :=
 F.fn (k:=0) KX G oF (λ_ _ _ _ _ _ us hl=>match us,hl with|[_],_=>rfl) λf cdv A outer s H E hr =>
  have hu:=bX hr
  have nd:=oF.nd
  (show JSs _ _ qr from
   (az (aH (aA (aA (af 0) am) am))))
abbrev lu:Stmt:=top 5
theorem oG:FnScope ["row","part"] ["row","part"] (ax lu):=by refine⟨rfl,rfl,rfl, ?_,rfl, ?_, ?_⟩<;>decide +kernel
theorem xg (T:Tx K w.params mg) (F:Def K "part_of" lu) (KX:K.In h) (G:h.Ns mainGlobals mg) (f_word_of:Fn P w K mg base 1 "word_of" aE):Fn P w K mg base 2 "part_of" av :=
 F.fn (k:=1) KX G oG (λ_ _ _ _ _ _ us hl=>match us,hl with|[_,_],_=>rfl) λf cdv A outer s H E hr =>
  have hu:=bX hr
  have nd:=oG.nd
  (show JSs _ _ qt from
   (az (aH (aA (aA (af 0) am) (aC bc am (Cz T.k_PARTS (ao f_word_of (hr.mono (by decide)) (ac (af 0) ah)) (af 1)))))))
abbrev oH:Stmt:=top 6
theorem qS:FnScope ["row"] ["row"] (ax oH):=by refine⟨rfl,rfl,rfl, ?_,rfl, ?_, ?_⟩<;>decide +kernel
theorem zC (T:Tx K w.params mg) (F:Def K "day_of" oH) (KX:K.In h) (G:h.Ns mainGlobals mg) (f_word_of:Fn P w K mg base 1 "word_of" aE) (f_part_of:Fn P w K mg base 2 "part_of" av):Fn P w K mg base 3 "day_of" aO :=
 F.fn (k:=2) KX G qS (λ_ _ _ _ _ _ us hl=>match us,hl with|[_],_=>rfl) λf cdv A outer s H E hr =>
  have hu:=bX hr
  have nd:=qS.nd
  (show JSs _ _ uL from
   (au (bR (aR (dA hu) (ao f_word_of (hr.mono (by decide)) (ac (af 0) ah)) ay) (az (aH gb)) bD)
   (az (aH (ao f_part_of (hr.mono (by decide)) (ac (af 0) (ac ay ah)))))))
abbrev sK:Stmt:=top 8
theorem v0:FnScope ["book","known"] ["book","known"] (ax sK):=by refine⟨rfl,rfl,rfl, ?_,rfl, ?_, ?_⟩<;>decide +kernel
theorem By (T:Tx K w.params mg) (F:Def K "heard" sK) (KX:K.In h) (G:h.Ns mainGlobals mg)  : Fn P w K mg base 1 "heard" cm :=
 F.fn (k:=0) KX G v0 (λ_ _ _ _ _ _ us hl=>match us,hl with|[_,_],_=>rfl) λf cdv A outer s H E hr =>
  have hu:=bX hr
  have nd:=v0.nd
  (show JSs _ _ ye from
   (az (aH (eB rfl (nT:=2) (cap:=[1]) (N':=["number","row","known"]) (dm (by decide +kernel) rfl (by decide +kernel) rfl) (.cons rfl rfl (Or.inl rfl) (Or.inl rfl) (bz (by decide +kernel) rfl) (.nil rfl)) (xJ T.n_enumerate (af 0)) (λ_ _ _ _=>(vN rfl (fF (bg (i:=0) (show List.Nodup (α:=Str) ["number","row","known"] by decide +kernel) rfl (Or.inl rfl)) (fF (bg (i:=1) (show List.Nodup (α:=Str) ["number","row","known"] by decide +kernel) rfl (Or.inl rfl)) qZ)))) (DO (by decide)) (λ_ _ _ _=>(iX (aR tU (aA (af 1) am) (af 2)))) (λ_ _ _ _=>(af 0))))))
abbrev xh:Stmt:=top 10
theorem y6:FnScope ["book","number"] ["book","number"] (ax xh):=by refine⟨rfl,rfl,rfl, ?_,rfl, ?_, ?_⟩<;>decide +kernel
theorem Dr (T:Tx K w.params mg) (F:Def K "rank" xh) (KX:K.In h) (G:h.Ns mainGlobals mg) (f_day_of:Fn P w K mg base 3 "day_of" aO):Fn P w K mg base 4 "rank" de :=
 F.fn (k:=3) KX G y6 (λ_ _ _ _ _ _ us hl=>match us,hl with|[_,_],_=>rfl) λf cdv A outer s H E hr =>
  have hu:=bX hr
  have nd:=y6.nd
  (show JSs _ _ AW from
   (az (aH (aU (ac (ao f_day_of (hr.mono (by decide)) (ac (aA (af 0) (af 1)) ah)) (ac (af 1) ah))))))
abbrev jq:Stmt:=top 11
theorem lT:FnScope ["book","known","dated"] ["book","known"] (ax jq):=by refine⟨rfl,rfl,rfl, ?_,rfl, ?_, ?_⟩<;>decide +kernel
theorem vA (T:Tx K w.params mg) (F:Def K "in_order" jq) (KX:K.In h) (G:h.Ns mainGlobals mg) (f_day_of:Fn P w K mg base 3 "day_of" aO) (f_heard:Fn P w K mg base 1 "heard" cm) (f_rank:Fn P w K mg base 4 "rank" de) (l_in_order:sd K "in_order"):Fn P w K mg base 8 "in_order" dD :=
 F.fnL (k:=7) KX G lT (λ_ _ _ _ _ _ us hl=>match us,hl with|[_,_],_=>rfl) λf cdv A outer s H E hcd hr =>
  have hu:=bX hr
  have nd:=lT.nd
  (show JSs _ _ nM from
   (au (j9 (i:=2) rfl nd rfl rfl rfl (nT:=1) (cap:=[0]) (N':=["number","book"]) (dm (by decide +kernel) rfl (by decide +kernel) rfl) (.cons rfl rfl (Or.inl rfl) (Or.inl rfl) (bz (by decide +kernel) rfl) (.nil rfl)) (cG (ao f_heard (hr.mono (by decide)) (ac (af 0) (ac (af 1) ah)))) (λ_ _ _ _=>(bg (i:=0) (show List.Nodup (α:=Str) ["number","book"] by decide +kernel) rfl (Or.inl rfl))) (cu (by decide)) (λ_ _ _ _=>(iX (aR rJ (ao f_day_of (hr.mono (by decide)) (ac (aA (af 1) (af 0)) ah)) gb))) (λ_ _ _ _=>(af 0)))
   (az (aH (uA T.n_sorted (af 2) (wB (cap:=[0]) (N':=["number","book"]) (by decide +kernel) l_in_order hcd rfl rfl (AE (by decide +kernel) rfl rfl rfl rfl rfl) rfl (.cons rfl rfl (Or.inl rfl) rfl (bz (by decide +kernel) rfl) (.nil rfl)) rfl hr.in1.in1 (λ_ _ _ _=>rfl) λ_ _ _ _ hr=>have hu:=bX hr;(ao f_rank (hr.mono (by decide)) (ac (af 1) (ac (af 0) ah)))))))))
abbrev hV:Stmt:=top 23
theorem kj:FnScope ["claim"] ["claim"] (ax hV):=by refine⟨rfl,rfl,rfl, ?_,rfl, ?_, ?_⟩<;>decide +kernel
theorem sL (T:Tx K w.params mg) (F:Def K "by_office" hV) (KX:K.In h) (G:h.Ns mainGlobals mg)  : Fn P w K mg base 1 "by_office" dj :=
 F.fn (k:=0) KX G kj (λ_ _ _ _ _ _ us hl=>match us,hl with|[_],_=>rfl) λf cdv A outer s H E hr =>
  have hu:=bX hr
  have nd:=kj.nd
  (show JSs _ _ lH from
   (az (aH (aU (ac (aA (af 0) am) (ac (aA (af 0) am) (ac (aA (af 0) am) ah)))))))
abbrev sM:Stmt:=top 12
theorem vB:FnScope ["book","known","known_rows"] ["book","known"] (ax sM):=by refine⟨rfl,rfl,rfl, ?_,rfl, ?_, ?_⟩<;>decide +kernel
theorem Bz (T:Tx K w.params mg) (F:Def K "roots" sM) (KX:K.In h) (G:h.Ns mainGlobals mg) (f_word_of:Fn P w K mg base 1 "word_of" aE) (f_part_of:Fn P w K mg base 2 "part_of" av) (f_heard:Fn P w K mg base 1 "heard" cm):Fn P w K mg base 3 "roots" fq :=
 F.fn (k:=2) KX G vB (λ_ _ _ _ _ _ us hl=>match us,hl with|[_,_],_=>rfl) λf cdv A outer s H E hr =>
  have hu:=bX hr
  have nd:=vB.nd
  (show JSs _ _ yf from
   (au (j9 (i:=2) rfl nd rfl rfl rfl (nT:=1) (cap:=[0]) (N':=["number","book"]) (dm (by decide +kernel) rfl (by decide +kernel) rfl) (.cons rfl rfl (Or.inl rfl) (Or.inl rfl) (bz (by decide +kernel) rfl) (.nil rfl)) (cG (ao f_heard (hr.mono (by decide)) (ac (af 0) (ac (af 1) ah)))) (λ_ _ _ _=>(bg (i:=0) (show List.Nodup (α:=Str) ["number","book"] by decide +kernel) rfl (Or.inl rfl))) (cu (by decide)) (λ_ _ _ _=>iW) (λ_ _ _ _=>(aA (af 1) (af 0))))
   (az (aH (ij (Fg rfl) T.n_dict Ff (ac (eB rfl (nT:=1) (cap:=[]) (N':=["row"]) (dm (by decide +kernel) rfl (by decide +kernel) rfl) (.nil rfl) (cG (af 2)) (λ_ _ _ _=>(bg (i:=0) (show List.Nodup (α:=Str) ["row"] by decide +kernel) rfl (Or.inl rfl))) (cu (by decide)) (λ_ _ _ _=>(iX (aR (dA hu) (ao f_word_of (hr.mono (by decide)) (ac (af 0) ah)) ay))) (λ_ _ _ _=>(aU (ac (ao f_part_of (hr.mono (by decide)) (ac (af 0) (ac ay ah))) (ac (af 0) ah))))) ah))))))
abbrev jr:Stmt:=top 9
theorem lU:FnScope ["book","known","number"] ["book","known","number"] (ax jr):=by refine⟨rfl,rfl,rfl, ?_,rfl, ?_, ?_⟩<;>decide +kernel
theorem vC (T:Tx K w.params mg) (F:Def K "is_known" jr) (KX:K.In h) (G:h.Ns mainGlobals mg)  : Fn P w K mg base 1 "is_known" eR :=
 F.fn (k:=0) KX G lU (λ_ _ _ _ _ _ us hl=>match us,hl with|[_,_,_],_=>rfl) λf cdv A outer s H E hr =>
  have hu:=bX hr
  have nd:=lU.nd
  (show JSs _ _ nN from
   (az (aH (k9 (Ak tU tT am (af 2) (bI fK T.n_len fL (ac (af 0) ah))) (kB (eK tU (aA (aA (af 0) (af 2)) am) (af 1)))))))
abbrev sO:Stmt:=top 15
theorem vD:FnScope ["row","words","person","day"] ["row","words","person","day"] (ax sO):=by refine⟨rfl,rfl,rfl, ?_,rfl, ?_, ?_⟩<;>decide +kernel
theorem B1 (T:Tx K w.params mg) (F:Def K "tells" sO) (KX:K.In h) (G:h.Ns mainGlobals mg) (f_word_of:Fn P w K mg base 1 "word_of" aE) (f_part_of:Fn P w K mg base 2 "part_of" av) (f_day_of:Fn P w K mg base 3 "day_of" aO):Fn P w K mg base 4 "tells" jS :=
 F.fn (k:=3) KX G vD (λ_ _ _ _ _ _ us hl=>match us,hl with|[_,_,_,_],_=>rfl) λf cdv A outer s H E hr =>
  have hu:=bX hr
  have nd:=vD.nd
  (show JSs _ _ yg from
   (az (aH (k9 (eK DM (ao f_word_of (hr.mono (by decide)) (ac (af 0) ah)) (af 1)) (k9 (eK (dA hu) (ao f_part_of (hr.mono (by decide)) (ac (af 0) (ac ay ah))) (af 2)) (kB (eK tU (ao f_day_of (hr.mono (by decide)) (ac (af 0) ah)) (af 3))))))))
abbrev lw:Stmt:=top 16
theorem oJ:FnScope ["book","known","words","person","day"] ["book","known","words","person","day"] (ax lw):=by refine⟨rfl,rfl,rfl, ?_,rfl, ?_, ?_⟩<;>decide +kernel
theorem xi (T:Tx K w.params mg) (F:Def K "told_of" lw) (KX:K.In h) (G:h.Ns mainGlobals mg) (f_heard:Fn P w K mg base 1 "heard" cm) (f_tells:Fn P w K mg base 4 "tells" jS):Fn P w K mg base 5 "told_of" cR :=
 F.fn (k:=4) KX G oJ (λ_ _ _ _ _ _ us hl=>match us,hl with|[_,_,_,_,_],_=>rfl) λf cdv A outer s H E hr =>
  have hu:=bX hr
  have nd:=oJ.nd
  (show JSs _ _ qu from
   (az (aH (eB rfl (nT:=1) (cap:=[2,3,4,0]) (N':=["number","words","person","day","book"]) (dm (by decide +kernel) rfl (by decide +kernel) rfl) (.cons rfl rfl (Or.inl rfl) (Or.inl rfl) (bz (by decide +kernel) rfl) (.cons rfl rfl (Or.inl rfl) (Or.inl rfl) (bz (by decide +kernel) rfl) (.cons rfl rfl (Or.inl rfl) (Or.inl rfl) (bz (by decide +kernel) rfl) (.cons rfl rfl (Or.inl rfl) (Or.inl rfl) (bz (by decide +kernel) rfl) (.nil rfl))))) (cG (ao f_heard (hr.mono (by decide)) (ac (af 0) (ac (af 1) ah)))) (λ_ _ _ _=>(bg (i:=0) (show List.Nodup (α:=Str) ["number","words","person","day","book"] by decide +kernel) rfl (Or.inl rfl))) (cu (by decide)) (λ_ _ _ _=>(iX (iY (ao f_tells (hr.mono (by decide)) (ac (aA (af 4) (af 0)) (ac (af 1) (ac (af 2) (ac (af 3) ah)))))))) (λ_ _ _ _=>(af 0))))))
abbrev sP:Stmt:=top 17
theorem vE:FnScope ["book","known","person","day"] ["book","known","person","day"] (ax sP):=by refine⟨rfl,rfl,rfl, ?_,rfl, ?_, ?_⟩<;>decide +kernel
theorem B3 (T:Tx K w.params mg) (F:Def K "lives" sP) (KX:K.In h) (G:h.Ns mainGlobals mg) (f_told_of:Fn P w K mg base 5 "told_of" cR):Fn P w K mg base 6 "lives" gm :=
 F.fn (k:=5) KX G vE (λ_ _ _ _ _ _ us hl=>match us,hl with|[_,_,_,_],_=>rfl) λf cdv A outer s H E hr =>
  have hu:=bX hr
  have nd:=vE.nd
  (show JSs _ _ yh from
   (az (aH (eK (dA hu) (bI fK T.n_len fL (ac (ao f_told_of (hr.mono (by decide)) (ac (af 0) (ac (af 1) (ac (aU (ac ay ah)) (ac (af 2) (ac (af 3) ah)))))) ah)) am))))
abbrev js:Stmt:=top 18
theorem lV:FnScope ["book","known","person","day","told"] ["book","known","person","day"] (ax js):=by refine⟨rfl,rfl,rfl, ?_,rfl, ?_, ?_⟩<;>decide +kernel
theorem vF (T:Tx K w.params mg) (F:Def K "has_seal" js) (KX:K.In h) (G:h.Ns mainGlobals mg) (f_word_of:Fn P w K mg base 1 "word_of" aE) (f_rank:Fn P w K mg base 4 "rank" de) (f_told_of:Fn P w K mg base 5 "told_of" cR) (l_has_seal:sd K "has_seal"):Fn P w K mg base 8 "has_seal" gn :=
 F.fnL (k:=7) KX G lV (λ_ _ _ _ _ _ us hl=>match us,hl with|[_,_,_,_],_=>rfl) λf cdv A outer s H E hcd hr =>
  have hu:=bX hr
  have nd:=lV.nd
  (show JSs _ _ nO from
   (au (aF (i:=4) nd (ao f_told_of (hr.mono (by decide)) (ac (af 0) (ac (af 1) (ac (aU (ac ay (ac ay ah))) (ac (af 2) (ac (af 3) ah)))))))
   (au (bR (aR (dA hu) (bI fK T.n_len fL (ac (af 4) ah)) am) (az (aH lC)) bD)
   (az (aH (eK (dA hu) (ao f_word_of (hr.mono (by decide)) (ac (aA (af 0) (uB mmx T.n_max (af 4) (wB (cap:=[0]) (N':=["number","book"]) (by decide +kernel) l_has_seal hcd rfl rfl (AE (by decide +kernel) rfl rfl rfl rfl rfl) rfl (.cons rfl rfl (Or.inl rfl) rfl (bz (by decide +kernel) rfl) (.nil rfl)) rfl hr.in1 (λ_ _ _ _=>rfl) λ_ _ _ _ hr=>have hu:=bX hr;(ao f_rank (hr.mono (by decide)) (ac (af 1) (ac (af 0) ah)))) hr)) ah)) ay))))))
abbrev jt:Stmt:=top 19
theorem lW:FnScope ["book","known","number","sealer","day"] ["book","known","number"] (ax jt):=by refine⟨rfl,rfl,rfl, ?_,rfl, ?_, ?_⟩<;>decide +kernel
theorem vG (T:Tx K w.params mg) (F:Def K "is_sound" jt) (KX:K.In h) (G:h.Ns mainGlobals mg) (f_word_of:Fn P w K mg base 1 "word_of" aE) (f_part_of:Fn P w K mg base 2 "part_of" av) (f_day_of:Fn P w K mg base 3 "day_of" aO) (f_is_known:Fn P w K mg base 1 "is_known" eR) (f_lives:Fn P w K mg base 6 "lives" gm) (f_has_seal:Fn P w K mg base 8 "has_seal" gn):Fn P w K mg base 9 "is_sound" gp :=
 F.fn (k:=8) KX G lW (λ_ _ _ _ _ _ us hl=>match us,hl with|[_,_,_],_=>rfl) λf cdv A outer s H E hr =>
  have hu:=bX hr
  have nd:=lW.nd
  (show JSs _ _ nQ from
   (au (bR (rC (tF (wc (iY (ao f_is_known (hr.mono (by decide)) (ac (af 0) (ac (af 1) (ac (af 2) ah)))))) (rB (aR mQ (ao f_word_of (hr.mono (by decide)) (ac (aA (af 0) (af 2)) ah)) (An T.k_SEALINGS))))) (az (aH lC)) bD)
   (au (aF (i:=3) nd (ao f_part_of (hr.mono (by decide)) (ac (aA (af 0) (af 2)) (ac ay ah))))
   (au (aF (i:=4) nd (ao f_day_of (hr.mono (by decide)) (ac (aA (af 0) (af 2)) ah)))
   (az (aH (k9 (ao f_lives (hr.mono (by decide)) (ac (af 0) (ac (af 1) (ac (af 3) (ac (af 4) ah))))) (kB (ao f_has_seal (hr.mono (by decide)) (ac (af 0) (ac (af 1) (ac (af 3) (ac (af 4) ah)))))))))))))
abbrev ly:Stmt:=top 1
theorem oK:FnScope ["day","stretch"] ["day","stretch"] (ax ly):=by refine⟨rfl,rfl,rfl, ?_,rfl, ?_, ?_⟩<;>decide +kernel
theorem xj (T:Tx K w.params mg) (F:Def K "lies_in" ly) (KX:K.In h) (G:h.Ns mainGlobals mg)  : Fn P w K mg base 1 "lies_in" iu :=
 F.fn (k:=0) KX G oK (λ_ _ _ _ _ _ us hl=>match us,hl with|[_,_],_=>rfl) λf cdv A outer s H E hr =>
  have hu:=bX hr
  have nd:=oK.nd
  (show JSs _ _ qw from
   (az (aH (k9 (eK tU (aA (af 1) am) (af 0)) (kB (Gu (eK ES (aA (af 1) am) gb) (kB (eK tT (af 0) (aA (af 1) am)))))))))
abbrev ju:Stmt:=top 21
theorem lX:FnScope ["claim","day"] ["claim","day"] (ax ju):=by refine⟨rfl,rfl,rfl, ?_,rfl, ?_, ?_⟩<;>decide +kernel
theorem vH (T:Tx K w.params mg) (F:Def K "is_alive" ju) (KX:K.In h) (G:h.Ns mainGlobals mg) (f_lies_in:Fn P w K mg base 1 "lies_in" iu):Fn P w K mg base 2 "is_alive" bv :=
 F.fn (k:=1) KX G lX (λ_ _ _ _ _ _ us hl=>match us,hl with|[_,_],_=>rfl) λf cdv A outer s H E hr =>
  have hu:=bX hr
  have nd:=lX.nd
  (show JSs _ _ nR from
   (az (aH (ao f_lies_in (hr.mono (by decide)) (ac (af 1) (ac (aU (ac (aA (af 0) am) (ac (aA (af 0) am) ah))) ah))))))
abbrev jv:Stmt:=top 22
theorem lY:FnScope ["claim"] ["claim"] (ax jv):=by refine⟨rfl,rfl,rfl, ?_,rfl, ?_, ?_⟩<;>decide +kernel
theorem vI (T:Tx K w.params mg) (F:Def K "by_since" jv) (KX:K.In h) (G:h.Ns mainGlobals mg)  : Fn P w K mg base 1 "by_since" bK :=
 F.fn (k:=0) KX G lY (λ_ _ _ _ _ _ us hl=>match us,hl with|[_],_=>rfl) λf cdv A outer s H E hr =>
  have hu:=bX hr
  have nd:=lY.nd
  (show JSs _ _ nS from
   (az (aH (aU (ac (aA (af 0) am) (ac (aA (af 0) am) ah))))))
abbrev jw:Stmt:=top 24
theorem lZ:FnScope ["alive","rule"] ["alive","rule"] (ax jw):=by refine⟨rfl,rfl,rfl, ?_,rfl, ?_, ?_⟩<;>decide +kernel
theorem vJ (T:Tx K w.params mg) (F:Def K "chief_of" jw) (KX:K.In h) (G:h.Ns mainGlobals mg) (f_by_since:Fn P w K mg base 1 "by_since" bK):Fn P w K mg base 5 "chief_of" gq :=
 F.fn (k:=4) KX G lZ (λ_ _ _ _ _ _ us hl=>match us,hl with|[_,_],_=>rfl) λf cdv A outer s H E hr =>
  have hu:=bX hr
  have nd:=lZ.nd
  (show JSs _ _ nU from
   (au (bR (aR (dA hu) (af 1) ay) (az (aH (aA (uB mmx T.n_max (af 0) (xU f_by_since (hr.in1.mono (by decide)) rfl) hr) am))) bD)
   (az (aH (aA (uB mmn T.n_min (af 0) (xU f_by_since (hr.in1.mono (by decide)) rfl) hr) am)))))
abbrev hW:Stmt:=top 25
theorem km:FnScope ["claimed","root","day","alive","people","person","oldest"] ["claimed","root","day"] (ax hW):=by refine⟨rfl,rfl,rfl, ?_,rfl, ?_, ?_⟩<;>decide +kernel
theorem sQ (T:Tx K w.params mg) (F:Def K "holder_by" hW) (KX:K.In h) (G:h.Ns mainGlobals mg) (f_part_of:Fn P w K mg base 2 "part_of" av) (f_is_alive:Fn P w K mg base 2 "is_alive" bv) (f_by_since:Fn P w K mg base 1 "by_since" bK) (f_chief_of:Fn P w K mg base 5 "chief_of" gq):Fn P w K mg base 6 "holder_by" ci :=
 F.fn (k:=5) KX G km (λ_ _ _ _ _ _ us hl=>match us,hl with|[_,_,_],_=>rfl) λf cdv A outer s H E hr =>
  have hu:=bX hr
  have nd:=km.nd
  (show JSs _ _ lI from
   (au (j9 (i:=3) rfl nd rfl rfl rfl (nT:=1) (cap:=[2,1]) (N':=["claim","day","root"]) (dm (by decide +kernel) rfl (by decide +kernel) rfl) (.cons rfl rfl (Or.inl rfl) (Or.inl rfl) (bz (by decide +kernel) rfl) (.cons rfl rfl (Or.inl rfl) (Or.inl rfl) (bz (by decide +kernel) rfl) (.nil rfl))) (cG (af 0)) (λ_ _ _ _=>(bg (i:=0) (show List.Nodup (α:=Str) ["claim","day","root"] by decide +kernel) rfl (Or.inl rfl))) (cu (by decide)) (λ_ _ _ _=>(iX (rC (mM (aR (dA hu) (aA (af 0) am) (ao f_part_of (hr.mono (by decide)) (ac (af 2) (ac ay ah)))) (jA (iY (ao f_is_alive (hr.mono (by decide)) (ac (af 0) (ac (af 1) ah))))))))) (λ_ _ _ _=>(af 0)))
   (au (aF (i:=4) nd (nn rfl T.n_sorted T.n_set (eB rfl (nT:=1) (cap:=[]) (N':=["claim"]) (dm (by decide +kernel) rfl (by decide +kernel) rfl) (.nil rfl) (cG (af 3)) (λ_ _ _ _=>(bg (i:=0) (show List.Nodup (α:=Str) ["claim"] by decide +kernel) rfl (Or.inl rfl))) (cu (by decide)) (λ_ _ _ _=>iW) (λ_ _ _ _=>(aA (af 0) am)))))
   (au (bR (aR (dA hu) (bI fK T.n_len fL (ac (af 4) ah)) am) (az (aH (aU (ac ay ah)))) bD)
   (au (bR (rC (mM (aR G0 (bI fK T.n_len fL (ac (af 4) ah)) am) (jA (aR (dA hu) (ao f_part_of (hr.mono (by decide)) (ac (af 1) (ac ay ah))) ay)))) (az (aH (aU (ac ay (ac (af 4) ah))))) bD)
   (au (aF (i:=5) nd (ao f_chief_of (hr.mono (by decide)) (ac (af 3) (ac (ao f_part_of (hr.mono (by decide)) (ac (af 1) (ac ay ah))) ah))))
   (au (aF (i:=6) nd (uB mmn T.n_min (eB rfl (nT:=1) (cap:=[5]) (N':=["claim","person"]) (dm (by decide +kernel) rfl (by decide +kernel) rfl) (.cons rfl rfl (Or.inl rfl) (Or.inl rfl) (bz (by decide +kernel) rfl) (.nil rfl)) (cG (af 3)) (λ_ _ _ _=>(bg (i:=0) (show List.Nodup (α:=Str) ["claim","person"] by decide +kernel) rfl (Or.inl rfl))) (cu (by decide)) (λ_ _ _ _=>(iX (aR (dA hu) (aA (af 0) am) (af 1)))) (λ_ _ _ _=>(af 0))) (xU f_by_since (hr.in1.mono (by decide)) rfl) hr))
   (az (aH (aU (ac ay (ac (af 5) (ac (aA (af 6) am) ah)))))))))))))
abbrev gy:Stmt:=top 26
theorem iS:FnScope ["claimed","root","person","day"] ["claimed","root","person","day"] (ax gy):=by refine⟨rfl,rfl,rfl, ?_,rfl, ?_, ?_⟩<;>decide +kernel
theorem p5 (T:Tx K w.params mg) (F:Def K "is_held_by" gy) (KX:K.In h) (G:h.Ns mainGlobals mg) (f_holder_by:Fn P w K mg base 6 "holder_by" ci):Fn P w K mg base 7 "is_held_by" du :=
 F.fn (k:=6) KX G iS (λ_ _ _ _ _ _ us hl=>match us,hl with|[_,_,_,_],_=>rfl) λf cdv A outer s H E hr =>
  have hu:=bX hr
  have nd:=iS.nd
  (show JSs _ _ jT from
   (az (aH (eK (dA hu) (dP (ao f_holder_by (hr.mono (by decide)) (ac (af 0) (ac (af 1) (ac (af 3) ah)))) gc (eC am)) (aU (ac ay (ac (af 2) ah)))))))
abbrev dG:Stmt:=top 27
theorem fz:FnScope ["book","known","number","row","deaths"] ["book","known","number"] (ax dG):=by refine⟨rfl,rfl,rfl, ?_,rfl, ?_, ?_⟩<;>decide +kernel
theorem ko (T:Tx K w.params mg) (F:Def K "is_first_death" dG) (KX:K.In h) (G:h.Ns mainGlobals mg) (f_part_of:Fn P w K mg base 2 "part_of" av) (f_day_of:Fn P w K mg base 3 "day_of" aO) (f_rank:Fn P w K mg base 4 "rank" de) (f_told_of:Fn P w K mg base 5 "told_of" cR) (l_is_first_death:sd K "is_first_death"):Fn P w K mg base 8 "is_first_death" cS :=
 F.fnL (k:=7) KX G fz (λ_ _ _ _ _ _ us hl=>match us,hl with|[_,_,_],_=>rfl) λf cdv A outer s H E hcd hr =>
  have hu:=bX hr
  have nd:=fz.nd
  (show JSs _ _ fQ from
   (au (aF (i:=3) nd (aA (af 0) (af 2)))
   (au (aF (i:=4) nd (ao f_told_of (hr.mono (by decide)) (ac (af 0) (ac (af 1) (ac (aU (ac ay ah)) (ac (ao f_part_of (hr.mono (by decide)) (ac (af 3) (ac ay ah))) (ac (ao f_day_of (hr.mono (by decide)) (ac (af 3) ah)) ah)))))))
   (az (aH (eK (dA hu) (uB mmn T.n_min (af 4) (wB (cap:=[0]) (N':=["each","book"]) (by decide +kernel) l_is_first_death hcd rfl rfl (AE (by decide +kernel) rfl rfl rfl rfl rfl) rfl (.cons rfl rfl (Or.inl rfl) rfl (bz (by decide +kernel) rfl) (.nil rfl)) rfl hr.in1 (λ_ _ _ _=>rfl) λ_ _ _ _ hr=>have hu:=bX hr;(ao f_rank (hr.mono (by decide)) (ac (af 1) (ac (af 0) ah)))) hr) (af 2)))))))
abbrev oM:Stmt:=top 28
theorem qT:FnScope ["book","known","so_far","number","row","root"] ["book","known","so_far","number"] (ax oM):=by refine⟨rfl,rfl,rfl, ?_,rfl, ?_, ?_⟩<;>decide +kernel
theorem zD (T:Tx K w.params mg) (F:Def K "counts" oM) (KX:K.In h) (G:h.Ns mainGlobals mg) (f_word_of:Fn P w K mg base 1 "word_of" aE) (f_part_of:Fn P w K mg base 2 "part_of" av) (f_day_of:Fn P w K mg base 3 "day_of" aO) (f_roots:Fn P w K mg base 3 "roots" fq) (f_is_sound:Fn P w K mg base 9 "is_sound" gp) (f_is_held_by:Fn P w K mg base 7 "is_held_by" du) (f_is_first_death:Fn P w K mg base 8 "is_first_death" cS):Fn P w K mg base 10 "counts" gS :=
 F.fn (k:=9) KX G qT (λ_ _ _ _ _ _ us hl=>match us,hl with|[_,_,_,_],_=>rfl) λf cdv A outer s H E hr =>
  have hu:=bX hr
  have nd:=qT.nd
  (show JSs _ _ uM from
   (au (aF (i:=4) nd (aA (af 0) (af 3)))
   (au (bR (aR (dA hu) (ao f_word_of (hr.mono (by decide)) (ac (af 4) ah)) ay) (az (aH (ao f_is_first_death (hr.mono (by decide)) (ac (af 0) (ac (af 1) (ac (af 3) ah)))))) bD)
   (au (bR (aR mQ (ao f_word_of (hr.mono (by decide)) (ac (af 4) ah)) (aU (ac ay (ac ay (ac ay ah))))) (az (aH lC)) bD)
   (au (aF (i:=5) nd (uE (hu1 hu) (ao f_roots (hr.mono (by decide)) (ac (af 0) (ac (af 1) ah))) (ao f_part_of (hr.mono (by decide)) (ac (af 4) (ac ay ah))) ⟨rfl,rfl,rfl,rfl⟩))
   (au (bR (aR ES (af 5) gb) (az (aH lC)) bD)
   (au (bR (aR (dA hu) (ao f_word_of (hr.mono (by decide)) (ac (af 4) ah)) ay) (az (aH lC)) bD)
   (az (aH (k9 (ao f_is_sound (hr.mono (by decide)) (ac (af 0) (ac (af 1) (ac (af 3) ah)))) (kB (ao f_is_held_by (hr.mono (by decide)) (ac (af 2) (ac (af 5) (ac (ao f_part_of (hr.mono (by decide)) (ac (af 4) (ac ay ah))) (ac (ao f_day_of (hr.mono (by decide)) (ac (af 4) ah)) ah))))))))))))))))
abbrev hX:Stmt:=top 29
theorem kq:FnScope ["row","since","number"] ["row","since","number"] (ax hX):=by refine⟨rfl,rfl,rfl, ?_,rfl, ?_, ?_⟩<;>decide +kernel
theorem sR (T:Tx K w.params mg) (F:Def K "new_claim" hX) (KX:K.In h) (G:h.Ns mainGlobals mg) (f_part_of:Fn P w K mg base 2 "part_of" av):Fn P w K mg base 3 "new_claim" cJ :=
 F.fn (k:=2) KX G kq (λ_ _ _ _ _ _ us hl=>match us,hl with|[_,_,_],_=>rfl) λf cdv A outer s H E hr =>
  have hu:=bX hr
  have nd:=kq.nd
  (show JSs _ _ lJ from
   (az (aH (aU (ac (ao f_part_of (hr.mono (by decide)) (ac (af 0) (ac ay ah))) (ac (ao f_part_of (hr.mono (by decide)) (ac (af 0) (ac ay ah))) (ac (af 1) (ac gb (ac (af 2) ah)))))))))
abbrev sS:Stmt:=top 30
theorem vK:FnScope ["so_far","offices","person","day","left","claim"] ["so_far","offices","person","day"] (ax sS):=by refine⟨rfl,rfl,rfl, ?_,rfl, ?_, ?_⟩<;>decide +kernel
theorem B4 (T:Tx K w.params mg) (F:Def K "ended" sS) (KX:K.In h) (G:h.Ns mainGlobals mg) (f_is_alive:Fn P w K mg base 2 "is_alive" bv):Fn P w K mg base 3 "ended" iw :=
 F.fn (k:=2) KX G vK (λ_ _ _ _ _ _ us hl=>match us,hl with|[_,_,_,_],_=>rfl) λf cdv A outer s H E hr =>
  have hu:=bX hr
  have nd:=vK.nd
  (show JSs _ _ yi from
   (au (aF (i:=4) nd (bT ah))
   (au (mO PassesOwn.never rfl (cG (af 0)) (bg (i:=5) nd rfl (Or.inl rfl)) dN (az (bR (rC (tF (aR mQ (aA (af 5) am) (af 1)) (tF (aR (ER hu) (aA (af 5) am) (af 2)) (rB (wc (rC (tF (iY (ao f_is_alive (hr.mono (by decide)) (ac (af 5) (ac (af 3) ah)))) (rB (aR G0 (aA (af 5) am) (af 3)))))))))) (az (gG (i:=4) (af 5))) (az (bR (aR tT (aA (af 5) am) (af 3)) (az (gG (i:=4) (aU (ac (aA (af 5) am) (ac (af 2) (ac (aA (af 5) am) (ac (af 3) (ac (aA (af 5) am) ah)))))))) bD)))))
   (az (jB 4)))))
abbrev eV:Stmt:=top 31
theorem g8:FnScope ["so_far","row","number","since","left"] ["so_far","row","number"] (ax eV):=by refine⟨rfl,rfl,rfl, ?_,rfl, ?_, ?_⟩<;>decide +kernel
theorem mq (T:Tx K w.params mg) (F:Def K "after_choice" eV) (KX:K.In h) (G:h.Ns mainGlobals mg) (f_part_of:Fn P w K mg base 2 "part_of" av) (f_new_claim:Fn P w K mg base 3 "new_claim" cJ) (f_ended:Fn P w K mg base 3 "ended" iw):Fn P w K mg base 4 "after_choice" dw :=
 F.fn (k:=3) KX G g8 (λ_ _ _ _ _ _ us hl=>match us,hl with|[_,_,_],_=>rfl) λf cdv A outer s H E hr =>
  have hu:=bX hr
  have nd:=g8.nd
  (show JSs _ _ gT from
   (au (aF (i:=3) nd (ao f_part_of (hr.mono (by decide)) (ac (af 1) (ac ay ah))))
   (au (aF (i:=4) nd (ao f_ended (hr.mono (by decide)) (ac (af 0) (ac (bT (ac (ao f_part_of (hr.mono (by decide)) (ac (af 1) (ac ay ah))) ah)) (ac (ao f_part_of (hr.mono (by decide)) (ac (af 1) (ac ay ah))) (ac (af 3) ah))))))
   (az (aH (aC bc (af 4) (bT (ac (ao f_new_claim (hr.mono (by decide)) (ac (af 1) (ac (af 3) (ac (af 2) ah)))) ah))))))))
abbrev ia:Stmt:=top 32
theorem kx:FnScope ["book","known","so_far","heirs","number","person","day","told","office","heir"] ["book","known","so_far","heirs","number"] (ax ia):=by refine⟨rfl,rfl,rfl, ?_,rfl, ?_, ?_⟩<;>decide +kernel
theorem sT (T:Tx K w.params mg) (F:Def K "inherited" ia) (KX:K.In h) (G:h.Ns mainGlobals mg) (f_part_of:Fn P w K mg base 2 "part_of" av) (f_day_of:Fn P w K mg base 3 "day_of" aO) (f_lives:Fn P w K mg base 6 "lives" gm) (f_is_alive:Fn P w K mg base 2 "is_alive" bv):Fn P w K mg base 7 "inherited" ft :=
 F.fn (k:=6) KX G kx (λ_ _ _ _ _ _ us hl=>match us,hl with|[_,_,_,_,_],_=>rfl) λf cdv A outer s H E hr =>
  have hu:=bX hr
  have nd:=kx.nd
  (show JSs _ _ lK from
   (au (aF (i:=5) nd (ao f_part_of (hr.mono (by decide)) (ac (aA (af 0) (af 4)) (ac ay ah))))
   (au (aF (i:=6) nd (ao f_day_of (hr.mono (by decide)) (ac (aA (af 0) (af 4)) ah)))
   (au (aF (i:=7) nd (bT ah))
   (au (GF [5,6] (mO PassesOwn.never rfl (cG (nn rfl T.n_sorted T.n_set (eB rfl (nT:=1) (cap:=[5,6]) (N':=["claim","person","day"]) (dm (by decide +kernel) rfl (by decide +kernel) rfl) (.cons rfl rfl (Or.inl rfl) (Or.inl rfl) (bz (by decide +kernel) rfl) (.cons rfl rfl (Or.inl rfl) (Or.inl rfl) (bz (by decide +kernel) rfl) (.nil rfl))) (cG (af 2)) (λ_ _ _ _=>(bg (i:=0) (show List.Nodup (α:=Str) ["claim","person","day"] by decide +kernel) rfl (Or.inl rfl))) (cu (by decide)) (λ_ _ _ _=>(iX (rC (mM (aR (dA hu) (aA (af 0) am) (af 1)) (jA (iY (ao f_is_alive (hr.mono (by decide)) (ac (af 0) (ac (af 2) ah))))))))) (λ_ _ _ _=>(aA (af 0) am))))) (bg (i:=8) nd rfl (Or.inl rfl)) dN (au (aF (i:=9) nd (AQ (hu1 hu) (af 3) (ac (af 8) (ac (af 5) ah)) ⟨rfl,rfl,rfl,rfl⟩))
   (az (bR (rC (mM (aR rJ (af 9) gb) (jA (iY (ao f_lives (hr.mono (by decide)) (ac (af 0) (ac (af 1) (ac (af 9) (ac (af 6) ah))))))))) (az (gG (i:=7) (aU (ac (af 8) (ac (af 9) (ac (af 6) (ac gb (ac (af 4) ah)))))))) bD)))))
   (az (jB 7)))))))
abbrev fE:Stmt:=top 33
theorem ib:FnScope ["book","known","so_far","heirs","number","offices","left"] ["book","known","so_far","heirs","number"] (ax fE):=by refine⟨rfl,rfl,rfl, ?_,rfl, ?_, ?_⟩<;>decide +kernel
theorem oP (T:Tx K w.params mg) (F:Def K "after_death" fE) (KX:K.In h) (G:h.Ns mainGlobals mg) (f_part_of:Fn P w K mg base 2 "part_of" av) (f_day_of:Fn P w K mg base 3 "day_of" aO) (f_ended:Fn P w K mg base 3 "ended" iw) (f_inherited:Fn P w K mg base 7 "inherited" ft):Fn P w K mg base 8 "after_death" dJ :=
 F.fn (k:=7) KX G ib (λ_ _ _ _ _ _ us hl=>match us,hl with|[_,_,_,_,_],_=>rfl) λf cdv A outer s H E hr =>
  have hu:=bX hr
  have nd:=ib.nd
  (show JSs _ _ iO from
   (au (j9 (i:=5) rfl nd rfl rfl rfl (nT:=1) (cap:=[]) (N':=["claim"]) (dm (by decide +kernel) rfl (by decide +kernel) rfl) (.nil rfl) (cG (af 2)) (λ_ _ _ _=>(bg (i:=0) (show List.Nodup (α:=Str) ["claim"] by decide +kernel) rfl (Or.inl rfl))) (cu (by decide)) (λ_ _ _ _=>iW) (λ_ _ _ _=>(aA (af 0) am)))
   (au (aF (i:=6) nd (ao f_ended (hr.mono (by decide)) (ac (af 2) (ac (af 5) (ac (ao f_part_of (hr.mono (by decide)) (ac (aA (af 0) (af 4)) (ac ay ah))) (ac (ao f_day_of (hr.mono (by decide)) (ac (aA (af 0) (af 4)) ah)) ah))))))
   (az (aH (aC bc (af 6) (ao f_inherited (hr.mono (by decide)) (ac (af 0) (ac (af 1) (ac (af 2) (ac (af 3) (ac (af 4) ah))))))))))))
abbrev oQ:Stmt:=top 34
theorem qU:FnScope ["book","known","so_far","heirs","number","row"] ["book","known"] (ax oQ):=by refine⟨rfl,rfl,rfl, ?_,rfl, ?_, ?_⟩<;>decide +kernel
theorem zE (T:Tx K w.params mg) (F:Def K "claims" oQ) (KX:K.In h) (G:h.Ns mainGlobals mg) (f_word_of:Fn P w K mg base 1 "word_of" aE) (f_part_of:Fn P w K mg base 2 "part_of" av) (f_day_of:Fn P w K mg base 3 "day_of" aO) (f_in_order:Fn P w K mg base 8 "in_order" dD) (f_by_office:Fn P w K mg base 1 "by_office" dj) (f_counts:Fn P w K mg base 10 "counts" gS) (f_new_claim:Fn P w K mg base 3 "new_claim" cJ) (f_after_choice:Fn P w K mg base 4 "after_choice" dw) (f_after_death:Fn P w K mg base 8 "after_death" dJ):Fn P w K mg base 11 "claims" dz :=
 F.fn (k:=10) KX G qU (λ_ _ _ _ _ _ us hl=>match us,hl with|[_,_],_=>rfl) λf cdv A outer s H E hr =>
  have hu:=bX hr
  have nd:=qU.nd
  (show JSs _ _ uN from
   (au (aF (i:=2) nd (bT ah))
   (au (C7 (i:=3) nd)
   (au (mO PassesOwn.never rfl (cG (ao f_in_order (hr.mono (by decide)) (ac (af 0) (ac (af 1) ah)))) (bg (i:=4) nd rfl (Or.inl rfl)) dN (au (aF (i:=5) nd (aA (af 0) (af 4)))
   (au (bR (wc (iY (ao f_counts (hr.mono (by decide)) (ac (af 0) (ac (af 1) (ac (af 2) (ac (af 4) ah))))))) (az Cs) bD)
   (az (bR (aR (dA hu) (ao f_word_of (hr.mono (by decide)) (ac (af 5) ah)) ay) (az (aF (i:=2) nd (aC bc (af 2) (bT (ac (ao f_new_claim (hr.mono (by decide)) (ac (af 5) (ac (ao f_day_of (hr.mono (by decide)) (ac (af 5) ah)) (ac (af 4) ah)))) ah))))) (az (bR (aR (dA hu) (ao f_word_of (hr.mono (by decide)) (ac (af 5) ah)) ay) (az (aF (i:=2) nd (ao f_after_choice (hr.mono (by decide)) (ac (af 2) (ac (af 5) (ac (af 4) ah)))))) (az (bR (aR (dA hu) (ao f_word_of (hr.mono (by decide)) (ac (af 5) ah)) ay) (az (C9 (i:=3) (hu1 hu) (ao f_part_of (hr.mono (by decide)) (ac (af 5) (ac ay ah))) (ac (ao f_part_of (hr.mono (by decide)) (ac (af 5) (ac ay ah))) (ac (ao f_part_of (hr.mono (by decide)) (ac (af 5) (ac ay ah))) ah)))) (az (aF (i:=2) nd (ao f_after_death (hr.mono (by decide)) (ac (af 0) (ac (af 1) (ac (af 2) (ac (af 3) (ac (af 4) ah)))))))))))))))))
   (az (aH (uA T.n_sorted (af 2) (xU f_by_office (hr.in1.in1.mono (by decide)) rfl))))))))
abbrev oR:Stmt:=top 35
theorem qV:FnScope ["book","known","office","day","root"] ["book","known","office","day"] (ax oR):=by refine⟨rfl,rfl,rfl, ?_,rfl, ?_, ?_⟩<;>decide +kernel
theorem zF (T:Tx K w.params mg) (F:Def K "holder" oR) (KX:K.In h) (G:h.Ns mainGlobals mg) (f_roots:Fn P w K mg base 3 "roots" fq) (f_holder_by:Fn P w K mg base 6 "holder_by" ci) (f_claims:Fn P w K mg base 11 "claims" dz):Fn P w K mg base 12 "holder" cK :=
 F.fn (k:=11) KX G qV (λ_ _ _ _ _ _ us hl=>match us,hl with|[_,_,_,_],_=>rfl) λf cdv A outer s H E hr =>
  have hu:=bX hr
  have nd:=qV.nd
  (show JSs _ _ uO from
   (au (aF (i:=4) nd (uE (hu1 hu) (ao f_roots (hr.mono (by decide)) (ac (af 0) (ac (af 1) ah))) (af 2) ⟨rfl,rfl,rfl,rfl⟩))
   (au (bR (aR ES (af 4) gb) (az (aH (aU (ac ay ah)))) bD)
   (az (aH (ao f_holder_by (hr.mono (by decide)) (ac (ao f_claims (hr.mono (by decide)) (ac (af 0) (ac (af 1) ah))) (ac (af 4) (ac (af 3) ah)))))))))
abbrev ie:Stmt:=top 37
theorem ky:FnScope ["_law_script","_law_k"] ["_law_script","_law_k"] (ax ie):=by refine⟨rfl,rfl,rfl, ?_,rfl, ?_, ?_⟩<;>decide +kernel
theorem sU (T:Tx K w.params mg) (F:Def K "_law_cell_at" ie) (KX:K.In h) (G:h.Ns mainGlobals mg)  : Fn P w K mg base 1 "_law_cell_at" aG :=
 F.fn (k:=0) KX G ky (λ_ _ _ _ _ _ us hl=>match us,hl with|[_,_],_=>rfl) λf cdv A outer s H E hr =>
  have hu:=bX hr
  have nd:=ky.nd
  (show JSs _ _ lL from
   (au (bR (aR tT (af 1) (bI fK T.n_len fL (ac (af 0) ah))) (az (aH (aA (af 0) (af 1)))) bD)
   (az (aH am))))
abbrev lz:Stmt:=top 39
theorem oS:FnScope ["_law_cell","_law_many","_law_size","_law_base","_law_at","_law_names_here","_law_k","_law_letter"] ["_law_cell","_law_many"] (ax lz):=by refine⟨rfl,rfl,rfl, ?_,rfl, ?_, ?_⟩<;>decide +kernel
theorem xl (T:Tx K w.params mg) (F:Def K "_law_names" lz) (KX:K.In h) (G:h.Ns mainGlobals mg)  : Fn P w K mg base 1 "_law_names" i6 :=
 F.fn (k:=0) KX G oS (λ_ _ _ _ _ _ us hl=>match us,hl with|[_,_],_=>rfl) λf cdv A outer s H E hr =>
  have hu:=bX hr
  have nd:=oS.nd
  (show JSs _ _ qx from
   (au (aF (i:=2) nd (aC bc am (aC cw (af 0) am)))
   (au (aF (i:=3) nd (dP ay gc (eC (af 2))))
   (au (aF (i:=4) nd (aC cw (aC cF (af 0) am) (af 2)))
   (au (aF (i:=5) nd (bT ah))
   (au (mt PassesOwn.never rfl (mR T.n_range (af 1)) (bg (i:=6) nd rfl (Or.inl rfl)) dN (au (aF (i:=7) nd (aA ay (aC cw (aC bc (aC cF (af 0) am) (aC rH am (af 6))) am)))
   (az (gG (i:=5) (aC bc (aC bc (dP (af 3) gc (eC (af 4))) (af 7)) (dP (af 3) (eC (aC bc (af 4) am)) gc))))))
   (az (jB 5))))))))
abbrev l5:Stmt:=top 38
theorem oU:FnScope ["_law_script","_law_first","_law_most","_law_cells_here","_law_number"] ["_law_script","_law_first","_law_most"] (ax l5):=by refine⟨rfl,rfl,rfl, ?_,rfl, ?_, ?_⟩<;>decide +kernel
theorem xm (T:Tx K w.params mg) (F:Def K "_law_cells" l5) (KX:K.In h) (G:h.Ns mainGlobals mg) (f_w_cell_at:Fn P w K mg base 1 "_law_cell_at" aG):Fn P w K mg base 2 "_law_cells" fR :=
 F.fn (k:=1) KX G oU (λ_ _ _ _ _ _ us hl=>match us,hl with|[_,_,_],_=>rfl) λf cdv A outer s H E hr =>
  have hu:=bX hr
  have nd:=oU.nd
  (show JSs _ _ qy from
   (au (aF (i:=3) nd (dP (af 0) (eC (af 1)) (eC (aC bc (af 1) (af 2)))))
   (au (aF (i:=4) nd (aC cw (ao f_w_cell_at (hr.mono (by decide)) (ac (af 0) (cy ah))) am))
   (au (Am 1000 PassesOwn.never (rC (mM (aR (dA hu) (aC cw (aC cF (ao f_w_cell_at (hr.mono (by decide)) (ac (af 0) (cy ah))) am) am) am) (jA (aR tT (bI fK T.n_len fL (ac (af 3) ah)) (af 2))))) (au (aF (i:=4) nd (aC cw (aC bc (aC bc (aC rH (af 4) am) (bI fK T.n_len fL (ac (af 3) ah))) am) am))
   (az (gG (i:=3) (af 4)))))
   (az (jB 3))))))
abbrev oW:Stmt:=top 40
theorem qW:FnScope ["_law_cell","_law_day","_law_by","_law_office","_law_person","_law_some"] ["_law_cell","_law_day","_law_by","_law_office","_law_person"] (ax oW):=by refine⟨rfl,rfl,rfl, ?_,rfl, ?_, ?_⟩<;>decide +kernel
theorem zG (T:Tx K w.params mg) (F:Def K "_law_deed" oW) (KX:K.In h) (G:h.Ns mainGlobals mg)  : Fn P w K mg base 1 "_law_deed" gU :=
 F.fn (k:=0) KX G qW (λ_ _ _ _ _ _ us hl=>match us,hl with|[_,_,_,_,_],_=>rfl) λf cdv A outer s H E hr =>
  have hu:=bX hr
  have nd:=qW.nd
  (show JSs _ _ uP from
   (au (aF (i:=5) nd (bT (ac (aU (ac ay (ac (af 1) (ac (af 2) (ac (af 3) (ac (af 4) (ac (aC bc (af 1) (aC cw (aC cF (af 0) am) am)) ah))))))) (ac (aU (ac ay (ac (af 1) (ac (af 2) (ac (af 3) (ac (af 4) ah)))))) ah))))
   (au (aF (i:=5) nd (aC bc (af 5) (bT (ac (aU (ac ay (ac (af 1) (ac (af 2) ah)))) (ac (aU (ac ay (ac (af 1) (ac (af 3) (ac (af 4) ah))))) (ac (aU (ac ay (ac (af 1) (ac (af 2) ah)))) (ac (aU (ac ay (ac (af 1) (ac (af 2) ah)))) ah)))))))
   (au (aF (i:=5) nd (aC bc (af 5) (bT (ac (aU (ac ay (ac (af 1) (ac (af 4) ah)))) (ac (aU (ac ay (ac (af 1) (ac (af 2) (ac (aC cw (af 0) am) ah))))) ah)))))
   (az (aH (aA (hs:=Fp) (af 5) (by refine aA (hs:=?_) ?_ ?_;refine bT ?_;refine cy ?_;refine cy ?_;refine cy ?_;refine cy ?_;refine cy ?_;refine cy ?_;refine cy ?_;refine cy ?_;refine cy ?_;refine cy ?_;refine cy ?_;refine cy ?_;refine cy ?_;refine cy ?_;refine cy ?_;refine ac (aC bc am (aC cw (aC cF (af 0) am) am)) ?_;exact ah;exact(aC cw (af 0) am);intro _ _;rfl))))))))
abbrev oZ:Stmt:=top 41
theorem qX:FnScope ["_law_script","_law_names_here","_law_cell","_law_offices","_law_rows_here","_law_k","_law_had","_law_day","_law_office","_law_person","_law_deed_here"] ["_law_script","_law_names_here"] (ax oZ):=by refine⟨rfl,rfl,rfl, ?_,rfl, ?_, ?_⟩<;>decide +kernel
theorem zH (T:Tx K w.params mg) (F:Def K "_law_rows" oZ) (KX:K.In h) (G:h.Ns mainGlobals mg) (f_w_cell_at:Fn P w K mg base 1 "_law_cell_at" aG) (f_w_cells:Fn P w K mg base 2 "_law_cells" fR) (f_w_deed:Fn P w K mg base 1 "_law_deed" gU):Fn P w K mg base 3 "_law_rows" jU :=
 F.fn (k:=2) KX G qX (λ_ _ _ _ _ _ us hl=>match us,hl with|[_,_],_=>rfl) λf cdv A outer s H E hr =>
  have hu:=bX hr
  have nd:=qX.nd
  (show JSs _ _ uQ from
   (au (aF (i:=2) nd (ao f_w_cell_at (hr.mono (by decide)) (ac (af 0) (cy ah))))
   (au (aF (i:=3) nd (dP (bT (ac ay (ac ay ah))) gc (eC (aC bc am (aC cw (af 2) am)))))
   (au (aF (i:=4) nd (bT ah))
   (au (mt PassesOwn.never rfl (mR T.n_range (bI fK T.n_len fL (ac (af 3) ah))) (bg (i:=5) nd rfl (Or.inl rfl)) dN (az (gG (i:=4) (aU (cy (ac (aU (ac ay (ac (aA (af 3) (af 5)) (cy (cy (ac (aA (bT (ac ay (ac ay (ac ay ah)))) (aC cw (aC cF (af 2) (aC bc am (af 5))) am)) ah)))))) ah))))))
   (au (aF (i:=6) nd (bT (ac (aA (af 1) am) ah)))
   (au (mO PassesOwn.never rfl (xJ T.n_enumerate (ao f_w_cells (hr.mono (by decide)) (ac (af 0) (cy (cy ah))))) (vN rfl (fF (bg (i:=5) nd rfl (Or.inl rfl)) (fF (bg (i:=2) nd rfl (Or.inl rfl)) qZ))) GC (au (aF (i:=7) nd (aC bc (aC cF (af 5) am) (aC cw (aC cF (af 2) am) am)))
   (au (aF (i:=8) nd (aA (aC bc (af 3) (bT (ac ay ah))) (aC cF (aC cw (aC cF (af 2) am) (aC bc (aC rH am (bI fK T.n_len fL (ac (af 3) ah))) am)) am)))
   (au (aF (i:=9) nd (aA (af 1) (aC cw (aC cF (af 2) am) (bI fK T.n_len fL (ac (af 1) ah)))))
   (au (aF (i:=10) nd (ao f_w_deed (hr.mono (by decide)) (ac (af 2) (ac (af 7) (ac (aA (af 6) (aC Gy (Gs G4 am) (aC cw (aC cF (af 2) am) (bI G6 T.n_min G5 (cy (ac (bI fK T.n_len fL (ac (af 6) ah)) ah)))))) (ac (af 8) (ac (af 9) ah)))))))
   (au (bR (rC (tF (aR (dA hu) (af 5) am) (rB (aR (dA hu) (aC cw (aC cF (af 2) am) am) am)))) (az (aF (i:=10) nd (aU (ac ay (ac (af 7) (ac (af 8) (ac (af 9) ah))))))) bD)
   (au (bR (aR DM (aA (af 10) am) (aU (ac ay (ac ay ah)))) (az (gG (i:=6) (af 9))) bD)
   (az (gG (i:=4) (aU (ac (aC bc (af 7) (by refine aA (hs:=?_) ?_ ?_;refine bT ?_;refine cy ?_;refine cy ?_;refine cy ?_;refine cy ?_;refine cy ?_;refine cy ?_;exact ah;exact(aC cw (aC cF (af 2) am) am);intro _ _;rfl)) (ac (af 10) ah))))))))))))
   (az (aH (ij rP T.n_tuple rK (ac (af 4) ah)))))))))))
abbrev l7:Stmt:=top 42
theorem pb:FnScope ["_law_deed_here","_law_called","_law_moved"] ["_law_deed_here","_law_called","_law_moved"] (ax l7):=by refine⟨rfl,rfl,rfl, ?_,rfl, ?_, ?_⟩<;>decide +kernel
theorem xn (T:Tx K w.params mg) (F:Def K "_law_other" l7) (KX:K.In h) (G:h.Ns mainGlobals mg)  : Fn P w K mg base 1 "_law_other" eG :=
 F.fn (k:=0) KX G pb (λ_ _ _ _ _ _ us hl=>match us,hl with|[_,_,_],_=>rfl) λf cdv A outer s H E hr =>
  have hu:=bX hr
  have nd:=pb.nd
  (show JSs _ _ q8 from
   (au (bR (aR (dA hu) (aA (af 0) am) ay) (az (aH (aC AJ (aU (ac ay (ac (eP (hu1 hu) (af 1) (aA (af 0) am) (by intro _ _;rfl)) ah))) (dP (af 0) (eC am) gc)))) bD)
   (au (bR (aR (dA hu) (aA (af 0) am) ay) (az (aH (aU (ac ay (ac (aC bc (aA (af 0) am) (af 2)) (ac (eP (hu1 hu) (af 1) (aA (af 0) am) (by intro _ _;rfl)) (ac (eP (hu1 hu) (af 1) (aA (af 0) am) (by intro _ _;rfl)) (ac (eP (hu1 hu) (af 1) (aA (af 0) am) (by intro _ _;rfl)) (ac (aC bc (aA (af 0) am) (af 2)) ah))))))))) bD)
   (au (bR (aR (dA hu) (aA (af 0) am) ay) (az (aH (aU (ac ay (ac (aC bc (aA (af 0) am) (af 2)) (ac (eP (hu1 hu) (af 1) (aA (af 0) am) (by intro _ _;rfl)) (ac (aA (af 0) am) ah))))))) bD)
   (az (aH (aC AJ (aU (ac (aA (af 0) am) (ac (aC bc (aA (af 0) am) (af 2)) ah))) (ij rP T.n_tuple rK (ac (eB rfl (nT:=1) (cap:=[1]) (N':=["_law_name","_law_called"]) (dm (by decide +kernel) rfl (by decide +kernel) rfl) (.cons rfl rfl (Or.inl rfl) (Or.inl rfl) (bz (by decide +kernel) rfl) (.nil rfl)) (cG (dP (af 0) (eC am) gc)) (λ_ _ _ _=>(bg (i:=0) (show List.Nodup (α:=Str) ["_law_name","_law_called"] by decide +kernel) rfl (Or.inl rfl))) (cu (by decide)) (λ_ _ _ _=>iW) (λ_ _ _ _=>(eP (hu1 hu) (af 1) (af 0) (by intro _ _;rfl)))) ah)))))))))
abbrev l8:Stmt:=top 43
theorem pc:FnScope ["_law_claim_here","_law_called","_law_moved","_law_until"] ["_law_claim_here","_law_called","_law_moved"] (ax l8):=by refine⟨rfl,rfl,rfl, ?_,rfl, ?_, ?_⟩<;>decide +kernel
theorem xo (T:Tx K w.params mg) (F:Def K "_law_claim" l8) (KX:K.In h) (G:h.Ns mainGlobals mg)  : Fn P w K mg base 1 "_law_claim" fS :=
 F.fn (k:=0) KX G pc (λ_ _ _ _ _ _ us hl=>match us,hl with|[_,_,_],_=>rfl) λf cdv A outer s H E hr =>
  have hu:=bX hr
  have nd:=pc.nd
  (show JSs _ _ qA from
   (au (aF (i:=3) nd (aA (af 0) am))
   (au (bR (aR rJ (af 3) gb) (az (aF (i:=3) nd (aC bc (af 3) (af 2)))) bD)
   (az (aH (aU (ac (eP (hu1 hu) (af 1) (aA (af 0) am) (by intro _ _;rfl)) (ac (eP (hu1 hu) (af 1) (aA (af 0) am) (by intro _ _;rfl)) (ac (aC bc (aA (af 0) am) (af 2)) (ac (af 3) (ac (aA (af 0) am) ah)))))))))))
abbrev jx:Stmt:=top 44
theorem ma:FnScope ["_law_found","_law_called"] ["_law_found","_law_called"] (ax jx):=by refine⟨rfl,rfl,rfl, ?_,rfl, ?_, ?_⟩<;>decide +kernel
theorem vL (T:Tx K w.params mg) (F:Def K "_law_holder" jx) (KX:K.In h) (G:h.Ns mainGlobals mg)  : Fn P w K mg base 1 "_law_holder" df :=
 F.fn (k:=0) KX G ma (λ_ _ _ _ _ _ us hl=>match us,hl with|[_,_],_=>rfl) λf cdv A outer s H E hr =>
  have hu:=bX hr
  have nd:=ma.nd
  (show JSs _ _ nY from
   (au (bR (aR (dA hu) (aA (af 0) am) ay) (az (aH (aU (ac ay (ac (eP (hu1 hu) (af 1) (aA (af 0) am) (by intro _ _;rfl)) (ac (aA (af 0) am) ah)))))) bD)
   (au (bR (aR (dA hu) (aA (af 0) am) ay) (az (aH (aU (ac ay (ac (bI AA T.n_sorted uq (ac (eB rfl (nT:=1) (cap:=[1]) (N':=["_law_name","_law_called"]) (dm (by decide +kernel) rfl (by decide +kernel) rfl) (.cons rfl rfl (Or.inl rfl) (Or.inl rfl) (bz (by decide +kernel) rfl) (.nil rfl)) (cG (aA (af 0) am)) (λ_ _ _ _=>(bg (i:=0) (show List.Nodup (α:=Str) ["_law_name","_law_called"] by decide +kernel) rfl (Or.inl rfl))) (cu (by decide)) (λ_ _ _ _=>iW) (λ_ _ _ _=>(eP (hu1 hu) (af 1) (af 0) (by intro _ _;rfl)))) ah)) ah))))) bD)
   (az (jB 0)))))
abbrev vM:Stmt:=top 45
theorem B5:FnScope ["_law_script","_law_names_here","_law_rows_here","_law_moved","_law_called","_law_fresh","_law_k","_law_others","_law_known","_law_due","_law_office","_law_day","_law_found"] ["_law_script"] (ax vM):=by refine⟨rfl,rfl,rfl, ?_,rfl, ?_, ?_⟩<;>decide +kernel
theorem Fq {P:Program}{w:World}{K:PySem.W.Frag}{mg:Str->Option Value}{base:Heap}(T:Tx K w.params mg) (f_claims:Fn P w K mg base 11 "claims" dz) (f_holder:Fn P w K mg base 12 "holder" cK) (f_w_cell_at:Fn P w K mg base 1 "_law_cell_at" aG) (f_w_names:Fn P w K mg base 1 "_law_names" i6) (f_w_rows:Fn P w K mg base 3 "_law_rows" jU) (f_w_other:Fn P w K mg base 1 "_law_other" eG) (f_w_claim:Fn P w K mg base 1 "_law_claim" fS) (f_w_holder:Fn P w K mg base 1 "_law_holder" df) (f:Addr) (cdv:Value) (A:Around) (outer:List PySem.Env) (s:Shared) (H:Hp) (E:XK) (hr:Room 12 (A.deeper (envOfC "law" (ax vM) s.heap.objs.size f cdv))):JSs (mF CX0 P w K mg base ["_law_script","_law_names_here","_law_rows_here","_law_moved","_law_called","_law_fresh","_law_k","_law_others","_law_known","_law_due","_law_office","_law_day","_law_found"] "law" (ax vM) f cdv A outer s H E).nox (c7 vM) AY :=
  have hu:=bX hr
  have nd:=B5.nd
  (show JSs _ _ AY from
   (au (aF (i:=1) nd (ao f_w_names (hr.mono (by decide)) (ac (ao f_w_cell_at (hr.mono (by decide)) (ac (af 0) (cy ah))) (ac (aC bc am (aC cw (ao f_w_cell_at (hr.mono (by decide)) (ac (af 0) (cy ah))) am)) ah))))
   (au (aF (i:=2) nd (ao f_w_rows (hr.mono (by decide)) (ac (af 0) (ac (af 1) ah))))
   (au (aF (i:=3) nd (aC cw (ao f_w_cell_at (hr.mono (by decide)) (ac (af 0) (cy ah))) am))
   (au (CC (i:=4) nd (nD ay (aA (bT (ac ay (ac ay ah))) (aC cw (af 3) am)) (nD ay ay (nD ay ay CB))))
   (au (aF (i:=5) nd (bT (ac ay (ac ay (ac ay (ac ay (ac ay (ac ay ah))))))))
   (au (mt PassesOwn.never rfl (mR T.n_range (bI fK T.n_len fL (ac (af 1) ah))) (bg (i:=6) nd rfl (Or.inl rfl)) dN (az (C8 (i:=4) (hu1 hu) (aA (af 5) (aC cw (aC bc (aC rH (af 6) am) (aC cF (ao f_w_cell_at (hr.mono (by decide)) (ac (af 0) (cy ah))) am)) am)) (aA (af 1) (af 6)))))
   (au (aF (i:=7) nd (ij rP T.n_tuple rK (ac (eB rfl (nT:=2) (cap:=[3,4]) (N':=["_law_heard_on","_law_deed_here","_law_moved","_law_called"]) (dm (by decide +kernel) rfl (by decide +kernel) rfl) (.cons rfl rfl (Or.inl rfl) (Or.inl rfl) (bz (by decide +kernel) rfl) (.cons rfl rfl (Or.inl rfl) (Or.inl rfl) (bz (by decide +kernel) rfl) (.nil rfl))) (cG (af 2)) (λ_ _ _ _=>(vN rfl (fF (bg (i:=0) (show List.Nodup (α:=Str) ["_law_heard_on","_law_deed_here","_law_moved","_law_called"] by decide +kernel) rfl (Or.inl rfl)) (fF (bg (i:=1) (show List.Nodup (α:=Str) ["_law_heard_on","_law_deed_here","_law_moved","_law_called"] by decide +kernel) rfl (Or.inl rfl)) qZ)))) (DO (by decide)) (λ_ _ _ _=>iW) (λ_ _ _ _=>(aU (ac (aC bc (af 0) (af 2)) (ac (ao f_w_other (hr.mono (by decide)) (ac (af 1) (ac (af 3) (ac (af 2) ah)))) ah))))) ah)))
   (au (aF (i:=8) nd (aA (bT (cy (ac (aC cw (aC cF (ao f_w_cell_at (hr.mono (by decide)) (ac (af 0) (cy ah))) am) am) ah))) (aC cw (ao f_w_cell_at (hr.mono (by decide)) (ac (af 0) (cy ah))) am)))
   (au (j9 (i:=9) rfl nd rfl rfl rfl (nT:=1) (cap:=[4,3]) (N':=["_law_claim_here","_law_called","_law_moved"]) (dm (by decide +kernel) rfl (by decide +kernel) rfl) (.cons rfl rfl (Or.inl rfl) (Or.inl rfl) (bz (by decide +kernel) rfl) (.cons rfl rfl (Or.inl rfl) (Or.inl rfl) (bz (by decide +kernel) rfl) (.nil rfl))) (cG (ao f_claims (hr.mono (by decide)) (ac (af 2) (ac (af 8) ah)))) (λ_ _ _ _=>(bg (i:=0) (show List.Nodup (α:=Str) ["_law_claim_here","_law_called","_law_moved"] by decide +kernel) rfl (Or.inl rfl))) (cu (by decide)) (λ_ _ _ _=>iW) (λ_ _ _ _=>(ao f_w_claim (hr.mono (by decide)) (ac (af 0) (ac (af 1) (ac (af 2) ah))))))
   (au (bR (aR (ER hu) (ao f_claims (hr.mono (by decide)) (ac (af 7) (ac (aC bc (af 8) (af 3)) ah))) (af 9)) (az (aH lC)) bD)
   (au (mO PassesOwn.never rfl (cG (bT (ac ay (ac ay (ac ay ah))))) (bg (i:=10) nd rfl (Or.inl rfl)) dN (az (mt PassesOwn.never rfl (zm T.n_range am am (aC bc am (aC cw (aC cF (ao f_w_cell_at (hr.mono (by decide)) (ac (af 0) (cy ah))) am) am))) (bg (i:=11) nd rfl (Or.inl rfl)) dN (au (aF (i:=12) nd (ao f_w_holder (hr.mono (by decide)) (ac (ao f_holder (hr.mono (by decide)) (ac (af 2) (ac (af 8) (ac (af 10) (ac (af 11) ah))))) (ac (af 4) ah))))
   (az (bR (aR (ER hu) (ao f_holder (hr.mono (by decide)) (ac (af 7) (ac (aC bc (af 8) (af 3)) (ac (eP (hu1 hu) (af 4) (af 10) (by intro _ _;rfl)) (ac (aC bc (af 11) (af 3)) ah))))) (af 12)) (az (aH lC)) bD))))))
   (az (aH lC))))))))))))))
end
theorem head {P:Program}{w:World}{K:PySem.W.Frag}{h:Heap}{mg:Str->Option Value}{fa:Addr}(X:K.In h) (G:h.Ns mainGlobals mg) (hfa:mg "law" = some (.ref fa))
  (d_word_of:Def K "word_of" ls) (d_part_of:Def K "part_of" lu) (d_day_of:Def K "day_of" oH) (d_heard:Def K "heard" sK) (d_rank:Def K "rank" xh) (d_in_order:Def K "in_order" jq) (d_by_office:Def K "by_office" hV) (d_roots:Def K "roots" sM) (d_is_known:Def K "is_known" jr) (d_tells:Def K "tells" sO) (d_told_of:Def K "told_of" lw) (d_lives:Def K "lives" sP) (d_has_seal:Def K "has_seal" js) (d_is_sound:Def K "is_sound" jt) (d_lies_in:Def K "lies_in" ly) (d_is_alive:Def K "is_alive" ju) (d_by_since:Def K "by_since" jv) (d_chief_of:Def K "chief_of" jw) (d_holder_by:Def K "holder_by" hW) (d_is_held_by:Def K "is_held_by" gy) (d_is_first_death:Def K "is_first_death" dG) (d_counts:Def K "counts" oM) (d_new_claim:Def K "new_claim" hX) (d_ended:Def K "ended" sS) (d_after_choice:Def K "after_choice" eV) (d_inherited:Def K "inherited" ia) (d_after_death:Def K "after_death" fE) (d_claims:Def K "claims" oQ) (d_holder:Def K "holder" oR) (d_w_cell_at:Def K "_law_cell_at" ie) (d_w_names:Def K "_law_names" lz) (d_w_cells:Def K "_law_cells" l5) (d_w_deed:Def K "_law_deed" oW) (d_w_rows:Def K "_law_rows" oZ) (d_w_other:Def K "_law_other" l7) (d_w_claim:Def K "_law_claim" l8) (d_w_holder:Def K "_law_holder" jx) (d_law:Def K "law" vM)
  (z_dict:PySem.W.nsIn K mainGlobals "dict" = some none) (z_enumerate:PySem.W.nsIn K mainGlobals "enumerate" = some none) (z_len:PySem.W.nsIn K mainGlobals "len" = some none) (z_max:PySem.W.nsIn K mainGlobals "max" = some none) (z_min:PySem.W.nsIn K mainGlobals "min" = some none) (z_range:PySem.W.nsIn K mainGlobals "range" = some none) (z_set:PySem.W.nsIn K mainGlobals "set" = some none) (z_sorted:PySem.W.nsIn K mainGlobals "sorted" = some none) (z_tuple:PySem.W.nsIn K mainGlobals "tuple" = some none)
  (k_PARTS:∃d,PySem.W.nsIn K mainGlobals "PARTS" = some (some (.ref d))/\pP K w.params d fm) (k_SEALINGS:∃u v,PySem.W.nsIn K mainGlobals "SEALINGS" = some (some u)/\aN v u/\∀B,Is K B v dC)
  (l_in_order:sd K "in_order") (l_has_seal:sd K "has_seal") (l_is_first_death:sd K "is_first_death") :
  ∃fd:FuncData,(∀(s:Shared) (u:Value),BindsTo s fd ⟨[u],[]⟩ [("_law_script",u)])/\∀base:Heap,K.In base->base.Ns mainGlobals mg->FnOk P w K mg base CX0 13 fa fd ["_law_script"] (spD K F_law):=by
 have T:Tx K w.params mg:=⟨PySem.W.mg_none_of X G z_dict,PySem.W.mg_none_of X G z_enumerate,PySem.W.mg_none_of X G z_len,PySem.W.mg_none_of X G z_max,PySem.W.mg_none_of X G z_min,PySem.W.mg_none_of X G z_range,PySem.W.mg_none_of X G z_set,PySem.W.mg_none_of X G z_sorted,PySem.W.mg_none_of X G z_tuple,(let ⟨d,e,r⟩:=k_PARTS;⟨d,PySem.W.mg_of X G e,r⟩),(let ⟨u,v,e,r⟩:=k_SEALINGS;⟨u,v,PySem.W.mg_of X G e,r⟩)⟩
 refine Def.law d_law X G hfa B5 (λ_ _ _ _ _ _ u=>rfl) λbase kb nb=>?_
 have f_word_of:=xf (P:=P) (w:=w) (base:=base) T d_word_of X G 
 have f_part_of:=xg (P:=P) (w:=w) (base:=base) T d_part_of X G f_word_of
 have f_day_of:=zC (P:=P) (w:=w) (base:=base) T d_day_of X G f_word_of f_part_of
 have f_heard:=By (P:=P) (w:=w) (base:=base) T d_heard X G 
 have f_rank:=Dr (P:=P) (w:=w) (base:=base) T d_rank X G f_day_of
 have f_in_order:=vA (P:=P) (w:=w) (base:=base) T d_in_order X G f_day_of f_heard f_rank l_in_order
 have f_by_office:=sL (P:=P) (w:=w) (base:=base) T d_by_office X G 
 have f_roots:=Bz (P:=P) (w:=w) (base:=base) T d_roots X G f_word_of f_part_of f_heard
 have f_is_known:=vC (P:=P) (w:=w) (base:=base) T d_is_known X G 
 have f_tells:=B1 (P:=P) (w:=w) (base:=base) T d_tells X G f_word_of f_part_of f_day_of
 have f_told_of:=xi (P:=P) (w:=w) (base:=base) T d_told_of X G f_heard f_tells
 have f_lives:=B3 (P:=P) (w:=w) (base:=base) T d_lives X G f_told_of
 have f_has_seal:=vF (P:=P) (w:=w) (base:=base) T d_has_seal X G f_word_of f_rank f_told_of l_has_seal
 have f_is_sound:=vG (P:=P) (w:=w) (base:=base) T d_is_sound X G f_word_of f_part_of f_day_of f_is_known f_lives f_has_seal
 have f_lies_in:=xj (P:=P) (w:=w) (base:=base) T d_lies_in X G 
 have f_is_alive:=vH (P:=P) (w:=w) (base:=base) T d_is_alive X G f_lies_in
 have f_by_since:=vI (P:=P) (w:=w) (base:=base) T d_by_since X G 
 have f_chief_of:=vJ (P:=P) (w:=w) (base:=base) T d_chief_of X G f_by_since
 have f_holder_by:=sQ (P:=P) (w:=w) (base:=base) T d_holder_by X G f_part_of f_is_alive f_by_since f_chief_of
 have f_is_held_by:=p5 (P:=P) (w:=w) (base:=base) T d_is_held_by X G f_holder_by
 have f_is_first_death:=ko (P:=P) (w:=w) (base:=base) T d_is_first_death X G f_part_of f_day_of f_rank f_told_of l_is_first_death
 have f_counts:=zD (P:=P) (w:=w) (base:=base) T d_counts X G f_word_of f_part_of f_day_of f_roots f_is_sound f_is_held_by f_is_first_death
 have f_new_claim:=sR (P:=P) (w:=w) (base:=base) T d_new_claim X G f_part_of
 have f_ended:=B4 (P:=P) (w:=w) (base:=base) T d_ended X G f_is_alive
 have f_after_choice:=mq (P:=P) (w:=w) (base:=base) T d_after_choice X G f_part_of f_new_claim f_ended
 have f_inherited:=sT (P:=P) (w:=w) (base:=base) T d_inherited X G f_part_of f_day_of f_lives f_is_alive
 have f_after_death:=oP (P:=P) (w:=w) (base:=base) T d_after_death X G f_part_of f_day_of f_ended f_inherited
 have f_claims:=zE (P:=P) (w:=w) (base:=base) T d_claims X G f_word_of f_part_of f_day_of f_in_order f_by_office f_counts f_new_claim f_after_choice f_after_death
 have f_holder:=zF (P:=P) (w:=w) (base:=base) T d_holder X G f_roots f_holder_by f_claims
 have f_w_cell_at:=sU (P:=P) (w:=w) (base:=base) T d_w_cell_at X G 
 have f_w_names:=xl (P:=P) (w:=w) (base:=base) T d_w_names X G 
 have f_w_cells:=xm (P:=P) (w:=w) (base:=base) T d_w_cells X G f_w_cell_at
 have f_w_deed:=zG (P:=P) (w:=w) (base:=base) T d_w_deed X G 
 have f_w_rows:=zH (P:=P) (w:=w) (base:=base) T d_w_rows X G f_w_cell_at f_w_cells f_w_deed
 have f_w_other:=xn (P:=P) (w:=w) (base:=base) T d_w_other X G 
 have f_w_claim:=xo (P:=P) (w:=w) (base:=base) T d_w_claim X G 
 have f_w_holder:=vL (P:=P) (w:=w) (base:=base) T d_w_holder X G 
 exact Fq T f_claims f_holder f_w_cell_at f_w_names f_w_rows f_w_other f_w_claim f_w_holder
end Lw
namespace PySem.W.Fast
def tw5098684172477915180:=()
def tw17526492162575106953:=()
def tw14273500767914985681:=()
def tw259478837065034157:=()
def tw7809154794479418317:=()
def tw5199606990381471764:=()
def tw3915982112923563025:=()
def tw10030101154567606969:=()
def tw13256369415050137013:=()
def tw5569857250078409483:=()
def tw17941966567377209698:=()
def tw13518653003656022799:=()
def tw17557407252264450114:=()
def tw11742860280166079871:=()
def tw5985938727787438049:=()
def tw1397505878536060013:=()
def tw17021554527190258847:=()
def tw15186344802287762095:=()
def tw17987770833683476234:=()
def tw1669939780367249602:=()
def tw15992396183338713450:=()
def tw7093305923985790910:=()
def tw2336622048277137473:=()
def tw16739409154248934583:=()
def tw9888765943320710133:=()
def tw5443909677264987852:=()
def tw17884401829482455193:=()
def tw7117240319664571501:=()
def tw8169174660719759291:=()
def tw17067850785335612832:=()
def tw13614175281577929028:=()
def tw8057666448055091816:=()
def tw17235436881581817138:=()
def tw12077585577000062915:=()
def tw7565736513648102317:=()
def tw13021135762605616337:=()
def tw4755459195611150818:=()
def tw10639124923837606185:=()
def tw3009218234770301616:=()
def tw7385540349049239241:=()
def tw238583871539872884:=()
def tw16821260918796800034:=()
def tw13606942170603815603:=()
def tw12749454915543572329:=()
def tw12183088592295142928:=()
def tw16394681521784718201:=()
def tw15289649877331157293:=()
def tw1123930606642781122:=()
def tw15262823886350472507:=()
def tw15315241792478019536:=()
def tw13271907582904188191:=()
def tw3613555118491541498:=()
def tw390243547804244284:=()
def tw10177290088079923617:=()
def tw9175077208465969627:=()
def tw5382356439655035227:=()
def tw3925044599055501902:=()
def tw1230629739696569352:=()
def tw17905666293784817116:=()
def tw10399965438084832985:=()
def tw1045007848961011987:=()
def tw5168234445235015949:=()
def tw10963748193573062800:=()
def tw9278494675270623329:=()
def tw15546468714185896717:=()
def tw2112780416878465668:=()
def tw1107703547352521958:=()
def tw10566582632983796984:=()
def tw7955713668105915798:=()
def tw2151202903099241652:=()
def tw16232265677452248223:=()
def tw4516068697225217476:=()
def tw3514442882655001516:=()
def tw4668952241848137751:=()
def tw12375402632119428544:=()
def tw7149867017090126960:=()
def tw1247839312687206022:=()
def tw5531902512212478711:=()
def tw10473413887263558431:=()
def tw1371601534024645319:=()
end PySem.W.Fast
open PySem PySem.W PyProof.Rows
set_option maxRecDepth 100000 in
set_option maxHeartbeats 0 in
theorem PySem.Challenge.cw_sealchain_k20_whole_names_and_days_excha_holds : PySem.Challenge.rw_sealchain_k20_whole_names_and_days_excha.Holds := by
 w_on; o_law; k_head; (case hw => w_witness2)
 k_fill
 refine' DL.walkD (l := PySem.Challenge.rw_sealchain_k20_whole_names_and_days_excha) (k := 13) (x := ("_law_script" : PySem.Str)) (f := Lw.F_law) (L := [(("in_order" : PySem.Str), ?t0), (("has_seal" : PySem.Str), ?t1), (("is_first_death" : PySem.Str), ?t2), (("bases_by" : PySem.Str), ?t3)]) rfl rfl ⟨rfl, by decide, by decide⟩ (fun w h Y => PySem.W.km_in_of Y) ?T ?D ?F Lw.law_true
 case T =>
  intro w
  refine' DL.tabs_fit ?h0 ?h1 ?h2 ?h3 ?ap ?nt
  (case h0 => refine' DL.tab_yes ?a ?l ?c ?m ?v; (case a => k_is); (case l => k_is); (case c => exact rfl); (case m => k_is); (case v => exact rfl))
  (case h1 => refine' DL.tab_yes ?a ?l ?c ?m ?v; (case a => k_is); (case l => k_is); (case c => exact rfl); (case m => k_is); (case v => exact rfl))
  (case h2 => refine' DL.tab_yes ?a ?l ?c ?m ?v; (case a => k_is); (case l => k_is); (case c => exact rfl); (case m => k_is); (case v => exact rfl))
  (case h3 => refine' DL.tab_no ?a; (case a => k_is))
  (case ap => decide)
  (case nt => kernel_rfl)
 case D => kernel_rfl
 case F =>
  intro w mg fa h KX G hmg
  refine' Lw.head KX G hmg ?d0 ?d1 ?d2 ?d3 ?d4 ?d5 ?d6 ?d7 ?d8 ?d9 ?d10 ?d11 ?d12 ?d13 ?d14 ?d15 ?d16 ?d17 ?d18 ?d19 ?d20 ?d21 ?d22 ?d23 ?d24 ?d25 ?d26 ?d27 ?d28 ?d29 ?d30 ?d31 ?d32 ?d33 ?d34 ?d35 ?d36 ?d37 ?z0 ?z1 ?z2 ?z3 ?z4 ?z5 ?z6 ?z7 ?z8 ?k0 ?k1 ?q0 ?q1 ?q2
  iterate 38 (refine' DL.def_mk ?a ?l ?c ?k; (case a => k_is); (case l => k_is); (case c => k_is); (case k => k_is))
  (case z0 => k_is)
  (case z1 => k_is)
  (case z2 => k_is)
  (case z3 => k_is)
  (case z4 => k_is)
  (case z5 => k_is)
  (case z6 => k_is)
  (case z7 => k_is)
  (case z8 => k_is)
  (case k0 => refine' DL.const_dict ?e ?l ?r ?s; (case e => k_is); (case l => k_is); (case r => refine' (DL.CRows.tup rfl ?l0 ?f0 (DL.CRows.tup rfl ?l1 ?f1 (DL.CRows.tup rfl ?l2 ?f2 (DL.CRows.tup rfl ?l3 ?f3 (DL.CRows.tup rfl ?l4 ?f4 (DL.CRows.tup rfl ?l5 ?f5 (DL.CRows.tup rfl ?l6 ?f6 (DL.CRows.tup rfl ?l7 ?f7 (DL.CRows.tup rfl ?l8 ?f8 (DL.CRows.tup rfl ?l9 ?f9 (DL.CRows.tup rfl ?l10 ?f10 (DL.CRows.tup rfl ?l11 ?f11 DL.CRows.nil)))))))))))); (case l0 => k_is); (case f0 => decide +kernel); (case l1 => k_is); (case f1 => decide +kernel); (case l2 => k_is); (case f2 => decide +kernel); (case l3 => k_is); (case f3 => decide +kernel); (case l4 => k_is); (case f4 => decide +kernel); (case l5 => k_is); (case f5 => decide +kernel); (case l6 => k_is); (case f6 => decide +kernel); (case l7 => k_is); (case f7 => decide +kernel); (case l8 => k_is); (case f8 => decide +kernel); (case l9 => k_is); (case f9 => decide +kernel); (case l10 => k_is); (case f10 => decide +kernel); (case l11 => k_is); (case f11 => decide +kernel)); (case s => decide +kernel))
  (case k1 => refine' DL.const_tup ?e ?l ?v; (case e => k_is); (case l => k_is); (case v => decide +kernel))
  (case q0 => refine' DL.lam_mk ?a ?l ?c ?m ?v1 ?v2 ?v3 ?v4 ?v5 ?v6 ?v7; (case a => k_is); (case l => k_is); (case c => exact rfl); (case m => k_is); (case v1 => exact rfl); (case v2 => exact rfl); (case v3 => exact rfl); (case v4 => exact rfl); (case v5 => exact rfl); (case v6 => exact rfl); (case v7 => decide))
  (case q1 => refine' DL.lam_mk ?a ?l ?c ?m ?v1 ?v2 ?v3 ?v4 ?v5 ?v6 ?v7; (case a => k_is); (case l => k_is); (case c => exact rfl); (case m => k_is); (case v1 => exact rfl); (case v2 => exact rfl); (case v3 => exact rfl); (case v4 => exact rfl); (case v5 => exact rfl); (case v6 => exact rfl); (case v7 => decide))
  (case q2 => refine' DL.lam_mk ?a ?l ?c ?m ?v1 ?v2 ?v3 ?v4 ?v5 ?v6 ?v7; (case a => k_is); (case l => k_is); (case c => exact rfl); (case m => k_is); (case v1 => exact rfl); (case v2 => exact rfl); (case v3 => exact rfl); (case v4 => exact rfl); (case v5 => exact rfl); (case v6 => exact rfl); (case v7 => decide))

