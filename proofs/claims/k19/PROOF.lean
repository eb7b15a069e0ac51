import PyProof.Rows.All
import Wide.All
import OpenK.AllK
import Wide.FinOn
import Lean
import PyProof.EqAt
import PyProof.EqKinds
import PyProof.TupleCall
import PyProof.AttrMissHeap
import PySem.Challenge.RW_sealchain_k19_whole_chosen_one_behind_an
set_option Elab.async false
set_option linter.all false
set_option maxRecDepth 100000
set_option maxHeartbeats 40000000
theorem mY {α:Type _}{a:α}(l:List α) {k:List α}(h:a∈k):a∈l++k:=List.mem_append_right l h
theorem mZ {α:Type _}(b:α) {a:α}{l:List α}(h:a∈l):a∈b::l:=List.mem_cons_of_mem b h
theorem mX {α:Type _}{a:α}{l:List α}:a∈a::l:=List.mem_cons_self
theorem oX {α β:Type _}{o:Option α}{f:α->Option β}{b:β}(h:o.bind f=some b):∃a,o=some a/\f a=some b:=Option.bind_eq_some_iff.mp h
theorem oY {α β:Type _}{f:α->β}{o:Option α}{b:β}(h:o.map f=some b):∃a,o=some a/\f a=b:=Option.map_eq_some_iff.mp h
def wX:=@PySem.wpAny_bind
def wY:=@PySem.wpAny_pure
namespace L2
open PySem PySem.Spec PyProof.Rows
abbrev Key:=Sum Int Str
def px:Key->Value->Bool
 | .inl k,v=>Value.isInt k v
 | .inr x,v=>Value.isStrOf x v
def FB (w:World):Key->Int
 | .inl k=>hashInt k
 | .inr x=>hashStr w x
theorem cc:∀ {k:Key}{v:Value},px k v=true->(∃i t,k=Sum.inl i/\v=Value.int i t)∨(∃x t,k=Sum.inr x/\v=Value.str x t)
 | .inl i,v,h=>by
  obtain⟨t,e⟩:=Value.isInt_shape (k:=i) (v:=v) h
  exact .inl ⟨i,t,rfl,e⟩
 | .inr x,v,h=>by
  obtain⟨t,e⟩:=Value.isStrOf_shape (x:=x) (v:=v) h
  exact .inr ⟨x,t,rfl,e⟩
theorem xK (i:Int) (t:Tok):px (.inl i) (.int i t)=true:=by simp[px,Value.isInt]
theorem xL (x:Str) (t:Tok):px (.inr x) (.str x t)=true:=by simp[px,Value.isStrOf]
theorem CL (a b:Int):decide ((Sum.inl a:Key)=Sum.inl b)=(a == b):=by
 by_cases e:a=b
 ·subst e;simp
 ·have h:¬(Sum.inl a:Key)=Sum.inl b:=λq=>e (Sum.inl.inj q)
  rw[decide_eq_false h]
  exact(beq_eq_false_iff_ne.mpr e).symm
theorem CM (a b:Str):decide ((Sum.inr a:Key)=Sum.inr b)=decide (a=b):=by
 by_cases e:a=b
 ·subst e;simp
 ·have h:¬(Sum.inr a:Key)=Sum.inr b:=λq=>e (Sum.inr.inj q)
  rw[decide_eq_false h,decide_eq_false e]
theorem CN (a:Int) (b:Str):decide ((Sum.inl a:Key)=Sum.inr b)=false:=decide_eq_false (λq=>nomatch q)
theorem CO (a:Str) (b:Int):decide ((Sum.inr a:Key)=Sum.inl b)=false:=decide_eq_false (λq=>nomatch q)
def c7 (prog:Program) (w:World):PySem.KeyKind prog w Key where
 is:=px
 hash:=FB w
 inj:=λv a b ha hb=>by
  rcases cc ha with ⟨i,t,rfl,rfl⟩|⟨x,t,rfl,rfl⟩
  ·rcases cc hb with ⟨j,u,rfl,e⟩|⟨y,u,rfl,e⟩
   ·injection e with e1 _;rw[e1]
   ·exact nomatch e
  ·rcases cc hb with ⟨j,u,rfl,e⟩|⟨y,u,rfl,e⟩
   ·exact nomatch e
   ·injection e with e1 _;rw[e1]
 byValue:=λk v h=>by
  rcases cc h with ⟨i,t,rfl,rfl⟩|⟨x,t,rfl,rfl⟩<;>rfl
 pyHash:=λhv h=>by
  rcases cc hv with ⟨i,t,rfl,rfl⟩|⟨x,t,rfl,rfl⟩
  ·exact wpAny_pyHash_int h
  ·exact wpAny_pyHash_str h
 eqBool:=λhu hv h=>by
  rcases cc hu with ⟨i,t,rfl,rfl⟩|⟨x,t,rfl,rfl⟩
  ·rcases cc hv with ⟨j,u,rfl,rfl⟩|⟨y,u,rfl,rfl⟩
   ·rw[CL]at h;exact wpAny_eqBool_int h
   ·rw[CN]at h;exact SeqAt.EqAt.int_str i t y u _ _ _ _ h
  ·rcases cc hv with ⟨j,u,rfl,rfl⟩|⟨y,u,rfl,rfl⟩
   ·rw[CO]at h;exact SeqAt.EqAt.str_int x t j u _ _ _ _ h
   ·rw[CM]at h;exact wpAny_eqBool_str h
 «strs»:=λk x t v h=>by
  rcases cc h with ⟨i,u,rfl,e⟩|⟨y,u,rfl,e⟩
  ·exact nomatch e
  ·injection e with e1 _
   subst e1
   cases v<;>rfl
theorem sA (prog:Program) (w:World) (i:Int) (t:Tok):(c7 prog w).is (.inl i) (.int i t)=true:=xK i t
theorem sC (prog:Program) (w:World) (x:Str) (t:Tok):(c7 prog w).is (.inr x) (.str x t)=true:=xL x t
inductive V where
 | non|bl (b:Bool)|int (i:Int)|str (x:Str)|byt (b:Array UInt8)|flt (b:UInt64)|ref (a:Addr)|ty (n:String)
 deriving DecidableEq
def aY:V->Value->Prop
 | .non,u=>u=Value.none
 | .bl b,u=>u=Value.bool b
 | .int i,u=>∃t,u=Value.int i t
 | .str x,u=>∃t,u=Value.str x t
 | .byt b,u=>∃t,u=Value.bytes b t
 | .flt b,u=>∃t,u=Value.float b t
 | .ref a,u=>u=Value.ref a
 | .ty n,u=>u=Value.type n
abbrev bc:List V->List Value->Prop:=Paired aY
theorem bc.length {xs:List V}{us:List Value}(r:bc xs us):xs.length=us.length:=Paired.length r
theorem bc.get:∀ {xs:List V}{us:List Value}{i:Nat}{x:V},bc xs us->xs[i]? = some x->∃u,us[i]? = some u/\aY x u
 | _,_,_,_,.nil,e=>by simp at e
 | _,_,0,_,.cons r _,e=>by simp at e;subst e;exact⟨_,rfl,r⟩
 | _,_,i+1,x,.cons _ t,e=>by
  obtain⟨u,h1,h2⟩:=bc.get (i:=i) (x:=x) t (by simpa using e)
  exact⟨u,by simpa using h1,h2⟩
theorem bc.set {x:V}{u:Value}(r:aY x u):∀ {xs:List V}{us:List Value}(i:Nat),bc xs us->bc (xs.set i x) (us.set i u)
 | _,_,_,.nil=>.nil
 | _,_,0,.cons _ t=>.cons r t
 | _,_,i+1,.cons q t=>.cons q (bc.set r i t)
theorem bc.append:∀ {xs ys:List V}{us ws:List Value},bc xs us->bc ys ws->bc (xs++ys) (us++ws)
 | _,_,_,_,.nil,s=>s
 | _,_,_,_,.cons r t,s=>.cons r (bc.append t s)
theorem bc.take:∀ {xs:List V}{us:List Value}(n:Nat),bc xs us->bc (xs.take n) (us.take n)
 | _,_,0,_=>.nil
 | _,_,_+1,.nil=>.nil
 | _,_,n+1,.cons r t=>.cons r (bc.take n t)
theorem bc.drop:∀ {xs:List V}{us:List Value}(n:Nat),bc xs us->bc (xs.drop n) (us.drop n)
 | _,_,0,r=>r
 | _,_,_+1,.nil=>.nil
 | _,_,n+1,.cons _ t=>bc.drop n t
theorem bc.none_of:∀ {xs:List V}{us:List Value}{i:Nat},bc xs us->xs[i]? = none->us[i]? = none:=λ{xs us i} r e=>by
 have h1:=r.length
 have h2:xs.length<=i:=List.getElem?_eq_none_iff.mp e
 exact List.getElem?_eq_none_iff.mpr (by omega)
def mC:Option V->Option Value->Prop
 | some v,some u=>aY v u
 | none,none=>True
 | _,_=>False
def KV {κ:Type}:List (κ×V)->List (κ×Value)->Prop:=Paired λ(p:κ×V) (q:κ×Value)=>p.1=q.1/\aY p.2 q.2
def kV:Key->V
 | .inl i=>.int i
 | .inr x=>.str x
inductive HO where
  | lst (xs:List V)
  | tup (xs:List V)
  | dK (kvs:List (Key×V))|dT (kvs:List (List Key×V))
  | set (S:Int->Bool) (n:Nat)
  | ins (C dx:Addr) (fs:List (Str×V))
  | own (x:Addr)
  | xd (fs:List (Str×V))
  | met (f x:Addr)
  | rng (lo hi:Int)
  | frz (o:Obj) (u:HO)
  | tbl (q:Str)
  | ext (φ:Heap->Prop)
abbrev Hp:=Addr->Option HO
def upd (H:Hp) (a:Addr) (o:HO):Hp:=λb=>if b=a then some o else H b
theorem aI {H:Hp}{a:Addr}{o:HO}:upd H a o a=some o:=by unfold upd;rw[if_pos rfl]
theorem aG {H:Hp}{a b:Addr}{o:HO}(h:b≠a):upd H a o b=H b:=by unfold upd;rw[if_neg h]
theorem AD {H:Hp}{a:Addr}{o u:HO}:upd (upd H a o) a u=upd H a u:=by
 funext b;unfold upd;split<;>rfl
theorem cV {H:Hp}{a b:Addr}{o u:HO}(h:H a=some o) (h':H b=some u) (d:o≠u):a≠b:=by
 intro e;subst e;rw[h]at h';exact d (Option.some.inj h')
theorem aT {H:Hp}{a b:Addr}{o:HO}(h:H a=some o) (h':H b=none):a≠b:=by
 intro e;subst e;rw[h]at h';cases h'
section
variable (P:Program) (w:World)
def ca (H:Hp) (h:Heap) (a:Addr):HO->Prop
 | .lst xs=>xs.length<=sizeLine/\∃(its:List Value) (n:Nat),bc xs its/\h.get? a=some { cls:=.type "list",data:=.seq its.toArray n }
 | .tup xs=>xs.length<=sizeLine/\∃its:List Value,bc xs its/\IsTup h a its.toArray
 | .dK kvs=>kvs.length<=sizeLine/\(a == sysModules)=false/\∃vs,KV kvs vs/\h.DictOf (c7 P w) a vs
 | .dT kvs=>kvs.length<=sizeLine/\(a == sysModules)=false/\∃xs:List (List Key×Addr×Value),
   Paired (λ(p:List Key×V) (q:List Key×Addr×Value)=>p.1=q.1/\H q.2.1=some (.tup (p.1.map kV))/\aY p.2 q.2.2) kvs xs /\
   ∃o es ep,h.get? a=some o/\o.ExactDict/\o.data=.dict es ep/\es.toList=xs.map (entryOfKey (tupleKind (c7 P w)))/\(xs.map (·.1)).Nodup
 | .set S n=>h.SetOf (intKind P w) a S n
 | .ins C dx fs=>H dx=some (.own a)/\fs.length<=1000/\dx≠a/\h.get? a=some (PySem.W.instObj C dx) /\
   ∃mA,h.Ns1 dx mA/\(∀f,mC (fs.lookup f) (mA f))/\PySem.Within mA (fs.map (·.1))
 | .own _=>∃o,h.get? a=some o
 | .xd fs=>∃mA,h.Ns1 a mA/\∀f,mC (fs.lookup f) (mA f)
 | .rng lo hi=>∃t u v,h.get? a=some { cls:=.type "range",data:=.fields #[.int lo t,.int hi u,.int 1 v] }
 | .frz o u=>h.get? a=some o/\ca H h a u
 | .tbl q=>∃ps:Array Value,h.get? a=some { cls:=.none,data:=.fields ps }/\TriplesOk ps.toList/\∀pos cv,codeAmong pos ps.toList=some cv->∃(c:Addr) (oc:Obj) (u:HO) (vs:Array Value) (t:Tok),cv=.ref c/\H c=some (.frz oc u)/\oc.data=.fields vs/\vs[1]? = some (.str q t)
 | .met f x=>h.get? a=some (PySem.W.methodObj (.ref f) (.ref x))
 | .ext φ=>φ h/\(∃o,h.get? a=some o)/\∀h1 h2:Heap,φ h1->(∀o,h1.get? a=some o->h2.get? a=some o)->φ h2
def HOk (H:Hp) (h:Heap):Prop:=∀a o,H a=some o->ca P w H h a o
end
section
variable {P:Program}{w:World}{H H':Hp}{h h':Heap}{a:Addr}{o:HO}
theorem ca.lt (x:ca P w H h a o):a<h.objs.size:=by
 cases o with
 | lst xs=>obtain⟨_,_,_,_,e⟩:=x;exact Heap.lt_size e
 | tup xs=>obtain⟨_,_,_,p⟩:=x;exact p.lt
 | dK kvs=>obtain⟨_,_,_,_,o,_,_,e,_⟩:=x;exact Heap.lt_size e
 | dT kvs=>obtain⟨_,_,_,_,o,_,_,e,_⟩:=x;exact Heap.lt_size e
 | set S n=>obtain⟨o,_,_,_,e,_⟩:=x;exact Heap.lt_size e
 | ins C dx fs=>obtain⟨_,_,_,e,_⟩:=x;exact Heap.lt_size e
 | own y=>obtain⟨_,e⟩:=x;exact Heap.lt_size e
 | xd fs=>obtain⟨_,⟨_,_,_,e,_⟩,_⟩:=x;exact Heap.lt_size e
 | rng lo hi=>obtain⟨_,_,_,e⟩:=x;exact Heap.lt_size e
 | frz ob u=>obtain⟨e,_⟩:=x;exact Heap.lt_size e
 | tbl q=>obtain⟨_,e,_⟩:=x;exact Heap.lt_size e
 | met f y=>exact Heap.lt_size (show h.get? a=some _ from x)
 | ext φ=>obtain⟨_,⟨_,e⟩,_⟩:=x;exact Heap.lt_size e
theorem Paired.mapP {α β:Type}{F G:α->β->Prop}:∀ {l₁:List α}{l₂:List β},Paired F l₁ l₂->(∀a b,F a b->G a b)->Paired G l₁ l₂
 | _,_,.nil,_=>.nil
 | _,_,.cons r t,f=>.cons (f _ _ r) (Paired.mapP t f)
theorem ca.stay (x:ca P w H h a o) (k:∀b u,(b=a∨H b=some (.own a))->h.get? b=some u->h'.get? b=some u)
  (ho:∀b,H b=some (.own a)->H' b=some (.own a)) (ht:∀b xs,H b=some (.tup xs)->H' b=some (.tup xs)) (hf:∀b o u,H b=some (.frz o u)->H' b=some (.frz o u)):ca P w H' h' a o:=by
 induction o with
 | lst xs=>obtain⟨z,its,n,r,e⟩:=x;exact⟨z,its,n,r,k _ _ (.inl rfl) e⟩
 | tup xs=>obtain⟨z,its,r,ob,e,c⟩:=x;exact⟨z,its,r,ob,k _ _ (.inl rfl) e,c⟩
 | dK kvs=>obtain⟨z,y,vs,r,ob,es,ep,e,c⟩:=x;exact⟨z,y,vs,r,ob,es,ep,k _ _ (.inl rfl) e,c⟩
 | dT kvs =>
  obtain⟨z,y,xs,r,ob,es,ep,e,c⟩:=x
  exact⟨z,y,xs,Paired.mapP r λp q z=>⟨z.1,ht _ _ z.2.1,z.2.2⟩,ob,es,ep,k _ _ (.inl rfl) e,c⟩
 | set S n=>obtain⟨ob,es,ep,t,e,c⟩:=x;exact⟨ob,es,ep,t,k _ _ (.inl rfl) e,c⟩
 | ins C dx fs =>
  obtain⟨d,z,ne,e,mA,⟨od,es,ep,e2,c⟩,r⟩:=x
  exact⟨ho _ d,z,ne,k _ _ (.inl rfl) e,mA,⟨od,es,ep,k _ _ (.inr d) e2,c⟩,r⟩
 | own y=>obtain⟨ob,e⟩:=x;exact⟨ob,k _ _ (.inl rfl) e⟩
 | xd fs=>obtain⟨mA,⟨od,es,ep,e,c⟩,r⟩:=x;exact⟨mA,⟨od,es,ep,k _ _ (.inl rfl) e,c⟩,r⟩
 | rng lo hi=>obtain⟨t,u,v,e⟩:=x;exact⟨t,u,v,k _ _ (.inl rfl) e⟩
 | frz ob u ih=>obtain⟨e,q⟩:=x;exact⟨k _ _ (.inl rfl) e,ih q⟩
 | tbl q=>obtain⟨ps,e,t,c⟩:=x;exact⟨ps,k a _ (.inl rfl) e,t,λpos cv z=>let ⟨d,oc,u,vs,tk,z1,z2,z3⟩:=c pos cv z;⟨d,oc,u,vs,tk,z1,hf _ _ _ z2,z3⟩⟩
 | met f y =>
  have e:h.get? a=some (PySem.W.methodObj (.ref f) (.ref y)):=x
  show h'.get? a=some (PySem.W.methodObj (.ref f) (.ref y))
  exact k a _ (.inl rfl) e
 | ext φ=>obtain⟨p,⟨o,e⟩,st⟩:=x;exact⟨st _ _ p λo q=>k _ _ (.inl rfl) q,⟨o,k _ _ (.inl rfl) e⟩,st⟩
theorem HOk.lt (x:HOk P w H h) (e:H a=some o):a<h.objs.size:=(x a o e).lt
theorem HOk.fresh (x:HOk P w H h) (e:h.objs.size<=a):H a=none:=by
 cases q:H a with
 | none=>rfl
 | some u=>exact absurd (Nat.lt_of_lt_of_le (x.lt q) e) (Nat.lt_irrefl _)
theorem HOk.kept (x:HOk P w H h) (k:∀b u,h.get? b=some u->h'.get? b=some u):HOk P w H h':=λa o e =>
 (x a o e).stay (λb u _ q=>k b u q) (λ_ q=>q) (λ_ _ q=>q) λ_ _ _ q=>q
theorem HOk.laid (x:HOk P w H h) (k:∀b u,h.get? b=some u->h'.get? b=some u) (hp:h.objs.size<=a) (new:ca P w (upd H a o) h' a o):HOk P w (upd H a o) h':=λb u e=>by
 have hn:=x.fresh hp
 by_cases hb:b=a
 ·subst hb;rw[aI]at e;cases e;exact new
 ·rw[aG hb]at e
  exact(x b u e).stay (λc v _ q=>k c v q) (λc q=>by rw[aG (aT q hn)];exact q) (λc xs q=>by rw[aG (aT q hn)];exact q) λc o xs q=>by rw[aG (aT q hn)];exact q
end
def Rd (H:Hp) (a:Addr) (u:HO):Prop:=H a=some u ∨ ∃o,H a=some (.frz o u)
theorem Rd.of {H:Hp}{a:Addr}{u:HO}(h:H a=some u):Rd H a u:=.inl h
theorem Rd.ok {P:Program}{w:World}{H:Hp}{h:Heap}{a:Addr}{u:HO}(r:Rd H a u) (x:HOk P w H h):ca P w H h a u:=by
 rcases r with r|⟨o,r⟩
 ·exact x a u r
 ·obtain⟨_,q⟩:=x a _ r
  exact q
def Mut:Option HO->Prop
 | some (.lst _)=>True
 | some (.dK _)=>True
 | some (.dT _)=>True
 | some (.set _ _)=>True
 | some (.ins _ _ _)=>True
 | some (.ext _)=>True
 | _=>False
section
variable {P:Program}{w:World}{H:Hp}{h h':Heap}{x e:Addr}{o':HO}
theorem HOk.write (ok:HOk P w H h) (mu:Mut (H x)) (he:e=x∨H e=some (.own x)) (k:∀b u,b≠e->h.get? b=some u->h'.get? b=some u) (heo:∃u,h'.get? e=some u)
  (new:ca P w (upd H x o') h' x o'):HOk P w (upd H x o') h':=λb u q=>by
 have nown:∀c y,H c=some (.own y)->c≠x:=λc y r z=>by subst z;rw[r]at mu;exact mu
 have ntup:∀c xs,H c=some (.tup xs)->c≠x:=λc xs r z=>by subst z;rw[r]at mu;exact mu
 by_cases hb:b=x
 ·subst hb;rw[aI]at q;cases q;exact new
 ·rw[aG hb]at q
  by_cases hbe:b=e
  ·have q':H b=some (.own x):=by
    rcases he with z|z
    ·exact absurd (hbe.trans z) hb
    ·rw[hbe];exact z
   rw[q]at q';cases q'
   obtain⟨v,hv⟩:=heo
   exact⟨v,by rw[hbe];exact hv⟩
  ·refine(ok b u q).stay (λc v hc r=>k c v ?_ r) (λc r=>by rw[aG (nown c b r)];exact r) (λc xs r=>by rw[aG (ntup c xs r)];exact r) λc o xs r=>by rw[aG (λz=>by subst z;rw[r]at mu;exact mu)];exact r
   rcases hc with rfl|hc
   ·exact hbe
   ·rintro rfl
    rcases he with z|z
    ·exact nown c b hc z
    ·rw[hc]at z;cases z;exact hb rfl
end
structure Un (fs ex:List Addr) (H H':Hp) (h h':Heap):Prop where
 keep:∀b o,h.get? b=some o->H b=none->b∉fs->b∉ex->h'.get? b=some o
 slot:∀b o,h.get? b=some o->H b=none->b∈fs->b∉ex->∃sl,h'.get? b=some { o with slots:=sl }
 free:∀b o,h.get? b=some o->H b=none->b∉ex->H' b=none
 there:∀b o,h.get? b=some o->b∉ex->∃o',h'.get? b=some o'
 tups:∀b xs,H b=some (.tup xs)->H' b=some (.tup xs)
 frzs:∀b o u,H b=some (.frz o u)->H' b=some (.frz o u)
 tbls:∀b q,H b=some (.tbl q)->H' b=some (.tbl q)
section
variable {fs fs' ex ex':List Addr}{H H1 H2:Hp}{h h1 h2 h':Heap}{a x e:Addr}{o:HO}
theorem Un.any (u:Un fs ex H H1 h h1) {b:Addr}{ob:Obj}(q:h.get? b=some ob) (n:H b=none) (hx:b∉ex):∃sl,h1.get? b=some { ob with slots:=sl }:=by
 by_cases hb:b∈fs
 ·exact u.slot b ob q n hb hx
 ·exact⟨ob.slots,u.keep b ob q n hb hx⟩
theorem Un.trans (a:Un fs ex H H1 h h1) (b:Un fs ex H1 H2 h1 h2):Un fs ex H H2 h h2 where
 keep:=λc ob q n hc hx=>b.keep c ob (a.keep c ob q n hc hx) (a.free c ob q n hx) hc hx
 slot:=λc ob q n hc hx=>by
  obtain⟨sl,e1⟩:=a.slot c ob q n hc hx
  obtain⟨sl',e2⟩:=b.slot c _ e1 (a.free c ob q n hx) hc hx
  exact⟨sl',e2⟩
 free:=λc ob q n hx=>by
  obtain⟨o',e1⟩:=a.there c ob q hx
  exact b.free c o' e1 (a.free c ob q n hx) hx
 there:=λc ob q hx=>by
  obtain⟨o',e1⟩:=a.there c ob q hx
  exact b.there c o' e1 hx
 tups:=λc xs q=>b.tups c xs (a.tups c xs q)
 frzs:=λc ob xs q=>b.frzs c ob xs (a.frzs c ob xs q)
 tbls:=λc ps q=>b.tbls c ps (a.tbls c ps q)
theorem Un.kept (k:∀b u,h.get? b=some u->h'.get? b=some u):Un fs ex H H h h' :=
 ⟨λb ob q _ _ _=>k b ob q,λb ob q _ _ _=>⟨ob.slots,k b ob q⟩,λ_ _ _ n _=>n,λb ob q _=>⟨ob,k b ob q⟩,λ_ _ q=>q,λ_ _ _ q=>q,λ_ _ q=>q⟩
theorem Un.refl:Un fs ex H H h h:=Un.kept λ_ _ q=>q
theorem Un.laid (k:∀b u,h.get? b=some u->h'.get? b=some u) (hp:h.objs.size<=a) (hn:H a=none):Un fs ex H (upd H a o) h h' where
 keep:=λb u q _ _ _=>k b u q
 slot:=λb u q _ _ _=>⟨u.slots,k b u q⟩
 free:=λb u q n _=>by rw[aG (Nat.ne_of_lt (Nat.lt_of_lt_of_le (Heap.lt_size q) hp))];exact n
 there:=λb u q _=>⟨u,k b u q⟩
 tups:=λb xs q=>by rw[aG (aT q hn)];exact q
 frzs:=λb u xs q=>by rw[aG (aT q hn)];exact q
 tbls:=λb ps q=>by rw[aG (aT q hn)];exact q
theorem Un.write (mu:Mut (H x)) (he:e=x∨H e=some (.own x)) (k:∀b u,b≠e->h.get? b=some u->h'.get? b=some u) (heo:∃u,h'.get? e=some u):Un fs ex H (upd H x o) h h':=by
 have hx:∀b,H b=none->b≠x:=λb n z=>by subst z;rw[n]at mu;exact mu
 have hb:∀b,H b=none->b≠e:=λb n z=>by
  subst z
  rcases he with r|r
  ·exact hx b n r
  ·rw[n]at r;cases r
 have hm:∀b u,H b=some u->¬Mut (some u)->b≠x:=λb u q nm z=>by subst z;rw[q]at mu;exact nm mu
 refine⟨λb u q n _ _=>k b u (hb b n) q,λb u q n _ _=>⟨u.slots,k b u (hb b n) q⟩,λb u q n _=>by rw[aG (hx b n)];exact n,λb u q _=>?_,
  λb xs q=>by rw[aG (hm b _ q λz=>z)];exact q,λb u xs q=>by rw[aG (hm b _ q λz=>z)];exact q,λb ps q=>by rw[aG (hm b _ q λz=>z)];exact q⟩
 by_cases hbe:b=e
 ·subst hbe;exact heo
 ·exact⟨u,k b u hbe q⟩
end
def trk (h:Heap) (H:Hp):List Addr:=(List.range h.objs.size).filter λa=>(H a).isSome
def sD (h:Heap) (H:Hp):Heap:=PySem.W.hideAll h (trk h H)
theorem xM (h:Heap) (H:Hp):(sD h H).objs.size=h.objs.size:=PySem.W.hideAll_size _ _
theorem mP {h:Heap}{H:Hp}{b:Addr}{o:Obj}(e:h.get? b=some o) (n:H b=none):(sD h H).get? b=some o :=
 PySem.W.hideAll_get _ e λhm=>by
  have q:(H b).isSome=true:=(List.mem_filter.mp hm).2
  rw[n]at q;simp at q
theorem AE {h:Heap}{H:Hp}{b:Addr}{o:Obj}(e:(sD h H).get? b=some o):h.get? b=some o/\H b=none:=by
 have e':h.get? b=some o:=PySem.W.of_hideAll (trk h H) e
 refine⟨e', ?_⟩
 cases q:H b with
 | none=>rfl
 | some x =>
  have hm:b∈trk h H:=List.mem_filter.mpr ⟨List.mem_range.mpr (Heap.lt_size e'),by simp[q]⟩
  have z:(sD h H).get? b=none:=PySem.W.hideAll_none (trk h H) hm
  rw[z]at e;cases e
def AF (g h:Heap) (L:Addr):List (Addr×Obj):=(List.range h.objs.size).filterMap λa=>if a=L∨(g.get? a).isSome=true then none else (h.get? a).map λo=>(a,o)
def aF (g h:Heap) (L d:Addr):List (Addr×Obj):=(AF g h L).filter λp=>decide (p.1≠d)
structure Mod (K:PySem.W.Frag) (mg:Str->Option Value) (base:Heap):Prop where
 kin:K.In base
 glob:base.Ns mainGlobals mg
 blt:∃mb,base.Ns builtinsNs mb/\∀x:Str,x ≠ "__name__"->mb x=bootBuiltins x
 nolimit:base.NoLimit
 bmain:∃bm ob,mg "__builtins__" = some (.ref bm)/\bm≠builtinsNs/\base.get? bm=some ob/\ob.cls=.type "module"/\ob.dict=some builtinsNs/\ob.data=.plain
structure Cx where
 prog:Program
 w:World
 K:PySem.W.Frag
 mg:Str->Option Value
 base:Heap
 A:Around
 N:List Str
 s₀:Shared
 H₀:Hp
 env:Env
 outer:List Env
 stack:List Env
 ex:List Addr
 fn:Str->Bool
 calm:Bool
 pn:List (Addr×Obj)
 xe:Value->Shared->Prop
def frs (l:List Env):List Addr:=l.filterMap (·.frame)
abbrev Cx.fs (X:Cx):List Addr:=frs X.outer
def Vis (sc:Scope) (x:Str):Prop:=sc.names.lookup x=some .local∨sc.names.lookup x=some .cell∨sc.names.lookup x=some .free
def Loc (sc:Scope) (x:Str):Prop:=sc.names.lookup x=some .local∨sc.names.lookup x=some .cell
def FC (env:Env) (h:Heap) (m:Str->Option Value) (x:Str) (u:Value):Prop :=
 (env.kindOf x=some .local/\m x=some u)∨((env.kindOf x=some .cell∨env.kindOf x=some .free)/\∃c,env.cells.lookup x=some c/\h.IsCell c (some u))
structure Cx.Ok (X:Cx):Prop where
 mod:Mod X.K X.mg X.base
 kind:X.env.scope.kind=.function
 glob:X.env.globals=mainGlobals
 blt:X.env.builtins=builtinsNs
 above:X.s₀.heap.objs.size<=X.env.locals
 inj:∀x y c,X.env.cells.lookup x=some c->X.env.cells.lookup y=some c->x=y
 has:∀x,(X.env.kindOf x=some .cell∨X.env.kindOf x=some .free)->∃c,X.env.cells.lookup x=some c
 cab:∀x c,X.fn x=true->X.env.cells.lookup x=some c->X.s₀.heap.objs.size<=c
 hd:X.calm=true->X.A.handled=none
 frames:X.A.frames=some X.stack
 stk:X.stack=X.outer∨(X.stack=X.env::X.outer/\X.env.frame=some X.env.locals)
 exf:∀b∈X.ex,b≠X.env.locals/\∀x c,X.env.cells.lookup x=some c->c≠b
 bs:∀b o,X.base.get? b=some o->X.s₀.heap.get? b=some o/\X.H₀ b=none
 bsz:X.base.objs.size<=X.s₀.heap.objs.size
 noex:∀b o,X.base.get? b=some o->b∉X.ex
 exfs:∀b∈X.ex,b∉X.fs
 funs:X.s₀.heap.FunFrames X.base X.outer
 frf:∀b∈X.fs,X.H₀ b=none
structure Inv (X:Cx) (pins:List (Addr×Obj)) (σ:List (Option V)) (H:Hp) (s:Shared):Prop where
 ok:X.Ok
 os:s.os=X.s₀.os
 bare:AllBare s.gens
 base:Un X.fs X.ex X.H₀ H X.s₀.heap s.heap
 loc:∃m,s.heap.Ns X.env.locals m/\∀(i:Nat) (x:Str) (v:V),X.N[i]? = some x->σ[i]? = some (some v)->Vis X.env.scope x->∃u,aY v u/\FC X.env s.heap m x u
 cell:∀x c,X.env.cells.lookup x=some c->∃v,s.heap.IsCell c v
 free:H X.env.locals=none
 freeC:∀x c,X.env.cells.lookup x=some c->H c=none
 pin:∀p∈X.pn++pins,s.heap.get? p.1=some p.2/\H p.1=none/\p.1≠X.env.locals/\p.1∉X.fs/\∀v,p.2.data≠.cell v
 hok:HOk X.prog X.w H s.heap
 len:σ.length=X.N.length
section
variable {X:Cx}{pins:List (Addr×Obj)}{σ:List (Option V)}{H H':Hp}{s:Shared}{h':Heap}
theorem Cx.Ok.nofr (ok:X.Ok) {b:Addr}{o:Obj}(e:X.base.get? b=some o):b∉X.fs:=λhb=>by
 have:=(ok.funs.mem hb).1
 rw[e]at this;cases this
theorem Inv.bs (I:Inv X pins σ H s):∀b o,X.base.get? b=some o->s.heap.get? b=some o/\H b=none:=λb o e =>
 ⟨I.base.keep b o (I.ok.bs b o e).1 (I.ok.bs b o e).2 (I.ok.nofr e) (I.ok.noex b o e),I.base.free b o (I.ok.bs b o e).1 (I.ok.bs b o e).2 (I.ok.noex b o e)⟩
theorem Inv.bk (I:Inv X pins σ H s):∀b o,X.base.get? b=some o->s.heap.get? b=some o:=λb o e=>(I.bs b o e).1
theorem Inv.mod (I:Inv X pins σ H s):Mod X.K X.mg X.base:=I.ok.mod
theorem Inv.kIn (I:Inv X pins σ H s):X.K.In s.heap:=I.ok.mod.kin.keeps I.bk
theorem Inv.nolimit (I:Inv X pins σ H s):s.heap.NoLimit:=I.ok.mod.nolimit.keeps I.bk
theorem Inv.lt (I:Inv X pins σ H s):X.env.locals<s.heap.objs.size:=let ⟨_,hn,_⟩:=I.loc;hn.lt
theorem Inv.sz (I:Inv X pins σ H s):X.s₀.heap.objs.size<=s.heap.objs.size:=Nat.le_trans I.ok.above (Nat.le_of_lt I.lt)
theorem Inv.nofs (I:Inv X pins σ H s) {a:Addr}(h:s.heap.objs.size<=a):a∉X.fs:=λhb=>by
 obtain⟨_,o,ho,_⟩:=I.ok.funs.mem hb
 exact absurd (Nat.lt_of_lt_of_le (Heap.lt_size ho) (Nat.le_trans I.sz h)) (Nat.lt_irrefl _)
theorem Inv.cne (I:Inv X pins σ H s):∀x c,X.env.cells.lookup x=some c->c≠X.env.locals:=λx c e z=>by
 obtain⟨v,o,ho,hd⟩:=I.cell x c e
 obtain⟨m,⟨o',es,ep,ho',hd',_⟩,_⟩:=I.loc
 rw[z,ho']at ho;cases ho;rw[hd']at hd;cases hd
theorem Inv.funs (I:Inv X pins σ H s):s.heap.FunFrames X.base X.outer:=by
 have all:∀(l:List Env),(∀b∈frs l,b∈X.fs)->X.s₀.heap.FunFrames X.base l->s.heap.FunFrames X.base l:=by
  intro l
  induction l with
  | nil=>intro _ _;trivial
  | cons env r ih =>
   intro hs hl
   obtain⟨hk,⟨L,o,hf,hn,ho,hd⟩,hr⟩:=hl
   have hL:L∈X.fs:=hs L (by unfold frs;rw[List.filterMap_cons,hf];exact mX)
   obtain⟨sl,e⟩:=I.base.slot L o ho (I.ok.frf L hL) hL λz=>I.ok.exfs L z hL
   exact⟨hk,⟨L,_,hf,hn,e,hd⟩,ih (λb hb=>hs b (by unfold frs;rw[List.filterMap_cons,hf];exact mZ _ hb)) hr⟩
 exact all X.outer (λ_ hb=>hb) I.ok.funs
theorem Inv.stack (I:Inv X pins σ H s):s.heap.FunFrames X.base X.stack:=by
 rcases I.ok.stk with e|⟨e,hf⟩
 ·rw[e];exact I.funs
 ·rw[e]
  obtain⟨m,hn,_⟩:=I.loc
  refine .cons (by rw[I.ok.kind];decide) hf hn ?_ I.funs
  exact Heap.get?_none_of_le (Nat.le_trans I.ok.bsz I.ok.above)
theorem Inv.stkSub (I:Inv X pins σ H s):∀b∈frs X.stack,b∈X.env.locals::X.fs:=λb hb=>by
 rcases I.ok.stk with e|⟨e,hf⟩
 ·rw[e]at hb;exact mZ _ hb
 ·rw[e]at hb
  unfold frs at hb
  rw[List.filterMap_cons,hf]at hb
  exact hb
theorem Inv.stkFree (I:Inv X pins σ H s):∀b∈frs X.stack,H b=none:=λb hb=>by
 rcases List.mem_cons.mp (I.stkSub b hb)with e|hb
 ·rw[e];exact I.free
 ·obtain⟨_,o,ho,_⟩:=I.ok.funs.mem hb
  exact I.base.free b o ho (I.ok.frf b hb) λz=>I.ok.exfs b z hb
theorem Inv.step {g':Array GenState}{t':Nat}{d':Drawn}{ch:List Addr}(I:Inv X pins σ H s)
  (hch:∀b∈ch,(b∈X.ex∨X.s₀.heap.objs.size<=b)/\b≠X.env.locals/\(∀x c,X.env.cells.lookup x=some c->c≠b)/\∀p∈X.pn++pins,p.1≠b)
  (keep:∀b o,b≠X.env.locals->b∉X.fs->b∉ch->s.heap.get? b=some o->H b=none->h'.get? b=some o)
  (slot:∀b o,b≠X.env.locals->b∈X.fs->b∉ch->s.heap.get? b=some o->H b=none->∃sl,h'.get? b=some { o with slots:=sl }) (free:∀b o,b∉ch->s.heap.get? b=some o->H b=none->H' b=none)
  (there:∀b o,b∉ch->s.heap.get? b=some o->∃o',h'.get? b=some o')
  (tups:∀b xs,H b=some (.tup xs)->H' b=some (.tup xs)) (frzs:∀b o u,H b=some (.frz o u)->H' b=some (.frz o u)) (tbls:∀b q,H b=some (.tbl q)->H' b=some (.tbl q))
  (ns:∀m,s.heap.Ns X.env.locals m->h'.Ns X.env.locals m) (hok:HOk X.prog X.w H' h') (hg:AllBare g') :
  Inv X pins σ H' { s with heap:=h',gens:=g',drawn:=d',toks:=t' }:=by
 have neL:∀b o,X.s₀.heap.get? b=some o->b≠X.env.locals:=λb o e=>Nat.ne_of_lt (Nat.lt_of_lt_of_le (Heap.lt_size e) I.ok.above)
 have neC:∀b o,X.s₀.heap.get? b=some o->b∉X.ex->b∉ch:=λb o e hx hb=>by
  rcases (hch b hb).1 with z|z
  ·exact hx z
  ·exact absurd (Nat.lt_of_lt_of_le (Heap.lt_size e) z) (Nat.lt_irrefl _)
 have cellK:∀x c,X.env.cells.lookup x=some c->∀v,s.heap.IsCell c v->h'.IsCell c v:=λx c e v ⟨o,ho,hd⟩=>by
  have nch:c∉ch:=λz=>(hch c z).2.2.1 x c e rfl
  by_cases hc:c∈X.fs
  ·obtain⟨sl,q⟩:=slot c o (I.cne x c e) hc nch ho (I.freeC x c e)
   exact⟨_,q,hd⟩
  ·exact⟨o,keep c o (I.cne x c e) hc nch ho (I.freeC x c e),hd⟩
 refine⟨I.ok,I.os,hg,⟨λb o e n hb hx=>?_,λb o e n hb hx=>?_,λb o e n hx=>?_,λb o e hx=>?_,λb xs e=>tups b xs (I.base.tups b xs e),λb o xs e=>frzs b o xs (I.base.frzs b o xs e),λb ps e=>?_⟩, ?_,λx c e=>?_, ?_,λx c e=>?_,λp hp=>?_,hok,I.len⟩
 ·exact keep b o (neL b o e) hb (neC b o e hx) (I.base.keep b o e n hb hx) (I.base.free b o e n hx)
 ·obtain⟨sl,e1⟩:=I.base.slot b o e n hb hx
  obtain⟨sl',e2⟩:=slot b _ (neL b o e) hb (neC b o e hx) e1 (I.base.free b o e n hx)
  exact⟨sl',e2⟩
 ·obtain⟨o',e1⟩:=I.base.there b o e hx
  exact free b o' (neC b o e hx) e1 (I.base.free b o e n hx)
 ·obtain⟨o',e1⟩:=I.base.there b o e hx
  exact there b o' (neC b o e hx) e1
 ·exact tbls b _ (I.base.tbls b ps e)
 ·obtain⟨m,hn,hl⟩:=I.loc
  refine⟨m,ns m hn,λi x v e1 e2 e3=>?_⟩
  obtain⟨u,r,l⟩:=hl i x v e1 e2 e3
  refine⟨u,r, ?_⟩
  rcases l with l|⟨k,c,e,z⟩
  ·exact .inl l
  ·exact .inr ⟨k,c,e,cellK x c e _ z⟩
 ·obtain⟨v,z⟩:=I.cell x c e
  exact⟨v,cellK x c e v z⟩
 ·obtain⟨m,⟨o,_,_,ho,_⟩,_⟩:=I.loc
  exact free _ o (λz=>(hch _ z).2.1 rfl) ho I.free
 ·obtain⟨v,o,ho,hd⟩:=I.cell x c e
  exact free c o (λz=>(hch c z).2.2.1 x c e rfl) ho (I.freeC x c e)
 ·obtain⟨e,n,ne,nf,d⟩:=I.pin p hp
  have nch:p.1∉ch:=λz=>(hch p.1 z).2.2.2 p hp rfl
  exact⟨keep p.1 p.2 ne nf nch e n,free p.1 p.2 nch e n,ne,nf,d⟩
theorem Inv.un {t':Nat}(I:Inv X pins σ H s) (u:Un X.fs [] H H' s.heap h') (hok:HOk X.prog X.w H' h'):Inv X pins σ H' { s with heap:=h',toks:=t' }:=by
 obtain⟨m,⟨o,es,ep,ho,r⟩,_⟩:=id I.loc
 obtain⟨sl,hL⟩:=u.any ho I.free (by simp)
 exact I.step (g':=s.gens) (d':=s.drawn) (ch:=[]) (λ_ z=>nomatch z) (λb o _ hb _ e n=>u.keep b o e n hb (by simp)) (λb o _ hb _ e n=>u.slot b o e n hb (by simp)) (λb o _ e n=>u.free b o e n (by simp)) (λb o _ e=>u.there b o e (by simp)) u.tups u.frzs u.tbls (λm' hm=>by
  obtain⟨o',es',ep',ho',r'⟩:=hm
  rw[ho]at ho';cases ho'
  exact⟨_,es',ep',hL,r'⟩) hok I.bare
theorem Inv.call {g':Array GenState}{t':Nat}{d':Drawn}{ch:List Addr}(I:Inv X pins σ H s) (u:Un (frs X.stack) ch H H' s.heap h') (hok:HOk X.prog X.w H' h') (hg:AllBare g')
  (hch:∀b∈ch,(b∈X.ex∨X.s₀.heap.objs.size<=b)/\b≠X.env.locals/\(∀x c,X.env.cells.lookup x=some c->c≠b)/\∀p∈X.pn++pins,p.1≠b) :
  Inv X pins σ H' { s with heap:=h',gens:=g',drawn:=d',toks:=t' }:=by
 obtain⟨m,⟨o,es,ep,ho,r⟩,_⟩:=id I.loc
 obtain⟨sl,hL⟩:=u.any ho I.free λz=>(hch _ z).2.1 rfl
 exact I.step (ch:=ch) hch (λb o hL hb hc e n=>u.keep b o e n (λz=>(List.mem_cons.mp (I.stkSub b z)).elim hL hb) hc) (λb o _ _ hc e n=>u.any e n hc) (λb o hc e n=>u.free b o e n hc) (λb o hc e=>u.there b o e hc) u.tups u.frzs u.tbls (λm' hm=>by
  obtain⟨o',es',ep',ho',r'⟩:=hm
  rw[ho]at ho';cases ho'
  exact⟨_,es',ep',hL,r'⟩) hok hg
theorem Inv.turned {t':Nat}{it:Addr}(I:Inv X pins σ H s) (k:∀b o,b≠it->s.heap.get? b=some o->h'.get? b=some o) (hn:H it=none) (hL:it≠X.env.locals)
  (h1:it∈X.ex∨X.s₀.heap.objs.size<=it) (h2:∀x c,X.env.cells.lookup x=some c->c≠it) (h3:∀p∈X.pn++pins,p.1≠it):Inv X pins σ H { s with heap:=h',toks:=t' }:=by
 have nit:∀b u,H b=some u->b≠it:=λb u e z=>by rw[z,hn]at e;cases e
 refine I.step (g':=s.gens) (d':=s.drawn) (ch:=[it]) (λb hb=>?_) (λb o _ _ hc e _=>k b o (λz=>hc (by simp[z])) e) (λb o _ _ hc e _=>⟨o.slots,k b o (λz=>hc (by simp[z])) e⟩) (λ_ _ _ _ n=>n)
  (λb o hc e=>⟨o,k b o (λz=>hc (by simp[z])) e⟩) (λ_ _ e=>e) (λ_ _ _ e=>e) (λ_ _ e=>e) (λm hm=>?_) (λb u e=>?_) I.bare
 ·have e:b=it:=by simpa using hb
  subst e
  exact⟨h1,hL,h2,h3⟩
 ·obtain⟨o,es,ep,ho,r⟩:=hm
  exact⟨o,es,ep,k _ o (Ne.symm hL) ho,r⟩
 ·refine(I.hok b u e).stay (λc v hc q=>k c v ?_ q) (λ_ q=>q) (λ_ _ q=>q) λ_ _ _ q=>q
  rcases hc with z|z
  ·rw[z];exact nit b u e
  ·exact nit c _ z
theorem Inv.tok (I:Inv X pins σ H s) (t:Nat):Inv X pins σ H { s with toks:=t }:=I.un (h':=s.heap) (t':=t) Un.refl I.hok
theorem Inv.kept {t':Nat}(I:Inv X pins σ H s) (k:∀b u,s.heap.get? b=some u->h'.get? b=some u):Inv X pins σ H { s with heap:=h',toks:=t' }:=I.un (Un.kept k) (I.hok.kept k)
theorem Inv.laid {a:Addr}{o:HO}{t':Nat}(I:Inv X pins σ H s) (k:∀b u,s.heap.get? b=some u->h'.get? b=some u) (hp:s.heap.objs.size<=a) (new:ca X.prog X.w (upd H a o) h' a o) :
  Inv X pins σ (upd H a o) { s with heap:=h',toks:=t' }:=I.un (Un.laid k hp (I.hok.fresh hp)) (I.hok.laid k hp new)
theorem Inv.write {x e:Addr}{o:HO}{t':Nat}(I:Inv X pins σ H s) (mu:Mut (H x)) (he:e=x∨H e=some (.own x)) (k:∀b u,b≠e->s.heap.get? b=some u->h'.get? b=some u) (heo:∃u,h'.get? e=some u)
  (new:ca X.prog X.w (upd H x o) h' x o):Inv X pins σ (upd H x o) { s with heap:=h',toks:=t' }:=I.un (Un.write mu he k heo) (I.hok.write mu he k heo new)
theorem Inv.pins_of {pins':List (Addr×Obj)}(I:Inv X pins σ H s) (h:∀p∈pins',s.heap.get? p.1=some p.2/\H p.1=none/\p.1≠X.env.locals/\p.1∉X.fs/\∀v,p.2.data≠.cell v):Inv X pins' σ H s :=
 ⟨I.ok,I.os,I.bare,I.base,I.loc,I.cell,I.free,I.freeC,λp hp=>(List.mem_append.mp hp).elim (λz=>I.pin p (List.mem_append_left _ z)) (h p),I.hok,I.len⟩
theorem sE {N:List Str}(hN:N.Nodup) {i j:Nat}{x:Str}(a:N[i]? = some x) (b:N[j]? = some x):i=j:=by
 obtain⟨h1,e1⟩:=List.getElem?_eq_some_iff.mp a
 obtain⟨h2,e2⟩:=List.getElem?_eq_some_iff.mp b
 exact(List.getElem_inj hN).mp (e1.trans e2.symm)
theorem pz {M:Model}{A:Around}{E:Value->Shared->Prop}{i:Nat}{x:Str}{v:V}{u:Value}{Q:Unit->Shared->Prop}(I:Inv X pins σ H s) (hN:X.N.Nodup) (hi:X.N[i]? = some x) (hx:Loc X.env.scope x) (r:aY v u)
  (h:∀s',Inv X pins (σ.set i (some v)) H s'->(∃a,Heap.SameBut a s.heap s'.heap/\(a=X.env.locals∨X.env.cells.lookup x=some a))->Q () s') (hf:X.fn x=true∨X.env.scope.names.lookup x=some .local:=by first|exact .inl rfl|exact .inr rfl|assumption):wpAny M A (storeName X.env x u) Q E s:=by
 obtain⟨m,hn,hl⟩:=id I.loc
 have hcls:(X.env.scope.kind == .class || (X.env.scope.kind == .module && X.env.locals != X.env.globals))=false:=by rw[I.ok.kind];rfl
 have hiσ:i<σ.length:=by rw[I.len];exact(List.getElem?_eq_some_iff.mp hi).1
 have cne:=I.cne
 have tracked:∀ {a:Addr}{h':Heap},(∃o,s.heap.get? a=some o/\H a=none)->Heap.SameBut a s.heap h'->HOk X.prog X.w H h':=λ{a h'} ha hs b ob e=>by
  obtain⟨_,_,hfree⟩:=ha
  refine(I.hok b ob e).stay (λc w' hc q=>(hs.2 c ?_).trans q) (λ_ q=>q) (λ_ _ q=>q) λ_ _ _ q=>q
  rintro rfl
  rcases hc with rfl|hc
  ·rw[hfree]at e;cases e
  ·rw[hfree]at hc;cases hc
 rcases hx with hk|hk
 ·refine wpAny_storeName_local hk hn (λh' hn' hs=>?_) hcls
  obtain⟨oL,_,_,hoL,_⟩:=id hn
  refine h _ ⟨I.ok,I.os,I.bare,⟨λb o e n hb hx=>?_,λb o e n hb hx=>?_,I.base.free,λb o e hx=>?_,I.base.tups,I.base.frzs,I.base.tbls⟩,⟨_,hn',λj y v' e1 e2 e3=>?_⟩,λy c e=>?_,I.free,I.freeC,λp hp=>?_,tracked ⟨oL,hoL,I.free⟩ hs,by simpa using I.len⟩ ⟨_,hs,.inl rfl⟩
  ·exact(hs.2 b (Nat.ne_of_lt (Nat.lt_of_lt_of_le (Heap.lt_size e) I.ok.above))).trans (I.base.keep b o e n hb hx)
  ·obtain⟨sl,e1⟩:=I.base.slot b o e n hb hx
   exact⟨sl,(hs.2 b (Nat.ne_of_lt (Nat.lt_of_lt_of_le (Heap.lt_size e) I.ok.above))).trans e1⟩
  ·obtain⟨o',e1⟩:=I.base.there b o e hx
   exact⟨o',(hs.2 b (Nat.ne_of_lt (Nat.lt_of_lt_of_le (Heap.lt_size e) I.ok.above))).trans e1⟩
  ·by_cases hj:j=i
   ·subst hj
    rw[hi]at e1;cases e1
    rw[List.getElem?_set_self hiσ]at e2
    cases e2
    exact⟨u,r,.inl ⟨hk,by simp⟩⟩
   ·rw[List.getElem?_set_ne (Ne.symm hj)]at e2
    obtain⟨u',r',q⟩:=hl j y v' e1 e2 e3
    refine⟨u',r', ?_⟩
    rcases q with ⟨k,e⟩|⟨k,c,e,z⟩
    ·refine .inl ⟨k, ?_⟩
     have:y≠x:=λe=>hj (sE hN e1 (e ▸ hi))
     simp[this,e]
    ·exact .inr ⟨k,c,e,z.sameBut hs (cne y c e)⟩
  ·obtain⟨w',z⟩:=I.cell y c e
   exact⟨w',z.sameBut hs (cne y c e)⟩
  ·obtain⟨e,n,ne,nf,d⟩:=I.pin p hp
   exact⟨(hs.2 p.1 ne).trans e,n,ne,nf,d⟩
 ·have hfn:X.fn x=true:=by
   rcases hf with z|z
   ·exact z
   ·rw[z]at hk;cases hk
  obtain⟨c,hc⟩:=I.ok.has x (.inl hk)
  obtain⟨w',z⟩:=I.cell x c hc
  refine wpAny_storeName_cell I.ok.kind hk hc z (λh' hc' hs=>?_)
  obtain⟨oc,hoc,hocd⟩:=id z
  refine h { s with heap:=h' } ⟨I.ok,I.os,I.bare,⟨λb o e n hb hx=>?_,λb o e n hb hx=>?_,I.base.free,λb o e hx=>?_,I.base.tups,I.base.frzs,I.base.tbls⟩,⟨m,hn.sameBut hs (Ne.symm (cne x c hc)),λj y v' e1 e2 e3=>?_⟩,λy c' e=>?_,I.free,I.freeC,λp hp=>?_,tracked ⟨oc,hoc,I.freeC x c hc⟩ hs,by simpa using I.len⟩ ⟨c,hs,.inr hc⟩
  ·exact(hs.2 b (Nat.ne_of_lt (Nat.lt_of_lt_of_le (Heap.lt_size e) (I.ok.cab x c hfn hc)))).trans (I.base.keep b o e n hb hx)
  ·obtain⟨sl,e1⟩:=I.base.slot b o e n hb hx
   exact⟨sl,(hs.2 b (Nat.ne_of_lt (Nat.lt_of_lt_of_le (Heap.lt_size e) (I.ok.cab x c hfn hc)))).trans e1⟩
  ·obtain⟨o',e1⟩:=I.base.there b o e hx
   exact⟨o',(hs.2 b (Nat.ne_of_lt (Nat.lt_of_lt_of_le (Heap.lt_size e) (I.ok.cab x c hfn hc)))).trans e1⟩
  ·by_cases hj:j=i
   ·subst hj
    rw[hi]at e1;cases e1
    rw[List.getElem?_set_self hiσ]at e2
    cases e2
    exact⟨u,r,.inr ⟨.inl hk,c,hc,hc'⟩⟩
   ·rw[List.getElem?_set_ne (Ne.symm hj)]at e2
    obtain⟨u',r',q⟩:=hl j y v' e1 e2 e3
    refine⟨u',r', ?_⟩
    rcases q with q|⟨k,c',e,z'⟩
    ·exact .inl q
    ·refine .inr ⟨k,c',e,z'.sameBut hs ?_⟩
     rintro rfl
     exact hj (sE hN e1 (I.ok.inj _ _ _ e hc ▸ hi))
  ·by_cases hcc:c'=c
   ·subst hcc;exact⟨_,hc'⟩
   ·obtain⟨w2,z2⟩:=I.cell y c' e
    exact⟨w2,z2.sameBut hs hcc⟩
  ·obtain⟨e,n,ne,nf,d⟩:=I.pin p hp
   refine⟨(hs.2 p.1 ?_).trans e,n,ne,nf,d⟩
   intro q
   rw[q,hoc]at e
   have q':oc=p.2:=Option.some.inj e
   exact d w' (by rw[←q'];exact hocd)
theorem sF {M:Model}{A:Around}{E:Value->Shared->Prop}{i:Nat}{x:Str}{v:V}{u:Value}{Q:Unit->Shared->Prop}(I:Inv X pins σ H s) (hN:X.N.Nodup) (hi:X.N[i]? = some x) (hx:Loc X.env.scope x) (r:aY v u)
  (h:∀s',Inv X pins (σ.set i (some v)) H s'->Q () s') (hf:X.fn x=true∨X.env.scope.names.lookup x=some .local:=by first|exact .inl rfl|exact .inr rfl|assumption):wpAny M A (storeName X.env x u) Q E s :=
 pz I hN hi hx r (λs' I' _=>h s' I') hf
theorem Inv.call' {s':Shared}{ch:List Addr}(I:Inv X pins σ H s) (ho:s'.os=s.os) (u:Un (frs X.stack) ch H H' s.heap s'.heap) (hok:HOk X.prog X.w H' s'.heap) (hg:AllBare s'.gens)
  (hch:∀b∈ch,(b∈X.ex∨X.s₀.heap.objs.size<=b)/\b≠X.env.locals/\(∀x c,X.env.cells.lookup x=some c->c≠b)/\∀p∈X.pn++pins,p.1≠b):Inv X pins σ H' s':=by
 obtain⟨h',g',d',t',o'⟩:=s'
 have e:o'=s.os:=ho
 subst e
 exact I.call (g':=g') (t':=t') (d':=d') u hok hg hch
end
abbrev XK:=Value->Option Addr->Hp->Prop
abbrev St:=List (Option V)
abbrev VK:=V->Hp->Prop
abbrev TE:=St->Hp->VK->Prop
abbrev TT:=St->Hp->(Bool->Hp->Prop)->Prop
abbrev TA:=St->Hp->(List V->Hp->Prop)->Prop
structure Ends where
 nx:St->Hp->Prop
 rt:VK
 bk:St->Hp->Prop:=λ_ _=>False
 ct:St->Hp->Prop:=λ_ _=>False
abbrev TS:=Ends->St->Hp->Prop
def EP (X:Cx) (pins:List (Addr×Obj)) (σ:St) (Q:VK) (u:Value) (s':Shared):Prop:=∃v H',Inv X pins σ H' s'/\aY v u/\Q v H'
def TP (X:Cx) (pins:List (Addr×Obj)) (σ:St) (Q:Bool->Hp->Prop) (b:Bool) (s':Shared):Prop:=∃H',Inv X pins σ H' s'/\Q b H'
def AP (X:Cx) (pins:List (Addr×Obj)) (σ:St) (Q:List V->Hp->Prop) (us:List Value) (s':Shared):Prop:=∃vs H',Inv X pins σ H' s'/\bc vs us/\Q vs H'
def SP (X:Cx) (pins:List (Addr×Obj)) (D:Ends) (f:Flow) (s':Shared):Prop :=
 match f with
 | .next=>∃σ' H',Inv X pins σ' H' s'/\D.nx σ' H'
 | .brk=>∃σ' H',Inv X pins σ' H' s'/\D.bk σ' H'
 | .cont=>∃σ' H',Inv X pins σ' H' s'/\D.ct σ' H'
 | .ret u=>∃v σ' H',Inv X pins σ' H' s'/\aY v u/\D.rt v H'
def PE (X:Cx) (e:Expr) (t:TE):Prop :=
 ∀(pins:List (Addr×Obj)) (s:Shared) (σ:St) (H:Hp) (Q:VK),Inv X pins σ H s->t σ H Q->wpAny (model X.prog X.w) X.A (eval e X.env) (EP X pins σ Q) X.xe s
def PT (X:Cx) (e:Expr) (t:TT):Prop :=
 ∀(pins:List (Addr×Obj)) (s:Shared) (σ:St) (H:Hp) (Q:Bool->Hp->Prop),Inv X pins σ H s->t σ H Q->wpAny (model X.prog X.w) X.A (isTrue e X.env (eval e X.env)) (TP X pins σ Q) X.xe s
def PW (X:Cx) (e:Expr) (t:TT):Prop :=
 ∀(whole:Sem Value) (pins:List (Addr×Obj)) (s:Shared) (σ:St) (H:Hp) (Q:Bool->Hp->Prop),Inv X pins σ H s->t σ H Q->wpAny (model X.prog X.w) X.A (isTrue e X.env whole) (TP X pins σ Q) X.xe s
theorem PW.pt {X:Cx}{e:Expr}{t:TT}(h:PW X e t):PT X e t:=h _
def PA (X:Cx) (es:List Expr) (t:TA):Prop :=
 ∀(pos:Pos) (pins:List (Addr×Obj)) (s:Shared) (σ:St) (H:Hp) (Q:List V->Hp->Prop),Inv X pins σ H s->t σ H Q->wpAny (model X.prog X.w) X.A (spliced (backTo pos (starEach es X.env))) (AP X pins σ Q) X.xe s
def PS (X:Cx) (st:Stmt) (t:TS):Prop :=
 ∀(pins:List (Addr×Obj)) (s:Shared) (σ:St) (H:Hp) (D:Ends),Inv X pins σ H s->t D σ H->wpAny (model X.prog X.w) X.A (exec st X.env) (SP X pins D) X.xe s
def PSs (X:Cx) (st:List Stmt) (t:TS):Prop :=
 ∀(pins:List (Addr×Obj)) (s:Shared) (σ:St) (H:Hp) (D:Ends),Inv X pins σ H s->t D σ H->wpAny (model X.prog X.w) X.A (execs st X.env) (SP X pins D) X.xe s
theorem thn {α:Type}{t:Sem α}{Q Q':α->Shared->Prop}{M:Model}{A:Around}{E:Value->Shared->Prop}{s:Shared}(h:wpAny M A t Q E s) (hQ:∀a s,Q a s->Q' a s):wpAny M A t Q' E s:=wpAny_mono h hQ λ_ _ x=>x
section
variable {X:Cx}
theorem bin {a b:Expr}{ta tb:TE}(ha:PE X a ta) (hb:PE X b tb) {pins:List (Addr×Obj)}{s:Shared}{σ:St}{H:Hp}{R:V->V->Hp->Prop}(I:Inv X pins σ H s) (h:ta σ H λx H1=>tb σ H1 λy H2=>R x y H2)
  {α:Type}{Q:α->Shared->Prop}{f:Value->Value->Sem α}
  (hf:∀v u s2 x y H2,Inv X pins σ H2 s2->aY x v->aY y u->R x y H2->wpAny (model X.prog X.w) X.A (f v u) Q X.xe s2) :
  wpAny (model X.prog X.w) X.A (eval a X.env) (λv s₁=>wpAny (model X.prog X.w) X.A (eval b X.env) (λu s₂=>wpAny (model X.prog X.w) X.A (f v u) Q X.xe s₂) X.xe s₁) X.xe s:=by
 refine thn (ha pins s σ H _ I h) λv s1 ⟨x,H1,I1,r1,q1⟩=>?_
 refine thn (hb pins s1 σ H1 _ I1 q1) λu s2 ⟨y,H2,I2,r2,q2⟩=>?_
 exact hf v u s2 x y H2 I2 r1 r2 q2
def CP (i:Nat):TE:=λσ H Q=>∃v,σ[i]? = some (some v)/\Q v H
def tC (v:V):TE:=λ_ H Q=>Q v H
theorem mQ {i:Nat}{x:Str}{pos:Pos}(hN:X.N[i]? = some x) (hv:Vis X.env.scope x) (hd:(x == ("__debug__" : Str))=false:=by decide) (hcd:(x == ("__classdict__" : Str))=false:=by decide):PE X (.Name x pos) (CP i):=by
 intro pins s σ H Q I h
 obtain⟨v,e,h⟩:=h
 obtain⟨m,hn,hl⟩:=I.loc
 obtain⟨u,r,l⟩:=hl i x v hN e hv
 have fin:EP X pins σ Q u s:=⟨v,H,I,r,h⟩
 rcases l with ⟨hk,hm⟩|⟨hk,c,hc,hcell⟩
 ·exact wpAny_Name (wpAny_loadName_local I.ok.kind hk hn hm fin) hd
 ·rcases hk with hk|hk
  ·exact wpAny_Name (wpAny_loadName_cell I.ok.kind hk hc hcell fin) hd
  ·exact wpAny_Name (wpAny_loadName_free I.ok.kind hk hc hcell fin hcd) hd
theorem CQ {i j pos}:PE X (.Constant (.int i) j pos) (tC (.int i)):=λ_ _ _ H _ I h=>wpAny_Constant_int ⟨.int i,H,I.tok _,⟨_,rfl⟩,h⟩
theorem Es {b j pos}:PE X (.Constant (.bool b) j pos) (tC (.bl b)):=λ_ _ _ H _ I h=>Constant_bool ⟨.bl b,H,I,rfl,h⟩
theorem CS {j pos}:PE X (.Constant .none j pos) (tC .non):=λ_ _ _ H _ I h=>Constant_none ⟨.non,H,I,rfl,h⟩
theorem CT {x j pos}:PE X (.Constant (.str x) j pos) (tC (.str x)):=λ_ _ _ H _ I h=>Calls.Constant_str ⟨.str x,H,I.tok _,⟨_,rfl⟩,h⟩
def Gl (X:Cx) (x:Str):Prop:=X.env.kindOf x=some .globalImplicit
theorem qK {E:Value->Shared->Prop}{pins:List (Addr×Obj)}{s:Shared}{σ:St}{H:Hp}{x:Str}{u:Value}{pos:Pos}{Q:Value->Shared->Prop}(I:Inv X pins σ H s) (hg:Gl X x) (hm:X.mg x=some u) (h:Q u s)
  (hd:(x == ("__debug__" : Str))=false:=by decide):wpAny (model X.prog X.w) X.A (eval (.Name x pos) X.env) Q E s :=
 Calls.Name_function_global I.ok.kind hg (Calls.loadGlobal_global (by rw[I.ok.glob];exact I.mod.glob.keeps I.bk) hm h) hd
theorem kM {E:Value->Shared->Prop}{pins:List (Addr×Obj)}{s:Shared}{σ:St}{H:Hp}{x:Str}{u:Value}{pos:Pos}{Q:Value->Shared->Prop}(I:Inv X pins σ H s) (hg:Gl X x) (hm:X.mg x=none) (hv:bootBuiltins x=some u) (h:Q u s)
  (hn:x ≠ "__name__":=by decide) (hd:(x == ("__debug__" : Str))=false:=by decide):wpAny (model X.prog X.w) X.A (eval (.Name x pos) X.env) Q E s:=by
 obtain⟨mb,h1,h2⟩:=I.mod.blt
 exact Calls.Name_function_global I.ok.kind hg (Calls.loadGlobal_builtin (by rw[I.ok.glob];exact I.mod.glob.keeps I.bk) hm (by rw[I.ok.blt];exact h1.keeps I.bk) ((h2 x hn).trans hv) h) hd
theorem wA {x:Str}{v:V}{u:Value}{pos:Pos}(hg:Gl X x) (hm:X.mg x=some u) (r:aY v u) (hd:(x == ("__debug__" : Str))=false:=by decide):PE X (.Name x pos) (tC v) :=
 λ_ _ _ H _ I h=>qK I hg hm ⟨v,H,I,r,h⟩ hd
def t2I (ta tb:TE) (k:Int->Int->Hp->Prop):St->Hp->Prop:=λσ H=>ta σ H λx H1=>tb σ H1 λy H2=>∃i j,x=.int i/\y=.int j/\k i j H2
variable {a b:Expr}{ta tb:TE}{pos:Pos}
def PC (X:Cx) (op:CmpOp) (a b:Expr) (t:TE):Prop :=
 ∀(pins:List (Addr×Obj)) (s:Shared) (σ:St) (H:Hp) (Q:VK),Inv X pins σ H s->t σ H Q ->
  wpAny (model X.prog X.w) X.A (eval a X.env) (λv s₁=>wpAny (model X.prog X.w) X.A (eval b X.env) (λu s₂=>wpAny (model X.prog X.w) X.A (compareOp op v u) (EP X pins σ Q) X.xe s₂) X.xe s₁) X.xe s
theorem mR (b:Expr) {op:CmpOp}(h:op≠.In) (h2:op≠.NotIn):behindInMarks op b=false:=by
 have e1:(op == CmpOp.In)=false:=by cases op<;>first|rfl|exact absurd rfl h
 have e2:(op == CmpOp.NotIn)=false:=by cases op<;>first|rfl|exact absurd rfl h2
 cases b<;>simp[behindInMarks,e1,e2]
def Et (p:Int->Int->Bool) (ta tb:TE):TE:=λσ H Q=>t2I ta tb (λi j H2=>Q (.bl (p i j)) H2) σ H
abbrev tLt:TE->TE->TE:=Et λi j=>decide (i<j)
abbrev tGt:TE->TE->TE:=Et λi j=>decide (j<i)
def tB (t:TE):TT:=λσ H Q=>t σ H λx H1=>∃c,x=.bl c/\Q c H1
theorem FD {op:CmpOp}{t:TE}(h:PC X op a b t) (h1:behindInMarks op b=false:=by first|exact mR _ (by decide) (by decide)|rfl):PT X (.Compare a [op] [b] pos) (tB t):=by
 intro pins s σ H Q I hw
 refine wpAny_isTrue_Compare1 (thn (h pins s σ H _ I hw) λv s1 h1=>thn h1 λu s2 h2=>thn h2 λc s3 ⟨x,H1,I1,r1,q1⟩=>?_) h1
 obtain⟨d,rfl,q⟩:=q1
 cases r1
 exact wpAny_truthy_bool ⟨H1,I1,q⟩
theorem CU {e:Expr}{t:TE}(h:PE X e t) (he:∀whole,isTrue e X.env whole=(do let v ←whole;standAt e.pos;holding [v] (truthy v)):=by intro _;rfl):PT X e (tB t):=by
 intro pins s σ H Q I hw
 refine isTrue_plain (thn (h pins s σ H _ I hw) λv s1 ⟨x,H1,I1,r1,q1⟩=>?_) (he _)
 obtain⟨d,rfl,q⟩:=q1
 cases r1
 exact wpAny_truthy_bool ⟨H1,I1,q⟩
variable {tA tB':TT}{aF:List Expr}
def Eu (t u:TT):TT:=λσ H Q=>t σ H λc H1=>if c=true then u σ H1 Q else Q false H1
def tOr (t u:TT):TT:=λσ H Q=>t σ H λc H1=>if c=true then Q true H1 else u σ H1 Q
def Ev (t:TT):TT:=λσ H Q=>t σ H λc H1=>Q (!c) H1
theorem AG (ha:PT X a tA):PW X (.BoolOp .And [a] pos) tA:=by
 intro wh pins s σ H Q I h
 refine isTrue_and (thn (ha pins s σ H Q I h) λc s1 e=>?_)
 cases c with
 | true=>exact isTrue_and_nil e
 | false=>exact e
theorem CV (ha:PT X a tA):PW X (.BoolOp .Or [a] pos) tA:=by
 intro wh pins s σ H Q I h
 refine isTrue_or (thn (ha pins s σ H Q I h) λc s1 e=>?_)
 cases c with
 | false=>exact isTrue_or_nil e
 | true=>exact e
theorem CW (ha:PT X a tA) (hb:PW X (.BoolOp .And (b::aF) pos) tB'):PW X (.BoolOp .And (a::b::aF) pos) (Eu tA tB'):=by
 intro wh pins s σ H Q I h
 refine isTrue_and (thn (ha pins s σ H _ I h) λc s1 ⟨H1,I1,q1⟩=>?_)
 cases c with
 | true=>exact hb wh pins s1 σ H1 Q I1 q1
 | false=>exact⟨H1,I1,q1⟩
theorem Ew (ha:PT X a tA) (hb:PW X (.BoolOp .Or (b::aF) pos) tB'):PW X (.BoolOp .Or (a::b::aF) pos) (tOr tA tB'):=by
 intro wh pins s σ H Q I h
 refine isTrue_or (thn (ha pins s σ H _ I h) λc s1 ⟨H1,I1,q1⟩=>?_)
 cases c with
 | true=>exact⟨H1,I1,q1⟩
 | false=>exact hb wh pins s1 σ H1 Q I1 q1
theorem CY (ha:PT X a tA):PT X (.UnaryOp .Not a pos) (Ev tA):=by
 intro pins s σ H Q I h
 exact isTrue_not (ha pins s σ H (λc H1=>Q (!c) H1) I h)
def Ex (ta tb:TE):TE:=λσ H Q=>ta σ H λx H1=>∃c,x=.bl c/\if c=true then tb σ H1 Q else Q (.bl false) H1
def FF (ta tb:TE):TE:=λσ H Q=>ta σ H λx H1=>∃c,x=.bl c/\if c=true then Q (.bl true) H1 else tb σ H1 Q
theorem CZ {op} {t:TE}(h:PE X a t):PE X (.BoolOp op [a] pos) t:=λpins s σ H Q I hw=>BoolOp_one (h pins s σ H Q I hw)
theorem Da (ha:PE X a ta) (hb:PE X (.BoolOp .And (b::aF) pos) tb):PE X (.BoolOp .And (a::b::aF) pos) (Ex ta tb):=by
 intro pins s σ H Q I h
 refine BoolOp_and (thn (ha pins s σ H _ I h) λv s1 ⟨x,H1,I1,r1,q1⟩=>?_)
 obtain⟨c,rfl,q1⟩:=q1
 cases r1
 refine wpAny_truthy_bool ?_
 cases c with
 | true=>exact hb pins s1 σ H1 Q I1 q1
 | false=>exact⟨.bl false,H1,I1,rfl,q1⟩
theorem Ey (ha:PE X a ta) (hb:PE X (.BoolOp .Or (b::aF) pos) tb):PE X (.BoolOp .Or (a::b::aF) pos) (FF ta tb):=by
 intro pins s σ H Q I h
 refine BoolOp_or (thn (ha pins s σ H _ I h) λv s1 ⟨x,H1,I1,r1,q1⟩=>?_)
 obtain⟨c,rfl,q1⟩:=q1
 cases r1
 refine wpAny_truthy_bool ?_
 cases c with
 | false=>exact hb pins s1 σ H1 Q I1 q1
 | true=>exact⟨.bl true,H1,I1,rfl,q1⟩
end
def SqL (K:PySem.W.Frag) (H:Hp) (a:Addr) (xs:List V):Prop :=
 Rd H a (.lst xs) ∨
  ∃(o:Obj) (its:Array Value) (n:Nat),K.lookup a=some o/\o.cls=.type "list"/\o.dict=none/\o.data=.seq its n/\its.size<=sizeLine/\bc xs its.toList
def SqT (K:PySem.W.Frag) (H:Hp) (a:Addr) (xs:List V):Prop :=
 Rd H a (.tup xs) ∨
  ∃(o:Obj) (its:Array Value) (n:Nat),K.lookup a=some o/\o.cls=.type "tuple"/\o.data=.seq its n/\its.size<=sizeLine/\bc xs its.toList
def FH:Value->Option V
 | .none=>some .non
 | .bool b=>some (.bl b)
 | .int i _=>some (.int i)
 | .str x _=>some (.str x)
 | .bytes b _=>some (.byt b)
 | .float b _=>some (.flt b)
 | .ref a=>some (.ref a)
 | .type n=>some (.ty n)
 | _=>none
theorem aY.abs {x:V}{u:Value}(r:aY x u):FH u=some x:=by
 cases x with
 | non=>cases r;rfl
 | bl _=>cases r;rfl
 | int _=>obtain⟨t,rfl⟩:=r;rfl
 | str _=>obtain⟨t,rfl⟩:=r;rfl
 | byt _=>obtain⟨t,rfl⟩:=r;rfl
 | flt _=>obtain⟨t,rfl⟩:=r;rfl
 | ref _=>cases r;rfl
 | ty _=>cases r;rfl
theorem aY.inj {x y:V}{u:Value}(r:aY x u) (q:aY y u):x=y:=Option.some.inj (r.abs.symm.trans q.abs)
theorem bc.inj:∀ {xs ys:List V}{us:List Value},bc xs us->bc ys us->xs=ys
 | _,_,_,.nil,.nil=>rfl
 | _,_,_,.cons r t,.cons r' t'=>by rw[r.inj r',bc.inj t t']
section
variable {X:Cx}{pins:List (Addr×Obj)}{σ:St}{H:Hp}{s:Shared}{a:Addr}{xs ys:List V}
theorem SqL.of {K:PySem.W.Frag}(h:H a=some (.lst xs)):SqL K H a xs:=.inl (.inl h)
theorem SqT.of {K:PySem.W.Frag}(h:H a=some (.tup xs)):SqT K H a xs:=.inl (.inl h)
theorem Inv.list (I:Inv X pins σ H s) (h:SqL X.K H a xs):∃its:List Value,bc xs its/\PlainL s.heap a its.toArray/\xs.length<=sizeLine:=by
 rcases h with h|⟨o,its,n,hk,hc,hd,hs,hz,r⟩
 ·obtain⟨z,its,n,r,e⟩:=h.ok I.hok
  exact⟨its,r,⟨_,n,e,rfl,rfl,rfl⟩,z⟩
 ·refine⟨its.toList,r,⟨o,n,I.kIn a o hk,hc,hd,by simpa using hs⟩, ?_⟩
  have e:=r.length
  simp only[Array.length_toList]at e
  omega
theorem Inv.tuple (I:Inv X pins σ H s) (h:SqT X.K H a xs):∃its:List Value,bc xs its/\IsTup s.heap a its.toArray/\xs.length<=sizeLine:=by
 rcases h with h|⟨o,its,n,hk,hc,hs,hz,r⟩
 ·obtain⟨z,its,r,p⟩:=h.ok I.hok
  exact⟨its,r,p,z⟩
 ·refine⟨its.toList,r,⟨o,I.kIn a o hk,hc,n,by simpa using hs⟩, ?_⟩
  have e:=r.length
  simp only[Array.length_toList]at e
  omega
theorem Inv.list_inj (I:Inv X pins σ H s) (h:SqL X.K H a xs) (h':SqL X.K H a ys):xs=ys:=by
 obtain⟨its,r,⟨o,n,e,_,_,d⟩,_⟩:=I.list h
 obtain⟨its',r',⟨o',n',e',_,_,d'⟩,_⟩:=I.list h'
 rw[e]at e';cases e'
 rw[d]at d'
 injection d' with d1 _
 have:its=its':=by simpa using congrArg Array.toList d1
 subst this
 exact r.inj r'
theorem Inv.tuple_inj (I:Inv X pins σ H s) (h:SqT X.K H a xs) (h':SqT X.K H a ys):xs=ys:=by
 obtain⟨its,r,⟨o,e,_,n,d⟩,_⟩:=I.tuple h
 obtain⟨its',r',⟨o',e',_,n',d'⟩,_⟩:=I.tuple h'
 rw[e]at e';cases e'
 rw[d]at d'
 injection d' with d1 _
 have:its=its':=by simpa using congrArg Array.toList d1
 subst this
 exact r.inj r'
end
abbrev Cx.wish (X:Cx) (E:Value->Shared->Prop):Cx:={ X with xe:=E }
abbrev Cx.nox (X:Cx):Cx:=X.wish λ_ _=>False
theorem Cx.Ok.wish {X:Cx}(ok:X.Ok) (E:Value->Shared->Prop):(X.wish E).Ok :=
 ⟨ok.mod,ok.kind,ok.glob,ok.blt,ok.above,ok.inj,ok.has,ok.cab,ok.hd,ok.frames,ok.stk,ok.exf,ok.bs,ok.bsz,ok.noex,ok.exfs,ok.funs,ok.frf⟩
theorem Cx.Ok.unwish {X:Cx}{E:Value->Shared->Prop}(ok:(X.wish E).Ok):X.Ok :=
 ⟨ok.mod,ok.kind,ok.glob,ok.blt,ok.above,ok.inj,ok.has,ok.cab,ok.hd,ok.frames,ok.stk,ok.exf,ok.bs,ok.bsz,ok.noex,ok.exfs,ok.funs,ok.frf⟩
section
variable {X:Cx}{pins:List (Addr×Obj)}{σ:St}{H:Hp}{s:Shared}{E:Value->Shared->Prop}
theorem Inv.wish (I:Inv X pins σ H s) (E:Value->Shared->Prop):Inv (X.wish E) pins σ H s:=⟨I.ok.wish E,I.os,I.bare,I.base,I.loc,I.cell,I.free,I.freeC,I.pin,I.hok,I.len⟩
theorem Inv.unwish (I:Inv (X.wish E) pins σ H s):Inv X pins σ H s:=⟨I.ok.unwish,I.os,I.bare,I.base,I.loc,I.cell,I.free,I.freeC,I.pin,I.hok,I.len⟩
theorem SP.unwish {D:Ends}{f:Flow}{s':Shared}(h:SP (X.wish E) pins D f s'):SP X pins D f s':=by
 cases f with
 | next=>obtain⟨σ',H',I,q⟩:=h;exact⟨σ',H',I.unwish,q⟩
 | brk=>obtain⟨σ',H',I,q⟩:=h;exact⟨σ',H',I.unwish,q⟩
 | cont=>obtain⟨σ',H',I,q⟩:=h;exact⟨σ',H',I.unwish,q⟩
 | ret u=>obtain⟨v,σ',H',I,r,q⟩:=h;exact⟨v,σ',H',I.unwish,r,q⟩
theorem PSs.nox {st:List Stmt}{t:TS}(h:PSs X.nox st t):PSs X st t:=λpins s σ H D I hw =>
 wpAny_mono (h pins s σ H D (I.wish _) hw) (λ_ _ q=>q.unwish) λ_ _ z=>False.elim z
end
section
variable {X:Cx}{st:Stmt}{aF:List Stmt}{t u:TS}{e:Expr}{te:TE}{pos:Pos}
def BY:TS:=λD σ H=>D.nx σ H
def Ez (t u:TS):TS:=λD σ H=>t { D with nx:=u D } σ H
theorem AH:PSs X [] BY:=λ_ _ σ H _ I h=>wpAny_execs_nil ⟨σ,H,I,h⟩
theorem yL (h1:PS X st t) (h2:PSs X aF u):PSs X (st::aF) (Ez t u):=by
 intro pins s σ H D I h
 refine wpAny_execs_cons (thn (h1 pins s σ H { D with nx:=u D } I h) λf s1 q=>?_)
 cases f with
 | next =>
  obtain⟨σ',H',I',q⟩:=q
  exact h2 pins s1 σ' H' D I' q
 | ret v=>exact q
 | brk=>exact q
 | cont=>exact q
theorem AI (h1:PS X st t):PSs X [st] t:=by
 intro pins s σ H D I h
 refine wpAny_execs_cons (thn (h1 pins s σ H D I h) λf s1 q=>?_)
 cases f with
 | next=>exact wpAny_execs_nil q
 | ret v=>exact q
 | brk=>exact q
 | cont=>exact q
def E1:TS:=λD σ H=>D.ct σ H
theorem sG:PS X (.Continue pos) E1:=λ_ _ σ H _ I h=>wpAny_Continue ⟨σ,H,I,h⟩
theorem Inv.quiet {pins:List (Addr×Obj)}{σ:St}{H:Hp}{s:Shared}(I:Inv X pins σ H s):interactive X.env=false:=by simp[interactive,I.ok.kind]
def E2 (te:TE):TS:=λD σ H=>te σ H λ_ H1=>D.nx σ H1
theorem AJ (he:PE X e te) (hs:swapsWith e none pos.line X.env=pure false:=by rfl):PS X (.Expr e pos) (E2 te):=by
 intro pins s σ H D I h
 exact wpAny_Expr_any (thn (he pins s σ H _ I h) λv s1 ⟨x,H1,I1,r1,q1⟩=>⟨σ,H1,I1,q1⟩) I.quiet hs
def Db (te:TE):TS:=λD σ H=>te σ H D.rt
theorem yM (he:PE X e te):PS X (.Return (some e) pos) (Db te):=by
 intro pins s σ H D I h
 exact wpAny_Return_some (thn (he pins s σ H _ I h) λv s1 ⟨x,H1,I1,r1,q1⟩=>⟨x,σ,H1,I1,r1,q1⟩)
def E3 (c:TT) (t u:TS):TS:=λD σ H=>c σ H λb H1=>if b=true then t D σ H1 else u D σ H1
theorem E4 {c:Expr}{a b:List Stmt}{tc:TT}(hc:PT X c tc) (ha:PSs X a t) (hb:PSs X b u):PS X (.If c a b pos) (E3 tc t u):=by
 intro pins s σ H D I h
 refine wpAny_If (thn (hc pins s σ H _ I h) λd s1 ⟨H1,I1,q1⟩=>?_)
 cases d with
 | true=>exact ha pins s1 σ H1 D I1 q1
 | false=>exact hb pins s1 σ H1 D I1 q1
end
abbrev TG:=V->St->Hp->(St->Hp->Prop)->Prop
abbrev TGs:=List V->St->Hp->(St->Hp->Prop)->Prop
def PG (X:Cx) (target:Expr) (t:TG):Prop :=
 ∀(pins:List (Addr×Obj)) (s:Shared) (σ:St) (H:Hp) (v:V) (u:Value) (Q:St->Hp->Prop),Inv X pins σ H s->aY v u->t v σ H Q ->
  wpAny (model X.prog X.w) X.A (assign target X.env u) (λ_ s'=>∃σ' H',Inv X pins σ' H' s'/\Q σ' H') X.xe s
def PGs (X:Cx) (ts:List Expr) (t:TGs):Prop :=
 ∀(pins:List (Addr×Obj)) (s:Shared) (σ:St) (H:Hp) (vs:List V) (us:List Value) (Q:St->Hp->Prop),Inv X pins σ H s->bc vs us->t vs σ H Q ->
  wpAny (model X.prog X.w) X.A (assignInOrder ((assignEach ts X.env).map (·.2)) us) (λ_ s'=>∃σ' H',Inv X pins σ' H' s'/\Q σ' H') X.xe s
abbrev Dc:=V->V->V->Hp->(Hp->Prop)->Prop
def E5 (X:Cx) (t:Dc):Prop :=
 ∀(pins:List (Addr×Obj)) (s:Shared) (σ:St) (H:Hp) (o i v:V) (ov iv u:Value) (Q:Hp->Prop),Inv X pins σ H s->aY o ov->aY i iv->aY v u->t o i v H Q ->
  wpAny (model X.prog X.w) X.A (setItem ov iv u) (λ_ s'=>∃H',Inv X pins σ H' s'/\Q H') X.xe s
section
variable {X:Cx}{pos:Pos}
def lO (i:Nat):TG:=λv σ H Q=>Q (σ.set i (some v)) H
theorem aL {i:Nat}{x:Str}(hN:X.N.Nodup) (hi:X.N[i]? = some x) (hx:Loc X.env.scope x) (hf:X.fn x=true∨X.env.scope.names.lookup x=some .local:=by first|exact .inl rfl|exact .inr rfl|assumption):PG X (.Name x pos) (lO i):=by
 intro pins s σ H v u Q I r h
 exact wpAny_assign_Name (sF I hN hi hx r (λs' I'=>⟨_,H,I',h⟩) hf)
def E6:TGs:=λvs σ H Q=>vs=[]/\Q σ H
def BZ (t:TG) (u:TGs):TGs:=λvs σ H Q=>∃v r,vs=v::r/\t v σ H λσ' H'=>u r σ' H' Q
theorem fN:PGs X [] E6:=by
 intro pins s σ H vs us Q I r h
 obtain⟨e,h⟩:=h
 subst e
 cases r
 exact assignInOrder_nil ⟨σ,H,I,h⟩
theorem bq {e:Expr}{es:List Expr}{t:TG}{u:TGs}(h1:PG X e t) (h2:PGs X es u)
  (hs:(assignEach (e::es) X.env).map (·.2)=assign e X.env::(assignEach es X.env).map (·.2):=by rfl):PGs X (e::es) (BZ t u):=by
 intro pins s σ H vs us Q I r h
 obtain⟨v,vr,e1,h⟩:=h
 subst e1
 cases r with
 | cons r rr =>
  rw[hs]
  refine assignInOrder_cons (thn (h1 pins s σ H _ _ _ I r h) λ_ s1 ⟨σ1,H1,I1,q1⟩=>?_)
  exact h2 pins s1 σ1 H1 _ _ Q I1 rr q1
def De (K:PySem.W.Frag) (n:Nat) (t:TGs):TG:=λv σ H Q=>∃a xs,v=.ref a/\SqT K H a xs/\xs.length=n/\t xs σ H Q
theorem uZ {es:List Expr}{k:Nat}{t:TGs}{n:Nat}(hc:X.calm=true) (h:PGs X es t)
  (hn:(assignEach es X.env).length=n:=by rfl) (hst:(assignEach es X.env).findIdx? (·.1)=none:=by rfl):PG X (.Tuple es k pos) (De X.K n t):=by
 intro pins s σ H v u Q I r hw
 obtain⟨a,xs,e1,hq,hl,hw⟩:=hw
 subst e1
 cases r
 obtain⟨its,rv,ht,hz⟩:=I.tuple hq
 refine assign_Tuple_tuple (I.ok.hd hc) ht (by simp[hn,←hl,rv.length]) hst λh' hx=>?_
 have I1:Inv X pins σ H { s with heap:=h' }:=I.kept (t':=s.toks) λb o e=>hx b o (Nat.ne_of_lt (Heap.lt_size e)) e
 exact h pins _ σ H xs _ Q I1 (by simpa using rv) hw
def FI (to ti:TE) (t:Dc):TG:=λv σ H Q=>to σ H λo H1=>ti σ H1 λi H2=>t o i v H2 λH3=>Q σ H3
theorem Df {o i:Expr}{to ti:TE}{t:Dc}(ho:PE X o to) (hi:PE X i ti) (hs:E5 X t)
  (ha:∀v,assign (.Subscript o i pos) X.env v=(do
   let ov ←holding [v] (eval o X.env)
   let iv ←holding [v,ov] (eval i X.env)
   standAt pos
   holding [v,ov,iv] (setItem ov iv v)
   release [v,ov,iv] []):=by intro _;rfl):PG X (.Subscript o i pos) (FI to ti t):=by
 intro pins s σ H v u Q I r h
 rw[ha]
 refine wX (wpAny_holding (thn (ho pins s σ H _ I h) λov s1 ⟨x,H1,I1,r1,q1⟩=>?_))
 refine wX (wpAny_holding (thn (hi pins s1 σ H1 _ I1 q1) λiv s2 ⟨y,H2,I2,r2,q2⟩=>?_))
 refine wX (wpAny_standAt (wX (wpAny_holding (thn (hs pins s2 σ H2 x y v ov iv u _ I2 r1 r2 r q2) λ_ s3 ⟨H3,I3,q3⟩=>?_))))
 exact wpAny_release ⟨σ,H3,I3,q3⟩
def xN (te:TE) (g:TG):TS:=λD σ H=>te σ H λx H1=>g x σ H1 D.nx
theorem yN {tg e:Expr}{te:TE}{g:TG}(he:PE X e te) (hg:PG X tg g) (hs:swapsWithSole [tg] e pos.line X.env=pure false:=by rfl) (hw:swappedStores [tg] e X.env=pure none:=by rfl)
  (h1:(assignEach [tg] X.env).map (·.2)=[assign tg X.env]:=by rfl):PS X (.Assign [tg] e pos) (xN te g):=by
 intro pins s σ H D I h
 refine wpAny_Assign_stores (thn (he pins s σ H _ I h) λv s1 ⟨x,H1,I1,r1,q1⟩=>?_) hs hw
 rw[h1]
 exact thn (hg pins s1 σ H1 x v _ I1 r1 q1) λ_ s2 q=>q
theorem yO {i:Nat}{x:Str}{e:Expr}{te:TE}{pos':Pos}(hN:X.N.Nodup) (hi:X.N[i]? = some x) (hx:Loc X.env.scope x) (he:PE X e te) (hs:swapsWith e (some (.Name x pos')) pos.line X.env=pure false:=by rfl) (hf:X.fn x=true∨X.env.scope.names.lookup x=some .local:=by first|exact .inl rfl|exact .inr rfl|assumption) :
  PS X (.Assign [.Name x pos'] e pos) (xN te (lO i)):=by
 intro pins s σ H D I h
 refine wpAny_Assign_Name (thn (he pins s σ H _ I h) λv s1 ⟨y,H1,I1,r1,q1⟩=>?_) hs
 exact sF I1 hN hi hx r1 (λs2 I2=>⟨_,H1,I2,q1⟩) hf
end
structure It where
 go:Nat->Hp->Prop
 yld:Nat->Hp->V->Hp->Prop
 stop:Nat->Hp->Prop
def kN (X:Cx) (pins:List (Addr×Obj)) (H:Hp) (b:Addr):Prop :=
 H b=none/\b≠X.env.locals/\b∉X.fs/\(b∈X.ex∨X.s₀.heap.objs.size<=b)/\(∀x c,X.env.cells.lookup x=some c->c≠b)/\∀p∈X.pn++pins,p.1≠b
theorem Inv.fpOk {X:Cx}{pins:List (Addr×Obj)}{σ:St}{H H':Hp}{s:Shared}{b:Addr}(I:Inv X pins σ H s) (hb:s.heap.objs.size<=b) (hn:H' b=none):kN X pins H' b:=by
 refine⟨hn,Nat.ne_of_gt (Nat.lt_of_lt_of_le I.lt hb),I.nofs hb,.inr (Nat.le_trans I.sz hb),λx c e z=>?_,λp hp z=>?_⟩
 ·obtain⟨v,q⟩:=I.cell x c e
  exact absurd (Nat.lt_of_lt_of_le q.lt (by rw[z];exact hb)) (Nat.lt_irrefl _)
 ·exact absurd (Nat.lt_of_lt_of_le (Heap.lt_size (I.pin p hp).1) (by rw[z];exact hb)) (Nat.lt_irrefl _)
structure Turn (P:Program) (w:World) (K:PySem.W.Frag) (tg:Expr) (J:It) (fp:List Addr) (it:Addr) (tn:Nat->Heap->Prop):Prop where
 mem:it∈fp
 obj:∀i h,tn i h->∀b∈fp,∃o,h.get? b=some o/\∀v,o.data≠.cell v
 keep:∀i h h',tn i h->(∀b∈fp,∀o,h.get? b=some o->h'.get? b=some o)->tn i h'
 item:∀(X:Cx),X.prog=P->X.w=w->X.K=K->X.calm=true->∀(i:Nat) (pins:List (Addr×Obj)) (s:Shared) (σ:St) (H:Hp) (E:Value->Shared->Prop),Inv X pins σ H s->(∀b∈fp,kN X pins H b)->tn i s.heap->J.go i H ->
  wpAny (model P w) X.A (pyNext (.ref it)) (λr s1=>∃u,r=some u /\
   wpAny (model P w) X.A (letOwnedTupleGo tg (.ref it) u) (λ_ s2=>∃x H',Inv X pins σ H' s2/\aY x u/\J.yld i H x H'/\tn (i+1) s2.heap/\∀b∈fp,H' b=none) E s1) E s
 done:∀(X:Cx),X.prog=P->X.w=w->X.K=K->X.calm=true->∀(i:Nat) (pins:List (Addr×Obj)) (s:Shared) (σ:St) (H:Hp) (E:Value->Shared->Prop),Inv X pins σ H s->(∀b∈fp,kN X pins H b)->tn i s.heap->J.stop i H ->
  wpAny (model P w) X.A (pyNext (.ref it)) (λr s1=>r=none/\Inv X pins σ H s1) E s
 self:∀(A:Around) (i:Nat) (s:Shared) (Q:Value->Shared->Prop) (E:Value->Shared->Prop),tn i s.heap->Q (.ref it) s->wpAny (model P w) A (pyIter (.ref it)) Q E s
abbrev TI:=St->Hp->(It->Hp->Prop)->Prop
def PIE (X:Cx) (pins:List (Addr×Obj)) (σ:St) (tg:Expr) (R:It->Hp->Prop) (itv:Value) (s2:Shared):Prop :=
 ∃(it:Addr) (fp:List Addr) (tn:Nat->Heap->Prop) (J:It) (H':Hp),itv=.ref it/\Inv X pins σ H' s2/\Turn X.prog X.w X.K tg J fp it tn/\tn 0 s2.heap/\(∀b∈fp,kN X pins H' b)/\R J H'
def PI (X:Cx) (tg iter:Expr) (wi:TI):Prop :=
 ∀(pins:List (Addr×Obj)) (s:Shared) (σ:St) (H:Hp) (R:It->Hp->Prop),Inv X pins σ H s->wi σ H R ->
  wpAny (model X.prog X.w) X.A (eval iter X.env) (λv s1=>wpAny (model X.prog X.w) X.A (pyIter v) (PIE X pins σ tg R) X.xe s1) X.xe s
theorem sI {M:Model}{A:Around}{E:Value->Shared->Prop}{s:Shared}{tg:Expr}{it:Addr}{u:Value}{o:Obj}{n:String}{vs:Array Value}{Q:Unit->Shared->Prop}(ho:s.heap.get? it=some o) (hc:o.cls=.type n) (hd:o.data=.fields vs)
    (hn:["enumerate","zip","dict_itemiterator","dict_reverseitemiterator","odict_iterator","itertools.zip_longest","itertools.pairwise"].contains n=false) (hQ:Q () s):wpAny M A (letOwnedTupleGo tg (.ref it) u) Q E s:=by
  unfold letOwnedTupleGo
  cases tg<;>first
    | exact wY hQ
    | (cases u<;>first
        | exact wY hQ
        | (refine wX (wpAny_load ho ?_)
           rw[hc,hd]
           show wpAny M A (if(["enumerate","zip","dict_itemiterator","dict_reverseitemiterator","odict_iterator","itertools.zip_longest","itertools.pairwise"].contains n && vs[0]? == some (rawInt _))=true then _ else _) Q E s
           rw[if_neg (by intro h;rw[hn,Bool.false_and]at h;cases h)]
           exact wY hQ))
def Itl (K:PySem.W.Frag) (a:Addr):It :=
 ⟨λi H=>∃xs x,SqL K H a xs/\xs[i]? = some x,λi H x H'=>H'=H/\∀xs,SqL K H a xs->xs[i]? = some x,λi H=>∃xs,SqL K H a xs/\xs.length<=i⟩
def Itt (K:PySem.W.Frag) (a:Addr):It :=
 ⟨λi H=>∃xs x,SqT K H a xs/\xs[i]? = some x,λi H x H'=>H'=H/\∀xs,SqT K H a xs->xs[i]? = some x,λi H=>∃xs,SqT K H a xs/\xs.length<=i⟩
def Itr (lo:Int) (n:Nat):It:=⟨λi _=>i<n,λi H x H'=>H'=H/\x=.int (lo+i),λi _=>n<=i⟩
theorem xO {P:Program}{w:World}{K:PySem.W.Frag}{tg:Expr}(a it:Addr):Turn P w K tg (Itl K a) [it] it (λi h=>h.IsListIter it a i) where
 mem:=by simp
 obj:=λi h st b hb=>by
  have e:b=it:=by simpa using hb
  subst e
  obtain⟨o,e,c,d⟩:=st
  exact⟨o,e,λv z=>by rw[d]at z;cases z⟩
 keep:=λi h h' st k=>st.at λo e=>k it (by simp) o e
 item:=by
  intro X hP hw hK hc i pins s σ H E I hf st hg
  subst hP hw hK
  obtain⟨xs,x,hq,hx⟩:=hg
  obtain⟨its,rv,p,hz⟩:=I.list hq
  obtain⟨u,hu,ru⟩:=rv.get hx
  obtain⟨f0,f1,f2,f3,f4,f5⟩:=hf it (by simp)
  refine wpAny_pyNext_list_item st p.isList (x:=u) (by simpa using hu) λh' st' sb=>?_
  have I1:Inv X pins σ H { s with heap:=h' }:=I.turned (t':=s.toks) (λb o hb e=>(sb.2 b hb).trans e) f0 f1 f3 f4 f5
  obtain⟨o,e,c,d⟩:=id st'
  exact⟨u,rfl,sI (s:={ s with heap:=h' }) e c d (by decide) ⟨x,H,I1,ru,⟨rfl,λys hy=>by rw[I.list_inj hy hq];exact hx⟩,st',λb hb=>(hf b hb).1⟩⟩
 done:=by
  intro X hP hw hK hc i pins s σ H E I hf st hg
  subst hP hw hK
  obtain⟨xs,hq,hx⟩:=hg
  obtain⟨its,rv,p,hz⟩:=I.list hq
  obtain⟨f0,f1,f2,f3,f4,f5⟩:=hf it (by simp)
  have hl:=rv.length
  exact wpAny_pyNext_list_end (I.ok.hd hc) st p.isList (by simp;omega) λh' eb=>⟨rfl,I.turned (t':=s.toks) (λb o hb e=>eb b o hb e) f0 f1 f3 f4 f5⟩
 self:=λ_ _ _ _ _ st h=>wpAny_pyIter_listiter st h
theorem vc {P:Program}{w:World}{K:PySem.W.Frag}{tg:Expr}(a it:Addr):Turn P w K tg (Itt K a) [it] it (λi h=>h.IsTupleIter it a i) where
 mem:=by simp
 obj:=λi h st b hb=>by
  have e:b=it:=by simpa using hb
  subst e
  obtain⟨o,e,c,d⟩:=st
  exact⟨o,e,λv z=>by rw[d]at z;cases z⟩
 keep:=λi h h' st k=>st.at λo e=>k it (by simp) o e
 item:=by
  intro X hP hw hK hc i pins s σ H E I hf st hg
  subst hP hw hK
  obtain⟨xs,x,hq,hx⟩:=hg
  obtain⟨its,rv,p,hz⟩:=I.tuple hq
  obtain⟨u,hu,ru⟩:=rv.get hx
  obtain⟨f0,f1,f2,f3,f4,f5⟩:=hf it (by simp)
  refine wpAny_pyNext_tuple_item st (show s.heap.IsTuple a its.toArray from p) (x:=u) (by simpa using hu) λh' st' sb=>?_
  have I1:Inv X pins σ H { s with heap:=h' }:=I.turned (t':=s.toks) (λb o hb e=>(sb.2 b hb).trans e) f0 f1 f3 f4 f5
  obtain⟨o,e,c,d⟩:=id st'
  exact⟨u,rfl,sI (s:={ s with heap:=h' }) e c d (by decide) ⟨x,H,I1,ru,⟨rfl,λys hy=>by rw[I.tuple_inj hy hq];exact hx⟩,st',λb hb=>(hf b hb).1⟩⟩
 done:=by
  intro X hP hw hK hc i pins s σ H E I hf st hg
  subst hP hw hK
  obtain⟨xs,hq,hx⟩:=hg
  obtain⟨its,rv,p,hz⟩:=I.tuple hq
  obtain⟨f0,f1,f2,f3,f4,f5⟩:=hf it (by simp)
  have hl:=rv.length
  exact wpAny_pyNext_tuple_end (I.ok.hd hc) st (show s.heap.IsTuple a its.toArray from p) (by simp;omega) λh' eb=>⟨rfl,I.turned (t':=s.toks) (λb o hb e=>eb b o hb e) f0 f1 f3 f4 f5⟩
 self:=λ_ _ _ _ _ st h=>wpAny_pyIter_tupleiter st h
theorem ve {P:Program}{w:World}{K:PySem.W.Frag}{tg:Expr}(it:Addr) (lo:Int) (n:Nat):Turn P w K tg (Itr lo n) [it] it (λi h=>IsRangeIter h it (lo+(i:Nat)*1) ((n:Int) - (i:Nat)) 1) where
 mem:=by simp
 obj:=λi h st b hb=>by
  have e:b=it:=by simpa using hb
  subst e
  exact⟨_,st,λv z=>by
   have z':Data.fields _=Data.cell v:=z
   cases z'⟩
 keep:=λi h h' st k=>k it (by simp) _ st
 item:=by
  intro X hP hw hK hc i pins s σ H E I hf st hg
  subst hP hw hK
  obtain⟨f0,f1,f2,f3,f4,f5⟩:=hf it (by simp)
  have W:=Walks.range (prog:=X.prog) (w:=X.w) (I.ok.hd hc) it lo 1 n
  refine W.item i s _ _ hg st λv h' tk hv st' kk=>?_
  obtain⟨t,rfl⟩:=hv
  have I1:Inv X pins σ H { s with heap:=h',toks:=tk }:=I.turned (λb o hb e=>kk b o (by simpa using hb) e) f0 f1 f3 f4 f5
  refine⟨_,rfl,sI (s:={ s with heap:=h',toks:=tk }) (n:="range_iterator") st' rfl rfl (by decide) ⟨.int (lo+i),H,I1,⟨t, ?_⟩,⟨rfl,rfl⟩,st',λb hb=>(hf b hb).1⟩⟩
  rw[Int.mul_one]
 done:=by
  intro X hP hw hK hc i pins s σ H E I hf st hg
  subst hP hw hK
  obtain⟨f0,f1,f2,f3,f4,f5⟩:=hf it (by simp)
  exact wpAny_pyNext_range_end (I.ok.hd hc) st (by have:n<=i:=hg;omega) λh' eb=>⟨rfl,I.turned (t':=s.toks) (λb o hb e=>eb b o hb e) f0 f1 f3 f4 f5⟩
 self:=λ_ _ _ _ _ st h=>wpAny_pyIter_rangeiter st h
section
variable {X:Cx}{tg:Expr}
def E7 (K:PySem.W.Frag) (tl:TE):TI:=λσ H R=>tl σ H λx H1=>∃a,x=.ref a/\(∃xs,SqL K H1 a xs)/\R (Itl K a) H1
def FJ (K:PySem.W.Frag) (tl:TE):TI:=λσ H R=>tl σ H λx H1=>∃a,x=.ref a/\(∃xs,SqT K H1 a xs)/\R (Itt K a) H1
theorem AK {l:Expr}{tl:TE}(hl:PE X l tl):PI X tg l (E7 X.K tl):=by
 intro pins s σ H R I h
 refine thn (hl pins s σ H _ I h) λv s1 ⟨x,H1,I1,r1,q1⟩=>?_
 obtain⟨a,e,⟨xs,hq⟩,q⟩:=q1
 subst e
 cases r1
 obtain⟨its,rv,p,hz⟩:=I1.list hq
 refine wpAny_pyIter_list p.isList ?_
 refine⟨s1.heap.objs.size,[s1.heap.objs.size],_,_,H1,rfl,I1.kept (t':=s1.toks) λb o e=>Heap.get?_push_of_some _ e,xO a _,⟨_,Heap.get?_push_size _ rfl,rfl,rfl⟩,λb hb=>?_,q⟩
 have e:b=s1.heap.objs.size:=by simpa using hb
 subst e
 exact I1.fpOk (Nat.le_refl _) (I1.hok.fresh (Nat.le_refl _))
theorem Dg {l:Expr}{tl:TE}(hl:PE X l tl):PI X tg l (FJ X.K tl):=by
 intro pins s σ H R I h
 refine thn (hl pins s σ H _ I h) λv s1 ⟨x,H1,I1,r1,q1⟩=>?_
 obtain⟨a,e,⟨xs,hq⟩,q⟩:=q1
 subst e
 cases r1
 obtain⟨its,rv,p,hz⟩:=I1.tuple hq
 refine wpAny_pyIter_tuple (show s1.heap.IsTuple a its.toArray from p) ?_
 refine⟨s1.heap.objs.size,[s1.heap.objs.size],_,_,H1,rfl,I1.kept (t':=s1.toks) λb o e=>Heap.get?_push_of_some _ e,vc a _,⟨_,Heap.get?_push_size _ rfl,rfl,rfl⟩,λb hb=>?_,q⟩
 have e:b=s1.heap.objs.size:=by simpa using hb
 subst e
 exact I1.fpOk (Nat.le_refl _) (I1.hok.fresh (Nat.le_refl _))
theorem yP {pins:List (Addr×Obj)}{σ:St}{H:Hp}{s:Shared}{R:It->Hp->Prop}{E:Value->Shared->Prop}{lo hi:Int}{t u v:Tok}{tk:Nat}(I:Inv X pins σ H s) (h1 : -(2 ^ 62)<=lo) (h2:lo<2 ^ 62) (h3 : -(2 ^ 62)<=hi) (h4:hi<2 ^ 62)
  (q:R (Itr lo (hi - lo).toNat) H):wpAny (model X.prog X.w) X.A (pyIter (.ref s.heap.objs.size)) (PIE X pins σ tg R) E { s with heap:=s.heap.push { cls:=.type "range",data:=.fields #[.int lo t,.int hi u,.int 1 v] },toks:=tk }:=by
 refine wpAny_pyIter_range (IsRange.new ..) (small_one h1 h2 h3 h4) ?_
 have I1:Inv X pins σ H { s with heap:=s.heap.push { cls:=.type "range",data:=.fields #[.int lo t,.int hi u,.int 1 v] },toks:=tk }:=I.kept λb o e=>Heap.get?_push_of_some _ e
 refine⟨(s.heap.push { cls:=.type "range",data:=.fields #[.int lo t,.int hi u,.int 1 v] }).objs.size,[(s.heap.push { cls:=.type "range",data:=.fields #[.int lo t,.int hi u,.int 1 v] }).objs.size],_,_,H,rfl,
  I1.kept (t':=tk) λb o e=>Heap.get?_push_of_some _ e,ve _ lo (hi - lo).toNat, ?_,λb hb=>?_,q⟩
 ·have e1:lo+((0:Nat):Int)*1=lo:=by simp
  have e2:(((hi - lo).toNat:Nat):Int) - ((0:Nat):Int)=Builtin.Range.rangeSize lo hi 1:=by rw[rangeSize_one];split<;>omega
  show IsRangeIter _ _ (lo+((0:Nat):Int)*1) ((((hi - lo).toNat:Nat):Int) - ((0:Nat):Int)) 1
  rw[e1,e2]
  exact Heap.get?_push_size _ rfl
 ·have e:b=(s.heap.push { cls:=.type "range",data:=.fields #[.int lo t,.int hi u,.int 1 v] }).objs.size:=by simpa using hb
  subst e
  exact I1.fpOk (Nat.le_refl _) (I1.hok.fresh (Nat.le_refl _))
def E8 (ta:TA):TI:=λσ H R=>ta σ H λvs H1=>∃j:Int,vs=[.int j]/\-(2 ^ 62)<=j/\j<2 ^ 62/\R (Itr 0 j.toNat) H1
theorem xP {a:Expr}{ta:TA}{p pos:Pos}(hg:Gl X "range") (hm:X.mg "range" = none) (ha:PA X [a] ta) (hs:starEach [a] X.env=[(false,eval a X.env)]:=by rfl):PI X tg (.Call (.Name "range" p) [a] [] pos) (E8 ta):=by
 intro pins s σ H R I h
 refine Call_ (kM I hg hm boot_range (PyProof.Rows.callWith_type1 (thn (ha pos pins s σ H _ I h) λus s1 ⟨vs,H1,I1,r1,q1⟩=>?_) hs rfl))
 obtain⟨j,e,q1,q2,q⟩:=q1
 subst e
 cases r1 with
 | cons r rr =>
  cases rr
  obtain⟨t,rfl⟩:=r
  exact call_range_1 (yP I1 (by omega) (by omega) q1 q2 (by simpa using q))
def Dh (wi:TI) (g:TG) (tb:TS):TS:=λD σ H=>wi σ H λJ H1=>∃W:Nat->Nat->St->Hp->Prop,(∃m,W 0 m σ H1)/\∀i m σ H,W i m σ H ->
 (J.stop i H/\D.nx σ H)∨(J.go i H/\∃N:St->Hp->Prop,(∀σ' H',N σ' H'->∃m',m'<m/\W (i+1) m' σ' H')/\∀x H',J.yld i H x H'->g x σ H' λσ2 H2=>tb { D with nx:=N,ct:=N,bk:=D.nx } σ2 H2)
def kO (fp:List Addr) (h:Heap):List (Addr×Obj):=fp.filterMap λb=>(h.get? b).map λo=>(b,o)
theorem gC {fp:List Addr}{h:Heap}{b:Addr}{o:Obj}(hb:b∈fp) (e:h.get? b=some o):(b,o)∈kO fp h:=List.mem_filterMap.mpr ⟨b,hb,by rw[e];rfl⟩
theorem xQ {fp:List Addr}{h:Heap}{p:Addr×Obj}(hp:p∈kO fp h):p.1∈fp/\h.get? p.1=some p.2:=by
 obtain⟨b,hb,e⟩:=List.mem_filterMap.mp hp
 cases q:h.get? b with
 | none=>rw[q]at e;cases e
 | some o =>
  rw[q]at e
  have e':(b,o)=p:=Option.some.inj e
  subst e'
  exact⟨hb,q⟩
theorem Inv.pinned {pins:List (Addr×Obj)}{σ:St}{H:Hp}{s:Shared}{fp:List Addr}(I:Inv X pins σ H s) (hf:∀b∈fp,kN X pins H b) (ho:∀b∈fp,∃o,s.heap.get? b=some o/\∀v,o.data≠.cell v):Inv X (pins++kO fp s.heap) σ H s :=
 I.pins_of λp hp=>(List.mem_append.mp hp).elim (λz=>I.pin p (mY _ z)) λz=>by
  obtain⟨hb,e⟩:=xQ z
  obtain⟨f0,f1,f2,_⟩:=hf p.1 hb
  obtain⟨o,e',d⟩:=ho p.1 hb
  rw[e]at e';cases e'
  exact⟨e,f0,f1,f2,d⟩
theorem Inv.unpinned {pins pl:List (Addr×Obj)}{σ:St}{H:Hp}{s:Shared}(I:Inv X (pins++pl) σ H s):Inv X pins σ H s:=I.pins_of λp hp=>I.pin p (mY _ (List.mem_append_left _ hp))
theorem yQ {iter:Expr}{body:List Stmt}{wi:TI}{g:TG}{tb:TS}{pos:Pos}(hp:PassesOwn (model X.prog X.w) X.A X.env X.xe) (hc:X.calm=true) (hi:PI X tg iter wi) (hg:PG X tg g) (hb:PSs X body tb)
  (hs:∀x,foldedSetIterable iter X.env x=pure x:=by intro _;rfl):PS X (.For tg iter body [] pos) (Dh wi g tb):=by
 intro pins s σ H D I h
 refine wpAny_For (thn (hi pins s σ H _ I h) λv s1 h1=>thn h1 λitv s2 h2=>?_) hs
 obtain⟨it,fp,tn,J,H2,e,I2,T,st2,f2,W,⟨m0,w0⟩,turn⟩:=h2
 subst e
 -- what stays true of the iterator's objects through the loop
 have stat:∀ {H':Hp},(∀b∈fp,H' b=none)->∀b∈fp,kN X pins H' b:=λhn b hb=>⟨hn b hb,(f2 b hb).2⟩
 refine codeAny_forLoop_any (λn s'=>∃i σ' H',Inv X pins σ' H' s'/\tn i s'.heap/\(∀b∈fp,H' b=none)/\W i n σ' H') ?_ m0 ⟨0,σ,H2,I2,st2,λb hb=>(f2 b hb).1,w0⟩
 rintro n s3 ⟨i,σ3,H3,I3,st3,fr3,w3⟩
 rcases turn i n σ3 H3 w3 with ⟨stop,qn⟩|⟨go,N,hN,step⟩
 ·refine wpAny_passesOwn hp (thn (T.done X rfl rfl rfl hc i pins s3 σ3 H3 X.xe I3 (stat fr3) st3 stop) λr s4 ⟨hr,I4⟩=>?_)
  subst hr
  exact wpAny_execs_nil ⟨σ3,H3,I4,qn⟩
 ·refine wpAny_passesOwn hp (thn (T.item X rfl rfl rfl hc i pins s3 σ3 H3 X.xe I3 (stat fr3) st3 go) λr s4 ⟨u,hr,h4⟩=>?_)
  subst hr
  refine wpAny_passesOwn hp (thn h4 λ_ s5 ⟨x,H5,I5,r5,y5,st5,fr5⟩=>?_)
  have I5':=I5.pinned (stat fr5) (T.obj _ _ st5)
  refine wpAny_passesOwn hp (thn (hg _ s5 σ3 H5 x u _ I5' r5 (step x H5 y5)) λ_ s6 ⟨σ6,H6,I6,q6⟩=>?_)
  refine wpAny_passesOwn hp (thn (hb _ s6 σ6 H6 _ I6 q6) λf s7 q7=>?_)
  have again:∀ {σ7:St}{H7:Hp},Inv X (pins++kO fp s5.heap) σ7 H7 s7->N σ7 H7->∃m,m<n/\∃i σ' H',Inv X pins σ' H' s7/\tn i s7.heap/\(∀b∈fp,H' b=none)/\W i m σ' H':=λ{σ7 H7} I7 n7=>by
   obtain⟨m',hm,w7⟩:=hN σ7 H7 n7
   refine⟨m',hm,i+1,σ7,H7,I7.unpinned,T.keep _ _ _ st5 λb hb o e=>(I7.pin (b,o) (mY _ (mY _ (gC hb e)))).1,λb hb=>?_,w7⟩
   obtain⟨o,e,d⟩:=T.obj _ _ st5 b hb
   exact(I7.pin (b,o) (mY _ (mY _ (gC hb e)))).2.1
  cases f with
  | next=>obtain⟨σ7,H7,I7,n7⟩:=q7;exact again I7 n7
  | cont=>obtain⟨σ7,H7,I7,n7⟩:=q7;exact again I7 n7
  | brk=>obtain⟨σ7,H7,I7,q7⟩:=q7;exact⟨σ7,H7,I7.unpinned,q7⟩
  | ret v=>obtain⟨x7,σ7,H7,I7,r7,q7⟩:=q7;exact⟨x7,σ7,H7,I7.unpinned,r7,q7⟩
end
abbrev R2:=V->V->Hp->VK->Prop
def OpR (X:Cx) (f:Value->Value->Sem Value) (r:R2):Prop :=
 ∀(pins:List (Addr×Obj)) (s:Shared) (σ:St) (H:Hp) (x y:V) (v u:Value) (Q:VK),Inv X pins σ H s->aY x v->aY y u->r x y H Q ->
  wpAny (model X.prog X.w) X.A (f v u) (EP X pins σ Q) X.xe s
def UnR (X:Cx) (f:Value->Sem Value) (r:V->Hp->VK->Prop):Prop :=
 ∀(pins:List (Addr×Obj)) (s:Shared) (σ:St) (H:Hp) (x:V) (v:Value) (Q:VK),Inv X pins σ H s->aY x v->r x H Q ->
  wpAny (model X.prog X.w) X.A (f v) (EP X pins σ Q) X.xe s
def cA (X:Cx) (f:Value) (r:List V->Hp->VK->Prop):Prop :=
 ∀(pins:List (Addr×Obj)) (s:Shared) (σ:St) (H:Hp) (xs:List V) (us:List Value) (Q:VK),Inv X pins σ H s->bc xs us->r xs H Q ->
  wpAny (model X.prog X.w) X.A (call f us) (EP X pins σ Q) X.xe s
def tOp (r:R2) (ta tb:TE):TE:=λσ H Q=>ta σ H λx H1=>tb σ H1 λy H2=>r x y H2 Q
def tUn (r:V->Hp->VK->Prop) (ta:TE):TE:=λσ H Q=>ta σ H λx H1=>r x H1 Q
def rI (C:Int->Int->Prop) (g:Int->Int->V):R2:=λx y H Q=>∃i j,x=.int i/\y=.int j/\C i j/\Q (g i j) H
def rI0 (g:Int->Int->V):R2:=λx y H Q=>∃i j,x=.int i/\y=.int j/\Q (g i j) H
def rU (g:Int->V):V->Hp->VK->Prop:=λx H Q=>∃i,x=.int i/\Q (g i) H
section
variable {X:Cx}{a b c:Expr}{ta tb tc:TE}{pos:Pos}
theorem Di (ha:PE X a ta) (hb:PE X b tb) {pins:List (Addr×Obj)}{s:Shared}{σ:St}{H:Hp}{R:V->V->Hp->Prop}(I:Inv X pins σ H s)
  (h:ta σ H λx H1=>tb σ H1 λy H2=>R x y H2) {Q:Value->Shared->Prop}{f:Value->Value->Sem Value}
  (hf:∀v u s2 x y H2,Inv X pins σ H2 s2->aY x v->aY y u->R x y H2->wpAny (model X.prog X.w) X.A (f v u) Q X.xe s2) :
  wpAny (model X.prog X.w) X.A (eval a X.env) (λv s₁=>wpAny (model X.prog X.w) X.A (eval b X.env) (λu s₂=>wpAny (model X.prog X.w) X.A (f v u) Q X.xe s₂) X.xe s₁) X.xe s:=by
 refine thn (ha pins s σ H _ I h) λv s1 ⟨x,H1,I1,r1,q1⟩=>?_
 refine thn (hb pins s1 σ H1 _ I1 q1) λu s2 ⟨y,H2,I2,r2,q2⟩=>?_
 exact hf v u s2 x y H2 I2 r1 r2 q2
theorem E9 {op:Operator}{r:R2}(ho:OpR X (binaryOp op) r) (ha:PE X a ta) (hb:PE X b tb):PE X (.BinOp a op b pos) (tOp r ta tb):=by
 intro pins s σ H Q I h
 exact wpAny_BinOp (Di ha hb I h λv u s2 x y H2 I2 rx ry q=>ho pins s2 σ H2 x y v u Q I2 rx ry q)
theorem EA {op:UnaryOp}{r:V->Hp->VK->Prop}(ho:UnR X (unaryOp op) r) (ha:PE X a ta):PE X (.UnaryOp op a pos) (tUn r ta):=by
 intro pins s σ H Q I h
 exact UnaryOp_ (thn (ha pins s σ H _ I h) λv s1 ⟨x,H1,I1,r1,q1⟩=>ho pins s1 σ H1 x v Q I1 r1 q1)
theorem opI {f:Value->Value->Sem Value}{C:Int->Int->Prop}{g:Int->Int->Int}
  (rule:∀(i j:Int) (t u:Tok) (s:Shared) (Q:Value->Shared->Prop) (E:Value->Shared->Prop),C i j->Q (.int (g i j) s.toks) { s with toks:=s.toks+1 }->wpAny (model X.prog X.w) X.A (f (.int i t) (.int j u)) Q E s) :
  OpR X f (rI C λi j=>.int (g i j)):=by
 intro pins s σ H x y v u Q I rx ry h
 obtain⟨i,j,rfl,rfl,hc,q⟩:=h
 obtain⟨t,rfl⟩:=rx
 obtain⟨t',rfl⟩:=ry
 exact rule i j t t' s _ _ hc ⟨.int (g i j),H,I.tok _,⟨_,rfl⟩,q⟩
theorem EB {f:Value->Value->Sem Value}{g:Int->Int->Int}
  (rule:∀(i j:Int) (t u:Tok) (s:Shared) (Q:Value->Shared->Prop) (E:Value->Shared->Prop),Q (.int (g i j) s.toks) { s with toks:=s.toks+1 }->wpAny (model X.prog X.w) X.A (f (.int i t) (.int j u)) Q E s) :
  OpR X f (rI0 λi j=>.int (g i j)):=by
 intro pins s σ H x y v u Q I rx ry h
 obtain⟨i,j,rfl,rfl,q⟩:=h
 obtain⟨t,rfl⟩:=rx
 obtain⟨t',rfl⟩:=ry
 exact rule i j t t' s _ _ ⟨.int (g i j),H,I.tok _,⟨_,rfl⟩,q⟩
theorem Dj {f:Value->Value->Sem Value}{g:Int->Int->Bool}
  (rule:∀(i j:Int) (t u:Tok) (s:Shared) (Q:Value->Shared->Prop) (E:Value->Shared->Prop),Q (.bool (g i j)) s->wpAny (model X.prog X.w) X.A (f (.int i t) (.int j u)) Q E s) :
  OpR X f (rI0 λi j=>.bl (g i j)):=by
 intro pins s σ H x y v u Q I rx ry h
 obtain⟨i,j,rfl,rfl,q⟩:=h
 obtain⟨t,rfl⟩:=rx
 obtain⟨t',rfl⟩:=ry
 exact rule i j t t' s _ _ ⟨.bl (g i j),H,I,rfl,q⟩
def EC (i j:Int):Prop:=0<j/\j<1073741824
def AL (i j:Int):Prop:=(-(2 ^ 64)<i/\i<2 ^ 64)∨(-(2 ^ 64)<j/\j<2 ^ 64)
theorem AL.ok {i j:Int}(h:AL i j):IntMulOk i j:=by
 rcases h with ⟨h1,h2⟩|⟨h1,h2⟩
 ·exact .of_left (intBits_le_64 h1 h2)
 ·exact .of_right (intBits_le_64 h1 h2)
theorem Dk:OpR X (binaryOp .Add) (rI0 λi j=>.int (i+j)):=EB λ_ _ _ _ _ _ _ q=>add_int q
theorem Dl:OpR X (binaryOp .Sub) (rI0 λi j=>.int (i - j)):=EB λ_ _ _ _ _ _ _ q=>sub_int q
theorem Dm:OpR X (binaryOp .Mult) (rI AL λi j=>.int (i*j)):=opI λ_ _ _ _ _ _ _ hc q=>mul_int q hc.ok
theorem AM:OpR X (binaryOp .FloorDiv) (rI EC λi j=>.int (i / j)):=opI λi j _ _ _ _ _ hc q=>by
 have h1:(0:Int)<j:=hc.1
 have h2:j<1073741824:=hc.2
 exact floordiv_int (by omega) (by rw[Int.fdiv_eq_ediv_of_nonneg i (by omega)];exact q) (.inl (PyProof.noPylong_small (by omega)))
theorem Dn:OpR X (binaryOp .Mod) (rI (λ_ j=>0<j) λi j=>.int (i % j)):=opI λi j _ _ _ _ _ hc q=>by
 have h1:(0:Int)<j:=hc
 exact mod_int' (by omega) (by rw[Int.fmod_eq_emod_of_nonneg i (by omega)];exact q)
theorem unI {f:Value->Sem Value}{g:Int->Int}
  (rule:∀(i:Int) (t:Tok) (s:Shared) (Q:Value->Shared->Prop) (E:Value->Shared->Prop),Q (.int (g i) s.toks) { s with toks:=s.toks+1 }->wpAny (model X.prog X.w) X.A (f (.int i t)) Q E s) :
  UnR X f (rU λi=>.int (g i)):=by
 intro pins s σ H x v Q I rx h
 obtain⟨i,rfl,q⟩:=h
 obtain⟨t,rfl⟩:=rx
 exact rule i t s _ _ ⟨.int (g i),H,I.tok _,⟨_,rfl⟩,q⟩
theorem Do:UnR X (unaryOp .USub) (rU λi=>.int (-i)):=unI λ_ _ _ _ _ q=>neg_int q
theorem xR:OpR X (binaryOp .Add) (λx y H Q=>∃i k,x=.int i/\y=.bl k/\Q (.int (i+b2i k)) H):=by
 intro pins s σ H x y v u Q I rx ry h
 obtain⟨i,k,rfl,rfl,q⟩:=h
 obtain⟨t,rfl⟩:=rx
 cases ry
 exact add_int_bool ⟨.int (i+b2i k),H,I.tok _,⟨_,rfl⟩,q⟩
end
section
variable {X:Cx}{a b c:Expr}{ta tb tc:TE}{pos:Pos}
theorem ED:OpR X (compareOp .Lt) (rI0 λi j=>.bl (decide (i<j))):=Dj λ_ _ _ _ _ _ _ q=>lt_int q
theorem EE:OpR X (compareOp .LtE) (rI0 λi j=>.bl (decide (i<=j))):=Dj λ_ _ _ _ _ _ _ q=>le_int q
theorem EF:OpR X (compareOp .Gt) (rI0 λi j=>.bl (decide (j<i))):=Dj λ_ _ _ _ _ _ _ q=>gt_int q
theorem OpR.or {f:Value->Value->Sem Value}{r r':R2}(h:OpR X f r) (h':OpR X f r'):OpR X f (λx y H Q=>r x y H Q∨r' x y H Q):=by
 intro pins s σ H x y v u Q I rx ry q
 rcases q with q|q
 ·exact h pins s σ H x y v u Q I rx ry q
 ·exact h' pins s σ H x y v u Q I rx ry q
theorem FK (b:Expr) {op:CmpOp}(h:op≠.In:=by decide) (h2:op≠.NotIn:=by decide):behindInMarks op b=false:=by
 have e1:(op == CmpOp.In)=false:=by cases op<;>first|rfl|exact absurd rfl h
 have e2:(op == CmpOp.NotIn)=false:=by cases op<;>first|rfl|exact absurd rfl h2
 cases b<;>simp[behindInMarks,e1,e2]
theorem AN {op:CmpOp}{r:R2}(ho:OpR X (compareOp op) r) (ha:PE X a ta) (hb:PE X b tb) (hm:behindInMarks op b=false):PE X (.Compare a [op] [b] pos) (tOp r ta tb):=by
 intro pins s σ H Q I h
 exact wpAny_Compare1 (Di ha hb I h λv u s2 x y H2 I2 rx ry q=>ho pins s2 σ H2 x y v u Q I2 rx ry q) hm
def EG (t:TE):TT:=λσ H Q=>t σ H λx H'=>∃k,x=.bl k/\Q k H'
theorem AO {op:CmpOp}{r:R2}(ho:OpR X (compareOp op) r) (ha:PE X a ta) (hb:PE X b tb) (hm:behindInMarks op b=false):PT X (.Compare a [op] [b] pos) (EG (tOp r ta tb)):=by
 intro pins s σ H Q I h
 refine wpAny_isTrue_Compare1 (thn (ha pins s σ H _ I h) λv s1 ⟨x,H1,I1,r1,q1⟩=>thn (hb pins s1 σ H1 _ I1 q1) λu s2 ⟨y,H2,I2,r2,q2⟩ =>
  thn (ho pins s2 σ H2 x y v u _ I2 r1 r2 q2) λc s3 ⟨z,H3,I3,r3,k,e,q3⟩=>?_) hm
 subst e
 cases r3
 exact wpAny_truthy_bool ⟨H3,I3,q3⟩
def yR (r r':R2) (ta tb tc:TE):TE:=λσ H Q=>ta σ H λx H1=>tb σ H1 λy H2=>r x y H2 λz H3=>∃k,z=.bl k /\
 (if k=true then tc σ H3 λw' H4=>r' y w' H4 Q else Q (.bl false) H3)
theorem yS {op op':CmpOp}{r r':R2}(ho:OpR X (compareOp op) r) (ho':OpR X (compareOp op') r') (ha:PE X a ta) (hb:PE X b tb) (hc:PE X c tc)
  (hm:lastMarks [op,op'] [b,c]=false:=by with_unfolding_all rfl):PE X (.Compare a [op,op'] [b,c] pos) (yR r r' ta tb tc):=by
 intro pins s σ H Q I h
 refine Compare_chain (thn (ha pins s σ H _ I h) λv s1 ⟨x,H1,I1,r1,q1⟩=>chain_link (thn (hb pins s1 σ H1 _ I1 q1) λu s2 ⟨y,H2,I2,r2,q2⟩ =>
  thn (ho pins s2 σ H2 x y v u _ I2 r1 r2 q2) λd s3 ⟨z,H3,I3,r3,k,e,q3⟩=>?_)) hm
 subst e
 cases r3
 refine wpAny_truthy_bool ?_
 cases k with
 | false=>exact ite_ff ⟨.bl false,H3,I3,rfl,q3⟩
 | true=>exact ite_tt (chain_last (thn (hc pins s3 σ H3 _ I3 q3) λw' s4 ⟨z',H4,I4,r4,q4⟩=>ho' pins s4 σ H4 y z' u w' Q I4 r2 r4 q4))
theorem kP:(sizeLine:Nat)<2 ^ 63:=by rw[sizeLine_eq];decide
theorem vg:OpR X (binaryOp .Add) (λx y H Q=>∃i j,x=.str i/\y=.str j/\i.length+j.length<=sizeLine/\Q (.str (i++j)) H):=by
 intro pins s σ H x y v u Q I rx ry h
 obtain⟨i,j,rfl,rfl,hz,q⟩:=h
 obtain⟨t,rfl⟩:=rx
 obtain⟨t',rfl⟩:=ry
 exact add_str (λt' tk=>⟨.str (i++j),H,I.tok _,⟨_,rfl⟩,q⟩) hz
theorem jd {x:V}{us:List Value}(r:bc [x] us):∃u,us=[u]/\aY x u:=by
 cases r with
 | cons r1 r2=>cases r2;exact⟨_,rfl,r1⟩
theorem xS:cA X (.type "int") (λxs H Q=>(∃i,xs=[.int i]/\Q (.int i) H) ∨ ∃k,xs=[.bl k]/\Q (.int (if k then 1 else 0)) H):=by
 intro pins s σ H xs us Q I r h
 rcases h with ⟨i,rfl,q⟩|⟨k,rfl,q⟩
 ·obtain⟨u,rfl,t,rfl⟩:=jd r
  exact call_int_int ⟨.int i,H,I,⟨_,rfl⟩,q⟩
 ·obtain⟨u,rfl,r1⟩:=jd r
  cases r1
  exact call_int_bool ⟨.int (if k then 1 else 0),H,I.tok _,⟨_,rfl⟩,q⟩
end
structure ObjM (h:Heap) (x dx C:Addr) (mA:Str->Option Value):Prop where
 obj:h.get? x=some (PySem.W.instObj C dx)
 ns:h.Ns1 dx mA
 ne:dx≠x
theorem xT {h:Heap}{dx:Addr}{mA:Str->Option Value}(n:h.Ns1 dx mA):∃od,h.get? dx=some od/\∀name,PySem.W.lookIn name od=some (mA name):=by
 obtain⟨o,es,ep,ho,hd,hk,_,hm⟩:=n
 refine⟨o,ho,λname=>?_⟩
 have e:=hm name
 unfold nsFind findBy at e
 rw[←Array.find?_toList]at e
 unfold PySem.W.lookIn
 rw[hd]
 dsimp only
 split
 ·rename_i y q
  rw[q]at e
  exact congrArg some e
 ·rename_i q
  rw[q]at e
  have a:es.toList.any (·.refKey)=false:=by
   rw[List.any_eq_false]
   intro y hy
   obtain⟨z,t,hkey⟩:=hk y (Array.mem_toList_iff.mp hy)
   simp[DictEntry.refKey,hkey]
  have a':¬es.toList.any (·.refKey)=true:=by rw[a];exact Bool.false_ne_true
  rw[if_neg a']
  exact congrArg some e
theorem ObjM.look {h:Heap}{x dx C:Addr}{mA:Str->Option Value}(I:ObjM h x dx C mA):∃od,PySem.W.InstAt h x (PySem.W.instObj C dx) C (some od)/\∀name,PySem.W.lookIn name od=some (mA name) :=
 let ⟨od,ho,hl⟩:=xT I.ns
 ⟨od,⟨I.obj,rfl,rfl,ho⟩,hl⟩
section
variable {prog:Program}{w:World}{A:Around}{E:Value->Shared->Prop}{s:Shared}{K:PySem.W.Frag}{x dx C f:Addr}{mA:Str->Option Value}{name:Str}{v:Value}
theorem yT {pl:Sem Bool}{Q:Value×List Value->Shared->Prop}(X:K.In s.heap) (I:ObjM s.heap x dx C mA) (hg:PySem.W.plainGet K C name=true)
  (hf:PySem.W.findIn K (.ref C) name=some (some (.ref f))) (ht:PySem.W.isFn K (.ref f)=true) (hv:mA name=none) (h:Q (.ref f,[.ref x]) s) :
  wpAny (model prog w) A (getMethod (.ref x) name pl) Q E s:=by
 obtain⟨od,J,hl⟩:=I.look
 exact PySem.W.method_fn X J (PySem.W.plainGet_of hg).1 (PySem.W.plainGet_of hg).2 hf (beq_iff_eq.mp ht) (by show(PySem.W.lookIn name od).map (·.isSome)=some false;rw[hl,hv];rfl) h
theorem EH {R:Result->Shared->Prop}{vs:List Value}{kw:List (Str×Value)}(X:K.In s.heap) (hm:PySem.W.makesIn K C=true)
  (hi:PySem.W.findIn K (.ref C) "__init__" = some (some (.ref f))) (hf:PySem.W.typeIn K (.ref f)=some (.type "function"))
  (h:codeAny (model prog w) (A.under (.builtin "type.__call__" ⟨.ref C::vs,kw⟩)) (.call (.ref f) ⟨.ref (s.heap.objs.size+1)::vs,kw⟩) (PySem.W.InitBack (s.heap.objs.size+1) R)
   { s with heap:=(s.heap.push PySem.W.emptyDict).push (PySem.W.instObj C s.heap.objs.size) }) :
  codeAny (model prog w) A (.call (.ref C) ⟨vs,kw⟩) R s:=by
 obtain⟨hh,g,d,t,os⟩:=s
 exact PySem.W.make_core (PySem.W.makes_of X hm) (PySem.W.looks_findIn X hi) (λself=>PySem.W.bind_fn X self hf) (.inl rfl) h
end
theorem mC.none_of {o:Option Value}(r:mC none o):o=none:=by
 cases o with
 | none=>rfl
 | some u=>exact(show False from r).elim
section
variable {P:Program}{w:World}{H H':Hp}{h h':Heap}{a C dx:Addr}{fs fs':List (Str×V)}
theorem AQ (hok:HOk P w H h) (e:H a=some (.ins C dx fs)):∃mA,ObjM h a dx C mA/\(∀f,mC (fs.lookup f) (mA f))/\PySem.Within mA (fs.map (·.1))/\fs.length<=1000/\H dx=some (.own a):=by
 obtain⟨d,z,ne,ob,mA,n,r,q⟩:=(show ca P w H h a (.ins C dx fs)from hok a _ e)
 exact⟨mA,⟨ob,n,ne⟩,r,q,z,d⟩
end
structure Cls (K:PySem.W.Frag) (C:Addr):Prop where
 pg:PySem.W.plainGet K C Str.empty=true
 hd:PySem.W.hasDictIn K C=true
 po:PySem.W.plainOver K C=true
 sa:PySem.W.findIn K (.ref C) "__setattr__" = some (some (.builtin "object.__setattr__"))
theorem Cls.get {K:PySem.W.Frag}{C:Addr}(c:Cls K C) (f:Str):PySem.W.plainGet K C f=true:=c.pg
def Dp (K:PySem.W.Frag) (C:Addr) (f:Str):Prop:=PySem.W.findIn K (.ref C) f=some none
structure Meth (K:PySem.W.Frag) (C:Addr) (m:Str) (f:Addr):Prop where
 at_:PySem.W.findIn K (.ref C) m=some (some (.ref f))
 fn:PySem.W.isFn K (.ref f)=true
 kp:PySem.W.keepIn K (.ref f)=true
section
variable {X:Cx}{pins:List (Addr×Obj)}{σ:St}{H:Hp}{s:Shared}{a C dx:Addr}{fs:List (Str×V)}{f:Str}{v:V}{A:Around}{E:Value->Shared->Prop}
theorem vh {m:Str}{g:Addr}{pl:Sem Bool}{Q:Value×List Value->Shared->Prop}(I:Inv X pins σ H s) (e:H a=some (.ins C dx fs)) (c:Cls X.K C) (k:Meth X.K C m g) (l:fs.lookup m=none)
  (h:Q (.ref g,[.ref a]) s):wpAny (model X.prog X.w) A (getMethod (.ref a) m pl) Q E s:=by
 obtain⟨mA,O,r,_,_,_⟩:=AQ I.hok e
 have hn:mA m=none:=mC.none_of (by rw[←l];exact r m)
 exact yT I.kIn O (c.get m) k.at_ k.fn hn h
theorem Inv.made (I:Inv X pins σ H s):Inv X pins σ (upd (upd H s.heap.objs.size (.own (s.heap.objs.size+1))) (s.heap.objs.size+1) (.ins C s.heap.objs.size []))
  { s with heap:=(s.heap.push PySem.W.emptyDict).push (PySem.W.instObj C s.heap.objs.size) }:=by
 have e1:(s.heap.push PySem.W.emptyDict).get? s.heap.objs.size=some PySem.W.emptyDict:=Heap.get?_push_size s.heap rfl
 have e2:((s.heap.push PySem.W.emptyDict).push (PySem.W.instObj C s.heap.objs.size)).get? (s.heap.objs.size+1)=some (PySem.W.instObj C s.heap.objs.size):=by
  have:=Heap.get?_push_size (s.heap.push PySem.W.emptyDict) (o:=PySem.W.instObj C s.heap.objs.size) rfl
  rwa [Heap.size_push]at this
 have e3:(s.heap.push PySem.W.emptyDict).Ns s.heap.objs.size (λ_=>none):=⟨PySem.W.emptyDict,#[],_,e1,rfl,(λe he=>absurd he (by simp)),λ_=>rfl⟩
 have I1:=I.laid (a:=s.heap.objs.size) (o:=.own (s.heap.objs.size+1)) (h':=s.heap.push PySem.W.emptyDict) (t':=s.toks) (λb u q=>Heap.get?_push_of_some _ q) (Nat.le_refl _) ⟨_,e1⟩
 refine I1.laid (a:=s.heap.objs.size+1) (o:=.ins C s.heap.objs.size []) (t':=s.toks) (λb u q=>Heap.get?_push_of_some _ q) (Nat.le_of_eq (Heap.size_push _ _)) ?_
 have ne:s.heap.objs.size≠s.heap.objs.size+1:=Nat.ne_of_lt (Nat.lt_succ_self _)
 refine⟨by rw[aG ne,aI],Nat.zero_le _,ne,e2,λ_=>none,(Heap.Ns1.of_empty e3).at λo q=>Heap.get?_push_of_some _ q,λ_=>True.intro,λy hy=>absurd rfl hy⟩
end
def Gy (K:PySem.W.Frag) (ta:TE) (f:Str):TE:=λσ H Q=>ta σ H λx H1=>∃a C dx fs v,x=.ref a/\H1 a=some (.ins C dx fs)/\Cls K C/\Dp K C f/\fs.lookup f=some v/\Q v H1
section
variable {X:Cx}{o e value:Expr}{f:Str}{pos pos' tpos:Pos}{ta tv:TE}
theorem Ca {pl:Sem Bool}{m:Str}{apos:Pos}{args:List Expr}{pins:List (Addr×Obj)}{s:Shared}{σ:St}{H:Hp}{Q:Value->Shared->Prop}{te:TE}(he:PE X e te) (I:Inv X pins σ H s)
  (h:te σ H λx H1=>∃a C dx fs g,x=.ref a/\H1 a=some (.ins C dx fs)/\Cls X.K C/\Meth X.K C m g/\fs.lookup m=none /\
   ∀s1,Inv X pins σ H1 s1->wpAny (model X.prog X.w) X.A (callWith pos (.ref g) [.ref a] (backTo pos (starEach args X.env)) (backToKw pos (keywordEach [] X.env))) Q X.xe s1)
  (ht:eval (.Call (.Attribute e m apos) args [] pos) X.env=(do
   let ov ←eval e X.env
   standAt apos.atName
   let (f,first) ←holding [ov] (getMethod ov m pl)
   callWith pos f first (backTo pos (starEach args X.env)) (backToKw pos (keywordEach [] X.env)))) :
  wpAny (model X.prog X.w) X.A (eval (.Call (.Attribute e m apos) args [] pos) X.env) Q X.xe s:=by
 refine PySem.W.methodCall_KW (pl:=pl) (thn (he pins s σ H _ I h) λu s1 ⟨x,H1,I1,rx,a,C,dx,fs,g,ex,ea,c,k,l,q⟩=>?_) ht
 subst ex
 obtain rfl:u=Value.ref a:=rx
 exact vh I1 ea c k l (q s1 I1)
end
section
variable {X:Cx}{pins:List (Addr×Obj)}{σ:St}{H:Hp}{s:Shared}{A:Around}{E:Value->Shared->Prop}{Q:Value->Shared->Prop}{c:Value}{b:Bool}
inductive TyOf (K:PySem.W.Frag) (H:Hp):V->Value->Prop where
 | non:TyOf K H .non (.type "NoneType")
 | bl (x:Bool):TyOf K H (.bl x) (.type "bool")
 | int (i:Int):TyOf K H (.int i) (.type "int")
 | str (x:Str):TyOf K H (.str x) (.type "str")
 | flt (x:UInt64):TyOf K H (.flt x) (.type "float")
 | lst {a:Addr}{xs:List V}(e:H a=some (.lst xs)):TyOf K H (.ref a) (.type "list")
 | frz {a:Addr}{o:Obj}{xs:List V}(e:H a=some (.frz o (.lst xs))):TyOf K H (.ref a) (.type "list")
 | tup {a:Addr}{xs:List V}(e:H a=some (.tup xs)):TyOf K H (.ref a) (.type "tuple")
 | dK {a:Addr}{kvs:List (Key×V)}(e:H a=some (.dK kvs)):TyOf K H (.ref a) (.type "dict")
 | dT {a:Addr}{kvs:List (List Key×V)}(e:H a=some (.dT kvs)):TyOf K H (.ref a) (.type "dict")
 | ins {a C dx:Addr}{fs:List (Str×V)}(e:H a=some (.ins C dx fs)) (cl:Cls K C) (ha:PySem.W.findIn K (.ref C) "__class__" = some (some (.builtin "object.__class__")))
   (hn:PySem.W.specialIn K (.builtin "object.__class__") "__get__" = some (some (.builtin "getset_descriptor.__get__"))) (htk:PySem.W.takesIn K (.builtin "object.__class__")=some true)
   (hm:PySem.W.mroIn K C (.type "object")=some true):TyOf K H (.ref a) (.ref C)
end
structure Room (k:Nat) (A:Around):Prop where
 hd:A.handled=none
 dp:A.depth+3*k+5<recursionLimit
 un:A.units+16*k+200<cLine
theorem Room.mono {j k:Nat}{A:Around}(r:Room k A) (h:j<=k):Room j A:=⟨r.hd,by have:=r.dp;omega,by have:=r.un;omega⟩
theorem Room.deeper {k:Nat}{A:Around}(r:Room (k+1) A) (env:Env):Room k (A.deeper env) :=
 ⟨r.hd,by have:=r.dp;show A.depth+1+3*k+5<_;omega,by have:=r.un;show A.units+3+16*k+200<_;omega⟩
theorem Room.in1 {k:Nat}{A:Around}(r:Room (k+1) A):Room k A.in1 :=
 ⟨r.hd,by have:=r.dp;show A.depth+3*k+5<_;omega,by have:=r.un;show A.units+1+16*k+200<_;omega⟩
theorem Room.depth {k:Nat}{A:Around}(r:Room k A):A.depth<recursionLimit:=by have:=r.dp;omega
def EI:TA:=λ_ H Q=>Q [] H
def Cb (ta:TE) (tr:TA):TA:=λσ H Q=>ta σ H λx H1=>tr σ H1 λxs H2=>Q (x::xs) H2
section
variable {X:Cx}{e:Expr}{es:List Expr}{te:TE}{t:TA}{pos:Pos}
theorem jo:PA X [] EI:=λ_ _ _ _ H Q I h=>Calls.spliced_nil ⟨[],H,I,.nil,h⟩
theorem gD (ha:PE X e te) (hr:PA X es t) (hs:starEach (e::es) X.env=(false,eval e X.env)::starEach es X.env:=by rfl):PA X (e::es) (Cb te t):=by
 intro pos pins s σ H Q I h
 rw[hs]
 show wpAny _ _ (spliced ((false,eval e X.env)::backTo pos (starEach es X.env))) _ _ s
 refine Calls.spliced_cons (thn (ha pins s σ H _ I h) λu s1 ⟨x,H1,I1,r1,q1⟩=>?_)
 exact thn (hr pos pins s1 σ H1 _ I1 q1) λus s2 ⟨xs,H2,I2,r2,q2⟩=>⟨x::xs,H2,I2,.cons r1 r2,q2⟩
def EJ (t:TA):TE:=λσ H Q=>t σ H λxs H1=>xs.length<=sizeLine/\∀p,H1 p=none->Q (.ref p) (upd H1 p (.tup xs))
def FL (t:TA):TE:=λσ H Q=>t σ H λxs H1=>xs.length<=sizeLine/\∀p,H1 p=none->Q (.ref p) (upd H1 p (.lst xs))
theorem vi {x1} (h:PA X es t):PE X (.Tuple es x1 pos) (EJ t):=by
 intro pins s σ H Q I hq
 refine wpAny_Tuple_spliced (thn (h pos pins s σ H _ I hq) λus s1 ⟨xs,H1,I1,r,z,q⟩=>⟨by rw[←r.length];exact z, ?_⟩)
 have hf:H1 s1.heap.objs.size=none:=I1.hok.fresh (Nat.le_refl _)
 refine⟨.ref s1.heap.objs.size,upd H1 s1.heap.objs.size (.tup xs),I1.laid (t':=s1.toks) (λb u e=>Heap.get?_push_of_some _ e) (Nat.le_refl _) ?_,rfl,q _ hf⟩
 exact⟨z,us,r,⟨_,Heap.get?_push_size _ rfl,rfl,_,rfl⟩⟩
theorem Dq (h:PA X es t):PE X (.List es pos) (FL t):=by
 intro pins s σ H Q I hq
 refine wpAny_List_spliced (thn (h pos pins s σ H _ I hq) λus s1 ⟨xs,H1,I1,r,z,q⟩=>⟨by rw[←r.length];exact z, ?_⟩)
 have hf:H1 s1.heap.objs.size=none:=I1.hok.fresh (Nat.le_refl _)
 refine⟨.ref s1.heap.objs.size,upd H1 s1.heap.objs.size (.lst xs),I1.laid (t':=s1.toks) (λb u e=>Heap.get?_push_of_some _ e) (Nat.le_refl _) ?_,rfl,q _ hf⟩
 exact⟨z,us,0,r,Heap.get?_push_size _ rfl⟩
end
abbrev Sp:=List V->Hp->VK->XK->Prop
abbrev CXT:=List Env->Hp->Shared->XK->Value->Shared->Prop
structure Env0 (P:Program) (w:World) (K:PySem.W.Frag) (mg:Str->Option Value) (base:Heap) (A:Around) (outer:List Env) (s:Shared) (H:Hp):Prop where
 frames:A.frames=some outer
 mod:Mod K mg base
 bs:∀b o,base.get? b=some o->s.heap.get? b=some o/\H b=none
 bsz:base.objs.size<=s.heap.objs.size
 funs:s.heap.FunFrames base outer
 frf:∀b∈frs outer,H b=none
 hok:HOk P w H s.heap
 bare:AllBare s.gens
def CE (outer:List Env) (P:Program) (w:World) (H:Hp) (s:Shared) (Q:VK) (u:Value) (s':Shared):Prop :=
 ∃v H',s'.os=s.os/\AllBare s'.gens/\Un (frs outer) [] H H' s.heap s'.heap/\HOk P w H' s'.heap/\aY v u/\Q v H'
def CR (CX:CXT) (outer:List Env) (P:Program) (w:World) (H:Hp) (s:Shared) (Q:VK) (E:XK) (r:Result) (s':Shared):Prop :=
 match r with
 | .ok (.ret u)=>CE outer P w H s Q u s'
 | .ok _=>False
 | .error e=>CX outer H s E e s'
structure FnOk (P:Program) (w:World) (K:PySem.W.Frag) (mg:Str->Option Value) (base:Heap) (CX:CXT) (k:Nat) (f:Addr) (fd:FuncData) (ps:List Str) (sp:Sp):Prop where
 len:∀vs H Q E,sp vs H Q E->vs.length=ps.length
 run:∀(A:Around) (outer:List Env) (s:Shared) (H:Hp) (args:Args) (us:List Value) (vs:List V) (Q:VK) (E:XK),Room k A->Env0 P w K mg base A outer s H->BindsTo s fd args (ps.zip us)->bc vs us->sp vs H Q E ->
  codeAny (model P w) A (.call (.ref f) args) (CR CX outer P w H s Q E) s
section
variable {X:Cx}{pins:List (Addr×Obj)}{σ:St}{H:Hp}{s s':Shared}
theorem Inv.env0 (I:Inv X pins σ H s):Env0 X.prog X.w X.K X.mg X.base X.A X.stack s H :=
 ⟨I.ok.frames,I.ok.mod,I.bs,Nat.le_trans I.ok.bsz I.sz,I.stack,I.stkFree,I.hok,I.bare⟩
theorem Inv.after {Q:VK}{u:Value}(I:Inv X pins σ H s) (h:CE X.stack X.prog X.w H s Q u s'):EP X pins σ Q u s':=by
 obtain⟨v,H',os,bare,un,hok,r,q⟩:=h
 obtain⟨hh,g,d,t,os'⟩:=s'
 obtain rfl:os'=s.os:=os
 exact⟨v,H',I.call (h':=hh) (g':=g) (d':=d) (t':=t) (ch:=[]) un hok bare (λb z=>absurd z (by simp)),r,q⟩
end
def EK (sp:Sp) (dvs:List V) (E:XK) (t:TA):TE:=λσ H Q=>t σ H λvs H1=>sp (vs++dvs) H1 Q E
def Gn (C:Addr) (m:Str) (sp:Sp) (dvs:List V) (E:XK) (ta:TE) (t:TA):TE:=λσ H Q=>ta σ H λx H1=>∃a dx fs,x=.ref a/\H1 a=some (.ins C dx fs)/\fs.lookup m=none /\
 t σ H1 λvs H2=>sp (x::(vs++dvs)) H2 Q E
def Go (C:Addr) (sp:Sp) (dvs:List V) (E:XK) (t:TA):TE:=λσ H Q=>t σ H λvs H1=>∀x dx,H1 x=none->H1 dx=none->dx≠x ->
 sp (.ref x::(vs++dvs)) (upd (upd H1 dx (.own x)) x (.ins C dx [])) (λv H2=>v=.non/\Q (.ref x) H2) E
def p4 (K:PySem.W.Frag) (fd:FuncData) (ps:List Str) (ds:List Value):Prop :=
 ∀(s:Shared) (us:List Value),K.In s.heap->(us++ds).length=ps.length->BindsTo s fd ⟨us,[]⟩ (ps.zip (us++ds))
theorem p4.all {K:PySem.W.Frag}{fd:FuncData}{ps:List Str}(h:∀us:List Value,us.length=ps.length->bindArgs fd ⟨us,[]⟩=pure (ps.zip us)):p4 K fd ps []:=λs us _ hl=>by
 rw[List.append_nil]at hl ⊢
 exact .of_eq (h us hl)
def vj (CX:CXT) (X:Cx) (E:XK):Prop:=∀(pins:List (Addr×Obj)) (σ:St) (H:Hp) (s:Shared) (e:Value) (s':Shared),Inv X pins σ H s->CX X.stack H s E e s'->X.xe e s'
section
variable {X:Cx}{CX:CXT}{k:Nat}{f C:Addr}{fd:FuncData}{ps:List Str}{sp:Sp}{dvs:List V}{ds:List Value}{E:XK}{x m:Str}{p pos apos:Pos}{e o:Expr}{es:List Expr}{ta:TE}{t:TA}
theorem Dr {pins:List (Addr×Obj)}{σ:St}{H:Hp}{s:Shared}{Q:VK}{us:List Value}{vs:List V}(F:FnOk X.prog X.w X.K X.mg X.base CX k f fd ps sp) (hr:Room k X.A) (hb:p4 X.K fd ps ds) (hd:bc dvs ds) (hx:vj CX X E)
  (I:Inv X pins σ H s) (r:bc vs us) (h:sp (vs++dvs) H Q E):wpAny (model X.prog X.w) X.A (call (.ref f) us) (EP X pins σ Q) X.xe s:=by
 have r2:bc (vs++dvs) (us++ds):=r.append hd
 have hl:(us++ds).length=ps.length:=by rw[←r2.length];exact F.len _ _ _ _ h
 refine wpAny_call (codeAny_mono (F.run X.A X.stack s H ⟨us,[]⟩ (us++ds) (vs++dvs) Q E hr I.env0 (hb s us I.kIn hl) r2 h) λr s' hq=>?_)
 cases r with
 | error e=>exact hx pins σ H s e s' I hq
 | ok fl =>
  cases fl with
  | ret u=>exact I.after hq
  | next=>exact False.elim hq
  | brk=>exact False.elim hq
  | cont=>exact False.elim hq
theorem AR (F:FnOk X.prog X.w X.K X.mg X.base CX k f fd ps sp) (hr:Room k X.A) (hg:Gl X x) (hm:X.mg x=some (.ref f)) (hk:PySem.W.keepIn X.K (.ref f)=true) (hb:p4 X.K fd ps ds) (hd:bc dvs ds) (hx:vj CX X E)
  (ha:PA X (e::es) t) (hdb:(x == ("__debug__" : Str))=false:=by decide) (he:starEach (e::es) X.env=(false,eval e X.env)::starEach es X.env:=by rfl) (hpl:(backTo pos (starEach es X.env)).any (·.1)=false:=by rfl) :
  PE X (.Call (.Name x p) (e::es) [] pos) (EK sp dvs E t):=by
 intro pins s σ H Q I h
 refine wpAny_Call_Name_kw (qK I hg hm ?_ hdb)
 refine PySem.W.callWith_K (h₀:=X.base) I.ok.mod.kin hk (thn (ha pos pins s σ H _ I h) λus s1 ⟨vs,H1,I1,r,q⟩=>⟨I1.kIn, ?_⟩) he hpl
 exact Dr F hr hb hd hx I1 r q
end
structure FnScope (N P:List Str) (sc:Scope):Prop where
 kind:sc.kind=.function
 co:sc.isCoroutine=false
 gen:sc.isGenerator=false
 nd:N.Nodup
 pre:N.take P.length=P
 par:∀x∈P,sc.names.lookup x=some .local∨sc.names.lookup x=some .cell
 nofree:∀y∈sc.names,y.2≠.free
theorem p5 {kindOf:Str->Option NameKind}{x:Str}:∀ {binds:List (Str×Value)}{m:Str->Option Value},(∀v,(x,v)∉binds)->bindL kindOf binds m x=m x
 | [],_,_=>rfl
 | (n,v)::r,m,h=>by
  unfold bindL
  rw[p5 λw hw=>h w (mZ _ hw)]
  split
  ·have:x≠n:=by rintro rfl;exact h v mX
   simp[this]
  ·rfl
theorem p6 {kindOf:Str->Option NameKind}{x:Str}:∀ {binds:List (Str×Value)}{m:Str->Option Value},(∀v,(x,v)∉binds)->bindC kindOf binds m x=m x
 | [],_,_=>rfl
 | (n,v)::r,m,h=>by
  unfold bindC
  rw[p6 λw hw=>h w (mZ _ hw)]
  split
  ·rfl
  ·have:x≠n:=by rintro rfl;exact h v mX
   simp[this]
theorem p7 {kindOf:Str->Option NameKind}{x:Str}{v:Value}:∀ {P:List Str}{vs:List Value}{i:Nat}{m:Str->Option Value},P.Nodup->P[i]? = some x->vs[i]? = some v->kindOf x=some .local ->
  bindL kindOf (P.zip vs) m x=some v
 | [],_,_,_,_,h,_,_=>by simp at h
 | _::_,[],_,_,_,_,h,_=>by simp at h
 | p::P,w::vs,0,m,nd,h1,h2,hk=>by
  simp at h1 h2;subst h1;subst h2
  show bindL kindOf ((p,w)::P.zip vs) m p=_
  unfold bindL
  rw[p5 λv hv=>(List.nodup_cons.mp nd).1 (List.of_mem_zip hv).1,if_pos hk]
  simp
 | p::P,w::vs,i+1,m,nd,h1,h2,hk=>by
  show bindL kindOf ((p,w)::P.zip vs) m x=_
  unfold bindL
  exact p7 (i:=i) (List.nodup_cons.mp nd).2 (by simpa using h1) (by simpa using h2) hk
theorem p8 {kindOf:Str->Option NameKind}{x:Str}{v:Value}:∀ {P:List Str}{vs:List Value}{i:Nat}{m:Str->Option Value},P.Nodup->P[i]? = some x->vs[i]? = some v->kindOf x≠some .local ->
  bindC kindOf (P.zip vs) m x=some v
 | [],_,_,_,_,h,_,_=>by simp at h
 | _::_,[],_,_,_,_,h,_=>by simp at h
 | p::P,w::vs,0,m,nd,h1,h2,hk=>by
  simp at h1 h2;subst h1;subst h2
  show bindC kindOf ((p,w)::P.zip vs) m p=_
  unfold bindC
  rw[p6 λv hv=>(List.nodup_cons.mp nd).1 (List.of_mem_zip hv).1,if_neg hk]
  simp
 | p::P,w::vs,i+1,m,nd,h1,h2,hk=>by
  show bindC kindOf ((p,w)::P.zip vs) m x=_
  unfold bindC
  exact p8 (i:=i) (List.nodup_cons.mp nd).2 (by simpa using h1) (by simpa using h2) hk
def du (N:List Str) (vs:List V):St:=vs.map some++List.replicate (N.length - vs.length) none
def mS (CX:CXT) (P:Program) (w:World) (K:PySem.W.Frag) (mg:Str->Option Value) (base:Heap) (N:List Str) (qual:Str) (scope:Scope) (f:Addr) (cd:Value) (A:Around) (outer:List Env) (s:Shared) (H:Hp) (E:XK):Cx where
 prog:=P
 w:=w
 K:=K
 mg:=mg
 base:=base
 A:=A.deeper (envOfC qual scope s.heap.objs.size f cd)
 N:=N
 s₀:=s
 H₀:=H
 env:=envOfC qual scope s.heap.objs.size f cd
 outer:=outer
 stack:=envOfC qual scope s.heap.objs.size f cd::outer
 ex:=[]
 calm:=true
 fn:=λ_=>true
 pn:=[]
 xe:=λe s'=>wpAny (model P w) (A.deeper (envOfC qual scope s.heap.objs.size f cd)) (leaving (envOfC qual scope s.heap.objs.size f cd) e) (λ_ s''=>CX outer H s E e s'') (λe' s''=>CX outer H s E e' s'') s'
theorem sJ {sc:Scope}{n:Nat}{x:Str}(h:sc.names.lookup x=some .cell):∃c,(cellsFrom n sc.names []).lookup x=some c:=by
 have q:=PySem.W.cellsFrom_some sc.names n [] (.inl h)
 exact Option.isSome_iff_exists.mp q
theorem xU {CX:CXT}{P:Program}{w:World}{K:PySem.W.Frag}{mg:Str->Option Value}{base:Heap}{N ps:List Str}{qual:Str}{scope:Scope}{f:Addr}{cd:Value}{A:Around}{outer:List Env}{s s1:Shared}{H:Hp}{E:XK}{us:List Value}{vs:List V}
  (S:FnScope N ps scope) (hd:A.handled=none) (e0:Env0 P w K mg base A outer s H) (hl:vs.length=ps.length) (r:bc vs us)
  (x:InCallC s s.heap.objs.size (bindL (envOfC qual scope s.heap.objs.size f cd).kindOf (ps.zip us) λ_=>none) (cellsFrom (s.heap.objs.size+1) scope.names []) (bindC (envOfC qual scope s.heap.objs.size f cd).kindOf (ps.zip us) λ_=>none) s1) :
  Inv (mS CX P w K mg base N qual scope f cd A outer s H E) [] (du N vs) H s1:=by
 have hpl:ps.length<=N.length:=by have:=congrArg List.length S.pre;rw[List.length_take]at this;omega
 obtain⟨h1,tk,rfl,hk⟩:=x.done
 have noA:∀b:Addr,b∉(mS CX P w K mg base N qual scope f cd A outer s H E).ex:=λb z=>absurd (show b∈([]:List Addr)from z) (by simp)
 refine⟨⟨e0.mod,S.kind,rfl,rfl,Nat.le_refl _,λy z c h1 h2=>?_,λy hy=>?_,λy c _ h=>?_,λ_=>hd,Around.frames_deeper e0.frames,.inr ⟨rfl,rfl⟩,λb z=>absurd z (noA b),e0.bs,e0.bsz,λb _ _=>noA b,λb z=>absurd z (noA b),e0.funs,e0.frf⟩,
  rfl,e0.bare,Un.kept hk,⟨_,x.toInCall.ns,λi y v h1 h2 h3=>?_⟩,λy c h=>⟨_,x.cell y c h⟩,e0.hok.fresh (Nat.le_refl _),λy c h=>?_,λp hp=>absurd (show p∈([]:List (Addr×Obj))from hp) (by simp),e0.hok.kept hk, ?_⟩
 ·exact name_of_addr x.apart (PySem.mem_of_lookup h1) (PySem.mem_of_lookup h2)
 ·have hy:scope.names.lookup y=some .cell∨scope.names.lookup y=some .free:=hy
  rcases hy with hy|hy
  ·exact sJ hy
  ·exact absurd rfl (S.nofree _ (PySem.mem_of_lookup hy))
 ·exact Nat.le_of_lt (x.above y c (PySem.mem_of_lookup h))
 ·have hi:i<vs.length:=by
   unfold du at h2
   by_cases hi:i<vs.length
   ·exact hi
   ·rw[List.getElem?_append_right (by simpa using hi)]at h2
    rw[List.getElem?_replicate]at h2
    split at h2<;>cases h2
  have ha:vs[i]? = some v:=by
   unfold du at h2
   rw[List.getElem?_append_left (by simpa using hi),List.getElem?_map]at h2
   cases e:vs[i]? with
   | none=>rw[e]at h2;cases h2
   | some a=>rw[e]at h2;cases h2;rfl
  obtain⟨u,hu,rv⟩:=r.get ha
  have hp:ps[i]? = some y:=by
   rw[←S.pre,List.getElem?_take_of_lt (by omega)];exact h1
  have ndP:ps.Nodup:=by rw[←S.pre];exact S.nd.sublist (List.take_sublist _ _)
  refine⟨u,rv, ?_⟩
  rcases S.par y (List.mem_of_getElem? hp)with k|k
  ·exact .inl ⟨k,p7 ndP hp hu k⟩
  ·obtain⟨c,e⟩:=sJ (n:=s.heap.objs.size+1) k
   refine .inr ⟨.inl k,c,e, ?_⟩
   have q:=x.cell y c e
   rw[p8 ndP hp hu (by show scope.names.lookup y≠_;rw[k];decide)]at q
   exact q
 ·exact e0.hok.fresh (Nat.le_of_lt (x.above y c (PySem.mem_of_lookup h)))
 ·unfold du
  show _=N.length
  rw[List.length_append,List.length_map,List.length_replicate]
  omega
theorem Cc {CX:CXT}{P:Program}{w:World}{K:PySem.W.Frag}{mg:Str->Option Value}{base:Heap}{k:Nat}{f:Addr}{name qual:Str}{params:Arguments}{body:List Stmt}{scope:Scope}{dV kV doc pm cdv ct oc:Value}{an od:Option Addr}
  {osl:Array (Option Value)}{N ps:List Str}{sp:Sp}(lk:K.lookup f=some ⟨oc,od,.func (PySem.W.fnOf name qual params body scope dV kV doc pm an cdv ct),osl⟩) (hcd:PySem.W.codeIn K cdv qual=true) (S:FnScope N ps scope)
  (len:∀vs H Q E,sp vs H Q E->vs.length=ps.length)
  (hbody:∀(A:Around) (outer:List Env) (s:Shared) (H:Hp) (vs:List V) (Q:VK) (E:XK),Room k (A.deeper (envOfC qual scope s.heap.objs.size f cdv))->sp vs H Q E ->
   ∃t,PSs (mS CX P w K mg base N qual scope f cdv A outer s H E) body t/\t { nx:=λ_ H'=>Q .non H',rt:=Q } (du N vs) H) :
  FnOk P w K mg base CX (k+1) f (PySem.W.fnOf name qual params body scope dV kV doc pm an cdv ct) ps sp:=by
 refine⟨len,λA outer s H args us vs Q E hr e0 hb r hsp=>?_⟩
 have hl:=len _ _ _ _ hsp
 have KX:K.In s.heap:=e0.mod.kin.keeps λb o e=>(e0.bs b o e).1
 have lim:s.heap.NoLimit:=e0.mod.nolimit.keeps λb o e=>(e0.bs b o e).1
 have hkind:∀y∈ps.zip us,scope.names.lookup y.1=some .local∨(scope.names.lookup y.1=some .cell/\((cellsFrom (s.heap.objs.size+1) scope.names []).lookup y.1).isSome=true):=λ⟨n,v⟩ hy=>by
  rcases S.par n (List.of_mem_zip hy).1 with q|q
  ·exact .inl q
  ·exact .inr ⟨q,PySem.W.cellsFrom_some _ _ _ (.inl q)⟩
 refine codeAny_call_function hr.depth (KX _ _ lk) rfl S.co S.gen rfl (PySem.W.codeRec_of KX hcd) (hb _ _ _ _ ?_)
 refine wpAny_newFunctionEnv_cells S.kind hkind λenv he s1 x=>?_
 subst he
 refine⟨lim.keeps x.toInCall.keep,codeAny_func ?_⟩
 obtain⟨t,ht,hq⟩:=hbody A outer s H vs Q E (hr.deeper _) hsp
 have I:Inv (mS CX P w K mg base N qual scope f cdv A outer s H E) [] (du N vs) H s1:=xU S hr.hd e0 hl r x
 refine wpAny_mono (ht [] s1 (du N vs) H _ I hq) (λfl s' hs=>?_) λe s' hs=>hs
 have fin:∀ {σ':St}{H':Hp}{v:V}{u:Value},Inv (mS CX P w K mg base N qual scope f cdv A outer s H E) [] σ' H' s'->aY v u->Q v H'->CE outer P w H s Q u s' :=
  λ{σ' H' v u} J rv q=>⟨v,H',J.os,J.bare,J.base,J.hok,rv,q⟩
 cases fl with
 | ret u =>
  obtain⟨v,σ',H',J,rv,q⟩:=hs
  exact fin J rv q
 | next =>
  obtain⟨σ',H',J,q⟩:=hs
  exact fin (v:=V.non) (u:=Value.none) J rfl q
 | brk =>
  obtain⟨_,_,_,q⟩:=hs
  exact False.elim q
 | cont =>
  obtain⟨_,_,_,q⟩:=hs
  exact False.elim q
section
variable {X:Cx}{x:Str}{p pos:Pos}{e:Expr}{es:List Expr}{t:TA}{id T:String}{r:List V->Hp->VK->Prop}
def tCB (r:List V->Hp->VK->Prop) (t:TA):TE:=λσ H Q=>t σ H λvs H1=>r vs H1 Q
theorem sK (hc:cA X (.builtin id) r) (hg:Gl X x) (hm:X.mg x=none) (hv:bootBuiltins x=some (.builtin id)) (ha:PA X (e::es) t) (hn:x ≠ "__name__":=by decide) (hdb:(x == ("__debug__" : Str))=false:=by decide)
  (he:starEach (e::es) X.env=(false,eval e X.env)::starEach es X.env:=by rfl) (hpl:(backTo pos (starEach es X.env)).any (·.1)=false:=by rfl):PE X (.Call (.Name x p) (e::es) [] pos) (tCB r t):=by
 intro pins s σ H Q I h
 refine wpAny_Call_Name_kw (kM I hg hm hv ?_ hn hdb)
 exact PyProof.Rows.callWith_builtin1 (thn (ha pos pins s σ H _ I h) λus s1 ⟨vs,H1,I1,r1,q1⟩=>hc pins s1 σ H1 vs us Q I1 r1 q1) he hpl
theorem p9 (hc:cA X (.type T) r) (hg:Gl X x) (hm:X.mg x=none) (hv:bootBuiltins x=some (.type T)) (ha:PA X (e::es) t) (hn:x ≠ "__name__":=by decide) (hdb:(x == ("__debug__" : Str))=false:=by decide)
  (he:starEach (e::es) X.env=(false,eval e X.env)::starEach es X.env:=by rfl) (hpl:(backTo pos (starEach es X.env)).any (·.1)=false:=by rfl):PE X (.Call (.Name x p) (e::es) [] pos) (tCB r t):=by
 intro pins s σ H Q I h
 refine wpAny_Call_Name_kw (kM I hg hm hv ?_ hn hdb)
 exact PyProof.Rows.callWith_type1 (thn (ha pos pins s σ H _ I h) λus s1 ⟨vs,H1,I1,r1,q1⟩=>hc pins s1 σ H1 vs us Q I1 r1 q1) he hpl
end
end L2
namespace HT
open PySem PyProof.Rows
section
open PySem.SeqAt
open PySem.AutoSeq1 (wpAny_loadPart')
open PySem.MeetsSeq PySem.MeetsSeq2 PySem.MeetsSeq3
end
section
variable {prog:Program}{w:World}{A:Around}{E:Value->Shared->Prop}{s:Shared}
theorem AS {t b:Addr}{vs ws:List Value}{Q:Value->Shared->Prop}(ht:IsTup s.heap t vs.toArray) (hb:IsTup s.heap b ws.toArray) (hv:vs≠[])
  (h1:ws=[]->Q (.ref t) s) (h2:ws≠[]->Q (.ref s.heap.objs.size) { s with heap:=s.heap.push { cls:=.type "tuple",data:=.seq (vs++ws).toArray } })
  (hsz:vs.length+ws.length<=sizeLine):wpAny (model prog w) A (binaryOp .Add (.ref t) (.ref b)) Q E s:=by
 obtain⟨⟨cls,dd,data,sl⟩,ho,hc,n,hd⟩:=id ht
 obtain⟨⟨cls2,dd2,data2,sl2⟩,ho2,hc2,n2,hd2⟩:=id hb
 simp only at hc hd hc2 hd2
 subst hc hd hc2 hd2
 have e:vs.toArray++ws.toArray=(vs++ws).toArray:=by simp
 by_cases hw:ws=[]
 ·exact concat_meets ⟨_,ho,rfl⟩ ⟨_,ho2,rfl⟩ noFill_tuple_add seq_tuple_add PySem.F.slot_tuple_add PySem.F.entry_tuple_add (PySem.F.args_tuple_add_2 _ _)
   (tuple_addW1 t b vs.toArray ws.toArray n n2 dd dd2 sl sl2 (by simpa using hv) (by simp[hw])) ⟨ho,ho2,h1 hw⟩
 ·refine concat_meets ⟨_,ho,rfl⟩ ⟨_,ho2,rfl⟩ noFill_tuple_add seq_tuple_add PySem.F.slot_tuple_add PySem.F.entry_tuple_add (PySem.F.args_tuple_add_2 _ _)
   (tuple_addW2 t b vs.toArray ws.toArray n n2 dd dd2 sl sl2 (by simpa using hv) (by simpa using hw) (by rw[List.size_toArray,List.size_toArray];exact hsz)) ⟨ho,ho2, ?_⟩
  rw[e]
  exact h2 hw
def sIx (n d:Nat):Option Int->Nat
 | none=>d
 | some v=>if v<0 then (v+(n:Int)).toNat else min v.toNat n
theorem Ds (n d:Nat) (hd:d<=n) (o:Option Int):sIx n d o<=n:=by
 cases o with
 | none=>exact hd
 | some v =>
  show(if v<0 then (v+(n:Int)).toNat else min v.toNat n)<=n
  by_cases hv:v<0
  ·rw[if_pos hv];omega
  ·rw[if_neg hv];exact Nat.min_le_right _ _
theorem wB (v:Int) (n d:Nat):(if v<0 then max (v+(n:Int)) 0 else min v (n:Int))=((sIx n d (some v):Nat):Int):=by
 show(if v<0 then max (v+(n:Int)) 0 else min v (n:Int))=(((if v<0 then (v+(n:Int)).toNat else min v.toNat n):Nat):Int)
 by_cases hv:v<0
 ·simp only[if_pos hv];omega
 ·simp only[if_neg hv];omega
theorem vk (lo hi:Option Int) (n:Nat):Builtin.Slice.sliceAdjust lo hi 1 (n:Int)=(((sIx n 0 lo:Nat):Int),((sIx n n hi:Nat):Int)):=by
 have h1:¬((1:Int)<0):=by omega
 unfold Builtin.Slice.sliceAdjust
 simp only[h1,if_false]
 refine Prod.ext ?_ ?_
 ·cases lo with
  | none=>rfl
  | some v=>exact wB v n 0
 ·cases hi with
  | none=>rfl
  | some v=>exact wB v n n
theorem vn (i j:Nat):Builtin.Slice.slicePlaces (i:Int) (j:Int) 1=j - i:=by
 unfold Builtin.Slice.slicePlaces
 have h1:(1:Int) > 0:=by omega
 simp only[h1,if_true,Int.ediv_one]
 split<;>omega
theorem mT {v:Value}{o:Option Int}{Q:Option Int->Shared->Prop}(p:IsPart v o) (h:Q o s):wpAny (model prog w) A (Builtin.Slice.slicePartIndex v) Q E s:=by
 cases p with
 | none=>exact slicePart_none h
 | int i t=>exact slicePart_int h
theorem gn {sl:Addr}{vl vu:Value}{lo hi:Option Int}{n:Nat}{Q:Int×Int×Nat->Shared->Prop}(hs:s.heap.IsSliceOf sl vl vu .none) (pl:IsPart vl lo) (pu:IsPart vu hi)
  (h:Q (((sIx n 0 lo:Nat):Int),1,sIx n n hi - sIx n 0 lo) s):wpAny (model prog w) A (Builtin.Slice.sliceApplied (.ref sl) (pure (n:Int))) Q E s:=by
 obtain⟨os,hos,hcs,hds⟩:=id hs
 unfold Builtin.Slice.sliceApplied Builtin.Slice.sliceFields
 refine wX (wX (wpAny_field hos hds (x:=vl) rfl (wX (wpAny_field hos hds (x:=vu) rfl (wX (wpAny_field hos hds (x:=.none) rfl (wY ?_)))))))
 refine wX (slicePart_none ?_)
 show wpAny _ _ (if((1:Int) == 0)=true then _ else _) _ _ s
 rw[if_neg (by decide)]
 refine wX (mT pl (wX (mT pu (wX (wY ?_)))))
 show wpAny _ _ (match Builtin.Slice.sliceAdjust lo hi 1 (n:Int) with|(lo,hi)=>pure (lo,(1:Int),Builtin.Slice.slicePlaces lo hi 1)) _ _ s
 rw[vk lo hi n]
 show wpAny _ _ (pure (((sIx n 0 lo:Nat):Int),(1:Int),Builtin.Slice.slicePlaces ((sIx n 0 lo:Nat):Int) ((sIx n n hi:Nat):Int) 1)) _ _ s
 rw[vn]
 exact wY h
theorem yU (xs:Array Value) (i k:Nat):((List.range k).filterMap λ(m:Nat)=>xs[((i:Int)+(m:Int)*1).toNat]?).toArray=((xs.toList.drop i).take k).toArray:=by
 have e:(λ(m:Nat)=>xs[((i:Int)+(m:Int)*1).toNat]?)=λm=>xs[i+m]?:=by
  funext m
  have:((i:Int)+(m:Int)*1).toNat=i+m:=by omega
  rw[this]
 rw[e]
 have:=pick_run xs i k
 rw[List.filterMap_map]at this
 have e2:((λx=>xs[x]?) ∘ λx=>i+x)=λm=>xs[i+m]?:=rfl
 rw[e2]at this
 rw[this]
theorem jC {t sl:Addr}{items:Array Value}{vl vu:Value}{lo hi:Option Int}{Q:Value->Shared->Prop}(ht:IsTup s.heap t items) (hs:s.heap.IsSliceOf sl vl vu .none) (pl:IsPart vl lo) (pu:IsPart vu hi)
  (hw:¬(sIx items.size 0 lo=0/\sIx items.size items.size hi=items.size))
  (h:Q (.ref s.heap.objs.size) { s with heap:=s.heap.push { cls:=.type "tuple",data:=.seq ((items.toList.drop (sIx items.size 0 lo)).take (sIx items.size items.size hi - sIx items.size 0 lo)).toArray } })
  (hsz:items.size<=sizeLine):wpAny (model prog w) A (getItem (.ref t) (.ref sl)) Q E s:=by
 have htake:sizeOk (.seq ((items.toList.drop (sIx items.size 0 lo)).take (sIx items.size items.size hi - sIx items.size 0 lo)).toArray):=by
  show((items.toList.drop (sIx items.size 0 lo)).take (sIx items.size items.size hi - sIx items.size 0 lo)).toArray.size<=sizeLine
  rw[List.size_toArray,List.length_take,List.length_drop,Array.length_toList]
  omega
 have hj:sIx items.size items.size hi<=items.size:=Ds _ _ (Nat.le_refl _) hi
 obtain⟨os,hos,hcs,hds⟩:=id hs
 have hTs:s.TypeIs (.ref sl) "slice":=⟨os,hos,hcs⟩
 unfold getItem
 try with_reducible refine wpAny_holding ?_
 first|refine wX (wY ?_)|skip
 refine wX (wpAny_sequenceKey ht.typeIs (by decide) ?_)
 refine wX (wpAny_callSpecial?_slot (name:=Str.ofString "__getitem__") ht.typeIs PyProof.Rows.slot_tuple_getitem
  (wpAny_call_entry PyProof.Rows.slot_tuple_getitem ht.typeIs entry_tuple_getitem ?_ (args_tuple_getitem _ _)))
 show wpAny _ _ (Builtin.Tuple.tupleItemsOf (.ref t)>>=_) _ _ s
 refine wX (tupleItemsOf_ ht ?_)
 refine wX (wpAny_typeOf hTs ?_)
 rw[if_pos (by decide)]
 refine wX (gn hs pl pu ?_)
 have hno:¬((((sIx items.size 0 lo:Nat):Int) == 0 && (1:Int) == 1 && (sIx items.size items.size hi - sIx items.size 0 lo) == items.size)=true):=by
  intro q
  rw[Bool.and_eq_true,Bool.and_eq_true]at q
  have q1:((sIx items.size 0 lo:Nat):Int)=0:=eq_of_beq q.1.1
  have q2:sIx items.size items.size hi - sIx items.size 0 lo=items.size:=eq_of_beq q.2
  exact hw ⟨by omega,by omega⟩
 show wpAny _ _ (if(((sIx items.size 0 lo:Nat):Int) == 0 && (1:Int) == 1 && (sIx items.size items.size hi - sIx items.size 0 lo) == items.size)=true then _ else _) _ _ s
 rw[if_neg hno,yU]
 first
  | exact wX (m:=Builtin.Tuple.tupleExact _) (wpAny_newObj_type (wY ⟨_,rfl,wY h⟩) htake)
  | exact wX (m:=Builtin.Tuple.tupleExact _) (wpAny_newObj_type (wX (wY (wY ⟨_,rfl,wY h⟩))) htake)
  | exact wX (wX (m:=Builtin.Tuple.tupleExact _) (wpAny_newObj_type (wY (wY ⟨_,rfl,wY h⟩)) htake))
  | exact wX (wX (m:=Builtin.Tuple.tupleExact _) (wpAny_newObj_type (wY ⟨_,rfl,wY h⟩) htake))
end
end HT
namespace L2
open PySem PySem.Spec PyProof.Rows
abbrev TO:=St->Hp->(Option Int->Hp->Prop)->Prop
def PO (X:Cx) (e:Option Expr) (t:TO):Prop :=
 ∀(pins:List (Addr×Obj)) (s:Shared) (σ:St) (H:Hp) (Q:Option Int->Hp->Prop),Inv X pins σ H s->t σ H Q ->
  wpAny (model X.prog X.w) X.A (evalPart e X.env) (λu s'=>∃o H',Inv X pins σ H' s'/\IsPart u o/\Q o H') X.xe s
def AT:TO:=λ_ H Q=>Q none H
def EM (t:TE):TO:=λσ H Q=>t σ H λx H1=>∃i,x=.int i/\Q (some i) H1
section
variable {X:Cx}{e:Expr}{te:TE}{lo hi:Option Expr}{tl th:TO}{pos p2:Pos}
theorem AU:PO X none AT:=by
 intro pins s σ H Q I h
 rw[evalPart_none]
 exact wY ⟨none,H,I,.none,h⟩
theorem AV (h:PE X e te):PO X (some e) (EM te):=by
 intro pins s σ H Q I hw
 rw[evalPart_some]
 refine thn (h pins s σ H _ I hw) λu s1 ⟨x,H1,I1,r1,q1⟩=>?_
 obtain⟨i,rfl,q⟩:=q1
 obtain⟨t,rfl⟩:=r1
 exact⟨some i,H1,I1,.int i t,q⟩
def SlR (X:Cx) (r:V->Option Int->Option Int->Hp->VK->Prop):Prop :=
 ∀(pins:List (Addr×Obj)) (s:Shared) (σ:St) (H:Hp) (x:V) (v vl vu:Value) (lo hi:Option Int) (sl:Addr) (Q:VK),Inv X pins σ H s->aY x v->s.heap.IsSliceOf sl vl vu .none->IsPart vl lo->IsPart vu hi->r x lo hi H Q ->
  ∃T id,typeLookup (.type T) "__getitem__" = pure (some (.builtin id))/\s.TypeIs v T/\wpAny (model X.prog X.w) X.A (getItem v (.ref sl)) (EP X pins σ Q) X.xe s
theorem SlR.or {r r':V->Option Int->Option Int->Hp->VK->Prop}(h:SlR X r) (h':SlR X r'):SlR X (λx lo hi H Q=>r x lo hi H Q∨r' x lo hi H Q):=by
 intro pins s σ H x v vl vu lo hi sl Q I rx hs pl pu q
 rcases q with q|q
 ·exact h pins s σ H x v vl vu lo hi sl Q I rx hs pl pu q
 ·exact h' pins s σ H x v vl vu lo hi sl Q I rx hs pl pu q
def tSl (r:V->Option Int->Option Int->Hp->VK->Prop) (te:TE) (tl th:TO):TE:=λσ H Q=>te σ H λx H1=>tl σ H1 λl H2=>th σ H2 λu H3=>r x l u H3 Q
theorem yV {r:V->Option Int->Option Int->Hp->VK->Prop}(hr:SlR X r) (he:PE X e te) (hl:PO X lo tl) (hu:PO X hi th):PE X (.Subscript e (.Slice lo hi none p2) pos) (tSl r te tl th):=by
 intro pins s σ H Q I h
 refine Subscript_ (thn (he pins s σ H _ I h) λv s1 ⟨x,H1,I1,r1,q1⟩=>?_)
 refine wpAny_Slice (thn (hl pins s1 σ H1 _ I1 q1) λvl s2 ⟨l,H2,I2,pl,q2⟩=>thn (hu pins s2 σ H2 _ I2 q2) λvu s3 ⟨u,H3,I3,pu,q3⟩=>?_)
 rw[evalPart_none]
 refine wY ?_
 have I4:Inv X pins σ H3 { s3 with heap:=s3.heap.push { cls:=.type "slice",data:=.fields #[vl,vu,.none] } }:=I3.kept (t':=s3.toks) λb ob q=>Heap.get?_push_of_some _ q
 obtain⟨T,id,hT,ht,hg⟩:=hr pins { s3 with heap:=s3.heap.push { cls:=.type "slice",data:=.fields #[vl,vu,.none] } } σ H3 x v vl vu l u s3.heap.objs.size Q I4 r1 (Heap.IsSliceOf.new ..) pl pu q3
 show wpAny (model X.prog X.w) X.A (subscriptTail e (.Slice lo hi none p2) v (.ref s3.heap.objs.size)) (EP X pins σ Q) X.xe { s3 with heap:=s3.heap.push { cls:=.type "slice",data:=.fields #[vl,vu,.none] } }
 exact tail_any (ops:=[.ref s3.heap.objs.size,v]) ht hT hg (by with_unfolding_all rfl)
def oW (xs:List V) (lo hi:Option Int):List V:=(xs.drop (HT.sIx xs.length 0 lo)).take (HT.sIx xs.length xs.length hi - HT.sIx xs.length 0 lo)
theorem lP (xs:List V) (lo hi:Option Int):(oW xs lo hi).length<=xs.length:=by
 unfold oW
 rw[List.length_take,List.length_drop]
 omega
def FM (K:PySem.W.Frag):V->Option Int->Option Int->Hp->VK->Prop:=λx lo hi H Q=>∃a xs,x=.ref a/\SqT K H a xs /\
 ¬(HT.sIx xs.length 0 lo=0/\HT.sIx xs.length xs.length hi=xs.length)/\∀p,H p=none->Q (.ref p) (upd H p (.tup (oW xs lo hi)))
theorem Dt:SlR X (FM X.K):=by
 intro pins s σ H x v vl vu lo hi sl Q I rx hs pl pu h
 obtain⟨a,xs,rfl,hx,hw,q⟩:=h
 cases rx
 obtain⟨its,r,ht,hz⟩:=I.tuple hx
 have hlen:its.toArray.size=xs.length:=by rw[List.size_toArray];exact r.length.symm
 refine⟨"tuple",_,PyProof.Rows.slot_tuple_getitem.lookup,ht.typeIs, ?_⟩
 refine HT.jC ht hs pl pu (by rw[hlen];exact hw) ?_ (by rw[hlen];exact hz)
 rw[hlen]
 refine⟨.ref s.heap.objs.size,_,I.laid (t':=s.toks) (o:=.tup (oW xs lo hi)) (λb ob q=>Heap.get?_push_of_some _ q) (Nat.le_refl _) ?_,rfl,q _ (I.hok.fresh (Nat.le_refl _))⟩
 exact⟨Nat.le_trans (lP xs lo hi) hz,_,(r.drop (HT.sIx xs.length 0 lo)).take (HT.sIx xs.length xs.length hi - HT.sIx xs.length 0 lo),IsTup.new _ _⟩
def EN (K:PySem.W.Frag):R2:=λx y H Q=>∃a b xs ys,x=.ref a/\y=.ref b/\SqT K H a xs/\SqT K H b ys/\xs≠[]/\xs.length+ys.length<=sizeLine /\
 (ys=[]->Q (.ref a) H)/\(ys≠[]->∀p,H p=none->Q (.ref p) (upd H p (.tup (xs++ys))))
theorem bc.nil_iff {xs:List V}{us:List Value}(r:bc xs us):us=[]↔xs=[]:=by
 cases r with
 | nil=>simp
 | cons _ _=>simp
theorem AW:OpR X (binaryOp .Add) (EN X.K):=by
 intro pins s σ H x y v u Q I rx ry h
 obtain⟨a,b,xs,ys,rfl,rfl,ha,hb,hx,hz,q1,q2⟩:=h
 cases rx
 cases ry
 obtain⟨its,r1,p1,_⟩:=I.tuple ha
 obtain⟨its2,r2,p2,_⟩:=I.tuple hb
 refine HT.AS p1 p2 (λz=>hx (r1.nil_iff.mp z)) (λz=>⟨.ref a,H,I,rfl,q1 (r2.nil_iff.mp z)⟩) (λz=>?_) (by rw[←r1.length,←r2.length];exact hz)
 refine⟨.ref s.heap.objs.size,_,I.laid (t':=s.toks) (o:=.tup (xs++ys)) (λb ob q=>Heap.get?_push_of_some _ q) (Nat.le_refl _) ?_,rfl,q2 (λw=>z (r2.nil_iff.mpr w)) _ (I.hok.fresh (Nat.le_refl _))⟩
 exact⟨by rw[List.length_append];exact hz,_,r1.append r2,IsTup.new _ _⟩
end
def ixN (n:Nat) (i:Int):Option Nat:=if 0<=i then (if i<n then some i.toNat else none)else if -(n:Int)<=i then some (i+n).toNat else none
def atI {α:Type}(xs:List α) (i:Int):Option α:=(ixN xs.length i).bind λj=>xs[j]?
theorem wC {n:Nat}{i:Int}{j:Nat}(h:ixN n i=some j):seqIndex? i n=some j/\j<n/\-(n:Int)<=i/\i<n:=by
 unfold ixN at h
 by_cases h0:0<=i
 ·rw[if_pos h0]at h
  by_cases h1:i<n
  ·rw[if_pos h1]at h
   have e:i.toNat=j:=Option.some.inj h
   exact⟨by rw[seqIndex_of h0 h1,e],by omega,by omega,h1⟩
  ·rw[if_neg h1]at h;cases h
 ·rw[if_neg h0]at h
  by_cases h1 : -(n:Int)<=i
  ·rw[if_pos h1]at h
   have e:(i+n).toNat=j:=Option.some.inj h
   exact⟨by rw[seqIndex_neg (by omega) h1,e],by omega,h1,by omega⟩
  ·rw[if_neg h1]at h;cases h
theorem qL {α:Type}{xs:List α}{i:Int}{v:α}(h:atI xs i=some v):∃j,seqIndex? i xs.length=some j/\xs[j]? = some v/\j<xs.length/\-(xs.length:Int)<=i/\i<xs.length:=by
 unfold atI at h
 cases e:ixN xs.length i with
 | none=>rw[e]at h;cases h
 | some j =>
  rw[e]at h
  obtain⟨h1,h2,h3,h4⟩:=wC e
  exact⟨j,h1,h,h2,h3,h4⟩
theorem AX {α:Type}{xs:List α}{j:Nat}{v:α}(h:xs[j]? = some v):atI xs (j:Int)=some v:=by
 have hj:j<xs.length:=(List.getElem?_eq_some_iff.mp h).1
 have e:ixN xs.length (j:Int)=some j:=by
  unfold ixN
  rw[if_pos (by omega),if_pos (by omega)];simp
 unfold atI;rw[e];exact h
theorem gp {α:Type}(xs:List α) (v:α):atI (xs++[v]) (-1)=some v:=by
 have hl:(xs++[v]).length=xs.length+1:=by simp
 have e:ixN (xs++[v]).length (-1)=some xs.length:=by
  unfold ixN
  rw[hl,if_neg (by decide),if_pos (by omega)]
  congr 1
  omega
 unfold atI
 rw[e]
 show(xs++[v])[xs.length]? = some v
 simp
def qM (b:Expr):Prop:=∀o i,subscripted b false o i=operate [o,i] (getItem o i)
def IxR (X:Cx) (r:R2):Prop :=
 ∀(value slice:Expr) (pins:List (Addr×Obj)) (s:Shared) (σ:St) (H:Hp) (x y:V) (v u:Value) (Q:VK),Inv X pins σ H s->aY x v->aY y u->r x y H Q ->
  subscripted slice false v u=operate [v,u] (getItem v u)->wpAny (model X.prog X.w) X.A (subscriptTail value slice v u) (EP X pins σ Q) X.xe s
def MtR (X:Cx) (id:String) (r:V->List V->Hp->VK->Prop):Prop :=
 ∀(pins:List (Addr×Obj)) (s:Shared) (σ:St) (H:Hp) (x:V) (xs:List V) (v:Value) (us:List Value) (Q:VK),Inv X pins σ H s->aY x v->bc xs us->r x xs H Q ->
  wpAny (model X.prog X.w) X.A (call (.builtin id) (v::us)) (EP X pins σ Q) X.xe s
section
variable {X:Cx}{a b:Expr}{ta tb:TE}{pos:Pos}
theorem IxR.or {r r':R2}(h:IxR X r) (h':IxR X r'):IxR X (λx y H Q=>r x y H Q∨r' x y H Q):=by
 intro value slice pins s σ H x y v u Q I rx ry q hs
 rcases q with q|q
 ·exact h value slice pins s σ H x y v u Q I rx ry q hs
 ·exact h' value slice pins s σ H x y v u Q I rx ry q hs
theorem MtR.or {id:String}{r r':V->List V->Hp->VK->Prop}(h:MtR X id r) (h':MtR X id r'):MtR X id (λx xs H Q=>r x xs H Q∨r' x xs H Q):=by
 intro pins s σ H x xs v us Q I rx rs q
 rcases q with q|q
 ·exact h pins s σ H x xs v us Q I rx rs q
 ·exact h' pins s σ H x xs v us Q I rx rs q
theorem Ce {r:R2}(hr:IxR X r) (ha:PE X a ta) (hb:PE X b tb) (hs:qM b):PE X (.Subscript a b pos) (tOp r ta tb):=by
 intro pins s σ H Q I h
 exact Subscript_ (Di ha hb I h λv u s2 x y H2 I2 rx ry q=>hr a b pins s2 σ H2 x y v u Q I2 rx ry q (hs _ _))
def FN (K:PySem.W.Frag):R2:=λx y H Q=>∃p xs i v,x=.ref p/\y=.int i/\SqL K H p xs/\atI xs i=some v/\Q v H
def FP (K:PySem.W.Frag):R2:=λx y H Q=>∃p xs i v,x=.ref p/\y=.int i/\SqT K H p xs/\atI xs i=some v/\Q v H
def FQ:R2:=λx y H Q=>∃z i c,x=.str z/\y=.int i/\z.length<=sizeLine/\atI z.cps.toList i=some c/\Q (.str ⟨#[c]⟩) H
theorem AY:IxR X (FN X.K):=by
 intro value slice pins s σ H x y v u Q I rx ry h hs
 obtain⟨p,xs,i,z,rfl,rfl,hq,he,q⟩:=h
 cases rx
 obtain⟨t,rfl⟩:=ry
 obtain⟨its,r,pl,hz⟩:=I.list hq
 obtain⟨j,h1,h2,h3,h4,h5⟩:=qL he
 obtain⟨w,ew,rw'⟩:=r.get h2
 have hl:=r.length
 have hn:=kP
 have fin:EP X pins σ Q w s:=⟨z,H,I,rw',q⟩
 by_cases h0:0<=i
 ·have hj:i.toNat=j:=by
   rw[seqIndex_of h0 h5]at h1
   exact Option.some.inj h1
  exact item_listR pl.isList h0 (by omega) (by rw[hj];simpa using ew) fin hs
 ·have hj:(i+(its.toArray.size:Int)).toNat=j:=by
   rw[seqIndex_neg (by omega) h4]at h1
   rw[List.size_toArray,←hl]
   exact Option.some.inj h1
  exact subscriptTail_builtinR (x:=w) pl.isList.typeIs slot_list_getitem.lookup
   (wpAny_getItem_list_neg (Q:=λr s'=>r=w/\EP X pins σ Q r s') pl.isList (by omega) (by rw[List.size_toArray]<;>omega) (by omega) (by rw[hj];simpa using ew) ⟨rfl,fin⟩) hs
theorem yW:IxR X (FP X.K):=by
 intro value slice pins s σ H x y v u Q I rx ry h hs
 obtain⟨p,xs,i,z,rfl,rfl,hq,he,q⟩:=h
 cases rx
 obtain⟨t,rfl⟩:=ry
 obtain⟨its,r,pl,hz⟩:=I.tuple hq
 obtain⟨j,h1,h2,h3,h4,h5⟩:=qL he
 obtain⟨w,ew,rw'⟩:=r.get h2
 have hl:=r.length
 have hn:=kP
 have fin:EP X pins σ Q w s:=⟨z,H,I,rw',q⟩
 exact subscriptTail_builtinR (x:=w) pl.typeIs slot_tuple_getitem.lookup
  (getItem_tuple (j:=j) (Q:=λr s'=>r=w/\EP X pins σ Q r s') pl (by omega) (by omega) (by rw[List.size_toArray,←hl];exact h1) (by simpa using ew) ⟨rfl,fin⟩) hs
theorem vp:IxR X FQ:=by
 intro value slice pins s σ H x y v u Q I rx ry h hs
 obtain⟨z,i,c,rfl,rfl,hz,he,q⟩:=h
 obtain⟨t,rfl⟩:=rx
 obtain⟨t',rfl⟩:=ry
 obtain⟨j,h1,h2,h3,h4,h5⟩:=qL he
 have hl:z.cps.toList.length=z.length:=by simp[Str.length]
 rw[hl]at h1 h4 h5
 have hn:=kP
 exact tail_any (typeIs_str s z t) slot_str_getitem.lookup (getItem_str (c:=c) (by
  have e1:decide (i < -(2 ^ 63:Int))=false:=decide_eq_false (by omega)
  have e2:decide (i ≥ 2 ^ 63)=false:=decide_eq_false (by omega)
  rw[e1,e2,Bool.or_false]) (by rw[h1];simpa using h2) ⟨.str ⟨#[c]⟩,H,I.tok _,⟨_,rfl⟩,q⟩) hs
theorem vq (its:List Value) (n j:Nat) (u:Value):Obj.mapSeq (·.setIfInBounds j u) { cls:=.type "list",data:=.seq its.toArray n }={ cls:=.type "list",data:=.seq (its.set j u).toArray n }:=by
 simp[Obj.mapSeq]
theorem Inv.lst {pins:List (Addr×Obj)}{σ:St}{H:Hp}{s:Shared}{p:Addr}{xs:List V}(I:Inv X pins σ H s) (h:H p=some (.lst xs)) :
  ∃(its:List Value) (n:Nat),bc xs its/\s.heap.get? p=some { cls:=.type "list",data:=.seq its.toArray n }/\xs.length<=sizeLine:=by
 obtain⟨z,its,n,r,e⟩:=I.hok p _ h
 exact⟨its,n,r,e,z⟩
theorem Inv.lstUpd {pins:List (Addr×Obj)}{σ:St}{H:Hp}{s:Shared}{p:Addr}{xs ys:List V}{its its':List Value}{n n':Nat}{f:Obj->Obj}(I:Inv X pins σ H s) (h:H p=some (.lst xs))
  (ho:s.heap.get? p=some { cls:=.type "list",data:=.seq its.toArray n }) (hf:f { cls:=.type "list",data:=.seq its.toArray n }={ cls:=.type "list",data:=.seq its'.toArray n' }) (r:bc ys its') (hz:ys.length<=sizeLine) (t:Nat) :
  Inv X pins σ (upd H p (.lst ys)) { s with heap:=s.heap.update p f,toks:=t }:=by
 have e:(s.heap.update p f).get? p=some { cls:=.type "list",data:=.seq its'.toArray n' }:=by
  rw[Heap.get?_update_self f ho (by rw[hf]<;>rfl),hf]
 refine I.write (x:=p) (e:=p) (by rw[h];trivial) (.inl rfl) (λb u hb q=>(Heap.get?_update_other _ _ (Ne.symm hb)).trans q) ⟨_,e⟩ ?_
 exact⟨hz,its',n',r,e⟩
def EO:V->V->V->Hp->(Hp->Prop)->Prop:=λo i v H Q=>∃p xs k j,o=.ref p/\i=.int k/\H p=some (.lst xs)/\ixN xs.length k=some j/\Q (upd H p (.lst (xs.set j v)))
theorem yX:E5 X EO:=by
 intro pins s σ H o i v ov iv u Q I ro ri rv h
 obtain⟨p,xs,k,j,rfl,rfl,hp,hj,q⟩:=h
 cases ro
 obtain⟨t,rfl⟩:=ri
 obtain⟨its,n,r,ho,hz⟩:=I.lst hp
 obtain⟨h1,h2,h3,h4⟩:=wC hj
 have hl:=r.length
 have hn:=kP
 have I':Inv X pins σ (upd H p (.lst (xs.set j v))) { s with heap:=s.heap.update p (Obj.mapSeq (·.setIfInBounds j u)) } :=
  I.lstUpd hp ho (vq its n j u) (r.set rv j) (by rw[List.length_set];exact hz) s.toks
 by_cases h0:0<=k
 ·have hk:k.toNat=j:=by
   rw[seqIndex_of h0 h4]at h1
   exact Option.some.inj h1
  exact PySem.W.ki_setAt ho h0 (by omega) (by rw[List.size_toArray,←hl];exact h4) (by rw[hk];exact⟨_,I',q⟩)
 ·have hk:(k+(its.toArray.size:Int)).toNat=j:=by
   rw[seqIndex_neg (by omega) h3]at h1
   rw[List.size_toArray,←hl]
   exact Option.some.inj h1
  exact PySem.W.ki_setBack ho (by omega) (by rw[List.size_toArray,←hl];exact h3) (by omega) (by rw[hk];exact⟨_,I',q⟩)
theorem qN (lo hi:Option Int) (n:Nat):(sliceBounds lo hi none n).1=((HT.sIx n 0 lo:Nat):Int)/\(sliceBounds lo hi none n).2.1=((HT.sIx n n hi:Nat):Int)/\(sliceBounds lo hi none n).2.2=1:=by
 refine⟨?_, ?_,rfl⟩
 ·cases lo with
  | none=>simp[sliceBounds,HT.sIx]
  | some i =>
   simp only[sliceBounds,HT.sIx,Option.getD_none,show(1:Int) > 0 by decide,if_true]
   by_cases h:i<0
   ·simp only[h,if_true]<;>omega
   ·simp only[h,if_false]<;>omega
 ·cases hi with
  | none=>simp[sliceBounds,HT.sIx]
  | some i =>
   simp only[sliceBounds,HT.sIx,Option.getD_none,show(1:Int) > 0 by decide,if_true]
   by_cases h:i<0
   ·simp only[h,if_true]<;>omega
   ·simp only[h,if_false]<;>omega
theorem oZ (its:List Value) (lo hi:Option Int):slicePick its.toArray lo hi none=((its.drop (HT.sIx its.length 0 lo)).take (HT.sIx its.length its.length hi - HT.sIx its.length 0 lo)).toArray:=by
 obtain⟨h1,h2,h3⟩:=qN lo hi its.toArray.size
 unfold slicePick
 rw[h1,h2,h3]
 simp only[sliceRange_one,pick_run,List.size_toArray]<;>rfl
def FR (K:PySem.W.Frag):V->Option Int->Option Int->Hp->VK->Prop:=λx lo hi H Q=>∃a xs,x=.ref a/\SqL K H a xs/\∀p,H p=none->Q (.ref p) (upd H p (.lst (oW xs lo hi)))
theorem AZ:SlR X (FR X.K):=by
 intro pins s σ H x v vl vu lo hi sl Q I rx hs pl pu h
 obtain⟨a,xs,rfl,hx,q⟩:=h
 cases rx
 obtain⟨its,r,ht,hz⟩:=I.list hx
 have hlen:=r.length
 refine⟨"list",_,slot_list_getitem.lookup,ht.isList.typeIs, ?_⟩
 refine wpAny_getItem_list_slice ht.isList hs pl pu .none (by simp) ?_ (by rw[List.size_toArray]<;>omega)
 rw[oZ,←hlen]
 refine⟨.ref s.heap.objs.size,_,I.laid (t':=s.toks) (o:=.lst (oW xs lo hi)) (λb ob q=>Heap.get?_push_of_some _ q) (Nat.le_refl _) ?_,rfl,q _ (I.hok.fresh (Nat.le_refl _))⟩
 exact⟨Nat.le_trans (lP xs lo hi) hz,_,0,(r.drop (HT.sIx xs.length 0 lo)).take (HT.sIx xs.length xs.length hi - HT.sIx xs.length 0 lo),Heap.get?_push_size _ rfl⟩
def je:V->Bool
 | .non=>true
 | .bl _=>true
 | .int _=>true
 | .str _=>true
 | _=>false
def eqV:V->V->Bool
 | .non,.non=>true
 | .bl a,.bl b=>a == b
 | .bl a,.int b=>(if a then 1 else 0) == b
 | .int a,.bl b=>a == (if b then 1 else 0)
 | .int a,.int b=>a == b
 | .str a,.str b=>a == b
 | _,_=>false
theorem Du {A:Around}{s:Shared}{y x:V}{u v:Value}(ry:aY y u) (rx:aY x v) (fy:je y=true) (fx:je x=true):SeqAt.EqAt A s u v (eqV y x):=by
 cases y with
 | non =>
  cases ry
  cases x with
  | non=>cases rx;exact SeqAt.EqAt.same _
  | bl b=>cases rx;exact SeqAt.EqAt.none_bool b
  | int b=>obtain⟨t,rfl⟩:=rx;exact SeqAt.EqAt.none_int b t
  | str b=>obtain⟨t,rfl⟩:=rx;exact SeqAt.EqAt.none_str b t
  | _=>exact absurd (show false=true from fx) Bool.false_ne_true
 | bl a =>
  cases ry
  cases x with
  | non=>cases rx;exact SeqAt.EqAt.bool_none a
  | bl b=>cases rx;exact SeqAt.EqAt.bool_bool a b
  | int b=>obtain⟨t,rfl⟩:=rx;exact SeqAt.EqAt.bool_int a b t
  | str b=>obtain⟨t,rfl⟩:=rx;exact SeqAt.EqAt.bool_str a b t
  | _=>exact absurd (show false=true from fx) Bool.false_ne_true
 | int a =>
  obtain⟨t',rfl⟩:=ry
  cases x with
  | non=>cases rx;exact SeqAt.EqAt.int_none a t'
  | bl b=>cases rx;exact SeqAt.EqAt.int_bool a t' b
  | int b=>obtain⟨t,rfl⟩:=rx;exact SeqAt.EqAt.int_int a t' b t
  | str b=>obtain⟨t,rfl⟩:=rx;exact SeqAt.EqAt.int_str a t' b t
  | _=>exact absurd (show false=true from fx) Bool.false_ne_true
 | str a =>
  obtain⟨t',rfl⟩:=ry
  cases x with
  | non=>cases rx;exact SeqAt.EqAt.str_none a t'
  | bl b=>cases rx;exact SeqAt.EqAt.str_bool a t' b
  | int b=>obtain⟨t,rfl⟩:=rx;exact SeqAt.EqAt.str_int a t' b t
  | str b=>obtain⟨t,rfl⟩:=rx;exact SeqAt.EqAt.str_str a t' b t
  | _=>exact absurd (show false=true from fx) Bool.false_ne_true
 | _=>exact absurd (show false=true from fy) Bool.false_ne_true
def eqU (x:V) (u:Value):Bool:=match u with
 | .none=>eqV .non x
 | .bool b=>eqV (.bl b) x
 | .int i _=>eqV (.int i) x
 | .str z _=>eqV (.str z) x
 | _=>false
theorem yY {x y:V}{u:Value}(r:aY y u) (f:je y=true):eqU x u=eqV y x:=by
 cases y with
 | non=>cases r;rfl
 | bl b=>cases r;rfl
 | int i=>obtain⟨t,rfl⟩:=r;rfl
 | str z=>obtain⟨t,rfl⟩:=r;rfl
 | _=>exact absurd (show false=true from f) Bool.false_ne_true
theorem jD {x:V}:∀ {xs:List V}{us:List Value},bc xs us->xs.all je=true->us.any (eqU x)=xs.any λy=>eqV y x
 | _,_,.nil,_=>rfl
 | y::xs,u::us,.cons r t,f=>by
  rw[List.all_cons,Bool.and_eq_true]at f
  rw[List.any_cons,List.any_cons,yY r f.1,jD t f.2]
theorem hV {A:Around}{s:Shared}{x:V}{v:Value}(rx:aY x v) (fx:je x=true):∀ {xs:List V}{us:List Value},bc xs us->xs.all je=true->∀u∈us,SeqAt.EqAt A s u v (eqU x u)
 | _,_,.nil,_=>λu hu=>by cases hu
 | y::xs,u::us,.cons r t,f=>λu' hu=>by
  rw[List.all_cons,Bool.and_eq_true]at f
  rcases List.mem_cons.mp hu with rfl|hu
  ·rw[yY r f.1];exact Du r rx f.1 fx
  ·exact hV rx fx t f.2 u' hu
def inV (x:V) (xs:List V):Bool:=xs.any λy=>eqV y x
def rIn (K:PySem.W.Frag) (neg:Bool):R2:=λx y H Q=>∃p xs,y=.ref p/\(SqL K H p xs∨SqT K H p xs)/\je x=true/\xs.all je=true/\Q (.bl (if neg then !inV x xs else inV x xs)) H
theorem xV:OpR X (compareOp .In) (rIn X.K false):=by
 intro pins s σ H x y v u Q I rx ry h
 obtain⟨p,xs,rfl,hq,fx,fs,q⟩:=h
 cases ry
 rcases hq with hq|hq
 ·obtain⟨its,r,pl,hz⟩:=I.list hq
  refine SeqAt.in_listAt (eqU x) pl.isList (λw hw=>hV rx fx r fs w (by simpa using hw)) ⟨.bl _,H,I,rfl, ?_⟩
  rw[show its.toArray.any (eqU x)=its.any (eqU x) by simp,jD r fs]
  exact q
 ·obtain⟨its,r,pl,hz⟩:=I.tuple hq
  refine SeqAt.in_tupleAt (eqU x) pl (λw hw=>hV rx fx r fs w (by simpa using hw)) ⟨.bl _,H,I,rfl, ?_⟩
  rw[show its.toArray.any (eqU x)=its.any (eqU x) by simp,jD r fs]
  exact q
theorem qO:OpR X (compareOp .NotIn) (rIn X.K true):=by
 intro pins s σ H x y v u Q I rx ry h
 obtain⟨p,xs,rfl,hq,fx,fs,q⟩:=h
 cases ry
 rcases hq with hq|hq
 ·obtain⟨its,r,pl,hz⟩:=I.list hq
  refine SeqAt.notIn_listAt (eqU x) pl.isList (λw hw=>hV rx fx r fs w (by simpa using hw)) ⟨.bl _,H,I,rfl, ?_⟩
  rw[show its.toArray.any (eqU x)=its.any (eqU x) by simp,jD r fs]
  exact q
 ·obtain⟨its,r,pl,hz⟩:=I.tuple hq
  refine SeqAt.notIn_tupleAt (eqU x) pl (λw hw=>hV rx fx r fs w (by simpa using hw)) ⟨.bl _,H,I,rfl, ?_⟩
  rw[show its.toArray.any (eqU x)=its.any (eqU x) by simp,jD r fs]
  exact q
theorem qP:cA X (.builtin "len") (λxs H Q=>∃p ys,xs=[.ref p]/\(SqL X.K H p ys∨SqT X.K H p ys)/\Q (.int ys.length) H):=by
 intro pins s σ H xs us Q I r h
 obtain⟨p,ys,rfl,hq,q⟩:=h
 obtain⟨u,rfl,rx⟩:=jd r
 cases rx
 have hn:=kP
 rcases hq with hq|hq
 ·obtain⟨its,r',pl,hz⟩:=I.list hq
  have hlen:=r'.length
  exact Calls.call_len_list pl.isList (by simp only[List.size_toArray]<;>omega) ⟨.int ys.length,H,I.tok _,⟨s.toks+1,by rw[List.size_toArray,hlen]⟩,q⟩
 ·obtain⟨its,r',pl,hz⟩:=I.tuple hq
  have hlen:=r'.length
  exact len_tuple pl (by simp only[List.size_toArray]<;>omega) ⟨.int ys.length,H,I.tok _,⟨s.toks+1,by rw[List.size_toArray,hlen]⟩,q⟩
theorem qQ:cA X (.builtin "len") (λxs H Q=>∃z,xs=[.str z]/\z.length<=sizeLine/\Q (.int z.length) H):=by
 intro pins s σ H xs us Q I r h
 obtain⟨z,rfl,hz,q⟩:=h
 obtain⟨u,rfl,t,rfl⟩:=jd r
 have hn:=kP
 exact len_str (by omega) ⟨.int z.length,H,I.tok _,⟨_,rfl⟩,q⟩
theorem cA.or {f:Value}{r r':List V->Hp->VK->Prop}(h:cA X f r) (h':cA X f r'):cA X f (λxs H Q=>r xs H Q∨r' xs H Q):=by
 intro pins s σ H xs us Q I rs q
 rcases q with q|q
 ·exact h pins s σ H xs us Q I rs q
 ·exact h' pins s σ H xs us Q I rs q
theorem pb:cA X (.type "tuple") (λxs H Q=>∃p ys,xs=[.ref p]/\((SqL X.K H p ys/\∀l,H l=none->Q (.ref l) (upd H l (.tup ys)))∨(SqT X.K H p ys/\Q (.ref p) H))):=by
 intro pins s σ H xs us Q I r h
 obtain⟨p,ys,rfl,h⟩:=h
 obtain⟨u,rfl,rx⟩:=jd r
 cases rx
 rcases h with ⟨hq,q⟩|⟨hq,q⟩
 ·obtain⟨its,r',pl,hz⟩:=I.list hq
  have hlen:=r'.length
  refine call_tuple_list pl.isList (λh' kp=>?_) (by simp only[List.size_toArray]<;>omega)
  have I1:Inv X pins σ H { s with heap:=h' }:=I.kept (t':=s.toks) kp
  have I2:Inv X pins σ (upd H h'.objs.size (.tup ys)) { s with heap:=h'.push { cls:=.type "tuple",data:=.seq its.toArray } } :=
   I1.laid (t':=s.toks) (λb o e=>Heap.get?_push_of_some _ e) (Nat.le_refl _) (show ca X.prog X.w _ _ _ (.tup ys)from ⟨hz,its,r',IsTup.new _ _⟩)
  exact⟨.ref h'.objs.size,_,I2,rfl,q _ (I1.hok.fresh (Nat.le_refl _))⟩
 ·obtain⟨its,r',pl,hz⟩:=I.tuple hq
  exact call_tuple_same pl ⟨.ref p,H,I,rfl,q⟩
def tyV (K:PySem.W.Frag) (T:String) (x:V) (H:Hp):Prop:=match x with
 | .str _=>T = "str"
 | .int _=>T = "int"
 | .ref p=>(T = "list"/\∃xs,SqL K H p xs)∨(T = "tuple"/\∃o,K.lookup p=some o/\o.cls=.type "tuple"/\o.dict=none) ∨
   (T = "dict"/\((∃kvs,H p=some (.dK kvs)) ∨ ∃kvs,H p=some (.dT kvs)))∨(T = "set"/\∃S n,H p=some (.set S n))
 | _=>False
theorem Dv {pins:List (Addr×Obj)}{σ:St}{H:Hp}{s:Shared}{T:String}{x:V}{v:Value}(I:Inv X pins σ H s) (r:aY x v) (ty:tyV X.K T x H) :
  s.TypeIs v T/\∀a,v=.ref a->∃ob,s.heap.get? a=some ob/\ob.dict=none:=by
 cases x with
 | str z =>
  obtain⟨t,rfl⟩:=r
  cases (show T = "str" from ty)
  exact⟨typeIs_str s z t,λ_ e=>nomatch e⟩
 | int i =>
  obtain⟨t,rfl⟩:=r
  cases (show T = "int" from ty)
  exact⟨typeIs_int s i t,λ_ e=>nomatch e⟩
 | ref p =>
  cases r
  rcases ty with ⟨rfl,xs,hq⟩|⟨rfl,o,hk,hc,hd⟩|⟨rfl,hk⟩|⟨rfl,S,n,hk⟩
  ·obtain⟨its,_,pl,_⟩:=I.list hq
   refine⟨pl.isList.typeIs,λa e=>?_⟩
   cases e
   obtain⟨o,n,e,c,hd,_⟩:=pl
   exact⟨o,e,hd⟩
  ·refine⟨⟨o,I.kIn p o hk,hc⟩,λa e=>?_⟩
   cases e
   exact⟨o,I.kIn _ o hk,hd⟩
  ·have z:∃o,s.heap.get? p=some o/\o.ExactDict:=by
    rcases hk with ⟨kvs,hk⟩|⟨kvs,hk⟩
    ·obtain⟨_,_,_,_,o,_,_,e,ex,_⟩:=I.hok p _ hk
     exact⟨o,e,ex⟩
    ·obtain⟨_,_,_,_,o,_,_,e,ex,_⟩:=I.hok p _ hk
     exact⟨o,e,ex⟩
   obtain⟨o,e,ex⟩:=z
   refine⟨⟨o,e,ex.1⟩,λa e2=>?_⟩
   cases e2
   exact⟨o,e,ex.2.1⟩
  ·obtain⟨o,_,_,_,e,ex,_⟩:=I.hok p _ hk
   refine⟨⟨o,e,ex.1⟩,λa e2=>?_⟩
   cases e2
   exact⟨o,e,ex.2.1⟩
 | _=>exact False.elim ty
def tBM (K:PySem.W.Frag) (T:String) (r:V->List V->Hp->VK->Prop) (to:TE) (t:TA):TE:=λσ H Q=>to σ H λx H1=>tyV K T x H1/\t σ H1 λxs H2=>r x xs H2 Q
variable {o e:Expr}{es:List Expr}{to:TE}{t:TA}{name:Str}{apos cpos:Pos}{T id:String}{r:V->List V->Hp->VK->Prop}
theorem Cf (pa:PlainAttrs T) (slot:Slot T name id) (hty:typeOf (.builtin id)=pure (.type "method_descriptor")) (hm:MtR X id r) (ho:PE X o to) (ha:PA X (e::es) t)
  (hbase:attributeBase o name X.env (eval o X.env)=eval o X.env:=by rfl)
  (hfew:((backTo cpos (starEach (e::es) X.env)).all (λx=>!x.1) && (backToKw cpos (keywordEach [] X.env)).all (λx=>x.1.isSome)
   && decide ((e::es).length+([]:List Keyword).length+(if([]:List Keyword).isEmpty then 0 else 1)<30))=true:=by rfl)
  (hline:(apos.endLine == cpos.line)=true:=by rfl) (hs:starEach (e::es) X.env=(false,eval e X.env)::starEach es X.env:=by rfl) (hplain:(backTo cpos (starEach es X.env)).any (·.1)=false:=by rfl) :
  PE X (.Call (.Attribute o name apos) (e::es) [] cpos) (tBM X.K T r to t):=by
 intro pins s σ H Q I h
 refine wpAny_Call_method_late hbase hfew hline rfl (thn (ho pins s σ H _ I h) λv s1 ⟨x,H1,I1,r1,ty,q1⟩=>?_)
 obtain⟨h1,h2⟩:=Dv I1 r1 ty
 refine⟨T,id,pa,slot,hty,h1,h2, ?_⟩
 have hA:=ha cpos pins s1 σ H1 _ I1 q1
 rw[hs]at hA ⊢
 refine Calls.callWith_builtin (by show(false || (backTo cpos (starEach es X.env)).any (·.1))=false;rw[hplain]<;>rfl) (Calls.evalArgs_plain ?_)
 exact thn hA λus s2 ⟨vs,H2,I2,r2,q2⟩=>hm pins s2 σ H2 x vs v us Q I2 r1 r2 q2
/- xs.append(e),list.index on a module's tuple .. are MtR facts of 06m -/
end
def MtM (X:Cx) (id:String) (r:V->List V->Hp->VK->Prop):Prop :=
 ∀(pins:List (Addr×Obj)) (s:Shared) (σ:St) (H:Hp) (x:V) (xs:List V) (v:Value) (us:List Value) (Q:VK),Inv X pins σ H s->aY x v->bc xs us->r x xs H Q ->
  wpAny (model X.prog X.w) X.A (call (.builtin id) (v::us)) (EP X pins σ Q) X.xe s
theorem bc.one:∀ {x:V}{us:List Value},bc [x] us->∃u,us=[u]/\aY x u
 | _,_,.cons r .nil=>⟨_,rfl,r⟩
theorem bc.two:∀ {x y:V}{us:List Value},bc [x,y] us->∃u v,us=[u,v]/\aY x u/\aY y v
 | _,_,_,.cons r (.cons q .nil)=>⟨_,_,rfl,r,q⟩
theorem bc.eraseIdx:∀ {xs:List V}{us:List Value}(i:Nat),bc xs us->bc (xs.eraseIdx i) (us.eraseIdx i)
 | _,_,_,.nil=>.nil
 | _,_,0,.cons _ t=>t
 | _,_,i+1,.cons r t=>.cons r (bc.eraseIdx i t)
section
variable {X:Cx}{pins:List (Addr×Obj)}{σ:St}{H:Hp}{s:Shared}{l b:Addr}{xs ys zs:List V}
theorem Inv.lset {its its':List Value}{n:Nat}{f:Array Value->Array Value}{t':Nat}(I:Inv X pins σ H s) (hH:H l=some (.lst xs))
  (e:s.heap.get? l=some { cls:=.type "list",data:=.seq its.toArray n }) (hf:f its.toArray=its'.toArray) (hv:bc ys its') (hz:ys.length<=sizeLine) :
  Inv X pins σ (upd H l (.lst ys)) { s with heap:=s.heap.update l (Obj.mapSeq f),toks:=t' }:=by
 have q:=PySem.IsL.update e f
 rw[hf]at q
 refine I.write (x:=l) (e:=l) (by rw[hH];exact trivial) (.inl rfl) (λb' u hb hu=>(Heap.get?_update_other s.heap (Obj.mapSeq f) (Ne.symm hb)).trans hu) ⟨_,q⟩ ?_
 exact⟨hz,its',_,hv,q⟩
theorem Inv.lnew {its:List Value}{t':Nat}(I:Inv X pins σ H s) (hv:bc ys its) (hz:ys.length<=sizeLine) :
  Inv X pins σ (upd H s.heap.objs.size (.lst ys)) { s with heap:=s.heap.push { cls:=.type "list",data:=.seq its.toArray },toks:=t' } :=
 I.laid (λ_ _ q=>Heap.get?_push_of_some _ q) (Nat.le_refl _) ⟨hz,its,0,hv,Heap.get?_push_size _ rfl⟩
theorem Inv.fresh (I:Inv X pins σ H s):H s.heap.objs.size=none:=I.hok.fresh (Nat.le_refl _)
theorem Inv.lstM (I:Inv X pins σ H s) (hH:H l=some (.lst xs)):xs.length<=sizeLine/\∃(its:List Value) (n:Nat),bc xs its/\xs.length=its.length/\s.heap.get? l=some { cls:=.type "list",data:=.seq its.toArray n }:=by
 obtain⟨z,its,n,r,e⟩:=I.hok l _ hH
 exact⟨z,its,n,r,r.length,e⟩
end
section
variable {X:Cx}
def wD:V->List V->Hp->VK->Prop:=λx vs H Q=>∃l xs y,x=.ref l/\vs=[y]/\H l=some (.lst xs)/\xs.length<sizeLine/\Q .non (upd H l (.lst (xs++[y])))
theorem pA:MtM X "list.append" wD:=by
 intro pins s σ H x vs v us Q I rx rv h
 obtain⟨l,xs,y,rfl,rfl,hH,hz,q⟩:=h
 cases rx
 obtain⟨u,rfl,ru⟩:=rv.one
 obtain⟨z,its,n,r,hl,e⟩:=I.lstM hH
 refine call_meets F.slot_list_append ⟨_,e,rfl⟩ F.entry_list_append (F.args_list_append_2 _ _) (PySem.list_append l its.toArray n u (by rw[List.size_toArray];omega)) ⟨e, ?_⟩
 refine⟨.non,_,I.lset (its':=its++[u]) hH e (by simp) (r.append (.cons ru .nil)) ?_,rfl,q⟩
 rw[List.length_append,List.length_singleton]
 omega
end
end L2
namespace Att
open PySem PySem.W PySem.Calls PyProof.Rows
theorem mD {P:Params}{h:Heap}:∀(ns:List Int) (vs:List Value),WellAll P h vs (ns.map WData.int)->IntsAre vs ns:=by
 intro ns
 induction ns with
 | nil =>
  intro vs w
  rw[List.map_nil]at w
  cases w
  exact .nil
 | cons n ns ih =>
  intro vs w
  rw[List.map_cons]at w
  cases w with
  | cons a b =>
   cases a
   exact .cons _ _ (ih _ b)
theorem xW {l:OpenLaw}{n:Nat}(hn:l.most=some n) {P:Params}{h:Heap}{args:List WData}{vals:List Value}
  (hpre:l.row.toRowW.claim.pre args=true) (hwl:WellAll P h vals args) :
  ∃a vs ns,vals=[Value.ref a]/\args=[WData.list (ns.map WData.int)]/\h.get? a=some { cls:=.type "list",data:=.seq vs.toArray }/\IntsAre vs ns/\ns.length<=n:=by
 have hsh:WShape.hasAll [] args [.list .int]=true:=(pre_splitW hpre).1
 have hc:l.pre.holds [] { args:=args }=true:=(pre_splitW hpre).2
 obtain⟨d,r,rfl,h1,h2⟩:=hasAllW_cons hsh
 obtain rfl:=hasAllW_nil h2
 obtain⟨xs,rfl,h3⟩:=hasW_list h1
 obtain⟨ns,rfl⟩:=items_int h3
 have hlen:ns.length<=n:=by
  unfold OpenLaw.pre at hc
  have h4:(WTm.not (.lt (.lit (.int (n:Int))) (.len (.arg 0)))).holds [] { args:=[.list (ns.map .int)] }=true:=by
   have h4:=(holds_andW hc).1
   rw[hn]at h4
   exact h4
  have h5:=condW_of h4 (w_not (w_lt w_lit (w_len_list (w_arg rfl))))
  rw[List.length_map]at h5
  refine Nat.le_of_not_lt λq=>?_
  have q':(n:Int)<((ns.length:Nat):Int):=by omega
  first
   | (rw[decide_eq_true q']at h5;exact absurd h5 (by decide))
   | (simp at h5;omega)
 cases hwl with
 | cons w1 w2 =>
  cases w2
  cases w1 with
  | list ho hall=>exact⟨_,_,ns,rfl,rfl,ho,mD ns _ hall,hlen⟩
theorem xX (l:OpenLaw) (args:List WData):l.row.toRowW.claim.post args (.bool true) args=true :=
 postW_of (r:=l.row.toRowW) (X:=(true == true))
  (show WShape.has [] (.bool true) .bool=true by first|rfl|decide|simp[WShape.has,WShape.arms,WShape.armsAll])
  (show(WTm.eq .res (.lit (.bool true))).value [] { args:=args,res:=some (.bool true),after:=args }=some (.bool (true == true))from w_eq_bool (w_res rfl) w_lit) rfl
theorem sL {l:OpenLaw}{n:Nat}{q:Program}{loose:List Str}{XP:(Str->Option Value)->Heap->Prop}{YP:World->Heap->Prop}{d:DefRec}
  (hn:l.most=some n) (hdf:d.params.defaults=[])
  (call:∀(w:World) (s₀ s₁:Shared) (mg mb:Str->Option Value) (fa:Addr) (o:Obj) (pm cd doc:Value) (a:Addr) (vs:List Value) (ns:List Int),
   Ground q loose [] XP w s₀ mg mb s₁.heap->YP w s₁.heap ->
   s₁.heap.get? fa=some o->o.data=.func (docDef d.name d.params d.body d.scope pm cd doc)->s₁.heap.CodeRec cd d.name->mg d.name=some (.ref fa) ->
   s₁.heap.get? a=some { cls:=.type "list",data:=.seq vs.toArray }->IntsAre vs ns->ns.length<=n->s₁.gens=#[] ->
   codeAny (model l.prog w) callerA (.call (.ref fa) ⟨[.ref a],[]⟩) (λr s'=>r=.ok (.ret (.bool true))/\OldK s₁.heap s'.heap/\s'.os=s₁.os/\AllBare s'.gens) s₁) :
  WalkO q loose XP YP l.row.toRowW d [] (λf vs=>PySem.call f vs):=by
 intro w s₀ s₁ mg mb G Y fa o pm cd doc dV kV ho hd hcd hD hmg hg args vals as hpre hlay hrd hwl hlo
 obtain rfl:dV=.none:=Dflts.none hD hdf
 obtain rfl:kV=.none:=Dflts.noKw hD
 obtain⟨a,vs,ns,rfl,rfl,hobj,hints,hlen⟩:=xW hn hpre hwl
 refine enter_call (codeAny_mono (call w s₀ s₁ mg mb fa o pm cd doc a vs ns G Y ho (fd_plain hd) hcd hmg hobj hints hlen hg) λr s' hq=>?_)
 obtain⟨rfl,h2,h3,h4⟩:=hq
 exact⟨.inl ⟨.bool true,.bool true,[],rfl,λ_=>rfl,.bool true,xX l _,λ_=>⟨List.Pairwise.nil,λ_ hm=>(nomatch hm)⟩⟩,h2,h3,h4⟩
section
variable {prog:Program}{w:World}{A:Around}{E:Value->Shared->Prop}{s:Shared}{K:Frag}
theorem EQ {R:Result->Shared->Prop}{C fI:Addr}{aF:List Value}{kw:List (Str×Value)}
  (X:K.In s.heap) (hm:makesIn K C=true) (hi:findIn K (.ref C) "__init__" = some (some (.ref fI))) (hf:isFn K (.ref fI)=true)
  (h:codeAny (model prog w) (A.under (.builtin "type.__call__" ⟨.ref C::aF,kw⟩)) (.call (.ref fI) ⟨.ref (s.heap.objs.size+1)::aF,kw⟩) (InitBack (s.heap.objs.size+1) R)
   { s with heap:=(s.heap.push emptyDict).push (instObj C s.heap.objs.size) }):codeAny (model prog w) A (.call (.ref C) ⟨aF,kw⟩) R s:=by
 obtain⟨hh,g,d,t,os⟩:=s
 exact make_core (makes_of X hm) (looks_findIn X hi) (λself=>bind_fn X self (beq_iff_eq.mp hf)) (.inl rfl) h
theorem Ec {x C:Addr}{ox:Obj}{es:List DictEntry}{n:Nat}{name:Str}{expr:Bool}{v:Value}{Q:Value->Shared->Prop}
  (X:K.In s.heap) (I:PySem.W.InstAt s.heap x ox C (some (dictOf es n))) (hg:plainGet K C name=true) (hh:hasDictIn K C=true) (ha:findIn K (.ref C) name=some none)
  (hl:getL name es=some (some v)) (hv:handedIn v=true) (h:Q v { s with toks:=s.toks+1 }):wpAny (model prog w) A (getAttr (.ref x) name expr) Q E s :=
 get_value X I (plainGet_of hg).1 (findObj_own hh ha rfl hl) hv h
def FU (h:Heap) (L d:Addr):List (Addr×Obj):=(List.range h.objs.size).filterMap λa=>if a=L∨a=d then none else (h.get? a).map λo=>(a,o)
end
end Att
namespace L2
open PySem PySem.Spec PyProof.Rows
theorem iM:∀ {vs:List Value}{ns:List Int},IntsAre vs ns->bc (ns.map V.int) vs
 | _,_,.nil=>.nil
 | _,_,.cons n t h=>.cons ⟨t,rfl⟩ (iM h)
def fO (s:Stmt):Arguments:=match s with
 | .FunctionDef _ a _ _ _ _ _ _ _ _=>a
 | _=>{ posonlyargs:=[],args:=[],vararg:=none,kwonlyargs:=[],kw_defaults:=[],kwarg:=none,defaults:=[] }
def cE (s:Stmt):List Stmt:=match s with
 | .FunctionDef _ _ b _ _ _ _ _ _ _=>b
 | _=>[]
def aw (s:Stmt):Scope:=match s with
 | .FunctionDef _ _ _ _ _ _ sc _ _ _=>sc
 | _=>{ kind:=.function,names:=[],isGenerator:=false,isCoroutine:=false }
abbrev CX0:CXT:=λ_ _ _ _ _ _=>False
abbrev E0:XK:=λ_ _ _=>False
theorem ER {X:Cx}:vj CX0 X E0:=λ_ _ _ _ _ _ _ h=>h.elim
structure Fun (K:PySem.W.Frag) (x qual:Str) (st:Stmt) (f:Addr) (fd:FuncData):Prop where
 ex:∃(oc:Value) (od:Option Addr) (kV doc pm:Value) (an:Option Addr) (cdv ct:Value) (osl:Array (Option Value)),
  fd=PySem.W.fnOf x qual (fO st) (cE st) (aw st) .none kV doc pm an cdv ct/\K.lookup f=some ⟨oc,od,.func fd,osl⟩/\PySem.W.codeIn K cdv qual=true
 kp:PySem.W.keepIn K (.ref f)=true
section
variable {P:Program}{w:World}{K:PySem.W.Frag}{mg:Str->Option Value}{base:Heap}
theorem Fun.ok {x qual:Str}{st:Stmt}{f:Addr}{fd:FuncData}{N ps:List Str}{k:Nat}{sp:Sp}(F:Fun K x qual st f fd) (S:FnScope N ps (aw st)) (len:∀vs H Q E,sp vs H Q E->vs.length=ps.length)
  (hbody:∀(cdv:Value) (A:Around) (outer:List Env) (s:Shared) (H:Hp) (vs:List V) (Q:VK) (E:XK),Room k (A.deeper (envOfC qual (aw st) s.heap.objs.size f cdv))->sp vs H Q E ->
   ∃t,PSs (mS CX0 P w K mg base N qual (aw st) f cdv A outer s H E).nox (cE st) t/\t { nx:=λ_ H'=>Q .non H',rt:=Q } (du N vs) H):FnOk P w K mg base CX0 (k+1) f fd ps sp:=by
 obtain⟨oc,od,kV,doc,pm,an,cdv,ct,osl,rfl,lk,hcd⟩:=F.ex
 refine Cc lk hcd S len λA outer s H vs Q E hr hsp=>?_
 obtain⟨t,h,q⟩:=hbody cdv A outer s H vs Q E hr hsp
 exact⟨t,h.nox,q⟩
theorem Fun.binds {x qual:Str}{st:Stmt}{f:Addr}{fd:FuncData}{ps:List Str}(F:Fun K x qual st f fd)
  (h:∀(kV doc pm:Value) (an:Option Addr) (cdv ct:Value) (us:List Value),us.length=ps.length->bindArgs (PySem.W.fnOf x qual (fO st) (cE st) (aw st) .none kV doc pm an cdv ct) ⟨us,[]⟩=pure (ps.zip us)):p4 K fd ps []:=by
 obtain⟨oc,od,kV,doc,pm,an,cdv,ct,osl,rfl,lk,hcd⟩:=F.ex
 exact .all (h kV doc pm an cdv ct)
theorem Dw {x qual:Str}{st:Stmt}{f:Addr}{oc:Value}{od an:Option Addr}{osl:Array (Option Value)}{kV doc pm cdv ct:Value}(l:K.lookup f=some ⟨oc,od,.func (PySem.W.fnOf x qual (fO st) (cE st) (aw st) .none kV doc pm an cdv ct),osl⟩)
  (c:PySem.W.codeIn K cdv qual=true) (k:PySem.W.keepIn K (.ref f)=true):Fun K x qual st f (PySem.W.fnOf x qual (fO st) (cE st) (aw st) .none kV doc pm an cdv ct):=⟨⟨oc,od,kV,doc,pm,an,cdv,ct,osl,rfl,l,c⟩,k⟩
end
def aS (H H':Hp):Prop:=∀b o,H b=some o->H' b=some o
theorem aS.refl (H:Hp):aS H H:=λ_ _ h=>h
theorem aS.trans {H H1 H2:Hp}(a:aS H H1) (b:aS H1 H2):aS H H2:=λc o h=>b c o (a c o h)
theorem aS.free {H H':Hp}(e:aS H H') {l:Addr}(h:H' l=Option.none):H l=Option.none:=by
 cases q:H l with
 | none=>rfl
 | some o =>
  rw[e l o q]at h
  cases h
theorem aS.seq {K:PySem.W.Frag}{H H':Hp}{a:Addr}{xs:List V}(e:aS H H') (h:SqL K H a xs):SqL K H' a xs:=by
 rcases h with (h|⟨o,h⟩)|h
 ·exact .inl (.inl (e _ _ h))
 ·exact .inl (.inr ⟨o,e _ _ h⟩)
 ·exact .inr h
section
variable {κ:Type}[DecidableEq κ]
def ja (kvs:List (κ×V)) (k:κ):Option V:=(kvs.find? λkv=>decide (kv.1=k)).map (·.2)
def jb (kvs:List (κ×V)) (k:κ) (v:V):List (κ×V) :=
 if(kvs.any λkv=>decide (kv.1=k))=true then kvs.map (λkv=>if kv.1=k then (kv.1,v)else kv)else kvs++[(k,v)]
theorem jE {p:κ×V}{r:List (κ×V)}{k:κ}(e:p.1=k):ja (p::r) k=some p.2:=by simp[ja,List.find?_cons,e]
theorem jF {p:κ×V}{r:List (κ×V)}{k:κ}(e:¬p.1=k):ja (p::r) k=ja r k:=by simp[ja,List.find?_cons,e]
theorem sM (k:κ):∀kvs:List (κ×V),(kvs.any λkv=>decide (kv.1=k))=(ja kvs k).isSome
 | []=>rfl
 | p::r=>by
  rw[List.any_cons]
  by_cases e:p.1=k
  ·simp only[jE e,decide_eq_true e,Bool.true_or,Option.isSome_some]
  ·rw[jF e,decide_eq_false e,Bool.false_or];exact sM k r
theorem hW (kvs:List (κ×V)) (k:κ) (v:V):(jb kvs k v).length<=kvs.length+1:=by
 unfold jb
 split
 ·rw[List.length_map];omega
 ·rw[List.length_append,List.length_cons,List.length_nil];omega
theorem mC.isSome_eq {o:Option V}{u:Option Value}(r:mC o u):o.isSome=u.isSome:=by
 cases o with
 | none=>cases u with
  | none=>rfl
  | some _=>exact(show False from r).elim
 | some _=>cases u with
  | none=>exact(show False from r).elim
  | some _=>rfl
theorem mC.getD {o:Option V}{u:Option Value}{d:V}{d':Value}(r:mC o u) (rd:aY d d'):aY (o.getD d) (u.getD d'):=by
 cases o with
 | none=>cases u with
  | none=>exact rd
  | some _=>exact(show False from r).elim
 | some _=>cases u with
  | none=>exact(show False from r).elim
  | some _=>exact r
theorem KV.val {kvs:List (κ×V)}{vs:List (κ×Value)}(r:KV kvs vs) (k:κ):mC (ja kvs k) (valueAt vs k):=by
 unfold KV at r
 induction r with
 | nil=>exact True.intro
 | @cons p q ps qs h t ih =>
  obtain⟨h1,h2⟩:=h
  by_cases e:p.1=k
  ·have e':q.1=k:=h1.symm.trans e
   have b:valueAt (q::qs) k=some q.2:=by simp[valueAt,List.find?_cons,e']
   rw[jE e,b];exact h2
  ·have e':¬q.1=k:=λz=>e (h1.trans z)
   have b:valueAt (q::qs) k=valueAt qs k:=by simp[valueAt,List.find?_cons,e']
   rw[jF e,b];exact ih
theorem KV.any {kvs:List (κ×V)}{vs:List (κ×Value)}(r:KV kvs vs) (k:κ):(kvs.any λkv=>decide (kv.1=k))=vs.any λkv=>decide (kv.1=k):=by
 unfold KV at r
 induction r with
 | nil=>rfl
 | cons h t ih=>rw[List.any_cons,List.any_cons,ih,h.1]
theorem KV.repl {kvs:List (κ×V)}{vs:List (κ×Value)}(r:KV kvs vs) (k:κ) {y:V}{u:Value}(ry:aY y u) :
  KV (kvs.map λkv=>if kv.1=k then (kv.1,y)else kv) (vs.map λkv=>if kv.1=k then (kv.1,u)else kv):=by
 unfold KV at r ⊢
 induction r with
 | nil=>exact .nil
 | @cons p q ps qs h t ih =>
  rw[List.map_cons,List.map_cons]
  refine .cons ?_ ih
  obtain⟨h1,h2⟩:=h
  by_cases e:p.1=k
  ·rw[if_pos e,if_pos (h1.symm.trans e)];exact⟨h1,ry⟩
  ·rw[if_neg e,if_neg (λz=>e (h1.trans z))];exact⟨h1,h2⟩
theorem KV.put {kvs:List (κ×V)}{vs:List (κ×Value)}(r:KV kvs vs) (k:κ) {y:V}{u:Value}(ry:aY y u):KV (jb kvs k y) (stored vs k u):=by
 unfold jb stored
 rw[r.any k]
 by_cases e:(vs.any λkv=>decide (kv.1=k))=true
 ·rw[if_pos e,if_pos e];exact r.repl k ry
 ·rw[if_neg e,if_neg e];exact Paired.snoc r ⟨rfl,ry⟩
theorem KV.length {kvs:List (κ×V)}{vs:List (κ×Value)}(r:KV kvs vs):kvs.length=vs.length:=Paired.length r
end
theorem wE {P:Program}{w:World}{k:Key}{u:Value}(r:aY (kV k) u):(c7 P w).is k u=true:=by
 cases k with
 | inl i=>obtain⟨t,e⟩:=(show ∃t,u=Value.int i t from r);subst e;exact sA P w i t
 | inr x=>obtain⟨t,e⟩:=(show ∃t,u=Value.str x t from r);subst e;exact sC P w x t
theorem pB {P:Program}{w:World}:∀ {ks:List Key}{us:List Value},bc (ks.map kV) us->ItemsAre (c7 P w) ks us
 | [],_,r=>by rw[List.map_nil]at r;cases r;exact .nil
 | k::ks,_,r=>by
  rw[List.map_cons]at r
  cases r with
  | cons h t=>exact .cons (wE h) (pB t)
abbrev KT (H:Hp):List (List Key×V)->List (List Key×Addr×Value)->Prop:=Paired λp q=>p.1=q.1/\H q.2.1=some (.tup (p.1.map kV))/\aY p.2 q.2.2
theorem KT.val {H:Hp}{kvs:List (List Key×V)}{xs:List (List Key×Addr×Value)}(r:KT H kvs xs) (k:List Key):mC (ja kvs k) ((atKey xs k).map (·.2)):=by
 induction r with
 | nil=>exact True.intro
 | @cons p q ps qs h t ih =>
  obtain⟨h1,_,h2⟩:=h
  by_cases e:p.1=k
  ·have e':q.1=k:=h1.symm.trans e
   have b:atKey (q::qs) k=some q.2:=by simp[atKey,List.find?_cons,e']
   rw[jE e,b];exact h2
  ·have e':¬q.1=k:=λz=>e (h1.trans z)
   have b:atKey (q::qs) k=atKey qs k:=by simp[atKey,List.find?_cons,e']
   rw[jF e,b];exact ih
theorem KT.repl {H:Hp}{kvs:List (List Key×V)}{xs:List (List Key×Addr×Value)}(r:KT H kvs xs) (k:List Key) {y:V}{u:Value}(ry:aY y u) :
  KT H (kvs.map λkv=>if kv.1=k then (kv.1,y)else kv) (xs.map (putAt k u)):=by
 induction r with
 | nil=>exact .nil
 | @cons p q ps qs h t ih =>
  rw[List.map_cons,List.map_cons]
  refine .cons ?_ ih
  obtain⟨h1,h2,h3⟩:=h
  unfold putAt
  by_cases e:p.1=k
  ·rw[if_pos e,if_pos (h1.symm.trans e)];exact⟨h1,h2,ry⟩
  ·rw[if_neg e,if_neg (λz=>e (h1.trans z))];exact⟨h1,h2,h3⟩
theorem KT.put {H:Hp}{kvs:List (List Key×V)}{xs:List (List Key×Addr×Value)}(r:KT H kvs xs) (k:List Key) {b:Addr}{y:V}{u:Value}(hb:H b=some (.tup (k.map kV))) (ry:aY y u) :
  KT H (jb kvs k y) (storedH xs k b u):=by
 have e:(kvs.any λkv=>decide (kv.1=k))=(atKey xs k).isSome:=by
  rw[sM,(r.val k).isSome_eq,Option.isSome_map]
 unfold jb storedH
 rw[e]
 by_cases q:(atKey xs k).isSome=true
 ·rw[if_pos q,if_pos q];exact r.repl k ry
 ·rw[if_neg q,if_neg q];exact Paired.snoc r ⟨rfl,hb,ry⟩
theorem KT.keeps {H H':Hp}{kvs:List (List Key×V)}{xs:List (List Key×Addr×Value)}(r:KT H kvs xs) (ht:∀b ys,H b=some (.tup ys)->H' b=some (.tup ys)):KT H' kvs xs :=
 Paired.mapP r λ_ _ z=>⟨z.1,ht _ _ z.2.1,z.2.2⟩
section
variable {P:Program}{w:World}{H:Hp}{h:Heap}{a:Addr}
theorem Cg {u:HO}(ok:HOk P w H h) (e:Rd H a u):ca P w H h a u:=e.ok ok
theorem yZ {kvs:List (Key×V)}(ok:HOk P w H h) (e:Rd H a (.dK kvs)):kvs.length<=sizeLine/\(a == sysModules)=false/\∃vs,KV kvs vs/\h.DictOf (c7 P w) a vs :=
 show ca P w H h a (.dK kvs)from Cg ok e
theorem Ci {kvs:List (Key×V)}(ok:HOk P w H h) (e:H a=some (.dK kvs)):kvs.length<=sizeLine/\(a == sysModules)=false/\∃vs,KV kvs vs/\h.DictOf (c7 P w) a vs:=yZ ok (.inl e)
theorem vt {ks:List Key}(ok:HOk P w H h) (e:H a=some (.tup (ks.map kV))):(tupleKind (c7 P w)).is h ks a:=by
 obtain⟨_,its,r,o,h1,h2,n,h3⟩:=(show ca P w H h a (.tup (ks.map kV))from ok a _ e)
 exact⟨o,its.toArray,n,h1,h2,h3,by simpa using pB r⟩
theorem za {kvs:List (List Key×V)}(ok:HOk P w H h) (e:Rd H a (.dT kvs)):kvs.length<=sizeLine/\(a == sysModules)=false /\
  ∃xs,KT H kvs xs/\h.DictOfH (tupleKind (c7 P w)) a xs:=by
 obtain⟨z,y,xs,r,o,es,ep,h1,h2,h3,h4,h5⟩:=(show ca P w H h a (.dT kvs)from Cg ok e)
 refine⟨z,y,xs,r,o,es,ep,h1,h2,h3,h4,λx hx=>?_,h5⟩
 have all:∀ {l:List (List Key×V)}{m:List (List Key×Addr×Value)},KT H l m->∀x∈m,(tupleKind (c7 P w)).is h x.1 x.2.1:=by
  intro l m q
  induction q with
  | nil=>intro x hx;exact nomatch hx
  | @cons p q ps qs hq t ih =>
   intro x hx
   rcases List.mem_cons.mp hx with e|hx
   ·subst e
    exact vt ok (by rw[←hq.1];exact hq.2.1)
   ·exact ih x hx
 exact all r x hx
theorem ES {kvs:List (List Key×V)}(ok:HOk P w H h) (e:H a=some (.dT kvs)):kvs.length<=sizeLine/\(a == sysModules)=false /\
  ∃xs,KT H kvs xs/\h.DictOfH (tupleKind (c7 P w)) a xs:=za ok (.inl e)
end
def xY (H:Hp) (a:Addr) (y:V) (r:Option V):Prop :=
 (∃kvs k,Rd H a (.dK kvs)/\y=kV k/\r=ja kvs k) ∨ ∃kvs k b,Rd H a (.dT kvs)/\y=.ref b/\H b=some (.tup (k.map kV))/\r=ja kvs k
def xZ (H:Hp) (a:Addr) (y v:V) (H':Hp):Prop :=
 (∃kvs k,H a=some (.dK kvs)/\y=kV k/\kvs.length<sizeLine/\H'=upd H a (.dK (jb kvs k v))) ∨
 ∃kvs k b,H a=some (.dT kvs)/\y=.ref b/\H b=some (.tup (k.map kV))/\kvs.length<sizeLine/\H'=upd H a (.dT (jb kvs k v))
theorem xY.k {H:Hp}{a:Addr}{kvs:List (Key×V)}{k:Key}(e:H a=some (.dK kvs)):xY H a (kV k) (ja kvs k):=.inl ⟨kvs,k,.inl e,rfl,rfl⟩
theorem xY.t {H:Hp}{a b:Addr}{kvs:List (List Key×V)}{k:List Key}(e:H a=some (.dT kvs)) (eb:H b=some (.tup (k.map kV))):xY H a (.ref b) (ja kvs k):=.inr ⟨kvs,k,b,.inl e,rfl,eb,rfl⟩
theorem xZ.k {H:Hp}{a:Addr}{kvs:List (Key×V)}{k:Key}{v:V}(e:H a=some (.dK kvs)) (hl:kvs.length<sizeLine):xZ H a (kV k) v (upd H a (.dK (jb kvs k v))):=.inl ⟨kvs,k,e,rfl,hl,rfl⟩
theorem xZ.t {H:Hp}{a b:Addr}{kvs:List (List Key×V)}{k:List Key}{v:V}(e:H a=some (.dT kvs)) (eb:H b=some (.tup (k.map kV))) (hl:kvs.length<sizeLine) :
  xZ H a (.ref b) v (upd H a (.dT (jb kvs k v))):=.inr ⟨kvs,k,b,e,rfl,eb,hl,rfl⟩
section
variable {X:Cx}{pins:List (Addr×Obj)}{σ:St}{H:Hp}{s:Shared}{a:Addr}{y v:V}{u r:Value}{o:Option V}{A:Around}{E:Value->Shared->Prop}
theorem Inv.big (I:Inv X pins σ H s):sysModules<s.heap.objs.size:=by
 have h:mainGlobals<s.heap.objs.size:=(I.mod.glob.keeps I.bk).lt
 exact Nat.lt_trans (by decide) h
theorem qR {h':Heap}{t':Nat}{ob:HO}(I:Inv X pins σ H s) (mu:Mut (H a)) (hs:Heap.SameBut a s.heap h') (he:∃q,h'.get? a=some q) (new:ca X.prog X.w (upd H a ob) h' a ob) :
  Inv X pins σ (upd H a ob) { s with heap:=h',toks:=t' } :=
 I.write (x:=a) (e:=a) mu (.inl rfl) (λb q hb z=>(hs.2 b hb).trans z) he new
theorem zb {P:Program}{w:World}{H':Hp}{h':Heap}{kvs:List (Key×V)}{vs:List (Key×Value)}(z:kvs.length<=sizeLine) (hd:(a == sysModules)=false) (rel:KV kvs vs) (dd:h'.DictOf (c7 P w) a vs) :
  ca P w H' h' a (.dK kvs):=⟨z,hd,vs,rel,dd⟩
theorem yc {H':Hp}{Q:Unit->Shared->Prop}(hu:A.units+1<cLine) (I:Inv X pins σ H s) (g:xZ H a y v H') (ry:aY y u) (rv:aY v r) (h:∀s',Inv X pins σ H' s'->Q () s') :
  wpAny (model X.prog X.w) A (setItem (.ref a) u r) Q E s:=by
 rcases g with ⟨kvs,k,e,ey,l,eH⟩|⟨kvs,k,b,e,ey,eb,l,eH⟩
 ·subst ey eH
  obtain⟨z,hd,vs,rel,dd⟩:=Ci I.hok e
  have hz:vs.length<=sizeLine:=by rw[←rel.length];exact z
  have hl:(jb kvs k v).length<=sizeLine:=by have:=hW kvs k v;omega
  refine wpAny_setItem_pairs (hsz:=hz) (wE ry) dd λh' dd' hs=>h _ ?_
  have he:∃q,h'.get? a=some q:=let ⟨q,_,_,hq,_⟩:=dd';⟨q,hq⟩
  exact qR I (by rw[e];exact True.intro) hs he (zb hl hd (rel.put k rv) dd')
 ·subst ey eH
  cases (show u=Value.ref b from ry)
  obtain⟨z,hd,xs,rel,dd⟩:=ES I.hok e
  have hz:xs.length<=sizeLine:=by rw[←Paired.length rel];exact z
  have hl:(jb kvs k v).length<=sizeLine:=by have:=hW kvs k v;omega
  refine wpAny_setItem_heap (hsz:=hz) (tupleKind_room_in1 hu) (vt I.hok eb) dd λh' dd' hs=>h _ ?_
  obtain⟨q,es,ep,hq,h2,h3,h4,_,h5⟩:=dd'
  refine qR I (by rw[e];exact True.intro) hs ⟨q,hq⟩ ⟨hl,hd,_,(rel.put k eb rv).keeps λc ys ec=>?_,q,es,ep,hq,h2,h3,h4,h5⟩
  rw[aG (cV ec e (λz=>nomatch z))]
  exact ec
end
def Cj (td ty tv:TE):TS:=λD σ H=>tv σ H λv H1=>td σ H1 λx H2=>ty σ H2 λy H3=>∃a H4,x=.ref a/\xZ H3 a y v H4/\D.nx σ H4
section
variable {X:Cx}{o i e value:Expr}{pos pos' tpos:Pos}{td ty tv:TE}
theorem Ba (hu:X.A.units+1<cLine) (ho:PE X o td) (hi:PE X i ty) (hv:PE X value tv) (hs:swapsWith value (some (.Subscript o i pos')) pos.line X.env=pure false) :
  PS X (.Assign [.Subscript o i pos'] value pos) (Cj td ty tv):=by
 intro pins s σ H D I h
 refine wpAny_Assign_Subscript (thn (hv pins s σ H _ I h) λr s1 ⟨v,H1,I1,rv,q1⟩=>thn (ho pins s1 σ H1 _ I1 q1) λu s2 ⟨x,H2,I2,rx,q2⟩=>thn (hi pins s2 σ H2 _ I2 q2) λiv s3 ⟨y,H3,I3,ry,a,H4,ex,g,q3⟩=>?_) hs
 subst ex
 obtain rfl:u=Value.ref a:=rx
 exact yc hu I3 g ry rv λs4 I4=>⟨σ,H4,I4,q3⟩
end
theorem zc {P:Program}{w:World}{H:Hp}(h:Heap) (hb:sysModules<h.objs.size):ca P w H (h.push { cls:=.type "dict",data:=.dict #[] }) h.objs.size (.dK []) :=
 ⟨Nat.zero_le _,beq_eq_false_iff_ne.mpr (Ne.symm (Nat.ne_of_lt hb)),[],.nil,Heap.DictOf.new h⟩
theorem zd {P:Program}{w:World}{H:Hp}(h:Heap) (hb:sysModules<h.objs.size):ca P w H (h.push { cls:=.type "dict",data:=.dict #[] }) h.objs.size (.dT []) :=
 ⟨Nat.zero_le _,beq_eq_false_iff_ne.mpr (Ne.symm (Nat.ne_of_lt hb)),[],.nil,_,#[],0,Heap.get?_push_size _ rfl,⟨rfl,rfl,rfl⟩,rfl,rfl,List.nodup_nil⟩
def ze:TE:=λ_ H Q=>∀p,H p=none->Q (.ref p) (upd H p (.dT []))
section
variable {X:Cx}{pos:Pos}
theorem zf:PE X (.Dict [] [] pos) ze:=λpins s σ H Q I h =>
 wpAny_Dict_empty ⟨.ref s.heap.objs.size,_,I.laid (a:=s.heap.objs.size) (o:=.dT []) (t':=s.toks) (λ_ _ q=>Heap.get?_push_of_some _ q) (Nat.le_refl _) (zd s.heap I.big),rfl,h _ (I.hok.fresh (Nat.le_refl _))⟩
end
structure M1 (X:Cx) (o:Expr) (m:Str) (apos:Pos) (e:Expr) (cpos:Pos):Prop where
 base:attributeBase o m X.env (eval o X.env)=eval o X.env
 few:((backTo cpos (starEach [e] X.env)).all (λx=>!x.1) && (backToKw cpos (keywordEach [] X.env)).all (λx=>x.1.isSome)
  && decide (([e]:List Expr).length+([]:List Keyword).length+(if([]:List Keyword).isEmpty then 0 else 1)<30))=true
 line:(apos.endLine == cpos.line)=true
 trees:backTo cpos (starEach [e] X.env)=[(false,eval e X.env)]
def IsD (H:Hp) (a:Addr):Prop:=(∃kvs,Rd H a (.dK kvs)) ∨ ∃kvs,Rd H a (.dT kvs)
theorem Dx {X:Cx}{pins:List (Addr×Obj)}{σ:St}{H:Hp}{s:Shared}{a:Addr}(I:Inv X pins σ H s) (d:IsD H a) :
  s.TypeIs (.ref a) "dict"/\(∀b,Value.ref a=.ref b->∃ob,s.heap.get? b=some ob/\ob.dict=none)/\(a == sysModules)=false:=by
 rcases d with ⟨kvs,e⟩|⟨kvs,e⟩
 ·obtain⟨_,hd,vs,_,dd⟩:=yZ I.hok e
  refine⟨dd.typeIs,λb q=>?_,hd⟩
  cases q
  obtain⟨ob,_,_,h1,h2,_⟩:=dd
  exact⟨ob,h1,h2.2.1⟩
 ·obtain⟨_,hd,xs,_,dd⟩:=za I.hok e
  refine⟨dd.typeIs,λb q=>?_,hd⟩
  cases q
  obtain⟨ob,_,_,h1,h2,_⟩:=dd
  exact⟨ob,h1,h2.2.1⟩
section
variable {X:Cx}{pins:List (Addr×Obj)}{σ:St}{H:Hp}{s:Shared}{a:Addr}{y d:V}{u r:Value}{o:Option V}{A:Around}{E:Value->Shared->Prop}
theorem Dy {Q:Value->Shared->Prop}(hu:A.units+1<cLine) (I:Inv X pins σ H s) (g:xY H a y o) (ry:aY y u) (h:∀w' s',Inv X pins σ H s'->aY (o.getD .non) w'->Q w' s') :
  wpAny (model X.prog X.w) A (call (.builtin "dict.get") [.ref a,u]) Q E s:=by
 rcases g with ⟨kvs,k,e,ey,l⟩|⟨kvs,k,b,e,ey,eb,l⟩
 ·subst ey
  obtain⟨z,hd,vs,rel,dd⟩:=yZ I.hok e
  refine call_meetsIn PySem.F.slot_dict_get dd.typeIs PySem.F.entry_dict_get (PySem.F.args_dict_get_2 _ _) (meets_dict_get (c7 X.prog X.w) a (wE ry) hd) ⟨_,dd.mapOf,h _ _ (I.tok _) ?_⟩
  rw[l]
  exact(rel.val k).getD rfl
 ·subst ey
  cases (show u=Value.ref b from ry)
  obtain⟨z,hd,xs,rel,dd⟩:=za I.hok e
  refine call_meetsIn PySem.F.slot_dict_get dd.typeIs PySem.F.entry_dict_get (PySem.F.args_dict_get_2 _ _) (meetsH_dict_get (tupleKind (c7 X.prog X.w)) a b hd) ⟨tupleKind_room_in1 hu,k,xs,vt I.hok eb,dd,h _ _ (I.tok _) ?_⟩
  rw[l]
  exact(rel.val k).getD rfl
end
def Dz (td ty:TE):TE:=λσ H Q=>td σ H λx H1=>∃a,x=.ref a/\IsD H1 a/\ty σ H1 λy H2=>∃o,xY H2 a y o/\Q (o.getD .non) H2
section
variable {X:Cx}{o e f:Expr}{apos cpos:Pos}{td ty tx:TE}
theorem sO (hu:X.A.units+1<cLine) (ho:PE X o td) (he:PE X e ty) (m:M1 X o "get" apos e cpos):PE X (.Call (.Attribute o "get" apos) [e] [] cpos) (Dz td ty):=by
 intro pins s σ H Q I h
 refine wpAny_Call_method m.base m.few m.line PySem.F.plainAttrs_dict PySem.F.slot_dict_get PySem.F.type_dict_get (thn (ho pins s σ H _ I h) λu s1 ⟨x,H1,I1,rx,a,ex,d,q1⟩=>?_)
 subst ex
 obtain rfl:u=Value.ref a:=rx
 obtain⟨t1,t2,_⟩:=Dx I1 d
 refine⟨t1,t2, ?_⟩
 rw[m.trees]
 refine Calls.callWith_builtin rfl (Calls.evalArgs_plain (Calls.spliced_cons (thn (he pins s1 σ H1 _ I1 q1) λiv s2 ⟨y,H2,I2,ry,ov,g,q2⟩=>Calls.spliced_nil ?_)))
 exact Dy hu I2 g ry λw' s3 I3 rw'=>⟨_,H2,I3,rw',q2⟩
end
end L2
namespace DL
open PySem L2
set_option linter.all false
abbrev St:=L2.St
inductive D where
 | non|bl (b:Bool)|int (i:Int)|str (x:Str)|ty (n:String)|tup (ds:List D)|lst (ds:List D)
  | dk (ks:List Key) (vs:List D)|dt (ks:List (List Key)) (vs:List D)
mutual
inductive Is (K:PySem.W.Frag) (H:Hp):V->D->Prop where
 | non:Is K H .non .non
 | bl (b:Bool):Is K H (.bl b) (.bl b)
 | int (i:Int):Is K H (.int i) (.int i)
 | str (x:Str):Is K H (.str x) (.str x)
 | ty (n:String):Is K H (.ty n) (.ty n)
 | tup {a:Addr}{vs:List V}{ds:List D}(h:SqT K H a vs) (hs:IsL K H vs ds):Is K H (.ref a) (.tup ds)
 | lst {a:Addr}{vs:List V}{ds:List D}(h:SqL K H a vs) (hs:IsL K H vs ds):Is K H (.ref a) (.lst ds)
 | dk {a:Addr}{ks:List Key}{vs:List V}{ds:List D}(h:H a=some (.dK (ks.zip vs))) (hl:ks.length=vs.length) (hs:IsL K H vs ds):Is K H (.ref a) (.dk ks ds)
 | dt {a:Addr}{ks:List (List Key)}{vs:List V}{ds:List D}(h:H a=some (.dT (ks.zip vs))) (hl:ks.length=vs.length) (hs:IsL K H vs ds):Is K H (.ref a) (.dt ks ds)
inductive IsL (K:PySem.W.Frag) (H:Hp):List V->List D->Prop where
 | nil:IsL K H [] []
 | cons {v:V}{d:D}{vs:List V}{ds:List D}(h:Is K H v d) (hs:IsL K H vs ds):IsL K H (v::vs) (d::ds)
end
mutual
def bo:D->Bool
 | .lst _=>false
 | .dk _ _=>false
 | .dt _ _=>false
 | .tup ds=>aV ds
 | _=>true
def aV:List D->Bool
 | []=>true
 | d::ds=>bo d && aV ds
end
@[simp] theorem Ed:bo .non=true:=by simp only[bo]
@[simp] theorem ET (b:Bool):bo (.bl b)=true:=by simp only[bo]
@[simp] theorem Ee (i:Int):bo (.int i)=true:=by simp only[bo]
@[simp] theorem Ef (x:Str):bo (.str x)=true:=by simp only[bo]
@[simp] theorem EU (x:String):bo (.ty x)=true:=by simp only[bo]
@[simp] theorem Eg (ds:List D):bo (.tup ds)=aV ds:=by rw[bo]
@[simp] theorem Eh (ds:List D):bo (.lst ds)=false:=by rw[bo]
@[simp] theorem EV (ks:List Key) (ds:List D):bo (.dk ks ds)=false:=by rw[bo]
@[simp] theorem EW (ks:List (List Key)) (ds:List D):bo (.dt ks ds)=false:=by rw[bo]
@[simp] theorem D0:aV []=true:=by rw[aV]
@[simp] theorem sP (d:D) (ds:List D):aV (d::ds)=(bo d && aV ds):=by rw[aV]
section
variable {K:PySem.W.Frag}{H H':Hp}
mutual
theorem Is.keep (hT:∀a vs,SqT K H a vs->SqT K H' a vs) (hL:∀a vs,SqL K H a vs->SqL K H' a vs) (hK:∀a kvs,H a=some (.dK kvs)->H' a=some (.dK kvs)) (hM:∀a kvs,H a=some (.dT kvs)->H' a=some (.dT kvs)):∀ {v:V}{d:D},Is K H v d->Is K H' v d
 | _,_,.non=>.non
 | _,_,.bl b=>.bl b
 | _,_,.int i=>.int i
 | _,_,.str x=>.str x
 | _,_,.ty x=>.ty x
 | _,_,.tup h hs=>.tup (hT _ _ h) (IsL.keep hT hL hK hM hs)
 | _,_,.lst h hs=>.lst (hL _ _ h) (IsL.keep hT hL hK hM hs)
 | _,_,.dk h hl hs=>.dk (hK _ _ h) hl (IsL.keep hT hL hK hM hs)
 | _,_,.dt h hl hs=>.dt (hM _ _ h) hl (IsL.keep hT hL hK hM hs)
theorem IsL.keep (hT:∀a vs,SqT K H a vs->SqT K H' a vs) (hL:∀a vs,SqL K H a vs->SqL K H' a vs) (hK:∀a kvs,H a=some (.dK kvs)->H' a=some (.dK kvs)) (hM:∀a kvs,H a=some (.dT kvs)->H' a=some (.dT kvs)):∀ {vs:List V}{ds:List D},IsL K H vs ds->IsL K H' vs ds
 | _,_,.nil=>.nil
 | _,_,.cons h hs=>.cons (Is.keep hT hL hK hM h) (IsL.keep hT hL hK hM hs)
end
mutual
theorem Is.keepT (hT:∀a vs,SqT K H a vs->SqT K H' a vs):∀ {v:V}{d:D},Is K H v d->bo d=true->Is K H' v d
 | _,_,.non,_=>.non
 | _,_,.bl b,_=>.bl b
 | _,_,.int i,_=>.int i
 | _,_,.str x,_=>.str x
 | _,_,.ty x,_=>.ty x
 | _,_,.tup h hs,n=>.tup (hT _ _ h) (IsL.keepT hT hs (by simpa using n))
 | _,_,.lst h hs,n=>by simp at n
 | _,_,.dk h hl hs,n=>by simp at n
 | _,_,.dt h hl hs,n=>by simp at n
theorem IsL.keepT (hT:∀a vs,SqT K H a vs->SqT K H' a vs):∀ {vs:List V}{ds:List D},IsL K H vs ds->aV ds=true->IsL K H' vs ds
 | _,_,.nil,_=>.nil
 | _,_,.cons h hs,n=>by
  simp at n
  exact .cons (Is.keepT hT h n.1) (IsL.keepT hT hs n.2)
end
theorem bj {a:Addr}{xs:List V}(e:aS H H') (h:SqT K H a xs):SqT K H' a xs:=by
 rcases h with (h|⟨o,h⟩)|h
 ·exact .inl (.inl (e _ _ h))
 ·exact .inl (.inr ⟨o,e _ _ h⟩)
 ·exact .inr h
theorem Is.mono {v:V}{d:D}(h:Is K H v d) (e:aS H H'):Is K H' v d:=h.keep (λ_ _=>bj e) (λ_ _=>e.seq) (λ_ _ q=>e _ _ q) λ_ _ q=>e _ _ q
theorem IsL.mono {v:List V}{d:List D}(h:IsL K H v d) (e:aS H H'):IsL K H' v d:=h.keep (λ_ _=>bj e) (λ_ _=>e.seq) (λ_ _ q=>e _ _ q) λ_ _ q=>e _ _ q
theorem IsL.length:∀ {vs:List V}{ds:List D},IsL K H vs ds->vs.length=ds.length
 | _,_,.nil=>rfl
 | _,_,.cons _ t=>congrArg (· + 1) t.length
theorem IsL.get:∀ {vs:List V}{ds:List D}{i:Nat}{d:D},IsL K H vs ds->ds[i]? = some d->∃v,vs[i]? = some v/\Is K H v d
 | _,_,_,_,.nil,e=>by simp at e
 | _,_,0,_,.cons h _,e=>by simp at e;subst e;exact⟨_,rfl,h⟩
 | _,_,i+1,d,.cons _ t,e=>by
  obtain⟨u,h1,h2⟩:=t.get (i:=i) (d:=d) (by simpa using e)
  exact⟨u,by simpa using h1,h2⟩
theorem IsL.append:∀ {vs ws:List V}{ds es:List D},IsL K H vs ds->IsL K H ws es->IsL K H (vs++ws) (ds++es)
 | _,_,_,_,.nil,s=>s
 | _,_,_,_,.cons r t,s=>.cons r (t.append s)
theorem IsL.take:∀ {vs:List V}{ds:List D}(n:Nat),IsL K H vs ds->IsL K H (vs.take n) (ds.take n)
 | _,_,0,_=>by simpa using IsL.nil
 | _,_,_+1,.nil=>.nil
 | _,_,n+1,.cons r t=>.cons r (t.take n)
theorem IsL.drop:∀ {vs:List V}{ds:List D}(n:Nat),IsL K H vs ds->IsL K H (vs.drop n) (ds.drop n)
 | _,_,0,r=>r
 | _,_,_+1,.nil=>.nil
 | _,_,n+1,.cons _ t=>t.drop n
theorem IsL.set {v:V}{d:D}(h:Is K H v d):∀ {vs:List V}{ds:List D}(i:Nat),IsL K H vs ds->IsL K H (vs.set i v) (ds.set i d)
 | _,_,_,.nil=>.nil
 | _,_,0,.cons _ t=>.cons h t
 | _,_,i+1,.cons r t=>.cons r (IsL.set h i t)
theorem IsL.eraseIdx:∀ {vs:List V}{ds:List D}(i:Nat),IsL K H vs ds->IsL K H (vs.eraseIdx i) (ds.eraseIdx i)
 | _,_,_,.nil=>.nil
 | _,_,0,.cons _ t=>t
 | _,_,i+1,.cons r t=>.cons r (t.eraseIdx i)
theorem IsL.flat {vs:List V}{ns:List Int}(h:vs=ns.map V.int):IsL K H vs (ns.map D.int):=by
 subst h
 induction ns with
 | nil=>exact .nil
 | cons n ns ih=>exact .cons (.int n) ih
end
structure Ext (B N H H':Hp):Prop where
 hh:aS H H'
 bn:aS B N
 nh:aS N H'
 new:∀a o,N a=some o->B a=some o∨H a=none
theorem Ext.refl {B H:Hp}(h:aS B H):Ext B B H H:=⟨.refl _,.refl _,h,λ_ _ e=>.inl e⟩
theorem Ext.trans {B N H H1 N2 H2:Hp}(x:Ext B N H H1) (y:Ext N N2 H1 H2):Ext B N2 H H2 :=
 ⟨x.hh.trans y.hh,x.bn.trans y.bn,y.nh,λa o e=>(y.new a o e).elim (λq=>x.new a o q) λq=>.inr (x.hh.free q)⟩
theorem Ext.laid {B H:Hp}{p:Addr}{o:HO}(h:aS B H) (hp:H p=none):Ext B (upd B p o) H (upd H p o):=by
 have hB:B p=none:=h.free hp
 refine⟨λa u e=>?_,λa u e=>?_,λa u e=>?_,λa u e=>?_⟩
 ·rw[aG (λq=>by subst q;rw[hp]at e;cases e)];exact e
 ·rw[aG (λq=>by subst q;rw[hB]at e;cases e)];exact e
 ·by_cases q:a=p
  ·subst q;rw[aI]at e ⊢;exact e
  ·rw[aG q]at e ⊢;exact h _ _ e
 ·by_cases q:a=p
  ·subst q;exact .inr hp
  ·rw[aG q]at e;exact .inl e
theorem Ext.grow {B H H':Hp}(h:aS B H) (hh:aS H H'):Ext B B H H':=⟨hh,.refl _,h.trans hh,λ_ _ e=>.inl e⟩
abbrev Env:=List (Option (D×Bool))
abbrev FE:=Env->Option (D×Bool)
abbrev FA:=Env->Option (List D)
abbrev FT:=Env->Option Bool
def Fsh (K:PySem.W.Frag) (H N:Hp) (v:V) (d:D):Prop:=∃(a:Addr) (vs:List V) (ds:List D),v=.ref a/\d=.lst ds/\H a=none/\N a=some (.lst vs)/\IsL K N vs ds
theorem Fsh.back {K:PySem.W.Frag}{H H' N:Hp}{v:V}{d:D}(h:Fsh K H' N v d) (e:aS H H'):Fsh K H N v d:=let ⟨a,vs,ds,q,y,z,r⟩:=h;⟨a,vs,ds,q,y,e.free z,r⟩
def jG:List Str:=["in_order","has_seal","is_first_death","bases_by"]
def mU (x:Str):Str:=x ++ ".<locals>." ++ "<lambda>"
def Tb (K:PySem.W.Frag) (B:Hp):Prop:=∀x∈jG,∀c P,PySem.W.tabIn K x=some (c,P)->B P=some (.tbl (mU x))
theorem Tb.mono {K:PySem.W.Frag}{B B':Hp}(h:Tb K B) (e:aS B B'):Tb K B':=λx hx c P q=>e _ _ (h x hx c P q)
structure RepE (K:PySem.W.Frag) (B:Hp) (σ:St) (ρ:Env):Prop where
 tb:Tb K B
 at':∀(i:Nat) (d:D) (b:Bool),ρ[i]? = some (some (d,b))->∃v,σ[i]? = some (some v)/\Is K B v d
theorem RepE.mono {K:PySem.W.Frag}{B B':Hp}{σ:St}{ρ:Env}(h:RepE K B σ ρ) (e:aS B B'):RepE K B' σ ρ:=⟨h.tb.mono e,λi d b q=>let ⟨v,h1,h2⟩:=h.at' i d b q;⟨v,h1,h2.mono e⟩⟩
def Fin (K:PySem.W.Frag) (B H:Hp) (d:D) (b:Bool) (Q:VK):Prop:=∀(v:V) (H' N:Hp),Ext B N H H'->Is K N v d->(b=true->Fsh K H N v d)->Q v H'
def tD (K:PySem.W.Frag) (f:FE):TE:=λσ H Q=>∃(B:Hp) (ρ:Env) (d:D) (b:Bool),aS B H/\RepE K B σ ρ/\f ρ=some (d,b)/\Fin K B H d b Q
def tDT (K:PySem.W.Frag) (f:FT):TT:=λσ H Q=>∃(B:Hp) (ρ:Env) (c:Bool),aS B H/\RepE K B σ ρ/\f ρ=some c/\∀H',aS H H'->Q c H'
def tDA (K:PySem.W.Frag) (f:FA):TA:=λσ H Q=>∃(B:Hp) (ρ:Env) (ds:List D),aS B H/\RepE K B σ ρ/\f ρ=some ds/\∀(vs:List V) (H' N:Hp),Ext B N H H'->IsL K N vs ds->Q vs H'
def rD (K:PySem.W.Frag) (op:D->D->Option (D×Bool)):R2:=λx y H Q=>∃(B:Hp) (dx dy d:D) (b:Bool),aS B H/\Is K B x dx/\Is K B y dy/\op dx dy=some (d,b)/\Fin K B H d b Q
def rDU (K:PySem.W.Frag) (op:D->Option (D×Bool)):V->Hp->VK->Prop:=λx H Q=>∃(B:Hp) (dx d:D) (b:Bool),aS B H/\Is K B x dx/\op dx=some (d,b)/\Fin K B H d b Q
def rDA (K:PySem.W.Frag) (op:List D->Option (D×Bool)):List V->Hp->VK->Prop:=λxs H Q=>∃(B:Hp) (ds:List D) (d:D) (b:Bool),aS B H/\IsL K B xs ds/\op ds=some (d,b)/\Fin K B H d b Q
theorem Fin.one {K:PySem.W.Frag}{B H:Hp}{d:D}{Q:VK}(h:Fin K B H d false Q) (s:aS B H) {v:V}(i:Is K B v d):Q v H:=h v H B (.refl s) i (by simp)
theorem Fin.into {K:PySem.W.Frag}{B N H H1:Hp}{d:D}{b:Bool}{Q:VK}(h:Fin K B H d b Q) (x:Ext B N H H1):Fin K N H1 d b Q:=λv H' N' y i fr=>h v H' N' (x.trans y) i λe=>(fr e).back x.hh
@[simp] def fC (d:D):FE:=λ_=>some (d,false)
@[simp] def ag (i:Nat):FE:=λρ=>match ρ[i]? with|some (some (d,_))=>some (d,false)|_=>none
@[simp] def f2 (op:D->D->Option (D×Bool)) (fa fb:FE):FE:=λρ=>(fa ρ).bind λx=>(fb ρ).bind λy=>op x.1 y.1
@[simp] def f1 (op:D->Option (D×Bool)) (fa:FE):FE:=λρ=>(fa ρ).bind λx=>op x.1
@[simp] def ak:FA:=λ_=>some []
@[simp] def ae (fa:FE) (fr:FA):FA:=λρ=>(fa ρ).bind λx=>(fr ρ).bind λxs=>some (x.1::xs)
@[simp] def fA (op:List D->Option (D×Bool)) (fa:FA):FE:=λρ=>(fa ρ).bind op
theorem D1 {K:PySem.W.Frag}{i:Nat}{σ:St}{H:Hp}{Q:VK}(h:tD K (ag i) σ H Q):∃v,σ[i]? = some (some v)/\Q v H:=by
 obtain⟨B,ρ,d,b,s,r,e,q⟩:=h
 unfold ag at e
 split at e
 ·rename_i d' b' e'
  cases e
  obtain⟨v,h1,h2⟩:=r.at' i _ _ e'
  exact⟨v,h1,q.one s h2⟩
 ·cases e
theorem Bb {K:PySem.W.Frag}{op:D->D->Option (D×Bool)}{fa fb:FE}{σ:St}{H:Hp}{Q:VK}(h:tD K (f2 op fa fb) σ H Q):tD K fa σ H λx H1=>tD K fb σ H1 λy H2=>rD K op x y H2 Q:=by
 obtain⟨B,ρ,d,b,s,r,e,q⟩:=h
 obtain⟨x,ex,e⟩:=oX e
 obtain⟨y,ey,e⟩:=oX e
 refine⟨B,ρ,x.1,x.2,s,r,ex,λv H1 N x1 i1 _=>⟨N,ρ,y.1,y.2,x1.nh,r.mono x1.bn,ey,λv2 H2 N2 x2 i2 _=>⟨N2,x.1,y.1,d,b,x2.nh,i1.mono x2.bn,i2,e, ?_⟩⟩⟩
 exact q.into (x1.trans x2)
theorem FV {K:PySem.W.Frag}{op:D->Option (D×Bool)}{fa:FE}{σ:St}{H:Hp}{Q:VK}(h:tD K (f1 op fa) σ H Q):tD K fa σ H λx H1=>rDU K op x H1 Q:=by
 obtain⟨B,ρ,d,b,s,r,e,q⟩:=h
 obtain⟨x,ex,e⟩:=oX e
 exact⟨B,ρ,x.1,x.2,s,r,ex,λv H1 N x1 i1 _=>⟨N,x.1,d,b,x1.nh,i1,e,q.into x1⟩⟩
theorem Bc {K:PySem.W.Frag}{op:List D->Option (D×Bool)}{fa:FA}{σ:St}{H:Hp}{Q:VK}(h:tD K (fA op fa) σ H Q):tDA K fa σ H λxs H1=>rDA K op xs H1 Q:=by
 obtain⟨B,ρ,d,b,s,r,e,q⟩:=h
 obtain⟨x,ex,e⟩:=oX e
 exact⟨B,ρ,x,s,r,ex,λv H1 N x1 i1=>⟨N,x,d,b,x1.nh,i1,e,q.into x1⟩⟩
theorem Bd {K:PySem.W.Frag}{σ:St}{H:Hp}{Q:List V->Hp->Prop}(h:tDA K ak σ H Q):Q [] H:=by
 obtain⟨B,ρ,ds,s,r,e,q⟩:=h
 cases e
 exact q [] H B (.refl s) .nil
theorem zg {K:PySem.W.Frag}{fa:FE}{fr:FA}{σ:St}{H:Hp}{Q:List V->Hp->Prop}(h:tDA K (ae fa fr) σ H Q):tD K fa σ H λx H1=>tDA K fr σ H1 λxs H2=>Q (x::xs) H2:=by
 obtain⟨B,ρ,ds,s,r,e,q⟩:=h
 obtain⟨x,ex,e⟩:=oX e
 obtain⟨y,ey,e⟩:=oX e
 cases e
 exact⟨B,ρ,x.1,x.2,s,r,ex,λv H1 N x1 i1 _=>⟨N,ρ,y,x1.nh,r.mono x1.bn,ey,λvs H2 N2 x2 i2=>q _ H2 N2 (x1.trans x2) (.cons (i1.mono x2.bn) i2)⟩⟩
@[simp] def tOf (f:FE):FT:=λρ=>match f ρ with|some (.bl c,_)=>some c|_=>none
@[simp] def ft (f g:FT):FT:=λρ=>match f ρ with|some true=>g ρ|some false=>some false|none=>none
@[simp] def jc (f g:FT):FT:=λρ=>match f ρ with|some true=>some true|some false=>g ρ|none=>none
@[simp] def jf (f:FT):FT:=λρ=>(f ρ).map (!·)
@[simp] def fIf (c:FT) (f g:FE):FE:=λρ=>match c ρ with|some true=>f ρ|some false=>g ρ|none=>none
open Classical in
noncomputable def cut (H:Hp) (P:Addr->Prop):Hp:=λa=>if P a then none else H a
theorem ci {H:Hp}{P:Addr->Prop}{a:Addr}(h:¬P a):cut H P a=H a:=by unfold cut;rw[if_neg h]
theorem vv {H:Hp}{P:Addr->Prop}{a:Addr}(h:P a):cut H P a=none:=by unfold cut;rw[if_pos h]
theorem mV {H:Hp}{P:Addr->Prop}{a:Addr}{o:HO}(h:cut H P a=some o):¬P a/\H a=some o:=by
 by_cases q:P a
 ·rw[vv q]at h;cases h
 ·rw[ci q]at h;exact⟨q,h⟩
theorem bJ {H:Hp}{P:Addr->Prop}:aS (cut H P) H:=λ_ _ e=>(mV e).2
theorem dw {H H':Hp}{P P':Addr->Prop}(e:∀a o,H a=some o->¬P a->H' a=some o/\¬P' a):aS (cut H P) (cut H' P'):=λa o q=>by
 obtain⟨h1,h2⟩:=mV q
 obtain⟨h3,h4⟩:=e a o h2 h1
 rw[ci h4];exact h3
def join (N N':Hp):Hp:=λa=>match N a with|some o=>some o|none=>N' a
theorem dj {N N':Hp}:aS N (join N N'):=λa o e=>by unfold join;rw[e]
theorem cP {N N':Hp}{a:Addr}(e:N a=none):join N N' a=N' a:=by unfold join;rw[e]
def own (σ:St) (ρ:Env) (a:Addr):Prop:=∃(i:Nat) (d:D),ρ[i]? = some (some (d,true))/\σ[i]? = some (some (V.ref a))
inductive Bx (K:PySem.W.Frag) (C:Hp):HO->D->Prop where
 | lst {vs:List V}{ds:List D}(h:IsL K C vs ds):Bx K C (.lst vs) (.lst ds)
 | dk {ks:List Key}{vs:List V}{ds:List D}(hl:ks.length=vs.length) (h:IsL K C vs ds):Bx K C (.dK (ks.zip vs)) (.dk ks ds)
 | dt {ks:List (List Key)}{vs:List V}{ds:List D}(hl:ks.length=vs.length) (h:IsL K C vs ds):Bx K C (.dT (ks.zip vs)) (.dt ks ds)
theorem Bx.mono {K:PySem.W.Frag}{C C':Hp}{o:HO}{d:D}(h:Bx K C o d) (e:aS C C'):Bx K C' o d:=by
 cases h with
 | lst h=>exact .lst (h.mono e)
 | dk hl h=>exact .dk hl (h.mono e)
 | dt hl h=>exact .dt hl (h.mono e)
theorem Bx.is {K:PySem.W.Frag}{C:Hp}{o:HO}{d:D}{a:Addr}(h:Bx K C o d) (e:C a=some o):Is K C (.ref a) d:=by
 cases h with
 | lst h=>exact .lst (SqL.of e) h
 | dk hl h=>exact .dk e hl h
 | dt hl h=>exact .dt e hl h
structure StN (K:PySem.W.Frag) (B0 H0 N H:Hp) (σ:St) (ρ:Env):Prop where
 bh:aS B0 H0
 tb:Tb K B0
 ext:Ext B0 N H0 H
 len:ρ.length=σ.length
 sh:∀(i:Nat) (d:D),ρ[i]? = some (some (d,false))->∃v,σ[i]? = some (some v)/\Is K (cut N (own σ ρ)) v d
 ow:∀(i:Nat) (d:D),ρ[i]? = some (some (d,true))->∃(a:Addr) (o:HO),σ[i]? = some (some (V.ref a))/\N a=some o/\H0 a=none/\Bx K (cut N (own σ ρ)) o d
 inj:∀(i j:Nat) (a:Addr) (d e:D),ρ[i]? = some (some (d,true))->ρ[j]? = some (some (e,true))->σ[i]? = some (some (V.ref a))->σ[j]? = some (some (V.ref a))->i=j
def vw (K:PySem.W.Frag) (B0 H0 H:Hp) (σ:St) (ρ:Env):Prop:=∃N,StN K B0 H0 N H σ ρ
section
variable {K:PySem.W.Frag}{B0 H0 N H H':Hp}{σ:St}{ρ:Env}
theorem StN.owL (s:StN K B0 H0 N H σ ρ) (i:Nat) (d:D) {es:List D}(q:ρ[i]? = some (some (.lst es,true))) (hd:d=.lst es:=by rfl):∃(a:Addr) (vs:List V) (ds:List D),d=.lst ds/\σ[i]? = some (some (V.ref a))/\N a=some (.lst vs)/\H0 a=none/\IsL K (cut N (own σ ρ)) vs ds:=by
 obtain⟨a,o,h1,h2,h3,h4⟩:=s.ow i _ q
 cases h4 with
 | lst h4=>exact⟨a,_,es,hd,h1,h2,h3,h4⟩
def boxed:HO->Prop
 | .lst _|.dK _|.dT _=>True
 | _=>False
theorem Bx.boxed {C:Hp}{o:HO}{d:D}(h:Bx K C o d):boxed o:=by cases h<;>exact trivial
theorem StN.owned (s:StN K B0 H0 N H σ ρ) {a:Addr}(h:own σ ρ a):∃o,(N a=some o/\boxed o)/\H0 a=none:=by
 obtain⟨i,d,h1,h2⟩:=h
 obtain⟨a',o,h3,h4,h5,h6⟩:=s.ow i d h1
 rw[h2]at h3;cases h3
 exact⟨o,⟨h4,h6.boxed⟩,h5⟩
theorem StN.rep (s:StN K B0 H0 N H σ ρ):RepE K N σ ρ:=⟨s.tb.mono s.ext.bn,λi d b q=>by
 cases b with
 | false=>obtain⟨v,h1,h2⟩:=s.sh i d q;exact⟨v,h1,h2.mono bJ⟩
 | true =>
  obtain⟨a,o,h2,h3,_,h4⟩:=s.ow i d q
  exact⟨_,h2,(h4.mono bJ).is h3⟩⟩
def sQ (ρ:Env):Env:=ρ.map λx=>match x with|some (d,false)=>some (d,false)|_=>none
theorem zh {i:Nat}{d:D}{b:Bool}(h:(sQ ρ)[i]? = some (some (d,b))):b=false/\ρ[i]? = some (some (d,false)):=by
 unfold sQ at h
 rw[List.getElem?_map]at h
 cases e:ρ[i]? with
 | none=>rw[e]at h;cases h
 | some x =>
  rw[e]at h
  match x,h with
  | some (d',false),h=>cases h;exact⟨rfl,rfl⟩
  | some (d',true),h=>cases h
  | none,h=>cases h
theorem StN.tbC (s:StN K B0 H0 N H σ ρ):Tb K (cut N (own σ ρ)):=λx hx c P q=>by
 have z:=s.tb.mono s.ext.bn x hx c P q
 rw[ci]
 ·exact z
 ·intro y
  obtain⟨o,⟨y,yb⟩,_⟩:=s.owned y
  rw[z]at y;cases y;exact yb
theorem StN.repH (s:StN K B0 H0 N H σ ρ):RepE K (cut N (own σ ρ)) σ (sQ ρ):=⟨s.tbC,λi d b q=>by
 obtain⟨rfl,q2⟩:=zh q
 exact s.sh i d q2⟩
theorem StN.grow (s:StN K B0 H0 N H σ ρ) {N':Hp}(x:Ext N N' H H'):StN K B0 H0 N' H' σ ρ:=by
 have c:aS (cut N (own σ ρ)) (cut N' (own σ ρ)):=dw λa o e q=>⟨x.bn a o e,q⟩
 refine⟨s.bh,s.tb,s.ext.trans x,s.len,λi d q=>?_,λi d q=>?_,s.inj⟩
 ·obtain⟨v,h1,h2⟩:=s.sh i d q;exact⟨v,h1,h2.mono c⟩
 ·obtain⟨a,o,h2,h3,h4,h5⟩:=s.ow i d q
  exact⟨a,o,h2,x.bn _ _ h3,h4,h5.mono c⟩
theorem StN.growH (s:StN K B0 H0 N H σ ρ) {N':Hp}(x:Ext (cut N (own σ ρ)) N' H H'):StN K B0 H0 (join N N') H' σ ρ/\aS N' (cut (join N N') (own σ ρ)):=by
 have x':Ext N (join N N') H H':=by
  refine⟨x.hh,dj,λa o e=>?_,λa o e=>?_⟩
  ·cases q:N a with
   | some u =>
    have:join N N' a=some u:=dj _ _ q
    rw[this]at e;cases e
    exact x.hh _ _ (s.ext.nh _ _ q)
   | none=>rw[cP q]at e;exact x.nh _ _ e
  ·cases q:N a with
   | some u =>
    have:join N N' a=some u:=dj _ _ q
    rw[this]at e;cases e
    exact .inl rfl
   | none =>
    rw[cP q]at e
    rcases x.new a o e with z|z
    ·have:=bJ _ _ z;rw[q]at this;cases this
    ·exact .inr z
 refine⟨s.grow x',λa o e=>?_⟩
 rcases x.new a o e with z|z
 ·obtain⟨z1,z2⟩:=mV z
  rw[ci z1];exact dj _ _ z2
 ·have hN:N a=none:=s.ext.nh.free z
  have:¬own σ ρ a:=λq=>by obtain⟨vs,⟨q,_⟩,_⟩:=s.owned q;rw[hN]at q;cases q
  rw[ci this,cP hN];exact e
def unown (ρ:Env):Env:=ρ.map λx=>x.map λy=>(y.1,false)
theorem iN {i:Nat}{d:D}{b:Bool}(h:(unown ρ)[i]? = some (some (d,b))):b=false/\∃c,ρ[i]? = some (some (d,c)):=by
 unfold unown at h
 rw[List.getElem?_map]at h
 cases e:ρ[i]? with
 | none=>rw[e]at h;cases h
 | some x =>
  rw[e]at h
  match x,h with
  | some (d',c),h=>cases h;exact⟨rfl,c,rfl⟩
  | none,h=>cases h
theorem kQ {a:Addr}:¬own σ (unown ρ) a:=λ⟨i,d,h,_⟩=>by
 obtain⟨z,_⟩:=iN h;cases z
theorem StN.unown (s:StN K B0 H0 N H σ ρ):StN K B0 H0 N H σ (unown ρ):=by
 refine⟨s.bh,s.tb,s.ext,by unfold DL.unown;rw[List.length_map];exact s.len,λi d q=>?_,λi d q=>?_,λi j a d e q=>?_⟩
 ·obtain⟨_,c,q⟩:=iN q
  obtain⟨v,h1,h2⟩:=s.rep.at' i d c q
  exact⟨v,h1,h2.mono λa o e=>by rw[ci kQ];exact e⟩
 ·obtain⟨z,_⟩:=iN q;cases z
 ·obtain⟨z,_⟩:=iN q;cases z
theorem bH {α:Type}{l:List α}{i j:Nat}{x y:α}(h:(l.set i x)[j]? = some y):(i=j/\x=y)∨(i≠j/\l[j]? = some y):=by
 by_cases e:i=j
 ·subst e
  rw[List.getElem?_set]at h
  split at h
  ·split at h
   ·exact .inl ⟨rfl,Option.some.inj h⟩
   ·cases h
  ·contradiction
 ·rw[List.getElem?_set_ne e]at h;exact .inr ⟨e,h⟩
theorem pC {α β:Type}{l:List α}{m:List β}{i:Nat}{x y:α}(h:(l.set i x)[i]? = some y) (e:l.length=m.length):i<m.length:=by
 obtain⟨h,_⟩:=List.getElem?_eq_some_iff.mp h
 rw[List.length_set]at h;omega
theorem qS {i:Nat}{v:V}{x:Option (D×Bool)}{a:Addr}(h:own (σ.set i (some v)) (ρ.set i x) a):(v=.ref a/\∃d,x=some (d,true)) ∨ ∃j,j≠i/\∃d,ρ[j]? = some (some (d,true))/\σ[j]? = some (some (V.ref a)):=by
 obtain⟨j,d,h1,h2⟩:=h
 rcases bH h1 with ⟨e,q⟩|⟨e,q⟩
 ·rcases bH h2 with ⟨e2,q2⟩|⟨e2,q2⟩
  ·cases q2;exact .inl ⟨rfl,d,q⟩
  ·exact absurd e e2
 ·rcases bH h2 with ⟨e2,q2⟩|⟨e2,q2⟩
  ·exact absurd e2 e
  ·exact .inr ⟨j,λz=>e z.symm,d,q,q2⟩
theorem StN.bind (s:StN K B0 H0 N H σ ρ) {i:Nat}{v:V}{d:D}(h:Is K (cut N (own σ ρ)) v d):StN K B0 H0 N H (σ.set i (some v)) (ρ.set i (some (d,false))):=by
 have o:∀a,own (σ.set i (some v)) (ρ.set i (some (d,false))) a->own σ ρ a:=λa q=>by
  rcases qS q with ⟨_,d',p⟩|⟨j,_,d',q1,q2⟩
  ·cases p
  ·exact⟨j,d',q1,q2⟩
 have c:aS (cut N (own σ ρ)) (cut N (own (σ.set i (some v)) (ρ.set i (some (d,false))))):=dw λa u e q=>⟨e,λz=>q (o a z)⟩
 refine⟨s.bh,s.tb,s.ext,by simp[s.len],λj e q=>?_,λj e q=>?_,λj k a e f q q' h1 h2=>?_⟩
 ·rcases bH q with ⟨rfl,p⟩|⟨ne,p⟩
  ·cases p
   have hi:=pC q s.len
   exact⟨v,by simp[hi],h.mono c⟩
  ·obtain⟨w,h1,h2⟩:=s.sh j e p
   exact⟨w,by rw[List.getElem?_set_ne ne];exact h1,h2.mono c⟩
 ·rcases bH q with ⟨rfl,p⟩|⟨ne,p⟩
  ·cases p
  ·obtain⟨a,o,h1,h2,h3,h4⟩:=s.ow j e p
   exact⟨a,o,by rw[List.getElem?_set_ne ne];exact h1,h2,h3,h4.mono c⟩
 ·rcases bH q with ⟨rfl,p⟩|⟨ne,p⟩
  ·cases p
  ·rcases bH q' with ⟨rfl,p'⟩|⟨ne',p'⟩
   ·cases p'
   ·rw[List.getElem?_set_ne ne]at h1
    rw[List.getElem?_set_ne ne']at h2
    exact s.inj j k a e f p p' h1 h2
theorem StN.bindOwn (s:StN K B0 H0 N H σ ρ) {i:Nat}{a:Addr}{ob:HO}{dd:D}(hN:N a=some ob) (h0:H0 a=none) (hno:∀(j:Nat) (d:D),ρ[j]? = some (some (d,true))->σ[j]? ≠ some (some (V.ref a)))
  (hsh:∀(j:Nat) (d:D),j≠i->ρ[j]? = some (some (d,false))->∃v,σ[j]? = some (some v)/\Is K (cut N (λb=>own σ ρ b∨b=a)) v d) (how:∀(j:Nat) (d:D),j≠i->ρ[j]? = some (some (d,true))->∃(a':Addr) (o:HO),σ[j]? = some (some (V.ref a'))/\N a'=some o/\Bx K (cut N (λb=>own σ ρ b∨b=a)) o d)
  (hds:Bx K (cut N (λb=>own σ ρ b∨b=a)) ob dd):StN K B0 H0 N H (σ.set i (some (.ref a))) (ρ.set i (some (dd,true))):=by
 have o:∀b,own (σ.set i (some (V.ref a))) (ρ.set i (some (dd,true))) b->own σ ρ b∨b=a:=λb q=>by
  rcases qS q with ⟨p,_⟩|⟨j,_,d',q1,q2⟩
  ·cases p;exact .inr rfl
  ·exact .inl ⟨j,d',q1,q2⟩
 have c:aS (cut N (λb=>own σ ρ b∨b=a)) (cut N (own (σ.set i (some (V.ref a))) (ρ.set i (some (dd,true))))):=dw λb u e q=>⟨e,λz=>q (o b z)⟩
 refine⟨s.bh,s.tb,s.ext,by simp[s.len],λj e q=>?_,λj e q=>?_,λj k b e f q q' h1 h2=>?_⟩
 ·rcases bH q with ⟨rfl,p⟩|⟨ne,p⟩
  ·cases p
  ·obtain⟨w,h1,h2⟩:=hsh j e (Ne.symm ne) p
   exact⟨w,by rw[List.getElem?_set_ne ne];exact h1,h2.mono c⟩
 ·rcases bH q with ⟨rfl,p⟩|⟨ne,p⟩
  ·cases p
   have hi:=pC q s.len
   exact⟨a,ob,by simp[hi],hN,h0,hds.mono c⟩
  ·obtain⟨a',o',h1,h2,h4⟩:=how j e (Ne.symm ne) p
   have h3:H0 a'=none:=by
    obtain⟨a2,_,k1,_,k3,_⟩:=s.ow j e p
    rw[h1]at k1;cases k1;exact k3
   exact⟨a',o',by rw[List.getElem?_set_ne ne];exact h1,h2,h3,h4.mono c⟩
 ·rcases bH q with ⟨rfl,p⟩|⟨ne,p⟩
  ·rcases bH q' with ⟨rfl,p'⟩|⟨ne',p'⟩
   ·rfl
   ·rw[List.getElem?_set_ne ne']at h2
    have h1':V.ref a=V.ref b:=by
     rcases bH h1 with ⟨_,z⟩|⟨z,_⟩
     ·exact Option.some.inj z
     ·exact absurd rfl z
    cases h1'
    exact absurd h2 (hno k f p')
  ·rcases bH q' with ⟨rfl,p'⟩|⟨ne',p'⟩
   ·rw[List.getElem?_set_ne ne]at h1
    have h2':V.ref a=V.ref b:=by
     rcases bH h2 with ⟨_,z⟩|⟨z,_⟩
     ·exact Option.some.inj z
     ·exact absurd rfl z
    cases h2'
    exact absurd h1 (hno j e p)
   ·rw[List.getElem?_set_ne ne]at h1
    rw[List.getElem?_set_ne ne']at h2
    exact s.inj j k b e f p p' h1 h2
end
inductive Res where
 | nx (ρ:Env)|rt (d:D) (b:Bool)|bk (ρ:Env)|ct (ρ:Env)
abbrev FS:=Env->Option Res
def EX (K:PySem.W.Frag) (B0 H0:Hp) (E:Ends):Res->Prop
 | .nx ρ=>∀σ H,vw K B0 H0 H σ ρ->E.nx σ H
 | .rt d b=>∀v H N,Ext B0 N H0 H->Is K N v d->(b=true->Fsh K H0 N v d)->E.rt v H
 | .bk ρ=>∀σ H,vw K B0 H0 H σ ρ->E.bk σ H
 | .ct ρ=>∀σ H,vw K B0 H0 H σ ρ->E.ct σ H
def tDS (K:PySem.W.Frag) (g:FS):TS:=λE σ H=>∃(B0 H0:Hp) (ρ:Env) (r:Res),vw K B0 H0 H σ ρ/\g ρ=some r/\EX K B0 H0 E r
section
variable {K:PySem.W.Frag}{B0 H0 N H H':Hp}{σ:St}{ρ:Env}{E:Ends}
theorem StN.writeB (s:StN K B0 H0 N H σ ρ) {i:Nat}{d dd:D}{a:Addr}{ob:HO}(hi:ρ[i]? = some (some (d,true))) (hσ:σ[i]? = some (some (V.ref a))) (h:Bx K (cut N (own σ ρ)) ob dd) :
  StN K B0 H0 (upd N a ob) (upd H a ob) σ (ρ.set i (some (dd,true))):=by
 have oa:own σ ρ a:=⟨i,d,hi,hσ⟩
 obtain⟨ws,hw,h0⟩:=s.owned oa
 have b0:B0 a=none:=s.bh.free h0
 have o:∀b,own σ (ρ.set i (some (dd,true))) b↔own σ ρ b:=λb=>by
  constructor
  ·rintro⟨j,e,q1,q2⟩
   rcases bH q1 with ⟨rfl,p⟩|⟨_,p⟩
   ·exact⟨i,d,hi,q2⟩
   ·exact⟨j,e,p,q2⟩
  ·rintro⟨j,e,q1,q2⟩
   by_cases z:i=j
   ·subst z
    exact⟨i,dd,by rw[List.getElem?_set_self (List.getElem?_eq_some_iff.mp hi).1],q2⟩
   ·exact⟨j,e,by rw[List.getElem?_set_ne z];exact q1,q2⟩
 have c:aS (cut N (own σ ρ)) (cut (upd N a ob) (own σ (ρ.set i (some (dd,true))))):=dw λb u e q=>by
  have ne:b≠a:=λz=>q (z ▸ oa)
  exact⟨by rw[aG ne];exact e,λz=>q ((o b).mp z)⟩
 refine⟨s.bh,s.tb,⟨λb u e=>?_,λb u e=>?_,λb u e=>?_,λb u e=>?_⟩,by rw[List.length_set];exact s.len,λj e q=>?_,λj e q=>?_,λj k b e f q q' h1 h2=>?_⟩
 ·rw[aG (λz=>by subst z;rw[h0]at e;cases e)];exact s.ext.hh _ _ e
 ·rw[aG (λz=>by subst z;rw[b0]at e;cases e)];exact s.ext.bn _ _ e
 ·by_cases z:b=a
  ·subst z;rw[aI]at e ⊢;exact e
  ·rw[aG z]at e ⊢;exact s.ext.nh _ _ e
 ·by_cases z:b=a
  ·subst z;exact .inr h0
  ·rw[aG z]at e;exact s.ext.new _ _ e
 ·rcases bH q with ⟨rfl,p⟩|⟨ne,p⟩
  ·cases p
  ·obtain⟨v,h1,h2⟩:=s.sh j e p
   exact⟨v,h1,h2.mono c⟩
 ·rcases bH q with ⟨rfl,p⟩|⟨ne,p⟩
  ·cases p
   exact⟨a,ob,hσ,aI,h0,h.mono c⟩
  ·obtain⟨a',o',h1,h2,h3,h4⟩:=s.ow j e p
   have na:a'≠a:=λz=>by subst z;exact ne (s.inj i j _ d e hi p hσ h1)
   exact⟨a',o',h1,by rw[aG na];exact h2,h3,h4.mono c⟩
 ·have get:∀ {j:Nat}{e:D},(ρ.set i (some (dd,true)))[j]? = some (some (e,true))->∃e',ρ[j]? = some (some (e',true)):=λ{j e} q=>by
   rcases bH q with ⟨rfl,p⟩|⟨ne,p⟩
   ·exact⟨d,hi⟩
   ·exact⟨e,p⟩
  obtain⟨e',q1⟩:=get q
  obtain⟨f',q2⟩:=get q'
  exact s.inj j k b e' f' q1 q2 h1 h2
theorem StN.write (s:StN K B0 H0 N H σ ρ) {i:Nat}{d:D}{a:Addr}{vs:List V}{ds:List D}(hi:ρ[i]? = some (some (d,true))) (hσ:σ[i]? = some (some (V.ref a))) (h:IsL K (cut N (own σ ρ)) vs ds) :
  StN K B0 H0 (upd N a (.lst vs)) (upd H a (.lst vs)) σ (ρ.set i (some (.lst ds,true))):=s.writeB hi hσ (.lst h)
theorem StN.tups (s:StN K B0 H0 N H σ ρ):∀a vs,SqT K N a vs->SqT K (cut N (own σ ρ)) a vs:=λa vs h=>by
 have key:∀u,N a=some u->¬boxed u->cut N (own σ ρ) a=some u:=λu e hu=>by
  rw[ci λz=>?_];exact e
  obtain⟨ws,⟨q,qb⟩,_⟩:=s.owned z
  rw[e]at q;cases q;exact hu qb
 rcases h with (h|⟨o,h⟩)|h
 ·exact .inl (.inl (key _ h (λq=>q)))
 ·exact .inl (.inr ⟨o,key _ h (λq=>q)⟩)
 ·exact .inr h
theorem StN.flat (s:StN K B0 H0 N H σ ρ) {v:V}{d:D}(h:Is K N v d) (n:bo d=true):Is K (cut N (own σ ρ)) v d:=h.keepT s.tups n
theorem StN.flats (s:StN K B0 H0 N H σ ρ) {v:List V}{d:List D}(h:IsL K N v d) (n:aV d=true):IsL K (cut N (own σ ρ)) v d:=h.keepT s.tups n
theorem StN.rebase (s:StN K B0 H0 N H σ ρ):StN K (cut N (own σ ρ)) (cut H (own σ ρ)) N H σ ρ :=
 ⟨dw λa o e q=>⟨s.ext.nh _ _ e,q⟩,s.tbC,⟨bJ,bJ,s.ext.nh,λa o e=>by
  by_cases q:own σ ρ a
  ·exact .inr (vv q)
  ·exact .inl (by rw[ci q];exact e)⟩,s.len,s.sh,λi d q=>by
   obtain⟨a,o,h1,h2,_,h4⟩:=s.ow i d q
   exact⟨a,o,h1,h2,vv ⟨i,d,q,h1⟩,h4⟩,s.inj⟩
theorem StN.unbase (s:StN K B0 H0 N H σ ρ) {N' H':Hp}{σ':St}{ρ':Env}(t:StN K (cut N (own σ ρ)) (cut H (own σ ρ)) N' H' σ' ρ'):StN K B0 H0 N' H' σ' ρ':=by
 have h0:aS H0 (cut H (own σ ρ)):=λa o e=>by
  rw[ci λz=>?_];exact s.ext.hh _ _ e
  obtain⟨_,_,q⟩:=s.owned z
  rw[q]at e;cases e
 have b0:aS B0 (cut N (own σ ρ)):=λa o e=>by
  rw[ci λz=>?_];exact s.ext.bn _ _ e
  obtain⟨_,_,q⟩:=s.owned z
  rw[s.bh _ _ e]at q;cases q
 refine⟨s.bh,s.tb,⟨h0.trans t.ext.hh,b0.trans t.ext.bn,t.ext.nh,λa o e=>?_⟩,t.len,t.sh,λi d q=>?_,t.inj⟩
 ·rcases t.ext.new a o e with z|z
  ·exact s.ext.new a o (bJ _ _ z)
  ·exact .inr (h0.free z)
 ·obtain⟨a,o,h1,h2,h3,h4⟩:=t.ow i d q
  exact⟨a,o,h1,h2,h0.free h3,h4⟩
theorem StN.based (t:StN K B0 H0 N H σ ρ):aS B0 (cut N (own σ ρ)):=λa o e=>by
 rw[ci λz=>?_];exact t.ext.bn _ _ e
 obtain⟨_,_,q⟩:=t.owned z
 rw[t.bh _ _ e]at q;cases q
@[simp] def aD (g h:FS):FS:=λρ=>match g ρ with|some (.nx ρ')=>h ρ'|r=>r
@[simp] def bU:FS:=λρ=>some (.nx ρ)
@[simp] def gIf (c:FT) (g h:FS):FS:=λρ=>match c ρ with|some true=>g ρ|some false=>h ρ|none=>none
@[simp] def bC (f:FE):FS:=λρ=>(f ρ).map λx=>.rt x.1 x.2
@[simp] def Gp:FS:=λ_=>some (.rt .non false)
@[simp] def Gq (f:FE):FS:=λρ=>(f ρ).map λ_=>.nx ρ
@[simp] def Ck:D->Bool
 | .dk _ _=>true
 | .dt _ _=>true
 | _=>false
@[simp] def gT (i:Nat):FS:=λρ=>match ρ[i]? with|some (some (d,b))=>some (.rt d (b && !Ck d))|_=>none
@[simp] def Cm:D->Bool
 | .lst ds=>aV ds
 | _=>false
@[simp] def setE (ρ:Env) (i:Nat) (d:D) (b:Bool):Env :=
 if bo d=true then ρ.set i (some (d,false))else if b=true/\Cm d=true then ρ.set i (some (d,true))else (unown ρ).set i (some (d,false))
@[simp] def aZ (i:Nat) (f:FE):FS:=λρ=>(f ρ).map λx=>.nx (setE ρ i x.1 x.2)
@[simp] def Gr (i:Nat) (f:FE):FS:=λρ=>(f (sQ ρ)).map λx=>.nx (ρ.set i (some (x.1,false)))
@[simp] def gE (i:Nat) (f:FE):FS:=λρ=>match ρ[i]? with
 | some (some (.lst ds,true))=>(f ρ).bind λx=>if bo x.1=true/\ds.length<sizeLine then some (.nx (ρ.set i (some (.lst (ds++[x.1]),true))))else none
 | _=>none
theorem Be {g h:FS}(q:tDS K (aD g h) E σ H):Ez (tDS K g) (tDS K h) E σ H:=by
 obtain⟨B0,H0,ρ,r,s,e,p⟩:=q
 unfold aD at e
 cases eg:g ρ with
 | none=>rw[eg]at e;cases e
 | some r1 =>
  rw[eg]at e
  cases r1 with
  | nx ρ'=>exact⟨B0,H0,ρ,.nx ρ',s,eg,λσ' H' s'=>⟨B0,H0,ρ',r,s',e,p⟩⟩
  | rt d b=>cases e;exact⟨B0,H0,ρ,_,s,eg,p⟩
  | bk ρ'=>cases e;exact⟨B0,H0,ρ,_,s,eg,p⟩
  | ct ρ'=>cases e;exact⟨B0,H0,ρ,_,s,eg,p⟩
theorem zi (q:tDS K bU E σ H):BY E σ H:=by
 obtain⟨B0,H0,ρ,r,s,e,p⟩:=q
 cases e
 exact p σ H s
theorem vw.grown {H':Hp}(s:StN K B0 H0 N H σ ρ) (h:aS H H'):vw K B0 H0 H' σ ρ:=⟨N,s.grow (.grow s.ext.nh h)⟩
theorem D2 {c:FT}{g h:FS}(q:tDS K (gIf c g h) E σ H):E3 (tDT K c) (tDS K g) (tDS K h) E σ H:=by
 obtain⟨B0,H0,ρ,r,⟨N,s⟩,e,p⟩:=q
 unfold gIf at e
 cases ec:c ρ with
 | none=>rw[ec]at e;cases e
 | some b =>
  rw[ec]at e
  refine⟨N,ρ,b,s.ext.nh,s.rep,ec,λH1 h1=>?_⟩
  cases b with
  | true=>rw[if_pos rfl];exact⟨B0,H0,ρ,r,.grown s h1,e,p⟩
  | false=>rw[if_neg (by decide)];exact⟨B0,H0,ρ,r,.grown s h1,e,p⟩
theorem Bf {f:FE}(q:tDS K (bC f) E σ H):Db (tD K f) E σ H:=by
 obtain⟨B0,H0,ρ,r,⟨N,s⟩,e,p⟩:=q
 obtain⟨x,ex,e⟩:=oY e
 subst e
 exact⟨N,ρ,x.1,x.2,s.ext.nh,s.rep,ex,λv H1 N1 x1 i1 f1=>p v H1 N1 (s.ext.trans x1) i1 λb=>(f1 b).back s.ext.hh⟩
theorem zj {i:Nat}(q:tDS K (gT i) E σ H):Db (CP i) E σ H:=by
 obtain⟨B0,H0,ρ,r,⟨N,s⟩,e,p⟩:=q
 unfold gT at e
 split at e
 ·rename_i d b ei
  cases e
  cases b with
  | false =>
   obtain⟨v,h1,h2⟩:=s.sh i d ei
   exact⟨v,h1,p v H N s.ext (h2.mono bJ) (by simp)⟩
  | true =>
   obtain⟨a,o,h1,h2,h3,h4⟩:=s.ow i d ei
   cases h4 with
   | lst h4=>exact⟨_,h1,p _ H N s.ext (.lst (SqL.of h2) (h4.mono bJ)) λ_=>⟨a,_,_,rfl,rfl,h3,h2,h4.mono bJ⟩⟩
   | dk hl h4=>exact⟨_,h1,p _ H N s.ext (.dk h2 hl (h4.mono bJ)) (by simp)⟩
   | dt hl h4=>exact⟨_,h1,p _ H N s.ext (.dt h2 hl (h4.mono bJ)) (by simp)⟩
 ·cases e
theorem StN.setE (s:StN K B0 H0 N H σ ρ) {i:Nat}{v:V}{d:D}{b:Bool}{N1 H1:Hp}(x:Ext N N1 H H1) (h:Is K N1 v d) (f:b=true->Fsh K H N1 v d):StN K B0 H0 N1 H1 (σ.set i (some v)) (setE ρ i d b):=by
 have s1:=s.grow x
 unfold DL.setE
 by_cases hn:bo d=true
 ·rw[if_pos hn]
  exact s1.bind (s1.flat h hn)
 ·rw[if_neg hn]
  by_cases hb:b=true/\Cm d=true
  ·rw[if_pos hb]
   obtain⟨a,vs,ds,rfl,rfl,ha,hN,hs⟩:=f hb.1
   have hNa:N a=none:=s.ext.nh.free ha
   have hoa:¬own σ ρ a:=λz=>by obtain⟨ws,⟨q,_⟩,_⟩:=s.owned z;rw[hNa]at q;cases q
   have c:aS (cut N (own σ ρ)) (cut N1 (λb=>own σ ρ b∨b=a)):=dw λb u e q=>⟨x.bn _ _ e,λz=>z.elim q λz=>by subst z;rw[hNa]at e;cases e⟩
   refine s1.bindOwn hN (s.ext.hh.free ha) (λj e q z=>hoa ⟨j,e,q,z⟩) (λj e _ q=>?_) (λj e _ q=>?_) (.lst (hs.keepT (λt ts st=>?_) hb.2))
   ·obtain⟨w,h1,h2⟩:=s.sh j e q;exact⟨w,h1,h2.mono c⟩
   ·obtain⟨a',o',h1,h2,_,h4⟩:=s.ow j e q
    exact⟨a',o',h1,x.bn _ _ h2,h4.mono c⟩
   ·have key:∀u,N1 t=some u->¬boxed u->cut N1 (λb=>own σ ρ b∨b=a) t=some u:=λu e hu=>by
     rw[ci λz=>?_];exact e
     rcases z with z|z
     ·obtain⟨ws,⟨q,qb⟩,_⟩:=s1.owned z
      rw[e]at q;cases q;exact hu qb
     ·subst z;rw[e]at hN;cases hN;exact hu trivial
    rcases st with (st|⟨o,st⟩)|st
    ·exact .inl (.inl (key _ st (λq=>q)))
    ·exact .inl (.inr ⟨o,key _ st (λq=>q)⟩)
    ·exact .inr st
  ·rw[if_neg hb]
   exact s1.unown.bind (h.mono λa o e=>by rw[ci kQ];exact e)
theorem wF {i:Nat}{f:FE}(q:tDS K (aZ i f) E σ H):xN (tD K f) (lO i) E σ H:=by
 obtain⟨B0,H0,ρ,r,⟨N,s⟩,e,p⟩:=q
 obtain⟨x,ex,e⟩:=oY e
 subst e
 exact⟨N,ρ,x.1,x.2,s.ext.nh,s.rep,ex,λv H1 N1 x1 i1 f1=>p _ H1 ⟨N1,s.setE x1 i1 f1⟩⟩
theorem Bg {i:Nat}{f:FE}(q:tDS K (gE i f) E σ H):∃(a:Addr) (us:List V),σ[i]? = some (some (V.ref a))/\H a=some (.lst us)/\Cb (tD K f) EI σ H λxs H2=>wD (.ref a) xs H2 λ_ H3=>E.nx σ H3:=by
 obtain⟨B0,H0,ρ,r,⟨N,s⟩,e,p⟩:=q
 unfold gE at e
 split at e
 ·rename_i ds ei
  obtain⟨x,ex,e⟩:=oX e
  split at e
  ·rename_i hx
   cases e
   obtain⟨a,vs,ds',z,h1,h2,h3,h4⟩:=s.owL i _ ei
   cases z
   refine⟨a,vs,h1,s.ext.nh _ _ h2,N,ρ,x.1,x.2,s.ext.nh,s.rep,ex,λv H1 N1 x1 i1 f1=>⟨a,vs,v,rfl,rfl,x1.hh _ _ (s.ext.nh _ _ h2),by rw[h4.length];exact hx.2, ?_⟩⟩
   have s1:=s.grow x1
   obtain⟨a',vs',ds',z,k1,k2,_,k4⟩:=s1.owL i _ ei
   cases z
   rw[h1]at k1;cases k1
   rw[x1.bn _ _ h2]at k2;cases k2
   exact p σ _ ⟨_,s1.write ei h1 (k4.append (.cons (s1.flat i1 hx.1) .nil))⟩
  ·cases e
 ·cases e
end
def zk (c:FT) (g:FS):Nat->Env->Option Res
 | 0,_=>none
 | n+1,ρ=>match c ρ with
  | some true=>match g ρ with
   | some (.nx ρ')=>zk c g n ρ'
   | some (.ct ρ')=>zk c g n ρ'
   | some (.bk ρ')=>some (.nx ρ')
   | r=>r
  | some false=>some (.nx ρ)
  | none=>none
def qT (K:PySem.W.Frag) (J:It) (B:Hp) (ds:List D):Prop:=∀(i:Nat) (H:Hp),aS B H ->
 (∀d,ds[i]? = some d->J.go i H/\∀x H',J.yld i H x H'->∃N,Ext B N H H'/\Is K N x d)/\(ds.length<=i->J.stop i H)
def tDI (K:PySem.W.Frag) (f:FA):TI:=λσ H R=>∃(B:Hp) (ρ:Env) (ds:List D),aS B H/\RepE K B σ ρ/\f ρ=some ds/\∀(J:It) (H' N:Hp),Ext B N H H'->qT K J N ds->R J H'
abbrev FG:=D->Env->Option Env
def tDG (K:PySem.W.Frag) (tg:FG) (g:TG):Prop:=∀(B0 H0 N H:Hp) (σ:St) (ρ ρ':Env) (v:V) (d:D) (Q:St->Hp->Prop),StN K B0 H0 N H σ ρ->Is K (cut N (own σ ρ)) v d->tg d ρ=some ρ' ->
 (∀σ' H',vw K B0 H0 H' σ' ρ'->Q σ' H')->g v σ H Q
@[simp] def tgN (i:Nat):FG:=λd ρ=>some (ρ.set i (some (d,false)))
theorem d3 {K:PySem.W.Frag}{i:Nat}:tDG K (tgN i) (lO i):=by
 intro B0 H0 N H σ ρ ρ' v d Q s h e k
 cases e
 exact k _ H ⟨N,s.bind h⟩
def gq (tg:FG) (g:FS):List D->Env->Option Res
 | [],ρ=>some (.nx ρ)
 | d::ds,ρ=>(tg d ρ).bind λρ1=>match g ρ1 with
  | some (.nx ρ')=>gq tg g ds ρ'
  | some (.ct ρ')=>gq tg g ds ρ'
  | some (.bk ρ')=>some (.nx ρ')
  | r=>r
@[simp] theorem zl (tg:FG) (g:FS) (ρ:Env):gq tg g [] ρ=some (.nx ρ):=by rw[gq]
@[simp] theorem ye (tg:FG) (g:FS) (d:D) (ds:List D) (ρ:Env):gq tg g (d::ds) ρ=(tg d ρ).bind λρ1=>match g ρ1 with
  | some (.nx ρ')=>gq tg g ds ρ'
  | some (.ct ρ')=>gq tg g ds ρ'
  | some (.bk ρ')=>some (.nx ρ')
  | r=>r:=by rw[gq]
@[simp] def mE (f:FA) (tg:FG) (g:FS):FS:=λρ=>(f (sQ ρ)).bind λds=>gq tg g ds ρ
theorem sR {K:PySem.W.Frag}{tg:FG}{t:TG}{g:FS}{E:Ends}{σ:St}{H1 B0 H0 N N1:Hp}{ρ:Env}{r:Res}{J:It}{ds:List D}(ht:tDG K tg t) (s1:StN K B0 H0 N H1 σ ρ) (c:aS N1 (cut N (own σ ρ))) (J1:qT K J N1 ds) (e:gq tg g ds ρ=some r) (p:EX K B0 H0 E r) :
  ∃W:Nat->Nat->St->Hp->Prop,(∃m,W 0 m σ H1)/\∀i m σ H,W i m σ H->(J.stop i H/\E.nx σ H)∨(J.go i H/\∃N:St->Hp->Prop,(∀σ' H',N σ' H'->∃m',m'<m/\W (i+1) m' σ' H')/\∀x H',J.yld i H x H'->t x σ H' λσ2 H2=>tDS K g { E with nx:=N,ct:=N,bk:=E.nx } σ2 H2):=by
 refine⟨λi m σ H=>∃(N:Hp) (ρ:Env),StN K B0 H0 N H σ ρ/\aS N1 (cut N (own σ ρ))/\m=ds.length - i/\i<=ds.length/\gq tg g (ds.drop i) ρ=some r,⟨ds.length,_,ρ,s1,c,rfl,Nat.zero_le _,e⟩, ?_⟩
 clear e s1 c
 rintro i m σ H ⟨N,ρ,s,c,rfl,hi,e⟩
 have hs:aS N1 H:=c.trans (bJ.trans s.ext.nh)
 obtain⟨j1,j2⟩:=J1 i H hs
 by_cases hlt:i<ds.length
 ·obtain⟨go,yl⟩:=j1 ds[i] (by simp[hlt])
  rw[List.drop_eq_getElem_cons hlt]at e
  obtain⟨ρ1,e1,e⟩:=oX e
  refine .inr ⟨go,λσ' H'=>∃(N:Hp) (ρ:Env),StN K B0 H0 N H' σ' ρ/\aS N1 (cut N (own σ' ρ))/\gq tg g (ds.drop (i+1)) ρ=some r,λσ' H' ⟨N',ρ',s',c',e'⟩=>⟨_,by omega,N',ρ',s',c',rfl,hlt,e'⟩,λx H' y=>?_⟩
  obtain⟨N2,x2,i2⟩:=yl x H' y
  have x3:Ext (cut N (own σ ρ)) (join (cut N (own σ ρ)) N2) H H':=by
   refine⟨x2.hh,dj,λa o e=>?_,λa o e=>?_⟩
   ·cases q:cut N (own σ ρ) a with
    | some u=>rw[dj _ _ q]at e;cases e;exact x2.hh _ _ (s.ext.nh _ _ (bJ _ _ q))
    | none=>rw[cP q]at e;exact x2.nh _ _ e
   ·cases q:cut N (own σ ρ) a with
    | some u=>rw[dj _ _ q]at e;cases e;exact .inl rfl
    | none =>
     rw[cP q]at e
     rcases x2.new a o e with z|z
     ·rw[c _ _ z]at q;cases q
     ·exact .inr z
  obtain⟨s2,c2⟩:=s.growH x3
  have c3:aS N2 (join (cut N (own σ ρ)) N2):=λa o e=>by
   rcases x2.new a o e with z|z
   ·exact dj _ _ (c _ _ z)
   ·rw[cP ((bJ.trans s.ext.nh).free z)];exact e
  have i3:=i2.mono (c3.trans c2)
  have c4:aS N1 (cut (join N (join (cut N (own σ ρ)) N2)) (own σ ρ)):=(x2.bn.trans c3).trans c2
  refine ht _ _ _ _ _ _ _ _ _ _ s2.rebase i3 e1 λσ2 H2 ⟨N4,s4⟩=>?_
  cases eg:g ρ1 with
  | none=>rw[eg]at e;cases e
  | some r1 =>
   rw[eg]at e
   refine⟨_,_,ρ1,r1,⟨N4,s4⟩,eg, ?_⟩
   have back:∀ {σ':St}{H':Hp}{ρ':Env}{N':Hp},StN K _ _ N' H' σ' ρ'->StN K B0 H0 N' H' σ' ρ'/\aS N1 (cut N' (own σ' ρ')):=λt=>⟨s2.unbase t,c4.trans t.based⟩
   cases r1 with
   | nx ρ'=>exact λσ' H' ⟨N',t⟩=>⟨N',ρ',(back t).1,(back t).2,e⟩
   | ct ρ'=>exact λσ' H' ⟨N',t⟩=>⟨N',ρ',(back t).1,(back t).2,e⟩
   | bk ρ'=>cases e;exact λσ' H' ⟨N',t⟩=>p σ' H' ⟨N',(back t).1⟩
   | rt d b =>
    cases e
    intro v H' N' x' i' f'
    have y:=s2.rebase.ext
    have h0:aS H0 (cut H' (λ_=>False)):=λa o e=>by rw[ci (λz=>z)];exact x'.hh _ _ (by
     rw[ci λz=>?_];exact s2.ext.hh _ _ e
     obtain⟨_,_,q⟩:=s2.owned z
     rw[q]at e;cases e)
    have h0':aS H0 (cut H' (λ_=>False)):=h0
    have hH:aS H0 (cut H' (λ_=>False)):=h0
    have hc:∀a,cut H' (λ_=>False) a=H' a:=λa=>ci (λz=>z)
    have hb:aS H0 (cut _ (own σ ρ)):=λa o e=>by
     rw[ci λz=>?_];exact s2.ext.hh _ _ e
     obtain⟨_,_,q⟩:=s2.owned z
     rw[q]at e;cases e
    have bb:aS B0 (cut _ (own σ ρ)):=λa o e=>by
     rw[ci λz=>?_];exact s2.ext.bn _ _ e
     obtain⟨_,_,q⟩:=s2.owned z
     rw[s2.bh _ _ e]at q;cases q
    refine p v H' N' ⟨hb.trans x'.hh,bb.trans x'.bn,x'.nh,λa o e=>?_⟩ i' λz=>(f' z).back hb
    rcases x'.new a o e with z|z
    ·exact s2.ext.new a o (bJ _ _ z)
    ·exact .inr (hb.free z)
 ·have ei:i=ds.length:=by omega
  subst ei
  rw[List.drop_eq_nil_of_le (Nat.le_refl _)]at e
  cases e
  exact .inl ⟨j2 (Nat.le_refl _),p σ H ⟨N,s⟩⟩
theorem Bh {K:PySem.W.Frag}{f:FA}{tg:FG}{t:TG}{g:FS}{E:Ends}{σ:St}{H:Hp}(ht:tDG K tg t) (q:tDS K (mE f tg g) E σ H):Dh (tDI K f) t (tDS K g) E σ H:=by
 obtain⟨B0,H0,ρ,r,⟨N,s⟩,e,p⟩:=q
 obtain⟨ds,ef,e⟩:=oX e
 refine⟨cut N (own σ ρ),sQ ρ,ds,bJ.trans s.ext.nh,s.repH,ef,λJ H1 N1 x1 J1=>?_⟩
 obtain⟨s1,c⟩:=s.growH x1
 exact sR ht s1 c J1 e p
def tDR (K:PySem.W.Frag) (f:FA):TI:=λσ H R=>∃(B:Hp) (ρ:Env) (ds:List D),aS B H/\RepE K B σ ρ/\f ρ=some ds/\∀(J:It) (H' N:Hp),Ext B N H H'->(∀B',qT K J B' ds)->R J H'
@[simp] def jg (f:FA) (tg:FG) (g:FS):FS:=λρ=>(f ρ).bind λds=>gq tg g ds ρ
theorem zm {K:PySem.W.Frag}{f:FA}{tg:FG}{t:TG}{g:FS}{E:Ends}{σ:St}{H:Hp}(ht:tDG K tg t) (q:tDS K (jg f tg g) E σ H):Dh (tDR K f) t (tDS K g) E σ H:=by
 obtain⟨B0,H0,ρ,r,⟨N,s⟩,e,p⟩:=q
 obtain⟨ds,ef,e⟩:=oX e
 refine⟨N,ρ,ds,s.ext.nh,s.rep,ef,λJ H1 N1 x1 J1=>?_⟩
 exact sR ht (s.grow x1) (aS.refl _) (J1 _) e p
end DL
namespace DL
open PySem PySem.Spec PyProof.Rows L2
abbrev JE (X:Cx) (e:Expr) (f:FE):Prop:=PE X e (tD X.K f)
abbrev JT (X:Cx) (e:Expr) (f:FT):Prop:=PT X e (tDT X.K f)
abbrev JW (X:Cx) (e:Expr) (f:FT):Prop:=PW X e (tDT X.K f)
abbrev JA (X:Cx) (es:List Expr) (f:FA):Prop:=PA X es (tDA X.K f)
abbrev JS (X:Cx) (st:Stmt) (g:FS):Prop:=PS X st (tDS X.K g)
abbrev JSs (X:Cx) (st:List Stmt) (g:FS):Prop:=PSs X st (tDS X.K g)
abbrev JI (X:Cx) (tg iter:Expr) (f:FA):Prop:=PI X tg iter (tDI X.K f)
theorem qU {prog:Program}{w:World}{A:Around}{R:Result->Shared->Prop}{s:Shared}{elt target iter:Expr}{ifs:List Expr}{scope:Scope}{pos:Pos}{it acc:Value}{env:PySem.Env}(I:Nat->Shared->Prop)
  (turn:∀n s,I n s->wpAny (model prog w) A (pyNext it) (λr s₁=>match r with
   | none=>R (.ok .next) s₁
   | some v=>wpAny (model prog w) A (letOwnedTupleGo target it v) (λ_ s₁=>wpAny (model prog w) A (assign target env v) (λ_ s₂ =>
     wpAny (model prog w) A (forIn ifs true λc r=>if r=true then do let ok ←isTrue c env (eval c env);pure (ForInStep.yield ok)else pure (ForInStep.yield r)) (λok s₃ =>
      if ok=true then wpAny (model prog w) A (eval elt env) (λx s₄ =>
       wpAny (model prog w) A (call (.builtin "list.append") [acc,x]) (λ_ s₅=>∃m,m<n/\I m s₅) (λ_ _=>False) s₄) (λ_ _=>False) s₃
      else ∃m,m<n/\I m s₃) (λ_ _=>False) s₂) (λ_ _=>False) s₁) (λ_ _=>False) s₁) (λ_ _=>False) s)
  (n:Nat) (h:I n s):codeAny (model prog w) A (.compLoop (.ListComp elt [⟨target,iter,ifs,0⟩] scope pos) 0 it acc env) R s:=by
 refine codeAny_loop rfl I (λn s hI=>?_) n h
 show wpAny _ A ((compTurn (.ListComp elt [⟨target,iter,ifs,0⟩] scope pos) 0 it acc env).onRaise (λx=>do noteFrame x env;theTreesLotGoes x)) _ _ s
 refine wpAny_noted (wpAny_mono (E:=λ_ _=>False) ?_ (λ_ _ q=>q) λ_ _ z=>z.elim)
 rw[compTurn_list]
 refine wX (wpAny_standAt (wX (wpAny_mono (turn n s hI) (λr s₁ h₁=>?_) λ_ _ h'=>h')))
 cases r with
 | none=>exact wY h₁
 | some v =>
  refine wX (wpAny_mono h₁ (λ_ s₁ h₁=>?_) λ_ _ h'=>h')
  refine wX (wpAny_mono h₁ (λ_ s₂ h₂=>wX (wpAny_mono h₂ (λok s₃ h₃=>?_) λ_ _ h'=>h')) λ_ _ h'=>h')
  cases ok with
  | false=>exact wY ⟨rfl,h₃⟩
  | true=>exact wX (wX (wpAny_mono h₃ (λx s₄ h₄=>wX (wpAny_mono h₄ (λ_ s₅ h₅=>wY (wY ⟨rfl,h₅⟩)) λ_ _ h'=>h')) λ_ _ h'=>h'))
theorem Ext.upd {B N H H':Hp}{a:Addr}{o:HO}(x:Ext B N H H') (h:H a=none) (hN:N a=none):Ext B N H (upd H' a o) :=
 ⟨λb u e=>by rw[aG (λz=>by subst z;rw[h]at e;cases e)];exact x.hh _ _ e,x.bn,λb u e=>by rw[aG (λz=>by subst z;rw[hN]at e;cases e)];exact x.nh _ _ e,x.new⟩
abbrev gY (X:Cx) (N':List Str) (scope:Scope) (cl:List (Str×Addr)) (C:Addr) (s₃:Shared) (H₃:Hp) (fp:List Addr):Cx :=
 { X with N:=N',s₀:=s₃,H₀:=H₃,env:=compEnvC scope cl C X.env,outer:=X.stack,stack:=X.stack,ex:=fp,fn:=λ_=>false,pn:=[],xe:=λ_ _=>False }
inductive Caps (X:Cx) (N':List Str) (scope:Scope) (cl:List (Str×Addr)):Nat->List Nat->Prop where
 | nil {j:Nat}(h:N'.length=j):Caps X N' scope cl j []
 | cons {j i:Nat}{r:List Nat}{x:Str}(h1:N'[j]? = some x) (h2:X.N[i]? = some x) (h3:X.env.kindOf x=some .cell∨X.env.kindOf x=some .free)
   (h4:(relabel scope X.env).names.lookup x=some .cell∨(relabel scope X.env).names.lookup x=some .free) (h5:cl.lookup x=X.env.cells.lookup x) (t:Caps X N' scope cl (j+1) r):Caps X N' scope cl j (i::r)
theorem Caps.len {X:Cx}{N':List Str}{scope:Scope}{cl:List (Str×Addr)}:∀ {j:Nat}{cap:List Nat},Caps X N' scope cl j cap->N'.length=j+cap.length
 | _,_,.nil h=>by rw[h];rfl
 | j,i::r,.cons _ _ _ _ _ t=>by rw[t.len,List.length_cons];omega
theorem Caps.get {X:Cx}{N':List Str}{scope:Scope}{cl:List (Str×Addr)}:∀ {j:Nat}{cap:List Nat}{k i:Nat},Caps X N' scope cl j cap->cap[k]? = some i->∃x,N'[j+k]? = some x/\X.N[i]? = some x/\(X.env.kindOf x=some .cell∨X.env.kindOf x=some .free) /\
  ((relabel scope X.env).names.lookup x=some .cell∨(relabel scope X.env).names.lookup x=some .free)/\cl.lookup x=X.env.cells.lookup x
 | _,_,_,_,.nil _,e=>by simp at e
 | j,_,0,_,.cons h1 h2 h3 h4 h5 _,e=>by simp at e;subst e;exact⟨_,h1,h2,h3,h4,h5⟩
 | j,_,k+1,i,.cons _ _ _ _ _ t,e=>by
  obtain⟨x,q,r⟩:=t.get (k:=k) (i:=i) (by simpa using e)
  exact⟨x,by rw[show j+(k+1)=j+1+k by omega];exact q,r⟩
structure CompSc (X:Cx) (scope:Scope) (cl:List (Str×Addr)):Prop where
 clos:closureFor scope X.env=pure cl
 nocell:∀y∈scope.names,y.2≠.cell
 kind:scope.kind=.function
 names:∀y∈scope.names,y.2=.local->scope.names.lookup y.1=some .local
 sub:∀x c,cl.lookup x=some c->X.env.cells.lookup x=some c
 has:∀x,((relabel scope X.env).names.lookup x=some .cell∨(relabel scope X.env).names.lookup x=some .free)->∃c,cl.lookup x=some c
def fL:List (Str×NameKind)->List (Str×Addr)->List (Str×Addr)->List (Str×Addr)
 | [],_,cs=>cs
 | (n,k)::r,cells,cs=>fL r cells (if k == .free then (match cells.lookup n with|some c=>(n,c)::cs|none=>cs)else cs)
theorem pD {env:PySem.Env}:∀(names:List (Str×NameKind)) (cs:List (Str×Addr)),(∀y∈names,y.2=.free->(env.cells.lookup y.1).isSome=true) ->
    (do let mut cs:=cs
        for (name,kind)in names do
          if kind == .free then cs:=(name,←cellOf env name)::cs
        return cs:Sem (List (Str×Addr)))=pure (fL names env.cells cs):=by
  intro names
  induction names with
  | nil=>intro cs _;rfl
  | cons y r ih =>
    intro cs h
    obtain⟨n,k⟩:=y
    have ih':=λcs=>ih cs λy hy=>h y (mZ _ hy)
    by_cases hk:k=.free
    . subst hk
      have hc:=h (n,.free) mX rfl
      cases q:env.cells.lookup n with
      | none=>rw[q]at hc;cases hc
      | some c =>
        have e1:fL ((n,.free)::r) env.cells cs=fL r env.cells ((n,c)::cs):=by
          rw[fL,q];rfl
        rw[e1,←ih' ((n,c)::cs)]
        have e2:cellOf env n=pure c:=by unfold cellOf;rw[q]
        simp only[List.forIn_cons,beq_self_eq_true,if_true,e2]
        rfl
    . have hb:(k == NameKind.free)=false:=by simpa using hk
      have e1:fL ((n,k)::r) env.cells cs=fL r env.cells cs:=by rw[fL,hb];rfl
      rw[e1,←ih' cs]
      simp only[List.forIn_cons,hb,Bool.false_eq_true,if_false]
      rfl
theorem jH {cells:List (Str×Addr)}{x:Str}{c:Addr}:∀(names:List (Str×NameKind)) (cs:List (Str×Addr)),(∀y d,cs.lookup y=some d->cells.lookup y=some d)->(fL names cells cs).lookup x=some c->cells.lookup x=some c
 | [],cs,h,e=>h x c e
 | (n,k)::r,cs,h,e=>by
  rw[fL]at e
  refine jH r _ (λy d q=>?_) e
  split at q
  ·split at q
   ·rename_i c' ec
    rw[List.lookup_cons]at q
    split at q
    ·rename_i hy
     cases q
     rw[eq_of_beq hy];exact ec
    ·exact h y d q
   ·exact h y d q
  ·exact h y d q
theorem pE {cells:List (Str×Addr)}{x:Str}:∀(names:List (Str×NameKind)) (cs:List (Str×Addr)),(cs.lookup x).isSome=true->((fL names cells cs).lookup x).isSome=true
 | [],cs,h=>h
 | (n,k)::r,cs,h=>by
  rw[fL]
  refine pE r _ ?_
  split
  ·split
   ·rw[List.lookup_cons]
    split
    ·rfl
    ·exact h
   ·exact h
  ·exact h
theorem jI {cells:List (Str×Addr)}{x:Str}:∀(names:List (Str×NameKind)) (cs:List (Str×Addr)),(x,NameKind.free)∈names->(cells.lookup x).isSome=true->((fL names cells cs).lookup x).isSome=true
 | (n,k)::r,cs,hm,hc=>by
  rw[fL]
  rcases List.mem_cons.mp hm with e|e
  ·cases e
   refine pE r _ ?_
   cases q:cells.lookup x with
   | none=>rw[q]at hc;cases hc
   | some c=>simp
  ·exact jI r _ e hc
theorem dG {α:Type}{x:Str}{k:α}:∀ {l:List (Str×α)},l.lookup x=some k->(x,k)∈l
 | (n,j)::r,h=>by
  rw[List.lookup_cons]at h
  split at h
  ·rename_i e
   cases h
   rw[eq_of_beq e];exact mX
  ·exact mZ _ (dG h)
theorem dH {X:Cx}{scope:Scope}(h1:∀y∈scope.names,y.2≠.cell) (h2:scope.kind=.function) (h3:∀y∈scope.names,y.2=.local->scope.names.lookup y.1=some .local) (h4':(scope.names.all λy=>!(y.2 == NameKind.free) || (X.env.cells.lookup y.1).isSome)=true) :
  CompSc X scope (fL scope.names X.env.cells []):=by
 have h4:∀y∈scope.names,y.2=.free->(X.env.cells.lookup y.1).isSome=true:=λy hy e=>by
  have:=List.all_eq_true.mp h4' y hy
  rw[e]at this
  simpa using this
 have frees:∀x,((relabel scope X.env).names.lookup x=some .cell∨(relabel scope X.env).names.lookup x=some .free)->(x,NameKind.free)∈scope.names:=λx h=>by
  have:∃k,(x,k)∈(relabel scope X.env).names/\(k=.cell∨k=.free):=by
   rcases h with h|h
   ·exact⟨_,dG h,.inl rfl⟩
   ·exact⟨_,dG h,.inr rfl⟩
  obtain⟨k,hm,hk⟩:=this
  obtain⟨⟨n,j⟩,hj,e⟩:=List.mem_map.mp hm
  dsimp only at e
  split at e
  ·rename_i hc
   rw[Bool.and_eq_true,Bool.and_eq_true]at hc
   cases e
   rw[←eq_of_beq hc.1.1];exact hj
  ·cases e
   rcases hk with rfl|rfl
   ·exact absurd rfl (h1 _ hj)
   ·exact hj
 exact⟨pD scope.names [] h4,h1,h2,h3,λx c e=>jH scope.names [] (λy d q=>by cases q) e,λx h=>by
  have:=jI (x:=x) scope.names [] (frees x h) (h4 _ (frees x h) rfl)
  exact Option.isSome_iff_exists.mp this⟩
theorem bM {scope:Scope}{cells:List (Str×Addr)}{x:Str}(h:(x,NameKind.free)∈scope.names) (hc:(cells.lookup x).isSome=true):(fL scope.names cells []).lookup x=cells.lookup x:=by
 obtain⟨c,e⟩:=Option.isSome_iff_exists.mp (jI (x:=x) scope.names [] h hc)
 rw[e,jH scope.names [] (λy d q=>by cases q) e]
def pc (nT:Nat) (cap:List Nat) (σ:St):St:=List.replicate nT none++cap.map λi=>(σ[i]?).join
def bW (nT:Nat) (cap:List Nat) (ρ:Env):Env:=List.replicate nT none++cap.map λi=>match ρ[i]? with|some (some (d,_))=>some (d,false)|_=>none
theorem qV {α:Type}{nT:Nat}{cap:List Nat}{f:Nat->Option α}{j:Nat}{v:α}(h:(List.replicate nT none++cap.map f)[j]? = some (some v)):∃k i,j=nT+k/\cap[k]? = some i/\f i=some v:=by
 by_cases hj:j<nT
 ·rw[List.getElem?_append_left (by simpa using hj),List.getElem?_replicate,if_pos hj]at h
  cases h
 ·rw[List.getElem?_append_right (by simpa using Nat.not_lt.mp hj),List.length_replicate,List.getElem?_map]at h
  obtain⟨i,h1,h2⟩:=oY h
  exact⟨j - nT,i,by omega,h1,h2⟩
theorem Bi {α:Type}{nT:Nat}{cap:List Nat}{f:Nat->Option α}{k i:Nat}{v:α}(h1:cap[k]? = some i) (h2:f i=some v):(List.replicate nT none++cap.map f)[nT+k]? = some (some v):=by
 rw[List.getElem?_append_right (by simp),List.length_replicate,List.getElem?_map,Nat.add_sub_cancel_left,h1]
 simp[h2]
theorem RepE.caps {K:PySem.W.Frag}{B:Hp}{σ:St}{ρ:Env}{nT:Nat}{cap:List Nat}(h:RepE K B σ ρ):RepE K B (pc nT cap σ) (bW nT cap ρ):=⟨h.tb,λj d b q=>by
 obtain⟨k,i,rfl,h1,h2⟩:=qV q
 split at h2
 ·rename_i d' b' e
  cases h2
  obtain⟨v,g1,g2⟩:=h.at' i _ _ e
  exact⟨v,Bi h1 (by rw[g1];rfl),g2⟩
 ·cases h2⟩
def fu (tg:FG) (c:FT) (fe:FE) (ρ:Env):List D->Option (List D)
 | []=>some []
 | d::r=>(tg d ρ).bind λρ1=>(c ρ1).bind λb=>if b=true then (fe ρ1).bind λx=>(fu tg c fe ρ r).map (x.1 :: ·)else fu tg c fe ρ r
@[simp] theorem Ei (tg:FG) (c:FT) (fe:FE) (ρ:Env):fu tg c fe ρ []=some []:=by rw[fu]
@[simp] theorem vx (tg:FG) (c:FT) (fe:FE) (ρ:Env) (d:D) (r:List D):fu tg c fe ρ (d::r)=(tg d ρ).bind λρ1=>(c ρ1).bind λb=>if b=true then (fe ρ1).bind λx=>(fu tg c fe ρ r).map (x.1 :: ·)else fu tg c fe ρ r:=by rw[fu]
@[simp] def cz (fi:FA) (nT:Nat) (cap:List Nat) (tg:FG) (c:FT) (fe:FE):FE:=λρ=>(fi ρ).bind λitems=>if items.length<=sizeLine then (fu tg c fe (bW nT cap ρ) items).map λds=>(.lst ds,true)else none
def TGE (K:PySem.W.Frag) (n:Nat) (tg:FG) (g:TG):Prop:=∀(B H:Hp) (σ:St) (ρ ρ1:Env) (v:V) (d:D) (Q:St->Hp->Prop),(∀i,i<n->ρ[i]? = some none)->RepE K B σ ρ->aS B H->Is K B v d->tg d ρ=some ρ1 ->
 ρ.length=σ.length->(∀σ1,RepE K B σ1 ρ1->(∀B',RepE K B' σ ρ->RepE K B' σ1 ρ)->ρ.length=σ1.length->Q σ1 H)->g v σ H Q
theorem cB {K:PySem.W.Frag}{n i:Nat}(hi:i<n):TGE K n (tgN i) (lO i):=by
 intro B H σ ρ ρ1 v d Q cl rep s h e hl k
 cases e
 have hiσ:i<σ.length:=by
  have:=(List.getElem?_eq_some_iff.mp (cl i hi)).1
  omega
 refine k _ ⟨rep.tb,λj e b q=>?_⟩ ?_ (by simpa using hl)
 ·rcases bH q with ⟨rfl,p⟩|⟨ne,p⟩
  ·cases p
   exact⟨v,by simp[hiσ],h⟩
  ·obtain⟨w,h1,h2⟩:=rep.at' j e b p
   exact⟨w,by rw[List.getElem?_set_ne ne];exact h1,h2⟩
 ·intro B' rep'
  refine⟨rep'.tb,λj e b q=>?_⟩
  obtain⟨w,h1,h2⟩:=rep'.at' j e b q
  have ne:i≠j:=λz=>by subst z;rw[cl i hi]at q;cases q
  exact⟨w,by rw[List.getElem?_set_ne ne];exact h1,h2⟩
def JC (X:Cx) (ifs:List Expr) (c:FT):Prop:=∀(pins:List (Addr×Obj)) (s:Shared) (σ:St) (H:Hp) (Q:Bool->Hp->Prop),Inv X pins σ H s->tDT X.K c σ H Q ->
 wpAny (model X.prog X.w) X.A (forIn ifs true λc r=>if r=true then do let ok ←isTrue c X.env (eval c X.env);pure (ForInStep.yield ok)else pure (ForInStep.yield r)) (TP X pins σ Q) X.xe s
@[simp] def lQ:FT:=λ_=>some true
theorem qW {X:Cx}:JC X [] lQ:=by
 intro pins s σ H Q I h
 obtain⟨B,ρ,c,sB,rep,e,q⟩:=h
 cases e
 exact wpAny_tests_nil ⟨H,I,q H (.refl H)⟩
theorem gF {X:Cx}{e:Expr}{f:FT}(h:JT X e f):JC X [e] f:=λpins s σ H Q I q=>wpAny_tests_one (h pins s σ H Q I q)
theorem mW {X:Cx}(hcalm:X.calm=true) {tg iter elt:Expr}{ifs:List Expr}{scope:Scope}{pos:Pos}{cl:List (Str×Addr)}{N':List Str}{nT:Nat}{cap:List Nat}{tgF:FG}{g:TG}{fc:FT}{fe:FE}
  (S:CompSc X scope cl) (cp:Caps X N' scope cl nT cap)
  (hg:∀C s H fp,PG (gY X N' scope cl C s H fp) tg g) (htg:TGE X.K nT tgF g) (hc:∀C s H fp,JC (gY X N' scope cl C s H fp) ifs fc) (he:∀C s H fp,JE (gY X N' scope cl C s H fp) elt fe)
  {pins:List (Addr×Obj)}{σ:St}{H2:Hp}{s2:Shared}{it:Addr}{fp:List Addr}{tn:Nat->Heap->Prop}{J:It}{N1:Hp}{ρ:Env}{items ds:List D}{E:Value->Shared->Prop}
  (I2:Inv X pins σ H2 s2) (T:Turn X.prog X.w X.K tg J fp it tn) (st2:tn 0 s2.heap) (f2:∀b∈fp,kN X pins H2 b)
  (rep:RepE X.K N1 σ ρ) (sN:aS N1 H2) (J1:qT X.K J N1 items) (hsz:items.length<=sizeLine) (ec:fu tgF fc fe (bW nT cap ρ) items=some ds) {RR:Value->Addr->Result->Shared->Prop}
  (hRR:∀(Dd C:Addr) (s':Shared) (H' N:Hp) (vs:List V) (m:Str->Option Value),H2 Dd=none->Inv X pins σ H' s'->s'.heap.Ns C m->kN X pins H' C->Ext N1 N H2 H'->N Dd=some (.lst vs)->IsL X.K N vs ds->RR (.ref Dd) C (.ok .next) s') :
  wpAny (model X.prog X.w) X.A (newList []) (λacc s₃=>wpAny (model X.prog X.w) X.A (newFunctionEnv scope X.env.globals cl [] X.env.qual none .none (some X.env)) (λcenv s₄ =>
   codeAny (model X.prog X.w) X.A (.compStart (.ListComp elt [⟨tg,iter,ifs,0⟩] scope pos) 0 (.ref it) acc { cenv with scope:=relabel scope X.env }) (RR acc cenv.locals) s₄) E s₃) E s2:=by
 refine wpAny_newObj_type (wpAny_newFunctionEnv S.nocell (by intro y hy;simp at hy) (λh₁ hns₁ hsb₁=>?_) S.kind)
 dsimp only at hns₁ hsb₁ ⊢
 have hD:H2 s2.heap.objs.size=none:=I2.fresh
 have I3:Inv X pins σ (upd H2 s2.heap.objs.size (.lst [])) { s2 with heap:=s2.heap.push { cls:=.type "list",dict:=none,data:=.seq ([]:List Value).toArray } }:=I2.lnew (t':=s2.toks) (ys:=[]) (its:=[]) .nil (Nat.zero_le _)
 generalize hH3:s2.heap.push { cls:=.type "list",dict:=none,data:=.seq ([]:List Value).toArray }=g3 at hns₁ hsb₁ I3 ⊢
 have hC:g3.objs.size=s2.heap.objs.size+1:=by rw[←hH3,Heap.size_push]
 have old2:∀b o,s2.heap.get? b=some o->g3.get? b=some o:=λb o e=>hH3 ▸ Heap.get?_push_of_some _ e
 have old3:∀b o,g3.get? b=some o->h₁.get? b=some o:=λb o e=>hsb₁.extBut b o (Nat.ne_of_lt (Heap.lt_size e)) (Heap.get?_push_of_some _ e)
 have neC:∀b o,g3.get? b=some o->b≠g3.objs.size:=λb o e=>Nat.ne_of_lt (Heap.lt_size e)
 have fpo:∀b∈fp,∃o,s2.heap.get? b=some o:=λb hb=>let ⟨o,e,_⟩:=T.obj 0 s2.heap st2 b hb;⟨o,e⟩
 have fpD:∀b∈fp,b≠s2.heap.objs.size:=λb hb=>let ⟨o,e⟩:=fpo b hb;Nat.ne_of_lt (Heap.lt_size e)
 have fpC:∀b∈fp,b≠g3.objs.size:=λb hb=>let ⟨o,e⟩:=fpo b hb;neC b o (old2 b o e)
 have cellC:∀x c,X.env.cells.lookup x=some c->c≠g3.objs.size:=λx c e=>by
  obtain⟨v,z⟩:=I3.cell x c e
  exact Nat.ne_of_lt z.lt
 have hHC:(upd H2 s2.heap.objs.size (HO.lst [])) g3.objs.size=none:=I3.hok.fresh (Nat.le_refl _)
 have stk:∀b∈frs X.stack,∃o,s2.heap.get? b=some o:=λb hb=>by
  obtain⟨_,o,ho,_⟩:=(I2.stack).mem hb
  exact⟨o,ho⟩
 -- the block's context
 have ok:(gY X N' scope cl g3.objs.size { s2 with heap:=g3 } (upd H2 s2.heap.objs.size (.lst [])) fp).Ok:=by
  refine⟨I2.ok.mod, ?_,I2.ok.glob,I2.ok.blt,Nat.le_refl _,λx y c e1 e2=>I2.ok.inj x y c (S.sub x c e1) (S.sub y c e2),λx h=>S.has x h,λx c h=>absurd h Bool.false_ne_true,I2.ok.hd,I2.ok.frames,.inl rfl,λb hb=>⟨fpC b hb,λx c e=>(f2 b hb).2.2.2.2.1 x c (S.sub x c e)⟩,λb o e=>?_, ?_,λb o e hb=>?_,λb hb hz=>?_,I3.stack,λb hb=>I3.stkFree b hb⟩
  ·show(relabel scope X.env).kind=.function
   exact S.kind
  ·exact I3.bs b o e
  ·exact Nat.le_trans I3.ok.bsz I3.sz
  ·have h1:=(f2 b hb).2.2.2.1
   rcases h1 with z|z
   ·exact I2.ok.noex b o e z
   ·exact absurd (Nat.lt_of_lt_of_le (Heap.lt_size e) (Nat.le_trans I2.ok.bsz z)) (Nat.lt_irrefl _)
  ·rcases List.mem_cons.mp (I2.stkSub b hz)with z|z
   ·exact(f2 b hb).2.1 z
   ·exact(f2 b hb).2.2.1 z
 have I4:Inv (gY X N' scope cl g3.objs.size { s2 with heap:=g3 } (upd H2 s2.heap.objs.size (.lst [])) fp) [] (pc nT cap σ) (upd H2 s2.heap.objs.size (.lst [])) { s2 with heap:=h₁,toks:=s2.toks+([]:List (Str×Value)).length }:=by
  refine⟨ok,rfl,I2.bare,Un.kept old3,⟨_,hns₁,λj x v e1 e2 e3=>?_⟩,λx c e=>?_,hHC,λx c e=>I3.freeC x c (S.sub x c e),λp hp=>by simp at hp,I3.hok.kept old3, ?_⟩
  ·obtain⟨k,i,rfl,h1,h2⟩:=qV e2
   obtain⟨y,g1,g2,g3',g4,g5⟩:=cp.get h1
   have e1':N'[nT+k]? = some x:=e1
   rw[g1]at e1';cases e1'
   have h2':σ[i]? = some (some v):=by
    cases q:σ[i]? with
    | none=>rw[q]at h2;cases h2
    | some z=>rw[q]at h2;have:z=some v:=h2;rw[this]
   obtain⟨m,_,hl⟩:=I3.loc
   obtain⟨u,r,l⟩:=hl i _ v g2 h2' (g3'.elim (λz=>.inr (.inl z)) λz=>.inr (.inr z))
   refine⟨u,r, ?_⟩
   rcases l with ⟨l,_⟩|⟨_,c,lc,ic⟩
   ·rcases g3' with z|z<;>(rw[z]at l;cases l)
   ·refine .inr ⟨g4,c,by show cl.lookup _=some c;rw[g5];exact lc, ?_⟩
    obtain⟨o,ho,hd⟩:=ic
    exact⟨o,old3 _ _ ho,hd⟩
  ·obtain⟨v,o,ho,hd⟩:=I3.cell x c (S.sub x c e)
   exact⟨v,o,old3 _ _ ho,hd⟩
  ·show(pc nT cap σ).length=N'.length
   unfold pc
   rw[cp.len];simp
 have fpX:∀ {H':Hp},(∀b∈fp,H' b=none)->∀b∈fp,kN (gY X N' scope cl g3.objs.size { s2 with heap:=g3 } (upd H2 s2.heap.objs.size (.lst [])) fp) [] H' b:=λhn b hb =>
  ⟨hn b hb,fpC b hb,ok.exfs b hb,.inl hb,λx c e=>(f2 b hb).2.2.2.2.1 x c (S.sub x c e),λp hp=>by simp at hp⟩
 have clean:∀i,i<nT->(bW nT cap ρ)[i]? = some none:=λi hi=>by
  unfold bW
  rw[List.getElem?_append_left (by simpa using hi),List.getElem?_replicate,if_pos hi]
 have hND:N1 s2.heap.objs.size=none:=sN.free hD
 have loop:∀s₃:Shared,s₃={ s2 with heap:=h₁,toks:=s2.toks+([]:List (Str×Value)).length } ->
   codeAny (model X.prog X.w) X.A (.compLoop (.ListComp elt [⟨tg,iter,ifs,0⟩] scope pos) 0 (.ref it) (.ref s2.heap.objs.size) (compEnvC scope cl g3.objs.size X.env)) (RR (.ref s2.heap.objs.size) g3.objs.size) s₃:=by
  rintro s₃ rfl
  refine qU (λn s'=>∃(i:Nat) (N:Hp) (vs:List V) (es:List D) (σ':St) (H':Hp),Inv (gY X N' scope cl g3.objs.size { s2 with heap:=g3 } (upd H2 s2.heap.objs.size (.lst [])) fp) [] σ' H' s'/\tn i s'.heap/\(∀b∈fp,H' b=none) /\
   n=items.length - i/\i<=items.length/\RepE X.K N1 σ' (bW nT cap ρ)/\(bW nT cap ρ).length=σ'.length/\Ext N1 N H2 H'/\N s2.heap.objs.size=none/\H' s2.heap.objs.size=some (.lst vs)/\vs.length<=i/\IsL X.K N vs es /\
   ∃r,fu tgF fc fe (bW nT cap ρ) (items.drop i)=some r/\es++r=ds) ?_ items.length ?_
  ·rintro n s' ⟨i,N,vs,es,σ',H',I',ti,hn,rfl,hi,rp,hlen,x,hN0,hH0,hvl,hvs,r,er,eds⟩
   have sH:aS N1 H':=x.bn.trans x.nh
   by_cases hlt:i<items.length
   ·obtain⟨j1,_⟩:=J1 i H' sH
    obtain⟨go,yl⟩:=j1 items[i] (by simp[hlt])
    rw[List.drop_eq_getElem_cons hlt]at er
    unfold fu at er
    obtain⟨ρ1,e1,er⟩:=oX er
    obtain⟨b,e2,er⟩:=oX er
    refine thn (T.item (gY X N' scope cl g3.objs.size { s2 with heap:=g3 } (upd H2 s2.heap.objs.size (.lst [])) fp) rfl rfl rfl hcalm i [] s' σ' H' (λ_ _=>False) I' (fpX hn) ti go) λq s4 hq=>?_
    obtain⟨u,rfl,hq⟩:=hq
    refine thn hq λ_ s5 hq=>?_
    obtain⟨xv,H5,I5,rx,y5,t5,fr5⟩:=hq
    obtain⟨N5,x5,i5⟩:=yl xv H5 y5
    -- all that may be named at this turn
    have x6:Ext N (join N N5) H' H5:=by
     refine⟨x5.hh,dj,λa o e=>?_,λa o e=>?_⟩
     ·cases z:N a with
      | some u'=>rw[dj _ _ z]at e;cases e;exact x5.hh _ _ (x.nh _ _ z)
      | none=>rw[cP z]at e;exact x5.nh _ _ e
     ·cases z:N a with
      | some u'=>rw[dj _ _ z]at e;cases e;exact .inl rfl
      | none =>
       rw[cP z]at e
       rcases x5.new a o e with z'|z'
       ·rw[x.bn _ _ z']at z;cases z
       ·exact .inr z'
    have c5:aS N5 (join N N5):=λa o e=>by
     rcases x5.new a o e with z|z
     ·exact dj _ _ (x.bn _ _ z)
     ·rw[cP (x.nh.free z)];exact e
    have hN5:(join N N5) s2.heap.objs.size=none:=by
     cases z:join N N5 s2.heap.objs.size with
     | none=>rfl
     | some o =>
      rcases x6.new _ _ z with z'|z'
      ·rw[hN0]at z';cases z'
      ·rw[hH0]at z';cases z'
    have fin:∀(s9:Shared) (σ9:St) (H9 N9:Hp) (vs9:List V) (es9:List D),Inv (gY X N' scope cl g3.objs.size { s2 with heap:=g3 } (upd H2 s2.heap.objs.size (.lst [])) fp) (kO fp s5.heap) σ9 H9 s9 ->
      RepE X.K N1 σ9 (bW nT cap ρ)->(bW nT cap ρ).length=σ9.length->Ext N1 N9 H2 H9->N9 s2.heap.objs.size=none->H9 s2.heap.objs.size=some (.lst vs9)->vs9.length<=i+1->IsL X.K N9 vs9 es9 ->
      (∃r,fu tgF fc fe (bW nT cap ρ) (items.drop (i+1))=some r/\es9++r=ds)->∃m,m<items.length - i/\∃(i:Nat) (N:Hp) (vs:List V) (es:List D) (σ':St) (H':Hp),Inv (gY X N' scope cl g3.objs.size { s2 with heap:=g3 } (upd H2 s2.heap.objs.size (.lst [])) fp) [] σ' H' s9/\tn i s9.heap/\(∀b∈fp,H' b=none) /\
       m=items.length - i/\i<=items.length/\RepE X.K N1 σ' (bW nT cap ρ)/\(bW nT cap ρ).length=σ'.length/\Ext N1 N H2 H'/\N s2.heap.objs.size=none/\H' s2.heap.objs.size=some (.lst vs)/\vs.length<=i/\IsL X.K N vs es /\
       ∃r,fu tgF fc fe (bW nT cap ρ) (items.drop i)=some r/\es++r=ds:=λs9 σ9 H9 N9 vs9 es9 I9 rp9 l9 x9 n9 h9 v9 i9 er9=>by
     refine⟨items.length - (i+1),by omega,i+1,N9,vs9,es9,σ9,H9,I9.pins_of λp hp=>by simp at hp,T.keep _ _ _ t5 λb hb o e=>(I9.pin (b,o) (mY _ (gC hb e))).1,λb hb=>?_,rfl,hlt,rp9,l9,x9,n9,h9,v9,i9,er9⟩
     obtain⟨o,e,d⟩:=T.obj _ _ t5 b hb
     exact(I9.pin (b,o) (mY _ (gC hb e))).2.1
    have I5':Inv (gY X N' scope cl g3.objs.size { s2 with heap:=g3 } (upd H2 s2.heap.objs.size (.lst [])) fp) (kO fp s5.heap) σ' H5 s5:=by
     have:=I5.pinned (fpX fr5) (T.obj _ _ t5)
     rwa [List.nil_append]at this
    have sN5:aS (join N N5) H5:=x6.nh
    refine thn (hg _ _ _ _ _ s5 σ' H5 xv u (λσ6 H6=>H6=H5/\RepE X.K (join N N5) σ6 ρ1/\RepE X.K N1 σ6 (bW nT cap ρ)/\(bW nT cap ρ).length=σ6.length) I5' rx ?_) λ_ s6 ⟨σ6,H6,I6,eH,rp6,rq6,l6⟩=>?_
    ·refine htg (join N N5) H5 σ' (bW nT cap ρ) ρ1 xv items[i] _ clean (rp.mono (x.bn.trans dj)) sN5 (i5.mono c5) e1 hlen λσ1 r1 r2 l1=>⟨rfl,r1,r2 N1 rp,l1⟩
    ·subst eH
     have hH5:H6 s2.heap.objs.size=some (.lst vs):=x5.hh _ _ hH0
     refine thn (hc _ _ _ _ _ s6 σ6 H6 (λc H7=>c=b/\aS H6 H7) I6 ⟨join N N5,ρ1,b,sN5,rp6,e2,λH7 h7=>⟨rfl,h7⟩⟩) λok s7 ⟨H7,I7,eb,h7⟩=>?_
     subst eb
     have x7:Ext N1 (join N N5) H2 H7:=(x.trans x6).trans (.grow sN5 h7)
     cases ok with
     | false =>
      rw[if_neg (by decide)]at er ⊢
      exact fin s7 σ6 H7 (join N N5) vs es I7 rq6 l6 x7 hN5 (h7 _ _ hH5) (Nat.le_succ_of_le hvl) (hvs.mono dj) ⟨r,er,eds⟩
     | true =>
      rw[if_pos rfl]at er ⊢
      obtain⟨y,e3,er⟩:=oX er
      obtain⟨r',e4,er⟩:=oY er
      subst er
      refine thn (he _ _ _ _ _ s7 σ6 H7 (λv H8=>∃N8,Ext (join N N5) N8 H7 H8/\Is X.K N8 v y.1) I7 ⟨join N N5,ρ1,y.1,y.2,sN5.trans h7,rp6,e3,λv H8 N8 x8 i8 _=>⟨N8,x8,i8⟩⟩) λw8 s8 ⟨v8,H8,I8,r8,N8,x8,i8⟩=>?_
      have hH8:H8 s2.heap.objs.size=some (.lst vs):=x8.hh _ _ (h7 _ _ hH5)
      refine thn (pA _ s8 σ6 H8 (.ref s2.heap.objs.size) [v8] (.ref s2.heap.objs.size) [w8] (λ_ H9=>H9=upd H8 s2.heap.objs.size (.lst (vs++[v8]))) I8 rfl (.cons r8 .nil) ⟨_,vs,v8,rfl,rfl,hH8,by omega,rfl⟩) λ_ s9 ⟨_,H9,I9,_,e9⟩=>?_
      subst e9
      have hN8:N8 s2.heap.objs.size=none:=by
       cases z:N8 s2.heap.objs.size with
       | none=>rfl
       | some o =>
        rcases x8.new _ _ z with z'|z'
        ·rw[hN5]at z';cases z'
        ·rw[h7 _ _ hH5]at z';cases z'
      refine fin s9 σ6 _ N8 (vs++[v8]) (es++[y.1]) I9 rq6 l6 ((x7.trans x8).upd hD hN8) hN8 aI (by rw[List.length_append,List.length_singleton];omega) ((hvs.mono (dj.trans x8.bn)).append (.cons i8 .nil)) ⟨r',e4,by rw[List.append_assoc];exact eds⟩
   ·have ei:i=items.length:=by omega
    subst ei
    rw[List.drop_eq_nil_of_le (Nat.le_refl _)]at er
    cases er
    rw[List.append_nil]at eds
    subst eds
    refine thn (T.done (gY X N' scope cl g3.objs.size { s2 with heap:=g3 } (upd H2 s2.heap.objs.size (.lst [])) fp) rfl rfl rfl hcalm items.length [] s' σ' H' (λ_ _=>False) I' (fpX hn) ti ((J1 _ H' sH).2 (Nat.le_refl _))) λq s4 ⟨hq,I9⟩=>?_
    subst hq
    obtain⟨m,hm,_⟩:=I9.loc
    have u1:Un (frs X.stack) fp H2 (upd H2 s2.heap.objs.size (.lst [])) s2.heap g3:=Un.laid old2 (Nat.le_refl _) hD
    have x9:Ext N1 (upd N s2.heap.objs.size (.lst vs)) H2 H':=by
     refine⟨x.hh,x.bn.trans λa o e=>by rw[aG (λz=>by subst z;rw[hN0]at e;cases e)];exact e,λa o e=>?_,λa o e=>?_⟩
     ·by_cases z:a=s2.heap.objs.size
      ·subst z;rw[aI]at e;cases e;exact hH0
      ·rw[aG z]at e;exact x.nh _ _ e
     ·by_cases z:a=s2.heap.objs.size
      ·subst z;exact .inr hD
      ·rw[aG z]at e;exact x.new _ _ e
    refine hRR s2.heap.objs.size g3.objs.size s4 H' (upd N s2.heap.objs.size (.lst vs)) vs m hD (I2.call' (ch:=fp) I9.os (u1.trans I9.base) I9.hok I9.bare λb hb=>⟨(f2 b hb).2.2.2.1,(f2 b hb).2.1,(f2 b hb).2.2.2.2.1,(f2 b hb).2.2.2.2.2⟩) hm (I2.fpOk (by rw[hC];exact Nat.le_succ _) I9.free) x9 aI
     (hvs.mono λa o e=>by rw[aG (λz=>by subst z;rw[hN0]at e;cases e)];exact e)
  ·refine⟨0,N1,[],[],pc nT cap σ,_,I4,T.keep _ _ _ st2 λb hb o e=>old3 _ _ (old2 _ _ e),λb hb=>?_,rfl,Nat.zero_le _,rep.caps, ?_,(Ext.refl sN).upd hD hND,hND,aI,Nat.zero_le _,.nil,ds,by simpa using ec,rfl⟩
   ·rw[aG (fpD b hb)];exact(f2 b hb).1
   ·unfold bW pc;simp
 exact codeAny_compStart_list (loop _ rfl) (T.self _ 0 _ _ _ (T.keep _ _ _ st2 λb hb o e=>old3 _ _ (old2 _ _ e)) (loop _ rfl))
theorem eR {X:Cx}(hcalm:X.calm=true) {tg iter elt:Expr}{ifs:List Expr}{scope:Scope}{pos:Pos}{cl:List (Str×Addr)}{N':List Str}{nT:Nat}{cap:List Nat}{fi:FA}{tgF:FG}{g:TG}{fc:FT}{fe:FE}
  (S:CompSc X scope cl) (cp:Caps X N' scope cl nT cap) (hi:JI X tg iter fi)
  (hg:∀C s H fp,PG (gY X N' scope cl C s H fp) tg g) (htg:TGE X.K nT tgF g) (hc:∀C s H fp,JC (gY X N' scope cl C s H fp) ifs fc) (he:∀C s H fp,JE (gY X N' scope cl C s H fp) elt fe)
  (hs:∀x,foldedSetIterable iter X.env x=pure x:=by intro _;rfl) :
  JE X (.ListComp elt [⟨tg,iter,ifs,0⟩] scope pos) (cz fi nT cap tgF fc fe):=by
 intro pins s σ H Q I h
 obtain⟨B,ρ,d,b,sB,rep,e,q⟩:=h
 obtain⟨items,ei,e⟩:=oX e
 have hsz:items.length<=sizeLine:=Decidable.byContradiction λz=>by rw[if_neg z]at e;cases e
 rw[if_pos hsz]at e
 obtain⟨ds,ec,e⟩:=oY e
 cases e
 rw[eval_ListComp]
 refine wpAny_comprehension_free (use:=none) rfl hs S.clos S.kind S.names (thn (hi pins s σ H (λJ H2=>∃N1,Ext B N1 H H2/\qT X.K J N1 items) I ⟨B,ρ,items,sB,rep,ei,λJ H2 N1 x1 j1=>⟨N1,x1,j1⟩⟩) λv s1 h1=>thn h1 λitv s2 h2=>?_)
 obtain⟨it,fp,tn,J,H2,e,I2,T,st2,f2,N1,x1,j1⟩:=h2
 subst e
 refine mW hcalm S cp hg htg hc he I2 T st2 f2 (rep.mono x1.bn) x1.nh j1 hsz ec (RR:=λacc C=>compPost (model X.prog X.w) X.A X.xe none (EP X pins σ Q) acc C) ?_
 intro Dd C s' H' N vs m hD I' hm fC x hN hl
 refine⟨m,hm,λh' hs'=>⟨.ref Dd,H', ?_,rfl,q _ H' N (x1.trans x) (.lst (SqL.of hN) hl) λ_=>⟨Dd,vs,ds,rfl,rfl,x1.hh.free hD,hN,hl⟩⟩⟩
 obtain⟨c0,c1,c2,c3,c4,c5⟩:=fC
 exact I'.turned (t':=s'.toks) (λb o hb e=>(hs'.2 b hb).trans e) c0 c1 c3 c4 c5
theorem mJ {X:Cx}(hcalm:X.calm=true) {tg iter elt:Expr}{ifs:List Expr}{scope:Scope}{pos spos py:Pos}{cl:List (Str×Addr)}{N':List Str}{nT:Nat}{cap:List Nat}{fi:FA}{tgF:FG}{g:TG}{fc:FT}{fe:FE}{y:Str}{i:Nat}
  (hN:X.N.Nodup) (hi':X.N[i]? = some y) (hy:X.env.kindOf y=some .local)
  (hsw:swapsWith (.ListComp elt [⟨tg,iter,ifs,0⟩] scope pos) (some (.Name y py)) spos.line X.env=pure true)
  (S:CompSc X scope cl) (cp:Caps X N' scope cl nT cap) (hi:JI X tg iter fi)
  (hg:∀C s H fp,PG (gY X N' scope cl C s H fp) tg g) (htg:TGE X.K nT tgF g) (hc:∀C s H fp,JC (gY X N' scope cl C s H fp) ifs fc) (he:∀C s H fp,JE (gY X N' scope cl C s H fp) elt fe)
  (hs:∀x,foldedSetIterable iter X.env x=pure x:=by intro _;rfl) :
  JS X (.Assign [.Name y py] (.ListComp elt [⟨tg,iter,ifs,0⟩] scope pos) spos) (aZ i (cz fi nT cap tgF fc fe)):=by
 intro pins s σ H E I h
 have h2:xN (tD X.K (cz fi nT cap tgF fc fe)) (lO i) E σ H:=wF h
 obtain⟨B,ρ,d,b,sB,rep,e,q⟩:=h2
 obtain⟨items,ei,e⟩:=oX e
 have hsz:items.length<=sizeLine:=Decidable.byContradiction λz=>by rw[if_neg z]at e;cases e
 rw[if_pos hsz]at e
 obtain⟨ds,ec,e⟩:=oY e
 cases e
 rw[exec_Assign_Name_used _ _ _ _ hsw]
 refine wX (wpAny_standAt (wX ?_))
 show wpAny _ _ (do let _ ←comprehension (.ListComp elt [⟨tg,iter,ifs,0⟩] scope pos) scope X.env _ (newList []) false (eval iter X.env) (some (assign (.Name y py) X.env))) _ _ s
 refine wX (wpAny_mono (wpAny_comprehension_free (use:=some (assign (.Name y py) X.env)) (Q:=λ_ s'=>SP X pins E .next s') rfl hs S.clos S.kind S.names
  (thn (hi pins s σ H (λJ H2=>∃N1,Ext B N1 H H2/\qT X.K J N1 items) I ⟨B,ρ,items,sB,rep,ei,λJ H2 N1 x1 j1=>⟨N1,x1,j1⟩⟩) λv s1 h1=>thn h1 λitv s2 h2=>?_)) (λ_ s' hq=>wY (wY hq)) λ_ _ e=>e)
 obtain⟨it,fp,tn,J,H2,e,I2,T,st2,f2,N1,x1,j1⟩:=h2
 subst e
 refine mW hcalm S cp hg htg hc he I2 T st2 f2 (rep.mono x1.bn) x1.nh j1 hsz ec (RR:=λacc C=>compPost (model X.prog X.w) X.A X.xe (some (assign (.Name y py) X.env)) (λ_ s'=>SP X pins E .next s') acc C) ?_
 intro Dd C s' H' N vs m hD I' hm fC x hN' hl
 show wpAny _ _ (assign (.Name y py) X.env (.ref Dd)) _ _ s'
 obtain⟨c0,c1,c2,c3,c4,c5⟩:=fC
 refine wpAny_assign_Name (pz I' hN hi' (.inl hy) (r:=show aY (.ref Dd) (.ref Dd)from rfl) (λs9 I9 ⟨a,sb,ha⟩=>?_) (.inr hy))
 have nC:C≠a:=by
  rcases ha with z|z
  ·rw[z];exact c1
  ·exact λw=>c4 y a z w.symm
 refine⟨m,hm.sameBut sb nC,λh' hs'=>⟨_,H', ?_,q _ H' N (x1.trans x) (.lst (SqL.of hN') hl) λ_=>⟨Dd,vs,ds,rfl,rfl,x1.hh.free hD,hN',hl⟩⟩⟩
 exact I9.turned (t':=s9.toks) (λb o hb e=>(hs'.2 b hb).trans e) c0 c1 c3 c4 c5
section
variable {X:Cx}{a b c e:Expr}{pos:Pos}
theorem PE.to {t t':TE}(h:PE X e t) (k:∀σ H Q,t' σ H Q->t σ H Q):PE X e t':=λpins s σ H Q I q=>h pins s σ H Q I (k σ H Q q)
theorem PT.to {t t':TT}(h:PT X e t) (k:∀σ H Q,t' σ H Q->t σ H Q):PT X e t':=λpins s σ H Q I q=>h pins s σ H Q I (k σ H Q q)
theorem PW.to {t t':TT}(h:PW X e t) (k:∀σ H Q,t' σ H Q->t σ H Q):PW X e t':=λwh pins s σ H Q I q=>h wh pins s σ H Q I (k σ H Q q)
theorem PA.to {es:List Expr}{t t':TA}(h:PA X es t) (k:∀σ H Q,t' σ H Q->t σ H Q):PA X es t':=λpos pins s σ H Q I q=>h pos pins s σ H Q I (k σ H Q q)
theorem PS.to {st:Stmt}{t t':TS}(h:PS X st t) (k:∀E σ H,t' E σ H->t E σ H):PS X st t':=λpins s σ H E I q=>h pins s σ H E I (k E σ H q)
theorem PSs.to {st:List Stmt}{t t':TS}(h:PSs X st t) (k:∀E σ H,t' E σ H->t E σ H):PSs X st t':=λpins s σ H E I q=>h pins s σ H E I (k E σ H q)
theorem PI.to {tg it:Expr}{t t':TI}(h:PI X tg it t) (k:∀σ H Q,t' σ H Q->t σ H Q):PI X tg it t':=λpins s σ H Q I q=>h pins s σ H Q I (k σ H Q q)
theorem zn {K:PySem.W.Frag}{d:D}{v:V}(i:∀B,Is K B v d) {σ:St}{H:Hp}{Q:VK}(h:tD K (fC d) σ H Q):tC v σ H Q:=by
 obtain⟨B,ρ,d',b,s,r,e,q⟩:=h
 cases e
 exact q.one s (i B)
theorem af (i:Nat) {x:Str}(hN:X.N[i]? = some x:=by rfl) (hv:Vis X.env.scope x:=by first|exact Or.inl rfl|exact Or.inr (Or.inl rfl)|exact Or.inr (Or.inr rfl)) (hd:(x == ("__debug__" : Str))=false:=by decide)
  (hcd:(x == ("__classdict__" : Str))=false:=by decide):JE X (.Name x pos) (ag i):=PE.to (mQ hN hv hd hcd) λ_ _ _ h=>D1 h
theorem ar {i:Int}{j:Nat}:JE X (.Constant (.int i) j pos) (fC (.int i)):=PE.to CQ λ_ _ _ h=>zn (λ_=>.int i) h
theorem jJ {i:Bool}{j:Nat}:JE X (.Constant (.bool i) j pos) (fC (.bl i)):=PE.to Es λ_ _ _ h=>zn (λ_=>.bl i) h
theorem cX {j:Nat}:JE X (.Constant .none j pos) (fC .non):=PE.to CS λ_ _ _ h=>zn (λ_=>.non) h
theorem av {x:Str}{j:Nat}:JE X (.Constant (.str x) j pos) (fC (.str x)):=PE.to CT λ_ _ _ h=>zn (λ_=>.str x) h
theorem Bj {x:Str}{v:V}{d:D}{u:Value}(hg:Gl X x) (hm:X.mg x=some u) (r:aY v u) (i:∀B,Is X.K B v d) (hd:(x == ("__debug__" : Str))=false:=by decide):JE X (.Name x pos) (fC d):=PE.to (wA hg hm r hd) λ_ _ _ h=>zn i h
theorem a7 {op:Operator}{f:D->D->Option (D×Bool)}{fa fb:FE}(ho:OpR X (binaryOp op) (rD X.K f)) (ha:JE X a fa) (hb:JE X b fb):JE X (.BinOp a op b pos) (f2 f fa fb):=PE.to (E9 ho ha hb) λ_ _ _ h=>Bb h
theorem ng {op:UnaryOp}{f:D->Option (D×Bool)}{fa:FE}(ho:UnR X (unaryOp op) (rDU X.K f)) (ha:JE X a fa):JE X (.UnaryOp op a pos) (f1 f fa):=PE.to (EA ho ha) λ_ _ _ h=>FV h
theorem eG {op:CmpOp}{f:D->D->Option (D×Bool)}{fa fb:FE}(ho:OpR X (compareOp op) (rD X.K f)) (ha:JE X a fa) (hb:JE X b fb) (hm:behindInMarks op b=false:=by first|exact mR _ (by decide) (by decide)|rfl):JE X (.Compare a [op] [b] pos) (f2 f fa fb):=PE.to (AN ho ha hb hm) λ_ _ _ h=>Bb h
theorem zo {K:PySem.W.Frag}{f:FE}{σ:St}{H:Hp}{Q:Bool->Hp->Prop}(h:tDT K (tOf f) σ H Q):tD K f σ H λx H'=>∃k,x=.bl k/\Q k H':=by
 obtain⟨B,ρ,c,s,r,e,q⟩:=h
 unfold tOf at e
 split at e
 ·rename_i c' b' ef
  cases e
  refine⟨B,ρ,.bl c,b',s,r,ef,λv H' N x i _=>?_⟩
  cases i
  exact⟨c,rfl,q H' x.hh⟩
 ·cases e
theorem ba {op:CmpOp}{f:D->D->Option (D×Bool)}{fa fb:FE}(ho:OpR X (compareOp op) (rD X.K f)) (ha:JE X a fa) (hb:JE X b fb) (hm:behindInMarks op b=false:=by first|exact mR _ (by decide) (by decide)|rfl):JT X (.Compare a [op] [b] pos) (tOf (f2 f fa fb)) :=
 PT.to (AO ho ha hb hm) λ_ _ _ h=>Bb (zo h)
theorem jp {f:FE}(h:JE X e f) (he:∀whole,isTrue e X.env whole=(do let v ←whole;standAt e.pos;holding [v] (truthy v)):=by intro _;rfl):JT X e (tOf f):=PT.to (CU h he) λ_ _ _ q=>zo q
@[simp] def kR (f g:D->D->Option (D×Bool)) (fa fb fc:FE):FE:=λρ=>(fa ρ).bind λx=>(fb ρ).bind λy=>match f x.1 y.1 with
 | some (.bl true,_)=>(fc ρ).bind λz=>g y.1 z.1
 | some (.bl false,_)=>some (.bl false,false)
 | _=>none
theorem zp {K:PySem.W.Frag}{f g:D->D->Option (D×Bool)}{fa fb fc:FE}{σ:St}{H:Hp}{Q:VK}(h:tD K (kR f g fa fb fc) σ H Q):yR (rD K f) (rD K g) (tD K fa) (tD K fb) (tD K fc) σ H Q:=by
 obtain⟨B,ρ,d,b,s,r,e,q⟩:=h
 obtain⟨x,ex,e⟩:=oX e
 obtain⟨y,ey,e⟩:=oX e
 refine⟨B,ρ,x.1,x.2,s,r,ex,λv H1 N1 x1 i1 _=>⟨N1,ρ,y.1,y.2,x1.nh,r.mono x1.bn,ey,λv2 H2 N2 x2 i2 _=>?_⟩⟩
 split at e
 ·rename_i b' ef
  obtain⟨z,ez,e⟩:=oX e
  refine⟨N2,x.1,y.1,.bl true,b',x2.nh,i1.mono x2.bn,i2,ef,λv3 H3 N3 x3 i3 _=>?_⟩
  cases i3
  refine⟨true,rfl, ?_⟩
  rw[if_pos rfl]
  refine⟨N3,ρ,z.1,z.2,x3.nh,r.mono (x1.bn.trans (x2.bn.trans x3.bn)),ez,λv4 H4 N4 x4 i4 _=>⟨N4,y.1,z.1,d,b,x4.nh,i2.mono (x3.bn.trans x4.bn),i4,e, ?_⟩⟩
  exact q.into ((x1.trans x2).trans (x3.trans x4))
 ·rename_i b' ef
  cases e
  refine⟨N2,x.1,y.1,.bl false,b',x2.nh,i1.mono x2.bn,i2,ef,λv3 H3 N3 x3 i3 _=>?_⟩
  cases i3
  refine⟨false,rfl, ?_⟩
  rw[if_neg (by decide)]
  exact(q.into ((x1.trans x2).trans x3)).one x3.nh (.bl false)
 ·cases e
theorem zq {op op':CmpOp}{f g:D->D->Option (D×Bool)}{fa fb fc:FE}(ho:OpR X (compareOp op) (rD X.K f)) (ho':OpR X (compareOp op') (rD X.K g)) (ha:JE X a fa) (hb:JE X b fb) (hc:JE X c fc)
  (hm:lastMarks [op,op'] [b,c]=false:=by with_unfolding_all rfl):JE X (.Compare a [op,op'] [b,c] pos) (kR f g fa fb fc):=PE.to (yS ho ho' ha hb hc hm) λ_ _ _ h=>zp h
theorem Bk {K:PySem.W.Frag}{f g:FT}{σ:St}{H:Hp}{Q:Bool->Hp->Prop}(h:tDT K (ft f g) σ H Q):Eu (tDT K f) (tDT K g) σ H Q:=by
 obtain⟨B,ρ,c,s,r,e,q⟩:=h
 unfold ft at e
 cases ef:f ρ with
 | none=>rw[ef]at e;cases e
 | some k =>
  rw[ef]at e
  refine⟨B,ρ,k,s,r,ef,λH1 h1=>?_⟩
  cases k with
  | true=>rw[if_pos rfl];exact⟨B,ρ,c,s.trans h1,r,e,λH2 h2=>q H2 (h1.trans h2)⟩
  | false=>rw[if_neg (by decide)];cases e;exact q H1 h1
theorem D3 {K:PySem.W.Frag}{f g:FT}{σ:St}{H:Hp}{Q:Bool->Hp->Prop}(h:tDT K (jc f g) σ H Q):tOr (tDT K f) (tDT K g) σ H Q:=by
 obtain⟨B,ρ,c,s,r,e,q⟩:=h
 unfold jc at e
 cases ef:f ρ with
 | none=>rw[ef]at e;cases e
 | some k =>
  rw[ef]at e
  refine⟨B,ρ,k,s,r,ef,λH1 h1=>?_⟩
  cases k with
  | false=>rw[if_neg (by decide)];exact⟨B,ρ,c,s.trans h1,r,e,λH2 h2=>q H2 (h1.trans h2)⟩
  | true=>rw[if_pos rfl];cases e;exact q H1 h1
theorem Bl {K:PySem.W.Frag}{f:FT}{σ:St}{H:Hp}{Q:Bool->Hp->Prop}(h:tDT K (jf f) σ H Q):Ev (tDT K f) σ H Q:=by
 obtain⟨B,ρ,c,s,r,e,q⟩:=h
 obtain⟨k,ek,e⟩:=oY e
 subst e
 exact⟨B,ρ,k,s,r,ek,λH1 h1=>q H1 h1⟩
variable {aF:List Expr}
theorem mK {f:FT}(ha:JT X a f):JW X (.BoolOp .And [a] pos) f:=AG ha
theorem ni {f:FT}(ha:JT X a f):JW X (.BoolOp .Or [a] pos) f:=CV ha
theorem qX {f g:FT}(ha:JT X a f) (hb:JW X (.BoolOp .And (b::aF) pos) g):JW X (.BoolOp .And (a::b::aF) pos) (ft f g):=PW.to (CW ha hb) λ_ _ _ h=>Bk h
theorem pF {f g:FT}(ha:JT X a f) (hb:JW X (.BoolOp .Or (b::aF) pos) g):JW X (.BoolOp .Or (a::b::aF) pos) (jc f g):=PW.to (Ew ha hb) λ_ _ _ h=>D3 h
theorem qY {f:FT}(h:JW X e f):JT X e f:=h.pt
theorem vy {f:FT}(ha:JT X a f):JT X (.UnaryOp .Not a pos) (jf f):=PT.to (CY ha) λ_ _ _ h=>Bl h
@[simp] def nj (f g:FE):FE:=λρ=>match f ρ with|some (.bl true,_)=>g ρ|some (.bl false,_)=>some (.bl false,false)|_=>none
@[simp] def fOr (f g:FE):FE:=λρ=>match f ρ with|some (.bl true,_)=>some (.bl true,false)|some (.bl false,_)=>g ρ|_=>none
@[simp] def Gz (f:FE):FE:=λρ=>match f ρ with|some (.bl c,_)=>some (.bl (!c),false)|_=>none
theorem kT {f g:FE}(ha:JE X a f) (hb:JE X (.BoolOp .And (b::aF) pos) g):JE X (.BoolOp .And (a::b::aF) pos) (nj f g):=PE.to (Da ha hb) λσ H Q h=>by
 obtain⟨B,ρ,d,k,s,r,e,q⟩:=h
 unfold nj at e
 split at e
 ·rename_i b' ef
  refine⟨B,ρ,_,_,s,r,ef,λv H1 N1 x1 i1 _=>?_⟩
  cases i1
  refine⟨true,rfl, ?_⟩
  rw[if_pos rfl]
  exact⟨N1,ρ,d,k,x1.nh,r.mono x1.bn,e,q.into x1⟩
 ·rename_i b' ef
  cases e
  refine⟨B,ρ,_,_,s,r,ef,λv H1 N1 x1 i1 _=>?_⟩
  cases i1
  refine⟨false,rfl, ?_⟩
  rw[if_neg (by decide)]
  exact(q.into x1).one x1.nh (.bl false)
 ·cases e
theorem EY {f g:FE}(ha:JE X a f) (hb:JE X (.BoolOp .Or (b::aF) pos) g):JE X (.BoolOp .Or (a::b::aF) pos) (fOr f g):=PE.to (Ey ha hb) λσ H Q h=>by
 obtain⟨B,ρ,d,k,s,r,e,q⟩:=h
 unfold fOr at e
 split at e
 ·rename_i b' ef
  cases e
  refine⟨B,ρ,_,_,s,r,ef,λv H1 N1 x1 i1 _=>?_⟩
  cases i1
  refine⟨true,rfl, ?_⟩
  rw[if_pos rfl]
  exact(q.into x1).one x1.nh (.bl true)
 ·rename_i b' ef
  refine⟨B,ρ,_,_,s,r,ef,λv H1 N1 x1 i1 _=>?_⟩
  cases i1
  refine⟨false,rfl, ?_⟩
  rw[if_neg (by decide)]
  exact⟨N1,ρ,d,k,x1.nh,r.mono x1.bn,e,q.into x1⟩
 ·cases e
theorem kU {op:BoolOp}{f:FE}(h:JE X a f):JE X (.BoolOp op [a] pos) f:=CZ h
variable {es:List Expr}
theorem ah:JA X [] ak:=PA.to jo λ_ _ _ h=>Bd h
theorem ac {f:FE}{g:FA}(ha:JE X e f) (hr:JA X es g) (hs:starEach (e::es) X.env=(false,eval e X.env)::starEach es X.env:=by rfl):JA X (e::es) (ae f g):=PA.to (gD ha hr hs) λ_ _ _ h=>zg h
@[simp] def aP:List D->Option (D×Bool):=λds=>if ds.length<=sizeLine then some (.tup ds,false)else none
@[simp] def bB:List D->Option (D×Bool):=λds=>if ds.length<=sizeLine then some (.lst ds,true)else none
theorem aN {x1} {f:FA}(h:JA X es f):JE X (.Tuple es x1 pos) (fA aP f):=PE.to (vi h) λσ H Q q=>by
 obtain⟨B,ρ,ds,s,r,e,k⟩:=Bc q
 refine⟨B,ρ,ds,s,r,e,λvs H1 N1 x1 i1=>?_⟩
 obtain⟨B2,ds2,d,b,s2,i2,e2,k2⟩:=k vs H1 N1 x1 i1
 unfold aP at e2
 split at e2
 ·rename_i hz
  cases e2
  refine⟨by rw[i2.length];exact hz,λp hp=>k2 _ _ (upd B2 p (.tup vs)) (.laid s2 hp) (.tup (SqT.of aI) (i2.mono (Ext.laid s2 hp).bn)) (by simp)⟩
 ·cases e2
theorem bA {f:FA}(h:JA X es f):JE X (.List es pos) (fA bB f):=PE.to (Dq h) λσ H Q q=>by
 obtain⟨B,ρ,ds,s,r,e,k⟩:=Bc q
 refine⟨B,ρ,ds,s,r,e,λvs H1 N1 x1 i1=>?_⟩
 obtain⟨B2,ds2,d,b,s2,i2,e2,k2⟩:=k vs H1 N1 x1 i1
 unfold bB at e2
 split at e2
 ·rename_i hz
  cases e2
  refine⟨by rw[i2.length];exact hz,λp hp=>k2 _ _ (upd B2 p (.lst vs)) (.laid s2 hp) (.lst (SqL.of aI) (i2.mono (Ext.laid s2 hp).bn)) λ_=>⟨p,vs,ds2,rfl,rfl,hp,aI,i2.mono (Ext.laid s2 hp).bn⟩⟩
 ·cases e2
end
section
variable {X:Cx}
theorem gc {f:Value->Value->Sem Value}{r r':R2}(h:OpR X f r) (k:∀x y H Q,r' x y H Q->r x y H Q):OpR X f r':=λpins s σ H x y v u Q I rx ry q=>h pins s σ H x y v u Q I rx ry (k x y H Q q)
def orD (f g:D->D->Option (D×Bool)):D->D->Option (D×Bool):=λx y=>match f x y with|some r=>some r|none=>g x y
theorem kW {s:Value->Value->Sem Value}{f g:D->D->Option (D×Bool)}(h:OpR X s (rD X.K f)) (h':OpR X s (rD X.K g)):OpR X s (rD X.K (orD f g)):=by
 intro pins st σ H x y v u Q I rx ry q
 obtain⟨B,dx,dy,d,b,sB,ix,iy,e,q⟩:=q
 unfold orD at e
 split at e
 ·rename_i r ef
  cases e
  exact h pins st σ H x y v u Q I rx ry ⟨B,dx,dy,_,_,sB,ix,iy,ef,q⟩
 ·exact h' pins st σ H x y v u Q I rx ry ⟨B,dx,dy,_,_,sB,ix,iy,e,q⟩
@[simp] def iop (C:Int->Int->Bool) (g:Int->Int->D):D->D->Option (D×Bool)
 | .int i,.int j=>if C i j=true then some (g i j,false)else none
 | _,_=>none
theorem qZ {s:Value->Value->Sem Value}{C:Int->Int->Prop}{C':Int->Int->Bool}{g:Int->Int->V}{g':Int->Int->D}(h:OpR X s (rI C g)) (hC:∀i j,C' i j=true->C i j) (hg:∀i j B,Is X.K B (g i j) (g' i j)):OpR X s (rD X.K (iop C' g')):=by
 refine gc h λx y H Q q=>?_
 obtain⟨B,dx,dy,d,b,sB,ix,iy,e,q⟩:=q
 cases ix<;>cases iy<;>try (simp[iop]at e;done)
 rename_i i j
 simp only[iop]at e
 split at e
 ·rename_i hc
  cases e
  exact⟨i,j,rfl,rfl,hC i j hc,q.one sB (hg i j B)⟩
 ·cases e
theorem hZ {s:Value->Value->Sem Value}{g:Int->Int->V}{g':Int->Int->D}(h:OpR X s (rI0 g)) (hg:∀i j B,Is X.K B (g i j) (g' i j)):OpR X s (rD X.K (iop (λ_ _=>true) g')):=by
 refine gc h λx y H Q q=>?_
 obtain⟨B,dx,dy,d,b,sB,ix,iy,e,q⟩:=q
 cases ix<;>cases iy<;>try (simp[iop]at e;done)
 rename_i i j
 simp only[iop,if_true]at e
 cases e
 exact⟨i,j,rfl,rfl,q.one sB (hg i j B)⟩
abbrev D4:D->D->Option (D×Bool):=iop (λ_ _=>true) λi j=>.int (i+j)
abbrev zr:D->D->Option (D×Bool):=iop (λ_ _=>true) λi j=>.int (i - j)
abbrev EZ:D->D->Option (D×Bool):=iop (λi j=>decide ((-18446744073709551616<i/\i<18446744073709551616)∨(-18446744073709551616<j/\j<18446744073709551616))) λi j=>.int (i*j)
abbrev ia:D->D->Option (D×Bool):=iop (λ_ j=>decide (0<j/\j<1073741824)) λi j=>.int (i / j)
abbrev dm:D->D->Option (D×Bool):=iop (λ_ j=>decide (0<j)) λi j=>.int (i % j)
abbrev iLt:D->D->Option (D×Bool):=iop (λ_ _=>true) λi j=>.bl (decide (i<j))
abbrev iLe:D->D->Option (D×Bool):=iop (λ_ _=>true) λi j=>.bl (decide (i<=j))
abbrev iGt:D->D->Option (D×Bool):=iop (λ_ _=>true) λi j=>.bl (decide (j<i))
theorem Fa:OpR X (binaryOp .Add) (rD X.K D4):=hZ Dk λ_ _ _=>.int _
theorem wG:OpR X (binaryOp .Sub) (rD X.K zr):=hZ Dl λ_ _ _=>.int _
theorem Fb:OpR X (binaryOp .Mult) (rD X.K EZ):=qZ Dm (λi j h=>by have h:=of_decide_eq_true h;unfold AL;omega) λ_ _ _=>.int _
theorem dI:OpR X (binaryOp .FloorDiv) (rD X.K ia):=qZ AM (λi j h=>by have h:=of_decide_eq_true h;unfold EC;omega) λ_ _ _=>.int _
theorem cF:OpR X (binaryOp .Mod) (rD X.K dm):=qZ Dn (λ_ _ h=>of_decide_eq_true h) λ_ _ _=>.int _
theorem FW:OpR X (compareOp .Lt) (rD X.K iLt):=hZ ED λ_ _ _=>.bl _
theorem FX:OpR X (compareOp .LtE) (rD X.K iLe):=hZ EE λ_ _ _=>.bl _
theorem Bm:OpR X (compareOp .Gt) (rD X.K iGt):=hZ EF λ_ _ _=>.bl _
@[simp] def sop (C:Str->Str->Bool) (g:Str->Str->D):D->D->Option (D×Bool)
 | .str i,.str j=>if C i j=true then some (g i j,false)else none
 | _,_=>none
abbrev zu:D->D->Option (D×Bool):=sop (λi j=>decide (i.length+j.length<=sizeLine)) λi j=>.str (i++j)
abbrev sLe:D->D->Option (D×Bool):=sop (λ_ _=>true) λi j=>.bl (!decide (j.cps.toList<i.cps.toList))
theorem D5:OpR X (binaryOp .Add) (rD X.K zu):=by
 refine gc vg λx y H Q q=>?_
 obtain⟨B,dx,dy,d,b,sB,ix,iy,e,q⟩:=q
 cases ix<;>cases iy<;>try (simp[zu,sop]at e;done)
 rename_i i j
 simp only[zu,sop]at e
 split at e
 ·rename_i hc
  cases e
  exact⟨i,j,rfl,rfl,of_decide_eq_true hc,q.one sB (.str _)⟩
 ·cases e
theorem Fc:OpR X (compareOp .LtE) (rD X.K sLe):=by
 intro pins s σ H x y v u Q I rx ry q
 obtain⟨B,dx,dy,d,b,sB,ix,iy,e,q⟩:=q
 cases ix<;>cases iy<;>try (simp[sLe,sop]at e;done)
 rename_i i j
 simp only[sLe,sop,if_true]at e
 cases e
 obtain⟨t,rfl⟩:=rx
 obtain⟨t',rfl⟩:=ry
 exact PySem.P.le_str ⟨.bl _,H,I,rfl,q.one sB (.bl _)⟩
end
section
variable {X:Cx}{a b c e:Expr}{pos:Pos}{st:Stmt}{aF:List Stmt}
theorem bO:JSs X [] bU:=PSs.to AH λ_ _ _ h=>zi h
theorem am {g h:FS}(h1:JS X st g) (h2:JSs X aF h):JSs X (st::aF) (aD g h):=PSs.to (yL h1 h2) λ_ _ _ q=>Be q
theorem ay {g:FS}(h1:JS X st g):JSs X [st] g:=AI h1
theorem ce {c:Expr}{a b:List Stmt}{fc:FT}{g h:FS}(hc:JT X c fc) (ha:JSs X a g) (hb:JSs X b h):JS X (.If c a b pos) (gIf fc g h):=PS.to (E4 hc ha hb) λ_ _ _ q=>D2 q
theorem aQ {f:FE}(he:JE X e f):JS X (.Return (some e) pos) (bC f):=PS.to (yM he) λ_ _ _ q=>Bf q
theorem gG (i:Nat) {x:Str}{p:Pos}(hN:X.N[i]? = some x:=by rfl) (hv:Vis X.env.scope x:=by first|exact Or.inl rfl|exact Or.inr (Or.inl rfl)|exact Or.inr (Or.inr rfl)) (hd:(x == ("__debug__" : Str))=false:=by decide)
  (hcd:(x == ("__classdict__" : Str))=false:=by decide):JS X (.Return (some (.Name x p)) pos) (gT i):=PS.to (yM (mQ hN hv hd hcd)) λ_ _ _ q=>zj q
theorem aC {i:Nat}{x:Str}{p:Pos}{f:FE}(hN:X.N.Nodup) (he:JE X e f) (hi:X.N[i]? = some x:=by rfl) (hx:Loc X.env.scope x:=by first|exact Or.inl rfl|exact Or.inr rfl) (hs:swapsWith e (some (.Name x p)) pos.line X.env=pure false:=by rfl)
  (hf:X.fn x=true∨X.env.scope.names.lookup x=some .local:=by first|exact .inl rfl|exact .inr rfl):JS X (.Assign [.Name x p] e pos) (aZ i f):=PS.to (yO hN hi hx he hs hf) λ_ _ _ q=>wF q
theorem kX {tg iter:Expr}{body:List Stmt}{fi:FA}{tgF:FG}{t:TG}{g:FS}(hp:PassesOwn (model X.prog X.w) X.A X.env X.xe) (hc:X.calm=true) (hi:JI X tg iter fi) (hg:PG X tg t) (ht:tDG X.K tgF t) (hb:JSs X body g)
  (hs:∀x,foldedSetIterable iter X.env x=pure x:=by intro _;rfl):JS X (.For tg iter body [] pos) (mE fi tgF g):=PS.to (yQ hp hc hi hg hb hs) λ_ _ _ q=>Bh ht q
theorem jK {tg iter:Expr}{body:List Stmt}{fi:FA}{tgF:FG}{t:TG}{g:FS}(hp:PassesOwn (model X.prog X.w) X.A X.env X.xe) (hc:X.calm=true) (hi:PI X tg iter (tDR X.K fi)) (hg:PG X tg t) (ht:tDG X.K tgF t) (hb:JSs X body g)
  (hs:∀x,foldedSetIterable iter X.env x=pure x:=by intro _;rfl):JS X (.For tg iter body [] pos) (jg fi tgF g):=PS.to (yQ hp hc hi hg hb hs) λ_ _ _ q=>zm ht q
theorem eI {i:Nat}{x:Str}{p apos cpos:Pos}{f:FE}(he:JE X e f) (hN:X.N[i]? = some x:=by rfl) (hv:Vis X.env.scope x:=by first|exact Or.inl rfl|exact Or.inr (Or.inl rfl)|exact Or.inr (Or.inr rfl)) (hd:(x == ("__debug__" : Str))=false:=by decide)
  (hcd:(x == ("__classdict__" : Str))=false:=by decide)
  (hbase:attributeBase (.Name x p) "append" X.env (eval (.Name x p) X.env)=eval (.Name x p) X.env:=by rfl)
  (hfew:((backTo cpos (starEach [e] X.env)).all (λx=>!x.1) && (backToKw cpos (keywordEach [] X.env)).all (λx=>x.1.isSome)
   && decide ([e].length+([]:List Keyword).length+(if([]:List Keyword).isEmpty then 0 else 1)<30))=true:=by rfl)
  (hline:(apos.endLine == cpos.line)=true:=by rfl) (hs:starEach [e] X.env=[(false,eval e X.env)]:=by rfl) (hsw:swapsWith (.Call (.Attribute (.Name x p) "append" apos) [e] [] cpos) none pos.line X.env=pure false:=by rfl) :
  JS X (.Expr (.Call (.Attribute (.Name x p) "append" apos) [e] [] cpos) pos) (gE i f):=by
 refine PS.to (AJ (Cf PySem.F.plainAttrs_list PySem.F.slot_list_append PySem.F.type_list_append pA (mQ hN hv hd hcd) (gD he jo hs) hbase hfew hline hs rfl) hsw) λE σ H q=>?_
 obtain⟨a,us,h1,h2,k⟩:=Bg q
 exact⟨_,h1,.inl ⟨rfl,us,SqL.of h2⟩,k⟩
end
@[simp] def bp (g:FS) (n k:Nat):List D->Option (D×Bool):=λds=>if ds.length=n then
 match g (ds.map (λd=>some (d,false))++List.replicate k none) with
 | some (.rt d b)=>some (d,b)
 | some (.nx _)=>some (.non,false)
 | _=>none
 else none
def spD (K:PySem.W.Frag) (f:List D->Option (D×Bool)):Sp:=λvs H Q _=>∃(B:Hp) (ds:List D) (d:D) (b:Bool),(aS B H/\Tb K B)/\IsL K B vs ds/\f ds=some (d,b)/\Fin K B H d b Q
theorem sS {K:PySem.W.Frag}{B H:Hp}{vs:List V}{ds:List D}{N:List Str}(sB:aS B H) (tb:Tb K B) (i:IsL K B vs ds):StN K B H B H (L2.du N vs) (ds.map (λd=>some (d,false))++List.replicate (N.length - vs.length) none):=by
 have nf:∀(j:Nat) (d:D) (b:Bool),(ds.map (λd=>some (d,false))++List.replicate (N.length - vs.length) none:Env)[j]? = some (some (d,b))->b=false/\ds[j]? = some d:=λj d b e=>by
  by_cases hj:j<ds.length
  ·rw[List.getElem?_append_left (by simpa using hj),List.getElem?_map]at e
   obtain⟨d',h1,h2⟩:=oY e
   cases h2
   exact⟨rfl,h1⟩
  ·rw[List.getElem?_append_right (by simpa using Nat.not_lt.mp hj),List.getElem?_replicate]at e
   split at e<;>cases e
 have no:∀a,¬own (L2.du N vs) (ds.map (λd=>some (d,false))++List.replicate (N.length - vs.length) none) a:=λa ⟨j,d,h,_⟩=>by
  obtain⟨z,_⟩:=nf j d true h;cases z
 refine⟨sB,tb,.refl sB, ?_,λj d e=>?_,λj d e=>?_,λj k a d e h=>?_⟩
 ·unfold L2.du;rw[List.length_append,List.length_append,List.length_map,List.length_map,List.length_replicate,List.length_replicate,i.length]
 ·obtain⟨_,e1⟩:=nf j d false e
  obtain⟨v,h1,h2⟩:=i.get e1
  refine⟨v, ?_,h2.mono λa o e=>by rw[ci (no a)];exact e⟩
  unfold L2.du
  have hj:j<vs.length:=(List.getElem?_eq_some_iff.mp h1).1
  rw[List.getElem?_append_left (by simpa using hj),List.getElem?_map,h1]<;>rfl
 ·obtain⟨z,_⟩:=nf j d true e;cases z
 ·obtain⟨z,_⟩:=nf j d true h;cases z
section
variable {P:Program}{w:World}{K:PySem.W.Frag}{mg:Str->Option Value}{base:Heap}
theorem Fd {x qual:Str}{st:Stmt}{f:Addr}{fd:FuncData}{N ps:List Str}{k:Nat}{g:FS}(F:Fun K x qual st f fd) (S:FnScope N ps (aw st))
  (hb:∀(cdv:Value) (A:Around) (outer:List PySem.Env) (s:Shared) (H:Hp) (E:XK),Room k (A.deeper (envOfC qual (aw st) s.heap.objs.size f cdv))->JSs (mS CX0 P w K mg base N qual (aw st) f cdv A outer s H E).nox (cE st) g) :
  FnOk P w K mg base CX0 (k+1) f fd ps (spD K (bp g ps.length (N.length - ps.length))):=by
 have len:∀vs H Q E,spD K (bp g ps.length (N.length - ps.length)) vs H Q E->vs.length=ps.length:=λvs H Q E h=>by
  obtain⟨B,ds,d,b,sB,i,e,q⟩:=h
  unfold bp at e
  split at e
  ·rename_i hl;rw[i.length];exact hl
  ·cases e
 refine F.ok S len λcdv A outer s H vs Q E hr h=>⟨_,hb cdv A outer s H E hr, ?_⟩
 have hlen:=len vs H Q E h
 obtain⟨B,ds,d,b,sB,i,e,q⟩:=h
 unfold bp at e
 rw[if_pos (by rw[←i.length];exact hlen)]at e
 have s0:=sS (N:=N) sB.1 sB.2 i
 rw[hlen]at s0
 split at e
 ·rename_i d' b' eg
  cases e
  exact⟨B,H,_,_,⟨B,s0⟩,eg,λv H' N' x' i' f'=>q v H' N' x' i' f'⟩
 ·rename_i ρ' eg
  cases e
  exact⟨B,H,_,_,⟨B,s0⟩,eg,λσ' H' ⟨N',s'⟩=>q .non H' N' s'.ext .non (by simp)⟩
 ·cases e
structure Fn (P:Program) (w:World) (K:PySem.W.Frag) (mg:Str->Option Value) (base:Heap) (k:Nat) (x:Str) (f:List D->Option (D×Bool)):Prop where
 ex:∃(ad:Addr) (fd:FuncData) (ps:List Str),FnOk P w K mg base CX0 k ad fd ps (spD K f)/\mg x=some (.ref ad)/\PySem.W.keepIn K (.ref ad)=true/\p4 K fd ps []
end
theorem aq {X:Cx}{k:Nat}{x:Str}{f:List D->Option (D×Bool)}{fa:FA}{e:Expr}{es:List Expr}{p pos:Pos}(F:Fn X.prog X.w X.K X.mg X.base k x f) (hr:Room k X.A) (ha:JA X (e::es) fa) (hg:Gl X x:=by rfl)
  (hdb:(x == ("__debug__" : Str))=false:=by decide) (he:starEach (e::es) X.env=(false,eval e X.env)::starEach es X.env:=by rfl) (hpl:(backTo pos (starEach es X.env)).any (·.1)=false:=by rfl) :
  JE X (.Call (.Name x p) (e::es) [] pos) (fA f fa):=by
 obtain⟨ad,fd,ps,F1,hm,hk,hb⟩:=F.ex
 refine PE.to (AR F1 hr hg hm hk hb .nil ER ha hdb he hpl) λσ H Q q=>?_
 obtain⟨B,ρ,d,b,s,r,e,q⟩:=q
 obtain⟨ds,ex,e⟩:=oX e
 exact⟨B,ρ,ds,s,r,ex,λvs H1 N1 x1 i1=>by
  show spD X.K f (vs++[]) H1 Q _
  rw[List.append_nil]
  exact⟨N1,ds,d,b,⟨x1.nh,r.tb.mono x1.bn⟩,i1,e,q.into x1⟩⟩
mutual
def eqD:D->D->Bool
 | .non,.non=>true
 | .bl a,.bl b=>a == b
 | .bl a,.int b=>decide ((if a then 1 else 0)=b)
 | .int a,.bl b=>decide (a=(if b then 1 else 0))
 | .int a,.int b=>decide (a=b)
 | .str a,.str b=>decide (a=b)
 | .tup xs,.tup ys=>cY xs ys
 | .lst xs,.lst ys=>cY xs ys
 | _,_=>false
def cY:List D->List D->Bool
 | [],[]=>true
 | x::xs,y::ys=>eqD x y && cY xs ys
 | _,_=>false
end
@[simp] theorem sT:eqD .non .non=true:=by simp only[eqD]
@[simp] theorem vz (b:Bool):eqD .non (.bl b)=false:=by simp only[eqD]
@[simp] theorem sU (b:Int):eqD .non (.int b)=false:=by simp only[eqD]
@[simp] theorem sV (b:Str):eqD .non (.str b)=false:=by simp only[eqD]
@[simp] theorem Cn (b:List D):eqD .non (.tup b)=false:=by simp only[eqD]
@[simp] theorem Co (b:List D):eqD .non (.lst b)=false:=by simp only[eqD]
@[simp] theorem v0 (a:Bool):eqD (.bl a) .non=false:=by simp only[eqD]
@[simp] theorem yf (a:Bool) (b:Bool):eqD (.bl a) (.bl b)=(a == b):=by simp only[eqD]
@[simp] theorem vA (a:Bool) (b:Int):eqD (.bl a) (.int b)=decide ((if a then 1 else 0)=b):=by simp only[eqD]
@[simp] theorem vB (a:Bool) (b:Str):eqD (.bl a) (.str b)=false:=by simp only[eqD]
@[simp] theorem D6 (a:Bool) (b:List D):eqD (.bl a) (.tup b)=false:=by simp only[eqD]
@[simp] theorem D7 (a:Bool) (b:List D):eqD (.bl a) (.lst b)=false:=by simp only[eqD]
@[simp] theorem sW (a:Int):eqD (.int a) .non=false:=by simp only[eqD]
@[simp] theorem vC (a:Int) (b:Bool):eqD (.int a) (.bl b)=decide (a=(if b then 1 else 0)):=by simp only[eqD]
@[simp] theorem sX (a:Int) (b:Int):eqD (.int a) (.int b)=decide (a=b):=by simp only[eqD]
@[simp] theorem sY (a:Int) (b:Str):eqD (.int a) (.str b)=false:=by simp only[eqD]
@[simp] theorem Cp (a:Int) (b:List D):eqD (.int a) (.tup b)=false:=by simp only[eqD]
@[simp] theorem Cq (a:Int) (b:List D):eqD (.int a) (.lst b)=false:=by simp only[eqD]
@[simp] theorem sZ (a:Str):eqD (.str a) .non=false:=by simp only[eqD]
@[simp] theorem vD (a:Str) (b:Bool):eqD (.str a) (.bl b)=false:=by simp only[eqD]
@[simp] theorem tm (a:Str) (b:Int):eqD (.str a) (.int b)=false:=by simp only[eqD]
@[simp] theorem lR (a:Str) (b:Str):eqD (.str a) (.str b)=decide (a=b):=by simp only[eqD]
@[simp] theorem Cr (a:Str) (b:List D):eqD (.str a) (.tup b)=false:=by simp only[eqD]
@[simp] theorem Cs (a:Str) (b:List D):eqD (.str a) (.lst b)=false:=by simp only[eqD]
@[simp] theorem Ct (a:List D):eqD (.tup a) .non=false:=by simp only[eqD]
@[simp] theorem D8 (a:List D) (b:Bool):eqD (.tup a) (.bl b)=false:=by simp only[eqD]
@[simp] theorem Cu (a:List D) (b:Int):eqD (.tup a) (.int b)=false:=by simp only[eqD]
@[simp] theorem Cv (a:List D) (b:Str):eqD (.tup a) (.str b)=false:=by simp only[eqD]
@[simp] theorem Cw (a:List D) (b:List D):eqD (.tup a) (.tup b)=cY a b:=by simp only[eqD]
@[simp] theorem Cy (a:List D) (b:List D):eqD (.tup a) (.lst b)=false:=by simp only[eqD]
@[simp] theorem Cz (a:List D):eqD (.lst a) .non=false:=by simp only[eqD]
@[simp] theorem D9 (a:List D) (b:Bool):eqD (.lst a) (.bl b)=false:=by simp only[eqD]
@[simp] theorem C0 (a:List D) (b:Int):eqD (.lst a) (.int b)=false:=by simp only[eqD]
@[simp] theorem C1 (a:List D) (b:Str):eqD (.lst a) (.str b)=false:=by simp only[eqD]
@[simp] theorem C2 (a:List D) (b:List D):eqD (.lst a) (.tup b)=false:=by simp only[eqD]
@[simp] theorem C3 (a:List D) (b:List D):eqD (.lst a) (.lst b)=cY a b:=by simp only[eqD]
@[simp] theorem Fe:cY [] []=true:=by rw[cY]
@[simp] theorem Ej (x y:D) (xs ys:List D):cY (x::xs) (y::ys)=(eqD x y && cY xs ys):=by rw[cY]
@[simp] theorem F3 (y:D) (ys:List D):cY [] (y::ys)=false:=by simp only[cY]
@[simp] theorem F4 (x:D) (xs:List D):cY (x::xs) []=false:=by simp only[cY]
def aj:Nat->D->Bool
 | _,.non=>true
 | _,.bl _=>true
 | _,.int _=>true
 | _,.str _=>true
 | _,.ty _=>false
 | _,.dk _ _=>false
 | _,.dt _ _=>false
 | 0,.tup _=>false
 | 0,.lst _=>false
 | n+1,.tup ds=>ds.all (aj n)
 | n+1,.lst ds=>ds.all (aj n)
@[simp] theorem DA (n:Nat):aj n .non=true:=by cases n<;>simp only[aj]
@[simp] theorem Ek (n:Nat) (a:Bool):aj n (.bl a)=true:=by cases n<;>simp only[aj]
@[simp] theorem DB (n:Nat) (a:Int):aj n (.int a)=true:=by cases n<;>simp only[aj]
@[simp] theorem DC (n:Nat) (a:Str):aj n (.str a)=true:=by cases n<;>simp only[aj]
@[simp] theorem Em (n:Nat) (ks:List Key) (vs:List D):aj n (.dk ks vs)=false:=by cases n<;>simp only[aj]
@[simp] theorem En (n:Nat) (ks:List (List Key)) (vs:List D):aj n (.dt ks vs)=false:=by cases n<;>simp only[aj]
@[simp] theorem DD (n:Nat) (ds:List D):aj (n+1) (.tup ds)=ds.all (aj n):=by simp only[aj]
@[simp] theorem DE (n:Nat) (ds:List D):aj (n+1) (.lst ds)=ds.all (aj n):=by simp only[aj]
theorem tp:∀ {xs ys:List D},cY xs ys=true->xs.length=ys.length
 | [],[],_=>rfl
 | x::xs,y::ys,h=>by
  simp only[cY,Bool.and_eq_true]at h
  rw[List.length_cons,List.length_cons,tp h.2]
 | [],_::_,h=>by simp[cY]at h
 | _::_,[],h=>by simp[cY]at h
theorem wH {xs ys:List D}(h:xs.length≠ys.length):cY xs ys=false:=by
 cases e:cY xs ys with
 | false=>rfl
 | true=>exact absurd (tp e) h
theorem jq (f:Nat->Bool):∀ {xs ys:List D},xs.length=ys.length->(∀(j:Nat) x y,xs[j]? = some x->ys[j]? = some y->f j=eqD x y)->(List.range xs.length).all f=cY xs ys
 | [],[],_,_=>by simp[cY]
 | x::xs,y::ys,hl,h=>by
  have e:=jq (λj=>f (j+1)) (xs:=xs) (ys:=ys) (by simpa using hl) λj a b h1 h2=>h (j+1) a b (by simpa using h1) (by simpa using h2)
  rw[List.length_cons,List.range_succ_eq_map,List.all_cons,List.all_map,cY,←h 0 x y rfl rfl,←e]
  rfl
 | [],_::_,hl,_=>by simp at hl
 | _::_,[],hl,_=>by simp at hl
section
variable {X:Cx}{pins:List (Addr×Obj)}{σ:St}{H:Hp}{s:Shared}
theorem wI (I:Inv X pins σ H s) {a:Addr}{vs ws:List V}(h1:SqT X.K H a vs) (h2:SqL X.K H a ws):False:=by
 obtain⟨its,_,⟨o,e,c,_⟩,_⟩:=I.tuple h1
 obtain⟨its',_,⟨o',n',e',c',_⟩,_⟩:=I.list h2
 rw[e]at e';cases e'
 rw[c]at c'
 injection c' with z
 exact absurd z (by decide)
theorem wJ (I:Inv X pins σ H s) {a:Addr}{o:Obj}{its:Array Value}{n:Nat}(e:s.heap.get? a=some o) (d:o.data=.seq its n):(∀kvs,H a≠some (.dK kvs))/\∀kvs,H a≠some (.dT kvs):=by
 refine⟨λkvs h=>?_,λkvs h=>?_⟩
 ·obtain⟨_,_,_,_,o',es,ep,e',_,d',_⟩:=(show ca X.prog X.w H s.heap a (.dK kvs)from I.hok a _ h)
  rw[e]at e';cases e';rw[d]at d';cases d'
 ·obtain⟨_,_,_,_,o',es,ep,e',_,d',_⟩:=(show ca X.prog X.w H s.heap a (.dT kvs)from I.hok a _ h)
  rw[e]at e';cases e';rw[d]at d';cases d'
theorem tq (I:Inv X pins σ H s) {a:Addr}{vs:List V}(h1:SqT X.K H a vs):(∀kvs,H a≠some (.dK kvs))/\∀kvs,H a≠some (.dT kvs):=by
 obtain⟨its,_,⟨o,e,c,n,d⟩,_⟩:=I.tuple h1
 exact wJ I e d
theorem tu (I:Inv X pins σ H s) {a:Addr}{vs:List V}(h1:SqL X.K H a vs):(∀kvs,H a≠some (.dK kvs))/\∀kvs,H a≠some (.dT kvs):=by
 obtain⟨its,_,p,_⟩:=I.list h1
 obtain⟨o,e,c,n,d⟩:=p.isList
 exact wJ I e d
theorem wK (I:Inv X pins σ H s):∀(n:Nat) {v:V}{d d':D},Is X.K H v d->Is X.K H v d'->aj n d=true->eqD d d'=true:=by
 have lists:∀ {p:D->Bool}(ih:∀ {v:V}{d d':D},Is X.K H v d->Is X.K H v d'->p d=true->eqD d d'=true) {vs:List V}{ds ds':List D},IsL X.K H vs ds->IsL X.K H vs ds'->ds.all p=true->cY ds ds'=true:=by
  intro p ih vs
  induction vs with
  | nil=>intro ds ds' h h' _;cases h;cases h';simp[cY]
  | cons v vs ihv =>
   intro ds ds' h h' hp
   cases h with
   | cons h1 h2 =>
    cases h' with
    | cons h3 h4 =>
     rw[List.all_cons,Bool.and_eq_true]at hp
     rw[cY,ih h1 h3 hp.1,ihv h2 h4 hp.2];rfl
 intro n
 induction n with
 | zero =>
  intro v d d' h h' hp
  cases h<;>cases h'<;>first|(simp[aj]at hp;done)|simp[eqD]
 | succ n ih =>
  intro v d d' h h' hp
  cases h with
  | tup h1 h2 =>
   cases h' with
   | tup h3 h4 =>
    rw[I.tuple_inj h3 h1]at h4
    rw[eqD];exact lists ih h2 h4 (by simpa [aj]using hp)
   | lst h3 h4=>exact(wI I h1 h3).elim
   | dk h3 _ _=>exact((tq I h1).1 _ h3).elim
   | dt h3 _ _=>exact((tq I h1).2 _ h3).elim
  | lst h1 h2 =>
   cases h' with
   | lst h3 h4 =>
    rw[I.list_inj h3 h1]at h4
    rw[eqD];exact lists ih h2 h4 (by simpa [aj]using hp)
   | tup h3 h4=>exact(wI I h3 h1).elim
   | dk h3 _ _=>exact((tu I h1).1 _ h3).elim
   | dt h3 _ _=>exact((tu I h1).2 _ h3).elim
  | ty=>simp[aj]at hp
  | dk=>simp[aj]at hp
  | dt=>simp[aj]at hp
  | _=>cases h'<;>simp[eqD]
theorem C4 {α:Type}{p:α->Bool}{l:List α}{j:Nat}{x:α}(h:l.all p=true) (e:l[j]? = some x):p x=true:=List.all_eq_true.mp h x (List.mem_of_getElem? e)
theorem tw {A:Around}{p:D->Bool}(ih:∀ {v1 v2:V}{d1 d2:D}{u1 u2:Value},p d1=true->p d2=true->Is X.K H v1 d1->Is X.K H v2 d2->aY v1 u1->aY v2 u2->SeqAt.EqAt A s u1 u2 (eqD d1 d2))
  {vs ws:List V}{ds es:List D}{its jts:List Value}(i1:IsL X.K H vs ds) (i2:IsL X.K H ws es) (r1:bc vs its) (r2:bc ws jts) (p1:ds.all p=true) (p2:es.all p=true) :
  ∀j (h1:j<its.toArray.size) (h2:j<jts.toArray.size),SeqAt.EqAt A s its.toArray[j] jts.toArray[j] (eqD (ds.getD j .non) (es.getD j .non)):=by
 intro j h1 h2
 rw[List.size_toArray]at h1 h2
 have l1:=r1.length;have l2:=r2.length;have l3:=i1.length;have l4:=i2.length
 have hv:j<vs.length:=by omega
 have hw:j<ws.length:=by omega
 have hd:j<ds.length:=by omega
 have he:j<es.length:=by omega
 obtain⟨u,e1,q1⟩:=r1.get (i:=j) (x:=vs[j]) (by simp[hv])
 obtain⟨u',e2,q2⟩:=r2.get (i:=j) (x:=ws[j]) (by simp[hw])
 obtain⟨v,e3,q3⟩:=i1.get (i:=j) (d:=ds[j]) (by simp[hd])
 obtain⟨w,e4,q4⟩:=i2.get (i:=j) (d:=es[j]) (by simp[he])
 have a1:its.toArray[j]=u:=by have z:=(List.getElem?_eq_some_iff.mp e1).2;simpa using z
 have a2:jts.toArray[j]=u':=by have z:=(List.getElem?_eq_some_iff.mp e2).2;simpa using z
 have a3:vs[j]=v:=by simpa [hv]using e3
 have a4:ws[j]=w:=by simpa [hw]using e4
 have a5:ds.getD j .non=ds[j]:=by simp[List.getD,hd]
 have a6:es.getD j .non=es[j]:=by simp[List.getD,he]
 rw[a1,a2,a5,a6]
 exact ih (C4 p1 (j:=j) (by simp[hd])) (C4 p2 (j:=j) (by simp[he])) (a3 ▸ q3) (a4 ▸ q4) q1 q2
theorem wL {xs ys:List D}(j:Nat) (x y:D) (h1:xs[j]? = some x) (h2:ys[j]? = some y):eqD (xs.getD j .non) (ys.getD j .non)=eqD x y:=by
 simp[List.getD,h1,h2]
abbrev Tri (A:Around) (s:Shared) (u1 u2:Value) (b:Bool):Prop:=SeqAt.RcAt A s u1 u2 b/\SeqAt.EqAt A s u1 u2 b/\SeqAt.RcNeAt A s u1 u2 (!b)
theorem bK {A:Around}{v1 v2:V}{d1 d2:D}{u1 u2:Value}(p1:aj 0 d1=true) (p2:aj 0 d2=true) (i1:Is X.K H v1 d1) (i2:Is X.K H v2 d2) (r1:aY v1 u1) (r2:aY v2 u2):Tri A s u1 u2 (eqD d1 d2):=by
 cases i1 with
 | non =>
  cases r1
  cases i2 with
  | non =>
   cases r2
   rw[sT]
   exact⟨SeqAt.RcAt.none_none,SeqAt.EqAt.same _,SeqAt.RcNeAt.none_none⟩
  | bl b =>
   cases r2
   rw[vz]
   exact⟨SeqAt.RcAt.none_bool _,SeqAt.EqAt.none_bool _,SeqAt.RcNeAt.none_bool _⟩
  | int b =>
   obtain⟨t',rfl⟩:=r2
   rw[sU]
   exact⟨SeqAt.RcAt.none_int _ _,SeqAt.EqAt.none_int _ _,SeqAt.RcNeAt.none_int _ _⟩
  | str b =>
   obtain⟨t',rfl⟩:=r2
   rw[sV]
   exact⟨SeqAt.RcAt.none_str _ _,SeqAt.EqAt.none_str _ _,SeqAt.RcNeAt.none_str _ _⟩
  | ty=>simp[aj]at p2
  | dk=>simp[aj]at p2
  | dt=>simp[aj]at p2
  | tup=>simp[aj]at p2
  | lst=>simp[aj]at p2
 | bl a =>
  cases r1
  cases i2 with
  | non =>
   cases r2
   rw[v0]
   exact⟨SeqAt.RcAt.bool_none _,SeqAt.EqAt.bool_none _,SeqAt.RcNeAt.bool_none _⟩
  | bl b =>
   cases r2
   rw[yf]
   exact⟨SeqAt.RcAt.bool_bool _ _,SeqAt.EqAt.bool_bool _ _,SeqAt.RcNeAt.bool_bool _ _⟩
  | int b =>
   obtain⟨t',rfl⟩:=r2
   rw[vA,←Bool.beq_eq_decide_eq]
   exact⟨SeqAt.RcAt.bool_int _ _ _,SeqAt.EqAt.bool_int _ _ _,SeqAt.RcNeAt.bool_int _ _ _⟩
  | str b =>
   obtain⟨t',rfl⟩:=r2
   rw[vB]
   exact⟨SeqAt.RcAt.bool_str _ _ _,SeqAt.EqAt.bool_str _ _ _,SeqAt.RcNeAt.bool_str _ _ _⟩
  | ty=>simp[aj]at p2
  | dk=>simp[aj]at p2
  | dt=>simp[aj]at p2
  | tup=>simp[aj]at p2
  | lst=>simp[aj]at p2
 | int a =>
  obtain⟨t,rfl⟩:=r1
  cases i2 with
  | non =>
   cases r2
   rw[sW]
   exact⟨SeqAt.RcAt.int_none _ _,SeqAt.EqAt.int_none _ _,SeqAt.RcNeAt.int_none _ _⟩
  | bl b =>
   cases r2
   rw[vC,←Bool.beq_eq_decide_eq]
   exact⟨SeqAt.RcAt.int_bool _ _ _,SeqAt.EqAt.int_bool _ _ _,SeqAt.RcNeAt.int_bool _ _ _⟩
  | int b =>
   obtain⟨t',rfl⟩:=r2
   rw[sX,←Bool.beq_eq_decide_eq]
   exact⟨SeqAt.RcAt.int_int _ _ _ _,SeqAt.EqAt.int_int _ _ _ _,SeqAt.RcNeAt.int_int _ _ _ _⟩
  | str b =>
   obtain⟨t',rfl⟩:=r2
   rw[sY]
   exact⟨SeqAt.RcAt.int_str _ _ _ _,SeqAt.EqAt.int_str _ _ _ _,SeqAt.RcNeAt.int_str _ _ _ _⟩
  | ty=>simp[aj]at p2
  | dk=>simp[aj]at p2
  | dt=>simp[aj]at p2
  | tup=>simp[aj]at p2
  | lst=>simp[aj]at p2
 | str a =>
  obtain⟨t,rfl⟩:=r1
  cases i2 with
  | non =>
   cases r2
   rw[sZ]
   exact⟨SeqAt.RcAt.str_none _ _,SeqAt.EqAt.str_none _ _,SeqAt.RcNeAt.str_none _ _⟩
  | bl b =>
   cases r2
   rw[vD]
   exact⟨SeqAt.RcAt.str_bool _ _ _,SeqAt.EqAt.str_bool _ _ _,SeqAt.RcNeAt.str_bool _ _ _⟩
  | int b =>
   obtain⟨t',rfl⟩:=r2
   rw[tm]
   exact⟨SeqAt.RcAt.str_int _ _ _ _,SeqAt.EqAt.str_int _ _ _ _,SeqAt.RcNeAt.str_int _ _ _ _⟩
  | str b =>
   obtain⟨t',rfl⟩:=r2
   rw[lR,←Bool.beq_eq_decide_eq]
   exact⟨SeqAt.RcAt.str_str _ _ _ _,SeqAt.EqAt.str_str _ _ _ _,SeqAt.RcNeAt.str_str _ _ _ _⟩
  | ty=>simp[aj]at p2
  | dk=>simp[aj]at p2
  | dt=>simp[aj]at p2
  | tup=>simp[aj]at p2
  | lst=>simp[aj]at p2
 | ty=>simp[aj]at p1
 | dk=>simp[aj]at p1
 | dt=>simp[aj]at p1
 | tup=>simp[aj]at p1
 | lst=>simp[aj]at p1
theorem C5 (I:Inv X pins σ H s):∀(n:Nat) {A:Around}{v1 v2:V}{d1 d2:D}{u1 u2:Value},A.units+n<cLine->aj n d1=true->aj n d2=true->Is X.K H v1 d1->Is X.K H v2 d2->aY v1 u1->aY v2 u2->Tri A s u1 u2 (eqD d1 d2):=by
 intro n
 induction n with
 | zero=>exact λ_ p1 p2 i1 i2 r1 r2=>bK p1 p2 i1 i2 r1 r2
 | succ n ih =>
  intro A v1 v2 d1 d2 u1 u2 hu p1 p2 i1 i2 r1 r2
  have hu0:A.units<cLine:=by omega
  have ih':∀ {v1 v2:V}{d1 d2:D}{u1 u2:Value},aj n d1=true->aj n d2=true->Is X.K H v1 d1->Is X.K H v2 d2->aY v1 u1->aY v2 u2->SeqAt.EqAt A.in1 s u1 u2 (eqD d1 d2):=λp1 p2 i1 i2 r1 r2=>(ih (A:=A.in1) (by show A.units+1+n<cLine;omega) p1 p2 i1 i2 r1 r2).2.1
  cases i1 with
  | tup h1 k1 =>
   cases r1
   obtain⟨its,rv1,t1,z1⟩:=I.tuple h1
   have t1':s.heap.IsTuple _ its.toArray:=t1
   have q1:=p1
   simp only[aj]at q1
   cases i2 with
   | tup h2 k2 =>
    cases r2
    obtain⟨jts,rv2,t2,z2⟩:=I.tuple h2
    have t2':s.heap.IsTuple _ jts.toArray:=t2
    have q2:=p2
    simp only[aj]at q2
    rename_i a1 vs ds a2 ws es
    have he:=tw (A:=A.in1) (p:=aj n) ih' k1 k2 rv1 rv2 q1 q2
    have eqv:((List.range (min its.toArray.size jts.toArray.size)).all (λj=>eqD (ds.getD j .non) (es.getD j .non)) && its.toArray.size == jts.toArray.size)=eqD (.tup ds) (.tup es):=by
     rw[eqD,List.size_toArray,List.size_toArray,←rv1.length,←rv2.length,k1.length,k2.length]
     by_cases hl:ds.length=es.length
     ·rw[←hl,Nat.min_self,beq_self_eq_true,Bool.and_true]
      exact jq _ hl λj x y e1 e2=>wL j x y e1 e2
     ·rw[wH hl,beq_eq_false_iff_ne.mpr hl,Bool.and_false]
    have rc:=SeqAt.RcAt.tuples t1' t2' hu0 he
    have rn:=SeqAt.RcNeAt.tuples t1' t2' hu0 he
    rw[eqv]at rc rn
    refine⟨rc, ?_,rn⟩
    by_cases ha:a1=a2
    ·subst ha
     rw[wK I (n+1) (.tup h1 k1) (.tup h2 k2) p1]
     exact SeqAt.EqAt.same _
    ·exact SeqAt.EqAt.of_refs ha rc
   | lst h2 k2 =>
    cases r2
    obtain⟨jts,rv2,t2,z2⟩:=I.list h2
    rw[show eqD (.tup _) (.lst _)=false by simp only[eqD]]
    exact⟨SeqAt.RcAt.tuple_list t1' t2.isList hu0,SeqAt.EqAt.tuple_list t1' t2.isList hu0,SeqAt.RcNeAt.tuple_list t1' t2.isList hu0⟩
   | ty=>simp[aj]at p2
   | dk=>simp[aj]at p2
   | dt=>simp[aj]at p2
   | non=>cases r2;simp only[eqD];exact⟨SeqAt.RcAt.tuple_none t1' hu0,SeqAt.EqAt.tuple_none t1' hu0,SeqAt.RcNeAt.tuple_none t1' hu0⟩
   | bl=>cases r2;simp only[eqD];exact⟨SeqAt.RcAt.tuple_bool _ t1' hu0,SeqAt.EqAt.tuple_bool _ t1' hu0,SeqAt.RcNeAt.tuple_bool _ t1' hu0⟩
   | int=>obtain⟨t,rfl⟩:=r2;simp only[eqD];exact⟨SeqAt.RcAt.tuple_int _ _ t1' hu0,SeqAt.EqAt.tuple_int _ _ t1' hu0,SeqAt.RcNeAt.tuple_int _ _ t1' hu0⟩
   | str=>obtain⟨t,rfl⟩:=r2;simp only[eqD];exact⟨SeqAt.RcAt.tuple_str _ _ t1' hu0,SeqAt.EqAt.tuple_str _ _ t1' hu0,SeqAt.RcNeAt.tuple_str _ _ t1' hu0⟩
  | lst h1 k1 =>
   cases r1
   obtain⟨its,rv1,t1,z1⟩:=I.list h1
   have t1':s.heap.IsList _ its.toArray:=t1.isList
   have q1:=p1
   simp only[aj]at q1
   cases i2 with
   | lst h2 k2 =>
    cases r2
    obtain⟨jts,rv2,t2,z2⟩:=I.list h2
    have t2':s.heap.IsList _ jts.toArray:=t2.isList
    have q2:=p2
    simp only[aj]at q2
    rename_i a1 vs ds a2 ws es
    have he:=tw (A:=A.in1) (p:=aj n) ih' k1 k2 rv1 rv2 q1 q2
    have both:SeqAt.RcAt A s (.ref a1) (.ref a2) (eqD (.lst ds) (.lst es))/\SeqAt.RcNeAt A s (.ref a1) (.ref a2) (!eqD (.lst ds) (.lst es)):=by
     by_cases hl:ds.length=es.length
     ·have hs:its.toArray.size=jts.toArray.size:=by rw[List.size_toArray,List.size_toArray,←rv1.length,←rv2.length,k1.length,k2.length];exact hl
      have eqv:(List.range its.toArray.size).all (λj=>eqD (ds.getD j .non) (es.getD j .non))=eqD (.lst ds) (.lst es):=by
       rw[eqD,List.size_toArray,←rv1.length,k1.length]
       exact jq _ hl λj x y e1 e2=>wL j x y e1 e2
      have rc:=SeqAt.RcAt.lists t1' t2' hs hu0 he
      have rn:=SeqAt.RcNeAt.lists t1' t2' hs hu0 he
      rw[eqv]at rc rn
      exact⟨rc,rn⟩
     ·have hs:(its.toArray.size != jts.toArray.size)=true:=by rw[List.size_toArray,List.size_toArray,←rv1.length,←rv2.length,k1.length,k2.length];exact bne_iff_ne.mpr hl
      rw[eqD,wH hl]
      exact⟨SeqAt.RcAt.lists_lengths t1' t2' hs hu0,SeqAt.RcNeAt.lists_lengths t1' t2' hs hu0⟩
    refine⟨both.1, ?_,both.2⟩
    by_cases ha:a1=a2
    ·subst ha
     rw[wK I (n+1) (.lst h1 k1) (.lst h2 k2) p1]
     exact SeqAt.EqAt.same _
    ·exact SeqAt.EqAt.of_refs ha both.1
   | tup h2 k2 =>
    cases r2
    obtain⟨jts,rv2,t2,z2⟩:=I.tuple h2
    have t2':s.heap.IsTuple _ jts.toArray:=t2
    rw[show eqD (.lst _) (.tup _)=false by simp only[eqD]]
    exact⟨SeqAt.RcAt.list_tuple t1' t2' hu0,SeqAt.EqAt.list_tuple t1' t2' hu0,SeqAt.RcNeAt.list_tuple t1' t2' hu0⟩
   | ty=>simp[aj]at p2
   | dk=>simp[aj]at p2
   | dt=>simp[aj]at p2
   | non=>cases r2;simp only[eqD];exact⟨SeqAt.RcAt.list_none t1' hu0,SeqAt.EqAt.list_none t1' hu0,SeqAt.RcNeAt.list_none t1' hu0⟩
   | bl=>cases r2;simp only[eqD];exact⟨SeqAt.RcAt.list_bool _ t1' hu0,SeqAt.EqAt.list_bool _ t1' hu0,SeqAt.RcNeAt.list_bool _ t1' hu0⟩
   | int=>obtain⟨t,rfl⟩:=r2;simp only[eqD];exact⟨SeqAt.RcAt.list_int _ _ t1' hu0,SeqAt.EqAt.list_int _ _ t1' hu0,SeqAt.RcNeAt.list_int _ _ t1' hu0⟩
   | str=>obtain⟨t,rfl⟩:=r2;simp only[eqD];exact⟨SeqAt.RcAt.list_str _ _ t1' hu0,SeqAt.EqAt.list_str _ _ t1' hu0,SeqAt.RcNeAt.list_str _ _ t1' hu0⟩
  | ty=>simp[aj]at p1
  | dk=>simp[aj]at p1
  | dt=>simp[aj]at p1
  | non =>
   cases i2 with
   | tup h2 k2=>cases r1;cases r2;obtain⟨jts,rv2,t2,z2⟩:=I.tuple h2;have t2':s.heap.IsTuple _ jts.toArray:=t2;simp only[eqD];exact⟨SeqAt.RcAt.none_tuple t2' hu0,SeqAt.EqAt.none_tuple t2' hu0,SeqAt.RcNeAt.none_tuple t2' hu0⟩
   | lst h2 k2=>cases r1;cases r2;obtain⟨jts,rv2,t2,z2⟩:=I.list h2;simp only[eqD];exact⟨SeqAt.RcAt.none_list t2.isList hu0,SeqAt.EqAt.none_list t2.isList hu0,SeqAt.RcNeAt.none_list t2.isList hu0⟩
   | ty=>simp[aj]at p2
   | dk=>simp[aj]at p2
   | dt=>simp[aj]at p2
   | non=>exact bK (X:=X) (H:=H) (by simp[aj]) (by simp[aj]) .non .non r1 r2
   | bl x=>exact bK (X:=X) (H:=H) (by simp[aj]) (by simp[aj]) .non (.bl x) r1 r2
   | int x=>exact bK (X:=X) (H:=H) (by simp[aj]) (by simp[aj]) .non (.int x) r1 r2
   | str x=>exact bK (X:=X) (H:=H) (by simp[aj]) (by simp[aj]) .non (.str x) r1 r2
  | bl y =>
   cases i2 with
   | tup h2 k2=>cases r1;cases r2;obtain⟨jts,rv2,t2,z2⟩:=I.tuple h2;have t2':s.heap.IsTuple _ jts.toArray:=t2;simp only[eqD];exact⟨SeqAt.RcAt.bool_tuple _ t2' hu0,SeqAt.EqAt.bool_tuple _ t2' hu0,SeqAt.RcNeAt.bool_tuple _ t2' hu0⟩
   | lst h2 k2=>cases r1;cases r2;obtain⟨jts,rv2,t2,z2⟩:=I.list h2;simp only[eqD];exact⟨SeqAt.RcAt.bool_list _ t2.isList hu0,SeqAt.EqAt.bool_list _ t2.isList hu0,SeqAt.RcNeAt.bool_list _ t2.isList hu0⟩
   | ty=>simp[aj]at p2
   | dk=>simp[aj]at p2
   | dt=>simp[aj]at p2
   | non=>exact bK (X:=X) (H:=H) (by simp[aj]) (by simp[aj]) (.bl y) .non r1 r2
   | bl x=>exact bK (X:=X) (H:=H) (by simp[aj]) (by simp[aj]) (.bl y) (.bl x) r1 r2
   | int x=>exact bK (X:=X) (H:=H) (by simp[aj]) (by simp[aj]) (.bl y) (.int x) r1 r2
   | str x=>exact bK (X:=X) (H:=H) (by simp[aj]) (by simp[aj]) (.bl y) (.str x) r1 r2
  | int y =>
   cases i2 with
   | tup h2 k2=>obtain⟨t,rfl⟩:=r1;cases r2;obtain⟨jts,rv2,t2,z2⟩:=I.tuple h2;have t2':s.heap.IsTuple _ jts.toArray:=t2;simp only[eqD];exact⟨SeqAt.RcAt.int_tuple _ _ t2' hu0,SeqAt.EqAt.int_tuple _ _ t2' hu0,SeqAt.RcNeAt.int_tuple _ _ t2' hu0⟩
   | lst h2 k2=>obtain⟨t,rfl⟩:=r1;cases r2;obtain⟨jts,rv2,t2,z2⟩:=I.list h2;simp only[eqD];exact⟨SeqAt.RcAt.int_list _ _ t2.isList hu0,SeqAt.EqAt.int_list _ _ t2.isList hu0,SeqAt.RcNeAt.int_list _ _ t2.isList hu0⟩
   | ty=>simp[aj]at p2
   | dk=>simp[aj]at p2
   | dt=>simp[aj]at p2
   | non=>exact bK (X:=X) (H:=H) (by simp[aj]) (by simp[aj]) (.int y) .non r1 r2
   | bl x=>exact bK (X:=X) (H:=H) (by simp[aj]) (by simp[aj]) (.int y) (.bl x) r1 r2
   | int x=>exact bK (X:=X) (H:=H) (by simp[aj]) (by simp[aj]) (.int y) (.int x) r1 r2
   | str x=>exact bK (X:=X) (H:=H) (by simp[aj]) (by simp[aj]) (.int y) (.str x) r1 r2
  | str y =>
   cases i2 with
   | tup h2 k2=>obtain⟨t,rfl⟩:=r1;cases r2;obtain⟨jts,rv2,t2,z2⟩:=I.tuple h2;have t2':s.heap.IsTuple _ jts.toArray:=t2;simp only[eqD];exact⟨SeqAt.RcAt.str_tuple _ _ t2' hu0,SeqAt.EqAt.str_tuple _ _ t2' hu0,SeqAt.RcNeAt.str_tuple _ _ t2' hu0⟩
   | lst h2 k2=>obtain⟨t,rfl⟩:=r1;cases r2;obtain⟨jts,rv2,t2,z2⟩:=I.list h2;simp only[eqD];exact⟨SeqAt.RcAt.str_list _ _ t2.isList hu0,SeqAt.EqAt.str_list _ _ t2.isList hu0,SeqAt.RcNeAt.str_list _ _ t2.isList hu0⟩
   | ty=>simp[aj]at p2
   | dk=>simp[aj]at p2
   | dt=>simp[aj]at p2
   | non=>exact bK (X:=X) (H:=H) (by simp[aj]) (by simp[aj]) (.str y) .non r1 r2
   | bl x=>exact bK (X:=X) (H:=H) (by simp[aj]) (by simp[aj]) (.str y) (.bl x) r1 r2
   | int x=>exact bK (X:=X) (H:=H) (by simp[aj]) (by simp[aj]) (.str y) (.int x) r1 r2
   | str x=>exact bK (X:=X) (H:=H) (by simp[aj]) (by simp[aj]) (.str y) (.str x) r1 r2
@[simp] def dEq:D->D->Option (D×Bool):=λx y=>if aj 40 x=true/\aj 40 y=true then some (.bl (eqD x y),false)else none
@[simp] def dNe:D->D->Option (D×Bool):=λx y=>if aj 40 x=true/\aj 40 y=true then some (.bl (!eqD x y),false)else none
theorem eS (hu:X.A.units+40<cLine):OpR X (compareOp .Eq) (rD X.K dEq):=by
 intro pins s σ H x y v u Q I rx ry q
 obtain⟨B,dx,dy,d,b,sB,ix,iy,e,q⟩:=q
 unfold dEq at e
 split at e
 ·rename_i hp
  cases e
  exact(C5 I 40 hu hp.1 hp.2 (ix.mono sB) (iy.mono sB) rx ry).1 _ _ _ _ ⟨.bl _,H,I,rfl,q.one sB (.bl _)⟩
 ·cases e
theorem zv (hu:X.A.units+40<cLine):OpR X (compareOp .NotEq) (rD X.K dNe):=by
 intro pins s σ H x y v u Q I rx ry q
 obtain⟨B,dx,dy,d,b,sB,ix,iy,e,q⟩:=q
 unfold dNe at e
 split at e
 ·rename_i hp
  cases e
  exact(C5 I 40 hu hp.1 hp.2 (ix.mono sB) (iy.mono sB) rx ry).2.2 _ _ _ _ ⟨.bl _,H,I,rfl,q.one sB (.bl _)⟩
 ·cases e
end
section
variable {X:Cx}{a b e:Expr}{pos:Pos}
theorem wM {K:PySem.W.Frag}{H:Hp}{vs:List V}{ds:List D}{i:Int}{d:D}(h:IsL K H vs ds) (e:atI ds i=some d):∃v,atI vs i=some v/\Is K H v d:=by
 unfold atI at e ⊢
 rw[h.length]
 cases q:ixN ds.length i with
 | none=>rw[q]at e;cases e
 | some j=>rw[q]at e;exact h.get e
@[simp] def ixD:D->D->Option (D×Bool)
 | .lst ds,.int i=>(atI ds i).map λd=>(d,false)
 | .tup ds,.int i=>(atI ds i).map λd=>(d,false)
 | .str z,.int i=>if z.length<=sizeLine then (atI z.cps.toList i).map λc=>(.str ⟨#[c]⟩,false)else none
 | _,_=>none
theorem FY:IxR X (rD X.K ixD):=by
 intro value slice pins s σ H x y v u Q I rx ry q hs
 obtain⟨B,dx,dy,d,b,sB,ix,iy,e,q⟩:=q
 cases ix<;>cases iy<;>try (simp[ixD]at e;done)
 ·simp only[ixD]at e
  split at e
  ·rename_i hz
   obtain⟨c,e1,e2⟩:=oY e
   cases e2
   exact vp value slice pins s σ H _ _ v u Q I rx ry ⟨_,_,c,rfl,rfl,hz,e1,q.one sB (.str _)⟩ hs
  ·cases e
 ·rename_i h hl i
  simp only[ixD]at e
  obtain⟨c,e1,e2⟩:=oY e
  cases e2
  obtain⟨w,h1,h2⟩:=wM hl e1
  exact yW value slice pins s σ H _ _ v u Q I rx ry ⟨_,_,_,w,rfl,rfl,bj sB h,h1,q.one sB h2⟩ hs
 ·rename_i h hl i
  simp only[ixD]at e
  obtain⟨c,e1,e2⟩:=oY e
  cases e2
  obtain⟨w,h1,h2⟩:=wM hl e1
  exact AY value slice pins s σ H _ _ v u Q I rx ry ⟨_,_,_,w,rfl,rfl,sB.seq h,h1,q.one sB h2⟩ hs
theorem aE {fa fb:FE}(ha:JE X a fa) (hb:JE X b fb) (hs:qM b:=by intro _ _;rfl):JE X (.Subscript a b pos) (f2 ixD fa fb):=PE.to (Ce FY ha hb hs) λ_ _ _ h=>Bb h
abbrev FO:=Env->Option (Option Int)
def tDO (K:PySem.W.Frag) (f:FO):TO:=λσ H Q=>∃(B:Hp) (ρ:Env) (o:Option Int),aS B H/\RepE K B σ ρ/\f ρ=some o/\∀H',aS H H'->Q o H'
abbrev JO (X:Cx) (e:Option Expr) (f:FO):Prop:=PO X e (tDO X.K f)
@[simp] def eu:FO:=λ_=>some none
@[simp] def dF (f:FE):FO:=λρ=>match f ρ with|some (.int i,_)=>some (some i)|_=>none
theorem dU:JO X none eu:=λpins s σ H Q I h=>AU pins s σ H Q I (by
 obtain⟨B,ρ,o,sB,r,e,q⟩:=h
 cases e
 exact q H (.refl H))
theorem dW {f:FE}(h:JE X e f):JO X (some e) (dF f):=λpins s σ H Q I q=>AV h pins s σ H Q I (by
 obtain⟨B,ρ,o,sB,r,e,q⟩:=q
 unfold dF at e
 split at e
 ·rename_i i b' ef
  cases e
  refine⟨B,ρ,_,_,sB,r,ef,λv H1 N1 x1 i1 _=>?_⟩
  cases i1
  exact⟨i,rfl,q H1 x1.hh⟩
 ·cases e)
def ib (ds:List D) (lo hi:Option Int):List D:=(ds.drop (HT.sIx ds.length 0 lo)).take (HT.sIx ds.length ds.length hi - HT.sIx ds.length 0 lo)
theorem re {K:PySem.W.Frag}{H:Hp}{vs:List V}{ds:List D}{lo hi:Option Int}(h:IsL K H vs ds):IsL K H (oW vs lo hi) (ib ds lo hi):=by
 unfold oW ib
 rw[h.length]
 exact(h.drop _).take _
@[simp] def G0 (fa:FE) (fl fh:FO):FE:=λρ=>(fa ρ).bind λx=>(fl ρ).bind λl=>(fh ρ).bind λh=>match x.1 with
 | .lst ds=>some (.lst (ib ds l h),true)
 | .tup ds=>if HT.sIx ds.length 0 l=0/\HT.sIx ds.length ds.length h=ds.length then none else some (.tup (ib ds l h),false)
 | _=>none
theorem cA.to {f:Value}{r r':List V->Hp->VK->Prop}(h:cA X f r) (k:∀xs H Q,r' xs H Q->r xs H Q):cA X f r':=λpins s σ H xs us Q I rs q=>h pins s σ H xs us Q I rs (k xs H Q q)
variable {es:List Expr}{x:Str}{p:Pos}{id T:String}
theorem bQ {f:List D->Option (D×Bool)}{fa:FA}(hc:cA X (.builtin id) (rDA X.K f)) (hm:X.mg x=none) (hv:bootBuiltins x=some (.builtin id)) (ha:JA X (e::es) fa) (hg:Gl X x:=by rfl) (hn:x ≠ "__name__":=by decide) (hdb:(x == ("__debug__" : Str))=false:=by decide)
  (he:starEach (e::es) X.env=(false,eval e X.env)::starEach es X.env:=by rfl) (hpl:(backTo pos (starEach es X.env)).any (·.1)=false:=by rfl):JE X (.Call (.Name x p) (e::es) [] pos) (fA f fa):=PE.to (sK hc hg hm hv ha hn hdb he hpl) λ_ _ _ h=>Bc h
theorem kY {f:List D->Option (D×Bool)}{fa:FA}(hc:cA X (.type T) (rDA X.K f)) (hm:X.mg x=none) (hv:bootBuiltins x=some (.type T)) (ha:JA X (e::es) fa) (hg:Gl X x:=by rfl) (hn:x ≠ "__name__":=by decide) (hdb:(x == ("__debug__" : Str))=false:=by decide)
  (he:starEach (e::es) X.env=(false,eval e X.env)::starEach es X.env:=by rfl) (hpl:(backTo pos (starEach es X.env)).any (·.1)=false:=by rfl):JE X (.Call (.Name x p) (e::es) [] pos) (fA f fa):=PE.to (p9 hc hg hm hv ha hn hdb he hpl) λ_ _ _ h=>Bc h
@[simp] def cH:List D->Option (D×Bool)
 | [.lst ds]=>some (.int ds.length,false)
 | [.tup ds]=>some (.int ds.length,false)
 | [.str z]=>if z.length<=sizeLine then some (.int z.length,false)else none
 | _=>none
theorem eN:cA X (.builtin "len") (rDA X.K cH):=by
 refine cA.to (cA.or qP qQ) λxs H Q q=>?_
 obtain⟨B,ds,d,b,sB,i,e,q⟩:=q
 cases i with
 | nil=>simp[cH]at e
 | cons i1 i2 =>
  cases i2 with
  | cons _ _=>cases i1<;>simp[cH]at e
  | nil =>
   cases i1<;>try (simp[cH]at e;done)
   ·simp only[cH]at e
    split at e
    ·rename_i hz
     cases e
     exact .inr ⟨_,rfl,hz,q.one sB (.int _)⟩
    ·cases e
   ·rename_i h hl
    simp only[cH]at e
    cases e
    refine .inl ⟨_,_,rfl,.inr (bj sB h), ?_⟩
    rw[hl.length];exact q.one sB (.int _)
   ·rename_i h hl
    simp only[cH]at e
    cases e
    refine .inl ⟨_,_,rfl,.inl (sB.seq h), ?_⟩
    rw[hl.length];exact q.one sB (.int _)
end
theorem cr {A:Around}{k:Nat}(hr:Room k A):A.units+40<cLine:=by have:=hr.un;omega
section
variable {X:Cx}{a b e:Expr}{pos:Pos}{x:Str}{p:Pos}
theorem zx {d:D}(h:∃u v,X.mg x=some u/\aY v u/\∀B,Is X.K B v d) (hg:Gl X x:=by rfl) (hd:(x == ("__debug__" : Str))=false:=by decide):JE X (.Name x pos) (fC d):=by
 obtain⟨u,v,hm,r,i⟩:=h
 exact Bj hg hm r i hd
@[simp] def wN:D->D->Option (D×Bool)
 | .int i,.int j=>some (.int (i+j),false)
 | .str i,.str j=>if i.length+j.length<=sizeLine then some (.str (i++j),false)else none
 | _,_=>none
theorem Bn:OpR X (binaryOp .Add) (rD X.K wN):=by
 refine gc (r:=rD X.K (orD D4 zu)) (kW Fa D5) λx y H Q q=>?_
 obtain⟨B,dx,dy,d,b,sB,ix,iy,e,q⟩:=q
 refine⟨B,dx,dy,d,b,sB,ix,iy, ?_,q⟩
 cases dx<;>cases dy<;>simp[wN]at e<;>simp[orD,D4,zu,iop,sop,e]
@[simp] def eU:D->D->Option (D×Bool):=EZ
theorem cI:OpR X (binaryOp .Mult) (rD X.K eU):=Fb
@[simp] def dLt:D->D->Option (D×Bool):=iLt
theorem tz:OpR X (compareOp .Lt) (rD X.K dLt):=FW
@[simp] def dLe:D->D->Option (D×Bool)
 | .int i,.int j=>some (.bl (decide (i<=j)),false)
 | .str i,.str j=>some (.bl (!decide (j.cps.toList<i.cps.toList)),false)
 | _,_=>none
theorem t4:OpR X (compareOp .LtE) (rD X.K dLe):=by
 refine gc (r:=rD X.K (orD iLe sLe)) (kW FX Fc) λx y H Q q=>?_
 obtain⟨B,dx,dy,d,b,sB,ix,iy,e,q⟩:=q
 refine⟨B,dx,dy,d,b,sB,ix,iy, ?_,q⟩
 cases dx<;>cases dy<;>simp[dLe]at e<;>simp[orD,iLe,sLe,iop,sop,e]
@[simp] def fw:D->Option (D×Bool)
 | .int i=>some (.int (-i),false)
 | _=>none
theorem nq:UnR X (unaryOp .USub) (rDU X.K fw):=by
 intro pins s σ H x v Q I rx q
 obtain⟨B,dx,d,b,sB,ix,e,q⟩:=q
 cases ix<;>try (simp[fw]at e;done)
 simp only[fw]at e
 cases e
 exact Do pins s σ H _ v Q I rx ⟨_,rfl,q.one sB (.int _)⟩
@[simp] def yg:D->D->Option Bool
 | .non,.non=>some true
 | _,.non=>some false
 | .bl a,.bl b=>some (a == b)
 | _,.bl _=>some false
 | _,_=>none
@[simp] def dIs:D->D->Option (D×Bool):=λx y=>(yg x y).map λb=>(.bl b,false)
@[simp] def gd:D->D->Option (D×Bool):=λx y=>(yg x y).map λb=>(.bl (!b),false)
theorem wO {K:PySem.W.Frag}{B:Hp}{x y:V}{v u:Value}{dx dy:D}{k:Bool}(ix:Is K B x dx) (iy:Is K B y dy) (rx:aY x v) (ry:aY y u) (e:yg dx dy=some k):plainIs v u=true/\(v == u)=k:=by
 cases iy<;>(first|(cases dx<;>simp[yg]at e;done)|skip)
 all_goals (cases ix)
 all_goals (first|(obtain⟨t,rfl⟩:=rx)|cases rx)
 all_goals (cases ry)
 all_goals (simp only[yg,Option.some.injEq]at e;subst e)
 all_goals (first|exact⟨rfl,rfl⟩|skip)
 all_goals (rename_i c d;cases c<;>cases d<;>exact⟨rfl,rfl⟩)
theorem DF:OpR X (compareOp .Is) (rD X.K dIs):=by
 intro pins s σ H x y v u Q I rx ry q
 obtain⟨B,dx,dy,d,b,sB,ix,iy,e,q⟩:=q
 obtain⟨k,ek,e⟩:=oY e
 cases e
 obtain⟨h1,h2⟩:=wO ix iy rx ry ek
 refine wpAny_is_plain h1 ⟨.bl k,H,I,by rw[h2];rfl,q.one sB (.bl _)⟩
theorem jL:OpR X (compareOp .IsNot) (rD X.K gd):=by
 intro pins s σ H x y v u Q I rx ry q
 obtain⟨B,dx,dy,d,b,sB,ix,iy,e,q⟩:=q
 obtain⟨k,ek,e⟩:=oY e
 cases e
 obtain⟨h1,h2⟩:=wO ix iy rx ry ek
 refine wpAny_isNot_plain h1 ⟨.bl (!k),H,I,by rw[h2];rfl,q.one sB (.bl _)⟩
@[simp] def eO:D->Bool
 | .non=>true|.bl _=>true|.int _=>true|.str _=>true
 | _=>false
def inD (x:D) (ds:List D):Bool:=ds.any λy=>eqD y x
@[simp] def fP:D->Option (List D)
 | .lst ds=>some ds
 | .tup ds=>some ds
 | _=>none
@[simp] def dIn:D->D->Option (D×Bool):=λx y=>(fP y).bind λds=>if eO x=true/\ds.all eO=true then some (.bl (inD x ds),false)else none
@[simp] def fz:D->D->Option (D×Bool):=λx y=>(fP y).bind λds=>if eO x=true/\ds.all eO=true then some (.bl (!inD x ds),false)else none
theorem nu {K:PySem.W.Frag}{B:Hp}{v:V}{d:D}(i:Is K B v d) (h:eO d=true):je v=true:=by
 cases i<;>first|rfl|(simp[eO]at h)
theorem FZ {K:PySem.W.Frag}{B:Hp}{v w:V}{d e:D}(i:Is K B v d) (j:Is K B w e) (h:eO d=true) (h':eO e=true):eqV v w=eqD d e:=by
 cases i<;>(first|(simp[eO]at h;done)|skip)
 all_goals (cases j<;>(first|(simp[eO]at h';done)|skip))
 all_goals (simp only[eqV,eqD,Bool.beq_eq_decide_eq])
theorem t6 {K:PySem.W.Frag}{B:Hp}:∀ {vs:List V}{ds:List D},IsL K B vs ds->ds.all eO=true->vs.all je=true
 | _,_,.nil,_=>rfl
 | _,_,.cons i t,h=>by
  rw[List.all_cons,Bool.and_eq_true]at h
  rw[List.all_cons,nu i h.1,t6 t h.2];rfl
theorem zy {K:PySem.W.Frag}{B:Hp}{v:V}{d:D}(j:Is K B v d) (hd:eO d=true):∀ {vs:List V}{ds:List D},IsL K B vs ds->ds.all eO=true->inV v vs=inD d ds
 | _,_,.nil,_=>rfl
 | _,_,.cons i t,h=>by
  rw[List.all_cons,Bool.and_eq_true]at h
  have e:=zy j hd t h.2
  unfold inV inD at *
  rw[List.any_cons,List.any_cons,e,FZ i j h.1 hd]
theorem Ff:OpR X (compareOp .In) (rD X.K dIn):=by
 refine gc xV λx y H Q q=>?_
 obtain⟨B,dx,dy,d,b,sB,ix,iy,e,q⟩:=q
 obtain⟨ds,es,e⟩:=oX e
 split at e
 ·rename_i hf
  cases e
  cases iy<;>simp only[fP]at es<;>try (cases es;done)
  ·rename_i h hl
   cases es
   exact⟨_,_,rfl,.inr (bj sB h),nu ix hf.1,t6 hl hf.2,by rw[if_neg (by decide),zy ix hf.1 hl hf.2];exact q.one sB (.bl _)⟩
  ·rename_i h hl
   cases es
   exact⟨_,_,rfl,.inl (sB.seq h),nu ix hf.1,t6 hl hf.2,by rw[if_neg (by decide),zy ix hf.1 hl hf.2];exact q.one sB (.bl _)⟩
 ·cases e
theorem nv:OpR X (compareOp .NotIn) (rD X.K fz):=by
 refine gc qO λx y H Q q=>?_
 obtain⟨B,dx,dy,d,b,sB,ix,iy,e,q⟩:=q
 obtain⟨ds,es,e⟩:=oX e
 split at e
 ·rename_i hf
  cases e
  cases iy<;>simp only[fP]at es<;>try (cases es;done)
  ·rename_i h hl
   cases es
   exact⟨_,_,rfl,.inr (bj sB h),nu ix hf.1,t6 hl hf.2,by rw[if_pos rfl,zy ix hf.1 hl hf.2];exact q.one sB (.bl _)⟩
  ·rename_i h hl
   cases es
   exact⟨_,_,rfl,.inl (sB.seq h),nu ix hf.1,t6 hl hf.2,by rw[if_pos rfl,zy ix hf.1 hl hf.2];exact q.one sB (.bl _)⟩
 ·cases e
theorem eP:bootBuiltins "len" = some (.builtin "len"):=PySem.boot_len
theorem Fg:bootBuiltins "int" = some (.type "int"):=by decide +kernel
theorem Bo:bootBuiltins "tuple" = some (.type "tuple"):=by decide +kernel
@[simp] def G1:List D->Option (D×Bool)
 | [.int i,.int j]=>some (.int (if j > i then j else i),false)
 | _=>none
@[simp] def G2:List D->Option (D×Bool)
 | [.int i,.int j]=>some (.int (if j<i then j else i),false)
 | _=>none
@[simp] def DG:D->String
 | .non=>"NoneType" | .bl _=>"bool" | .int _=>"int" | .str _=>"str" | .ty _=>"type" | .tup _=>"tuple" | .lst _=>"list" | .dk _ _=>"dict" | .dt _ _=>"dict"
@[simp] def Fh:D->Bool
 | .ty _=>true
 | _=>false
@[simp] def Bp (t n:String):Option (D×Bool) :=
 if n = "int" then some (.bl (t == "int" || t == "bool"),false)else if n = "bool" then some (.bl (t == "bool"),false)else if n = "str" then some (.bl (t == "str"),false)
 else if n = "list" then some (.bl (t == "list"),false)else if n = "tuple" then some (.bl (t == "tuple"),false)else none
@[simp] def C6:List D->Option (D×Bool)
 | [d,.ty n]=>if Fh d=true then none else Bp (DG d) n
 | _=>none
@[simp] def Gs:D->Option (D×Bool)
 | .int i=>some (.int (Builtin.Int.intBits i),false)
 | _=>none
@[simp] def z4 (f:FE):FA:=λρ=>(f ρ).bind λx=>fP x.1
theorem wP {tg:Expr}{f:FE}(h:JE X e f):JI X tg e (z4 f):=by
 intro pins s σ H R I q
 obtain⟨B,ρ,ds,sB,r,e',q⟩:=q
 obtain⟨x,ex,es⟩:=oX e'
 obtain⟨xd,xb⟩:=x
 cases xd<;>simp only[fP]at es<;>try (cases es;done)
 ·cases es
  refine Dg h pins s σ H R I ⟨B,ρ,_,_,sB,r,ex,λv H1 N1 x1 i1 _=>?_⟩
  cases i1 with
  | @tup a vs _ ht hl =>
   refine⟨a,rfl,⟨vs,bj x1.nh ht⟩,q _ H1 N1 x1 λi H2 s2=>⟨λd ed=>?_,λhlen=>⟨vs,bj s2 ht,by rw[hl.length];exact hlen⟩⟩⟩
   obtain⟨v,ev,iv⟩:=hl.get ed
   refine⟨⟨vs,v,bj s2 ht,ev⟩,λy H3 hy=>?_⟩
   obtain⟨rfl,hy⟩:=hy
   have:=hy vs (bj s2 ht)
   rw[ev]at this;cases this
   exact⟨N1,.refl s2,iv⟩
 ·cases es
  refine AK h pins s σ H R I ⟨B,ρ,_,_,sB,r,ex,λv H1 N1 x1 i1 _=>?_⟩
  cases i1 with
  | @lst a vs _ ht hl =>
   refine⟨a,rfl,⟨vs,x1.nh.seq ht⟩,q _ H1 N1 x1 λi H2 s2=>⟨λd ed=>?_,λhlen=>⟨vs,s2.seq ht,by rw[hl.length];exact hlen⟩⟩⟩
   obtain⟨v,ev,iv⟩:=hl.get ed
   refine⟨⟨vs,v,s2.seq ht,ev⟩,λy H3 hy=>?_⟩
   obtain⟨rfl,hy⟩:=hy
   have:=hy vs (s2.seq ht)
   rw[ev]at this;cases this
   exact⟨N1,.refl s2,iv⟩
def eJ (lo:Int) (n:Nat):List D:=(List.range n).map λ(k:Nat)=>.int (lo+(k:Int))
theorem z5 {K:PySem.W.Frag}{B:Hp}(lo:Int) (n:Nat):qT K (Itr lo n) B (eJ lo n):=by
 intro i H s
 unfold eJ
 refine⟨λd ed=>?_,λhl=>by rw[List.length_map,List.length_range]at hl;exact hl⟩
 rw[List.getElem?_map]at ed
 obtain⟨k,ek,ed⟩:=oY ed
 have hk:=List.getElem?_eq_some_iff.mp ek
 obtain⟨hlt,hk⟩:=hk
 rw[List.length_range]at hlt
 rw[List.getElem_range]at hk
 subst hk
 subst ed
 refine⟨hlt,λx H' hy=>?_⟩
 obtain⟨rfl,rfl⟩:=hy
 exact⟨B,.refl s,.int _⟩
@[simp] def cJ (f:FE):FA:=λρ=>match f ρ with
 | some (.int j,_)=>if -1000<=j/\j<=1000 then some (eJ 0 j.toNat)else none
 | _=>none
theorem gs {tg:Expr}{f:FE}(hm:X.mg "range" = none) (h:JE X a f) (hg:Gl X "range":=by rfl) (hs:starEach [a] X.env=[(false,eval a X.env)]:=by rfl):PI X tg (.Call (.Name "range" p) [a] [] pos) (tDR X.K (cJ f)):=by
 refine PI.to (xP hg hm (ac h ah hs) hs) λσ H R q=>?_
 obtain⟨B,ρ,ds,sB,r,e',q⟩:=q
 unfold cJ at e'
 split at e'
 ·rename_i j b' ef
  split at e'
  ·rename_i hj
   cases e'
   refine⟨B,ρ,[.int j],sB,r,by simp[ae,ak,ef],λvs H1 N1 x1 i1=>?_⟩
   cases i1 with
   | cons i1 i2 =>
    cases i1;cases i2
    exact⟨j,rfl,by omega,by omega,q _ H1 N1 x1 λ_=>z5 0 j.toNat⟩
  ·cases e'
 ·cases e'
theorem t7 {tg:Expr}{f:FE}(hm:X.mg "range" = none) (h:JE X a f) (hg:Gl X "range":=by rfl) (hs:starEach [a] X.env=[(false,eval a X.env)]:=by rfl):JI X tg (.Call (.Name "range" p) [a] [] pos) (cJ f) :=
 PI.to (gs hm h hg hs) λσ H R ⟨B,ρ,ds,sB,r,e',q⟩=>⟨B,ρ,ds,sB,r,e',λJ H' N x h=>q J H' N x (h _)⟩
end
def Def (K:PySem.W.Frag) (x:Str) (st:Stmt):Prop:=∃(f:Addr) (fd:FuncData),Fun K x x st f fd/\PySem.W.nsIn K mainGlobals x=some (some (.ref f))
theorem def_mk {K:PySem.W.Frag}{x:Str}{st:Stmt}{f:Addr}{oc:Value}{od an:Option Addr}{osl:Array (Option Value)}{kV doc pm cdv ct:Value}(a:PySem.W.nsIn K mainGlobals x=some (some (.ref f)))
  (l:K.lookup f=some ⟨oc,od,.func (PySem.W.fnOf x x (fO st) (cE st) (aw st) .none kV doc pm an cdv ct),osl⟩) (c:PySem.W.codeIn K cdv x=true) (k:PySem.W.keepIn K (.ref f)=true):Def K x st:=⟨f,_,Dw l c k,a⟩
section
variable {P:Program}{w:World}{K:PySem.W.Frag}{mg:Str->Option Value}{base:Heap}
theorem Def.fn {x:Str}{st:Stmt}{N ps:List Str}{k:Nat}{g:FS}{h:Heap}(F:Def K x st) (X:K.In h) (G:h.Ns mainGlobals mg) (S:FnScope N ps (aw st))
  (hbd:∀(kV doc pm:Value) (an:Option Addr) (cdv ct:Value) (us:List Value),us.length=ps.length->bindArgs (PySem.W.fnOf x x (fO st) (cE st) (aw st) .none kV doc pm an cdv ct) ⟨us,[]⟩=pure (ps.zip us))
  (hb:∀(f:Addr) (cdv:Value) (A:Around) (outer:List PySem.Env) (s:Shared) (H:Hp) (E:XK),Room k (A.deeper (envOfC x (aw st) s.heap.objs.size f cdv))->JSs (mS CX0 P w K mg base N x (aw st) f cdv A outer s H E).nox (cE st) g) :
  Fn P w K mg base (k+1) x (bp g ps.length (N.length - ps.length)):=by
 obtain⟨f,fd,F1,a⟩:=F
 exact⟨f,fd,ps,Fd F1 S (hb f),PySem.W.mg_of X G a,F1.kp,F1.binds hbd⟩
end
def Fi (H:Hp):Prop:=∀b,H b=none∨(∃o xs,H b=some (.frz o (.lst xs))) ∨ ∃q,H b=some (.tbl q)
def nw (tabs:List (Addr×Str)) (G:Hp):Hp:=λb=>match tabs.lookup b with|some q=>some (.tbl q)|none=>G b
theorem eA {tabs:List (Addr×Str)}{G:Hp}{b:Addr}{q:Str}(e:tabs.lookup b=some q):nw tabs G b=some (.tbl q):=by unfold nw;rw[e]
theorem gt {tabs:List (Addr×Str)}{G:Hp}{b:Addr}(e:tabs.lookup b=none):nw tabs G b=G b:=by unfold nw;rw[e]
theorem yh {P:Program}{w:World}{K:PySem.W.Frag}{mg mb:Str->Option Value}{k:Nat}{fa a:Addr}{fd:FuncData}{x:Str}{sp:Sp}{s₁:Shared}{vs:List Value}{ns:List Int}(tabs:List (Addr×Str))
  (ht:∀b q,tabs.lookup b=some q->s₁.heap.get? b=some (PySem.W.tabObj #[])/\isCodeTable s₁.heap b) (hnt:PySem.W.noTabs K=true)
  (KX:K.In s₁.heap) (hns:s₁.heap.Ns mainGlobals mg) (hb:s₁.heap.Ns builtinsNs mb) (hbb:∀x:Str,x ≠ "__name__"->mb x=bootBuiltins x) (hlim:s₁.heap.NoLimit)
  (hbm:∃bm ob,mg "__builtins__" = some (.ref bm)/\bm≠builtinsNs/\s₁.heap.get? bm=some ob/\ob.cls=.type "module"/\ob.dict=some builtinsNs/\ob.data=.plain) (hg:s₁.gens=#[])
  (ha:s₁.heap.get? a=some { cls:=.type "list",data:=.seq vs.toArray }) (hi:IntsAre vs ns) (hl:ns.length<=sizeLine) (hr:Room k callerA)
  (F:∀base:Heap,K.In base->base.Ns mainGlobals mg->FnOk P w K mg base CX0 k fa fd [x] sp) (hbind:∀(s:Shared) (u:Value),BindsTo s fd ⟨[u],[]⟩ [(x,u)])
  (hsp:∀H:Hp,(∀b q,tabs.lookup b=some q->H b=some (.tbl q))->SqL K H a (ns.map V.int)->sp [.ref a] H (λv _=>v=.bl true) λ_ _ _=>False) :
  codeAny (model P w) callerA (.call (.ref fa) ⟨[.ref a],[]⟩) (λr s'=>r=.ok (.ret (.bool true))/\OldK s₁.heap s'.heap/\s'.os=s₁.os/\AllBare s'.gens) s₁:=by
 have rv:=L2.iM hi
 have lenV:=hi.length
 have core:∀H:Hp,Fi H->(∀b q,tabs.lookup b=some q->H b=some (.tbl q))->SqL K H a (ns.map V.int)->HOk P w H s₁.heap->(∀b q,H b=some (.tbl q)->s₁.heap.get? b=some (PySem.W.tabObj #[])/\isCodeTable s₁.heap b) ->
   (∀b o u,H b=some (.frz o u)->b=a)->(∀b o u,H b=some (.frz o u)->K.lookup b=none) ->
   codeAny (model P w) callerA (.call (.ref fa) ⟨[.ref a],[]⟩) (λr s'=>r=.ok (.ret (.bool true))/\OldK s₁.heap s'.heap/\s'.os=s₁.os/\AllBare s'.gens) s₁:=by
  intro H hO hT hS hok hA hB hK
  have noA:∀ {b:Addr}{o:Obj},s₁.heap.get? b=some o->(o.cls≠.none)->(o.cls≠.type "list")->H b=none:=λ{b o} e d d'=>by
   rcases hO b with q|⟨ob,xs,q⟩|⟨u,q⟩
   ·exact q
   ·have e':b=a:=hB b _ _ q
    subst e'
    rw[ha]at e;cases e
    exact absurd rfl d'
   ·rw[(hA b u q).1]at e;cases e
    exact absurd rfl d
  have noD:∀ {b:Addr}{o:Obj}{es:Array DictEntry}{ep:Nat},s₁.heap.get? b=some o->o.data=.dict es ep->H b=none:=λ{b o es ep} e d=>by
   rcases hO b with q|⟨ob,xs,q⟩|⟨u,q⟩
   ·exact q
   ·have e':b=a:=hB b _ _ q
    subst e'
    rw[ha]at e;cases e
    cases d
   ·rw[(hA b u q).1]at e;cases e
    cases d
  have nsK:∀ {b:Addr}{m:Str->Option Value},s₁.heap.Ns b m->(sD s₁.heap H).Ns b m:=λ{b m} ⟨o,es,ep,e,d,r⟩=>⟨o,es,ep,mP e (noD e d),d,r⟩
  have hKb:K.In (sD s₁.heap H):=λb o e=>mP (KX b o e) (by
   rcases hO b with q|⟨ob,xs,q⟩|⟨u,q⟩
   ·exact q
   ·rw[hK b _ _ q]at e;cases e
   ·have z:=(hA b u q).1
    rw[KX b o e]at z
    cases z
    have:=List.all_eq_true.mp hnt _ (PySem.W.mem_of_lookupK e)
    simp at this)
  have hM:Mod K mg (sD s₁.heap H):=⟨hKb,nsK hns,⟨mb,nsK hb,hbb⟩,let ⟨mc,h1,h2⟩:=hlim;⟨mc,nsK h1,h2⟩,by
   obtain⟨bm,ob,b1,b2,b3,b4,b5⟩:=hbm
   exact⟨bm,ob,b1,b2,mP b3 (noA b3 (by rw[b4];exact λz=>nomatch z) (by rw[b4];intro z;injection z with z;exact absurd z (by decide))),b4,b5⟩⟩
  have e0:Env0 P w K mg (sD s₁.heap H) callerA [] s₁ H:=⟨rfl,hM,λb o e=>AE e,Nat.le_of_eq (xM _ _),trivial,λb hb=>absurd (show b∈([]:List Addr)from hb) (by simp),hok,.of_eq hg⟩
  refine codeAny_mono ((F _ hKb (nsK hns)).run callerA [] s₁ H ⟨[.ref a],[]⟩ [.ref a] [.ref a] _ _ hr e0 (hbind s₁ (.ref a)) (.cons rfl .nil) (hsp H hT hS)) λr s' h=>?_
  cases r with
  | error e=>exact False.elim h
  | ok fl =>
   cases fl with
   | next=>exact False.elim h
   | brk=>exact False.elim h
   | cont=>exact False.elim h
   | ret u =>
    obtain⟨v,H',os,bare,un,hok',r',q⟩:=h
    have q':v=.bl true:=q
    subst q'
    obtain rfl:u=Value.bool true:=r'
    have kp:∀b o,H b=none->s₁.heap.get? b=some o->s'.heap.get? b=some o:=λb o n e=>un.keep b o e n (by intro z;exact absurd (show b∈([]:List Addr)from z) (by simp)) (by simp)
    refine⟨rfl,⟨λb o e=>?_,λb o e=>un.there b o e (by simp)⟩,os,bare⟩
    rcases hO b with z|⟨ob,xs,z⟩|⟨u,z⟩
    ·exact .inl (kp b o z e)
    ·have z2:=un.frzs b ob _ z
     obtain⟨e1,_⟩:=hok b _ z
     obtain⟨e2,_⟩:=hok' b _ z2
     rw[e]at e1;cases e1
     exact .inl e2
    ·obtain⟨e1,e2⟩:=hA b u z
     rw[e]at e1;cases e1
     obtain⟨ps,e3,_⟩:=hok' b _ (un.tbls b u z)
     exact .inr (.inl ⟨e2,rfl,#[],ps,rfl,by simpa using e3⟩)
 have tabNot:∀q,tabs.lookup a≠some q:=λq z=>by
  have:=(ht a q z).1
  rw[ha]at this;cases this
 have ta:tabs.lookup a=none:=by
  cases z:tabs.lookup a with
  | none=>rfl
  | some q=>exact absurd z (tabNot q)
 have tabOk:∀(G:Hp) b q,tabs.lookup b=some q->ca P w (nw tabs G) s₁.heap b (.tbl q):=λG b q z=>⟨#[],(ht b q z).1,trivial,λpos cv c=>by cases c⟩
 cases hk:K.lookup a with
 | some o =>
  have e:=KX a o hk
  rw[ha]at e
  cases e
  refine core (nw tabs λ_=>none) (λb=>?_) (λb q z=>eA z) (.inr ⟨_,vs.toArray,_,hk,rfl,rfl,rfl,by rw[List.size_toArray,lenV];exact hl,by simpa using rv⟩) (λb u z=>?_) (λb q z=>?_) (λb o u z=>?_) λb o u z=>?_
  all_goals cases zt:tabs.lookup b with
   | none=>first|exact .inl (gt zt)|(rw[gt zt]at z;cases z)
   | some q'=>first|exact .inr (.inr ⟨q',eA zt⟩)|(rw[eA zt]at z;cases z;done)|(rw[eA zt]at z;cases z;first|exact tabOk _ b _ zt|exact ht b _ zt)
 | none =>
  refine core (nw tabs λb=>if b=a then some (.frz { cls:=.type "list",data:=.seq vs.toArray } (.lst (ns.map V.int)))else none) (λb=>?_) (λb q z=>eA z) (.inl (.inr ⟨{ cls:=.type "list",data:=.seq vs.toArray },by rw[gt ta,if_pos rfl]⟩)) (λb u z=>?_) (λb q z=>?_) (λb o u z=>?_) λb o u z=>?_
  all_goals cases zt:tabs.lookup b with
   | some q'=>first|exact .inr (.inr ⟨q',eA zt⟩)|(rw[eA zt]at z;cases z;done)|(rw[eA zt]at z;cases z;first|exact tabOk _ b _ zt|exact ht b _ zt)
   | none =>
    first
    | rw[gt zt]at z
    | rw[gt zt]
    by_cases hb:b=a
    ·first
     | rw[if_pos hb]at z
     | rw[if_pos hb]
     first
     | exact .inr (.inl ⟨_,_,rfl⟩)
     | (cases z;subst hb;exact⟨ha,by rw[List.length_map];exact hl,vs,_,rv,ha⟩)
     | exact hb
     | (rw[hb];exact hk)
     | cases z
    ·first
     | (rw[if_neg hb]at z;cases z)
     | exact .inl (if_neg hb)
def rf (L:List (Str×Option (Addr×Addr))):List (Addr×Str):=L.filterMap λp=>p.2.map λq=>(q.2,mU p.1)
structure TabsFit (K:PySem.W.Frag) (L:List (Str×Option (Addr×Addr))):Prop where
 names:L=jG.map λx=>(x,PySem.W.tabIn K x)
 apart:((rf L).map (·.1)).Nodup
 none:PySem.W.noTabs K=true
theorem jh {α β:Type}[BEq α] [LawfulBEq α]:∀ {l:List (α×β)}{a:α}{b:β},(l.map (·.1)).Nodup->(a,b)∈l->l.lookup a=some b
 | (c,d)::l,a,b,nd,h=>by
  rw[List.lookup_cons]
  rcases List.mem_cons.mp h with e|h
  ·cases e;simp
  ·have ne:a≠c:=λz=>(List.nodup_cons.mp nd).1 (by rw[←z];exact List.mem_map.mpr ⟨(a,b),h,rfl⟩)
   rw[show(a == c)=false by simpa using ne]
   exact jh (List.nodup_cons.mp nd).2 h
theorem ie {α β:Type}[BEq α] [LawfulBEq α]:∀ {l:List (α×β)}{a:α}{b:β},l.lookup a=some b->(a,b)∈l
 | (c,d)::l,a,b,h=>by
  rw[List.lookup_cons]at h
  cases e:a == c with
  | true=>rw[e]at h;cases h;rw[eq_of_beq e];exact mX
  | false=>rw[e]at h;exact mZ _ (ie h)
theorem TabsFit.tb {K:PySem.W.Frag}{L:List (Str×Option (Addr×Addr))}(F:TabsFit K L) {H:Hp}(h:∀b q,(rf L).lookup b=some q->H b=some (.tbl q)):Tb K H:=λx hx c P e=>by
 refine h P (mU x) (jh F.apart ?_)
 rw[F.names]
 exact List.mem_filterMap.mpr ⟨(x,PySem.W.tabIn K x),List.mem_map.mpr ⟨x,hx,rfl⟩,by rw[e];rfl⟩
theorem tab_no {K:PySem.W.Frag}{x:Str}(e:PySem.W.nsIn K mainGlobals x=some none):PySem.W.tabIn K x=none:=by unfold PySem.W.tabIn;rw[e]
theorem tab_yes {K:PySem.W.Frag}{x:Str}{f c P:Addr}{oc oc':Value}{od od':Option Addr}{osl osl':Array (Option Value)}{fd:FuncData}{vs:Array Value}(e1:PySem.W.nsIn K mainGlobals x=some (some (.ref f))) (e2:K.lookup f=some ⟨oc,od,.func fd,osl⟩) (e3:fd.code=.ref c)
  (e4:K.lookup c=some ⟨oc',od',.fields vs,osl'⟩) (e5:vs[11]? = some (.ref P)):PySem.W.tabIn K x=some (c,P):=by unfold PySem.W.tabIn;simp only[e1,e2,e3,e4,e5]
theorem tabs_fit {K:PySem.W.Frag}{t0 t1 t2 t3:Option (Addr×Addr)}(h0:PySem.W.tabIn K "in_order" = t0) (h1:PySem.W.tabIn K "has_seal" = t1) (h2:PySem.W.tabIn K "is_first_death" = t2) (h3:PySem.W.tabIn K "bases_by" = t3)
  (ap:((rf [("in_order",t0),("has_seal",t1),("is_first_death",t2),("bases_by",t3)]).map (·.1)).Nodup) (nt:PySem.W.noTabs K=true):TabsFit K [("in_order",t0),("has_seal",t1),("is_first_death",t2),("bases_by",t3)] :=
 ⟨by subst h0;subst h1;subst h2;subst h3;rfl,ap,nt⟩
theorem walkD {l:PySem.W.OpenLaw}{q:Program}{loose:List Str}{XP:(Str->Option Value)->Heap->Prop}{YP:World->Heap->Prop}{d:DefRec}{K:Params->PySem.W.Frag}{k:Nat}{x:Str}{f:List D->Option (D×Bool)}{L:List (Str×Option (Addr×Addr))}(hn:l.most=some 63) (hdf:d.params.defaults=[]) (hr:Room k callerA)
  (hY:∀(w:World) (h:Heap),YP w h->(K w.params).In h) (hT:∀w:World,TabsFit (K w.params) L) (hD:(L.all λp=>p.2.isNone || ((recsOf q).find? λe=>e.name == p.1).isSome)=true)
  (F:∀(w:World) (mg:Str->Option Value) (fa:Addr) (h:Heap),(K w.params).In h->h.Ns mainGlobals mg->mg d.name=some (.ref fa) ->
   ∃fd:FuncData,(∀(s:Shared) (u:Value),BindsTo s fd ⟨[u],[]⟩ [(x,u)])/\∀base:Heap,(K w.params).In base->base.Ns mainGlobals mg->FnOk l.prog w (K w.params) mg base CX0 k fa fd [x] (spD (K w.params) f))
  (ht:∀ns:List Int,ns.length<=63->∃b,f [.lst (ns.map .int)]=some (.bl true,b)):PySem.W.WalkO q loose XP YP l.row.toRowW d [] (λf vs=>PySem.call f vs):=by
 refine Att.sL hn hdf λw s₀ s₁ mg mb fa o pm cd doc a vs ns G Y ho hd hcd hmg hobj hints hlen hg=>?_
 have KX:=hY w _ Y
 obtain⟨fd,hb,hF⟩:=F w mg fa _ KX G.T.g hmg
 refine yh (rf L) (λb u e=>?_) (hT w).none KX G.T.g G.T.b G.T.builtins G.T.nolimit G.T.bmain hg hobj hints (Nat.le_trans hlen (by decide)) hr hF hb λH hH hS=>?_
 ·obtain⟨p,hp,e2⟩:=List.mem_filterMap.mp (ie e)
  obtain⟨⟨c,P⟩,e3,e4⟩:=oY e2
  cases e4
  have hp':=List.all_eq_true.mp hD p hp
  rw[e3]at hp'
  rw[Option.isNone_some,Bool.false_or]at hp'
  obtain⟨r,hr'⟩:=Option.isSome_iff_exists.mp hp'
  have ht':PySem.W.tabIn (K w.params) p.1=some (c,P):=by
   rw[(hT w).names]at hp
   obtain⟨y,_,rfl⟩:=List.mem_map.mp hp
   exact e3
  obtain⟨h1,h2⟩:=PySem.W.tab_of G.T KX hr' ht'
  exact⟨h2,(h1.tab h2).isCodeTable⟩
 ·obtain⟨b,e⟩:=ht ns hlen
  exact⟨H,_,_,b,⟨.refl H,(hT w).tb hH⟩,.cons (.lst hS (.flat rfl)) .nil,e,λv H' N x' i' _=>by cases i';rfl⟩
theorem Def.law {P:Program}{w:World}{K:PySem.W.Frag}{mg:Str->Option Value}{x y:Str}{st:Stmt}{N:List Str}{k:Nat}{g:FS}{h:Heap}{fa:Addr}(F:Def K x st) (X:K.In h) (G:h.Ns mainGlobals mg) (hfa:mg x=some (.ref fa)) (S:FnScope N [y] (aw st))
  (hbd:∀(kV doc pm:Value) (an:Option Addr) (cdv ct:Value) (u:Value),bindArgs (PySem.W.fnOf x x (fO st) (cE st) (aw st) .none kV doc pm an cdv ct) ⟨[u],[]⟩=pure [(y,u)])
  (hb:∀(base:Heap),K.In base->base.Ns mainGlobals mg->∀(f:Addr) (cdv:Value) (A:Around) (outer:List PySem.Env) (s:Shared) (H:Hp) (E:XK),Room k (A.deeper (envOfC x (aw st) s.heap.objs.size f cdv))->JSs (mS CX0 P w K mg base N x (aw st) f cdv A outer s H E).nox (cE st) g) :
  ∃fd:FuncData,(∀(s:Shared) (u:Value),BindsTo s fd ⟨[u],[]⟩ [(y,u)])/\∀base:Heap,K.In base->base.Ns mainGlobals mg->FnOk P w K mg base CX0 (k+1) fa fd [y] (spD K (bp g 1 (N.length - 1))):=by
 obtain⟨f,fd,F1,a⟩:=F
 have e:=hfa.symm.trans (PySem.W.mg_of X G a)
 cases e
 refine⟨fd,λs u=>?_,λbase kb nb=>Fd F1 S (hb base kb nb _)⟩
 obtain⟨oc,od,kV,doc,pm,an,cdv,ct,osl,rfl,lk,hcd⟩:=F1.ex
 exact .of_eq (hbd kV doc pm an cdv ct u)
section
variable {X:Cx}{a b e:Expr}{pos:Pos}{x:Str}{p:Pos}
@[simp] def z6:D->D->Option (D×Bool)
 | .lst xs,.lst ys=>if xs.length+ys.length<=sizeLine then some (.lst (xs++ys),true)else none
 | _,_=>none
theorem DH:OpR X (binaryOp .Add) (rD X.K z6):=by
 intro pins s σ H x y v u Q I rx ry q
 obtain⟨B,dx,dy,d,bb,sB,ix,iy,ee,q⟩:=q
 cases ix<;>cases iy<;>try (simp[z6]at ee;done)
 rename_i l vs ds h hl l' ws es h' hl'
 simp only[z6]at ee
 split at ee
 ·rename_i hz
  cases ee
  cases rx
  cases ry
  obtain⟨its,r1,p1,z1⟩:=I.list (sB.seq h)
  obtain⟨jts,r2,p2,z2⟩:=I.list (sB.seq h')
  obtain⟨⟨c1,d1,t1,s1⟩,o1,e1,n1,k1⟩:=p1.isList
  obtain⟨⟨c2,d2,t2,s2⟩,o2,e2,n2,k2⟩:=p2.isList
  dsimp only at e1 k1 e2 k2
  subst e1;subst k1;subst e2;subst k2
  have hsz:its.toArray.size+jts.toArray.size<=sizeLine:=by
   rw[List.size_toArray,List.size_toArray,←r1.length,←r2.length,hl.length,hl'.length];exact hz
  have ea:its.toArray++jts.toArray=(its++jts).toArray:=by simp
  refine concat_meets ⟨_,o1,rfl⟩ ⟨_,o2,rfl⟩ noFill_list_add seq_list_add PySem.F.slot_list_add PySem.F.entry_list_add (PySem.F.args_list_add_2 _ _) (list_addW l l' its.toArray jts.toArray n1 n2 d1 d2 s1 s2 hsz) ⟨o1,o2, ?_⟩
  rw[ea]
  have xt:=Ext.laid (o:=.lst (vs++ws)) sB I.fresh
  have il:=(hl.append hl').mono xt.bn
  exact⟨.ref s.heap.objs.size,_,I.lnew (t':=s.toks) (r1.append r2) (by rw[List.length_append,hl.length,hl'.length];exact hz),rfl,q _ _ _ xt (.lst (SqL.of aI) il) λ_=>⟨_,_,_,rfl,rfl,I.fresh,aI,il⟩⟩
 ·cases ee
@[simp] def ny:D->D->Option (D×Bool)
 | .tup xs,.tup ys=>if xs.length+ys.length<=sizeLine/\xs.isEmpty=false then some (.tup (xs++ys),false)else none
 | _,_=>none
theorem z7:OpR X (binaryOp .Add) (rD X.K ny):=by
 refine gc AW λx y H Q q=>?_
 obtain⟨B,dx,dy,d,bb,sB,ix,iy,ee,q⟩:=q
 cases ix<;>cases iy<;>try (simp[ny]at ee;done)
 rename_i l vs ds h hl l' ws es h' hl'
 simp only[ny]at ee
 split at ee
 ·rename_i hz
  cases ee
  have l1:=hl.length
  have l2:=hl'.length
  refine⟨l,l',vs,ws,rfl,rfl,bj sB h,bj sB h',λz=>?_,by omega,λz=>?_,λ_ pp hp=>?_⟩
  ·subst z
   cases hl
   simp at hz
  ·subst z
   cases hl'
   rw[List.append_nil]at q
   exact q.one sB (.tup h hl)
  ·have xt:=Ext.laid (o:=.tup (vs++ws)) sB hp
   exact q _ _ _ xt (.tup (SqT.of aI) ((hl.append hl').mono xt.bn)) (by simp)
 ·cases ee
@[simp] def yi:D->D->Option (D×Bool)
 | .bl i,.int j=>some (.int ((if i=true then 1 else 0)+j),false)
 | .int i,.bl j=>some (.int (i+b2i j),false)
 | _,_=>none
theorem DI:OpR X (binaryOp .Add) (rD X.K yi):=by
 intro pins s σ H x y v u Q I rx ry q
 obtain⟨B,dx,dy,d,bb,sB,ix,iy,ee,q⟩:=q
 cases ix<;>cases iy<;>try (simp[yi]at ee;done)
 ·simp only[yi]at ee
  cases ee
  cases rx
  obtain⟨t,rfl⟩:=ry
  exact IntBool.add_bool_int ⟨.int _,H,I.tok _,⟨_,rfl⟩,q.one sB (.int _)⟩
 ·simp only[yi]at ee
  cases ee
  exact xR pins s σ H _ _ v u Q I rx ry ⟨_,_,rfl,rfl,q.one sB (.int _)⟩
@[simp] def bI:D->D->Option (D×Bool)
 | .int i,.int j=>some (.int (i+j),false)
 | .str i,.str j=>if i.length+j.length<=sizeLine then some (.str (i++j),false)else none
 | .lst xs,.lst ys=>if xs.length+ys.length<=sizeLine then some (.lst (xs++ys),true)else none
 | .tup xs,.tup ys=>if xs.length+ys.length<=sizeLine/\xs.isEmpty=false then some (.tup (xs++ys),false)else none
 | .bl i,.int j=>some (.int ((if i=true then 1 else 0)+j),false)
 | .int i,.bl j=>some (.int (i+b2i j),false)
 | _,_=>none
theorem bg:OpR X (binaryOp .Add) (rD X.K bI):=by
 refine gc (r:=rD X.K (orD wN (orD z6 (orD ny yi)))) (kW Bn (kW DH (kW z7 DI))) λx y H Q q=>?_
 obtain⟨B,dx,dy,d,bb,sB,ix,iy,ee,q⟩:=q
 refine⟨B,dx,dy,d,bb,sB,ix,iy, ?_,q⟩
 cases dx<;>cases dy<;>simp[bI]at ee<;>simp[orD,wN,z6,ny,yi,ee]
@[simp] def blD:D->Option Bool
 | .bl b=>some b
 | _=>none
def vE:List D->Option (List Bool)
 | []=>some []
 | d::ds=>(blD d).bind λb=>(vE ds).map (b :: ·)
@[simp] theorem Fj:vE []=some []:=rfl
@[simp] theorem Eo (d:D) (ds:List D):vE (d::ds)=(blD d).bind λb=>(vE ds).map (b :: ·):=rfl
@[simp] def G3:List D->Option (D×Bool)
 | [.lst ds]=>(vE ds).map λbs=>(.bl (bs.all id),false)
 | _=>none
@[simp] def G4:List D->Option (D×Bool)
 | [.lst ds]=>(vE ds).map λbs=>(.bl (bs.any id),false)
 | _=>none
end
def Its (z:Str):It:=⟨λi _=>i<z.cps.size,λi H v H'=>H'=H/\∃c,z.cps[i]? = some c/\v=.str ⟨#[c]⟩,λi _=>z.cps.size<=i⟩
theorem t8 {P:Program}{w:World}{K:PySem.W.Frag}{tg:Expr}(z:Str) (t:Tok) (it:Addr):Turn P w K tg (Its z) [it] it (λi h=>h.IsStrIter it "str_ascii_iterator" z t i) where
 mem:=List.mem_singleton.mpr rfl
 obj:=λi h st b hb=>by
  have eb:=List.mem_singleton.mp hb
  subst eb
  obtain⟨o,e1,_,d1⟩:=st
  exact⟨o,e1,λv zz=>by rw[d1]at zz;cases zz⟩
 keep:=λi h h' st k=>let ⟨o,e1,r⟩:=st;⟨o,k it (List.mem_singleton.mpr rfl) o e1,r⟩
 item:=by
  intro X hP hw hK hc i pins s σ H E I hf st hg
  subst hP hw hK
  have hg':i<z.cps.size:=hg
  obtain⟨f0,f1,f2,f3,f4,f5⟩:=hf it (List.mem_singleton.mpr rfl)
  refine wpAny_pyNext_ascii_item st (c:=z.cps[i]) (by simp[hg']) λh' st' sb=>?_
  obtain⟨o,e1,c1,d1⟩:=id st'
  exact⟨_,rfl,sI (s:={ s with heap:=h',toks:=s.toks+1 }) e1 c1 d1 (by decide) ⟨.str ⟨#[z.cps[i]]⟩,H,I.turned (λb o hb e2=>(sb.2 b hb).trans e2) f0 f1 f3 f4 f5,⟨_,rfl⟩,⟨rfl,_,by simp[hg'],rfl⟩,st',λb hb=>(hf b hb).1⟩⟩
 done:=by
  intro X hP hw hK hc i pins s σ H E I hf st hg
  subst hP hw hK
  have hg':z.cps.size<=i:=hg
  obtain⟨f0,f1,f2,f3,f4,f5⟩:=hf it (List.mem_singleton.mpr rfl)
  exact wpAny_pyNext_ascii_end (I.ok.hd hc) st (by simp;omega) λh' eb=>⟨rfl,I.turned (t':=s.toks) (λb o hb e2=>eb b o hb e2) f0 f1 f3 f4 f5⟩
 self:=λ_ _ _ _ _ st h=>wpAny_pyIter_striter_ascii st h
theorem t9 {P:Program}{w:World}{K:PySem.W.Frag}{tg:Expr}(z:Str) (t:Tok) (it:Addr):Turn P w K tg (Its z) [it] it (λi h=>h.IsStrIter it "str_iterator" z t i) where
 mem:=List.mem_singleton.mpr rfl
 obj:=λi h st b hb=>by
  have eb:=List.mem_singleton.mp hb
  subst eb
  obtain⟨o,e1,_,d1⟩:=st
  exact⟨o,e1,λv zz=>by rw[d1]at zz;cases zz⟩
 keep:=λi h h' st k=>let ⟨o,e1,r⟩:=st;⟨o,k it (List.mem_singleton.mpr rfl) o e1,r⟩
 item:=by
  intro X hP hw hK hc i pins s σ H E I hf st hg
  subst hP hw hK
  have hg':i<z.cps.size:=hg
  obtain⟨f0,f1,f2,f3,f4,f5⟩:=hf it (List.mem_singleton.mpr rfl)
  refine wpAny_pyNext_wide_item st (c:=z.cps[i]) (by simp[hg']) λh' st' sb=>?_
  obtain⟨o,e1,c1,d1⟩:=id st'
  exact⟨_,rfl,sI (s:={ s with heap:=h',toks:=s.toks+1 }) e1 c1 d1 (by decide) ⟨.str ⟨#[z.cps[i]]⟩,H,I.turned (λb o hb e2=>(sb.2 b hb).trans e2) f0 f1 f3 f4 f5,⟨_,rfl⟩,⟨rfl,_,by simp[hg'],rfl⟩,st',λb hb=>(hf b hb).1⟩⟩
 done:=by
  intro X hP hw hK hc i pins s σ H E I hf st hg
  subst hP hw hK
  have hg':z.cps.size<=i:=hg
  obtain⟨f0,f1,f2,f3,f4,f5⟩:=hf it (List.mem_singleton.mpr rfl)
  exact wpAny_pyNext_wide_end (I.ok.hd hc) st (by simp;omega) λh' eb=>⟨rfl,I.turned (t':=s.toks) (λb o hb e2=>eb b o hb e2) f0 f1 f3 f4 f5⟩
 self:=λ_ _ _ _ _ st h=>wpAny_pyIter_striter_wide st h
section
variable {X:Cx}{a b e:Expr}{pos:Pos}{x:Str}{p:Pos}{tg:Expr}
theorem z8 {l:Expr}{tl:TE}(hl:PE X l tl):PI X tg l (λσ H R=>tl σ H λx H1=>∃z,x=.str z/\R (Its z) H1):=by
 intro pins s σ H R I h
 refine thn (hl pins s σ H _ I h) λv s1 ⟨x,H1,I1,r1,q1⟩=>?_
 obtain⟨z,rfl,q⟩:=q1
 obtain⟨t,rfl⟩:=r1
 have fp:∀b∈[s1.heap.objs.size],kN X pins H1 b:=λb hb=>by
  rw[List.mem_singleton.mp hb]
  exact I1.fpOk (Nat.le_refl _) (I1.hok.fresh (Nat.le_refl _))
 cases ha:z.cps.all (· < 128) with
 | true=>exact wpAny_pyIter_ascii ha ⟨_,[s1.heap.objs.size],_,_,H1,rfl,I1.kept (t':=s1.toks) λb o e=>Heap.get?_push_of_some _ e,t8 z t _,⟨_,Heap.get?_push_size _ rfl,rfl,rfl⟩,fp,q⟩
 | false=>exact wpAny_pyIter_wide ha ⟨_,[s1.heap.objs.size],_,_,H1,rfl,I1.kept (t':=s1.toks) λb o e=>Heap.get?_push_of_some _ e,t9 z t _,⟨_,Heap.get?_push_size _ rfl,rfl,rfl⟩,fp,q⟩
def wQ (z:Str):List D:=z.cps.toList.map λc=>.str ⟨#[c]⟩
theorem z9 {K:PySem.W.Frag}{B:Hp}(z:Str):qT K (Its z) B (wQ z):=by
 intro i H s
 refine⟨λd ed=>?_,λhl=>by unfold wQ at hl;show z.cps.size<=i;simpa using hl⟩
 unfold wQ at ed
 rw[List.getElem?_map]at ed
 obtain⟨c,ec,rfl⟩:=oY ed
 have ec':z.cps[i]? = some c:=by simpa using ec
 refine⟨(Array.getElem?_eq_some_iff.mp ec').1,λv H' hy=>?_⟩
 obtain⟨rfl,c',e1,rfl⟩:=hy
 rw[ec']at e1;cases e1
 exact⟨B,.refl s,.str _⟩
@[simp] def DJ:D->Option (List D)
 | .lst ds=>some ds
 | .tup ds=>some ds
 | .str z=>some (wQ z)
 | _=>none
@[simp] def cQ (f:FE):FA:=λρ=>(f ρ).bind λx=>DJ x.1
theorem cZ {f:FE}(h:JE X e f):JI X tg e (cQ f):=by
 intro pins s σ H R I q
 obtain⟨B,ρ,ds,sB,r,e',q⟩:=q
 obtain⟨xx,ex,es⟩:=oX e'
 obtain⟨xd,xb⟩:=xx
 cases xd with
 | lst l=>exact wP h pins s σ H R I ⟨B,ρ,ds,sB,r,by unfold z4;rw[ex];exact es,q⟩
 | tup l=>exact wP h pins s σ H R I ⟨B,ρ,ds,sB,r,by unfold z4;rw[ex];exact es,q⟩
 | str z =>
  cases es
  refine z8 h pins s σ H R I ⟨B,ρ,_,_,sB,r,ex,λv H1 N1 x1 i1 _=>?_⟩
  cases i1
  exact⟨z,rfl,q _ H1 N1 x1 (z9 z)⟩
 | _=>cases es
theorem Bq:SlR X (λx lo hi H Q=>∃z,x=.str z/\z.length<=sizeLine/\Q (.str (Txt.slice z lo hi)) H):=by
 intro pins s σ H x v vl vu lo hi sl Q I rx hs pl pu h
 obtain⟨z,rfl,hz,q⟩:=h
 obtain⟨t,rfl⟩:=rx
 have fin:∀lo hi,Q (.str (Txt.slice z lo hi)) H->(Txt.slice z lo hi).length<=sizeLine/\∀t' k,EP X pins σ Q (.str (Txt.slice z lo hi) t') { s with toks:=k }:=λlo hi q =>
  ⟨Nat.le_trans (Txt.slice_le z _ _) hz,λt' k=>⟨.str _,H,I.tok k,⟨t',rfl⟩,q⟩⟩
 refine⟨"str",_,PySem.F.slot_str_getitem.lookup,typeIs_str _ _ _, ?_⟩
 cases pl with
 | none =>
  cases pu with
  | none=>exact wpAny_getItem_str_slice (l:=none) (u:=none) (st:=none) hs rfl (post_val_or_str (fin _ _ q))
  | int j tj=>exact wpAny_getItem_str_slice (l:=none) (u:=some (j,tj)) (st:=none) hs rfl (post_val_or_str (fin _ _ q))
 | int i ti =>
  cases pu with
  | none=>exact wpAny_getItem_str_slice (l:=some (i,ti)) (u:=none) (st:=none) hs rfl (post_val_or_str (fin _ _ q))
  | int j tj=>exact wpAny_getItem_str_slice (l:=some (i,ti)) (u:=some (j,tj)) (st:=none) hs rfl (post_val_or_str (fin _ _ q))
theorem yj {A:Around}{E:Value->Shared->Prop}{s:Shared}{prog:Program}{w:World}{t sl:Addr}{items:Array Value}{vl vu:Value}{lo hi:Option Int}{Q:Value->Shared->Prop}(ht:IsTup s.heap t items) (hs:s.heap.IsSliceOf sl vl vu .none) (pl:IsPart vl lo) (pu:IsPart vu hi)
  (h0:HT.sIx items.size 0 lo=0) (h1:HT.sIx items.size items.size hi=items.size) (h:Q (.ref t) s):wpAny (model prog w) A (getItem (.ref t) (.ref sl)) Q E s:=by
 obtain⟨os,hos,hcs,hds⟩:=id hs
 have hT:s.TypeIs (.ref sl) "slice":=⟨os,hos,hcs⟩
 unfold getItem
 try with_reducible refine wpAny_holding ?_
 first|refine wX (wY ?_)|skip
 refine wX (wpAny_sequenceKey ht.typeIs (by decide) ?_)
 refine wX (wpAny_callSpecial?_slot (name:=Str.ofString "__getitem__") ht.typeIs PyProof.Rows.slot_tuple_getitem (wpAny_call_entry PyProof.Rows.slot_tuple_getitem ht.typeIs entry_tuple_getitem ?_ (args_tuple_getitem _ _)))
 show wpAny _ _ (Builtin.Tuple.tupleItemsOf (.ref t)>>=_) _ _ s
 refine wX (tupleItemsOf_ ht ?_)
 refine wX (wpAny_typeOf hT ?_)
 rw[if_pos (by decide)]
 refine wX (HT.gn hs pl pu ?_)
 have yes:(((HT.sIx items.size 0 lo:Nat):Int) == 0 && (1:Int) == 1 && (HT.sIx items.size items.size hi - HT.sIx items.size 0 lo) == items.size)=true:=by
  rw[h0,h1];simp
 show wpAny _ _ (if(((HT.sIx items.size 0 lo:Nat):Int) == 0 && (1:Int) == 1 && (HT.sIx items.size items.size hi - HT.sIx items.size 0 lo) == items.size)=true then _ else _) _ _ s
 rw[if_pos yes]
 refine wX ?_
 unfold Builtin.Tuple.tupleIsExact
 refine wX (wpAny_typeOf ht.typeIs (wY ?_))
 show wpAny _ _ (if((Value.type "tuple") == Value.type "tuple")=true then _ else _) _ _ s
 rw[if_pos (by decide)]
 refine wX (wpAny_rule ?_)
 exact wY ⟨_,rfl,wY h⟩
theorem Br:SlR X (λx lo hi H Q=>∃a xs,x=.ref a/\SqT X.K H a xs/\HT.sIx xs.length 0 lo=0/\HT.sIx xs.length xs.length hi=xs.length/\Q (.ref a) H):=by
 intro pins s σ H x v vl vu lo hi sl Q I rx hs pl pu h
 obtain⟨a,xs,rfl,hx,h0,h1,q⟩:=h
 cases rx
 obtain⟨its,r,ht,hz⟩:=I.tuple hx
 have hlen:its.toArray.size=xs.length:=by rw[List.size_toArray];exact r.length.symm
 refine⟨"tuple",_,PyProof.Rows.slot_tuple_getitem.lookup,ht.typeIs, ?_⟩
 exact yj ht hs pl pu (by rw[hlen];exact h0) (by rw[hlen];exact h1) ⟨.ref a,H,I,rfl,q⟩
@[simp] def fSl (fa:FE) (fl fh:FO):FE:=λρ=>(fa ρ).bind λx=>(fl ρ).bind λl=>(fh ρ).bind λh=>match x.1 with
 | .lst ds=>some (.lst (ib ds l h),true)
 | .tup ds=>some (.tup (ib ds l h),false)
 | .str z=>if z.length<=sizeLine then some (.str (Txt.slice z l h),false)else none
 | _=>none
theorem vF {ds:List D}{lo hi:Option Int}(h0:HT.sIx ds.length 0 lo=0) (h1:HT.sIx ds.length ds.length hi=ds.length):ib ds lo hi=ds:=by
 unfold ib;rw[h0,h1];simp
theorem de {lo hi:Option Expr}{p2:Pos}{fa:FE}{fl fh:FO}(ha:JE X e fa) (hl:JO X lo fl) (hh:JO X hi fh):JE X (.Subscript e (.Slice lo hi none p2) pos) (fSl fa fl fh):=by
 refine PE.to (yV (SlR.or (SlR.or AZ Dt) (SlR.or Bq Br)) ha hl hh) λσ H Q q=>?_
 obtain⟨B,ρ,d,b,sB,r,e,q⟩:=q
 obtain⟨x,ex,e⟩:=oX e
 obtain⟨l,el,e⟩:=oX e
 obtain⟨h,eh,e⟩:=oX e
 refine⟨B,ρ,x.1,x.2,sB,r,ex,λv H1 N1 x1 i1 _=>⟨N1,ρ,l,x1.nh,r.mono x1.bn,el,λH2 h2=>⟨N1,ρ,h,x1.nh.trans h2,r.mono x1.bn,eh,λH3 h3=>?_⟩⟩⟩
 have s3:aS N1 H3:=x1.nh.trans (h2.trans h3)
 have q3:=q.into (x1.trans (.grow x1.nh (h2.trans h3)))
 obtain⟨xd,xb⟩:=x
 dsimp only at e i1
 cases i1 with
 | @tup a' vs ds hs hv =>
  cases e
  by_cases hw:HT.sIx ds.length 0 l=0/\HT.sIx ds.length ds.length h=ds.length
  ·rw[vF hw.1 hw.2]at q3
   exact .inr (.inr ⟨a',vs,rfl,bj s3 hs,by rw[hv.length];exact hw.1,by rw[hv.length];exact hw.2,q3.one s3 (.tup hs hv)⟩)
  ·refine .inl (.inr ⟨a',vs,rfl,bj s3 hs,by rw[hv.length];exact hw,λp hp=>?_⟩)
   have x4:=Ext.laid (o:=.tup (oW vs l h)) s3 hp
   exact q3 _ _ _ x4 (.tup (SqT.of aI) ((re hv).mono x4.bn)) (by simp)
 | @lst a' vs ds hs hv =>
  cases e
  refine .inl (.inl ⟨a',vs,rfl,s3.seq hs,λp hp=>?_⟩)
  have x4:=Ext.laid (o:=.lst (oW vs l h)) s3 hp
  exact q3 _ _ _ x4 (.lst (SqL.of aI) ((re hv).mono x4.bn)) λ_=>⟨p,_,_,rfl,rfl,hp,aI,(re hv).mono x4.bn⟩
 | str z =>
  dsimp only at e
  split at e
  ·rename_i hz
   cases e
   exact .inr (.inl ⟨z,rfl,hz,q3.one s3 (.str _)⟩)
  ·cases e
 | _=>cases e
def rg:Value->D->Bool
 | .none,.non=>true
 | .bool a,.bl b=>a == b
 | .int i _,.int j=>decide (i=j)
 | .str i _,.str j=>decide (i=j)
 | _,_=>false
def gH:List Value->List D->Bool
 | [],[]=>true
 | u::us,d::ds=>rg u d && gH us ds
 | _,_=>false
theorem iO {K:PySem.W.Frag}{B:Hp}:∀ {u:Value}{d:D},rg u d=true->∃v,aY v u/\Is K B v d
 | .none,.non,_=>⟨.non,rfl,.non⟩
 | .bool a,.bl b,h=>by
  have:a=b:=eq_of_beq h
  subst this;exact⟨.bl a,rfl,.bl a⟩
 | .int i t,.int j,h=>by
  have:i=j:=of_decide_eq_true h
  subst this;exact⟨.int i,⟨t,rfl⟩,.int i⟩
 | .str i t,.str j,h=>by
  have:i=j:=of_decide_eq_true h
  subst this;exact⟨.str i,⟨t,rfl⟩,.str i⟩
theorem gI {K:PySem.W.Frag}:∀ {us:List Value}{ds:List D},gH us ds=true->∃vs,L2.bc vs us/\∀B,IsL K B vs ds
 | [],[],_=>⟨[],.nil,λ_=>.nil⟩
 | u::us,d::ds,h=>by
  rw[gH,Bool.and_eq_true]at h
  obtain⟨vs,r,i⟩:=gI (K:=K) h.2
  obtain⟨v,r1,_⟩:=iO (K:=K) (B:=λ_=>none) h.1
  refine⟨v::vs,.cons r1 r,λB=>?_⟩
  obtain⟨v',r1',i'⟩:=iO (K:=K) (B:=B) h.1
  have:v'=v:=by have z1:=r1.abs;rw[r1'.abs]at z1;exact Option.some.inj z1
  subst this
  exact .cons i' (i B)
theorem const_tup {K:PySem.W.Frag}{y:Str}{a:Addr}{od:Option Addr}{its:Array Value}{n:Nat}{osl:Array (Option Value)}{ds:List D}(e:PySem.W.nsIn K mainGlobals y=some (some (.ref a)))
  (l:K.lookup a=some ⟨.type "tuple",od,.seq its n,osl⟩) (h:(decide (its.size<=1000) && gH its.toList ds)=true):∃u v,PySem.W.nsIn K mainGlobals y=some (some u)/\aY v u/\∀B,Is K B v (.tup ds):=by
 rw[Bool.and_eq_true]at h
 obtain⟨vs,r,i⟩:=gI (K:=K) h.2
 exact⟨_,.ref a,e,rfl,λB=>.tup (.inr ⟨_,its,n,l,rfl,rfl,Nat.le_of_lt (Nat.lt_of_le_of_lt (of_decide_eq_true h.1) (by decide)),r⟩) (i B)⟩
end
section
variable {X:Cx}{a b o e:Expr}{pos:Pos}{x:Str}{p:Pos}{tg:Expr}
@[simp] def DK:D->Option Str
 | .str z=>some z
 | _=>none
def fQ:List D->Option (List Str)
 | []=>some []
 | d::ds=>(DK d).bind λz=>(fQ ds).map (z :: ·)
@[simp] theorem Ep:fQ []=some []:=rfl
@[simp] theorem vG (d:D) (ds:List D):fQ (d::ds)=(DK d).bind λz=>(fQ ds).map (z :: ·):=rfl
@[simp] theorem Er (zs:List Str):fQ (zs.map D.str)=some zs:=by
 induction zs with
 | nil=>rfl
 | cons z zs ih=>simp[ih]
theorem nz {K:PySem.W.Frag}{B:Hp}:∀ {vs:List V}{ds:List D}{zs:List Str}{its:List Value},L2.bc vs its->IsL K B vs ds->fQ ds=some zs->StrsAre its zs
 | _,_,_,_,.nil,.nil,e=>by cases e;exact .nil
 | _,_,_,_,.cons r rr,.cons i ii,e=>by
  rw[vG]at e
  obtain⟨z,e1,e⟩:=oX e
  obtain⟨zs,e2,e⟩:=oY e
  subst e
  cases i<;>simp only[DK]at e1<;>try (cases e1;done)
  cases e1
  obtain⟨t,rfl⟩:=r
  exact .cons _ t (nz rr ii e2)
@[simp] def Gu:D->D->Option (D×Bool)
 | .str sep,.lst ds=>(fQ ds).bind λzs=>if(zs.map (·.length)).sum+zs.length*sep.length<=16777216 then some (.str (Txt.join sep zs),false)else none
 | .str sep,.tup ds=>(fQ ds).bind λzs=>if(zs.map (·.length)).sum+zs.length*sep.length<=16777216 then some (.str (Txt.join sep zs),false)else none
 | _,_=>none
def df:List Nat->List D->Env->Option Env
 | [],[],ρ=>some ρ
 | i::is,d::ds,ρ=>df is ds (ρ.set i (some (d,false)))
 | _,_,_=>none
@[simp] theorem pG (ρ:Env):df [] [] ρ=some ρ:=by rw[df]
@[simp] theorem jr (i:Nat) (is:List Nat) (d:D) (ds:List D) (ρ:Env):df (i::is) (d::ds) ρ=df is ds (ρ.set i (some (d,false))):=by rw[df]
@[simp] theorem Fk (d:D) (ds:List D) (ρ:Env):df [] (d::ds) ρ=none:=by simp only[df]
@[simp] theorem Fl (i:Nat) (is:List Nat) (ρ:Env):df (i::is) [] ρ=none:=by simp only[df]
@[simp] def tgT (is:List Nat):FG:=λd ρ=>match d with|.tup ds=>df is ds ρ|_=>none
def js:List Nat->TGs
 | []=>E6
 | i::is=>BZ (lO i) (js is)
theorem zA {N:Hp}{σ:St}{ρ:Env}{i:Nat}{v:V}{d:D}:aS (cut N (own σ ρ)) (cut N (own (σ.set i (some v)) (ρ.set i (some (d,false))))):=dw λa u e q=>⟨e,λz=>q (by
 rcases qS z with ⟨_,d',p⟩|⟨j,_,d',q1,q2⟩
 ·cases p
 ·exact⟨j,d',q1,q2⟩)⟩
theorem eY {K:PySem.W.Frag}:∀ {is:List Nat}{vs:List V}{ds:List D}{B0 H0 N H:Hp}{σ:St}{ρ ρ':Env}{Q:St->Hp->Prop},StN K B0 H0 N H σ ρ->IsL K (cut N (own σ ρ)) vs ds->df is ds ρ=some ρ'->(∀σ',StN K B0 H0 N H σ' ρ'->Q σ' H)->js is vs σ H Q
 | [],_,_,_,_,_,_,_,_,_,_,s,.nil,e,k=>by
  rw[pG]at e;cases e
  exact⟨rfl,k _ s⟩
 | [],_,_,_,_,_,_,_,_,_,_,_,.cons _ _,e,_=>by simp at e
 | _::_,_,_,_,_,_,_,_,_,_,_,_,.nil,e,_=>by simp at e
 | i::is,_,_,_,_,_,_,_,_,_,_,s,.cons h hs,e,k=>by
  rw[jr]at e
  exact⟨_,_,rfl,eY (s.bind h) (hs.mono zA) e k⟩
theorem iP:∀ {is:List Nat}{ds:List D}{ρ ρ':Env},df is ds ρ=some ρ'->ds.length=is.length
 | [],[],_,_,_=>rfl
 | _::_,_::_,_,_,e=>by rw[jr]at e;simp[iP e]
 | [],_::_,_,_,e=>by simp at e
 | _::_,[],_,_,e=>by simp at e
theorem C7 {K:PySem.W.Frag}{is:List Nat}:tDG K (tgT is) (De K is.length (js is)):=by
 intro B0 H0 N H σ ρ ρ' v d Q s h e k
 cases h with
 | @tup a vs ds ht hl =>
  have e':df is ds ρ=some ρ':=e
  exact⟨a,vs,rfl,bj (bJ.trans s.ext.nh) ht,by rw[hl.length];exact iP e',eY s hl e' λσ' s'=>k σ' H ⟨N,s'⟩⟩
 | _=>cases e
theorem pH {K:PySem.W.Frag}{n:Nat}{B H:Hp}{ρ0:Env}{Q:St->Hp->Prop}(cl:∀i,i<n->ρ0[i]? = some none):∀ {is:List Nat}{vs:List V}{ds:List D}{σ:St}{ρ ρ1:Env},(∀i∈is,i<n)->RepE K B σ ρ->IsL K B vs ds->df is ds ρ=some ρ1->ρ.length=σ.length->ρ.length=ρ0.length ->
  (∀σ1,RepE K B σ1 ρ1->(∀B',RepE K B' σ ρ0->RepE K B' σ1 ρ0)->ρ0.length=σ1.length->Q σ1 H)->js is vs σ H Q
 | [],_,_,_,_,_,_,rp,.nil,e,l1,l2,k=>by
  rw[pG]at e;cases e
  exact⟨rfl,k _ rp (λ_ z=>z) (by omega)⟩
 | [],_,_,_,_,_,_,_,.cons _ _,e,_,_,_=>by simp at e
 | _::_,_,_,_,_,_,_,_,.nil,e,_,_,_=>by simp at e
 | i::is,_,_,σ,ρ,_,hn,rp,.cons (v:=v) h hs,e,l1,l2,k=>by
  rw[jr]at e
  have hi:=hn i mX
  have hiσ:i<σ.length:=by
   have:=(List.getElem?_eq_some_iff.mp (cl i hi)).1
   omega
  refine⟨_,_,rfl,pH cl (λj hj=>hn j (mZ _ hj)) ⟨rp.tb,λj d b q=>?_⟩ hs e (by simpa using l1) (by simpa using l2) λσ1 r1 r2 l=>k σ1 r1 (λB' z=>r2 B' ⟨z.tb,λj d b q=>?_⟩) l⟩
  ·rcases bH q with ⟨rfl,pp⟩|⟨ne,pp⟩
   ·cases pp
    exact⟨v,by simp[hiσ],h⟩
   ·obtain⟨w,h1,h2⟩:=rp.at' j d b pp
    exact⟨w,by rw[List.getElem?_set_ne ne];exact h1,h2⟩
  ·obtain⟨w,h1,h2⟩:=z.at' j d b q
   have ne:i≠j:=λz=>by subst z;rw[cl i hi]at q;cases q
   exact⟨w,by rw[List.getElem?_set_ne ne];exact h1,h2⟩
theorem Fm {K:PySem.W.Frag}{n:Nat}{is:List Nat}(hn:∀i∈is,i<n):TGE K n (tgT is) (De K is.length (js is)):=by
 intro B H σ ρ ρ1 v d Q cl rep s h e hl k
 cases h with
 | @tup a vs ds ht hv =>
  have e':df is ds ρ=some ρ1:=e
  exact⟨a,vs,rfl,bj s ht,by rw[hv.length];exact iP e',pH cl hn rep hv e' hl rfl k⟩
 | _=>cases e
end
section
variable {prog:Program}{w:World}{A:Around}{E:Value->Shared->Prop}{s:Shared}
theorem vH {it l:Addr}{i:Nat}{items:Array Value}{v:Value}{Q:Value->Shared->Prop}(st:s.heap.IsTupleIter it l i) (ht:s.heap.IsTuple l items) (hv:items[i]? = some v)
  (k:∀h',h'.IsTupleIter it l (i+1)->Heap.SameBut it s.heap h'->Q v { s with heap:=h' }):wpAny (model prog w) A (Builtin.SmallTypes.nextOf (.ref it)) Q E s:=by
 obtain⟨o1,g1,c1,d1⟩:=id st
 obtain⟨o2,g2,_,n2,d2⟩:=ht
 unfold Builtin.SmallTypes.nextOf
 refine wX (wpAny_callSpecial?_slot (name:=Str.ofString "__next__") st.typeIs PySem.F.slot_tuple_iterator_next (wpAny_call_entry PySem.F.slot_tuple_iterator_next st.typeIs PySem.F.entry_tuple_iterator_next ?_ (PySem.F.args_tuple_iterator_next_1 _)))
 show wpAny _ _ (field (.ref it) 0>>=_) _ _ _
 refine wX (wpAny_field g1 d1 (x:=.ref l) rfl ?_)
 show wpAny _ _ (if(Value.ref l == Value.none)=true then _ else _) _ _ _
 rw[if_neg (λz=>Bool.false_ne_true z:¬((Value.ref l == Value.none)=true))]
 show wpAny _ _ (field (.ref it) 1>>=_) _ _ _
 refine wX (wpAny_field g1 d1 (x:=.int i 0) rfl ?_)
 show wpAny _ _ (seqItems? (.ref l)>>=_) _ _ _
 refine wX (wpAny_seqItems g2 d2 ?_)
 simp only[hv,Int.toNat_natCast]
 refine wX (wpAny_setField g1 d1 (by simp) (wY ⟨v,rfl,wY (k _ ?_ (Heap.SameBut.update ..))⟩))
 exact⟨_,Heap.get?_update_self _ g1 (Obj.isFreed_of_fields (Obj.data_mapFields d1 _)),(Obj.cls_mapFields ..).trans c1,by rw[Obj.data_mapFields d1];simp[rawInt]⟩
theorem yk {it l:Addr}{i:Nat}{items:Array Value}{Q:Value->Shared->Prop}(hA:A.handled=none) (st:s.heap.IsTupleIter it l i) (ht:s.heap.IsTuple l items) (hv:items[i]? = none)
  (k:∀h' x,Heap.ExtBut it s.heap h'->(∃o,h'.get? x=some o/\o.cls=.type "StopIteration")->E (.ref x) { s with heap:=h' }):wpAny (model prog w) A (Builtin.SmallTypes.nextOf (.ref it)) Q E s:=by
 obtain⟨o1,g1,c1,d1⟩:=id st
 obtain⟨o2,g2,_,n2,d2⟩:=ht
 unfold Builtin.SmallTypes.nextOf
 refine wX (wpAny_callSpecial?_slot (name:=Str.ofString "__next__") st.typeIs PySem.F.slot_tuple_iterator_next (wpAny_call_entry PySem.F.slot_tuple_iterator_next st.typeIs PySem.F.entry_tuple_iterator_next ?_ (PySem.F.args_tuple_iterator_next_1 _)))
 show wpAny _ _ (field (.ref it) 0>>=_) _ _ _
 refine wX (wpAny_field g1 d1 (x:=.ref l) rfl ?_)
 show wpAny _ _ (if(Value.ref l == Value.none)=true then _ else _) _ _ _
 rw[if_neg (λz=>Bool.false_ne_true z:¬((Value.ref l == Value.none)=true))]
 show wpAny _ _ (field (.ref it) 1>>=_) _ _ _
 refine wX (wpAny_field g1 d1 (x:=.int i 0) rfl ?_)
 show wpAny _ _ (seqItems? (.ref l)>>=_) _ _ _
 refine wX (wpAny_seqItems g2 d2 ?_)
 simp only[hv,Int.toNat_natCast]
 refine wX (wpAny_rule (wX (wpAny_setField g1 d1 (by simp) ?_)))
 show wpAny _ _ (newExc (.type "StopIteration") []>>=_) _ _ _
 refine wX ?_
 simp only[newTuple,newExc]
 refine wX (wpAny_newObj_type ?_ (by size_fits))
 refine wX (m:=firstArgMember _ _) (wpAny_of_eq (a:=Value.none) (by first|(simp only[firstArgMember];rfl)|rfl) ?_)
 refine wpAny_newObj_type ?_ (by size_fits)
 simp only[raiseNew]
 refine wX (wpAny_handled ?_)
 first|rw[hA]|rw[show A.in1.handled=none from hA]
 exact wX (wY (wpAny_throw (k _ _ (((Heap.SameBut.update ..).extBut.push _).push _) ⟨_,Heap.get?_push_size _ rfl,rfl⟩)))
end
def KIt:Bool->Heap->Addr->Addr->Nat->Prop
 | true,h,it,a,i=>h.IsListIter it a i
 | false,h,it,a,i=>h.IsTupleIter it a i
def KSq:Bool->Heap->Addr->Array Value->Prop
 | true,h,a,items=>h.IsList a items
 | false,h,a,items=>h.IsTuple a items
def SqK (k:Bool) (K:PySem.W.Frag) (H:Hp) (a:Addr) (xs:List V):Prop:=match k with|true=>SqL K H a xs|false=>SqT K H a xs
theorem KIt.ob {k:Bool}{h:Heap}{it a:Addr}{i:Nat}(st:KIt k h it a i):∃o,h.get? it=some o/\∀v,o.data≠.cell v:=by
 cases k<;>(obtain⟨o,g,_,d⟩:=st;exact⟨o,g,λv z=>by rw[d]at z;cases z⟩)
theorem KIt.upon {k:Bool}{h h':Heap}{it a:Addr}{i:Nat}(st:KIt k h it a i) (g:∀o,h.get? it=some o->h'.get? it=some o):KIt k h' it a i:=by
 cases k<;>(obtain⟨o,e,r⟩:=st;exact⟨o,g o e,r⟩)
theorem KSq.upon {k:Bool}{h h':Heap}{a:Addr}{items:Array Value}(st:KSq k h a items) (g:∀o,h.get? a=some o->h'.get? a=some o):KSq k h' a items:=by
 cases k<;>(obtain⟨o,e,r⟩:=st;exact⟨o,g o e,r⟩)
theorem KSq.lt {k:Bool}{h:Heap}{a:Addr}{items:Array Value}(st:KSq k h a items):a<h.objs.size:=by
 cases k<;>(obtain⟨o,e,r⟩:=st;exact Heap.lt_size e)
theorem SqK.same {k:Bool}{K:PySem.W.Frag}{H H':Hp}{a:Addr}{xs:List V}(h:SqK k K H a xs) (e:aS H H'):SqK k K H' a xs:=by
 cases k
 ·exact bj e h
 ·exact e.seq h
theorem SqK.vals {X:Cx}{pins:List (Addr×Obj)}{σ:St}{H:Hp}{s:Shared}{k:Bool}{a:Addr}{xs:List V}(I:Inv X pins σ H s) (h:SqK k X.K H a xs):∃its:List Value,bc xs its/\KSq k s.heap a its.toArray/\xs.length<=sizeLine:=by
 cases k
 ·exact I.tuple h
 ·obtain⟨its,r,p,z⟩:=I.list h
  exact⟨its,r,p.isList,z⟩
theorem SqK.inj {X:Cx}{pins:List (Addr×Obj)}{σ:St}{H:Hp}{s:Shared}{k:Bool}{a:Addr}{xs ys:List V}(I:Inv X pins σ H s) (h:SqK k X.K H a xs) (h':SqK k X.K H a ys):xs=ys:=by
 cases k
 ·exact I.tuple_inj h h'
 ·exact I.list_inj h h'
section
variable {prog:Program}{w:World}{A:Around}{E:Value->Shared->Prop}{s:Shared}
theorem ym {k:Bool}{it l:Addr}{i:Nat}{items:Array Value}{v:Value}{Q:Value->Shared->Prop}(st:KIt k s.heap it l i) (ht:KSq k s.heap l items) (hv:items[i]? = some v)
  (q:∀h',KIt k h' it l (i+1)->Heap.SameBut it s.heap h'->Q v { s with heap:=h' }):wpAny (model prog w) A (Builtin.SmallTypes.nextOf (.ref it)) Q E s:=by
 cases k
 ·exact vH st ht hv q
 ·exact wpAny_nextOf_list_item st ht hv q
theorem tE {k:Bool}{it l:Addr}{i:Nat}{items:Array Value}{Q:Value->Shared->Prop}(hA:A.handled=none) (st:KIt k s.heap it l i) (ht:KSq k s.heap l items) (hv:items[i]? = none)
  (q:∀h' x,Heap.ExtBut it s.heap h'->(∃o,h'.get? x=some o/\o.cls=.type "StopIteration")->E (.ref x) { s with heap:=h' }):wpAny (model prog w) A (Builtin.SmallTypes.nextOf (.ref it)) Q E s:=by
 cases k
 ·exact yk hA st ht hv q
 ·exact wpAny_nextOf_list_end hA st ht hv q
end
def itO (k:Bool) (l:Addr):Obj:={ cls:=.type (if k=true then "list_iterator" else "tuple_iterator"),data:=.fields #[.ref l,.int 0 0] }
theorem rh {prog:Program}{w:World}{A:Around}{E:Value->Shared->Prop}{s:Shared}{k:Bool}{l:Addr}{items:Array Value}{Q:Value->Shared->Prop}(ht:KSq k s.heap l items)
  (q:Q (.ref s.heap.objs.size) { s with heap:=s.heap.push (itO k l) }):wpAny (model prog w) A (pyIter (.ref l)) Q E s:=by
 cases k
 ·exact wpAny_pyIter_tuple ht q
 ·exact wpAny_pyIter_list ht q
theorem KSq.push {k:Bool}{h:Heap}{a:Addr}{items:Array Value}(st:KSq k h a items) (o:Obj):KSq k (h.push o) a items:=st.upon λ_ e=>Heap.get?_push_of_some _ e
theorem rj {X:Cx}{pins:List (Addr×Obj)}{σ:St}{H:Hp}{s:Shared}{h':Heap}{t':Nat}{ch:List Addr}(I:Inv X pins σ H s) (f:∀b∈ch,kN X pins H b) (k:∀b o,b∉ch->s.heap.get? b=some o->h'.get? b=some o):Inv X pins σ H { s with heap:=h',toks:=t' }:=by
 have nit:∀b u,H b=some u->b∉ch:=λb u e z=>by rw[(f b z).1]at e;cases e
 refine I.step (g':=s.gens) (d':=s.drawn) (ch:=ch) (λb hb=>?_) (λb o _ _ hc e _=>k b o hc e) (λb o _ _ hc e _=>⟨o.slots,k b o hc e⟩) (λ_ _ _ _ n=>n)
  (λb o hc e=>⟨o,k b o hc e⟩) (λ_ _ e=>e) (λ_ _ _ e=>e) (λ_ _ e=>e) (λm hm=>?_) (λb u e=>?_) I.bare
 ·obtain⟨_,f1,_,f3,f4,f5⟩:=f b hb
  exact⟨f3,f1,f4,f5⟩
 ·obtain⟨o,es,ep,ho,r⟩:=hm
  exact⟨o,es,ep,k _ o (λz=>(f _ z).2.1 rfl) ho,r⟩
 ·refine(I.hok b u e).stay (λc v hc q=>k c v ?_ q) (λ_ q=>q) (λ_ _ q=>q) λ_ _ _ q=>q
  rcases hc with z|z
  ·rw[z];exact nit b u e
  ·exact nit c _ z
theorem Fo {X:Cx}{pins:List (Addr×Obj)}{σ:St}{H:Hp}{s:Shared}{h':Heap}{t':Nat}{ch:List Addr}{a:Addr}{ob:HO}(I:Inv X pins σ H s) (f:∀b∈ch,kN X pins H b) (k:∀b o,b∉ch->s.heap.get? b=some o->h'.get? b=some o) (ha:s.heap.objs.size<=a)
  (new:ca X.prog X.w (upd H a ob) h' a ob):Inv X pins σ (upd H a ob) { s with heap:=h',toks:=t' }:=by
 have hn:H a=none:=I.hok.fresh ha
 have nit:∀b u,H b=some u->b∉ch:=λb u e z=>by rw[(f b z).1]at e;cases e
 have na:∀b o,s.heap.get? b=some o->b≠a:=λb o e=>Nat.ne_of_lt (Nat.lt_of_lt_of_le (Heap.lt_size e) ha)
 refine I.step (g':=s.gens) (d':=s.drawn) (ch:=ch) (λb hb=>?_) (λb o _ _ hc e _=>k b o hc e) (λb o _ _ hc e _=>⟨o.slots,k b o hc e⟩) (λb o _ e n=>by rw[aG (na b o e)];exact n)
  (λb o hc e=>⟨o,k b o hc e⟩) (λb xs e=>by rw[aG (aT e hn)];exact e) (λb o u e=>by rw[aG (aT e hn)];exact e) (λb ps e=>by rw[aG (aT e hn)];exact e) (λm hm=>?_) (λb u e=>?_) I.bare
 ·obtain⟨_,f1,_,f3,f4,f5⟩:=f b hb
  exact⟨f3,f1,f4,f5⟩
 ·obtain⟨o,es,ep,ho,r⟩:=hm
  exact⟨o,es,ep,k _ o (λz=>(f _ z).2.1 rfl) ho,r⟩
 ·by_cases hb:b=a
  ·subst hb;rw[aI]at e;cases e;exact new
  ·rw[aG hb]at e
   refine(I.hok b u e).stay (λc v hc q=>k c v ?_ q) (λc q=>?_) (λc xs q=>?_) λc o xs q=>?_
   ·rcases hc with z|z
    ·rw[z];exact nit b u e
    ·exact nit c _ z
   ·rw[aG (aT q hn)];exact q
   ·rw[aG (aT q hn)];exact q
   ·rw[aG (aT q hn)];exact q
section
variable {X:Cx}{a b e:Expr}{pos:Pos}{p:Pos}
def Ga (xs ys:List D):List D:=List.zipWith (λx y=>.tup [x,y]) xs ys
@[simp] def Gb (fa fb:FE):FA:=λρ=>(fa ρ).bind λx=>(fb ρ).bind λy=>(fP x.1).bind λxs=>(fP y.1).map λys=>Ga xs ys
theorem C8 {K:PySem.W.Frag}{B:Hp}{v:V}{d:D}{ds:List D}(h:Is K B v d) (e:fP d=some ds):∃k a vs,v=.ref a/\SqK k K B a vs/\IsL K B vs ds:=by
 cases h with
 | tup ht hl=>cases e;exact⟨false,_,_,rfl,ht,hl⟩
 | lst ht hl=>cases e;exact⟨true,_,_,rfl,ht,hl⟩
 | _=>cases e
end
def unown1 (ρ:Env) (i:Nat):Env:=match ρ[i]? with
 | some (some (d,true))=>ρ.set i (some (d,false))
 | _=>ρ
theorem StN.unown1 {K:PySem.W.Frag}{B0 H0 N H:Hp}{σ:St}{ρ:Env}(s:StN K B0 H0 N H σ ρ) (i:Nat):StN K B0 H0 N H σ (unown1 ρ i):=by
 unfold DL.unown1
 split
 ·rename_i d hd
  obtain⟨a,ob,h1,h2,h3,h4⟩:=s.ow i d hd
  have get:∀ {j:Nat}{e:D}{b:Bool},(ρ.set i (some (d,false)))[j]? = some (some (e,b))->(i=j/\e=d/\b=false)∨(i≠j/\ρ[j]? = some (some (e,b))):=λq=>by
   rcases bH q with ⟨z,p⟩|⟨z,p⟩
   ·cases p;exact .inl ⟨z,rfl,rfl⟩
   ·exact .inr ⟨z,p⟩
  have o:∀c,own σ (ρ.set i (some (d,false))) c->own σ ρ c/\c≠a:=λc ⟨j,e,q1,q2⟩=>by
   rcases get q1 with ⟨_,_,z⟩|⟨ne,q⟩
   ·cases z
   ·exact⟨⟨j,e,q,q2⟩,λz=>by subst z;exact ne (s.inj i j _ _ _ hd q h1 q2)⟩
  have c:aS (cut N (own σ ρ)) (cut N (own σ (ρ.set i (some (d,false))))):=dw λb u e q=>⟨e,λz=>q (o b z).1⟩
  have na:¬own σ (ρ.set i (some (d,false))) a:=λz=>(o a z).2 rfl
  refine⟨s.bh,s.tb,s.ext,by rw[List.length_set];exact s.len,λj e q=>?_,λj e q=>?_,λj k b e f q q' z1 z2=>?_⟩
  ·rcases get q with ⟨rfl,rfl,_⟩|⟨_,q⟩
   ·exact⟨_,h1,(h4.mono c).is (by rw[ci na];exact h2)⟩
   ·obtain⟨v,k1,k2⟩:=s.sh j e q
    exact⟨v,k1,k2.mono c⟩
  ·rcases get q with ⟨_,_,z⟩|⟨_,q⟩
   ·cases z
   ·obtain⟨a',o',k1,k2,k3,k4⟩:=s.ow j e q
    exact⟨a',o',k1,k2,k3,k4.mono c⟩
  ·rcases get q with ⟨_,_,z⟩|⟨_,q⟩
   ·cases z
   ·rcases get q' with ⟨_,_,z⟩|⟨_,q'⟩
    ·cases z
    ·exact s.inj j k b e f q q' z1 z2
 ·exact s
@[simp] def gUn (is:List Nat) (g:FS):FS:=λρ=>g (is.foldl unown1 ρ)
theorem StN.unowns {K:PySem.W.Frag}{B0 H0 N H:Hp}{σ:St}:∀(is:List Nat) {ρ:Env},StN K B0 H0 N H σ ρ->StN K B0 H0 N H σ (is.foldl DL.unown1 ρ)
 | [],_,s=>s
 | i::is,_,s=>StN.unowns is (s.unown1 i)
theorem DM {K:PySem.W.Frag}{is:List Nat}{g:FS}{E:Ends}{σ:St}{H:Hp}(q:tDS K (gUn is g) E σ H):tDS K g E σ H:=by
 obtain⟨B0,H0,ρ,r,⟨N,s⟩,e,p⟩:=q
 exact⟨B0,H0,_,r,⟨N,s.unowns is⟩,e,p⟩
theorem wR {X:Cx}{st:Stmt}{g:FS}(is:List Nat) (h:JS X st g):JS X st (gUn is g):=PS.to h λ_ _ _ q=>DM q
@[simp] def C9:FS:=λρ=>some (.ct ρ)
@[simp] def Gc:FS:=λρ=>some (.bk ρ)
@[simp] def Gd:FS:=λ_=>none
section
variable {X:Cx}{pos:Pos}
theorem Bs:JS X (.Continue pos) C9:=PS.to sG λE σ H q=>by
 obtain⟨B0,H0,ρ,r,s,e,p⟩:=q
 cases e
 exact p σ H s
end
inductive CRows (K:PySem.W.Frag) (P:Params):List DictEntry->List (Str×D)->Prop where
 | nil:CRows K P [] []
 | tup {x:Str}{t:Tok}{h:Int}{a:Addr}{its:Array Value}{n:Nat}{osl:Array (Option Value)}{ds:List D}{r:List DictEntry}{kvs:List (Str×D)}(hh:h=PyData.keyHash P x)
   (l:K.lookup a=some ⟨.type "tuple",none,.seq its n,osl⟩) (f:(decide (its.size<=1000) && gH its.toList ds)=true) (tl:CRows K P r kvs):CRows K P (⟨h,.str x t,.ref a⟩::r) ((x,.tup ds)::kvs)
 | flat {x:Str}{t:Tok}{h:Int}{u:Value}{d:D}{r:List DictEntry}{kvs:List (Str×D)}(hh:h=PyData.keyHash P x) (f:rg u d=true) (tl:CRows K P r kvs):CRows K P (⟨h,.str x t,u⟩::r) ((x,d)::kvs)
theorem CRows.lit {K:PySem.W.Frag}{P:Params}:∀ {es:List DictEntry}{kvs:List (Str×D)},CRows K P es kvs->PySem.W.KeysLit P es
 | _,_,.nil=>trivial
 | _,_,.tup hh _ _ tl=>⟨⟨_,_,rfl,hh⟩,tl.lit⟩
 | _,_,.flat hh _ tl=>⟨⟨_,_,rfl,hh⟩,tl.lit⟩
theorem CRows.find {K:PySem.W.Frag}{P:Params}(y:Str):∀ {es:List DictEntry}{kvs:List (Str×D)},CRows K P es kvs->match kvs.lookup y with
  | none=>es.find? (λe=>Value.isStrOf y e.key)=none
  | some d=>∃e v,es.find? (λe=>Value.isStrOf y e.key)=some e/\aY v e.val/\∀B,Is K B v d
 | _,_,.nil=>rfl
 | _,_,.tup (x:=x) (t:=t) (a:=a) (ds:=ds) hh l f tl=>by
  by_cases e:y=x
  ·subst e
   rw[List.lookup_cons_self]
   rw[Bool.and_eq_true]at f
   obtain⟨vs,r,i⟩:=gI (K:=K) f.2
   exact⟨_,.ref a,List.find?_cons_of_pos (by simp[Value.isStrOf]),rfl,λB=>.tup (.inr ⟨_,_,_,l,rfl,rfl,Nat.le_of_lt (Nat.lt_of_le_of_lt (of_decide_eq_true f.1) (by decide)),r⟩) (i B)⟩
  ·have ih:=tl.find y
   rw[List.lookup_cons,beq_eq_false_iff_ne.mpr e]
   have nf:Value.isStrOf y (Value.str x t)=false:=by
    rw[Bool.eq_false_iff]
    intro z
    obtain⟨t',q⟩:=Value.isStrOf_shape z
    injection q with q1
    exact e q1.symm
   simp only[List.find?_cons,nf]
   exact ih
 | _,_,.flat (x:=x) (t:=t) (u:=u) (d:=d) hh f tl=>by
  by_cases e:y=x
  ·subst e
   rw[List.lookup_cons_self]
   obtain⟨v,r1,_⟩:=iO (K:=K) (B:=λ_=>none) f
   refine⟨_,v,List.find?_cons_of_pos (by simp[Value.isStrOf]),r1,λB=>?_⟩
   obtain⟨v',r1',i'⟩:=iO (K:=K) (B:=B) f
   have:v'=v:=by have z1:=r1.abs;rw[r1'.abs]at z1;exact Option.some.inj z1
   subst this
   exact i'
  ·have ih:=tl.find y
   rw[List.lookup_cons,beq_eq_false_iff_ne.mpr e]
   have nf:Value.isStrOf y (Value.str x t)=false:=by
    rw[Bool.eq_false_iff]
    intro z
    obtain⟨t',q⟩:=Value.isStrOf_shape z
    injection q with q1
    exact e q1.symm
   simp only[List.find?_cons,nf]
   exact ih
def pJ (K:PySem.W.Frag) (P:Params) (a:Addr) (kvs:List (Str×D)):Prop:=∃es n,K.lookup a=some ⟨.type "dict",none,.dict es n,#[]⟩/\CRows K P es.toList kvs/\(a == sysModules)=false
theorem const_dict {K:PySem.W.Frag}{P:Params}{y:Str}{a:Addr}{es:Array DictEntry}{n:Nat}{kvs:List (Str×D)}(e:PySem.W.nsIn K mainGlobals y=some (some (.ref a))) (l:K.lookup a=some ⟨.type "dict",none,.dict es n,#[]⟩) (r:CRows K P es.toList kvs) (s:(a == sysModules)=false) :
  ∃a,PySem.W.nsIn K mainGlobals y=some (some (.ref a))/\pJ K P a kvs:=⟨a,e,es,n,l,r,s⟩
section
variable {X:Cx}{a b e:Expr}{pos:Pos}{x:Str}{p:Pos}
theorem pJ.map {pins:List (Addr×Obj)}{σ:St}{H:Hp}{s:Shared}{d:Addr}{kvs:List (Str×D)}(I:Inv X pins σ H s) (h:pJ X.K X.w.params d kvs):∃f:Str->Option Value,s.heap.MapOf (strKind X.prog X.w) d f/\(d == sysModules)=false /\
  ∀y,match kvs.lookup y with|none=>f y=none|some dd=>∃u v,f y=some u/\aY v u/\∀B,Is X.K B v dd:=by
 obtain⟨es,n,l,r,sm⟩:=h
 refine⟨_,PySem.W.mapOf_K I.kIn l r.lit,sm,λy=>?_⟩
 have:=r.find y
 have ff:findBy Value.isStrOf es y=(es.toList.find? λe=>Value.isStrOf y e.key).map (·.val):=by
  unfold findBy
  obtain⟨es⟩:=es
  rw[List.find?_toArray]
 cases hl:kvs.lookup y with
 | none=>rw[hl]at this;dsimp only at this ⊢;rw[ff,this];rfl
 | some dd =>
  rw[hl]at this
  obtain⟨en,v,e1,e2,e3⟩:=this
  exact⟨en.val,v,by rw[ff,e1];rfl,e2,e3⟩
@[simp] def G5 (kvs:List (Str×D)):D->Option (D×Bool)
 | .str y=>(kvs.lookup y).map λd=>(d,false)
 | _=>none
@[simp] def cIn (kvs:List (Str×D)):D->Option (D×Bool)
 | .str y=>some (.bl (kvs.lookup y).isSome,false)
 | _=>none
@[simp] def Ge (kvs:List (Str×D)):D->Option (D×Bool)
 | .str y=>some (.bl (!(kvs.lookup y).isSome),false)
 | _=>none
@[simp] def F5:List D->Option (D×Bool)
 | [.lst ds]=>some (.lst ds,true)
 | [.tup ds]=>some (.lst ds,true)
 | _=>none
@[simp] def f6:List D->Option (D×Bool)
 | [.lst ds]=>some (.tup ds,false)
 | [.tup ds]=>some (.tup ds,false)
 | _=>none
theorem Bt:cA X (.type "tuple") (rDA X.K f6):=by
 refine cA.to pb λxs H Q q=>?_
 obtain⟨B,ds,d,bb,sB,i,ee,q⟩:=q
 cases i with
 | nil=>simp[f6]at ee
 | cons i1 i2 =>
  cases i2 with
  | cons _ _=>cases i1<;>simp[f6]at ee
  | nil =>
   cases i1<;>try (simp[f6]at ee;done)
   ·rename_i l0 vs es h hl
    simp only[f6]at ee
    cases ee
    exact⟨_,_,rfl,.inr ⟨bj sB h,q.one sB (.tup h hl)⟩⟩
   ·rename_i l0 vs es h hl
    simp only[f6]at ee
    cases ee
    refine⟨_,_,rfl,.inl ⟨sB.seq h,λl hp=>?_⟩⟩
    have xt:=Ext.laid (o:=.tup vs) sB hp
    exact q _ _ _ xt (.tup (SqT.of aI) (hl.mono xt.bn)) (by simp)
end
section
variable {X:Cx}{a b e:Expr}{pos:Pos}{x:Str}{p:Pos}
def zB (K:PySem.W.Frag) (n:Nat) (t:TGs):TG:=λv σ H Q=>∃k a xs,v=.ref a/\SqK k K H a xs/\xs.length=n/\t xs σ H Q
theorem n6 {es:List Expr}{kt:Nat}{t:TGs}{n:Nat}(hc:X.calm=true) (h:PGs X es t) (hn:(assignEach es X.env).length=n:=by rfl) (hst:(assignEach es X.env).findIdx? (·.1)=none:=by rfl):PG X (.Tuple es kt pos) (zB X.K n t):=by
 intro pins s σ H v u Q I r hw
 obtain⟨k,l,xs,rfl,hq,hl,hw⟩:=hw
 cases r
 cases k with
 | false =>
  obtain⟨its,rv,ht,hz⟩:=I.tuple hq
  refine assign_Tuple_tuple (I.ok.hd hc) ht (by simp[hn,←hl,rv.length]) hst λh' hx=>?_
  have I1:Inv X pins σ H { s with heap:=h' }:=I.kept (t':=s.toks) λb o e=>hx b o (Nat.ne_of_lt (Heap.lt_size e)) e
  exact h pins _ σ H xs _ Q I1 (by simpa using rv) hw
 | true =>
  obtain⟨its,rv,ht,hz⟩:=I.list hq
  rw[assign_Tuple]
  refine wX (wpAny_standAt ?_)
  unfold unpack
  have hsz:(assignEach es X.env).length=its.toArray.size:=by simp[hn,←hl,rv.length]
  rw[hsz,hst]
  refine wX (wpAny_holding (PySem.W.kun_itemsOf (I.ok.hd hc) ht.isList λh' hx=>?_))
  have I1:Inv X pins σ H { s with heap:=h' }:=I.kept (t':=s.toks) λb o e=>hx b o (Nat.ne_of_lt (Heap.lt_size e)) e
  exact h pins _ σ H xs _ Q I1 (by simpa using rv) hw
@[simp] def ig (is:List Nat) (f:FE):FS:=λρ=>(f ρ).bind λx=>(fP x.1).bind λds=>(df is ds (if aV ds=true then ρ else unown ρ)).map .nx
theorem zC {K:PySem.W.Frag}{is:List Nat}{f:FE}{E:Ends}{σ:St}{H:Hp}(q:tDS K (ig is f) E σ H):xN (tD K f) (zB K is.length (js is)) E σ H:=by
 obtain⟨B0,H0,ρ,r,⟨N,s⟩,e,p⟩:=q
 obtain⟨x,ex,e⟩:=oX e
 obtain⟨ds,es,e⟩:=oX e
 obtain⟨ρ',eρ,e⟩:=oY e
 subst e
 refine⟨N,ρ,x.1,x.2,s.ext.nh,s.rep,ex,λv H1 N1 x1 i1 _=>?_⟩
 obtain⟨k,a,vs,rfl,sq,il⟩:=C8 i1 es
 have s1:=s.grow x1
 refine⟨k,a,vs,rfl,sq.same x1.nh,by rw[il.length];exact iP eρ, ?_⟩
 by_cases hn:aV ds=true
 ·rw[if_pos hn]at eρ
  exact eY s1 (s1.flats il hn) eρ λσ' s'=>p σ' H1 ⟨N1,s'⟩
 ·rw[if_neg hn]at eρ
  exact eY s1.unown (il.mono λa o e=>by rw[ci kQ];exact e) eρ λσ' s'=>p σ' H1 ⟨N1,s'⟩
theorem jM {es:List Expr}{kt:Nat}{is:List Nat}{f:FE}{p2:Pos}(he:JE X e f) (hg:PG X (.Tuple es kt p2) (zB X.K is.length (js is))) (hs:swapsWithSole [.Tuple es kt p2] e pos.line X.env=pure false:=by rfl) (hw:swappedStores [.Tuple es kt p2] e X.env=pure none:=by rfl)
  (h1:(assignEach [.Tuple es kt p2] X.env).map (·.2)=[assign (.Tuple es kt p2) X.env]:=by rfl):JS X (.Assign [.Tuple es kt p2] e pos) (ig is f):=PS.to (yN he hg hs hw h1) λ_ _ _ q=>zC q
@[simp] def yn (i:Nat) (fk fv:FE):FS:=λρ=>match ρ[i]? with
 | some (some (.lst ds,true))=>(fv ρ).bind λv=>(fk ρ).bind λk=>match k.1 with
  | .int j=>(ixN ds.length j).bind λn=>if bo v.1=true then some (.nx (ρ.set i (some (.lst (ds.set n v.1),true))))else none
  | _=>none
 | _=>none
theorem DN {i:Nat}{y:Str}{py pt:Pos}{k:Expr}{fk fv:FE}(hv:JE X e fv) (hk:JE X k fk) (hN:X.N[i]? = some y:=by rfl) (hvis:Vis X.env.scope y:=by first|exact Or.inl rfl|exact Or.inr (Or.inl rfl)|exact Or.inr (Or.inr rfl)) (hd:(y == ("__debug__" : Str))=false:=by decide)
  (hcd:(y == ("__classdict__" : Str))=false:=by decide)
  (ha:∀v,assign (.Subscript (.Name y py) k pt) X.env v=(do
   let ov ←holding [v] (eval (.Name y py) X.env)
   let iv ←holding [v,ov] (eval k X.env)
   standAt pt
   holding [v,ov,iv] (setItem ov iv v)
   release [v,ov,iv] []):=by intro _;rfl)
  (hs:swapsWithSole [.Subscript (.Name y py) k pt] e pos.line X.env=pure false:=by rfl) (hw:swappedStores [.Subscript (.Name y py) k pt] e X.env=pure none:=by rfl)
  (h1:(assignEach [.Subscript (.Name y py) k pt] X.env).map (·.2)=[assign (.Subscript (.Name y py) k pt) X.env]:=by rfl):JS X (.Assign [.Subscript (.Name y py) k pt] e pos) (yn i fk fv):=by
 refine PS.to (yN hv (Df (mQ hN hvis hd hcd) hk yX ha) hs hw h1) λE σ H q=>?_
 obtain⟨B0,H0,ρ,r,⟨N,s⟩,ee,p⟩:=q
 unfold yn at ee
 split at ee
 ·rename_i ds ei
  obtain⟨v,ev,ee⟩:=oX ee
  obtain⟨kk,ek,ee⟩:=oX ee
  obtain⟨kd,kb⟩:=kk
  cases kd with
  | int j =>
   dsimp only at ee
   obtain⟨n,en,ee⟩:=oX ee
   split at ee
   ·rename_i hn
    cases ee
    refine⟨N,ρ,v.1,v.2,s.ext.nh,s.rep,ev,λv1 H1 N1 x1 i1 _=>?_⟩
    have s1:=s.grow x1
    obtain⟨l,vs,ds',z,h1,h2,h3,h4⟩:=s1.owL i _ ei
    cases z
    refine⟨_,h1,N1,ρ,_,_,s1.ext.nh,s1.rep,ek,λkv H2 N2 x2 i2 _=>?_⟩
    cases i2
    have s2:=s1.grow x2
    obtain⟨l',vs',ds',z,k1,k2,k3,k4⟩:=s2.owL i _ ei
    cases z
    rw[h1]at k1;cases k1
    exact⟨l,vs',j,n,rfl,rfl,s2.ext.nh _ _ k2,by rw[k4.length];exact en,p σ _ ⟨_,s2.write ei h1 (IsL.set (s2.flat (i1.mono x2.bn) hn) n k4)⟩⟩
   ·cases ee
  | _=>cases ee
 ·cases ee
@[simp] def G6 (i:Nat) (g:List D->Option (List D)):FS:=λρ=>match ρ[i]? with
 | some (some (.lst ds,true))=>(g ds).map λes=>.nx (ρ.set i (some (.lst es,true)))
 | _=>none
@[simp] def G7 (i:Nat) (f:FE):FS:=λρ=>match ρ[i]? with
 | some (some (.lst ds,true))=>(f ρ).bind λx=>match x.1 with
  | .lst es=>if x.2=true/\aV es=true/\ds.length+es.length<=sizeLine then some (.nx (ρ.set i (some (.lst (ds++es),true))))else none
  | _=>none
 | _=>none
@[simp] def vI:List D->Option (D×Bool)
 | [.int i]=>some (.int i,false)
 | [.bl b]=>some (.int (if b then 1 else 0),false)
 | _=>none
theorem Fp:cA X (.type "int") (rDA X.K vI):=by
 refine cA.to xS λxs H Q q=>?_
 obtain⟨B,ds,d,bb,sB,i,ee,q⟩:=q
 cases i with
 | nil=>simp[vI]at ee
 | cons i1 i2 =>
  cases i2 with
  | cons _ _=>cases i1<;>simp[vI]at ee
  | nil =>
   cases i1<;>try (simp[vI]at ee;done)
   ·simp only[vI]at ee
    cases ee
    exact .inr ⟨_,rfl,q.one sB (.int _)⟩
   ·simp only[vI]at ee
    cases ee
    exact .inl ⟨_,rfl,q.one sB (.int _)⟩
end
open AutoSeq1 (wpAny_loadPart')
set_option maxRecDepth 100000
def sqT (k:Bool):String:=if k=true then "list" else "tuple"
theorem tF (k:Bool) (l:Addr) (items:Array Value) (n:Nat) (dct:Option Addr) (sl:Array (Option Value)) :
  Meets (Builtin.«enumerate.__new__» ⟨[.type "enumerate",.ref l],[]⟩) (λ_ R s=>s.heap.get? l=some { cls:=.type (sqT k),dict:=dct,data:=.seq items n,slots:=sl } /\
   R (.ok (.ret (.ref (s.heap.push (itO k l)).objs.size))) { s with heap:=(s.heap.push (itO k l)).push { cls:=.type "enumerate",data:=.fields #[.none,.bool false,.ref s.heap.objs.size,rawInt 0,.none,.none] } }) :=
 .of_wp λprog w A R s hs=>by
  obtain⟨hp,g,d,tk,os⟩:=s;obtain⟨hl,hs⟩:=hs
  have hsub:=sub_enumerate
  have hL:KSq k (Shared.heap ⟨hp,g,d,tk,os⟩) l items:=by cases k<;>exact⟨_,hl,rfl,n,rfl⟩
  wp_walk using wpAny_loadPart' hl
  refine wpAny_stack_any λst=>wY ?_
  split
  ·rename_i c _ _ _ _ _
   cases (c == Value.type "enumerate")
   ·wp_walk using wpAny_loadPart' hl,rh hL
    exact⟨_,rfl,hs⟩
   ·wp_walk using wpAny_loadPart' hl,rh hL
    exact⟨_,rfl,hs⟩
  ·wp_walk using wpAny_loadPart' hl,rh hL
   exact⟨_,rfl,hs⟩
section
variable {prog:Program}{w:World}{A:Around}{E:Value->Shared->Prop}{s:Shared}
theorem zD {k:Bool}{l:Addr}{items:Array Value}{Q:Value->Shared->Prop}(hL:KSq k s.heap l items)
  (q:∀h',IsEnum h' (s.heap.objs.size+1) s.heap.objs.size 0 .none->KIt k h' s.heap.objs.size l 0->(∀b o,s.heap.get? b=some o->h'.get? b=some o)->Q (.ref (s.heap.objs.size+1)) { s with heap:=h' }) :
  wpAny (model prog w) A (call (.type "enumerate") [.ref l]) Q E s:=by
 have hh:∃(dct:Option Addr) (sl:Array (Option Value)) (n:Nat),s.heap.get? l=some { cls:=.type (sqT k),dict:=dct,data:=.seq items n,slots:=sl }:=by
  cases k<;>(obtain⟨⟨c,dct,dt,sl⟩,hl,hc,n,hd⟩:=hL;dsimp only at hc hd;subst hc;subst hd;exact⟨dct,sl,n,hl⟩)
 obtain⟨dct,sl,n,hl⟩:=hh
 refine callType_new PySem.F.called_enumerate (by decide) (PySem.F.typeCall_enumerate_1 _) (PySem.F.newCall_enumerate_1 _) (λobj=>PySem.F.args_object_init_2 obj _) PySem.F.entry_enumerate_new (tF k l items n dct sl) ⟨hl, ?_⟩
 have n1:(s.heap.push (itO k l)).objs.size=s.heap.objs.size+1:=Heap.size_push ..
 have g2:((s.heap.push (itO k l)).push { cls:=.type "enumerate",data:=.fields #[.none,.bool false,.ref s.heap.objs.size,rawInt 0,.none,.none] }).get? (s.heap.push (itO k l)).objs.size=some _:=Heap.get?_push_size _ rfl
 have g1:((s.heap.push (itO k l)).push { cls:=.type "enumerate",data:=.fields #[.none,.bool false,.ref s.heap.objs.size,rawInt 0,.none,.none] }).get? s.heap.objs.size=some _:=Heap.get?_push_of_some _ (Heap.get?_push_size _ (by cases k<;>rfl))
 rw[n1]at g2
 show _/\_
 rw[n1]
 refine⟨⟨_,g2,rfl⟩,q _ g2 ?_ λb o e=>Heap.get?_push_of_some _ (Heap.get?_push_of_some _ e)⟩
 cases k<;>exact⟨_,g1,rfl,rfl⟩
theorem DO (hA:A.handled=none) {k:Bool}(it l:Addr) (hne:l≠it) (items:Array Value):Draws prog w A it [it,l] items.size (λi v=>items[i]? = some v) (λi h=>KIt k h it l i/\KSq k h l items) where
 live:=λi h st=>let ⟨o,e,_⟩:=st.1.ob;⟨o,e⟩
 frame:=λi h h' st kk=>⟨st.1.upon λo e=>kk it (by simp) o e,st.2.upon λo e=>kk l (by simp) o e⟩
 item:=λi s Q E hi st q=>ym st.1 st.2 (v:=items[i]) (by simp[hi]) λh' st' sb=>q _ h' s.toks (by simp[hi]) ⟨st',st.2.upon λo e=>sb.extBut _ _ hne e⟩ sb
 done:=λs Q E st q=>tE hA st.1 st.2 (by simp) q
theorem DP (hA:A.handled=none) {k:Bool}(it l:Addr) (items:Array Value) (n:Nat) (hn:items[n]? = none):Draws prog w A it [it,l] n (λ_ _=>True) (λi h=>(KIt k h it l i/\KSq k h l items)/\i=n) where
 live:=λi h st=>let ⟨o,e,_⟩:=st.1.1.ob;⟨o,e⟩
 frame:=λi h h' st kk=>⟨⟨st.1.1.upon λo e=>kk it (by simp) o e,st.1.2.upon λo e=>kk l (by simp) o e⟩,st.2⟩
 item:=λi s Q E hi st q=>absurd st.2 (Nat.ne_of_lt hi)
 done:=λs Q E st q=>tE hA st.1.1 st.1.2 hn q
end
def Ite (K:PySem.W.Frag) (k:Bool) (a:Addr):It :=
  ⟨λi H=>∃xs x,SqK k K H a xs/\xs[i]? = some x,
   λi H v H'=>∃T x,v=.ref T/\H T=none/\H'=upd H T (.tup [.int i,x])/\∀xs,SqK k K H a xs->xs[i]? = some x,
   λi H=>∃xs,SqK k K H a xs/\xs.length<=i⟩
theorem yo {P:Program}{w:World}{K:PySem.W.Frag}{es:List Expr}{kt:Nat}{pt:Pos}{k:Bool}{a e it:Addr}(hei:e≠it) (hae:a≠e) (hai:a≠it) :
  Turn P w K (.Tuple es kt pt) (Ite K k a) [e,it] e (λi h=>(∃old,IsEnum h e it i old)/\KIt k h it a i) where
 mem:=by simp
 obj:=λi h st b hb=>by
  obtain⟨⟨old,he⟩,t1⟩:=st
  simp at hb
  rcases hb with rfl|rfl
  ·exact⟨_,he,λv z=>by cases z⟩
  ·exact t1.ob
 keep:=λi h h' st kk=>by
  obtain⟨⟨old,he⟩,t1⟩:=st
  exact⟨⟨old,kk e (by simp) _ he⟩,t1.upon λo q=>kk it (by simp) o q⟩
 item:=by
  intro X hP hw hK hc i pins s σ H E I hf st hg
  subst hP hw hK
  obtain⟨⟨old,he⟩,t1⟩:=st
  obtain⟨xs,x,q1,hx⟩:=hg
  obtain⟨its,r1,p1,z1⟩:=q1.vals I
  obtain⟨u,hu,ru⟩:=r1.get hx
  have fresh:H s.heap.objs.size=none:=I.hok.fresh (Nat.le_refl _)
  have ilt:i<its.toArray.size:=by rw[List.size_toArray];exact(List.getElem?_eq_some_iff.mp hu).1
  have hel:e≠s.heap.objs.size:=Nat.ne_of_lt (Heap.lt_size he)
  have hil:it≠s.heap.objs.size:=by obtain⟨o,q,_⟩:=t1.ob;exact Nat.ne_of_lt (Heap.lt_size q)
  refine wpAny_pyNext_enum_itemD (DO (A:=X.A.in1) (I.ok.hd hc) it a hai its.toArray) he ⟨t1,p1⟩ ilt hei (by simp[hei,hae.symm]) λv h' tk hv ho st' hT hsz hk=>?_
  have ev:v=u:=by
   have hv':its[i]? = some v:=by simpa using hv
   rw[hu]at hv';exact(Option.some.inj hv').symm
  subst ev
  refine⟨_,rfl,wpAny_letOwnedTupleGo_enum (s:={ s with heap:=h',toks:=tk+1 }) ho λh2 he2 s2=>?_⟩
  have s2':Heap.SameBut e h' h2:=s2
  have kk:∀b o,b∉[e,it]->s.heap.get? b=some o->h2.get? b=some o:=λb o hb q=>s2'.extBut _ _ (λz=>hb (by simp[z])) (hk b o (λz=>hb (by simp[z])) (λz=>hb (by simp[z])) q)
  have new:ca X.prog X.w (upd H s.heap.objs.size (.tup [.int i,x])) h2 s.heap.objs.size (.tup [.int i,x]):=⟨by show 2<=sizeLine;decide,[.int i tk,v],.cons ⟨tk,rfl⟩ (.cons ru .nil),⟨_,s2'.extBut _ _ hel.symm hT,rfl,_,rfl⟩⟩
  refine⟨.ref s.heap.objs.size,upd H s.heap.objs.size (.tup [.int i,x]),Fo (s:=s) (t':=tk+1) I hf kk (Nat.le_refl _) new,rfl,⟨_,x,rfl,fresh,rfl,λzs hq=>by rw[SqK.inj I hq q1];exact hx⟩, ?_,λb hb=>?_⟩
  ·exact⟨⟨_,by have:=he2;rw[show((i:Int)+1)=((i+1:Nat):Int) by omega]at this;exact this⟩,st'.1.upon λo q=>s2'.extBut _ _ hei.symm q⟩
  ·have hne:b≠s.heap.objs.size:=by
    simp at hb
    rcases hb with rfl|rfl
    ·exact hel
    ·exact hil
   rw[aG hne];exact(hf b hb).1
 done:=by
  intro X hP hw hK hc i pins s σ H E I hf st hg
  subst hP hw hK
  obtain⟨⟨old,he⟩,t1⟩:=st
  obtain⟨xs,q1,hl⟩:=hg
  obtain⟨its,r1,p1,z1⟩:=q1.vals I
  have n1:=r1.length
  refine wpAny_pyNext_enum_endD (DP (A:=X.A.in1) (I.ok.hd hc) it a its.toArray i (by simp;omega)) he ⟨⟨t1,p1⟩,rfl⟩ λh' hk=>⟨rfl, ?_⟩
  exact rj (t':=s.toks) I hf λb o hb q=>hk b o (λz=>hb (by simp[z])) q
 self:=λ_ _ _ _ _ st h=>let ⟨⟨_,he⟩,_⟩:=st;wpAny_pyIter_enum he h
section
variable {X:Cx}{a b e:Expr}{pos:Pos}{p:Pos}
theorem tG:bootBuiltins "enumerate" = some (.type "enumerate"):=by decide +kernel
def pK (ds:List D):List D:=ds.mapIdx λi d=>.tup [.int i,d]
@[simp] def zE (fa:FE):FA:=λρ=>(fa ρ).bind λx=>(fP x.1).map pK
theorem Bu {K:PySem.W.Frag}{N:Hp}{k:Bool}{l:Addr}{vs:List V}{ds:List D}(h1:SqK k K N l vs) (i1:IsL K N vs ds):qT K (Ite K k l) N (pK ds):=by
 intro i H' sm
 have n1:=i1.length
 refine⟨λd ed=>?_,λhl=>⟨vs,h1.same sm, ?_⟩⟩
 ·unfold pK at ed
  rw[List.getElem?_mapIdx]at ed
  obtain⟨x,e1,rfl⟩:=oY ed
  obtain⟨v,ev,iv⟩:=i1.get e1
  refine⟨⟨vs,v,h1.same sm,ev⟩,λr H2 hy=>?_⟩
  obtain⟨T,v',rfl,hT,rfl,f1⟩:=hy
  have e3:=f1 vs (h1.same sm)
  rw[ev]at e3;cases e3
  have xt:=Ext.laid (o:=.tup [.int i,v]) sm hT
  exact⟨_,xt,.tup (SqT.of aI) (.cons (.int _) (.cons (iv.mono xt.bn) .nil))⟩
 ·unfold pK at hl
  rw[List.length_mapIdx]at hl
  omega
theorem Bv {es:List Expr}{kt:Nat}{pt:Pos}{fa:FE}(hm:X.mg "enumerate" = none) (ha:JE X a fa) (hg:Gl X "enumerate":=by rfl) (hs:starEach [a] X.env=[(false,eval a X.env)]:=by rfl) :
  JI X (.Tuple es kt pt) (.Call (.Name "enumerate" p) [a] [] pos) (zE fa):=by
 intro pins s σ H R I q
 refine Call_ (kM I hg hm tG (PyProof.Rows.callWith_type1 (thn (ac ha ah hs pos pins s σ H (λvs H1=>∃(k:Bool) (l:Addr) (us:List V),vs=[.ref l]/\SqK k X.K H1 l us/\R (Ite X.K k l) H1) I ?_) λus s1 ⟨vs,H1,I1,r1,q1⟩=>?_) hs rfl))
 ·obtain⟨B,ρ,ds,sB,r,ee,q⟩:=q
  obtain⟨x1,ex,ee⟩:=oX ee
  obtain⟨xs,exs,ee⟩:=oY ee
  subst ee
  refine⟨B,ρ,[x1.1],sB,r,by simp[ae,ak,ex],λvs H1 N1 xt i1=>?_⟩
  cases i1 with
  | cons j1 j2 =>
   cases j2
   obtain⟨k1,l1,us,rfl,s1,m1⟩:=C8 j1 exs
   exact⟨k1,l1,us,rfl,s1.same xt.nh,q _ H1 N1 xt (Bu s1 m1)⟩
 ·obtain⟨k,l,ws,rfl,h1,q⟩:=q1
  obtain⟨u1,rfl,ru1⟩:=r1.one
  cases ru1
  obtain⟨its,v1,p1,z1⟩:=h1.vals I1
  have lt1:=p1.lt
  refine zD p1 λh' c1 c2 ck=>?_
  refine wpAny_pyIter_enum c1 ⟨s1.heap.objs.size+1,[s1.heap.objs.size+1,s1.heap.objs.size],_,_,H1,rfl,I1.kept (t':=s1.toks) ck,
   yo (Nat.succ_ne_self _) (Nat.ne_of_lt (Nat.lt_succ_of_lt lt1)) (Nat.ne_of_lt lt1),⟨⟨_,c1⟩,c2⟩,λb hb=>?_,q⟩
  have hle:s1.heap.objs.size<=b:=by
   simp at hb
   rcases hb with rfl|rfl
   ·exact Nat.le_succ _
   ·exact Nat.le_refl _
  exact I1.fpOk hle (I1.hok.fresh hle)
end
end DL
namespace DL
open PySem PySem.Spec PyProof.Rows
theorem yp (t:SetTable) (es:Array (Int×Value)) (n:Nat):(relayAll t es n).2.1.led=t.led:=by
 unfold relayAll
 split
 ·rename_i t' order h
  unfold SetTable.relaid SetTable.laid at h
  obtain⟨ow,_,h⟩:=oX h
  cases h
  dsimp only
  split<;>rfl
 ·rfl
theorem tH (t:SetTable) (es:Array (Int×Value)) (n:Nat) (hp:t.plain=false):(relayAll t es n).2.1.plain=false:=by
 unfold relayAll
 split
 ·rename_i t' order h
  unfold SetTable.relaid SetTable.laid at h
  obtain⟨ow,_,h⟩:=oX h
  cases h
  dsimp only
  split
  ·exact hp
  ·rfl
 ·rfl
theorem Bw (t:SetTable) (es:Array (Int×Value)) (h:Int) (x:Value):(layNew t es h x).2.1.led=t.led:=by
 unfold layNew
 split
 ·dsimp only[SetTable.put,SetTable.orStandIn]
  repeat' (first|rfl|split)
 ·rfl
structure TabT (w:World) (es:Array (Int×Value)) (t:SetTable):Prop where
 fits:t.fits es.size=true
 led:t.led = !w.params.followText "set-order"
 plain:es.size≠0->t.plain=false
def ge (prog:Program) (w:World) (h:Heap) (a:Addr) (ts:List Str):Prop :=
 ∃o es ep t,h.get? a=some o/\o.ExactSet/\o.data=.set es ep t/\ElemsOf (PySem.strKind prog w) es.toList/\(es.toList.map (λe=>strOf e.2)).Perm ts/\ts.Nodup/\ts.length<scanBound/\TabT w es t
def gZ (ts:List Str) (x:Str):List Str:=if x∈ts then ts else ts++[x]
theorem zF (ts:List Str) (x:Str):(gZ ts x).length<=ts.length+1:=by unfold gZ;split<;>simp
theorem tI {k:Str}{v:Value}(h:Value.isStrOf k v=true):strOf v=k:=by obtain⟨t,rfl⟩:=Value.isStrOf_shape h;rfl
section
variable {prog:Program}{w:World}{A:Around}{E:Value->Shared->Prop}{s:Shared}
theorem pL {es:Array (Int×Value)}{ts:List Str}(hel:ElemsOf (PySem.strKind prog w) es.toList) (hp:(es.toList.map (λe=>strOf e.2)).Perm ts) (k:Str):k∈ts ↔ ∃e∈es.toList,(PySem.strKind prog w).is k e.2=true:=by
 rw[←hp.mem_iff,List.mem_map]
 constructor
 ·rintro⟨e,he,rfl⟩
  obtain⟨⟨k',hk,_⟩,_⟩:=hel e he
  have hk':Value.isStrOf k' e.2=true:=hk
  refine⟨e,he, ?_⟩
  show Value.isStrOf (strOf e.2) e.2=true
  rw[tI hk'];exact hk'
 ·rintro⟨e,he,hk⟩
  exact⟨e,he,tI hk⟩
theorem pM {h:Heap}{a:Addr}{o:Obj}{es:Array (Int×Value)}{ep:Nat}{t:SetTable}(ho:h.get? a=some o) (hd:o.data=.set es ep t) (es':Array (Int×Value)) (t':SetTable) :
  (h.update a (Obj.putSet es' t')).get? a=some { o with data:=.set es' (ep+1) t' }:=by
 have:=Heap.get?_update_self (Obj.putSet es' t') ho (by rw[putSet_of es' t' hd];rfl)
 rw[putSet_of es' t' hd]at this;exact this
theorem tJ {g:Bool->Sem Unit}(hg:∀(b:Bool) (s₁:Shared) (Q':Unit->Shared->Prop),Q' () s₁->wpAny (model prog w) A (g b) Q' E s₁)
  {a:Addr}{o:Obj}{es:Array (Int×Value)}{ep:Nat}{t:SetTable}(ho:s.heap.get? a=some o) (hex:o.ExactSet) (hd:o.data=.set es ep t)
  {es1:Array (Int×Value)}{t2:SetTable}{ts:List Str}(hel1:ElemsOf (PySem.strKind prog w) es1.toList) (hp1:(es1.toList.map (λe=>strOf e.2)).Perm ts) (nd:ts.Nodup)
  (hb1:ts.length<scanBound) (hf2:t2.fits es1.size=true) (hl2:t2.led = !w.params.followText "set-order") (hpl:t2.plain=false) {wasDummy:Bool}{R:Option Bool->Shared->Prop}
  (h:∀h',Heap.SameBut a s.heap h'->ge prog w h' a ts->R (some true) { s with heap:=h' }) :
  wpAny (model prog w) A (do
    storeSet a es1 t2
    if(!wasDummy && t2.tooFull)=true then do
      g (relayAll t2 es1 (SetTable.grown es1.size)).2.2
      storeSet a (relayAll t2 es1 (SetTable.grown es1.size)).1 (relayAll t2 es1 (SetTable.grown es1.size)).2.1
      pure (some true)
     else pure (some true)) R E s:=by
 have sz1:es1.size=ts.length:=by rw[←hp1.length_eq,List.length_map,Array.length_toList]
 refine wX (wpAny_storeSet_of ho hd ?_ (fits_of_scanBound (by rw[sz1];exact hb1)))
 have ho1:=pM ho hd es1 t2
 have hsb1:=Heap.SameBut.update s.heap a (Obj.putSet es1 t2)
 split
 ·have hp:=relayAll_perm t2 es1 (SetTable.grown es1.size)
  have hfr:=relayAll_fits t2 es1 (SetTable.grown es1.size)
  have hle:=yp t2 es1 (SetTable.grown es1.size)
  have hpa:=tH t2 es1 (SetTable.grown es1.size) hpl
  generalize hRl:relayAll t2 es1 (SetTable.grown es1.size)=Rl at hp hfr hle hpa ⊢
  obtain⟨es2,t3,gave2⟩:=Rl
  dsimp only at hp hfr hle hpa ⊢
  have hel2:ElemsOf (PySem.strKind prog w) es2.toList:=hel1.perm hp
  have hsz:es2.size=es1.size:=by rw[←Array.length_toList,hp.length_eq,Array.length_toList]
  refine wX (hg _ _ _ ?_)
  refine wX (wpAny_storeSet_of ho1 rfl ?_ (fits_of_scanBound (by rw[hsz,sz1];exact hb1)))
  have ho2:=pM ho1 rfl es2 t3
  exact wY (h _ (hsb1.trans (Heap.SameBut.update _ a _)) ⟨_,es2,_,t3,ho2,hex,rfl,hel2,(hp.map _).trans hp1,nd,hb1,hfr,hle.trans hl2,λ_=>hpa⟩)
 ·exact wY (h _ hsb1 ⟨_,es1,_,t2,ho1,hex,rfl,hel1,hp1,nd,hb1,hf2,hl2,λ_=>hpl⟩)
theorem vJ {a:Addr}{ts:List Str}{k:Str}{tk:Tok}{Q:Bool->Shared->Prop}(hS:ge prog w s.heap a ts) (hroom:ts.length+1<scanBound)
  (h:∀b h',Heap.SameBut a s.heap h'->ge prog w h' a (gZ ts k)->Q b { s with heap:=h' }) :
  wpAny (model prog w) A (setAddHashed a (.str k tk) ((PySem.strKind prog w).hash k)) Q E s:=by
 have hS0:=hS
 obtain⟨o,es,ep,t,ho,hex,hd,hel,hperm0,nd,hb,hf,hled,hpl⟩:=hS
 have hkey:(PySem.strKind prog w).is k (.str k tk)=true:=strKind_is prog w k tk
 have sz:es.size=ts.length:=by rw[←hperm0.length_eq,List.length_map,Array.length_toList]
 unfold setAddHashed setAddHashedIn
 refine wpAny_holding (wX (wpAny_setState_of ho hd hf ?_))
 dsimp only
 rw[byScan_of (x:=.str k tk) rfl (by rw[sz];exact hb) hel]
 simp only[↓reduceIte]
 unfold setAddByScan
 refine wX ?_
 refine wX (wpAny_rule ?_)
 refine wX (wpAny_setScan_of hkey ho hd hf hel ?_)
 cases hr:List.findIdx? (λe=>(PySem.strKind prog w).is k e.2) es.toList with
 | some j =>
  dsimp only
  obtain⟨hj,hpj,_⟩:=List.findIdx?_eq_some_iff_getElem.mp hr
  have hm:k∈ts:=(pL hel hperm0 k).mpr ⟨es.toList[j],List.getElem_mem hj,hpj⟩
  refine wY (wY ?_)
  have e:gZ ts k=ts:=by unfold gZ;rw[if_pos hm]
  exact h false s.heap (Heap.SameBut.refl a s.heap) (by rw[e];exact hS0)
 | none =>
  dsimp only
  have hm:k∉ts:=λz=>by
   obtain⟨e,he,hp⟩:=(pL hel hperm0 k).mp z
   have:=List.findIdx?_eq_none_iff.mp hr e he
   rw[hp]at this;exact Bool.noConfusion this
  have ea:gZ ts k=ts++[k]:=by unfold gZ;rw[if_neg hm]
  have hgw:∀(b:Bool) {s₁:Shared}{Q':Unit->Shared->Prop},Q' () s₁->wpAny (model prog w) A (match b with|true=>rule "set.scan.the-table-gave-way" | false=>pure ()) Q' E s₁ :=
   λb s₁ Q' hq=>by cases b<;>first|exact wY hq|exact wpAny_rule hq
  have hperm:=layNew_perm t es ((PySem.strKind prog w).hash k) (.str k tk)
  have hfits:=layNew_fits t es ((PySem.strKind prog w).hash k) (.str k tk)
  have hl1:=Bw t es ((PySem.strKind prog w).hash k) (.str k tk)
  generalize hL:layNew t es ((PySem.strKind prog w).hash k) (.str k tk)=L at hperm hfits hl1 ⊢
  obtain⟨es1,t1,wasDummy,gave⟩:=L
  dsimp only at hperm hfits hl1 ⊢
  rw[Array.toList_push]at hperm
  have hel1:ElemsOf (PySem.strKind prog w) es1.toList:=(hel.push hkey rfl).perm hperm
  have hp1:(es1.toList.map (λe=>strOf e.2)).Perm (ts++[k]):=(hperm.map _).trans (by rw[List.map_append];exact hperm0.append_right _)
  have nd1:(ts++[k]).Nodup:=by
   rw[List.nodup_append]
   refine⟨nd,by simp,λx hx y hy=>?_⟩
   rw[List.mem_singleton]at hy
   subst hy
   exact λz=>hm (z ▸ hx)
  have hb1:(ts++[k]).length<scanBound:=by rw[List.length_append];exact hroom
  refine wX (hgw _ ?_)
  have hend:∀h',Heap.SameBut a s.heap h'->ge prog w h' a (ts++[k])->Q true { s with heap:=h' }:=λh' hsb hS'=>h true h' hsb (by rw[ea];exact hS')
  split
  ·refine wX ?_
   rw[hashByValue_scannable 8 (x:=.str k tk) rfl]
   refine wY ?_
   refine tJ ?_ ho hex hd hel1 hp1 nd1 hb1 ?_ ?_ ?_ ?_
   ·intro b s₁ Q' hq;cases b<;>first|exact wY hq|exact wpAny_rule hq
   ·exact SetTable.fits_plain_off hfits
   ·exact hl1.trans hled
   ·rfl
   ·intro h' hsb hS';dsimp only;exact wY (hend h' hsb hS')
  ·rename_i hnp
   refine wX (wY ?_)
   simp only[↓reduceIte]
   refine tJ ?_ ho hex hd hel1 hp1 nd1 hb1 hfits (hl1.trans hled) (by simpa using hnp) ?_
   ·intro b s₁ Q' hq;cases b<;>first|exact wY hq|exact wpAny_rule hq
   ·intro h' hsb hS';dsimp only;exact wY (hend h' hsb hS')
end
def fM (ss:List Str):List Str:=ss.foldl gZ []
theorem vK {ts:List Str}(h:ts.Nodup) (x:Str):(gZ ts x).Nodup:=by
 unfold gZ;split
 ·exact h
 ·rename_i hm
  rw[List.nodup_append]
  refine⟨h,by simp,λy hy z hz=>?_⟩
  rw[List.mem_singleton]at hz
  subst hz
  exact λe=>hm (e ▸ hy)
theorem tK {ts:List Str}{x y:Str}:y∈gZ ts x↔y∈ts∨y=x:=by
 unfold gZ;split
 ·rename_i hm;exact⟨.inl,λz=>z.elim id λe=>e ▸ hm⟩
 ·simp
theorem rm (ss:List Str):∀ts:List Str,(ss.foldl gZ ts).length<=ts.length+ss.length:=by
 induction ss with
 | nil=>intro ts;simp
 | cons x r ih=>intro ts;rw[List.foldl_cons];have:=ih (gZ ts x);have:=zF ts x;simp only[List.length_cons];omega
theorem n8 (ss:List Str):(fM ss).length<=ss.length:=by have:=rm ss [];simpa [fM]using this
theorem yq (ss:List Str) (x:Str):fM (ss++[x])=gZ (fM ss) x:=by unfold fM;rw[List.foldl_append];rfl
theorem StrsAre.at:∀ {vs:List Value}{ss:List Str},StrsAre vs ss->∀(i:Nat) (v:Value),vs[i]? = some v->∃x t,v=.str x t/\ss[i]? = some x
 | _,_,.nil,i,v,h=>by simp at h
 | _,_,.cons x t hr,0,v,h=>by simp at h;exact⟨x,t,h.symm,rfl⟩
 | _,_,.cons x t hr,i+1,v,h=>by
  simp only[List.getElem?_cons_succ]at h
  exact StrsAre.at hr i v h
theorem ge.at {prog:Program}{w:World}{h h':Heap}{a:Addr}{ts:List Str}(x:ge prog w h a ts) (k:∀o,h.get? a=some o->h'.get? a=some o):ge prog w h' a ts:=by
 obtain⟨o,es,ep,t,ho,r⟩:=x
 exact⟨o,es,ep,t,k o ho,r⟩
section
variable {prog:Program}{w:World}{A:Around}{R:Result->Shared->Prop}{I:Addr}{fp wr:List Addr}{G:Array GenState->Array GenState->Prop}{n:Nat}{P:Nat->Value->Prop}{St:Nat->Shared->Prop}
theorem rq (W:WalksS prog w A.in1 I fp wr G n P St) (S:Addr) (hSf:S∉fp) (ss:List Str) (hn:ss.length=n)
  (hval:∀i v,P i v->∃x t,v=.str x t/\ss[i]? = some x) (hb:n+1<scanBound) :
  ∀(k i:Nat) (s:Shared),n - i=k->i<=n->St i s->ge prog w s.heap S (fM (ss.take i)) ->
   (∀s',Moved (S::wr) G s s'->ge prog w s'.heap S (fM ss)->R (.ok (.ret .none)) s') ->
   codeAny (model prog w) A (.builtin "set.update.loop" ⟨[.ref S,.ref I],[]⟩) R s:=by
 have hSw:S∉wr:=λh=>hSf (W.sub _ h)
 have hsub:∀b∈wr,b∈S::wr:=λb hb=>mZ _ hb
 intro k
 induction k with
 | zero =>
  intro i s hk hi hst hS hR
  have hin:i=n:=by omega
  subst hin
  refine codeAny_builtin PyProof.Rows.F.entry_set_update_loop ?_
  rw[Around.under_plainId PyProof.Rows.F.plain_set_update_loop _]
  show wpAny _ A.in1 (pyNext (.ref I)>>=_) _ _ s
  refine wX (W.done s _ _ hst λs' hm=>?_)
  show wpAny _ A.in1 (ret Value.none) _ _ s'
  refine wY (hR s' (hm.mono hsub) ?_)
  rw[List.take_of_length_le (by omega)]at hS
  exact hS.at λo e=>hm.heap S _ hSw e
 | succ k ih =>
  intro i s hk hi hst hS hR
  have hlt:i<n:=by omega
  refine codeAny_builtin PyProof.Rows.F.entry_set_update_loop ?_
  rw[Around.under_plainId PyProof.Rows.F.plain_set_update_loop _]
  show wpAny _ A.in1 (pyNext (.ref I)>>=_) _ _ s
  refine wX (W.item i s _ _ hlt hst λv s' hP hst' hm=>?_)
  obtain⟨x,t,rfl,hx⟩:=hval i v hP
  have hS':ge prog w s'.heap S (fM (ss.take i)):=hS.at λo e=>hm.heap S _ hSw e
  show wpAny _ A.in1 (holding [Value.str x t] (setAdd S (.str x t))>>=_) _ _ s'
  refine wX (wpAny_holding ?_)
  unfold setAdd
  refine wpAny_holding ?_
  refine wX ((PySem.strKind prog w).pyHash (k:=x) (strKind_is prog w x t) ?_)
  have hl:(fM (ss.take i)).length+1<scanBound:=by have:=n8 (ss.take i);rw[List.length_take]at this;omega
  refine vJ (s:={ s' with toks:=s'.toks+1 }) hS' hl λb h' hsb hS2=>?_
  have hS3:ge prog w h' S (fM (ss.take (i+1))):=by
   rw[List.take_add_one,hx,Option.toList_some,yq];exact hS2
  refine wY ⟨plainId_quiet PyProof.Rows.F.plain_set_update_loop _,ih (i+1) _ (by omega) hlt (W.frame _ s' _ _ hst' (Nat.le_succ _) λb hb o e=>?_) hS3 λs'' hm'' hS''=>?_⟩
  ·rw[hsb.2 b (λh:b=S=>hSf (by rw[←h];exact hb))];exact e
  ·refine hR s'' (Moved.trans W.gtrans ((hm.mono hsub).then_heap (Nat.le_succ _) λb o hb e=>?_) hm'') hS''
   rw[hsb.2 b (λh:b=S=>hb (by rw[h];exact mX))];exact e
end
section
variable {prog:Program}{w:World}{A:Around}{E:Value->Shared->Prop}{s:Shared}
abbrev di (w:World):Obj:={ cls:=.type "set",dict:=none,data:=.set #[] 0 (.fresh 0 0 (!w.params.followText "set-order")) }
theorem tL (a:Value) {Q₁:Value->Shared->Prop}
  (h:Q₁ (.ref s.heap.objs.size) { s with heap:=s.heap.push (di w) }) :
  codeAny (model prog w) A (.call (.builtin "set.__new__") ⟨[.type "set",a],[]⟩) (wants Q₁ E) s:=by
 refine codeAny_of_tree ?_
 show wpAny _ A.in1 (do checkBuiltinCall "set.__new__" ⟨[.type "set",a],[]⟩;again (.builtin "set.__new__" ⟨[.type "set",a],[]⟩)) _ _ s
 refine wX (wpAny_of_eq (PySem.F.newCall_set_1 a) (wY ⟨plainId_quiet PySem.F.plain_set_new _,codeAny_builtin PySem.F.entry_set_new ?_⟩))
 rw[Around.under_plainId PySem.F.plain_set_new _]
 unfold Builtin.«set.__new__» Builtin.Frozenset.newClass
 have hsub:=sub_set_self
 obtain⟨hp,g,d,tk,os⟩:=s
 dsimp only
 wp_walk
 refine wpAny_askSetting (wY ?_)
 dsimp only
 simp only[newObj]
 refine wX (wpAny_alloc (wY ?_))
 exact wY h
set_option maxHeartbeats 3200000 in
theorem nA {l:Addr}{items:Array Value}{ss:List Str}{Q:Value->Shared->Prop}
  (hh:A.handled=none) (hl:s.heap.IsList l items) (hi:StrsAre items.toList ss) (hb:items.size+1<scanBound)
  (h:∀(h':Heap) (tk:Nat),ge prog w h' s.heap.objs.size (fM ss) ->
   (∀b o,b<s.heap.objs.size->s.heap.get? b=some o->h'.get? b=some o)->Q (.ref s.heap.objs.size) { s with heap:=h',toks:=tk }) :
  wpAny (model prog w) A (call (.type "set") [.ref l]) Q E s:=by
 obtain⟨c,tl,hmro⟩:=PySem.F.called_set.mro
 have hmade:=PySem.F.called_set.made
 have hsub:=PySem.F.called_set.sub
 refine wpAny_call (codeAny_of_tree ?_)
 show wpAny _ _ (callAny (.type "set") _) _ _ _
 refine wY ⟨Code.quiet_builtin _ (by decide +kernel),codeAny_builtin PySem.F.entry_type_call ?_⟩
 rw[Around.under_plain (weight_type_call_type "set" [.ref l] []) rfl]
 have h1:=PySem.F.called_set.notType
 have h2:=PySem.F.called_set.canCreate
 have hct:=PySem.F.typeCall_set_1 (.ref l)
 have hlen:ss.length=items.size:=by have:=hi.strs;rw[←this,List.length_map,Array.length_toList]
 repeat (any_goals (first|assumption|wp_step))
 refine codeAny_mono (tL (.ref l) (E:=E) (Q₁:=λobj s₁=>obj=.ref s.heap.objs.size/\s₁={ s with heap:=s.heap.push (di w) }) ⟨rfl,rfl⟩) λr s₁ hr=>?_
 cases r with
 | error e=>exact hr
 | ok fl =>
  cases fl with
  | ret obj =>
   obtain⟨rfl,rfl⟩:=hr
   have hS:(s.heap.push (di w)).get? s.heap.objs.size=some (di w):=Heap.get?_push_size _ rfl
   have hT:Shared.TypeIs { s with heap:=s.heap.push (di w) } (.ref s.heap.objs.size) "set":=⟨_,hS,rfl⟩
   have hli:=PySem.F.called_set.init.lookup
   have hbi:=PySem.F.called_set.init.bind (.ref s.heap.objs.size)
   repeat (any_goals (first|assumption|wp_step))
   refine codeAny_mono (codeAny_call_builtin (R:=wants (λr s₂=>r=.none/\∃h' tk,s₂={ s with heap:=h',toks:=tk } /\
     ge prog w h' s.heap.objs.size (fM ss) /\
     (∀b o,b<s.heap.objs.size->s.heap.get? b=some o->h'.get? b=some o)) E) PySem.F.called_set.init.plain PySem.F.entry_set_init (check_set_init_1 hT ?_)) λr₂ s₂ hr₂=>?_
   ·obtain⟨ol,hol,hcl,nl,hdl⟩:=hl
    obtain⟨ocls,odict,odata,oslots⟩:=ol
    simp only at hcl hdl
    subst hcl;subst hdl
    have hol':(s.heap.push (di w)).get? l=some { cls:=.type "list",dict:=odict,data:=.seq items nl,slots:=oslots }:=Heap.get?_push_of_some _ hol
    have hsls:=PySem.F.sub_list_set
    have hslf:=PySem.F.sub_list_frozenset
    have hne:(Value.type "list" == Value.type "dict")=false:=by decide
    have hl1:(s.heap.push (di w)).IsList l items:=⟨_,hol',rfl,nl,rfl⟩
    unfold Builtin.«set.__init__» noKeywords Builtin.Frozenset.updateFrom
    generalize hPI:pyIter=PI
    wp_walk
    subst hPI
    refine wpAny_pyIter_list hl1 ?_
    refine wX (wpAny_runValue ?_)
    have hlS:l<s.heap.objs.size:=Heap.lt_size hol
    have hh3:A.in1.in1.in1.handled=none:=by simp[hh]
    have hneI:l≠(s.heap.push (di w)).objs.size:=by
     rw[Heap.size_push];exact Nat.ne_of_lt (Nat.lt_succ_of_lt hlS)
    have hSf:s.heap.objs.size∉[(s.heap.push (di w)).objs.size,l]:=by
     rw[Heap.size_push];simp only[List.mem_cons,List.mem_singleton,List.not_mem_nil,or_false,not_or]
     exact⟨Nat.ne_of_lt (Nat.lt_succ_self _),Nat.ne_of_gt hlS⟩
    have hval:∀(i:Nat) (v:Value),items[i]? = some v->∃x t,v=.str x t/\ss[i]? = some x:=λi v hv =>
     StrsAre.at hi i v (by rw[Array.getElem?_toList];exact hv)
    refine rq ((Walks.list hh3 _ l hneI items).toS) s.heap.objs.size
     hSf ss hlen hval hb (items.size - 0) 0 _ (by omega) (Nat.zero_le _)
     ⟨⟨_,Heap.get?_push_size _ rfl,rfl,rfl⟩,(hl1.push _)⟩ ?hS0 ?hR
    case hS0 =>
     have hget:((s.heap.push (di w)).push { cls:=.type "list_iterator",data:=.fields #[.ref l,.int 0 0] }).get? s.heap.objs.size
       = some (di w):=Heap.get?_push_of_some _ hS
     exact⟨_,#[],0,_,hget,⟨rfl,rfl,rfl⟩,rfl,λe he=>by simp at he,List.Perm.refl _,List.nodup_nil,(by show(0:Nat)<scanBound;decide),rfl,rfl,λz=>absurd rfl z⟩
    case hR =>
     intro s' hm hS'
     obtain⟨h',g',d',tk',os'⟩:=s'
     have eg:g'=s.gens:=hm.gens
     have ed:d'=s.drawn:=hm.drawn
     have eo:os'=s.os:=hm.os
     subst eg;subst ed;subst eo
     show wpAny _ _ _ _ _ _
     refine wY ?_
     show wpAny _ _ (ret Value.none) _ _ _
     refine wY ⟨rfl,h',tk',rfl,hS',λb o hb e=>?_⟩
     have hb1:b≠s.heap.objs.size:=Nat.ne_of_lt hb
     have hb2:b≠(s.heap.push (di w)).objs.size:=by
      rw[Heap.size_push];exact Nat.ne_of_lt (Nat.lt_succ_of_lt hb)
     exact hm.heap b o (by simp only[List.mem_cons,List.mem_singleton,List.not_mem_nil,or_false,not_or];exact⟨hb1,hb2⟩) (Heap.get?_push_of_some _ (Heap.get?_push_of_some _ e))
   ·cases r₂ with
    | error e=>exact hr₂
    | ok fl₂ =>
     cases fl₂ with
     | ret r =>
      obtain⟨rfl,h',tk,rfl,hS',hk'⟩:=hr₂
      repeat (any_goals (first|assumption|wp_step))
      exact h _ _ hS' hk'
     | _=>exact hr₂.elim
  | _=>exact hr.elim
end
open Sem (wp)
section
variable {M:Model}{A:Around}{E:Value->Shared->Prop}{s:Shared}
theorem By {src:Source}{n:Nat}{Q:Nat->Shared->Prop}(hn:n≠0) (h:∀k d,k<n->Q k { s with drawn:=d }):wpAny M A (choose src n) Q E s:=by
 intro Γ p hG
 unfold choose
 rw[Sem.wp_choose]
 refine⟨hn, ?_⟩
 have:=h _ (s.drawn.bump src) (Nat.mod_lt (M.w.draws src (s.drawn.get src)) (Nat.pos_of_ne_zero hn))
 simpa using this
end
theorem jN {α:Type}:∀(l:List α) (i:Nat),i<l.length->(l.eraseIdx i).length=l.length - 1:=λl i h=>by rw[List.length_eraseIdx,if_pos h]
theorem jt {α:Type}:∀(l:List α) (i:Nat) (x:α),l[i]? = some x->(x::l.eraseIdx i).Perm l
 | [],i,x,h=>by simp at h
 | a::l,0,x,h=>by simp at h;subst h;exact List.Perm.refl _
 | a::l,i+1,x,h=>by
  rw[List.eraseIdx_cons_succ]
  simp only[List.getElem?_cons_succ]at h
  exact(List.Perm.swap a x _).trans ((jt l i x h).cons a)
theorem wS {M:Model}{A:Around}{E:Value->Shared->Prop}{α:Type}:∀(n:Nat) (xs:List α) (s:Shared) (Q:List α->Shared->Prop),xs.length=n->(∀ys d,ys.Perm xs->Q ys { s with drawn:=d })->wpAny M A (drawOrder n xs) Q E s
 | 0,xs,s,Q,hl,h=>by
  have:xs=[]:=List.eq_nil_of_length_eq_zero hl
  subst this
  exact wY (h [] s.drawn (List.Perm.refl _))
 | n+1,[],s,Q,hl,h=>by simp at hl
 | n+1,x::r,s,Q,hl,h=>by
  show wpAny M A (choose .order (x::r).length>>=λi=>match (x::r)[i]? with
   | some x'=>(do return x'::(←drawOrder n ((x::r).eraseIdx i)))
   | none=>unsupported "internal:drawOrder") Q E s
  refine wX (By (by simp) λk d hk=>?_)
  obtain⟨y,hy⟩:∃y,(x::r)[k]? = some y:=⟨_,List.getElem?_eq_getElem hk⟩
  rw[hy]
  refine wX (wS n _ _ _ (by rw[jN _ _ hk,hl];rfl) λys d' hp=>wY (h _ _ ((hp.cons y).trans (jt _ _ _ hy))))
theorem wT {α:Type}(next:Nat->Nat):∀(fuel k:Nat) (left:List α) (out:Array α),left.length=fuel->(pickOrder.go next fuel k left out).toList.Perm (out.toList++left)
 | 0,k,left,out,hl=>by
  have:left=[]:=List.eq_nil_of_length_eq_zero hl
  subst this
  unfold pickOrder.go
  simp
 | fuel+1,k,left,out,hl=>by
  unfold pickOrder.go
  have hk:next k % left.length<left.length:=Nat.mod_lt _ (by omega)
  obtain⟨y,hy⟩:∃y,left[next k % left.length]? = some y:=⟨_,List.getElem?_eq_getElem hk⟩
  rw[hy]
  dsimp only
  refine(wT next fuel (k+1) _ _ (by rw[jN _ _ hk];omega)).trans ?_
  rw[Array.toList_push,List.append_assoc]
  exact(jt _ _ _ hy).append_left _
theorem yr {α:Type}(next:Nat->Nat) (xs:Array α):(pickOrder next xs).toList.Perm xs.toList:=by
 have:=wT next xs.size 0 xs.toList #[] (by simp)
 simpa [pickOrder]using this
theorem bw:Slot "set_iterator" "__next__" "set_iterator.__next__" :=
 .of (owner:="set_iterator") (n:="__next__") (by rw[typeLookup_type,builtinLookup_eq_fast];kernel_rfl) (by decide +kernel) (by decide +kernel) (by decide +kernel)
  (by first|exact .inl (by decide +kernel)|exact .inr (by decide +kernel)) (by rw[isSubtype_type];kernel_rfl)
theorem d4:entryFor table "set_iterator.__next__" = some Builtin.«set_iterator.__next__»:=entryFor_of_tree (by kernel_rfl)
theorem dX (a:Value):argsOk "set_iterator.__next__" ⟨[a],[]⟩:=by unfold argsOk;kernel_rfl
theorem ji:Slot "set_iterator" "__iter__" "set_iterator.__iter__" :=
 .of (owner:="set_iterator") (n:="__iter__") (by rw[typeLookup_type,builtinLookup_eq_fast];kernel_rfl) (by decide +kernel) (by decide +kernel) (by decide +kernel)
  (by first|exact .inl (by decide +kernel)|exact .inr (by decide +kernel)) (by rw[isSubtype_type];kernel_rfl)
theorem nB:entryFor table "set_iterator.__iter__" = some Builtin.«dict_keyiterator.__iter__» :=
 entryFor_alias (id':="dict_keyiterator.__iter__") (by kernel_rfl) rfl (by decide +kernel) (by kernel_rfl)
theorem pd (a:Value):argsOk "set_iterator.__iter__" ⟨[a],[]⟩:=by unfold argsOk;kernel_rfl
theorem mF:entryFor table "set.__iter__" = some Builtin.«frozenset.__iter__» :=
 entryFor_alias (id':="frozenset.__iter__") (by kernel_rfl) rfl (by decide +kernel) (by kernel_rfl)
abbrev ju (fst:Value) (i:Nat) (S:Addr) (n ep:Nat):Obj:={ cls:=.type "set_iterator",data:=.fields #[fst,.int i 0,.ref S,.int n 0,.int ep 0] }
section
variable {prog:Program}{w:World}{A:Around}{E:Value->Shared->Prop}{s:Shared}{it S:Addr}{i ep:Nat}{o:Obj}{es:Array (Int×Value)}{t:SetTable}
theorem cK {fst:Value}{n:Nat}(ho:s.heap.get? it=some (ju fst i S n ep)):s.TypeIs (.ref it) "set_iterator":=⟨_,ho,rfl⟩
theorem rz {k k':Nat}{x:Value}{Q:Option Value->Shared->Prop}(ho:s.heap.get? it=some (ju (.int k 0) i S es.size ep))
  (hS:s.heap.get? S=some o) (hd:o.data=.set es ep t) (hf:t.fits es.size=true)
  (hN:∀(A':Around) (E':Value->Shared->Prop) (Q':Option (Value×Nat)->Shared->Prop),Q' (some (x,k')) s->wpAny (model prog w) A' (setNext S k i ep) Q' E' s)
  (hQ:∀h',h'.get? it=some (ju (.int k' 0) (i+1) S es.size ep)->Heap.SameBut it s.heap h'->Q (some x) { s with heap:=h' }) :
  wpAny (model prog w) A (pyNext (.ref it)) Q E s:=by
 unfold pyNext
 refine wX (wpAny_attempt (wpAny_callSpecial?_slot (name:=Str.ofString "__next__") (cK ho) bw
  (wpAny_call_entry bw (cK ho) d4 ?_ (dX _))))
 show wpAny _ _ (fieldsOf (.ref it)>>=_) _ _ s
 refine wX (wpAny_fieldsOf ho rfl ?_)
 show wpAny _ _ (setEntries S>>=_) _ _ s
 refine wX (wpAny_setEntries_of hS hd hf ?_)
 rw[if_neg (by simp)]
 show wpAny _ _ (setNext S _ _ _>>=_) _ _ s
 simp only[Int.toNat_natCast]
 refine wX (hN _ _ _ ?_)
 dsimp only
 refine wX (wpAny_setField_rec ho (by simp) λh1 e1 b1=>?_)
 refine wX (wpAny_setField_rec e1 (by simp) λh2 e2 b2=>?_)
 exact wY ⟨x,rfl,wY (hQ h2 (by simpa [rawInt,ju]using e2) (b1.trans b2))⟩
theorem r0 {k:Nat}{Q:Option Value->Shared->Prop}(hh:A.handled=none) (ho:s.heap.get? it=some (ju (.int k 0) i S es.size ep))
  (hS:s.heap.get? S=some o) (hd:o.data=.set es ep t) (hf:t.fits es.size=true)
  (hN:∀(A':Around) (E':Value->Shared->Prop) (Q':Option (Value×Nat)->Shared->Prop),Q' none s->wpAny (model prog w) A' (setNext S k i ep) Q' E' s)
  (hQ:∀h',Heap.ExtBut it s.heap h'->Q none { s with heap:=h' }) :
  wpAny (model prog w) A (pyNext (.ref it)) Q E s:=by
 unfold pyNext
 refine wX (wpAny_attempt (wpAny_callSpecial?_slot (name:=Str.ofString "__next__") (cK ho) bw
  (wpAny_call_entry bw (cK ho) d4 ?_ (dX _))))
 show wpAny _ _ (fieldsOf (.ref it)>>=_) _ _ s
 refine wX (wpAny_fieldsOf ho rfl ?_)
 show wpAny _ _ (setEntries S>>=_) _ _ s
 refine wX (wpAny_setEntries_of hS hd hf ?_)
 rw[if_neg (by simp)]
 show wpAny _ _ (setNext S _ _ _>>=_) _ _ s
 simp only[Int.toNat_natCast]
 refine wX (hN _ _ _ ?_)
 dsimp only
 refine wX (wpAny_setField_rec ho (by simp) λh1 e1 b1=>?_)
 refine wX ?_
 simp only[newExc,newTuple]
 refine wX (wpAny_newObj_type ?_ (by size_fits))
 refine wX (m:=firstArgMember _ _) (wpAny_of_eq (a:=Value.none) (by first|rfl|(simp only[firstArgMember];rfl)) ?_)
 refine wpAny_newObj_type ?_ (by size_fits)
 simp only[raiseNew]
 refine wX (wpAny_handled ?_)
 rw[show A.in1.handled=none from hh]
 refine wX (wY (wpAny_throw ?_))
 refine wX (wpAny_isInstance (T:="StopIteration") (b:=true) ⟨_,Heap.get?_push_size _ rfl,rfl⟩ isSubtype_stop ?_)
 exact wY (hQ _ ((b1.extBut.push _).push _))
theorem pe {T:Addr}{pl:List Nat}{p:Nat}{x:Int×Value}{nt:Nat}{Q:Option Value->Shared->Prop}(ho:s.heap.get? it=some (ju (.ref T) i S es.size ep))
  (hT:s.heap.get? T=some (seqObj "tuple" (pl.map λ(p:Nat)=>Value.int p 0).toArray nt))
  (hS:s.heap.get? S=some o) (hd:o.data=.set es ep t) (hf:t.fits es.size=true) (hp:pl[i]? = some p) (hx:es[p]? = some x)
  (hQ:∀h',h'.get? it=some (ju (.ref T) (i+1) S es.size ep)->Heap.SameBut it s.heap h'->Q (some x.2) { s with heap:=h' }) :
  wpAny (model prog w) A (pyNext (.ref it)) Q E s:=by
 unfold pyNext
 refine wX (wpAny_attempt (wpAny_callSpecial?_slot (name:=Str.ofString "__next__") (cK ho) bw
  (wpAny_call_entry bw (cK ho) d4 ?_ (dX _))))
 show wpAny _ _ (fieldsOf (.ref it)>>=_) _ _ s
 refine wX (wpAny_fieldsOf ho rfl ?_)
 show wpAny _ _ (setEntries S>>=_) _ _ s
 refine wX (wpAny_setEntries_of hS hd hf ?_)
 rw[if_neg (by simp)]
 show wpAny _ _ (seqItems? (.ref T)>>=_) _ _ s
 refine wX (wpAny_seqItems hT rfl ?_)
 have e1:(pl.map λ(p:Nat)=>Value.int p 0).toArray[(i:Int).toNat]? = some (.int p 0):=by simp[hp]
 dsimp only
 rw[e1]
 dsimp only
 have e2:wpAny (model prog w) A.in1 (setNextDrawn S (p:Int).toNat (ep:Int).toNat) (λy s'=>y=x.2/\s'=s) (λ_ _=>False) s:=by
  unfold setNextDrawn
  refine wX (wpAny_setState_of hS hd hf ?_)
  dsimp only
  rw[if_neg (by simp)]
  simp only[Int.toNat_natCast,hx]
  exact wY ⟨rfl,rfl⟩
 refine wX (wpAny_mono e2 (λy s' hy=>?_) λ_ _ z=>z.elim)
 obtain⟨rfl,rfl⟩:=hy
 refine wX (wpAny_setField_rec ho (by simp) λh1 e1 b1=>?_)
 exact wY ⟨_,rfl,wY (hQ h1 (by simpa [rawInt,ju]using e1) b1)⟩
theorem ph {T:Addr}{pl:List Nat}{nt:Nat}{Q:Option Value->Shared->Prop}(hh:A.handled=none) (ho:s.heap.get? it=some (ju (.ref T) i S es.size ep))
  (hT:s.heap.get? T=some (seqObj "tuple" (pl.map λ(p:Nat)=>Value.int p 0).toArray nt))
  (hS:s.heap.get? S=some o) (hd:o.data=.set es ep t) (hf:t.fits es.size=true) (hp:pl[i]? = none)
  (hQ:∀h',Heap.ExtBut it s.heap h'->Q none { s with heap:=h' }) :
  wpAny (model prog w) A (pyNext (.ref it)) Q E s:=by
 unfold pyNext
 refine wX (wpAny_attempt (wpAny_callSpecial?_slot (name:=Str.ofString "__next__") (cK ho) bw
  (wpAny_call_entry bw (cK ho) d4 ?_ (dX _))))
 show wpAny _ _ (fieldsOf (.ref it)>>=_) _ _ s
 refine wX (wpAny_fieldsOf ho rfl ?_)
 show wpAny _ _ (setEntries S>>=_) _ _ s
 refine wX (wpAny_setEntries_of hS hd hf ?_)
 rw[if_neg (by simp)]
 show wpAny _ _ (seqItems? (.ref T)>>=_) _ _ s
 refine wX (wpAny_seqItems hT rfl ?_)
 have e1:(pl.map λ(p:Nat)=>Value.int p 0).toArray[(i:Int).toNat]? = none:=by simpa using hp
 dsimp only
 rw[e1]
 dsimp only
 refine wX (wpAny_setField_rec ho (by simp) λh0 e0 b0=>?_)
 refine wX (wpAny_setField_rec e0 (by simp) λh1 e1 b1=>?_)
 refine wX ?_
 simp only[newExc,newTuple]
 refine wX (wpAny_newObj_type ?_ (by size_fits))
 refine wX (m:=firstArgMember _ _) (wpAny_of_eq (a:=Value.none) (by first|rfl|(simp only[firstArgMember];rfl)) ?_)
 refine wpAny_newObj_type ?_ (by size_fits)
 simp only[raiseNew]
 refine wX (wpAny_handled ?_)
 rw[show A.in1.handled=none from hh]
 refine wX (wY (wpAny_throw ?_))
 refine wX (wpAny_isInstance (T:="StopIteration") (b:=true) ⟨_,Heap.get?_push_size _ rfl,rfl⟩ isSubtype_stop ?_)
 exact wY (hQ _ (((b0.trans b1).extBut.push _).push _))
theorem tM {fst:Value}{n:Nat}{Q:Value->Shared->Prop}(ho:s.heap.get? it=some (ju fst i S n ep)) (h:Q (.ref it) s):wpAny (model prog w) A (pyIter (.ref it)) Q E s:=by
 refine wpAny_pyIter_slot (cK ho) ji (wpAny_call_entry ji (cK ho) nB ?_ (pd _))
 show wpAny _ _ (ret (.ref it)) _ _ s
 exact wY ⟨_,rfl,"set_iterator",_,cK ho,bw.lookup,h⟩
end
section
variable {prog:Program}{w:World}{A:Around}{E:Value->Shared->Prop}{s:Shared}{it S:Addr}{i k ep:Nat}{o:Obj}{es:Array (Int×Value)}{t:SetTable}
theorem pN {Q:Option (Value×Nat)->Shared->Prop}(hS:s.heap.get? S=some o) (hd:o.data=.set es ep t) (hf:t.fits es.size=true) (hb:w.params.followText "set-order" = true)
  (h:Q (((pickOrder (w.params.setOrder S ep) es)[i]?).map λe=>(e.2,k)) s):wpAny (model prog w) A (setNext S k i ep) Q E s:=by
 unfold setNext
 refine wX (wpAny_setState_of hS hd hf ?_)
 dsimp only
 unfold setsByText
 refine wX (wX (wpAny_askSetting (wY ?_)))
 show wpAny _ _ (if w.params.followText "set-order" = true then _ else _) _ _ _
 rw[if_pos hb,if_neg (by simp)]
 unfold setWalk setsByText
 refine wX (wX (wpAny_setState_of hS hd hf ?_))
 dsimp only
 refine wX (wX (wpAny_askSetting (wY ?_)))
 show wpAny _ _ (if w.params.followText "set-order" = true then _ else _) _ _ _
 rw[if_pos hb]
 refine wX (wpAny_askSetting (wY ?_))
 exact wY h
theorem nD {Q:Option (Value×Nat)->Shared->Prop}(hS:s.heap.get? S=some o) (hd:o.data=.set es ep t) (hf:t.fits es.size=true) (hb:w.params.followText "set-order" = false) (hl:t.led=true) (hz:es.size<=1)
  (h:Q (match es[SetTable.below t.place k]?,t.place[SetTable.below t.place k]? with
   | some (_,x),some j=>some (x,j+1)
   | _,_=>none) s):wpAny (model prog w) A (setNext S k i ep) Q E s:=by
 unfold setNext
 refine wX (wpAny_setState_of hS hd hf ?_)
 dsimp only
 unfold setsByText
 refine wX (wX (wpAny_askSetting (wY ?_)))
 show wpAny _ _ (if w.params.followText "set-order" = true then _ else _) _ _ _
 rw[if_neg (by rw[hb];simp)]
 show wpAny _ _ (if(!t.plain && decide (es.size > 1))=true then _ else _) _ _ _
 rw[if_neg (by rw[decide_eq_false (by omega)];simp)]
 show wpAny _ _ ((if(!t.led && !es.isEmpty)=true then unsupported "set:maker-not-led" else pure ())>>=_) _ _ _
 rw[hl,if_neg (by simp)]
 refine wX (wY ?_)
 exact wY h
theorem pO (hh:A.handled=none) (hd:o.data=.set es ep t) (hf:t.fits es.size=true) (hne:S≠it) (vs:List Value) (hv:vs.length=es.size) (sl:Nat->Nat)
  (hN:∀i x,vs[i]? = some x->∀(A':Around) (E':Value->Shared->Prop) (s:Shared) (Q':Option (Value×Nat)->Shared->Prop),s.heap.get? S=some o->Q' (some (x,sl (i+1))) s->wpAny (model prog w) A' (setNext S (sl i) i ep) Q' E' s)
  (hE:∀(A':Around) (E':Value->Shared->Prop) (s:Shared) (Q':Option (Value×Nat)->Shared->Prop),s.heap.get? S=some o->Q' none s->wpAny (model prog w) A' (setNext S (sl es.size) es.size ep) Q' E' s) :
  Walks prog w A it [it,S] [it] es.size (λi v=>vs[i]? = some v) (λi h=>h.get? it=some (ju (.int (sl i) 0) i S es.size ep)/\h.get? S=some o) where
 sub:=λb hb=>by simp at hb;simp[hb]
 frame:=λ_ _ _ st hk=>⟨hk it (by simp) _ st.1,hk S (by simp) _ st.2⟩
 item:=λi s Q E hi st hQ=>by
  obtain⟨x,hx⟩:∃x,vs[i]? = some x:=⟨_,List.getElem?_eq_getElem (by omega)⟩
  refine rz st.1 st.2 hd hf (λA' E' Q' q=>hN i x hx A' E' s Q' st.2 q) λh' h1 h2=>?_
  exact hQ x h' s.toks hx ⟨h1,h2.extBut S _ hne st.2⟩ λb u hb e=>h2.extBut b u (λz=>hb (by simp[z])) e
 done:=λs Q E st hQ=>r0 hh st.1 st.2 hd hf (λA' E' Q' q=>hE A' E' s Q' st.2 q) λh' h1=>hQ h' s.toks λb u hb e=>h1 b u (λz=>hb (by simp[z])) e
 self:=λ_ _ _ _ st hQ=>tM st.1 hQ
theorem vL {T:Addr}{pl:List Nat}{nt:Nat}(hh:A.handled=none) (hd:o.data=.set es ep t) (hf:t.fits es.size=true) (hne:S≠it) (hnT:T≠it) (hp:pl.Perm (List.range es.size)) :
  Walks prog w A it [it,S,T] [it] es.size (λi v=>(pl.map λp=>(es.getD p (0,.none)).2)[i]? = some v)
   (λi h=>h.get? it=some (ju (.ref T) i S es.size ep)/\h.get? S=some o/\h.get? T=some (seqObj "tuple" (pl.map λ(p:Nat)=>Value.int p 0).toArray nt)) where
 sub:=λb hb=>by simp at hb;simp[hb]
 frame:=λ_ _ _ st hk=>⟨hk it (by simp) _ st.1,hk S (by simp) _ st.2.1,hk T (by simp) _ st.2.2⟩
 item:=λi s Q E hi st hQ=>by
  have hlen:pl.length=es.size:=by rw[hp.length_eq,List.length_range]
  obtain⟨p,hx⟩:∃p,pl[i]? = some p:=⟨_,List.getElem?_eq_getElem (by omega)⟩
  have hpm:p<es.size:=List.mem_range.mp (hp.mem_iff.mp (List.mem_of_getElem? hx))
  have he:es[p]? = some (es.getD p (0,.none)):=by rw[Array.getD_eq_getD_getElem?,Array.getElem?_eq_getElem hpm];rfl
  refine pe st.1 st.2.2 st.2.1 hd hf hx he λh' h1 h2=>?_
  exact hQ _ h' s.toks (by simp[hx]) ⟨h1,h2.extBut S _ hne st.2.1,h2.extBut T _ hnT st.2.2⟩ λb u hb e=>h2.extBut b u (λz=>hb (by simp[z])) e
 done:=λs Q E st hQ=>by
  have hlen:pl.length=es.size:=by rw[hp.length_eq,List.length_range]
  exact ph hh st.1 st.2.2 st.2.1 hd hf (List.getElem?_eq_none (by omega)) λh' h1=>hQ h' s.toks λb u hb e=>h1 b u (λz=>hb (by simp[z])) e
 self:=λ_ _ _ _ st hQ=>tM st.1 hQ
end
theorem vM {α:Type}(es:Array α) (d:α):(List.range es.size).map (λp=>es.getD p d)=es.toList:=by
 apply List.ext_getElem?
 intro i
 by_cases h:i<es.size
 ·simp[h,Array.getD_eq_getD_getElem?]
 ·simp[h]
section
variable {prog:Program}{w:World}{A:Around}{E:Value->Shared->Prop}{s:Shared}
theorem pP {xs:Array Nat}{j k:Nat}(h:xs=#[j]):SetTable.below xs k=if j<k then 1 else 0:=by
 subst h
 by_cases h:j<k
 ·simp[SetTable.below,SetTable.below.go,h]
 ·simp[SetTable.below,SetTable.below.go,h]
theorem zG {S:Addr}{ts:List Str}{Q:Value->Shared->Prop}(hS:ge prog w s.heap S ts)
  (hQ:∀(h':Heap) (d:Drawn) (it:Addr) (vs:List Value) (fp:List Addr) (St:Nat->Heap->Prop),(∀A',A'.handled=none->Walks prog w A' it fp [it] ts.length (λi v=>vs[i]? = some v) St)->St 0 h' ->
   (∀b u,s.heap.get? b=some u->h'.get? b=some u)->s.heap.objs.size<=it->(∀b∈fp,b=S∨s.heap.objs.size<=b)->vs.length=ts.length->(vs.map strOf).Perm ts->(∀v∈vs,∃x t,v=.str x t) ->
   Q (.ref it) { s with heap:=h',drawn:=d }):wpAny (model prog w) A (pyIter (.ref S)) Q E s:=by
 obtain⟨o,es,ep,t,ho,hex,hd,hel,hp,nd,hb,hf,hled,hpl⟩:=hS
 have sz:es.size=ts.length:=by rw[←hp.length_eq,List.length_map,Array.length_toList]
 have hSlt:S<s.heap.objs.size:=Heap.lt_size ho
 have hTy:s.TypeIs (.ref S) "set":=⟨_,ho,hex.1⟩
 have hstrs:∀e∈es.toList,∃x t,e.2=.str x t:=λe he=>by
  obtain⟨⟨k,hk,_⟩,_⟩:=hel e he
  obtain⟨t,q⟩:=Value.isStrOf_shape (show Value.isStrOf k e.2=true from hk)
  exact⟨k,t,q⟩
 refine wpAny_pyIter_slot hTy PySem.F.slot_set_iter (wpAny_call_entry PySem.F.slot_set_iter hTy mF ?_ (PySem.F.args_set_iter_1 _))
 show wpAny _ _ (Builtin.Frozenset.sizeOf S>>=_) _ _ s
 unfold Builtin.Frozenset.sizeOf
 refine wX (wX (wpAny_setEntries_of ho hd hf (wY ?_)))
 unfold setDrawn setsByText
 refine wX (wX (wpAny_setState_of ho hd hf ?_))
 dsimp only
 refine wX (wX (wpAny_askSetting (wY (wY ?_))))
 show wpAny _ _ (if(!w.params.followText "set-order" && (!t.plain && decide (es.size > 1)))=true then _ else _) _ _ _
 have hmap:(es.toList.map (·.2)).map strOf=es.toList.map (λe=>strOf e.2):=by rw[List.map_map];rfl
 by_cases hbt:w.params.followText "set-order" = true
 ·rw[if_neg (by rw[hbt];simp)]
  refine wX (wY ?_)
  refine wX (wpAny_setEpoch_of ho hd hf ?_)
  have pp:=yr (w.params.setOrder S ep) es
  have hlen:((pickOrder (w.params.setOrder S ep) es).toList.map (·.2)).length=es.size:=by rw[List.length_map,pp.length_eq,Array.length_toList]
  refine wX (wpAny_newObj_type (wY ⟨_,rfl,"set_iterator",_,⟨_,Heap.get?_push_size _ rfl,rfl⟩,bw.lookup, ?_⟩))
  refine hQ _ s.drawn s.heap.objs.size ((pickOrder (w.params.setOrder S ep) es).toList.map (·.2)) [s.heap.objs.size,S] (λi h=>h.get? s.heap.objs.size=some (ju (.int ((λ_=>0:Nat->Nat) i:Nat) 0) i S es.size ep)/\h.get? S=some o) (λA' hA=>?_) ?_ (λb u e=>Heap.get?_push_of_some _ e) (Nat.le_refl _) (λb hb=>?_) (hlen.trans sz) ?_ ?_
  ·rw[←sz]
   exact pO hA hd hf (Nat.ne_of_lt hSlt) _ hlen (λ_=>0) (λi x hx A' E' s Q' h1 h2=>pN h1 hd hf hbt (by
    rw[List.getElem?_map,Array.getElem?_toList]at hx
    obtain⟨e,he,rfl⟩:=oY hx
    rw[he];exact h2)) (λA' E' s Q' h1 h2=>pN h1 hd hf hbt (by
    rw[Array.getElem?_eq_none (by rw[←Array.length_toList,pp.length_eq,Array.length_toList];exact Nat.le_refl _)];exact h2))
  ·exact⟨Heap.get?_push_size _ rfl,Heap.get?_push_of_some _ ho⟩
  ·simp only[List.mem_cons,List.not_mem_nil,or_false]at hb
   rcases hb with rfl|rfl
   ·exact .inr (Nat.le_refl _)
   ·exact .inl rfl
  ·refine List.Perm.trans ?_ hp
   rw[←hmap]
   exact(pp.map _).map _
  ·intro v hv
   obtain⟨e,he,rfl⟩:=List.mem_map.mp hv
   exact hstrs e (pp.mem_iff.mp he)
 ·rw[Bool.not_eq_true]at hbt
  have hl:t.led=true:=by rw[hled,hbt];rfl
  by_cases h1:es.size<=1
  ·rw[if_neg (by rw[decide_eq_false (by omega)];simp)]
   refine wX (wY ?_)
   refine wX (wpAny_setEpoch_of ho hd hf ?_)
   refine wX (wpAny_newObj_type (wY ⟨_,rfl,"set_iterator",_,⟨_,Heap.get?_push_size _ rfl,rfl⟩,bw.lookup, ?_⟩))
   have hpz:t.place.size=es.size:=by
    simp only[SetTable.fits,Bool.and_eq_true,beq_iff_eq,decide_eq_true_eq]at hf
    exact hf.1
   refine hQ _ s.drawn s.heap.objs.size (es.toList.map (·.2)) [s.heap.objs.size,S] (λi h=>h.get? s.heap.objs.size=some (ju (.int ((λi=>if i=0 then 0 else t.place.getD 0 0+1:Nat->Nat) i:Nat) 0) i S es.size ep)/\h.get? S=some o) (λA' hA=>?_) ?_ (λb u e=>Heap.get?_push_of_some _ e) (Nat.le_refl _) (λb hb=>?_) (by rw[List.length_map,Array.length_toList,sz]) (by rw[hmap];exact hp) ?_
   ·rw[←sz]
    refine pO hA hd hf (Nat.ne_of_lt hSlt) _ (by simp) (λi=>if i=0 then 0 else t.place.getD 0 0+1) (λi x hx A' E' s Q' q1 q2=>nD q1 hd hf hbt hl h1 ?_) (λA' E' s Q' q1 q2=>nD q1 hd hf hbt hl h1 ?_)
    ·have hi:i<es.size:=by have:=(List.getElem?_eq_some_iff.mp hx).1;simpa using this
     have hi0:i=0:=by omega
     subst hi0
     obtain⟨j,hj⟩:∃j,t.place=#[j]:=Array.size_eq_one_iff.mp (by omega)
     rw[if_pos rfl,pP hj,if_neg (by omega)]
     rw[List.getElem?_map,Array.getElem?_toList]at hx
     obtain⟨e,he,rfl⟩:=oY hx
     rw[he]
     simp only[hj]at q2 ⊢
     simpa using q2
    ·by_cases h0:es.size=0
     ·have hp0:t.place=#[]:=Array.eq_empty_of_size_eq_zero (by omega)
      have he0:es=#[]:=Array.eq_empty_of_size_eq_zero h0
      rw[hp0,he0]
      simpa using q2
     ·obtain⟨j,hj⟩:∃j,t.place=#[j]:=Array.size_eq_one_iff.mp (by omega)
      rw[if_neg h0,pP hj]
      have:t.place.getD 0 0=j:=by rw[hj];rfl
      rw[this,if_pos (by omega),Array.getElem?_eq_none (by omega)]
      exact q2
   ·exact⟨Heap.get?_push_size _ rfl,Heap.get?_push_of_some _ ho⟩
   ·simp only[List.mem_cons,List.not_mem_nil,or_false]at hb
    rcases hb with rfl|rfl
    ·exact .inr (Nat.le_refl _)
    ·exact .inl rfl
   ·intro v hv
    obtain⟨e,he,rfl⟩:=List.mem_map.mp hv
    exact hstrs e he
  ·have hp0:t.plain=false:=hpl (by omega)
   rw[if_pos (by rw[hbt,hp0,decide_eq_true (by omega)];rfl)]
   refine wX (wS es.size (List.range es.size) _ _ (by simp) λpl d pp=>?_)
   refine wX (wpAny_newTuple ?_ (by rw[List.length_map,pp.length_eq,List.length_range,sz];exact fits_of_scanBound hb))
   refine wX (wpAny_setEpoch_of (Heap.get?_push_of_some _ ho) hd hf ?_)
   refine wX (wpAny_newObj_type (wY ⟨_,rfl,"set_iterator",_,⟨_,Heap.get?_push_size _ rfl,rfl⟩,bw.lookup, ?_⟩))
   have hsz:(s.heap.push (seqObj "tuple" (pl.map λ(p:Nat)=>Value.int p 0).toArray 0)).objs.size=s.heap.objs.size+1:=size_push' _ _
   have hperm:((pl.map λp=>(es.getD p (0,.none)).2)).Perm (es.toList.map (·.2)):=by
    have:=(pp.map λp=>es.getD p (0,Value.none)).map (·.2)
    rw[vM]at this
    rw[List.map_map]at this
    exact this
   refine hQ _ d _ (pl.map λp=>(es.getD p (0,.none)).2) [(s.heap.push (seqObj "tuple" (pl.map λ(p:Nat)=>Value.int p 0).toArray 0)).objs.size,S,s.heap.objs.size] (λi h=>h.get? (s.heap.push (seqObj "tuple" (pl.map λ(p:Nat)=>Value.int p 0).toArray 0)).objs.size=some (ju (.ref s.heap.objs.size) i S es.size ep)/\h.get? S=some o/\h.get? s.heap.objs.size=some (seqObj "tuple" (pl.map λ(p:Nat)=>Value.int p 0).toArray 0)) (λA' hA=>?_) ?_ (λb u e=>Heap.get?_push_of_some _ (Heap.get?_push_of_some _ e)) ?_ (λb hb=>?_) ?_ ?_ ?_
   ·rw[←sz]
    exact vL (nt:=0) hA hd hf (by show S≠(s.heap.push _).objs.size;rw[size_push'];exact Nat.ne_of_lt (Nat.lt_succ_of_lt hSlt)) (by show s.heap.objs.size≠(s.heap.push _).objs.size;rw[size_push'];exact Nat.ne_of_lt (Nat.lt_succ_self _)) pp
   ·exact⟨Heap.get?_push_size _ rfl,Heap.get?_push_of_some _ (Heap.get?_push_of_some _ ho),Heap.get?_push_of_some _ (Heap.get?_push_size _ rfl)⟩
   ·show s.heap.objs.size<=(s.heap.push _).objs.size
    rw[size_push'];omega
   ·simp only[List.mem_cons,List.not_mem_nil,or_false]at hb
    rcases hb with rfl|rfl|rfl
    ·refine .inr ?_
     show s.heap.objs.size<=(s.heap.push _).objs.size
     rw[size_push'];omega
    ·exact .inl rfl
    ·exact .inr (Nat.le_refl _)
   ·rw[hperm.length_eq,List.length_map,Array.length_toList,sz]
   ·exact((hperm.map strOf).trans (by rw[hmap])).trans hp
   ·intro v hv
    obtain⟨e,he,rfl⟩:=List.mem_map.mp (hperm.mem_iff.mp hv)
    exact hstrs e he
end
theorem yt {vs:List Value}{acc:Array Value}(h:ItemsOf (λi v=>vs[i]? = some v) acc vs.length):acc.toList=vs:=by
 apply List.ext_getElem?
 intro i
 by_cases hi:i<acc.size
 ·have e:acc[i]? = some acc[i]:=Array.getElem?_eq_getElem hi
  rw[Array.getElem?_toList,e,h.2 i _ e]
 ·rw[List.getElem?_eq_none (by rw[Array.length_toList];omega),List.getElem?_eq_none (by rw[←h.1];omega)]
section
variable {prog:Program}{w:World}{A:Around}{E:Value->Shared->Prop}{s:Shared}
theorem tN {S:Addr}{ts:List Str}{Q:List Value->Shared->Prop}(hh:A.handled=none) (hS:ge prog w s.heap S ts)
  (hQ:∀s' vs,(∀b u,s.heap.get? b=some u->s'.heap.get? b=some u)->s'.gens=s.gens->s'.os=s.os->vs.length=ts.length->(vs.map strOf).Perm ts->(∀v∈vs,∃x t,v=.str x t)->Q vs s') :
  wpAny (model prog w) A (collect (.ref S)) Q E s:=by
 have hty:∀(s1:Shared),ge prog w s1.heap S ts->s1.TypeIs (.ref S) "set":=λs1 h=>by
  obtain⟨o,_,_,_,ho,hex,_⟩:=h
  exact⟨o,ho,hex.1⟩
 have hlt:S<s.heap.objs.size:=by obtain⟨o,_,_,_,ho,_⟩:=hS;exact Heap.lt_size ho
 have hscan:ts.length<scanBound:=by obtain⟨_,_,_,_,_,_,_,_,_,_,h,_⟩:=hS;exact h
 unfold collect
 refine wX (wpAny_runValue (codeAny_builtin PySem.F.entry_proto_collect ?_))
 rw[Around.under_plainId PySem.F.plain_proto_collect _]
 show wpAny _ A.in1 (newList []>>=λl=>again (.builtin "list.__iadd__" ⟨[l,.ref S],[]⟩)) _ _ s
 refine wX (wpAny_newObj_type ?_)
 refine wY ⟨plainId_quiet PySem.F.plain_list_iadd _,codeAny_builtin PySem.F.entry_list_iadd ?_⟩
 rw[Around.under_plainId PySem.F.plain_list_iadd _]
 show wpAny _ A.in1 (Builtin.List.listExtendWith (.ref s.heap.objs.size) (.ref S) (.ref s.heap.objs.size)) _ _ _
 unfold Builtin.List.listExtendWith
 have hS1:ge prog w (s.heap.push { cls:=.type "list",data:=.seq ([]:List Value).toArray }) S ts:=hS.at λo e=>Heap.get?_push_of_some _ e
 refine wX (wpAny_typeOf (hty _ hS1) ?_)
 have hSI:s.heap.objs.size≠S:=Nat.ne_of_gt hlt
 have h1:Builtin.List.listSameRef (.ref s.heap.objs.size) (.ref S)=false:=by simp[Builtin.List.listSameRef,hSI]
 have h2:(Value.type "set" == Value.type "list")=false:=by decide
 have h3:(Value.type "set" == Value.type "tuple")=false:=by decide
 simp only[h1,h2,h3,Bool.or_false,Bool.false_eq_true,if_false]
 refine wX (zG (s:={ s with heap:=s.heap.push { cls:=.type "list",data:=.seq ([]:List Value).toArray } }) hS1 λh' d it vs fp St W hst hk hit hfp hvl hperm hstr=>?_)
 have hS2:ge prog w h' S ts:=hS1.at λo e=>hk _ _ e
 refine wX (wpAny_holding ?_)
 unfold Builtin.List.listLengthHint
 refine wX (wpAny_specialOf (hty _ hS2) PySem.F.slot_set_len.lookup ?_)
 wp_delta
 refine wX (wpAny_isInstance (hty _ hS2) sub_set_self ?_)
 show wpAny _ A.in1 (typeOf (Value.ref S)>>=_) _ _ _
 refine wX (wpAny_typeOf (hty _ hS2) ?_)
 refine wY ?_
 rw[if_pos (by decide)]
 refine wX (wpAny_rule ?_)
 refine wX ?_
 have hsz0:(s.heap.push { cls:=.type "list",data:=.seq ([]:List Value).toArray }).objs.size=s.heap.objs.size+1:=size_push' _ _
 have hL1:h'.get? s.heap.objs.size=some { cls:=.type "list",data:=.seq ([]:List Value).toArray }:=hk _ _ (Heap.get?_push_size _ rfl)
 show wpAny _ A.in1 (updateSeq s.heap.objs.size (·.push .none)>>=λ_=>updateSeq s.heap.objs.size (·.pop)) _ _ _
 refine wX (wpAny_updateSeq hL1 rfl ?_)
 have hL2:=Heap.get?_update_self (Obj.mapSeq (·.push Value.none)) hL1 rfl
 refine wpAny_updateSeq hL2 rfl ?_
 have hL3:=Heap.get?_update_self (Obj.mapSeq (·.pop)) hL2 rfl
 have hSf:s.heap.objs.size∉fp:=λhm=>by
  rcases hfp _ hm with z|z
  ·exact hSI z
  ·rw[hsz0]at z;exact absurd z (Nat.not_succ_le_self _)
 have oth:∀b u,b≠s.heap.objs.size->h'.get? b=some u ->
   ((h'.update s.heap.objs.size (Obj.mapSeq (·.push Value.none))).update s.heap.objs.size (Obj.mapSeq (·.pop))).get? b=some u :=
  λb u hb e=>(Heap.get?_update_other _ _ (Ne.symm hb)).trans ((Heap.get?_update_other _ _ (Ne.symm hb)).trans e)
 have W0:=W A.in1 hh
 refine wY ⟨plainId_quiet PySem.F.plain_extend_loop _,codeAny_extend_loopS W0.toS (fits_of_scanBound hscan) _ hSf _ ts.length 0 _ _ _ rfl (Nat.zero_le _)
  (W0.frame 0 _ _ hst λb hb u e=>oth b u (λz=>hSf (z ▸ hb)) e) hL3 (ItemsOf.nil _) λs' acc' c' hm hL' hacc=>?_⟩
 show wpAny _ A (load s.heap.objs.size>>=_) _ _ s'
 refine wX (wpAny_load hL' ?_)
 rw[←hvl]at hacc
 refine wY ?_
 show Q acc'.toList s'
 rw[yt hacc]
 refine hQ s' vs (λb u e=>hm.heap b u (λhb=>?_) (oth b u (Nat.ne_of_lt (Heap.lt_size e)) (hk _ _ (Heap.get?_push_of_some _ e)))) hm.gens hm.os hvl hperm hstr
 have hl:=Heap.lt_size e
 simp only[List.mem_cons,List.not_mem_nil,or_false]at hb
 rcases hb with rfl|rfl
 ·exact absurd hl (Nat.lt_irrefl _)
 ·rw[hsz0]at hit;exact absurd (Nat.lt_of_lt_of_le hl (Nat.le_of_succ_le hit)) (Nat.lt_irrefl _)
theorem vN {S:Addr}{ts:List Str}{Q:Value->Shared->Prop}(hh:A.handled=none) (hS:ge prog w s.heap S ts) (h64:ts.length<64)
  (hQ:∀(s1:Shared) (h':Heap) (a:Addr) (out:Array Value) (n:Nat) (ss':List Str),(∀b u,s.heap.get? b=some u->s1.heap.get? b=some u)->s1.os=s.os->s1.gens=s.gens->(∀b u,s1.heap.get? b=some u->h'.get? b=some u)->s1.heap.objs.size<=a->h'.get? a=some (seqObj "list" out n) ->
   StrsAre out.toList ss'->ss'.Perm ts->sortedS ss'=true->Q (.ref a) { s1 with heap:=h' }) :
  wpAny (model prog w) A (call (.builtin "sorted") [.ref S]) Q E s:=by
 refine Calls.call_function_entry kind_sorted plain_sorted entry_sorted (args_sorted1 _) ?_
 unfold Builtin.«sorted»
 refine wX (m:=checkCount "sorted" 1 1 _) (wY ?_)
 refine wX (tN (A:=A.in1) (by exact hh) hS λs1 vs hk hg hos hvl hperm hstr=>?_)
 have hst:StrsAre vs (vs.map strOf):=strsAre_map vs hstr
 refine wX (wpAny_newList ?_ (by rw[hvl,sizeLine_eq];omega))
 have hoL:(s1.heap.push (seqObj "list" vs.toArray 0)).get? s1.heap.objs.size=some (seqObj "list" vs.toArray 0):=Heap.get?_push_size _ rfl
 show wpAny _ _ _ _ _ { s1 with heap:=s1.heap.push (seqObj "list" vs.toArray 0) }
 refine wX (wpAny_holding (wpAny_call_entry slot_list_sort ⟨_,hoL,rfl⟩ entry_list_sort (list_sort_treeK strKind_oneLt hoL hst.keysOf (λv₁ v₂ aF e=>keyKind_strs (by rw[←e];exact hst)) (by rw[hvl];exact h64) λst' a1 a2=>⟨_,rfl, ?_⟩) (args_list_sort _)))
 obtain⟨ss',b1,b2,b3⟩:=sorted_out_str hst a1 a2
 obtain⟨e,he⟩:=sortedHeap_at (out:=(arrOf st').map (·.2)) hoL
 refine wY ⟨_,rfl,hQ s1 _ _ _ e ss' hk hos hg (λb u q=>?_) (Nat.le_refl _) he b1 (b2.trans hperm) b3⟩
 have hl:=Heap.lt_size q
 rw[sortedHeap_old (Nat.ne_of_lt hl) (by rw[size_push'];exact Nat.lt_succ_of_lt hl)]
 exact Heap.get?_push_of_some _ q
end
end DL
namespace DL
open PySem PySem.Spec PyProof.Rows L2
def leT (a b:Str):Prop:=¬b.cps.toList<a.cps.toList
theorem wU {a b:Str}:ltCps b.cps.toList a.cps.toList=false↔leT a b:=by rw[ltCps_eq,decide_eq_false_iff_not];rfl
theorem pQ {a b c:Str}(h:leT a b) (k:leT b c):leT a c:=by
 unfold leT at *
 exact List.not_lt.mpr (List.le_trans (List.not_lt.mp h) (List.not_lt.mp k))
theorem zH {a b:Str}(h:leT a b) (k:leT b a):a=b:=by
 have e:a.cps.toList=b.cps.toList:=List.le_antisymm (List.not_lt.mp h) (List.not_lt.mp k)
 obtain⟨a⟩:=a;obtain⟨b⟩:=b
 have:a=b:=Array.toList_inj.mp e
 rw[this]
def vO (x:Str):List Str->List Str
 | []=>[x]
 | y::r=>if ltCps y.cps.toList x.cps.toList then y::vO x r else x::y::r
def jj (l:List Str):List Str:=l.foldr vO []
theorem kZ (x:Str):∀l,(vO x l).Perm (x::l)
 | []=>List.Perm.refl _
 | y::r=>by
  unfold vO
  split
  ·exact((kZ x r).cons y).trans (List.Perm.swap x y r)
  ·exact List.Perm.refl _
theorem dJ:∀l,(jj l).Perm l
 | []=>List.Perm.refl _
 | x::l=>(kZ x (jj l)).trans ((dJ l).cons x)
theorem pR (x:Str):∀l,l.Pairwise leT->(vO x l).Pairwise leT
 | [],_=>by simp[vO]
 | y::r,h=>by
  obtain⟨h1,h2⟩:=List.pairwise_cons.mp h
  unfold vO
  split
  ·rename_i hl
   refine List.pairwise_cons.mpr ⟨λz hz=>?_,pR x r h2⟩
   rcases List.mem_cons.mp ((kZ x r).mem_iff.mp hz)with rfl|hz
   ·rw[ltCps_eq,decide_eq_true_eq]at hl
    exact λk=>List.lt_irrefl _ (List.lt_trans hl k)
   ·exact h1 z hz
  ·rename_i hl
   rw[Bool.not_eq_true]at hl
   have hxy:leT x y:=wU.mp hl
   refine List.pairwise_cons.mpr ⟨λz hz=>?_,h⟩
   rcases List.mem_cons.mp hz with rfl|hz
   ·exact hxy
   ·exact pQ hxy (h1 z hz)
theorem nE:∀l,(jj l).Pairwise leT
 | []=>List.Pairwise.nil
 | x::l=>pR x _ (nE l)
theorem lS:∀(l:List Str) (p:Str),risingS p l=true->(p::l).Pairwise leT
 | [],p,_=>List.pairwise_singleton _ _
 | x::r,p,h=>by
  have h':(!ltCps x.cps.toList p.cps.toList && risingS x r)=true:=h
  rw[Bool.and_eq_true]at h'
  have hpx:leT p x:=wU.mp (by simpa using h'.1)
  have ih:=lS r x h'.2
  refine List.pairwise_cons.mpr ⟨λz hz=>?_,ih⟩
  rcases List.mem_cons.mp hz with rfl|hz
  ·exact hpx
  ·exact pQ hpx ((List.pairwise_cons.mp ih).1 z hz)
theorem tO:∀(l:List Str),sortedS l=true->l.Pairwise leT
 | [],_=>List.Pairwise.nil
 | x::r,h=>lS r x h
theorem tP (a:Str):leT a a:=List.lt_irrefl _
theorem nF:∀(l1 l2:List Str),l1.Perm l2->l1.Pairwise leT->l2.Pairwise leT->l1=l2
 | [],l2,p,_,_=>(List.nil_perm.mp p).symm
 | x::r1,[],p,_,_=>absurd p.length_eq (by simp)
 | x::r1,y::r2,p,h1,h2=>by
  have hxy:leT x y:=by
   rcases List.mem_cons.mp (p.mem_iff.mpr (mX ..))with z|z
   ·rw[z];exact tP _
   ·exact(List.pairwise_cons.mp h1).1 y z
  have hyx:leT y x:=by
   rcases List.mem_cons.mp (p.mem_iff.mp (mX ..))with z|z
   ·rw[z];exact tP _
   ·exact(List.pairwise_cons.mp h2).1 x z
  have e:=zH hxy hyx
  subst e
  rw[nF r1 r2 (List.Perm.cons_inv p) (List.pairwise_cons.mp h1).2 (List.pairwise_cons.mp h2).2]
theorem yu {l l':List Str}(p:l'.Perm l) (h:sortedS l'=true):l'=jj l:=nF _ _ (p.trans (dJ l).symm) (tO _ h) (nE l)
section
variable {X:Cx}
def zI (X:Cx) (S:Addr) (ts:List Str):HO:=.ext λh=>ge X.prog X.w h S ts
theorem yv {pins:List (Addr×Obj)}{σ:St}{H:Hp}{s s1:Shared}(I:Inv X pins σ H s) (k:∀b u,s.heap.get? b=some u->s1.heap.get? b=some u) (ho:s1.os=s.os) (hg:s1.gens=s.gens):Inv X pins σ H s1:=by
 have I1:=I.step (g':=s.gens) (d':=s1.drawn) (t':=s1.toks) (h':=s1.heap) (H':=H) (ch:=[]) (λ_ z=>nomatch z) (λb o _ _ _ e _=>k b o e) (λb o _ _ _ e _=>⟨o.slots,k b o e⟩) (λ_ _ _ _ n=>n)
  (λb o _ e=>⟨o,k b o e⟩) (λ_ _ e=>e) (λ_ _ _ e=>e) (λ_ _ e=>e) (λm hm=>?_) (I.hok.kept k) I.bare
 ·obtain⟨h1,g1,d1,t1,o1⟩:=s1
  cases ho;cases hg
  exact I1
 ·obtain⟨o,es,ep,ho,r⟩:=hm
  exact⟨o,es,ep,k _ o ho,r⟩
theorem tQ (hc:X.calm=true):cA X (.type "set") (λxs H Q=>∃p ys ss,xs=[.ref p]/\SqL X.K H p ys/\(∀its,bc ys its->StrsAre its ss)/\ss.length<4000/\∀S,H S=none->Q (.ref S) (upd H S (zI X S (fM ss)))):=by
 intro pins s σ H xs us Q I r h
 obtain⟨p,ys,ss,rfl,hq,hs,h64,q⟩:=h
 obtain⟨u,rfl,rx⟩:=jd r
 cases rx
 obtain⟨its,r',pl,hz⟩:=I.list hq
 have hst:=hs its r'
 have hlen:its.length=ss.length:=by rw[←hst.strs,List.length_map]
 refine nA (I.ok.hd hc) pl.isList (by simpa using hst) (by simp only[List.size_toArray];unfold scanBound;omega) λh' tk hS hk=>?_
 refine⟨.ref s.heap.objs.size,_,I.laid (t':=tk) (λb u e=>hk b u (Heap.lt_size e) e) (Nat.le_refl _) ?_,rfl,q _ (I.hok.fresh (Nat.le_refl _))⟩
 refine⟨hS, ?_,λh1 h2 z k=>z.at k⟩
 obtain⟨o,_,_,_,ho,_⟩:=hS
 exact⟨o,ho⟩
theorem mG (hc:X.calm=true):cA X (.builtin "sorted") (λxs H Q=>∃S ts,xs=[.ref S]/\H S=some (zI X S ts)/\ts.length<64/\∀l,H l=none->Q (.ref l) (upd H l (.lst ((jj ts).map .str)))):=by
 intro pins s σ H xs us Q I r h
 obtain⟨S,ts,rfl,hS,h64,q⟩:=h
 obtain⟨u,rfl,rx⟩:=jd r
 cases rx
 have hT:ge X.prog X.w s.heap S ts:=(I.hok S _ hS).1
 refine vN (I.ok.hd hc) hT h64 λs1 h' a out n ss' k1 ho hg k2 hp he hst hperm hso=>?_
 have e:=yu hperm hso
 subst e
 have I1:=yv I k1 ho hg
 have hv:∀ {its:List Value}{zs:List Str},StrsAre its zs->bc (zs.map V.str) its:=λz=>by
  induction z with
  | nil=>exact .nil
  | cons x t _ ih=>exact .cons ⟨t,rfl⟩ ih
 refine⟨.ref a,_,I1.laid (t':=s1.toks) k2 hp (show ca X.prog X.w _ h' _ (.lst _)from ⟨?_,out.toList,n,hv hst,he⟩),rfl,q _ (I1.hok.fresh hp)⟩
 rw[List.length_map,(dJ ts).length_eq,sizeLine_eq];omega
end
@[simp] def eB:D->Option (D×Bool)
 | .lst ds=>(fQ ds).bind λss=>if ss.length<64 then some (.lst ((jj (fM ss)).map .str),true)else none
 | _=>none
@[simp] def F6:D->Option (D×Bool)
 | .lst ds=>(fQ ds).bind λss=>if ss.length<4000 then some (.int ((fM ss).length:Nat),false)else none
 | _=>none
theorem zJ:bootBuiltins "sorted" = some (.builtin "sorted"):=by decide +kernel
theorem Fq:bootBuiltins "set" = some (.type "set"):=by decide +kernel
theorem nG {K:PySem.W.Frag}{N:Hp}:∀(zs:List Str),IsL K N (zs.map V.str) (zs.map D.str)
 | []=>.nil
 | z::zs=>.cons (.str z) (nG zs)
section
variable {X:Cx}{e:Expr}{pos pos2 p p2:Pos}
theorem nH {f:FE}(hc:X.calm=true) (m1:X.mg "sorted" = none) (m2:X.mg "set" = none) (he:JE X e f) (g1:Gl X "sorted":=by rfl) (g2:Gl X "set":=by rfl)
  (h1:starEach [e] X.env=(false,eval e X.env)::starEach [] X.env:=by rfl):JE X (.Call (.Name "sorted" p) [.Call (.Name "set" p2) [e] [] pos2] [] pos) (f1 eB f):=by
 refine PE.to (sK (mG hc) g1 m1 zJ (gD (p9 (tQ hc) g2 m2 Fq (gD he jo h1) (he:=h1)) jo)) λσ H Q q=>?_
 obtain⟨B,ρ,d',bb,sB,r,ee,q⟩:=q
 obtain⟨x1,ex,ee⟩:=oX ee
 refine⟨B,ρ,x1.1,x1.2,sB,r,ex,λv H1 N1 xt i1 fr=>?_⟩
 obtain⟨xd,xb⟩:=x1
 cases i1<;>try (simp[eB]at ee;done)
 rename_i l0 vs ds h hl
 simp only[eB]at ee
 obtain⟨ss,ez,ee⟩:=oX ee
 split at ee
 ·rename_i h64
  cases ee
  refine⟨_,_,ss,rfl,xt.nh.seq h,λits r'=>nz r' hl ez,by omega,λS hS=>⟨S,_,rfl,aI,Nat.lt_of_le_of_lt (n8 ss) h64,λl hl'=>?_⟩⟩
  have x2:=Ext.laid (o:=zI X S (fM ss)) xt.nh hS
  have x3:=Ext.laid (o:=.lst ((jj (fM ss)).map V.str)) x2.nh hl'
  have hl0:H l=none:=((xt.trans x2).hh).free hl'
  exact q _ _ _ ((xt.trans x2).trans x3) (.lst (SqL.of aI) (nG _)) λ_=>⟨_,_,_,rfl,rfl,hl0,aI,nG _⟩
 ·cases ee
end
end DL
namespace DL
open PySem PySem.Spec PySem.W PyProof.Rows
inductive Run (n:Nat) (lt:Nat->Nat->Bool) {α:Type}:KasT α->α->Prop where
 | ret (a:α):Run n lt (.ret a) a
 | ask {i j:Nat}{k:Bool->KasT α}{a:α}(hi:i<n) (hj:j<n) (h:Run n lt (k (lt i j)) a):Run n lt (.ask i j k) a
theorem Run.bind {n:Nat}{lt:Nat->Nat->Bool}{α β:Type}{t:KasT α}{f:α->KasT β}{a:α}{b:β}(h:Run n lt t a) (k:Run n lt (f a) b):Run n lt (t.bind f) b:=by
 induction h with
 | ret a=>exact k
 | ask hi hj _ ih=>exact .ask hi hj (ih k)
theorem Run.wp {n:Nat}{lt:Nat->Nat->Bool}{α:Type}{cmp:Nat->Nat->(Bool->Shared->Prop)->Shared->Prop}{Q:α->Shared->Prop}{t:KasT α}{a:α}(J:Shared->Prop)
  (hc:∀i j C s,i<n->j<n->J s->(∀s',J s'->C (lt i j) s')->cmp i j C s) (h:Run n lt t a):∀ {s:Shared},J s->(∀s',J s'->Q a s')->t.kasWp cmp Q s:=by
 induction h with
 | ret a=>intro s hJ hQ;exact hQ s hJ
 | ask hi hj _ ih=>intro s hJ hQ;exact hc _ _ _ _ hi hj hJ λs' hJ'=>ih hJ' hQ
section
variable {n:Nat}{rk:Nat->Int}
abbrev ltR (rk:Nat->Int) (i j:Nat):Bool:=decide (rk i<rk j)
def bR (rk:Nat->Int) (p:Array Nat) (k:Nat):Int:=rk (p.getD k 0)
structure Arr (n:Nat) (p:Array Nat):Prop where
 size:p.size=n
 perm:p.toList.Perm (List.range n)
theorem Arr.lt {p:Array Nat}(h:Arr n p) {k:Nat}(hk:k<n):p.getD k 0<n:=by
 have hk':k<p.size:=by rw[h.size];exact hk
 have:p.getD k 0=p[k]:=by rw[Array.getD_eq_getD_getElem?,Array.getElem?_eq_getElem hk'];rfl
 rw[this]
 exact List.mem_range.mp (h.perm.mem_iff.mp (by simp))
theorem Arr.rev {p:Array Nat}(h:Arr n p) (i j:Nat):Arr n (kas_rev p i j) :=
 ⟨(mirror_size _ _ _ _).trans h.size,(Array.perm_iff_toList_perm.mp (mirror_perm p i j _)).trans h.perm⟩
theorem Arr.bub {p:Array Nat}(h:Arr n p) (k d:Nat):Arr n (bubble p k d) :=
 ⟨(bubble_size _ _ _).trans h.size,(Array.perm_iff_toList_perm.mp (bubble_perm p k d)).trans h.perm⟩
theorem r6 {p:Array Nat}{i j:Nat}(hj:j<=p.size) (k:Nat):bR rk (kas_rev p i j) k=if i<=k/\k<j then bR rk p (i+j - 1 - k)else bR rk p k:=by
 unfold bR kas_rev
 rw[Array.getD_eq_getD_getElem?,getElem?_mirror_all hj]
 split<;>rw[Array.getD_eq_getD_getElem?]
theorem zK {p:Array Nat}{src d:Nat}(hs:src<p.size) (hd:d<=src) (k:Nat):bR rk (bubble p src d) k=if k=src - d then bR rk p src else if src - d<k/\k<=src then bR rk p (k - 1)else bR rk p k:=by
 unfold bR
 simp only[Array.getD_eq_getD_getElem?]
 rw[getElem?_bubble hs d hd]
 repeat' split
 all_goals rfl
def Up (rk:Nat->Int) (p:Array Nat) (m:Nat):Prop:=∀i j,i<=j->j<m->bR rk p i<=bR rk p j
def r9 (rk:Nat->Int) (p:Array Nat) (m:Nat):Prop:=∀i j,i<=j->j<m->bR rk p j<=bR rk p i
theorem DQ (p:Array Nat):Up rk p 1:=λi j h1 h2=>by
 have:i=j:=by omega
 subst this;exact Int.le_refl _
theorem rA {p:Array Nat}(h:Arr n p) {r:Nat}(hr:r<=n):∀(f m:Nat),r - m=f->1<=m->m<=r->Up rk p m->∃m',Run n (ltR rk) (kas_asc p f m) m'/\m<=m'/\m'<=r/\Up rk p m'/\(m'<r->bR rk p m'<bR rk p (m' - 1))
 | 0,m,hf,h1,hm,hu=>⟨m,.ret m,Nat.le_refl _,hm,hu,λz=>by omega⟩
 | f+1,m,hf,h1,hm,hu=>by
  have a1:=h.lt (k:=m) (by omega)
  have a2:=h.lt (k:=m - 1) (by omega)
  by_cases hc:bR rk p m<bR rk p (m - 1)
  ·refine⟨m,.ask a1 a2 ?_,Nat.le_refl _,hm,hu,λ_=>hc⟩
   have:ltR rk (p.getD m 0) (p.getD (m - 1) 0)=true:=decide_eq_true hc
   rw[this,if_pos rfl];exact .ret m
  ·have hu':Up rk p (m+1):=λi j hij hj=>by
    by_cases e:j=m
    ·subst e
     by_cases e2:i=j
     ·subst e2;exact Int.le_refl _
     ·have:=hu i (j - 1) (by omega) (by omega);omega
    ·exact hu i j hij (by omega)
   obtain⟨m',q1,q2,q3,q4,q5⟩:=rA h hr f (m+1) (by omega) (by omega) (by omega) hu'
   refine⟨m',.ask a1 a2 ?_,by omega,q3,q4,q5⟩
   have:ltR rk (p.getD m 0) (p.getD (m - 1) 0)=false:=decide_eq_false hc
   rw[this,if_neg Bool.false_ne_true];exact q1
def Bz (rk:Nat->Int) (p:Array Nat) (m q:Nat):Prop:=q+1<=m/\∀k,m - (q+1)<=k->k<m->bR rk p k=bR rk p (m - 1)
theorem tR {p:Array Nat}{m q:Nat}(hs:m<=p.size) (hf:Bz rk p m q) (k:Nat):bR rk (kas_rev p (m - (q+1)) m) k=bR rk p k:=by
 rw[r6 hs]
 split
 ·rename_i hk
  have h0:=hf.1
  rw[hf.2 k hk.1 hk.2,hf.2 _ (by omega) (by omega)]
 ·rfl
theorem wV {p p':Array Nat}{m:Nat}(e:∀k,bR rk p' k=bR rk p k) (h:r9 rk p m):r9 rk p' m:=λi j h1 h2=>by rw[e,e];exact h i j h1 h2
theorem nI (p:Array Nat) {m:Nat}(h:1<=m):Bz rk p m 0:=⟨h,λk h1 h2=>by
 have:k=m - 1:=by omega
 rw[this]⟩
theorem jO {r:Nat}(hr:r<=n):∀(f:Nat) (p:Array Nat) (m q:Nat),Arr n p->r - m=f->1<=m->m<=r->r9 rk p m->Bz rk p m q->∃p' m' q',Run n (ltR rk) (kas_desc f p m q) (p',m',q')/\Arr n p'/\m<=m'/\m'<=r/\r9 rk p' m'/\Bz rk p' m' q'
 | 0,p,m,q,h,hf,h1,hm,hd,hq=>⟨p,m,q,.ret _,h,Nat.le_refl _,hm,hd,hq⟩
 | f+1,p,m,q,h,hf,h1,hm,hd,hq=>by
  have a1:=h.lt (k:=m) (by omega)
  have a2:=h.lt (k:=m - 1) (by omega)
  have step:∀p':Array Nat,(∀k,bR rk p' k=bR rk p k)->bR rk p m<=bR rk p (m - 1)->r9 rk p' (m+1):=λp' e hle i j hij hj=>by
   rw[e,e]
   by_cases z:j=m
   ·subst z
    by_cases z2:i=j
    ·subst z2;exact Int.le_refl _
    ·have:=hd i (j - 1) (by omega) (by omega);omega
   ·exact hd i j hij (by omega)
  by_cases hc:bR rk p m<bR rk p (m - 1)
  ·have hcl:ltR rk (p.getD m 0) (p.getD (m - 1) 0)=true:=decide_eq_true hc
   by_cases hq0:q > 0
   ·have e:=tR (p:=p) (by rw[h.size];omega) hq
    obtain⟨p',m',q',g1,g2,g3,g4,g5,g6⟩:=jO hr f (kas_rev p (m - (q+1)) m) (m+1) 0 (h.rev _ _) (by omega) (by omega) (by omega) (step _ e (by omega)) (nI _ (by omega))
    refine⟨p',m',q',.ask a1 a2 ?_,g2,by omega,g4,g5,g6⟩
    rw[hcl,if_pos rfl,if_pos hq0];exact g1
   ·obtain⟨p',m',q',g1,g2,g3,g4,g5,g6⟩:=jO hr f p (m+1) 0 h (by omega) (by omega) (by omega) (step _ (λ_=>rfl) (by omega)) (nI _ (by omega))
    refine⟨p',m',q',.ask a1 a2 ?_,g2,by omega,g4,g5,g6⟩
    rw[hcl,if_pos rfl,if_neg hq0];exact g1
  ·have hcl:ltR rk (p.getD m 0) (p.getD (m - 1) 0)=false:=decide_eq_false hc
   by_cases hc2:bR rk p (m - 1)<bR rk p m
   ·have hcl2:ltR rk (p.getD (m - 1) 0) (p.getD m 0)=true:=decide_eq_true hc2
    refine⟨p,m,q,.ask a1 a2 ?_,h,Nat.le_refl _,hm,hd,hq⟩
    rw[hcl,if_neg Bool.false_ne_true]
    refine .ask a2 a1 ?_
    rw[hcl2,if_pos rfl];exact .ret _
   ·have hcl2:ltR rk (p.getD (m - 1) 0) (p.getD m 0)=false:=decide_eq_false hc2
    have he:bR rk p m=bR rk p (m - 1):=by omega
    obtain⟨p',m',q',g1,g2,g3,g4,g5,g6⟩:=jO hr f p (m+1) (q+1) h (by omega) (by omega) (by omega) (step _ (λ_=>rfl) (by omega)) ⟨by have:=hq.1;omega,λk k1 k2=>by
     rw[Nat.add_sub_cancel]
     by_cases z:k=m
     ·rw[z]
     ·rw[hq.2 k (by omega) (by omega),he]⟩
    refine⟨p',m',q',.ask a1 a2 ?_,g2,by omega,g4,g5,g6⟩
    rw[hcl,if_neg Bool.false_ne_true]
    refine .ask a2 a1 ?_
    rw[hcl2,if_neg Bool.false_ne_true];exact g1
theorem tS {r:Nat}(hr:r<=n) {p:Array Nat}(h:Arr n p) {m:Nat}(h1:1<=m) (hm:m<=r) (hd:r9 rk p m):∃m' p',Run n (ltR rk) (kas_tail3 m r p) (m',p')/\Arr n p'/\1<=m'/\m'<=r/\Up rk p' m':=by
 have hu:Up rk (kas_rev p 0 m) m:=λi j hij hj=>by
  rw[r6 (by rw[h.size];omega),r6 (by rw[h.size];omega),if_pos (by omega),if_pos (by omega)]
  exact hd _ _ (by omega) (by omega)
 obtain⟨m',q1,q2,q3,q4,_⟩:=rA (h.rev 0 m) hr (r - m) m rfl h1 hm hu
 exact⟨m',_,q1.bind (.ret _),h.rev 0 m,by omega,q3,q4⟩
theorem tT {r:Nat}(hr:r<=n) {p:Array Nat}(h:Arr n p) {m:Nat}(hm:m+1<=r) (hd:r9 rk p (m+1)):∃m' p',Run n (ltR rk) (kas_descPart m r p) (m',p')/\Arr n p'/\1<=m'/\m'<=r/\Up rk p' m':=by
 obtain⟨p1,m1,q1,g1,g2,g3,g4,g5,g6⟩:=jO hr (r - (m+1)) p (m+1) 0 h rfl (by omega) hm hd (nI _ (by omega))
 by_cases hq:q1 > 0
 ·obtain⟨m',p',k1,k2,k3,k4,k5⟩:=tS hr (g2.rev (m1 - (q1+1)) m1) (m:=m1) (by omega) g4 (wV (tR (by rw[g2.size];omega) g6) g5)
  exact⟨m',p',g1.bind (by dsimp only;rw[if_pos hq];exact k1),k2,k3,k4,k5⟩
 ·obtain⟨m',p',k1,k2,k3,k4,k5⟩:=tS hr g2 (m:=m1) (by omega) g4 g5
  exact⟨m',p',g1.bind (by dsimp only;rw[if_neg hq];exact k1),k2,k3,k4,k5⟩
theorem yw {p:Array Nat}(h:Arr n p) (hn:1<=n):∃m' p',Run n (ltR rk) (kas_count n p) (m',p')/\Arr n p'/\1<=m'/\m'<=n/\Up rk p' m':=by
 obtain⟨m,q1,q2,q3,q4,q5⟩:=rA h (Nat.le_refl n) (n - 1) 1 rfl (Nat.le_refl 1) hn (DQ (rk:=rk) p)
 by_cases e:m=n
 ·exact⟨m,p,q1.bind (by rw[if_pos (by simp[e])];exact .ret _),h,q2,q3,q4⟩
 ·have hlt:=q5 (by omega)
  have e1:¬(m == n)=true:=by simp[e]
  by_cases hm1:m > 1
  ·by_cases hc:bR rk p 0<bR rk p (m - 1)
   ·refine⟨m,p,q1.bind ?_,h,q2,q3,q4⟩
    rw[if_neg e1,if_pos hm1]
    refine .ask (h.lt (by omega)) (h.lt (by omega)) ?_
    have:ltR rk (p.getD 0 0) (p.getD (m - 1) 0)=true:=decide_eq_true hc
    rw[this,if_pos rfl];exact .ret _
   ·have hall:∀k,k<m->bR rk p k=bR rk p 0:=λk hk=>by
     have z1:=q4 0 k (by omega) hk
     have z2:=q4 k (m - 1) (by omega) (by omega)
     omega
    have er:∀k,bR rk (kas_rev p 0 m) k=bR rk p k:=λk=>by
     rw[r6 (by rw[h.size];omega)]
     split
     ·rename_i z;rw[hall _ (by omega),hall k z.2]
     ·rfl
    have hd:r9 rk p (m+1):=λi j hij hj=>by
     by_cases z:j=m
     ·subst z
      by_cases z2:i=j
      ·subst z2;exact Int.le_refl _
      ·rw[hall i (by omega)];rw[hall (j - 1) (by omega)]at hlt;omega
     ·rw[hall i (by omega),hall j (by omega)];exact Int.le_refl _
    obtain⟨m',p',k1,k2,k3,k4,k5⟩:=tT (Nat.le_refl n) (h.rev 0 m) (m:=m) (by omega) (wV er hd)
    refine⟨m',p',q1.bind ?_,k2,k3,k4,k5⟩
    rw[if_neg e1,if_pos hm1]
    refine .ask (h.lt (by omega)) (h.lt (by omega)) ?_
    have:ltR rk (p.getD 0 0) (p.getD (m - 1) 0)=false:=decide_eq_false hc
    rw[this,if_neg Bool.false_ne_true];exact k1
  ·have em:m=1:=by omega
   subst em
   have hd:r9 rk p 2:=λi j hij hj=>by
    by_cases z2:i=j
    ·subst z2;exact Int.le_refl _
    ·have:i=0:=by omega
     have:j=1:=by omega
     subst_vars
     have:=hlt
     simp at this
     omega
   obtain⟨m',p',k1,k2,k3,k4,k5⟩:=tT (Nat.le_refl n) h (m:=1) (by omega) hd
   refine⟨m',p',q1.bind ?_,k2,k3,k4,k5⟩
   rw[if_neg e1,if_neg hm1];exact k1
theorem lb {p:Array Nat}(h:Arr n p) {k:Nat}(hk:k<n) (hu:Up rk p k):∀(f l r:Nat),r - l<=f->l<=r->r<=k->(∀i,i<l->bR rk p i<=bR rk p k)->(∀i,r<=i->i<k->bR rk p k<bR rk p i) ->
  ∃l',Run n (ltR rk) (kas_place p k f l r) l'/\l'<=k/\(∀i,i<l'->bR rk p i<=bR rk p k)/\(∀i,l'<=i->i<k->bR rk p k<bR rk p i)
 | 0,l,r,hf,hl,hr,h1,h2=>⟨l,.ret l,by omega,h1,λi a b=>h2 i (by omega) b⟩
 | f+1,l,r,hf,hl,hr,h1,h2=>by
  by_cases hge:l ≥ r
  ·refine⟨l, ?_,by omega,h1,λi a b=>h2 i (by omega) b⟩
   unfold kas_place;rw[if_pos hge];exact .ret l
  ·by_cases hc:bR rk p k<bR rk p ((l+r) / 2)
   ·obtain⟨l',q1,q2,q3,q4⟩:=lb h hk hu f l ((l+r) / 2) (by omega) (by omega) (by omega) h1 λi a b=>by
     have:=hu ((l+r) / 2) i a b;omega
    refine⟨l', ?_,q2,q3,q4⟩
    unfold kas_place;rw[if_neg hge]
    refine .ask (h.lt (by omega)) (h.lt (by omega)) ?_
    have:ltR rk (p.getD k 0) (p.getD ((l+r) / 2) 0)=true:=decide_eq_true hc
    rw[this,if_pos rfl];exact q1
   ·obtain⟨l',q1,q2,q3,q4⟩:=lb h hk hu f ((l+r) / 2+1) r (by omega) (by omega) hr (λi a=>by
     have:=hu i ((l+r) / 2) (by omega) (by omega);omega) h2
    refine⟨l', ?_,q2,q3,q4⟩
    unfold kas_place;rw[if_neg hge]
    refine .ask (h.lt (by omega)) (h.lt (by omega)) ?_
    have:ltR rk (p.getD k 0) (p.getD ((l+r) / 2) 0)=false:=decide_eq_false hc
    rw[this,if_neg Bool.false_ne_true];exact q1
theorem wW:∀(f:Nat) (p:Array Nat) (k:Nat),Arr n p->n - k=f->k<=n->Up rk p k->∃p',Run n (ltR rk) (kas_bin f p k) p'/\Arr n p'/\Up rk p' n
 | 0,p,k,h,hf,hk,hu=>⟨p,.ret p,h,(show k=n by omega) ▸ hu⟩
 | f+1,p,k,h,hf,hk,hu=>by
  have hk':k<n:=by omega
  obtain⟨l,q1,q2,q3,q4⟩:=lb h hk' hu k 0 k (by omega) (by omega) (Nat.le_refl _) (λi z=>by omega) (λi a b=>by omega)
  have hsz:k<p.size:=by rw[h.size];exact hk'
  have hu':Up rk (bubble p k (k - l)) (k+1):=λi j hij hj=>by
   rw[zK hsz (by omega),zK hsz (by omega)]
   have e:k - (k - l)=l:=by omega
   rw[e]
   by_cases i1:i=l
   ·rw[if_pos i1]
    by_cases j1:j=l
    ·rw[if_pos j1];exact Int.le_refl _
    ·rw[if_neg j1,if_pos (by omega)];have:=q4 (j - 1) (by omega) (by omega);omega
   ·rw[if_neg i1]
    by_cases i2:l<i/\i<=k
    ·rw[if_pos i2,if_neg (by omega),if_pos (by omega)];exact hu _ _ (by omega) (by omega)
    ·rw[if_neg i2]
     by_cases j1:j=l
     ·rw[if_pos j1];exact q3 i (by omega)
     ·rw[if_neg j1]
      by_cases j2:l<j/\j<=k
      ·rw[if_pos j2];exact hu _ _ (by omega) (by omega)
      ·rw[if_neg j2];exact hu _ _ hij (by omega)
  obtain⟨p',k1,k2,k3⟩:=wW f (bubble p k (k - l)) (k+1) (h.bub _ _) (by omega) (by omega) hu'
  exact⟨p',q1.bind k1,k2,k3⟩
theorem zL (hn:1<=n):∃p,Run n (ltR rk) (kas_sort n) p/\Arr n p/\Up rk p n:=by
 have h0:Arr n (List.toArray (List.range n)):=⟨by simp,by simp⟩
 obtain⟨m,p,q1,q2,q3,q4,q5⟩:=yw (rk:=rk) h0 hn
 by_cases e:m<n
 ·have hmx:max m 1=m:=by omega
  obtain⟨p',k1,k2,k3⟩:=wW (n - max m 1) p (max m 1) q2 rfl (by omega) (by rw[hmx];exact q5)
  exact⟨p',q1.bind (by dsimp only;rw[if_pos e];exact k1),k2,k3⟩
 ·have:m=n:=by omega
  subst this
  exact⟨p,q1.bind (by dsimp only;rw[if_neg e];exact .ret _),q2,q5⟩
end
theorem gu {a b c:List Int}(h:a<b) (k:b<c):a<c:=List.lt_trans h k
theorem yx {a b c:List Int}(h:¬b<a) (k:¬c<b):¬c<a:=List.not_lt.mpr (List.le_trans (List.not_lt.mp h) (List.not_lt.mp k))
theorem zM {a b:List Int}(h:¬b<a) (k:¬a<b):a=b:=List.le_antisymm (List.not_lt.mp h) (List.not_lt.mp k)
section
variable {α:Type}(f:α->List Int)
def leF (a b:α):Prop:=¬f b<f a
def vP (x:α):List α->List α
 | []=>[x]
 | y::r=>if f y<f x then y::vP x r else x::y::r
def fR (l:List α):List α:=l.foldr (vP f) []
theorem lf (x:α):∀l,(vP f x l).Perm (x::l)
 | []=>List.Perm.refl _
 | y::r=>by
  unfold vP
  split
  ·exact((lf x r).cons y).trans (List.Perm.swap x y r)
  ·exact List.Perm.refl _
theorem bP:∀l,(fR f l).Perm l
 | []=>List.Perm.refl _
 | x::l=>(lf f x (fR f l)).trans ((bP l).cons x)
theorem pT (x:α):∀l,l.Pairwise (leF f)->(vP f x l).Pairwise (leF f)
 | [],_=>by simp[vP]
 | y::r,h=>by
  obtain⟨h1,h2⟩:=List.pairwise_cons.mp h
  unfold vP
  split
  ·rename_i hl
   refine List.pairwise_cons.mpr ⟨λz hz=>?_,pT x r h2⟩
   rcases List.mem_cons.mp ((lf f x r).mem_iff.mp hz)with rfl|hz
   ·exact λk=>List.lt_irrefl _ (gu hl k)
   ·exact h1 z hz
  ·rename_i hl
   refine List.pairwise_cons.mpr ⟨λz hz=>?_,h⟩
   rcases List.mem_cons.mp hz with rfl|hz
   ·exact hl
   ·exact yx hl (h1 z hz)
theorem f7:∀l,(fR f l).Pairwise (leF f)
 | []=>List.Pairwise.nil
 | x::l=>pT f x _ (f7 l)
theorem lg:∀(l1 l2:List α),(∀x∈l1,∀y∈l1,f x=f y->x=y)->l1.Perm l2->l1.Pairwise (leF f)->l2.Pairwise (leF f)->l1=l2
 | [],l2,_,p,_,_=>(List.nil_perm.mp p).symm
 | x::r1,[],_,p,_,_=>absurd p.length_eq (by simp)
 | x::r1,y::r2,hi,p,h1,h2=>by
  have hy:y∈x::r1:=p.mem_iff.mpr (mX ..)
  have hxy:leF f x y:=by
   rcases List.mem_cons.mp hy with z|z
   ·rw[z];exact List.lt_irrefl _
   ·exact(List.pairwise_cons.mp h1).1 y z
  have hyx:leF f y x:=by
   rcases List.mem_cons.mp (p.mem_iff.mp (mX ..))with z|z
   ·rw[z];exact List.lt_irrefl _
   ·exact(List.pairwise_cons.mp h2).1 x z
  have e:x=y:=hi x (mX ..) y hy (zM hxy hyx)
  subst e
  rw[lg r1 r2 (λa ha b hb=>hi a (mZ _ ha) b (mZ _ hb)) (List.Perm.cons_inv p) (List.pairwise_cons.mp h1).2 (List.pairwise_cons.mp h2).2]
theorem jP {l l':List α}(hi:∀x∈l,∀y∈l,f x=f y->x=y) (p:l'.Perm l) (h:l'.Pairwise (leF f)):l'=fR f l :=
 lg f _ _ (λx hx y hy=>hi x (p.mem_iff.mp hx) y (p.mem_iff.mp hy)) (p.trans (bP f l).symm) h (f7 f l)
end
theorem jv {α:Type}{p q:α->Bool}(h:∀x,p x=true->q x=true):∀l:List α,(l.filter p).length<=(l.filter q).length
 | []=>Nat.le_refl _
 | x::l=>by
  have ih:=jv h l
  rw[List.filter_cons,List.filter_cons]
  by_cases z:p x=true
  ·rw[if_pos z,if_pos (h x z)];simp only[List.length_cons];omega
  ·rw[if_neg z]
   split
   ·simp only[List.length_cons];omega
   ·exact ih
def jQ (cs:List (List Int)) (c:List Int):Int:=((cs.filter λx=>decide (x<c)).length:Nat)
theorem B1 {cs:List (List Int)}{a b:List Int}(h:¬b<a):jQ cs a<=jQ cs b:=by
 unfold jQ
 refine Int.ofNat_le.mpr (jv (λx hx=>?_) cs)
 rw[decide_eq_true_eq]at hx ⊢
 rcases List.le_iff_lt_or_eq.mp (List.not_lt.mp h)with z|z
 ·exact gu hx z
 ·rw[←z];exact hx
theorem wZ {cs:List (List Int)}{a b:List Int}(ha:a∈cs) (h:a<b):jQ cs a<jQ cs b:=by
 unfold jQ
 apply Int.ofNat_lt.mpr
 induction cs with
 | nil=>simp at ha
 | cons c cs ih =>
  have key:∀l:List (List Int),(l.filter λx=>decide (x<a)).length<=(l.filter λx=>decide (x<b)).length:=λl =>
   jv (λx hx=>by rw[decide_eq_true_eq]at hx ⊢;exact gu hx h) l
  rw[List.filter_cons,List.filter_cons]
  rcases List.mem_cons.mp ha with rfl|ha
  ·rw[if_neg (by simp[List.lt_irrefl]),if_pos (by simpa using h)]
   have:=key cs
   simp only[List.length_cons];omega
  ·have:=ih ha
   by_cases z:c<a
   ·rw[if_pos (by simpa using z),if_pos (by simpa using gu z h)]
    simp only[List.length_cons];omega
   ·rw[if_neg (by simpa using z)]
    split
    ·simp only[List.length_cons];omega
    ·exact this
theorem zN {cs:List (List Int)}{a b:List Int}(ha:a∈cs):decide (jQ cs a<jQ cs b)=decide (a<b):=by
 by_cases h:a<b
 ·rw[decide_eq_true h,decide_eq_true (wZ ha h)]
 ·rw[decide_eq_false h,decide_eq_false]
  have:=B1 (cs:=cs) h
  omega
inductive At where
 | i (n:Int)
 | s (z:Str)
def enc:At->List Int
 | .i n=>[n]
 | .s z=>z.cps.toList.map (λ(c:Nat)=>(c:Int)+1)++[0]
def cm (xs:List At):List Int:=xs.flatMap enc
def bu:List At->List At->Option Bool
 | [],ys=>some (!ys.isEmpty)
 | _::_,[]=>some false
 | .i a::xs,.i b::ys=>if a=b then bu xs ys else some (decide (a<b))
 | .s a::xs,.s b::ys=>if a=b then bu xs ys else some (decide (a.cps.toList<b.cps.toList))
 | _::_,_::_=>none
theorem rB:∀(a b:List Nat) (r r':List Int),(a.map (λ(c:Nat)=>(c:Int)+1)++0::r)<(b.map (λ(c:Nat)=>(c:Int)+1)++0::r')↔a<b∨(a=b/\r<r')
 | [],[],r,r'=>by simp[List.cons_lt_cons_iff]
 | [],y::b,r,r'=>by simp[List.cons_lt_cons_iff]
 | x::a,[],r,r'=>by simp[List.cons_lt_cons_iff];omega
 | x::a,y::b,r,r'=>by
  rw[List.map_cons,List.map_cons,List.cons_append,List.cons_append,List.cons_lt_cons_iff,rB a b r r',List.cons_lt_cons_iff]
  constructor
  ·rintro (h|⟨h,k|⟨k1,k2⟩⟩)
   ·exact .inl (.inl (by omega))
   ·exact .inl (.inr ⟨by omega,k⟩)
   ·exact .inr ⟨by rw[k1,show x=y by omega],k2⟩
  ·rintro ((h|⟨h,k⟩)|⟨h,k⟩)
   ·exact .inl (by omega)
   ·exact .inr ⟨by omega,.inl k⟩
   ·injection h with h1 h2
    exact .inr ⟨by omega,.inr ⟨h2,k⟩⟩
theorem gv (x:At) (xs:List At):cm (x::xs)=enc x++cm xs:=by unfold cm;rw[List.flatMap_cons]
theorem DR (x:At):enc x≠[]:=by cases x<;>simp[enc]
theorem xa {a b:Str}:a.cps.toList=b.cps.toList↔a=b:=by
 constructor
 ·intro h
  obtain⟨a⟩:=a;obtain⟨b⟩:=b
  have:a=b:=Array.toList_inj.mp h
  rw[this]
 ·rintro rfl;rfl
theorem mL:∀(xs ys:List At) (b:Bool),bu xs ys=some b->b=decide (cm xs<cm ys)
 | [],[],b,h=>by simp[bu]at h;subst h;simp[cm]
 | [],y::ys,b,h=>by
  simp[bu]at h;subst h
  rw[gv]
  cases e:enc y with
  | nil=>exact absurd e (DR y)
  | cons c cs=>simp[cm]
 | x::xs,[],b,h=>by simp[bu]at h;subst h;simp[cm]
 | .i a::xs,.i c::ys,b,h=>by
  rw[bu]at h
  rw[gv,gv]
  show b=decide (a::cm xs<c::cm ys)
  split at h
  ·rename_i e
   subst e
   rw[mL xs ys b h]
   exact decide_eq_decide.mpr (by rw[List.cons_lt_cons_iff];simp)
  ·rename_i e
   cases h
   exact decide_eq_decide.mpr (by rw[List.cons_lt_cons_iff];simp[e])
 | .s a::xs,.s c::ys,b,h=>by
  rw[bu]at h
  rw[gv,gv]
  have e0:∀(z:Str) (r:List Int),enc (.s z)++r=z.cps.toList.map (λ(c:Nat)=>(c:Int)+1)++0::r:=λz r=>by simp[enc]
  rw[e0,e0]
  split at h
  ·rename_i e
   subst e
   rw[mL xs ys b h]
   exact decide_eq_decide.mpr (by rw[rB];exact⟨λz=>.inr ⟨rfl,z⟩,λz=>z.elim (λq=>absurd q (List.lt_irrefl _)) (·.2)⟩)
  ·rename_i e
   cases h
   exact decide_eq_decide.mpr (by rw[rB,xa];exact⟨.inl,λz=>z.elim id λq=>absurd q.1 e⟩)
 | .i _::_,.s _::_,b,h=>by simp[bu]at h
 | .s _::_,.i _::_,b,h=>by simp[bu]at h
theorem vQ:∀(xs ys:List At),bu xs ys=some false->bu ys xs=some false->xs=ys
 | [],[],_,_=>rfl
 | [],y::ys,h,_=>by simp[bu]at h
 | x::xs,[],_,h=>by simp[bu]at h
 | .i a::xs,.i c::ys,h,k=>by
  rw[bu]at h k
  by_cases e:a=c
  ·subst e
   rw[if_pos rfl]at h k
   rw[vQ xs ys h k]
  ·rw[if_neg e]at h
   rw[if_neg (Ne.symm e)]at k
   simp at h k
   omega
 | .s a::xs,.s c::ys,h,k=>by
  rw[bu]at h k
  by_cases e:a=c
  ·subst e
   rw[if_pos rfl]at h k
   rw[vQ xs ys h k]
  ·rw[if_neg e]at h
   rw[if_neg (Ne.symm e)]at k
   simp only[Option.some.injEq,decide_eq_false_iff_not]at h k
   exact absurd (xa.mp (List.le_antisymm (List.not_lt.mp k) (List.not_lt.mp h))) e
 | .i _::_,.s _::_,h,_=>by simp[bu]at h
 | .s _::_,.i _::_,h,_=>by simp[bu]at h
def eC (ks:List (List At)):Bool:=ks.all λx=>ks.all λy=>(bu x y).isSome
theorem eZ {ks:List (List At)}(h:eC ks=true) {x y:List At}(hx:x∈ks) (hy:y∈ks):bu x y=some (decide (cm x<cm y)):=by
 have:=List.all_eq_true.mp (List.all_eq_true.mp h x hx) y hy
 obtain⟨b,e⟩:=Option.isSome_iff_exists.mp this
 rw[e,mL _ _ _ e]
theorem pU {ks:List (List At)}(h:eC ks=true) {x y:List At}(hx:x∈ks) (hy:y∈ks) (e:cm x=cm y):x=y:=by
 refine vQ _ _ ?_ ?_
 ·rw[eZ h hx hy,e,decide_eq_false (List.lt_irrefl _)]
 ·rw[eZ h hy hx,e,decide_eq_false (List.lt_irrefl _)]
def atV:At->Value->Prop
 | .i n,v=>∃t,v=.int n t
 | .s z,v=>∃t,v=.str z t
def gw (h:Heap) (xs:List At) (v:Value):Prop:=∃a o its n,v=.ref a/\h.get? a=some o/\o.cls=.type "tuple"/\o.data=.seq its n/\Paired atV xs its.toList
def d5 (ks:List (List At)):Bool:=ks.all (λx=>match x with|.i _::_=>true|_=>false) || ks.all (λx=>match x with|.s _::_=>true|_=>false)
section
variable {prog:Program}{w:World}{A:Around}{E:Value->Shared->Prop}{s:Shared}
theorem nJ {Q:Bool->Shared->Prop}{b:Bool}{fin:Bool}:∀(xs ys:List At) (its jts:List Value) (i:Nat),Paired atV xs its->Paired atV ys jts->bu xs ys=some b->fin=decide (xs.length<ys.length)->Q b s->KatLex prog w A true fin Q (its.zip jts) i s
 | [],ys,_,jts,i,.nil,r2,h,hf,q=>by
  rw[List.zip_nil_left]
  refine kat_nil ?_
  cases ys with
  | nil=>simp[bu]at h;subst h;rw[hf];exact q
  | cons y ys=>simp[bu]at h;subst h;rw[hf];simpa using q
 | x::xs,[],_,_,i,_,.nil,h,hf,q=>by
  rw[List.zip_nil_right]
  refine kat_nil ?_
  simp[bu]at h;subst h;rw[hf];simpa using q
 | .i a::xs,.i c::ys,_,_,i,.cons r1 r1',.cons r2 r2',h,hf,q=>by
  obtain⟨t,rfl⟩:=r1
  obtain⟨u,rfl⟩:=r2
  rw[List.zip_cons_cons]
  refine kat_cons (wpAny_eqBool_int ?_)
  rw[bu]at h
  by_cases e:a=c
  ·rw[if_pos e]at h
   rw[show(a == c)=true by simp[e]]
   exact kat_yes (nJ xs ys _ _ (i+1) r1' r2' h (by rw[hf];simp) q)
  ·rw[if_neg e]at h
   cases h
   rw[show(a == c)=false by simp[e]]
   refine kat_no ?_
   cases hb:(true && i == 0) with
   | true=>exact oneLt_int q
   | false=>exact kat_one _ _ (PyProof.Rows.lt_int q)
 | .s a::xs,.s c::ys,_,_,i,.cons r1 r1',.cons r2 r2',h,hf,q=>by
  obtain⟨t,rfl⟩:=r1
  obtain⟨u,rfl⟩:=r2
  rw[List.zip_cons_cons]
  refine kat_cons (wpAny_eqBool_str ?_)
  rw[bu]at h
  by_cases e:a=c
  ·rw[if_pos e]at h
   rw[decide_eq_true e]
   exact kat_yes (nJ xs ys _ _ (i+1) r1' r2' h (by rw[hf];simp) q)
  ·rw[if_neg e]at h
   cases h
   rw[decide_eq_false e]
   refine kat_no ?_
   cases hb:(true && i == 0) with
   | true=>exact oneLt_str q
   | false=>exact kat_one _ _ (PySem.P.lt_str q)
 | .i _::_,.s _::_,_,_,_,_,_,h,_,_=>by simp[bu]at h
 | .s _::_,.i _::_,_,_,_,_,_,h,_,_=>by simp[bu]at h
theorem jw {α β:Type}{F:α->β->Prop}:∀ {l₁:List α}{l₂:List β},Paired F l₁ l₂->l₁.length=l₂.length
 | _,_,.nil=>rfl
 | _,_,.cons _ t=>by simp[jw t]
theorem DS {Q:Bool->Shared->Prop}{xs ys:List At}{x y:Value}{b:Bool}(hx:gw s.heap xs x) (hy:gw s.heap ys y) (h:bu xs ys=some b) (q:Q b s):wpAny (model prog w) A (keyLt' (tuples' true) x y) Q E s:=by
 obtain⟨a,o,its,n,rfl,ho,_,hd,r⟩:=hx
 obtain⟨a',o',its',n',rfl,ho',_,hd',r'⟩:=hy
 refine kat_lt ho hd ho' hd' (nJ xs ys _ _ 0 r r' h ?_ q)
 rw[←Array.length_toList,←Array.length_toList,jw r,jw r']
theorem lT {h:Heap}:∀ {ks:List (List At)}{vs:List Value},Paired (gw h) ks vs->(∀k∈ks,k≠[])->∃fs,KatTups h vs fs/\fs.length=ks.length/\∀v∈fs,∃k r,(k::r)∈ks/\atV k v
 | _,_,.nil,_=>⟨[],trivial,rfl,by simp⟩
 | k::ks,_,.cons x t,hne=>by
  obtain⟨fs,h1,h2,h3⟩:=lT t λz hz=>hne z (mZ _ hz)
  obtain⟨a,o,its,n,rfl,ho,hc,hd,r⟩:=x
  cases r':its.toList with
  | nil =>
   rw[r']at r
   cases r
   exact absurd rfl (hne [] (mX ..))
  | cons v vs =>
   rw[r']at r
   obtain⟨p,r1⟩:∃p,its[0]? = some v:=⟨(),by rw[←Array.getElem?_toList,r'];rfl⟩
   cases r with
   | cons q qs =>
    rename_i k0 kr
    refine⟨v::fs,KatTups.cons ho hc hd r1 h1,by simp[h2],λu hu=>?_⟩
    rcases List.mem_cons.mp hu with rfl|hu
    ·exact⟨k0,kr,mX ..,q⟩
    ·obtain⟨k1,r1,m1,m2⟩:=h3 u hu
     exact⟨k1,r1,mZ _ m1,m2⟩
theorem zO {ks:List (List At)}{vs:List Value}{Q:SortKind->Shared->Prop}(hp:Paired (gw s.heap) ks vs) (hf:d5 ks=true) (hn:0<ks.length) (q:Q (tuples' true) s):wpAny (model prog w) A (keyKind' vs.toArray) Q E s:=by
 have hne:∀k∈ks,k≠[]:=λk hk z=>by
  subst z
  unfold d5 at hf
  rw[Bool.or_eq_true]at hf
  rcases hf with hf|hf
  ·have:=List.all_eq_true.mp hf [] hk;simp at this
  ·have:=List.all_eq_true.mp hf [] hk;simp at this
 obtain⟨fs,h1,h2,h3⟩:=lT hp hne
 unfold d5 at hf
 rw[Bool.or_eq_true]at hf
 rcases hf with hf|hf
 ·refine kat_kind (T:=.type "int") h1 (by omega) (λv hv=>?_) (by decide) q
  obtain⟨k,r,m,z⟩:=h3 v hv
  have:=List.all_eq_true.mp hf _ m
  cases k with
  | i n=>obtain⟨t,rfl⟩:=z;exact .now
  | s z'=>simp at this
 ·refine kat_kind (T:=.type "str") h1 (by omega) (λv hv=>?_) (by decide) q
  obtain⟨k,r,m,z⟩:=h3 v hv
  have:=List.all_eq_true.mp hf _ m
  cases k with
  | s z'=>obtain⟨t,rfl⟩:=z;exact .now
  | i n=>simp at this
end
section
variable {prog:Program}{w:World}{A:Around}{E:Value->Shared->Prop}{s:Shared}
theorem jx {α β:Type}{F:α->β->Prop}(d:α) (e:β):∀ {l₁:List α}{l₂:List β},Paired F l₁ l₂->∀ {i:Nat},i<l₁.length->F (l₁.getD i d) (l₂.getD i e)
 | _,_,.cons r t,0,_=>r
 | _,_,.cons r t,i+1,h=>by
  simp only[List.getD_cons_succ]
  exact jx d e t (by simpa using h)
 | _,_,.nil,i,h=>by simp at h
def rkK (ks:List (List At)) (i:Nat):Int:=jQ (ks.map cm) (cm (ks.getD i []))
theorem B3 {ks:List (List At)}{vs:List Value}(hc:eC ks=true) (hp:Paired (gw s.heap) ks vs):∀(i j:Nat) (C:Bool->Shared->Prop) (s1:Shared),i<ks.length->j<ks.length->s1=s->(∀s',s'=s->C (ltR (rkK ks) i j) s')->kas_ask prog w A (tuples' true) vs i j C s1:=by
 intro i j C s1 hi hj e hC
 subst e
 unfold kas_ask
 have mi:ks.getD i []∈ks:=by rw[List.getD_eq_getElem?_getD,List.getElem?_eq_getElem hi];exact List.getElem_mem hi
 have mj:ks.getD j []∈ks:=by rw[List.getD_eq_getElem?_getD,List.getElem?_eq_getElem hj];exact List.getElem_mem hj
 refine DS (jx [] Value.none hp hi) (jx [] Value.none hp hj) (eZ hc mi mj) ?_
 have:=hC s1 rfl
 unfold ltR rkK at this
 rw[zN (List.mem_map.mpr ⟨_,mi,rfl⟩)]at this
 exact this
end
end DL
namespace DL
open PySem PySem.Spec PySem.W PyProof.Rows L2
def CA:D->Option At
 | .int n=>some (.i n)
 | .str z=>some (.s z)
 | _=>none
def f8:List D->Option (List At)
 | []=>some []
 | d::ds=>(CA d).bind λa=>(f8 ds).map (a :: ·)
def tU:D->Option (List At)
 | .tup es=>f8 es
 | _=>none
def cW:List D->Option (List (List At))
 | []=>some []
 | d::ds=>(tU d).bind λa=>(cW ds).map (a :: ·)
def CB:List D->Option (List Int)
 | []=>some []
 | .int n::ds=>(CB ds).map (n :: ·)
 | _::_=>none
theorem fg:∀ {ds:List D}{ks:List (List At)},cW ds=some ks->ks.length=ds.length
 | [],_,h=>by simp only[cW]at h;cases h;rfl
 | d::ds,_,h=>by
  simp only[cW]at h
  obtain⟨a,h1,h⟩:=oX h
  obtain⟨r,h2,h⟩:=oY h
  subst h
  simp[fg h2]
theorem lh:∀ {ds:List D}{ks:List (List At)},cW ds=some ks->∀ {i:Nat},i<ds.length->tU (ds.getD i .non)=some (ks.getD i [])
 | [],_,h,i,hi=>by simp at hi
 | d::ds,_,h,0,hi=>by
  simp only[cW]at h
  obtain⟨a,h1,h⟩:=oX h
  obtain⟨r,h2,h⟩:=oY h
  subst h
  exact h1
 | d::ds,_,h,i+1,hi=>by
  simp only[cW]at h
  obtain⟨a,h1,h⟩:=oX h
  obtain⟨r,h2,h⟩:=oY h
  subst h
  simp only[List.getD_cons_succ]
  exact lh h2 (by simpa using hi)
section
variable {X:Cx}
theorem tV {K:PySem.W.Frag}{B:Hp}:∀ {vs:List V}{es:List D}{k:List At}{its:List Value},bc vs its->IsL K B vs es->f8 es=some k->Paired atV k its
 | _,_,_,_,.nil,.nil,h=>by simp only[f8]at h;cases h;exact .nil
 | _,_,_,_,.cons r rr,.cons i ii,h=>by
  simp only[f8]at h
  obtain⟨a,h1,h⟩:=oX h
  obtain⟨t,h2,h⟩:=oY h
  subst h
  refine .cons ?_ (tV rr ii h2)
  cases i<;>simp only[CA]at h1<;>cases h1
  ·exact r
  ·exact r
theorem rC {pins:List (Addr×Obj)}{σ:St}{H:Hp}{s:Shared}(I:Inv X pins σ H s):∀ {ys:List V}{ds:List D}{ks:List (List At)}{its:List Value},bc ys its->IsL X.K H ys ds->cW ds=some ks->Paired (gw s.heap) ks its
 | _,_,_,_,.nil,.nil,h=>by simp only[cW]at h;cases h;exact .nil
 | _,_,_,_,.cons r rr,.cons i ii,h=>by
  simp only[cW]at h
  obtain⟨a,h1,h⟩:=oX h
  obtain⟨t,h2,h⟩:=oY h
  subst h
  refine .cons ?_ (rC I rr ii h2)
  cases i<;>simp only[tU]at h1<;>try (cases h1;done)
  rename_i hq hl
  cases r
  obtain⟨its',r',⟨o,ho,hc,n,hd⟩,_⟩:=I.tuple hq
  exact⟨_,o,_,n,rfl,ho,hc,hd,by simpa using tV r' hl h1⟩
theorem xc {K:PySem.W.Frag}{B:Hp}:∀ {vs:List V}{ds:List D},IsL K B vs ds->∀ {i:Nat},i<ds.length->Is K B (vs.getD i .non) (ds.getD i .non)
 | _,_,.cons h _,0,_=>h
 | _,_,.cons _ t,i+1,hi=>by
  simp only[List.getD_cons_succ]
  exact xc t (by simpa using hi)
 | _,_,.nil,i,hi=>by simp at hi
theorem tW:∀ {vs:List V}{us:List Value},bc vs us->∀ {i:Nat},i<vs.length->aY (vs.getD i .non) (us.getD i Value.none)
 | _,_,.cons h _,0,_=>h
 | _,_,.cons _ t,i+1,hi=>by
  simp only[List.getD_cons_succ]
  exact tW t (by simpa using hi)
 | _,_,.nil,i,hi=>by simp at hi
theorem tX {K:PySem.W.Frag}{B:Hp}{vs:List V}{ds:List D}(h:IsL K B vs ds):∀(l:List Nat),(∀i∈l,i<ds.length)->IsL K B (l.map λi=>vs.getD i .non) (l.map λi=>ds.getD i .non)
 | [],_=>.nil
 | i::l,hl=>.cons (xc h (hl i (mX ..))) (tX h l λj hj=>hl j (mZ _ hj))
theorem pV {vs:List V}{us:List Value}(h:bc vs us):∀(l:List Nat),(∀i∈l,i<vs.length)->bc (l.map λi=>vs.getD i .non) (l.map λi=>us.getD i Value.none)
 | [],_=>.nil
 | i::l,hl=>.cons (tW h (hl i (mX ..))) (pV h l λj hj=>hl j (mZ _ hj))
end
section
variable {X:Cx}
theorem iM:∀ {its:List Value}{zs:List Int},IntsAre its zs->bc (zs.map V.int) its
 | _,_,.nil=>.nil
 | _,_,.cons x t r=>.cons ⟨t,rfl⟩ (iM r)
end
end DL
namespace DL
open PySem PySem.Spec PyProof.Rows L2
section
variable {X:Cx}{pos:Pos}
@[simp] def G8 (i:Nat) (f:FE):FS:=λρ=>match ρ[i]? with
 | some (some (.lst ds,true))=>(f ρ).bind λx=>(CB ds).bind λns=>match x.1 with
  | .int n=>if ns.findIdx (· == n)<ns.length then some (.nx (ρ.set i (some (.lst ((ns.eraseIdx (ns.findIdx (· == n))).map .int),true))))else none
  | _=>none
 | _=>none
end
section
variable {prog:Program}{w:World}{A:Around}{E:Value->Shared->Prop}{s:Shared}
theorem vR {a:Addr}{o:Obj}{its:Array Value}{n:Nat}{x:Value}{e:Value->Bool}{j:Nat}{P:PySem.Fin->Shared->Prop}(ho:s.heap.get? a=some o) (hd:o.data=.seq its n)
  (he:∀y∈its,MeetsSeq.EqGives y x (e y)) (hj:j<its.size) (hit:e its[j]=true) (hno:∀m (hm:m<its.size),m<j->e its[m]=false)
  (h:P (.done (.ret (.int j s.toks))) { s with toks:=s.toks+1 }):wpAny (model prog w) A (Builtin.«tuple.index» ⟨[.ref a,x],[]⟩) P E s:=by
 show wpAny _ _ (Builtin.Tuple.tupleItemsOf (.ref a)>>=_) _ _ s
 refine wX (wpAny_tupleItemsOf ho hd ?_)
 dsimp only
 refine wX (wY (wX (wY (wX ?_))))
 rw[Std.Legacy.Range.forIn_eq_forIn_range']
 refine wpAny_forIn_list _
  (λaF r s'=>r.1=none/\s'=s/\∃i,i<=j/\aF=List.range' i (its.size - i))
  _ ?_ ?_ _ _ ⟨rfl,rfl,0,Nat.zero_le _, ?_⟩
 ·rintro k aF r s' ⟨hr,rfl,i,hi,hz⟩
  have hlt:i<its.size:=by omega
  obtain⟨m,hm⟩:∃m,its.size - i=m+1:=⟨its.size - i - 1,by omega⟩
  rw[hm,List.range'_succ]at hz
  injection hz with z1 z2
  have z1:=z1.symm
  subst z1
  subst z2
  have hg:its[i]? = some its[i]:=by simp[hlt]
  simp only[hg]
  refine wX (he _ (Array.getElem_mem hlt) prog w _ _ _ _ ?_)
  by_cases hij:i=j
  ·subst hij
   rw[hit]
   simp only[if_true]
   refine wX ?_
   show wpAny _ _ (mkInt (i:Int)>>=λv=>ret v) _ _ _
   exact wX (wpAny_mkInt (wY (wY (wY h))))
  ·rw[hno i hlt (by omega)]
   simp only[Bool.false_eq_true,if_false]
   exact wY ⟨rfl,rfl,i+1,by omega,by rw[show its.size - (i+1)=m by omega]⟩
 ·rintro⟨r1,r2⟩ s' ⟨hr,rfl,i,hi,hz⟩
  exfalso
  have:(List.range' i (its.size - i)).length=0:=by rw[←hz];rfl
  rw[List.length_range']at this
  omega
 ·simp
end
theorem CRows.findT {K:PySem.W.Frag}{P:Params}(y:Str) {ds:List D}:∀ {es:List DictEntry}{kvs:List (Str×D)},CRows K P es kvs->kvs.lookup y=some (.tup ds) ->
  ∃e a its n osl,es.find? (λe=>Value.isStrOf y e.key)=some e/\e.val=.ref a/\K.lookup a=some ⟨.type "tuple",none,.seq its n,osl⟩/\gH its.toList ds=true
 | _,_,.nil,h=>by simp at h
 | _,_,.tup (x:=x) (t:=t) (a:=a) (ds:=ds') hh l f tl,h=>by
  by_cases e:y=x
  ·subst e
   rw[List.lookup_cons_self]at h
   cases h
   rw[Bool.and_eq_true]at f
   exact⟨_,a,_,_,_,List.find?_cons_of_pos (by simp[Value.isStrOf]),rfl,l,f.2⟩
  ·rw[List.lookup_cons,beq_eq_false_iff_ne.mpr e]at h
   have nf:Value.isStrOf y (Value.str x t)=false:=by
    rw[Bool.eq_false_iff]
    intro z
    obtain⟨t',q⟩:=Value.isStrOf_shape z
    injection q with q1
    exact e q1.symm
   simp only[List.find?_cons,nf]
   exact tl.findT y h
 | _,_,.flat (x:=x) (t:=t) (u:=u) (d:=d) hh f tl,h=>by
  by_cases e:y=x
  ·subst e
   rw[List.lookup_cons_self]at h
   cases h
   cases u<;>simp[rg]at f
  ·rw[List.lookup_cons,beq_eq_false_iff_ne.mpr e]at h
   have nf:Value.isStrOf y (Value.str x t)=false:=by
    rw[Bool.eq_false_iff]
    intro z
    obtain⟨t',q⟩:=Value.isStrOf_shape z
    injection q with q1
    exact e q1.symm
   simp only[List.find?_cons,nf]
   exact tl.findT y h
section
variable {X:Cx}{b e:Expr}{pos:Pos}{x:Str}{p:Pos}
def Gf (K:PySem.W.Frag):V->List V->Hp->VK->Prop:=λx xs H Q=>∃(a:Addr) (o:Obj) (its:Array Value) (n:Nat) (zs:List Str) (y:Str),x=.ref a/\xs=[.str y]/\K.lookup a=some o/\o.cls=.type "tuple"/\o.data=.seq its n/\StrsAre its.toList zs/\zs.findIdx (· == y)<zs.length/\Q (.int (zs.findIdx (· == y):Nat)) H
def CC (y:Str):Value->Bool
 | .str z _=>z == y
 | _=>false
theorem xf:∀ {its:List Value}{zs:List Str},StrsAre its zs->∀(i:Nat) (hi:i<its.length),∃(h:i<zs.length) (t:Tok),its[i]=.str zs[i] t
 | _,_,.cons z t h,0,_=>⟨by simp,t,rfl⟩
 | _,_,.cons z t h,i+1,hi=>by
  obtain⟨h',t',e⟩:=xf h i (by simpa using hi)
  exact⟨by simpa using h',t',by simpa using e⟩
 | _,_,.nil,i,hi=>by simp at hi
theorem tY:∀ {its:List Value}{zs:List Str},StrsAre its zs->its.length=zs.length
 | _,_,.nil=>rfl
 | _,_,.cons _ _ h=>by rw[List.length_cons,List.length_cons,tY h]
theorem zP:MtR X "tuple.index" (Gf X.K):=by
 intro pins s σ H x xs v us Q I rx rv h
 obtain⟨a,o,its,n,zs,y,rfl,rfl,lk,hc,hd,hz,hk,q⟩:=h
 cases rx
 obtain⟨u,rfl,⟨t,rfl⟩⟩:=rv.one
 have ho:=I.kIn a o lk
 have hl:=tY hz
 rw[Array.length_toList]at hl
 have at':∀(i:Nat) (hi:i<its.size),∃(h:i<zs.length) (t:Tok),its[i]=.str zs[i] t:=λi hi=>by
  obtain⟨h',t',e⟩:=xf hz i (by simpa using hi)
  exact⟨h',t',by simpa using e⟩
 refine wpAny_call_entry PySem.F.slot_tuple_index ⟨o,ho,hc⟩ PySem.F.entry_tuple_index (vR (e:=CC y) (j:=zs.findIdx (· == y)) ho hd (λz hm=>?_) (by omega) ?_ (λm hm hlt=>?_) ⟨_,rfl,.int (zs.findIdx (· == y):Nat),H,I.tok _,⟨_,rfl⟩,q⟩) (PySem.F.args_tuple_index_2 _ _)
 ·obtain⟨i,hi,rfl⟩:=Array.mem_iff_getElem.mp hm
  obtain⟨_,t',e'⟩:=at' i hi
  rw[e']
  exact eqGives_str _ _ _ _
 ·obtain⟨_,t',e'⟩:=at' (zs.findIdx (· == y)) (by omega)
  rw[e']
  exact List.findIdx_getElem (p:=(· == y)) (w:=hk)
 ·obtain⟨_,t',e'⟩:=at' m hm
  rw[e']
  have:=List.not_of_lt_findIdx (p:=(· == y)) (xs:=zs) hlt
  simpa [CC]using this
@[simp] def pi (kvs:List (Str×D)):D->D->Option (D×Bool)
 | .str y,.str z=>match kvs.lookup y with
  | some (.tup ds)=>(fQ ds).bind λzs=>if zs.findIdx (· == z)<zs.length then some (.int (zs.findIdx (· == z):Nat),false)else none
  | _=>none
 | _,_=>none
theorem B4 {kvs:List (Str×D)}{f g:FE}{apos cpos:Pos}(h:∃d,X.mg x=some (.ref d)/\pJ X.K X.w.params d kvs) (hb:JE X b f) (he:JE X e g) (hg:Gl X x:=by rfl) (hdb:(x == ("__debug__" : Str))=false:=by decide) (hs:qM b:=by intro _ _;rfl)
  (hbase:attributeBase (.Subscript (.Name x p) b pos) "index" X.env (eval (.Subscript (.Name x p) b pos) X.env)=eval (.Subscript (.Name x p) b pos) X.env:=by rfl)
  (hfew:((backTo cpos (starEach [e] X.env)).all (λx=>!x.1) && (backToKw cpos (keywordEach [] X.env)).all (λx=>x.1.isSome)
   && decide ([e].length+([]:List Keyword).length+(if([]:List Keyword).isEmpty then 0 else 1)<30))=true:=by rfl)
  (hline:(apos.endLine == cpos.line)=true:=by rfl) (hst:starEach [e] X.env=[(false,eval e X.env)]:=by rfl) :
  JE X (.Call (.Attribute (.Subscript (.Name x p) b pos) "index" apos) [e] [] cpos) (f2 (pi kvs) f g):=by
 obtain⟨d,hm,cd⟩:=h
 have ix:IxR X (λx y H Q=>∃z ds,x=.ref d/\y=.str z/\kvs.lookup z=some (.tup ds)/\∀a its n osl,X.K.lookup a=some ⟨.type "tuple",none,.seq its n,osl⟩->gH its.toList ds=true->Q (.ref a) H):=by
  intro value slice pins s σ H x y v u Q I rx ry q hs
  obtain⟨z,ds,rfl,rfl,el,q⟩:=q
  cases rx
  obtain⟨t,rfl⟩:=ry
  obtain⟨es,n,l,r,sm⟩:=cd
  have hM:=PySem.W.mapOf_K (prog:=X.prog) (w:=X.w) I.kIn l r.lit
  obtain⟨en,a,its,n',osl,e1,e2,e3,e4⟩:=r.findT z el
  have ff:findBy Value.isStrOf es z=some (.ref a):=by
   unfold findBy
   obtain⟨es⟩:=es
   rw[List.find?_toArray,e1,←e2]
   rfl
  exact tail_any hM.typeIs slot_dict_getitem.lookup (wpAny_getItem_of (strKind_is X.prog X.w z t) hM ff ⟨.ref a,H,I.tok _,rfl,q a _ _ _ e3 e4⟩) hs
 refine PE.to (Cf (T:="tuple") PySem.F.plainAttrs_tuple PySem.F.slot_tuple_index PySem.F.type_tuple_index zP (Ce ix (wA (v:=.ref d) hg hm rfl hdb) hb hs) (gD he jo hst) hbase hfew hline hst rfl) λσ H Q q=>?_
 obtain⟨B,ρ,d',bb,sB,r,ee,q⟩:=q
 obtain⟨x1,ex,ee⟩:=oX ee
 obtain⟨y1,ey,ee⟩:=oX ee
 obtain⟨xd,xb⟩:=x1
 obtain⟨yd,yb⟩:=y1
 cases xd with
 | str z =>
  cases yd with
  | str y =>
   refine⟨B,ρ,_,xb,sB,r,ex,λv H1 N1 xt i1 _=>?_⟩
   cases i1
   simp only[pi]at ee
   split at ee
   ·rename_i ds el
    obtain⟨zs,ez,ee⟩:=oX ee
    split at ee
    ·rename_i hk
     cases ee
     refine⟨z,ds,rfl,rfl,el,λa its n osl l fl=>⟨.inr (.inl ⟨rfl,_,l,rfl,rfl⟩),N1,ρ,_,yb,xt.nh,r.mono xt.bn,ey,λv2 H2 N2 xt2 i2 _=>?_⟩⟩
     cases i2
     obtain⟨vs,rv,iv⟩:=gI (K:=X.K) fl
     exact⟨a,_,its,n,zs,y,rfl,rfl,l,rfl,rfl,nz rv (iv N2) ez,hk,(q.into (xt.trans xt2)).one xt2.nh (.int _)⟩
    ·cases ee
   ·cases ee
  | _=>simp[pi]at ee
 | _=>simp[pi]at ee
end
open PySem.W (tabIn tabObj CodeHd kla_fn kla_obj kla_eval kla_makeFunction kla_makeFunctionHit kla_callFunE kla_codeExpr envX)
def Fr (K:PySem.W.Frag) (c P:Addr):Prop:=∃o vs file tf flags tg inF text tt,K.lookup c=some o/\o.cls=.type "code"/\o.data=.fields vs/\vs[11]? = some (.ref P)/\vs.getD 11 .none=.ref P/\vs.getD 18 .none=.str file tf /\
 vs.getD 7 .none=.int flags tg/\vs.getD 9 .none=.bool inF/\vs.getD 10 .none=.int text tt/\c≠P
def rE (K:PySem.W.Frag) (x:Str):Prop:=∃c P,tabIn K x=some (c,P)/\Fr K c P
def zQ (H:Hp) (f:Addr) (q:Str) (params:Arguments) (body:Expr) (scope:Scope) (cl:List (Str×Addr)):Prop :=
 ∃pm c ctv u oc u' vs t,H f=some (.frz (kla_obj "<lambda>" q params body scope cl pm c ctv) u)/\H c=some (.frz oc u')/\oc.data=.fields vs/\vs[1]? = some (.str q t)
theorem zQ.mono {H H':Hp}{f:Addr}{q:Str}{params:Arguments}{body:Expr}{scope:Scope}{cl:List (Str×Addr)}(h:zQ H f q params body scope cl) (e:aS H H'):zQ H' f q params body scope cl :=
 let ⟨pm,c,ctv,u,oc,u',vs,t,h1,h2,h3,h4⟩:=h;⟨pm,c,ctv,u,oc,u',vs,t,e _ _ h1,e _ _ h2,h3,h4⟩
theorem lam_mk {K:PySem.W.Frag}{x:Str}{f c P:Addr}{oc:Value}{od od':Option Addr}{osl osl':Array (Option Value)}{fd:FuncData}{vs:Array Value}{file:Str}{tf tg tt:Tok}{flags text:Int}{inF:Bool}(e1:PySem.W.nsIn K mainGlobals x=some (some (.ref f))) (e2:K.lookup f=some ⟨oc,od,.func fd,osl⟩)
  (e3:fd.code=.ref c) (e4:K.lookup c=some ⟨.type "code",od',.fields vs,osl'⟩) (e5:vs[11]? = some (.ref P)) (e6:vs.getD 11 .none=.ref P) (e7:vs.getD 18 .none=.str file tf) (e8:vs.getD 7 .none=.int flags tg) (e9:vs.getD 9 .none=.bool inF) (e10:vs.getD 10 .none=.int text tt) (e11:(c == P)=false):rE K x :=
 ⟨c,P,tab_yes e1 e2 e3 e4 e5,_,vs,file,tf,flags,tg,inF,text,tt,e4,rfl,rfl,e5,e6,e7,e8,e9,e10,λz=>by rw[z]at e11;simp at e11⟩
theorem vS {pos:Pos}{a b:Int}{c cv:Value}(l:List Value) (h:TriplesOk l) (e:codeAmong pos (l++[rawInt a,rawInt b,c])=some cv):codeAmong pos l=some cv∨cv=c:=by
 fun_induction TriplesOk l with
 | case1 =>
  simp only[List.nil_append,rawInt,codeAmong]at e
  split at e
  ·cases e;exact .inr rfl
  ·cases e
 | case2 a' t b' u x aF ih =>
  simp only[List.cons_append,codeAmong]at e ⊢
  split at e
  ·rename_i hc;rw[if_pos hc];exact .inl e
  ·rename_i hc;rw[if_neg hc];exact ih h e
 | case3 l h1 h2=>exact h.elim
section
variable {X:Cx}{pins:List (Addr×Obj)}{σ:St}{H:Hp}{s:Shared}
theorem zR {x:Str}{params:Arguments}{body:Expr}{scope:Scope}{pos:Pos}{cl:List (Str×Addr)}{Q:Value->Shared->Prop}{E:Value->Shared->Prop}
  (hx:x∈jG) (L:rE X.K x) (hc:∀c P,tabIn X.K x=some (c,P)->X.env.code=.ref c) (hq:X.env.qual ++ "<lambda>" = mU x) (hdef:defaultsOf params X.env=([],[])) (hcl:closureFor scope X.env=pure cl)
  (I:Inv X pins σ H s) (tb:Tb X.K H) (k:∀f H' s',Inv X pins σ H' s'->aS H H'->zQ H' f (mU x) params body scope cl->Q (.ref f) s') :
  wpAny (model X.prog X.w) X.A (eval (.Lambda params body scope pos) X.env) Q E s:=by
 refine kla_eval hdef ?_
 rw[hq]
 obtain⟨c,P,ht,o,vs,file,tf,flags,tg,inF,text,tt,lk,ck⟩:=L
 have hcode:=hc c P ht
 have hP:=tb x hx c P ht
 obtain⟨ps,e,tr,co⟩:=I.hok P _ hP
 have C:CodeHd s.heap c P:=⟨o,vs,file,tf,flags,tg,inF,text,tt,I.kIn c o lk,ck⟩
 have hg:s.heap.Ns mainGlobals X.mg:=I.mod.glob.keeps I.bk
 have nP:∀b,H b=none->b≠P:=λb n z=>by rw[z,hP]at n;cases n
 have hgP:mainGlobals≠P:=by
  obtain⟨og,_,_,eg,_⟩:=I.mod.glob
  exact nP _ (I.bs _ _ eg).2
 have hb:s.heap.BuiltinsAt X.mg P:=by
  obtain⟨bm,ob,b1,b2,b3,b4,b5,b6⟩:=I.mod.bmain
  refine⟨bm,ob,b1,b2,λz=>?_,nP _ (I.bs _ _ b3).2,I.bk _ _ b3,b4,b5,b6⟩
  obtain⟨og,es,ep,eg,dg,_⟩:=I.mod.glob
  rw[z,eg]at b3;cases b3
  rw[dg]at b6;cases b6
 cases hf:codeAmong pos ps.toList with
 | some cv =>
  obtain⟨c',oc,u,ws,t,rfl,hH,hd,hv⟩:=co pos cv hf
  refine kla_makeFunctionHit (mg:=X.mg) hcl I.ok.glob hg hcode C e tr hf hb λctv h' tk hk hsz=>?_
  have hn:H h'.objs.size=none:=I.hok.fresh hsz
  have sm:aS H (upd H h'.objs.size (.frz (kla_obj "<lambda>" (mU x) params body scope cl ((X.mg "__name__").getD .none) c' ctv) (.own h'.objs.size))):=λb u q=>by rw[aG (aT q hn)];exact q
  refine k _ _ _ (I.laid (t':=tk) (λb u q=>Heap.get?_push_of_some _ (hk b u q)) hsz (show ca X.prog X.w _ _ _ (.frz _ (.own h'.objs.size))from ⟨Heap.get?_push_size _ rfl,_,Heap.get?_push_size _ rfl⟩)) sm ?_
  exact⟨_,c',ctv,_,oc,u,ws,t,aI,sm _ _ hH,hd,hv⟩
 | none =>
  refine kla_makeFunction (mg:=X.mg) hcl I.ok.glob hg hcode C e tr hf hgP hb λc' ctv h' tk hx' hge hlt hrec htb=>?_
  obtain⟨c2,oc,ws,t,e2,hoc,hd,hv⟩:=hrec
  cases e2
  have hnc:H c'=none:=I.hok.fresh hge
  have hsz:s.heap.objs.size<=h'.objs.size:=Nat.le_trans hge (Nat.le_of_lt hlt)
  have hnf:H h'.objs.size=none:=I.hok.fresh hsz
  have ncf:c'≠h'.objs.size:=Nat.ne_of_lt hlt
  let fo:Obj:=kla_obj "<lambda>" (mU x) params body scope cl ((X.mg "__name__").getD .none) c' ctv
  let H1:Hp:=upd (upd H c' (.frz oc (.own c'))) h'.objs.size (.frz fo (.own h'.objs.size))
  have sm:aS H H1:=λb u q=>by
   show upd _ _ _ b=_
   rw[aG (aT q hnf),aG (aT q hnc)];exact q
  have H1c:H1 c'=some (.frz oc (.own c')):=by show upd _ _ _ c'=_;rw[aG ncf,aI]
  have keep:∀b u,b≠P->s.heap.get? b=some u->(h'.push fo).get? b=some u:=λb u n q=>Heap.get?_push_of_some _ (hx' b u n q)
  have lt:∀b u,s.heap.get? b=some u->b≠c'/\b≠h'.objs.size:=λb u q=>⟨Nat.ne_of_lt (Nat.lt_of_lt_of_le (Heap.lt_size q) hge),Nat.ne_of_lt (Nat.lt_of_lt_of_le (Heap.lt_size q) hsz)⟩
  have htb':(h'.push fo).get? P=some (tabObj (ps++#[rawInt pos.line,rawInt pos.col,.ref c'])):=Heap.get?_push_of_some _ htb
  refine k _ H1 _ (I.un (t':=tk) (h':=h'.push fo) ⟨λb u q n _ _=>keep b u (nP b n) q,λb u q n _ _=>⟨u.slots,keep b u (nP b n) q⟩,λb u q n _=>?_,λb u q _=>?_,λb xs q=>sm _ _ q,λb ob u q=>sm _ _ q,λb u q=>sm _ _ q⟩ λb u q=>?_) sm ⟨_,c',ctv,_,oc,_,ws,t,aI,H1c,hd,hv⟩
  ·show upd _ _ _ b=_
   rw[aG (lt b u q).2,aG (lt b u q).1];exact n
  ·by_cases z:b=P
   ·subst z;exact⟨_,htb'⟩
   ·exact⟨u,keep b u z q⟩
  ·by_cases z1:b=h'.objs.size
   ·subst z1
    have q':some (HO.frz fo (.own h'.objs.size))=some u:=by rw[←q];exact aI.symm
    cases q'
    exact⟨Heap.get?_push_size _ rfl,_,Heap.get?_push_size _ rfl⟩
   ·by_cases z2:b=c'
    ·subst z2
     rw[H1c]at q;cases q
     exact⟨Heap.get?_push_of_some _ hoc,_,Heap.get?_push_of_some _ hoc⟩
    ·have q':H b=some u:=by
      have:H1 b=H b:=by show upd _ _ _ b=_;rw[aG z1,aG z2]
      rw[←this];exact q
     by_cases z3:b=P
     ·subst z3
      rw[hP]at q';cases q'
      refine⟨_,htb', ?_,λpos' cv' ea=>?_⟩
      ·rw[Array.toList_append];exact TriplesOk_snoc _ _ _ _ tr
      ·rw[Array.toList_append]at ea
       rcases vS _ tr ea with ea|rfl
       ·obtain⟨c3,oc3,u3,vs3,t3,y1,y2,y3⟩:=co pos' cv' ea
        exact⟨c3,oc3,u3,vs3,t3,y1,sm _ _ y2,y3⟩
       ·exact⟨c',oc,_,ws,t,rfl,H1c,hd,hv⟩
     ·refine(I.hok b u q').stay (λd v hd' r=>keep d v ?_ r) (λd r=>sm _ _ r) (λd xs r=>sm _ _ r) λd ob v r=>sm _ _ r
      rcases hd' with rfl|r
      ·exact z3
      ·intro z;rw[z,hP]at r;cases r
end
section
variable {P:Program}{w:World}{K:PySem.W.Frag}{mg:Str->Option Value}{base:Heap}
theorem Def.fnL {x:Str}{st:Stmt}{N ps:List Str}{k:Nat}{g:FS}{h:Heap}(F:Def K x st) (X:K.In h) (G:h.Ns mainGlobals mg) (S:FnScope N ps (aw st))
  (hbd:∀(kV doc pm:Value) (an:Option Addr) (cdv ct:Value) (us:List Value),us.length=ps.length->bindArgs (PySem.W.fnOf x x (fO st) (cE st) (aw st) .none kV doc pm an cdv ct) ⟨us,[]⟩=pure (ps.zip us))
  (hb:∀(f:Addr) (cdv:Value) (A:Around) (outer:List PySem.Env) (s:Shared) (H:Hp) (E:XK),(∀c P,tabIn K x=some (c,P)->cdv=.ref c)->Room k (A.deeper (envOfC x (aw st) s.heap.objs.size f cdv))->JSs (mS CX0 P w K mg base N x (aw st) f cdv A outer s H E).nox (cE st) g) :
  Fn P w K mg base (k+1) x (bp g ps.length (N.length - ps.length)):=by
 obtain⟨f,fd,F1,a⟩:=F
 have F2:=F1
 obtain⟨oc,od,kV,doc,pm,an,cdv,ct,osl,rfl,lk,hcd⟩:=F2.ex
 have hc:∀c P,tabIn K x=some (c,P)->cdv=.ref c:=λc P e=>by
  unfold tabIn at e
  simp only[a,lk]at e
  split at e
  ·rename_i c' _
   split at e
   ·split at e
    ·cases e;rfl
    ·cases e
   ·cases e
  ·cases e
 have len:∀vs H Q E,spD K (bp g ps.length (N.length - ps.length)) vs H Q E->vs.length=ps.length:=λvs H Q E h=>by
  obtain⟨B,ds,d,b,sB,i,e,q⟩:=h
  unfold bp at e
  split at e
  ·rename_i hl;rw[i.length];exact hl
  ·cases e
 refine⟨f,_,ps,Cc lk hcd S len λA outer s H vs Q E hr h=>⟨_,PSs.nox (hb f cdv A outer s H E hc hr), ?_⟩,PySem.W.mg_of X G a,F1.kp,F1.binds hbd⟩
 have hlen:=len vs H Q E h
 obtain⟨B,ds,d,b,sB,i,e,q⟩:=h
 unfold bp at e
 rw[if_pos (by rw[←i.length];exact hlen)]at e
 have s0:=sS (N:=N) sB.1 sB.2 i
 rw[hlen]at s0
 split at e
 ·rename_i d' b' eg
  cases e
  exact⟨B,H,_,_,⟨B,s0⟩,eg,λv H' N' x' i' f'=>q v H' N' x' i' f'⟩
 ·rename_i ρ' eg
  cases e
  exact⟨B,H,_,_,⟨B,s0⟩,eg,λσ' H' ⟨N',s'⟩=>q .non H' N' s'.ext .non (by simp)⟩
 ·cases e
end
inductive LCaps (X:Cx) (N':List Str) (scope:Scope) (cl:List (Str×Addr)):Nat->List Nat->Prop where
 | nil {j:Nat}(h:N'.length=j):LCaps X N' scope cl j []
 | cons {j i:Nat}{r:List Nat}{x:Str}(h1:N'[j]? = some x) (h2:X.N[i]? = some x) (h3:X.env.kindOf x=some .cell∨X.env.kindOf x=some .free)
   (h4:scope.names.lookup x=some .free) (h5:cl.lookup x=X.env.cells.lookup x) (t:LCaps X N' scope cl (j+1) r):LCaps X N' scope cl j (i::r)
theorem LCaps.len {X:Cx}{N':List Str}{scope:Scope}{cl:List (Str×Addr)}:∀ {j:Nat}{cap:List Nat},LCaps X N' scope cl j cap->N'.length=j+cap.length
 | _,_,.nil h=>by rw[h];rfl
 | j,i::r,.cons _ _ _ _ _ t=>by rw[t.len,List.length_cons];omega
theorem LCaps.get {X:Cx}{N':List Str}{scope:Scope}{cl:List (Str×Addr)}:∀ {j:Nat}{cap:List Nat}{k i:Nat},LCaps X N' scope cl j cap->cap[k]? = some i->∃x,N'[j+k]? = some x/\X.N[i]? = some x/\(X.env.kindOf x=some .cell∨X.env.kindOf x=some .free) /\
  scope.names.lookup x=some .free/\cl.lookup x=X.env.cells.lookup x
 | _,_,_,_,.nil _,e=>by simp at e
 | j,_,0,_,.cons h1 h2 h3 h4 h5 _,e=>by simp at e;subst e;exact⟨_,h1,h2,h3,h4,h5⟩
 | j,_,k+1,i,.cons _ _ _ _ _ t,e=>by
  obtain⟨x,q,r⟩:=t.get (k:=k) (i:=i) (by simpa using e)
  exact⟨x,by rw[show j+(k+1)=j+1+k by omega];exact q,r⟩
abbrev tZ (X:Cx) (N':List Str) (scope:Scope) (cl:List (Str×Addr)) (q:Str) (A:Around) (f c:Addr) (s:Shared) (H:Hp):Cx :=
 { X with A:=A.deeper (envX q scope s.heap.objs.size f (.ref c) cl),N:=N',s₀:=s,H₀:=H,env:=envX q scope s.heap.objs.size f (.ref c) cl,outer:=X.stack,stack:=envX q scope s.heap.objs.size f (.ref c) cl::X.stack,ex:=[],fn:=λ_=>false,calm:=true,pn:=[],xe:=λ_ _=>False }
structure LamSc (X:Cx) (scope:Scope) (cl:List (Str×Addr)) (y:Str):Prop where
 clos:closureFor scope X.env=pure cl
 nocell:∀z∈scope.names,z.2≠.cell
 kind:scope.kind=.function
 co:scope.isCoroutine=false
 gen:scope.isGenerator=false
 par:scope.names.lookup y=some .local
 sub:∀x c,cl.lookup x=some c->X.env.cells.lookup x=some c
 has:∀x,scope.names.lookup x=some .free->∃c,cl.lookup x=some c
theorem zS {X:Cx}{scope:Scope}{y:Str}(h1:∀z∈scope.names,z.2≠.cell) (h2:scope.kind=.function) (h3:scope.isCoroutine=false) (h3':scope.isGenerator=false) (hp:scope.names.lookup y=some .local)
  (h4':(scope.names.all λz=>!(z.2 == NameKind.free) || (X.env.cells.lookup z.1).isSome)=true):LamSc X scope (fL scope.names X.env.cells []) y:=by
 have h4:∀z∈scope.names,z.2=.free->(X.env.cells.lookup z.1).isSome=true:=λz hz e=>by
  have:=List.all_eq_true.mp h4' z hz
  rw[e]at this
  simpa using this
 exact⟨pD scope.names [] h4,h1,h2,h3,h3',hp,λx c e=>jH scope.names [] (λy d q=>by cases q) e,λx h=>by
  have:=jI (x:=x) scope.names [] (dG h) (h4 _ (dG h) rfl)
  exact Option.isSome_iff_exists.mp this⟩
section
variable {X:Cx}{pins:List (Addr×Obj)}{σ:St}{H:Hp}{s:Shared}{A:Around}{N':List Str}{scope:Scope}{cl:List (Str×Addr)}{q y:Str}{cap:List Nat}
theorem B5 {f c:Addr}{v:V}{u:Value}{h₁:Heap}{tk:Nat}(S:LamSc X scope cl y) (N0:N'[0]? = some y) (cp:LCaps X N' scope cl 1 cap) (I:Inv X pins σ H s) (hA:A.frames=some X.stack) (hh:A.handled=none) (r:aY v u)
  (hns:h₁.Ns s.heap.objs.size (λx=>[(y,u)].reverse.lookup x)) (hk:∀b o,s.heap.get? b=some o->h₁.get? b=some o) :
  Inv (tZ X N' scope cl q A f c s H) [] (some v::pc 0 cap σ) H { s with heap:=h₁,toks:=tk }:=by
 have noA:∀b:Addr,b∉(tZ X N' scope cl q A f c s H).ex:=λb z=>absurd (show b∈([]:List Addr)from z) (by simp)
 refine⟨⟨I.ok.mod,S.kind,rfl,rfl,Nat.le_refl _,λx z d e1 e2=>I.ok.inj x z d (S.sub _ _ e1) (S.sub _ _ e2),λx hx=>?_,(λx d e=>by cases e),λ_=>hh,Around.frames_deeper hA,.inr ⟨rfl,rfl⟩,λb z=>absurd z (noA b),I.bs,Nat.le_trans I.ok.bsz I.sz,λb _ _=>noA b,λb z=>absurd z (noA b),I.stack,I.stkFree⟩,
  rfl,I.bare,Un.kept hk,⟨_,hns,λi x v' e1 e2 e3=>?_⟩,λx d e=>?_,I.hok.fresh (Nat.le_refl _),λx d e=>I.freeC x d (S.sub _ _ e),λp hp=>absurd (show p∈([]:List (Addr×Obj))from hp) (by simp),I.hok.kept hk, ?_⟩
 ·have hx':scope.names.lookup x=some .cell∨scope.names.lookup x=some .free:=hx
  rcases hx' with hx'|hx'
  ·exact absurd rfl (S.nocell _ (dG hx'))
  ·exact S.has x hx'
 ·cases i with
  | zero =>
   have e1':N'[0]? = some x:=e1
   rw[N0]at e1';cases e1'
   have e2':some v=some v':=by simpa using e2
   cases e2'
   exact⟨u,r,.inl ⟨S.par,by simp⟩⟩
  | succ k =>
   have e2':(pc 0 cap σ)[k]? = some (some v'):=by simpa using e2
   obtain⟨k',i',hk',g1,g2⟩:=qV e2'
   have:k=k':=by omega
   subst this
   obtain⟨x',n1,n2,n3,n4,n5⟩:=cp.get g1
   have:x'=x:=by
    have e1':N'[k+1]? = some x:=e1
    rw[show 1+k=k+1 by omega]at n1
    rw[n1]at e1';exact Option.some.inj e1'
   subst this
   have g2':σ[i']? = some (some v'):=by
    cases z:σ[i']? with
    | none=>rw[z]at g2;cases g2
    | some w=>rw[z]at g2;cases w with
     | none=>cases g2
     | some w=>cases g2;rfl
   obtain⟨m,_,hl⟩:=I.loc
   obtain⟨u',ru,lk⟩:=hl i' x' v' n2 g2' (by
    rcases n3 with n3|n3
    ·exact .inr (.inl n3)
    ·exact .inr (.inr n3))
   refine⟨u',ru,.inr ⟨.inr n4, ?_⟩⟩
   rcases lk with ⟨l1,_⟩|⟨_,d,l2,l3⟩
   ·rcases n3 with n3|n3<;>(rw[l1]at n3;cases n3)
   ·obtain⟨ob,ho,hd⟩:=l3
    exact⟨d,by show cl.lookup x'=_;rw[n5];exact l2,ob,hk _ _ ho,hd⟩
 ·obtain⟨w,ob,ho,hd⟩:=I.cell x d (S.sub _ _ e)
  exact⟨w,ob,hk _ _ ho,hd⟩
 ·have:=cp.len
  show(some v::pc 0 cap σ).length=N'.length
  unfold pc
  rw[this];simp;omega
theorem B6 {f:Addr}{params:Arguments}{body:Expr}{fb:FE}{B:Hp}{ρ:Env}{v:V}{u:Value}{d d':D}{b':Bool}{Q:VK}(S:LamSc X scope cl y) (N0:N'[0]? = some y) (cp:LCaps X N' scope cl 1 cap) (I:Inv X pins σ H s)
  (hA:A.frames=some X.stack) (hh:A.handled=none) (hroom:A.depth<recursionLimit) (lv:zQ H f q params body scope cl)
  (hbind:∀pm c ctv u,bindArgs (kla_fn "<lambda>" q params body scope cl pm (.ref c) ctv) ⟨[u],[]⟩=pure [(y,u)])
  (hb:∀(f c:Addr) (s:Shared) (H:Hp),JE (tZ X N' scope cl q A f c s H) body fb)
  (rep:RepE X.K B σ ρ) (sB:aS B H) (r:aY v u) (i:Is X.K B v d) (e:fb (some (d,false)::bW 0 cap ρ)=some (d',b')) (qf:Fin X.K B H d' b' Q) :
  wpAny (model X.prog X.w) A (call (.ref f) [u]) (EP X pins σ Q) (λ_ _=>False) s:=by
 obtain⟨pm,c,ctv,uf,oc,u',ws,t,hf,hc,hd,hv⟩:=lv
 have ho:=(I.hok f _ hf).1
 have hoc:=(I.hok c _ hc).1
 refine wpAny_call (codeAny_mono (R:=λr s'=>CR CX0 X.stack X.prog X.w H s Q (λ_ _ _=>False) r s') ?_ λr s' hq=>?_)
 ·refine kla_callFunE hroom ho rfl S.co S.gen rfl ⟨c,oc,ws,t,rfl,hoc,hd,hv⟩ ?_
  rw[hbind]
  refine wY (wpAny_newFunctionEnv S.nocell (λz hz=>by rw[List.mem_singleton.mp hz];exact S.par) (λh₁ hns hsb=>⟨I.nolimit.fresh _ hsb, ?_⟩) S.kind)
  have hk₁:∀b o,s.heap.get? b=some o->h₁.get? b=some o:=λb o e=>hsb.extBut b o (Nat.ne_of_lt (Heap.lt_size e)) (Heap.get?_push_of_some _ e)
  have J:=B5 (f:=f) (c:=c) (q:=q) (tk:=s.toks+1) S N0 cp I hA hh r hns hk₁
  refine kla_codeExpr (wpAny_mono (hb f c s H [] _ _ H Q J ⟨B,_,d',b',sB,⟨rep.tb,λj e0 b0 z=>?_⟩,e,qf⟩) (λw s' hw=>?_) λ_ _ z=>z.elim)
  ·cases j with
   | zero=>
    have z':some (d,false)=some (e0,b0):=by simpa using z
    cases z'
    exact⟨v,rfl,i⟩
   | succ j =>
    obtain⟨w,h1,h2⟩:=(rep.caps (nT:=0) (cap:=cap)).at' j e0 b0 (by simpa using z)
    exact⟨w,by simpa using h1,h2⟩
  ·obtain⟨v',H',J',rv,qv⟩:=hw
   exact⟨v',H',J'.os,J'.bare,J'.base,J'.hok,rv,qv⟩
 ·cases r with
  | error e=>exact False.elim hq
  | ok fl =>
   cases fl with
   | ret w=>exact I.after hq
   | next=>exact False.elim hq
   | brk=>exact False.elim hq
   | cont=>exact False.elim hq
end
end DL
namespace DL
open PySem PySem.Spec PySem.W PyProof.Rows L2
section
variable {X:Cx}{pins:List (Addr×Obj)}{σ:St}{H:Hp}{s:Shared}{h':Heap}{t':Nat}
theorem lm {p:Addr}{o:Obj}(I:Inv X ((p,o)::pins) σ H s):∀x c,X.env.cells.lookup x=some c->c≠p:=λx c e z=>by
 have pf:=I.pin (p,o) (mY _ mX)
 obtain⟨v,ob,ho,hd⟩:=I.cell x c e
 rw[z,pf.1]at ho;cases ho
 exact pf.2.2.2.2 v hd
theorem ij {p:Addr×Obj}(I:Inv X (p::pins) σ H s):Inv X pins σ H s:=I.pins_of λq hq=>I.pin q (mY _ (mZ _ hq))
theorem eD {p:Addr}{o o':Obj}(I:Inv X ((p,o)::pins) σ H s) (h0:X.s₀.heap.objs.size<=p) (hp:∀q∈X.pn++pins,q.1≠p) (k:∀b u,b≠p->s.heap.get? b=some u->h'.get? b=some u) (e':h'.get? p=some o') (nc:∀v,o'.data≠.cell v) :
  Inv X ((p,o')::pins) σ H { s with heap:=h',toks:=t' }:=by
 have pf:=I.pin (p,o) (mY _ mX)
 have J:=(ij I).turned (t':=t') k pf.2.1 pf.2.2.1 (.inr h0) (lm I) hp
 refine J.pins_of λq hq=>?_
 rcases List.mem_cons.mp hq with rfl|hq
 ·exact⟨e',pf.2.1,pf.2.2.1,pf.2.2.2.1,nc⟩
 ·exact J.pin q (mY _ hq)
theorem mM {p:Addr}{o:Obj}(I:Inv X pins σ H s) (k:∀b u,s.heap.get? b=some u->h'.get? b=some u) (hs:s.heap.objs.size<=p) (e':h'.get? p=some o) (nc:∀v,o.data≠.cell v):Inv X ((p,o)::pins) σ H { s with heap:=h',toks:=t' }:=by
 have J:=I.kept (t':=t') k
 refine J.pins_of λq hq=>?_
 rcases List.mem_cons.mp hq with rfl|hq
 ·exact⟨e',I.hok.fresh hs,Nat.ne_of_gt (Nat.lt_of_lt_of_le I.lt hs),I.nofs hs,nc⟩
 ·exact J.pin q (mY _ hq)
theorem B7 {p:Addr}{o:Obj}{ob:HO}(I:Inv X ((p,o)::pins) σ H s) (h0:X.s₀.heap.objs.size<=p) (hp:∀q∈X.pn++pins,q.1≠p) (k:∀b u,b≠p->s.heap.get? b=some u->h'.get? b=some u) (eo:∃u,h'.get? p=some u)
  (new:ca X.prog X.w (upd H p ob) h' p ob):Inv X pins σ (upd H p ob) { s with heap:=h',toks:=t' }:=by
 have pf:=I.pin (p,o) (mY _ mX)
 have hn:=pf.2.1
 have hn:H p=none:=hn
 have cs:=lm I
 refine(ij I).step (g':=s.gens) (d':=s.drawn) (ch:=[p]) (λb hb=>?_) (λb u _ _ hc e _=>k b u (λz=>hc (by simp[z])) e) (λb u _ _ hc e _=>⟨u.slots,k b u (λz=>hc (by simp[z])) e⟩) (λb u hc _ n=>by rw[aG (λz=>hc (by simp[z]))];exact n)
  (λb u hc e=>⟨u,k b u (λz=>hc (by simp[z])) e⟩) (λb xs e=>by rw[aG (aT e hn)];exact e) (λb u w e=>by rw[aG (aT e hn)];exact e) (λb q e=>by rw[aG (aT e hn)];exact e) (λm hm=>?_) (λb u e=>?_) I.bare
 ·have z:b=p:=by simpa using hb
  subst z
  exact⟨.inr h0,pf.2.2.1,cs,hp⟩
 ·obtain⟨ol,es,ep,ho,r⟩:=hm
  exact⟨ol,es,ep,k _ ol (λz=>pf.2.2.1 z.symm) ho,r⟩
 ·by_cases z:b=p
  ·subst z;rw[aI]at e;cases e;exact new
  ·rw[aG z]at e
   refine(I.hok b u e).stay (λc v hc q=>k c v ?_ q) (λc q=>?_) (λc xs q=>?_) λc w xs q=>?_
   ·rcases hc with rfl|hc
    ·exact z
    ·exact aT hc hn
   ·rw[aG (aT q hn)];exact q
   ·rw[aG (aT q hn)];exact q
   ·rw[aG (aT q hn)];exact q
end
def zT (X:Cx) (A:Around) (σ:St) (qv:Value) (B H1:Hp) (kf:D->Option D):Prop :=
 ∀(pins:List (Addr×Obj)) (s:Shared) (H N:Hp) (v:V) (u:Value) (d d':D),Inv X pins σ H s->aS H1 H->aS B N->aS N H->Is X.K N v d->aY v u->kf d=some d' ->
  wpAny (model X.prog X.w) A (call qv [u]) (EP X pins σ λv' H'=>∃N',Ext N N' H H'/\Is X.K N' v' d') (λ_ _=>False) s
def JK (X:Cx) (A:Around) (e:Expr) (kf:Env->D->Option D):Prop:=∀(pins:List (Addr×Obj)) (s:Shared) (σ:St) (H B:Hp) (ρ:Env) (Q:Value->Shared->Prop) (E:Value->Shared->Prop),Inv X pins σ H s->aS B H->RepE X.K B σ ρ ->
 (∀qa H1 s1,Inv X pins σ H1 s1->aS H H1->zT X A σ (.ref qa) B H1 (kf ρ)->Q (.ref qa) s1)->wpAny (model X.prog X.w) X.A (eval e X.env) Q E s
section
variable {X:Cx}{A:Around}
@[simp] def ua (cap:List Nat) (fb:FE):Env->D->Option D:=λρ d=>(fb (some (d,false)::bW 0 cap ρ)).map (·.1)
theorem vT {x y:Str}{params:Arguments}{body:Expr}{scope:Scope}{pos:Pos}{N':List Str}{cap:List Nat}{fb:FE}(hx:x∈jG) (L:rE X.K x) (hc:∀c P,tabIn X.K x=some (c,P)->X.env.code=.ref c) (hq:X.env.qual ++ "<lambda>" = mU x)
  (hdef:defaultsOf params X.env=([],[])) (S:LamSc X scope (fL scope.names X.env.cells []) y) (N0:N'[0]? = some y) (cp:LCaps X N' scope (fL scope.names X.env.cells []) 1 cap) {k:Nat}(hA:A.frames=X.A.frames) (hr:Room (k+1) A)
  (hbind:∀pm c ctv u,bindArgs (kla_fn "<lambda>" (mU x) params body scope (fL scope.names X.env.cells []) pm (.ref c) ctv) ⟨[u],[]⟩=pure [(y,u)])
  (hb:∀(f c:Addr) (s:Shared) (H:Hp),Room k (tZ X N' scope (fL scope.names X.env.cells []) (mU x) A f c s H).A->JE (tZ X N' scope (fL scope.names X.env.cells []) (mU x) A f c s H) body fb):JK X A (.Lambda params body scope pos) (ua cap fb):=by
 intro pins s σ H B ρ Q E I sB rep kk
 refine zR hx L hc hq hdef S.clos I (rep.tb.mono sB) λf H1 s1 I1 sm lv=>kk f H1 s1 I1 sm ?_
 intro pins' s' H' N v u d d' I' m1 m2 m3 iv r e
 simp only[ua]at e
 obtain⟨⟨d2,b2⟩,e1,e2⟩:=oY e
 cases e2
 exact B6 S N0 cp I' (hA.trans I'.ok.frames) hr.hd hr.depth (lv.mono m1) hbind (λf c s H=>hb f c s H (hr.deeper _)) (rep.mono m2) m3 r iv e1 λv' H2 N2 x2 i2 _=>⟨N2,x2,i2⟩
@[simp] def pj (g:List D->Option (D×Bool)):Env->D->Option D:=λ_ d=>(g [d]).map (·.1)
theorem xg {k:Nat}{x:Str}{g:List D->Option (D×Bool)}{p:Pos}(F:Fn X.prog X.w X.K X.mg X.base k x g) (hr:Room k A) (hA:A.frames=X.A.frames) (hg:Gl X x:=by rfl) (hdb:(x == ("__debug__" : Str))=false:=by decide):JK X A (.Name x p) (pj g):=by
 intro pins s σ H B ρ Q E I sB rep kk
 obtain⟨ad,fd,ps,F1,hm,hk,hb⟩:=F.ex
 refine qK I hg hm ?_ hdb
 refine kk ad H s I (.refl H) ?_
 intro pins' s' H' N v u d d' I' m1 m2 m3 iv r e
 simp only[pj]at e
 obtain⟨⟨d2,b2⟩,e1,e2⟩:=oY e
 cases e2
 have sp:spD X.K g [v] H' (λv' H2=>∃N',Ext N N' H' H2/\Is X.K N' v' d2) (λ_ _ _=>False):=⟨N,[d],d2,b2,⟨m3,rep.tb.mono m2⟩,.cons iv .nil,e1,λv' H2 N2 x2 i2 _=>⟨N2,x2,i2⟩⟩
 have hl:[u].length=ps.length:=by have:=F1.len _ _ _ _ sp;simpa using this
 have e0:=I'.env0
 have bb:=hb s' [u] I'.kIn (by simpa using hl)
 rw[List.append_nil]at bb
 refine wpAny_call (codeAny_mono (F1.run A X.stack s' H' ⟨[u],[]⟩ [u] [v] _ (λ_ _ _=>False) hr ⟨hA.trans e0.frames,e0.mod,e0.bs,e0.bsz,e0.funs,e0.frf,e0.hok,e0.bare⟩ bb (.cons r .nil) sp) λr s' hq=>?_)
 cases r with
 | error e=>exact False.elim hq
 | ok fl =>
  cases fl with
  | ret w=>exact I'.after hq
  | next=>exact False.elim hq
  | brk=>exact False.elim hq
  | cont=>exact False.elim hq
end
def hU (f:D->Option D):List D->Option (List D)
 | []=>some []
 | d::ds=>(f d).bind λx=>(hU f ds).map (x :: ·)
theorem f9 {f:D->Option D}:∀ {ds ks:List D},hU f ds=some ks->ks.length=ds.length
 | [],_,h=>by simp only[hU]at h;cases h;rfl
 | d::ds,_,h=>by
  simp only[hU]at h
  obtain⟨a,h1,h⟩:=oX h
  obtain⟨r,h2,h⟩:=oY h
  subst h
  simp[f9 h2]
theorem jR {f:D->Option D}:∀ {ds ks:List D},hU f ds=some ks->∀ {i:Nat}{d:D},ds[i]? = some d->∃k,ks[i]? = some k/\f d=some k
 | [],_,h,i,d,e=>by simp at e
 | d::ds,_,h,0,e,q=>by
  simp only[hU]at h
  obtain⟨a,h1,h⟩:=oX h
  obtain⟨r,h2,h⟩:=oY h
  subst h
  simp at q;subst q
  exact⟨a,by simp,h1⟩
 | d::ds,_,h,i+1,e,q=>by
  simp only[hU]at h
  obtain⟨a,h1,h⟩:=oX h
  obtain⟨r,h2,h⟩:=oY h
  subst h
  obtain⟨k,z1,z2⟩:=jR h2 (i:=i) (d:=e) (by simpa using q)
  exact⟨k,by simpa using z1,z2⟩
section
variable {X:Cx}{pins:List (Addr×Obj)}{σ:St}{s:Shared}
theorem pW {x:V}{u:Value}(r:aY x u):∀ {vs:List V}{us:List Value},bc vs us->bc (vs++[x]) (us++[u])
 | _,_,.nil=>.cons r .nil
 | _,_,.cons h t=>.cons h (pW r t)
theorem c8 {c:Value}{od:Option Addr}{its:Array Value}{n:Nat}{sl:Array (Option Value)}:∀v,(Obj.mk c od (.seq its n) sl).data≠.cell v:=λv z=>by cases z
theorem vU {A:Around}{E:Value->Shared->Prop}{a:Addr}{n:Nat}{qv:Value}{its:List Value}{vs:List V}{ds kds:List D}{ks:List (List At)}{B H:Hp}{kf:D->Option D}{P:PySem.Fin->Shared->Prop}
  (I:Inv X ((a,seqObj "list" its.toArray n)::pins) σ H s) (h0:X.s₀.heap.objs.size<=a) (hp:∀q∈X.pn++pins,q.1≠a) (kfn:zT X A σ qv B H kf) (rv:bc vs its) (iv:IsL X.K B vs ds) (sB:aS B H)
  (em:hU kf ds=some kds) (ek:cW kds=some ks) (hc:eC ks=true) (hf:d5 ks=true) (h64:its.length<64)
  (h:∀(p:Array Nat) (s':Shared) (H' N:Hp),Arr its.length p->Up (rkK ks) p its.length->Inv X pins σ (upd H' a (.lst (p.toList.map λi=>vs.getD i .non))) s'->Ext B N H H'->H' a=none->P (.done (.ret .none)) s') :
  wpAny (model X.prog X.w) A (ksk_tree a qv false) P E s:=by
 have pa:=I.pin (a,seqObj "list" its.toArray n) (mY _ mX)
 have hvl:vs.length=its.length:=rv.length
 have hdl:ds.length=vs.length:=iv.length.symm
 have hkd:kds.length=ds.length:=f9 em
 have hks:ks.length=kds.length:=fg ek
 have hz:its.length<=sizeLine:=by rw[sizeLine_eq];omega
 have hna:H a=none:=pa.2.1
 obtain⟨e1,ho1⟩:∃e1,(s.heap.update a (Obj.mapSeq λ_=>(#[]:Array Value))).get? a=some (seqObj "list" #[] e1):=⟨_,get?_update_seq pa.1 λ_=>#[]⟩
 have u1:=Heap.SameBut.update s.heap a (Obj.mapSeq λ_=>(#[]:Array Value))
 have I1:Inv X ((a,seqObj "list" #[] e1)::pins) σ H { s with heap:=s.heap.update a (Obj.mapSeq λ_=>(#[]:Array Value)) }:=eD (t':=s.toks) I h0 hp (λb u n q=>(u1.2 b n).trans q) ho1 c8
 let h2:Heap:=(s.heap.update a (Obj.mapSeq λ_=>(#[]:Array Value))).push (seqObj "tuple" its.toArray 0)
 have I2:Inv X ((a,seqObj "list" #[] e1)::pins) σ H { s with heap:=h2 }:=I1.kept (t':=s.toks) λb u q=>Heap.get?_push_of_some _ q
 let kS:Addr:=h2.objs.size
 have I3:Inv X ((kS,seqObj "list" #[] 0)::(a,seqObj "list" #[] e1)::pins) σ H { s with heap:=h2.push (seqObj "list" #[] 0) }:=mM (s:={ s with heap:=h2 }) (t':=s.toks) I2 (λb u q=>Heap.get?_push_of_some _ q) (Nat.le_refl _) (Heap.get?_push_size _ rfl) c8
 have k0:X.s₀.heap.objs.size<=kS:=I2.sz
 have kp:∀q∈X.pn++((a,seqObj "list" #[] e1)::pins),q.1≠kS:=λq hq=>Nat.ne_of_lt (Heap.lt_size (I2.pin q hq).1)
 have kna:kS≠a:=λz=>kp (a,seqObj "list" #[] e1) (mY _ mX) z.symm
 unfold ksk_tree
 refine wX (listItems_at pa.1 rfl ?_)
 refine wX (listUpdate_at pa.1 rfl ?_ (by simpa using hz) (Nat.zero_le _))
 refine wX (seqEpoch_at ho1 rfl ?_)
 refine wX (wpAny_newTuple ?_ (by show its.length<=sizeLine;exact hz))
 refine wX (wpAny_newList ?_ (Nat.zero_le _))
 refine wpAny_holding ?_
 show wpAny (model X.prog X.w) A (ksk_rest a qv false its.toArray e1 (.ref kS)) P E { s with heap:=h2.push (seqObj "list" #[] 0) }
 unfold ksk_rest
 refine wX (wpAny_rule ?_)
 rw[List.forIn_toArray]
 refine wX (ksk_fold (λi s'=>∃(H' N:Hp) (kA:Array Value) (e:Nat) (kvs:List V),Inv X ((kS,seqObj "list" kA e)::(a,seqObj "list" #[] e1)::pins) σ H' s'/\Ext B N H H'/\bc kvs kA.toList/\IsL X.K N kvs (kds.take i)) its 0 _
  ⟨H,B,#[],0,[],I3,.refl sB,.nil,by simpa using IsL.nil⟩ ?step ?done)
 case step =>
  rintro j u s' hu ⟨H',N,kA,e,kvs,J,x1,rk,ik⟩
  simp only[Nat.zero_add]at ik ⊢
  have hj:j<its.length:=(List.getElem?_eq_some_iff.mp hu).1
  obtain⟨d,hd⟩:∃d,ds[j]? = some d:=⟨_,List.getElem?_eq_getElem (by omega)⟩
  obtain⟨v,hv,iv'⟩:=iv.get hd
  obtain⟨kd,hkj,hkf⟩:=jR em hd
  obtain⟨u',hu',ru⟩:=rv.get hv
  rw[hu]at hu';cases hu'
  have kl:kA.size=j:=by
   have z1:=rk.length
   have z2:=ik.length
   rw[List.length_take]at z2
   rw[Array.length_toList]at z1
   exact z1.symm.trans (z2.trans (Nat.min_eq_left (by omega)))
  refine wX (wpAny_attempt (wpAny_mono (kfn _ s' H' N v u d kd J x1.hh x1.bn x1.nh (iv'.mono x1.bn) ru hkf) (λw s'' hw=>?_) λ_ _ hF=>hF.elim))
  obtain⟨v',H'',J',rv',N',x2,i2⟩:=hw
  have pk:=J'.pin (kS,seqObj "list" kA e) (mY _ mX)
  obtain⟨c2,hc2⟩:∃c2,(s''.heap.update kS (Obj.mapSeq (·.push w))).get? kS=some (seqObj "list" (kA.push w) c2):=⟨_,get?_update_seq pk.1 (·.push w)⟩
  have u2:=Heap.SameBut.update s''.heap kS (Obj.mapSeq (·.push w))
  refine wX (listUpdate_at pk.1 rfl ?_ (by rw[sizeLine_eq];omega) (Nat.le_trans (Nat.le_of_eq (Array.size_push ..)) (by rw[sizeLine_eq];omega)))
  refine wY ⟨rfl,H'',N',kA.push w,c2,kvs++[v'],eD (t':=s''.toks) J' k0 kp (λb q n z=>(u2.2 b n).trans z) hc2 c8,x1.trans x2, ?_, ?_⟩
  ·rw[Array.toList_push];exact pW rv' rk
  ·rw[List.take_add_one,hkj];exact(ik.mono x2.bn).append (.cons i2 .nil)
 case done =>
  rintro s' ⟨H',N,kA,e,kvs,J,x1,rk,ik⟩
  have ik':IsL X.K N kvs kds:=by
   have z:kds.take (0+its.length)=kds:=List.take_of_length_le (by omega)
   rw[z]at ik;exact ik
  have pk:=J.pin (kS,seqObj "list" kA e) (mY _ mX)
  have pa':=J.pin (a,seqObj "list" #[] e1) (mY _ (mZ _ mX))
  have hn':H' a=none:=pa'.2.1
  have kz:kA.toList.length=its.length:=by rw[←rk.length,ik'.length];omega
  have kz':kA.size=its.length:=by rw[←Array.length_toList];exact kz
  refine wX (listItems_at pk.1 rfl ?_)
  have hkp:Paired (gw s'.heap) ks kA.toList:=rC J rk (ik'.mono x1.nh) ek
  -- the end of the sort,for a permutation p
  have ends:∀(st:SortSt) (p:Array Nat),arrOf st=p.map (kas_item (kA.toList.toArray.zip its.toArray))->failedOf st=none->Arr its.length p->Up (rkK ks) p its.length ->
    wpAny (model X.prog X.w) A (ksk_tail a false e1 (.ref kS) st) P E s':=λst p ea ef ap up=>by
   have eo:(arrOf st).map (·.2)=List.toArray (p.toList.map λi=>its.getD i Value.none):=kat_snds kz ea
   have hin:∀i∈p.toList,i<vs.length:=λi hi=>by
    have:=List.mem_range.mp (ap.perm.mem_iff.mp hi)
    omega
   obtain⟨c3,hc3⟩:∃c3,(s'.heap.update kS (Obj.mapSeq λ_=>(#[]:Array Value))).get? kS=some (seqObj "list" #[] c3):=⟨_,get?_update_seq pk.1 λ_=>#[]⟩
   have u3:=Heap.SameBut.update s'.heap kS (Obj.mapSeq λ_=>(#[]:Array Value))
   have J3:=ij (eD (t':=s'.toks) J k0 kp (λb q n z=>(u3.2 b n).trans z) hc3 c8)
   have pa3:=J3.pin (a,seqObj "list" #[] e1) (mY _ mX)
   obtain⟨c4,hc4⟩:∃c4,((s'.heap.update kS (Obj.mapSeq λ_=>(#[]:Array Value))).update a (Obj.mapSeq λ_=>(arrOf st).map (·.2))).get? a=some (seqObj "list" ((arrOf st).map (·.2)) c4):=⟨_,get?_update_seq pa3.1 λ_=>(arrOf st).map (·.2)⟩
   have u4:=Heap.SameBut.update (s'.heap.update kS (Obj.mapSeq λ_=>(#[]:Array Value))) a (Obj.mapSeq λ_=>(arrOf st).map (·.2))
   have so:((arrOf st).map (·.2)).size=its.length:=by rw[eo];simp only[List.size_toArray,List.length_map,Array.length_toList,ap.size]
   unfold ksk_tail
   try dsimp only
   refine wX (listUpdate_at pk.1 rfl ?_ (by rw[kz',sizeLine_eq];omega) (Nat.zero_le _))
   refine wX (wpAny_letGo ?_)
   refine wX (seqEpoch_at pa3.1 rfl ?_)
   refine wX (listUpdate_at pa3.1 rfl ?_ (Nat.zero_le _) (by simp only[Bool.false_eq_true,if_false];rw[so,sizeLine_eq];omega))
   rw[ef]
   simp only[bne_self_eq_false,Bool.false_eq_true,if_false]
   refine wY (h p _ H' N ap up (B7 (s:={ s' with heap:=s'.heap.update kS (Obj.mapSeq λ_=>(#[]:Array Value)) }) (t':=s'.toks) J3 h0 hp (λb q n z=>(u4.2 b n).trans z) ⟨_,hc4⟩ ?_) x1 hn')
   refine⟨by rw[List.length_map,Array.length_toList,ap.size];exact hz,p.toList.map λi=>its.getD i Value.none,c4,pV rv p.toList hin, ?_⟩
   rw[←eo];exact hc4
  unfold ksk_end
  try dsimp only
  simp only[Bool.false_eq_true,if_false]
  have ekA:kA=kA.toList.toArray:=by simp
  by_cases h2':its.toArray.size<2
  ·rw[if_pos h2',if_pos h2']
   refine wX (wY ?_)
   rw[StateT.run_pure]
   refine wX (wY ?_)
   have hsm:its.length<2:=by simpa using h2'
   refine ends _ (List.toArray (List.range its.length)) ?_ rfl ⟨by simp,by simp⟩ ?_
   ·show kA.zip its.toArray=_
    have:=kas_range (kA.toList.toArray.zip its.toArray)
    rw[show(kA.toList.toArray.zip its.toArray).size=its.length by simp[kz']]at this
    rw[this]
   ·intro i j hij hj
    have:i=j:=by omega
    subst this;exact Int.le_refl _
  ·rw[if_neg h2',if_neg h2']
   have h2'':2<=its.length:=by simp at h2';omega
   rw[ekA]
   refine wX (zO hkp hf (by omega) ?_)
   obtain⟨p,r1,r2,r3⟩:=zL (n:=its.length) (rk:=rkK ks) (by omega)
   refine wX (wpAny_mono (kat_run (E:=E) (ks:=kA.toList) (vs:=its) (κ:=tuples' true) (s:=s') (Q:=λst' s2=>s2=s'/\arrOf st'=p.map (kas_item (kA.toList.toArray.zip its.toArray))/\failedOf st'=none)
    (G:=λp' s2=>p'=p/\s2=s') kz h2'' h64 (λp' st' s2 _ e2 e3 e4=>by
     obtain⟨rfl,rfl⟩:=e4
     exact⟨rfl,e2,e3⟩) (Run.wp (λs2=>s2=s') (λi j C s2 hi hj e hC=>B3 (s:=s') hc hkp i j C s2 (by omega) (by omega) e hC) r1 rfl λs2 e=>⟨rfl,e⟩)) (λr s2 hr=>?_) λ_ _ z=>z)
   obtain⟨⟨⟩,st'⟩:=r
   obtain⟨rfl,e2,e3⟩:=hr
   exact ends st' p e2 e3 r2 r3
end
theorem uc {α β:Type}{f:α->β}:∀ {l:List α},(l.map f).Nodup->l.Nodup
 | [],_=>List.nodup_nil
 | a::l,h=>by
  rw[List.map_cons,List.nodup_cons]at h
  exact List.nodup_cons.mpr ⟨λz=>h.1 (List.mem_map.mpr ⟨a,z,rfl⟩),uc h.2⟩
def im (ks:List (List At)) (ds:List D):List D:=(fR (λp:List At×D=>cm p.1) (ks.zip ds)).map (·.2)
theorem zU {α β:Type}(d:α) (e:β):∀ {l₁:List α}{l₂:List β},l₁.length=l₂.length->(List.range l₂.length).map (λi=>(l₁.getD i d,l₂.getD i e))=l₁.zip l₂:=λ{l₁ l₂} h=>by
 apply List.ext_getElem?
 intro i
 by_cases hi:i<l₂.length
 ·have hi':i<l₁.length:=by omega
  have:=(List.getElem?_zip_eq_some (z:=(l₁[i],l₂[i]))).mpr ⟨List.getElem?_eq_getElem hi',List.getElem?_eq_getElem hi⟩
  rw[this]
  simp[hi,hi']
 ·simp[hi,h]
theorem B8 {α β:Type}{l₁:List α}{l₂:List β}(nd:l₁.Nodup) {a:α}{b c:β}(h1:(a,b)∈l₁.zip l₂) (h2:(a,c)∈l₁.zip l₂):b=c:=by
 obtain⟨i,hi⟩:=List.mem_iff_getElem?.mp h1
 obtain⟨j,hj⟩:=List.mem_iff_getElem?.mp h2
 obtain⟨i1,i2⟩:=List.getElem?_zip_eq_some.mp hi
 obtain⟨j1,j2⟩:=List.getElem?_zip_eq_some.mp hj
 obtain⟨li,ei⟩:=List.getElem?_eq_some_iff.mp i1
 obtain⟨lj,ej⟩:=List.getElem?_eq_some_iff.mp j1
 have:i=j:=(List.getElem_inj nd).mp (ei.trans ej.symm)
 subst this
 rw[i2]at j2;exact Option.some.inj j2
theorem vV {ds:List D}{ks:List (List At)}{p:Array Nat}(hl:ks.length=ds.length) (hc:eC ks=true) (nd:ks.Nodup) (ap:Arr ds.length p) (up:Up (rkK ks) p ds.length):p.toList.map (λi=>ds.getD i .non)=im ks ds:=by
 unfold im
 have e:p.toList.map (λi=>(ks.getD i [],ds.getD i .non))=fR (λp:List At×D=>cm p.1) (ks.zip ds):=by
  apply jP
  ·intro x hx y hy e
   have mx:=(List.of_mem_zip hx).1
   have my:=(List.of_mem_zip hy).1
   have:=pU hc mx my e
   obtain⟨k1,d1⟩:=x
   obtain⟨k2,d2⟩:=y
   have z:k1=k2:=this
   subst z
   rw[B8 nd hx hy]
  ·have:=ap.perm.map (λi=>(ks.getD i [],ds.getD i D.non))
   rw[zU [] D.non hl]at this
   exact this
  ·rw[List.pairwise_iff_getElem]
   intro i j hi hj hij
   have hsz:=ap.size
   have hi':i<p.size:=by simpa using hi
   have hj':j<p.size:=by simpa using hj
   have:=up i j (Nat.le_of_lt hij) (by omega)
   unfold bR rkK at this
   have gi:p.getD i 0=p[i]:=by rw[Array.getD_eq_getD_getElem?,Array.getElem?_eq_getElem hi'];rfl
   have gj:p.getD j 0=p[j]:=by rw[Array.getD_eq_getD_getElem?,Array.getElem?_eq_getElem hj'];rfl
   have lj:=ap.lt (k:=j) (by omega)
   have mj:ks.getD (p.getD j 0) []∈ks:=by
    have h':p.getD j 0<ks.length:=by omega
    rw[List.getD_eq_getElem?_getD,List.getElem?_eq_getElem h'];exact List.getElem_mem h'
   have nl:¬cm (ks.getD (p.getD j 0) [])<cm (ks.getD (p.getD i 0) []):=λz=>by
    have:=wZ (cs:=ks.map cm) (List.mem_map.mpr ⟨_,mj,rfl⟩) z
    omega
   simp only[List.getElem_map,Array.getElem_toList]
   unfold leF
   rw[←gi,←gj]
   exact nl
 rw[←e,List.map_map]
 rfl
@[simp] def lr (f:FE) (kf:Env->D->Option D):FE:=λρ=>(f ρ).bind λx=>match x.1 with
 | .lst ds=>(hU (kf ρ) ds).bind λkds=>(cW kds).bind λks=>if ks.length<64/\eC ks=true/\d5 ks=true/\(ks.map cm).Nodup then some (.lst (im ks ds),true)else none
 | _=>none
section
variable {X:Cx}{e ke:Expr}{p pos kp:Pos}
theorem ud {f:FE}{kf:Env->D->Option D}(hm:X.mg "sorted" = none) (he:JE X e f) (hk:JK X X.A.in1.in1 ke kf) (hg:Gl X "sorted":=by rfl)
  (hes:starEach [e] X.env=[(false,eval e X.env)]:=by rfl) (heb:backTo pos (starEach [e] X.env)=(false,eval e X.env)::backTo pos (starEach [] X.env):=by rfl) (hpl:(backTo pos (starEach [e] X.env)).any (·.1)=false:=by rfl)
  (hall:(backToKw pos (keywordEach [⟨some "key",ke,kp⟩] X.env)).all (·.1.isSome)=true:=by rfl) (hkw:(backToKw pos (keywordEach [⟨some "key",ke,kp⟩] X.env)).any (·.1.isNone)=false:=by rfl)
  (hnm:(backToKw pos (keywordEach [⟨some "key",ke,kp⟩] X.env)).filterMap (·.1)=[("key" : Str)]:=by rfl) :
  JE X (.Call (.Name "sorted" p) [e] [⟨some "key",ke,kp⟩] pos) (lr f kf):=by
 intro pins s σ H Q I h
 obtain⟨B,ρ,d,b,sB,rep,ee,q⟩:=h
 obtain⟨⟨xd,xb⟩,ex,ee⟩:=oX ee
 cases xd<;>try (cases ee;done)
 rename_i ds
 obtain⟨kds,em,ee⟩:=oX ee
 obtain⟨ks,ek,ee⟩:=oX ee
 split at ee
 ·rename_i hh
  obtain⟨h64,hc,hf,nd⟩:=hh
  cases ee
  refine wpAny_Call_Name_kw (kM I hg hm (u:=.builtin "sorted") rfl ?_)
  refine callWith_kw (thn ((gD he jo hes) pos pins s σ H (λvs H1=>∃v N,vs=[v]/\Ext B N H H1/\Is X.K N v (.lst ds)) I ⟨B,ρ,_,_,sB,rep,ex,λv H1 N x1 i1 _=>⟨v,N,rfl,x1,i1⟩⟩) λus s1 hA=>?_) heb hpl hall hkw
  obtain⟨vs1,H1,I1,r1,v,N,rfl,x1,i1⟩:=hA
  obtain⟨u,rfl,ru⟩:=jd r1
  refine kws_cons (hk pins s1 σ H1 N ρ _ _ I1 x1.nh (rep.mono x1.bn) λqa H2 s2 I2 m2 kfn=>kws_nil ?_)
  rw[hnm]
  show wpAny _ _ (call (.builtin "sorted") [u] [(("key" : Str),.ref qa)]) _ _ _
  cases i1
  rename_i l vs hq il
  cases ru
  have sN:aS N H2:=x1.nh.trans m2
  obtain⟨its,rv,pl,hz⟩:=I2.list (sN.seq hq)
  have hvl:vs.length=its.length:=rv.length
  have hdl:ds.length=vs.length:=il.length.symm
  have hkd:kds.length=ds.length:=f9 em
  have hks:ks.length=kds.length:=fg ek
  have h64':its.length<64:=by omega
  refine call_function_entry_kw kind_sorted plain_sorted entry_sorted (ksk_s1 _ _) ?_
  unfold Builtin.«sorted»
  refine wX (m:=checkCount "sorted" 1 1 _) (wY (wX (collect_list pl.isList (wX (wpAny_newList ?_ (by rw[sizeLine_eq];omega))) (by rw[sizeLine_eq];omega))))
  let h1:Heap:=(s2.heap.push (seqObj "list" #[] 0)).update s2.heap.objs.size (Obj.mapSeq (· ++ its.toArray))
  have hsz:h1.objs.size=s2.heap.objs.size+1:=by show(Heap.update _ _ _).objs.size=_;rw[Heap.size_update,size_push']
  have keep1:∀b o,s2.heap.get? b=some o->h1.get? b=some o:=λb o q=>(Heap.get?_update_ne _ _ _ _ (Nat.ne_of_lt (Heap.lt_size q))).trans (Heap.get?_push_of_some _ q)
  have I3:Inv X ((h1.objs.size,seqObj "list" its.toArray 0)::pins) σ H2 { s2 with heap:=h1.push (seqObj "list" its.toArray 0) } :=
   mM (t':=s2.toks) I2 (λb u q=>Heap.get?_push_of_some _ (keep1 b u q)) (by rw[hsz];exact Nat.le_succ _) (Heap.get?_push_size _ rfl) c8
  have p3:=I3.pin (h1.objs.size,seqObj "list" its.toArray 0) (mY _ mX)
  show wpAny (model X.prog X.w) X.A.in1 (holding [.ref h1.objs.size] (call (.builtin "list.sort") [.ref h1.objs.size] [(("key" : Str),.ref qa)])>>=_) _ _ { s2 with heap:=h1.push (seqObj "list" its.toArray 0) }
  refine wX (wpAny_holding (wpAny_call_entry_kw slot_list_sort ⟨_,p3.1,rfl⟩ entry_list_sort ?_ (ksk_l1 _ _)))
  show wpAny (model X.prog X.w) X.A.in1.in1 (Builtin.«list.sort» ⟨[.ref h1.objs.size],[(Str.ofString "key",.ref qa)]⟩) _ _ _
  rw[ksk_t1]
  refine vU I3 (Nat.le_trans I2.sz (by rw[hsz];exact Nat.le_succ _)) (λq hq=>by rw[hsz];exact Nat.ne_of_lt (Nat.lt_succ_of_lt (Heap.lt_size (I2.pin q hq).1))) kfn rv il sN em ek hc hf h64' λpm s' H' N' ap up J x3 hn=>⟨_,rfl,wY ⟨_,rfl, ?_⟩⟩
  have hpl:its.length=ds.length:=by omega
  rw[hpl]at ap up
  have er:=vV (by omega) hc (uc nd) ap up
  have hin:∀i∈pm.toList,i<ds.length:=λi hi=>List.mem_range.mp (ap.perm.mem_iff.mp hi)
  have ip:=tX (il.mono x3.bn) pm.toList hin
  rw[er]at ip
  have x4:Ext B N' H H':=(x1.trans (.grow x1.nh m2)).trans x3
  have hN:N' h1.objs.size=none:=x3.nh.free hn
  have x5:=x4.trans (Ext.laid (o:=.lst (pm.toList.map λi=>vs.getD i .non)) x3.nh hn)
  exact⟨.ref h1.objs.size,_,J,rfl,q _ _ _ x5 (.lst (SqL.of aI) (ip.mono (Ext.laid (o:=.lst (pm.toList.map λi=>vs.getD i .non)) x3.nh hn).bn)) λ_=>⟨_,_,_,rfl,rfl,x4.hh.free hn,aI,ip.mono (Ext.laid (o:=.lst (pm.toList.map λi=>vs.getD i .non)) x3.nh hn).bn⟩⟩
 ·cases ee
end
section
variable {prog:Program}{w:World}{A:Around}{E:Value->Shared->Prop}{s:Shared}
theorem gw.type {xs:List At}{v:Value}(h:gw s.heap xs v):s.TypeIs v "tuple":=by
 obtain⟨a,o,its,n,rfl,ho,hc,_⟩:=h
 exact⟨o,ho,hc⟩
theorem zV {xs ys:List At}{a b:Addr}{r:Bool}{P:PySem.Fin->Shared->Prop}(hx:gw s.heap xs (.ref a)) (hy:gw s.heap ys (.ref b)) (h:bu xs ys=some r) (q:P (.done (.ret (.bool r))) s):wpAny (model prog w) A (Builtin.«tuple.__lt__» ⟨[.ref a,.ref b],[]⟩) P E s:=by
 have hTb:=hy.type
 obtain⟨a',oa,its,na,ea,hoa,_,hda,ra⟩:=hx
 obtain⟨b',ob,jts,nb,eb,hob,_,hdb,rb⟩:=hy
 cases ea
 cases eb
 show wpAny _ _ (isInstance (.ref _) (.type "tuple")>>=_) _ _ s
 refine wX (wpAny_isInstance hTb isSubtype_tuple_tuple ?_)
 simp only[Bool.not_true,Bool.false_eq_true,if_false]
 refine wX (wpAny_tupleItemsOf hoa hda ?_)
 refine wX (wpAny_tupleItemsOf hob hdb ?_)
 refine wX ?_
 refine wpAny_forIn_list _
  (λaF z s'=>z.1=none/\s'=s/\∃xs' ys' its' jts' n,aF=List.zip its' jts'/\Paired atV xs' its'/\Paired atV ys' jts'/\bu xs' ys'=some r/\its'.length+n=its.size/\jts'.length+n=jts.size)
  _ ?_ ?_ _ _ ⟨rfl,rfl,xs,ys,its.toList,jts.toList,0,rfl,ra,rb,h,by simp,by simp⟩
 ·rintro⟨u,v⟩ aF z s' ⟨hz,rfl,xs',ys',its',jts',n,e,p1,p2,hl,n1,n2⟩
  cases p1 with
  | nil=>simp at e
  | @cons x u' xs'' its'' r1 p1' =>
   cases p2 with
   | nil=>simp at e
   | @cons y v' ys'' jts'' r2 p2' =>
    simp only[List.zip_cons_cons,List.cons.injEq,Prod.mk.injEq]at e
    obtain⟨⟨rfl,rfl⟩,rfl⟩:=e
    cases x with
    | i i =>
     cases y with
     | s j=>simp[bu]at hl
     | i j =>
      obtain⟨t,rfl⟩:=r1
      obtain⟨t',rfl⟩:=r2
      rw[bu]at hl
      refine wX (wpAny_eqBool_int ?_)
      by_cases hk:i=j
      ·rw[if_pos hk]at hl
       rw[show(i == j)=true by simp[hk]]
       simp only[Bool.not_true,Bool.false_eq_true,if_false]
       exact wY ⟨rfl,rfl,xs'',ys'',its'',jts'',n+1,rfl,p1',p2',hl,by rw[←n1,List.length_cons];omega,by rw[←n2,List.length_cons];omega⟩
      ·rw[if_neg hk]at hl
       cases hl
       rw[show(i == j)=false by simp[hk]]
       simp only[Bool.not_false,if_true]
       refine wX (wpAny_rule (wX (m:=richCompare .Lt (.int i t) (.int j t')) (wpAny_mono (show wpAny _ _ (richCompare .Lt (.int i t) (.int j t')) (λv s''=>v=.bool (decide (i<j))/\s''=s') E s' from PyProof.Rows.lt_int ⟨rfl,rfl⟩) (λv s'' hv=>?_) λ_ _ z=>z)))
       obtain⟨rfl,rfl⟩:=hv
       exact wX (wY (wY (wY q)))
    | s i =>
     cases y with
     | i j=>simp[bu]at hl
     | s j =>
      obtain⟨t,rfl⟩:=r1
      obtain⟨t',rfl⟩:=r2
      rw[bu]at hl
      refine wX (wpAny_eqBool_str ?_)
      by_cases hk:i=j
      ·rw[if_pos hk]at hl
       rw[decide_eq_true hk]
       simp only[Bool.not_true,Bool.false_eq_true,if_false]
       exact wY ⟨rfl,rfl,xs'',ys'',its'',jts'',n+1,rfl,p1',p2',hl,by rw[←n1,List.length_cons];omega,by rw[←n2,List.length_cons];omega⟩
      ·rw[if_neg hk]at hl
       cases hl
       rw[decide_eq_false hk]
       simp only[Bool.not_false,if_true]
       refine wX (wpAny_rule (wX (m:=richCompare .Lt (.str i t) (.str j t')) (wpAny_mono (show wpAny _ _ (richCompare .Lt (.str i t) (.str j t')) (λv s''=>v=.bool (decide (i.cps.toList<j.cps.toList))/\s''=s') E s' from PySem.P.lt_str ⟨rfl,rfl⟩) (λv s'' hv=>?_) λ_ _ z=>z)))
       obtain⟨rfl,rfl⟩:=hv
       exact wX (wY (wY (wY q)))
 ·rintro⟨z1,z2⟩ s' ⟨hz,rfl,xs',ys',its',jts',n,e,p1,p2,hl,n1,n2⟩
  simp only at hz
  subst hz
  refine wY ?_
  have:decide (its.size<jts.size)=r:=by
   cases p1 with
   | nil =>
    cases p2 with
    | nil=>simp[bu]at hl;subst hl;simp at n1 n2;simp;omega
    | cons _ _=>simp[bu]at hl;subst hl;simp at n1 n2;simp;omega
   | cons _ _ =>
    cases p2 with
    | nil=>simp[bu]at hl;subst hl;simp at n1 n2;simp;omega
    | cons _ _=>simp at e
  show P (.done (.ret (.bool (decide (its.size<jts.size))))) s'
  rw[this];exact q
theorem zW {xs ys:List At}{a b:Addr}{r:Bool}{P:PySem.Fin->Shared->Prop}(hx:gw s.heap xs (.ref a)) (hy:gw s.heap ys (.ref b)) (h:bu ys xs=some r) (q:P (.done (.ret (.bool r))) s):wpAny (model prog w) A (Builtin.«tuple.__gt__» ⟨[.ref a,.ref b],[]⟩) P E s:=by
 have hTb:=hy.type
 obtain⟨a',oa,its,na,ea,hoa,_,hda,ra⟩:=hx
 obtain⟨b',ob,jts,nb,eb,hob,_,hdb,rb⟩:=hy
 cases ea
 cases eb
 show wpAny _ _ (isInstance (.ref _) (.type "tuple")>>=_) _ _ s
 refine wX (wpAny_isInstance hTb isSubtype_tuple_tuple ?_)
 simp only[Bool.not_true,Bool.false_eq_true,if_false]
 refine wX (wpAny_tupleItemsOf hoa hda ?_)
 refine wX (wpAny_tupleItemsOf hob hdb ?_)
 refine wX ?_
 refine wpAny_forIn_list _
  (λaF z s'=>z.1=none/\s'=s/\∃xs' ys' its' jts' n,aF=List.zip its' jts'/\Paired atV xs' its'/\Paired atV ys' jts'/\bu ys' xs'=some r/\its'.length+n=its.size/\jts'.length+n=jts.size)
  _ ?_ ?_ _ _ ⟨rfl,rfl,xs,ys,its.toList,jts.toList,0,rfl,ra,rb,h,by simp,by simp⟩
 ·rintro⟨u,v⟩ aF z s' ⟨hz,rfl,xs',ys',its',jts',n,e,p1,p2,hl,n1,n2⟩
  cases p1 with
  | nil=>simp at e
  | @cons x u' xs'' its'' r1 p1' =>
   cases p2 with
   | nil=>simp at e
   | @cons y v' ys'' jts'' r2 p2' =>
    simp only[List.zip_cons_cons,List.cons.injEq,Prod.mk.injEq]at e
    obtain⟨⟨rfl,rfl⟩,rfl⟩:=e
    cases x with
    | i i =>
     cases y with
     | s j=>simp[bu]at hl
     | i j =>
      obtain⟨t,rfl⟩:=r1
      obtain⟨t',rfl⟩:=r2
      rw[bu]at hl
      refine wX (wpAny_eqBool_int ?_)
      by_cases hk:j=i
      ·rw[if_pos hk]at hl
       rw[show(i == j)=true by simp[hk]]
       simp only[Bool.not_true,Bool.false_eq_true,if_false]
       exact wY ⟨rfl,rfl,xs'',ys'',its'',jts'',n+1,rfl,p1',p2',hl,by rw[←n1,List.length_cons];omega,by rw[←n2,List.length_cons];omega⟩
      ·rw[if_neg hk]at hl
       cases hl
       rw[show(i == j)=false by simp;exact λz=>hk z.symm]
       simp only[Bool.not_false,if_true]
       refine wX (wpAny_rule (wX (m:=richCompare .Gt (.int i t) (.int j t')) (wpAny_mono (show wpAny _ _ (richCompare .Gt (.int i t) (.int j t')) (λv s''=>v=.bool (decide (j<i))/\s''=s') E s' from PyProof.Rows.gt_int ⟨rfl,rfl⟩) (λv s'' hv=>?_) λ_ _ z=>z)))
       obtain⟨rfl,rfl⟩:=hv
       exact wX (wY (wY (wY q)))
    | s i =>
     cases y with
     | i j=>simp[bu]at hl
     | s j =>
      obtain⟨t,rfl⟩:=r1
      obtain⟨t',rfl⟩:=r2
      rw[bu]at hl
      refine wX (wpAny_eqBool_str ?_)
      by_cases hk:j=i
      ·rw[if_pos hk]at hl
       rw[decide_eq_true hk.symm]
       simp only[Bool.not_true,Bool.false_eq_true,if_false]
       exact wY ⟨rfl,rfl,xs'',ys'',its'',jts'',n+1,rfl,p1',p2',hl,by rw[←n1,List.length_cons];omega,by rw[←n2,List.length_cons];omega⟩
      ·rw[if_neg hk]at hl
       cases hl
       rw[decide_eq_false λz=>hk z.symm]
       simp only[Bool.not_false,if_true]
       refine wX (wpAny_rule (wX (m:=richCompare .Gt (.str i t) (.str j t')) (wpAny_mono (show wpAny _ _ (richCompare .Gt (.str i t) (.str j t')) (λv s''=>v=.bool (decide (j.cps.toList<i.cps.toList))/\s''=s') E s' from PySem.P.gt_str ⟨rfl,rfl⟩) (λv s'' hv=>?_) λ_ _ z=>z)))
       obtain⟨rfl,rfl⟩:=hv
       exact wX (wY (wY (wY q)))
 ·rintro⟨z1,z2⟩ s' ⟨hz,rfl,xs',ys',its',jts',n,e,p1,p2,hl,n1,n2⟩
  simp only at hz
  subst hz
  refine wY ?_
  have:decide (jts.size<its.size)=r:=by
   cases p1 with
   | nil =>
    cases p2 with
    | nil=>simp[bu]at hl;subst hl;simp at n1 n2;simp;omega
    | cons _ _=>simp[bu]at hl;subst hl;simp at n1 n2;simp;omega
   | cons _ _ =>
    cases p2 with
    | nil=>simp[bu]at hl;subst hl;simp at n1 n2;simp;omega
    | cons _ _=>simp at e
  show P (.done (.ret (.bool (decide (jts.size<its.size))))) s'
  rw[this];exact q
theorem Fs {xs ys:List At}{x y:Value}{r:Bool}{Q:Value->Shared->Prop}(hx:gw s.heap xs x) (hy:gw s.heap ys y) (h:bu xs ys=some r) (hu:A.units<cLine) (q:Q (.bool r) s):wpAny (model prog w) A (richCompare .Lt x y) Q E s:=by
 have tx:=hx.type
 have ty:=hy.type
 obtain⟨a,_,_,_,rfl,_⟩:=id hx
 obtain⟨b,_,_,_,rfl,_⟩:=id hy
 exact wpAny_richCompare_same_room (op:=.Lt) tx ty PySem.F.slot_tuple_lt (wpAny_call_entry PySem.F.slot_tuple_lt tx PySem.F.entry_tuple_lt (zV hx hy h ⟨_,rfl,(λe=>nomatch e),q⟩) (PySem.F.args_tuple_lt_2 _ _)) hu
theorem Ft {xs ys:List At}{x y:Value}{r:Bool}{Q:Value->Shared->Prop}(hx:gw s.heap xs x) (hy:gw s.heap ys y) (h:bu ys xs=some r) (hu:A.units<cLine) (q:Q (.bool r) s):wpAny (model prog w) A (richCompare .Gt x y) Q E s:=by
 have tx:=hx.type
 have ty:=hy.type
 obtain⟨a,_,_,_,rfl,_⟩:=id hx
 obtain⟨b,_,_,_,rfl,_⟩:=id hy
 exact wpAny_richCompare_same_room (op:=.Gt) tx ty PySem.F.slot_tuple_gt (wpAny_call_entry PySem.F.slot_tuple_gt tx PySem.F.entry_tuple_gt (zW hx hy h ⟨_,rfl,(λe=>nomatch e),q⟩) (PySem.F.args_tuple_gt_2 _ _)) hu
end
def jS:List At×D->List (List At×D)->D
 | b,[]=>b.2
 | b,x::r=>if bu b.1 x.1=some true then jS x r else jS b r
def jk:List At×D->List (List At×D)->D
 | b,[]=>b.2
 | b,x::r=>if bu x.1 b.1=some true then jk x r else jk b r
def mmP {f:String->CmpOp->Builtin}(_:f "max" .Gt=Builtin.«max.loop»):=f
def mmL:String->CmpOp->Builtin:=mmP rfl
def mmQ {f:String->Builtin}(_:f "max" = Builtin.«max»):=f
def mmF:String->Builtin:=mmQ rfl
structure MM (nm lp:String) (ns:Str) (op:CmpOp) (lt:List At->List At->Option Bool) (go:List At×D->List (List At×D)->D):Prop where
 hn:(toString nm++toString ".loop" : String)=lp
 en:entryFor table lp=some (mmL nm op)
 pl:plainId lp=true
 k2:builtinKind nm=none
 p2:plainId nm=true
 e2:entryFor table nm=some (mmF nm)
 ka:∀a v:Value,argsOk nm ⟨[a],[(Str.ofString "key",v)]⟩
 bt:bootBuiltins ns=some (.builtin nm)
 n1:ns ≠ "__name__"
 n2:(ns == ("__debug__" : Str))=false
 g0:∀b,go b []=b.2
 g1:∀b x r,go b (x::r)=if lt b.1 x.1=some true then go x r else go b r
 cg:∀ {ks:List (List At)},eC ks=true->∀ {a b},a∈ks->b∈ks->∃r,lt a b=some r
 rc:∀ {prog:Program}{w:World}{A:Around}{E:Value->Shared->Prop}{s:Shared}{xs ys:List At}{x y:Value}{r:Bool}{Q:Value->Shared->Prop},gw s.heap xs x->gw s.heap ys y->lt ys xs=some r->A.units<cLine->Q (.bool r) s->wpAny (model prog w) A (richCompare op x y) Q E s
theorem mmx:MM "max" "max.loop" "max" .Gt bu jS :=
 ⟨by decide,PySem.F.entry_max_loop,PySem.F.plain_max_loop,PySem.F.kind_max,PySem.F.plain_max,PySem.F.entry_max,λ_ _=>by unfold argsOk;kernel_rfl,rfl,by decide,by decide,λ_=>rfl,λ_ _ _=>rfl,λh _ _ a b=>⟨_,eZ h a b⟩,Ft⟩
theorem mmn:MM "min" "min.loop" "min" .Lt (λa b=>bu b a) jk :=
 ⟨by decide,PySem.F.entry_min_loop,PySem.F.plain_min_loop,PySem.F.kind_min,PySem.F.plain_min,PySem.F.entry_min,λ_ _=>by unfold argsOk;kernel_rfl,rfl,by decide,by decide,λ_=>rfl,λ_ _ _=>rfl,λh _ _ a b=>⟨_,eZ h b a⟩,Fs⟩
section
variable {X:Cx}{pins:List (Addr×Obj)}{σ:St}
theorem nK {o1 o2:Obj}{H':Hp}{s':Shared}{a1 a2:Addr}(J:Inv X ((a1,o1)::(a2,o2)::pins) σ H' s'):Inv X ((a2,o2)::(a1,o1)::pins) σ H' s' :=
 J.pins_of λq hq=>J.pin q (by
  rcases List.mem_cons.mp hq with rfl|hq
  ·exact mY _ (mZ _ mX)
  ·rcases List.mem_cons.mp hq with rfl|hq
   ·exact mY _ mX
   ·exact mY _ (mZ _ (mZ _ hq)))
theorem nL {S a:Addr}{o:Obj}(hp:∀q∈X.pn++pins,q.1≠a) (h:S≠a):∀q∈X.pn++((S,o)::pins),q.1≠a:=λq hq=>by
 rcases List.mem_append.mp hq with hq|hq
 ·exact hp q (List.mem_append_left _ hq)
 ·rcases List.mem_cons.mp hq with rfl|hq
  ·exact h
  ·exact hp q (mY _ hq)
theorem xh {pins:List (Addr×Obj)}{H:Hp}{s:Shared}{v:V}{u:Value}{d:D}{k:List At}(I:Inv X pins σ H s) (r:aY v u) (i:Is X.K H v d) (e:tU d=some k):gw s.heap k u:=by
 have:=rC I (ys:=[v]) (ds:=[d]) (ks:=[k]) (its:=[u]) (.cons r .nil) (.cons i .nil) (by simp only[cW,e];rfl)
 cases this;assumption
theorem B9 {nm lp:String}{ns:Str}{op:CmpOp}{lt:List At->List At->Option Bool}{go:List At×D->List (List At×D)->D}(M:MM nm lp ns op lt go) {qv:Value}{l S It:Addr}{vs:List V}{ds kds:List D}{ks:List (List At)}{B H1:Hp}{kf:D->Option D}{d0:D}{R:Result->Shared->Prop}(hh:X.A.handled=none) (hu:X.A.in1.units<cLine) (kfn:zT X X.A.in1 σ qv B H1 kf) (hqv:∃a,qv=.ref a) (hq:SqL X.K B l vs) (iv:IsL X.K B vs ds)
  (em:hU kf ds=some kds) (ek:cW kds=some ks) (hc:eC ks=true) (S0:X.s₀.heap.objs.size<=S) (I0:X.s₀.heap.objs.size<=It) (hSp:∀q∈X.pn++pins,q.1≠S) (hIp:∀q∈X.pn++pins,q.1≠It) (hSI:S≠It) (hSl:S≠l) (hIl:l≠It)
  (hR:∀(s':Shared) (H' N:Hp) (v:V) (u:Value),Inv X pins σ H' s'->Ext B N H1 H'->aY v u->Is X.K N v d0->R (.ok (.ret u)) s') :
  ∀(r j:Nat) (s:Shared) (H N:Hp) (ub kub:Value) (vb kvb:V) (db kdb:D) (kb:List At) (c:Nat) (oI:Obj),vs.length - j=r->j<=vs.length->Inv X ((S,seqObj "list" #[ub,kub] c)::(It,oI)::pins) σ H s->s.heap.IsListIter It l j->Ext B N H1 H ->
   aY vb ub->Is X.K N vb db->aY kvb kub->Is X.K N kvb kdb->tU kdb=some kb->kb∈ks->go (kb,db) ((ks.zip ds).drop j)=d0 ->
   codeAny (model X.prog X.w) X.A (.builtin lp ⟨[.ref It,qv,.ref S],[]⟩) R s:=by
 obtain⟨qa,rfl⟩:=hqv
 intro r
 induction r with
 | zero =>
  intro j s H N ub kub vb kvb db kdb kb c oI hr hj I hit x1 r1 i1 r2 i2 ekb mk hd
  have pS:=I.pin (S,seqObj "list" #[ub,kub] c) (mY _ mX)
  have sB:aS B H:=x1.bn.trans x1.nh
  obtain⟨its,rv,pl,_⟩:=I.list (sB.seq hq)
  have hl:=pl.isList
  have W:=Walks.list (prog:=X.prog) (w:=X.w) (A:=X.A.in1) hh It l hIl its.toArray
  have hsz:its.toArray.size=its.length:=List.size_toArray ..
  have hvl:vs.length=its.length:=rv.length
  have hdl:ds.length=its.length:=by rw[←iv.length];exact rv.length
  have hkl:ks.length=ds.length:=by rw[fg ek,f9 em]
  have hd':db=d0:=by
   rw[List.drop_of_length_le (by rw[List.length_zip];omega)]at hd
   rw[M.g0]at hd;exact hd
  subst hd'
  refine codeAny_builtin M.en ?_
  rw[Around.under_plainId M.pl _]
  show wpAny _ X.A.in1 (seqItems? (.ref S)>>=_) _ _ _
  refine wX (wpAny_seqItems pS.1 rfl ?_)
  show wpAny _ X.A.in1 (tryCatch (pyNext (.ref It)) _>>=_) _ _ _
  refine wX (wpAny_tryCatch (W.done _ _ _ ⟨by rw[hsz,show its.length=j by omega];exact hit,hl⟩ λh' tk' hk'=>?_))
  have J1:Inv X ((It,oI)::(S,seqObj "list" #[ub,kub] c)::pins) σ H s:=nK I
  have hIp':∀q∈X.pn++((S,seqObj "list" #[ub,kub] c)::pins),q.1≠It:=nL hIp hSI
  have J2:Inv X ((S,seqObj "list" #[ub,kub] c)::pins) σ H { s with heap:=h',toks:=tk' } :=
   (ij J1).turned (t':=tk') (λb o n e=>hk' b o (by simpa using n) e) (J1.pin (It,oI) (mY _ mX)).2.1 (J1.pin (It,oI) (mY _ mX)).2.2.1 (.inr I0) (lm J1) hIp'
  have pS2:=J2.pin (S,seqObj "list" #[ub,kub] c) (mY _ mX)
  obtain⟨c2,hc2⟩:∃c2,(h'.update S (Obj.mapSeq λ_=>(#[]:Array Value))).get? S=some (seqObj "list" #[] c2):=⟨_,get?_update_seq pS2.1 λ_=>#[]⟩
  have u2:=Heap.SameBut.update h' S (Obj.mapSeq λ_=>(#[]:Array Value))
  show wpAny _ X.A.in1 (updateSeq S (λ_=>#[])>>=_) _ _ _
  refine wX ?_
  refine wpAny_updateSeq pS2.1 rfl (wX (wpAny_letGo (wY ?_)))
  exact hR _ H N vb ub (ij (eD (t':=tk') J2 S0 hSp (λb o n e=>(u2.2 b n).trans e) hc2 c8)) x1 r1 i1
 | succ r ih =>
  intro j s H N ub kub vb kvb db kdb kb c oI hr hj I hit x1 r1 i1 r2 i2 ekb mk hd
  have hlt:j<vs.length:=by omega
  have pS:=I.pin (S,seqObj "list" #[ub,kub] c) (mY _ mX)
  have sB:aS B H:=x1.bn.trans x1.nh
  obtain⟨its,rv,pl,_⟩:=I.list (sB.seq hq)
  have hl:=pl.isList
  have W:=Walks.list (prog:=X.prog) (w:=X.w) (A:=X.A.in1) hh It l hIl its.toArray
  have hsz:its.toArray.size=its.length:=List.size_toArray ..
  have hvl:vs.length=its.length:=rv.length
  have hdl:ds.length=its.length:=by rw[←iv.length];exact rv.length
  have hkl:ks.length=ds.length:=by rw[fg ek,f9 em]
  refine codeAny_builtin M.en ?_
  rw[Around.under_plainId M.pl _]
  show wpAny _ X.A.in1 (seqItems? (.ref S)>>=_) _ _ _
  refine wX (wpAny_seqItems pS.1 rfl ?_)
  show wpAny _ X.A.in1 (tryCatch (pyNext (.ref It)) _>>=_) _ _ _
  refine wX (wpAny_tryCatch (W.item j _ _ _ (by rw[hsz];omega) ⟨hit,hl⟩ λu h' tk' hP hst' hk'=>?_))
  have hu':its[j]? = some u:=by simpa using hP
  obtain⟨d,hdj⟩:∃d,ds[j]? = some d:=⟨_,List.getElem?_eq_getElem (by omega)⟩
  obtain⟨v,hv,iv'⟩:=iv.get hdj
  obtain⟨kd,hkj,hkf⟩:=jR em hdj
  obtain⟨u2,hu2,ru⟩:=rv.get hv
  rw[hu']at hu2;cases hu2
  obtain⟨k,hk1⟩:∃k,ks[j]? = some k:=⟨_,List.getElem?_eq_getElem (by omega)⟩
  have ekd:tU kd=some k:=by
   have:=lh ek (i:=j) (by rw[f9 em];omega)
   rw[List.getD_eq_getElem?_getD,hkj,List.getD_eq_getElem?_getD,hk1]at this
   exact this
  have hm:k∈ks:=List.mem_of_getElem? hk1
  obtain⟨oI',hoI',hoc,hod⟩:=id hst'.1
  have J1:Inv X ((It,oI)::(S,seqObj "list" #[ub,kub] c)::pins) σ H s:=nK I
  have hIp':∀q∈X.pn++((S,seqObj "list" #[ub,kub] c)::pins),q.1≠It:=nL hIp hSI
  have hSp':∀q∈X.pn++((It,oI')::pins),q.1≠S:=nL hSp hSI.symm
  have J2:Inv X ((It,oI')::(S,seqObj "list" #[ub,kub] c)::pins) σ H { s with heap:=h',toks:=tk' } :=
   eD (t':=tk') J1 I0 hIp' (λb o n e=>hk' b o (by simpa using n) e) hoI' (λv z=>by rw[hod]at z;cases z)
  have J3:Inv X ((S,seqObj "list" #[ub,kub] c)::(It,oI')::pins) σ H { s with heap:=h',toks:=tk' }:=nK J2
  show wpAny _ X.A.in1 (tryCatch (holding [u] (call (.ref qa) [u])) _>>=_) _ _ _
  refine wX (wpAny_tryCatch (wpAny_holding (wpAny_mono (kfn _ _ H N v u d kd J3 x1.hh x1.bn x1.nh (iv'.mono x1.bn) ru hkf) (λku s2 he=>?_) λ_ _ hF=>hF.elim)))
  obtain⟨kv,H2,J4,rk,N2,x2,ik⟩:=he
  have pI4:=J4.pin (It,oI') (mY _ (mZ _ mX))
  have pS4:=J4.pin (S,seqObj "list" #[ub,kub] c) (mY _ mX)
  have hit2:s2.heap.IsListIter It l (j+1):=⟨oI',pI4.1,hoc,hod⟩
  have t1:=xh J4 rk (ik.mono x2.nh) ekd
  have t2:=xh J4 r2 (i2.mono (x2.bn.trans x2.nh)) ekb
  have hz:(ks.zip ds).drop j=(k,d)::(ks.zip ds).drop (j+1):=by
   have hj':j<(ks.zip ds).length:=by rw[List.length_zip];omega
   rw[List.drop_eq_getElem_cons hj']
   have:(ks.zip ds)[j]? = some (k,d):=List.getElem?_zip_eq_some.mpr ⟨hk1,hdj⟩
   rw[List.getElem?_eq_getElem hj']at this
   rw[Option.some.inj this]
  rw[hz,M.g1]at hd
  obtain⟨r,hlx⟩:=M.cg hc mk hm
  show wpAny _ X.A.in1 (tryCatch (holding [u,ku] (richCompare op ku kub>>=_)) _>>=_) _ _ _
  refine wX (wpAny_tryCatch (wpAny_holding (wX (M.rc t1 t2 hlx hu ?_))))
  refine wX (wpAny_holding (wpAny_truthy_bool ?_))
  refine wX (wpAny_letGo (wY ?_))
  cases r with
  | true =>
   rw[if_pos hlx]at hd
   obtain⟨c2,hc2⟩:∃c2,(s2.heap.update S (Obj.mapSeq λ_=>#[u,ku])).get? S=some (seqObj "list" #[u,ku] c2):=⟨_,get?_update_seq pS4.1 λ_=>#[u,ku]⟩
   have u2:=Heap.SameBut.update s2.heap S (Obj.mapSeq λ_=>#[u,ku])
   simp only[if_true]
   refine wX ?_
   refine wpAny_updateSeq pS4.1 rfl (wX (wpAny_letGo ?_))
   rw[M.hn]
   exact wY ⟨plainId_quiet M.pl _,ih (j+1) _ H2 N2 u ku v kv d kd k c2 oI' (by omega) hlt (eD (t':=s2.toks) J4 S0 hSp' (λb o n e=>(u2.2 b n).trans e) hc2 c8) ⟨oI',(u2.2 It hSI.symm).trans pI4.1,hoc,hod⟩ (x1.trans x2) ru (iv'.mono (x1.bn.trans x2.bn)) rk ik ekd hm hd⟩
  | false =>
   rw[if_neg (by rw[hlx];simp)]at hd
   simp only[Bool.false_eq_true,if_false]
   refine wX (wpAny_letGo ?_)
   rw[M.hn]
   exact wY ⟨plainId_quiet M.pl _,ih (j+1) _ H2 N2 ub kub vb kvb db kdb kb c oI' (by omega) hlt J4 hit2 (x1.trans x2) r1 (i1.mono x2.bn) r2 (i2.mono x2.bn) ekb mk hd⟩
end
@[simp] def fKK (go:List At×D->List (List At×D)->D) (f:FE) (kf:Env->D->Option D):FE:=λρ=>(f ρ).bind λx=>match x.1 with
 | .lst ds=>(hU (kf ρ) ds).bind λkds=>(cW kds).bind λks=>if eC ks=true then match ks.zip ds with
  | []=>none
  | y::r=>some (go y r,false)
  else none
 | _=>none
@[simp] def pX:=fKK jS
@[simp] def pY:=fKK jk
section
variable {X:Cx}{e ke:Expr}{p pos kp:Pos}
theorem ue {nm lp:String}{ns:Str}{op:CmpOp}{lt:List At->List At->Option Bool}{go:List At×D->List (List At×D)->D}(M:MM nm lp ns op lt go) {f:FE}{kf:Env->D->Option D}{k:Nat}(hm:X.mg ns=none) (he:JE X e f) (hk:JK X X.A.in1 ke kf) (hr:Room k X.A) (hg:Gl X ns:=by rfl)
  (hes:starEach [e] X.env=[(false,eval e X.env)]:=by rfl) (heb:backTo pos (starEach [e] X.env)=(false,eval e X.env)::backTo pos (starEach [] X.env):=by rfl) (hpl:(backTo pos (starEach [e] X.env)).any (·.1)=false:=by rfl)
  (hall:(backToKw pos (keywordEach [⟨some "key",ke,kp⟩] X.env)).all (·.1.isSome)=true:=by rfl) (hkw:(backToKw pos (keywordEach [⟨some "key",ke,kp⟩] X.env)).any (·.1.isNone)=false:=by rfl)
  (hnm:(backToKw pos (keywordEach [⟨some "key",ke,kp⟩] X.env)).filterMap (·.1)=[("key" : Str)]:=by rfl) :
  JE X (.Call (.Name ns p) [e] [⟨some "key",ke,kp⟩] pos) (fKK go f kf):=by
 intro pins s σ H Q I h
 obtain⟨B,ρ,d,b,sB,rep,ee,q⟩:=h
 obtain⟨⟨xd,xb⟩,ex,ee⟩:=oX ee
 cases xd<;>try (cases ee;done)
 rename_i ds
 obtain⟨kds,em,ee⟩:=oX ee
 obtain⟨ks,ek,ee⟩:=oX ee
 split at ee
 ·rename_i hc
  split at ee
  ·cases ee
  ·rename_i y aF ez
   cases ee
   refine wpAny_Call_Name_kw (kM I hg hm M.bt ?_ M.n1 M.n2)
   refine callWith_kw (thn ((gD he jo hes) pos pins s σ H (λvs H1=>∃v N,vs=[v]/\Ext B N H H1/\Is X.K N v (.lst ds)) I ⟨B,ρ,_,_,sB,rep,ex,λv H1 N x1 i1 _=>⟨v,N,rfl,x1,i1⟩⟩) λus s1 hA=>?_) heb hpl hall hkw
   obtain⟨vs1,H1,I1,r1,v,N,rfl,x1,i1⟩:=hA
   obtain⟨u,rfl,ru⟩:=jd r1
   refine kws_cons (hk pins s1 σ H1 N ρ _ _ I1 x1.nh (rep.mono x1.bn) λqa H2 s2 I2 m2 kfn=>kws_nil ?_)
   rw[hnm]
   show wpAny _ _ (call (.builtin nm) [u] [(("key" : Str),.ref qa)]) _ _ _
   cases i1
   rename_i l vs hq il
   cases ru
   have sN:aS N H2:=x1.nh.trans m2
   obtain⟨its,rv,pl,hz⟩:=I2.list (sN.seq hq)
   have hvl:vs.length=its.length:=rv.length
   have hdl:ds.length=vs.length:=il.length.symm
   have hkd:kds.length=ds.length:=f9 em
   have hks:ks.length=kds.length:=fg ek
   have hll:l<s2.heap.objs.size:=by
    obtain⟨ol,hol,_⟩:=pl.isList
    exact Heap.lt_size hol
   -- the first item
   obtain⟨k0,d0⟩:=y
   have hne:0<its.length:=by
    have:=congrArg List.length ez
    rw[List.length_zip,List.length_cons]at this
    omega
   have z0:(ks.zip ds)[0]? = some (k0,d0):=by rw[ez];rfl
   obtain⟨hk0,hd0⟩:=List.getElem?_zip_eq_some.mp z0
   have hrest:(ks.zip ds).drop 1=aF:=by rw[ez];rfl
   refine kmk_tree M.k2 M.p2 M.e2 (M.ka _ _) ?_
   show wpAny _ X.A.in1 (Builtin.Builtins.bindParams nm ["key","default"] 0 ⟨[],[(Str.ofString "key",.ref qa)]⟩>>=_) _ _ s2
   refine wX (wpAny_of_eq (show Builtin.Builtins.bindParams nm ["key","default"] 0 ⟨[],[(Str.ofString "key",.ref qa)]⟩=pure [some (.ref qa),none]from rfl) ?_)
   refine wX (wY ?_)
   refine wX (wpAny_pyIter_list pl.isList ?_)
   refine wX (wpAny_newList ?_ (Nat.zero_le _))
   rw[M.hn]
   let It:Addr:=s2.heap.objs.size
   let oI:Obj:={ cls:=.type "list_iterator",data:=.fields #[.ref l,.int 0 0] }
   let S:Addr:=(s2.heap.push oI).objs.size
   have hS:S=s2.heap.objs.size+1:=size_push' ..
   have hSI:S≠It:=by rw[hS];exact Nat.ne_of_gt (Nat.lt_succ_self _)
   have J1:Inv X ((It,oI)::pins) σ H2 { s2 with heap:=s2.heap.push oI }:=mM (t':=s2.toks) I2 (λb u q=>Heap.get?_push_of_some _ q) (Nat.le_refl _) (Heap.get?_push_size _ rfl) (λv z=>by cases z)
   have J2:Inv X ((S,seqObj "list" #[] 0)::(It,oI)::pins) σ H2 { s2 with heap:=(s2.heap.push oI).push (seqObj "list" #[] 0) }:=mM (s:={ s2 with heap:=s2.heap.push oI }) (t':=s2.toks) J1 (λb u q=>Heap.get?_push_of_some _ q) (Nat.le_refl _) (Heap.get?_push_size _ rfl) c8
   have I0:X.s₀.heap.objs.size<=It:=I2.sz
   have S0:X.s₀.heap.objs.size<=S:=by rw[hS];exact Nat.le_succ_of_le I2.sz
   have hIp:∀q∈X.pn++pins,q.1≠It:=λq hq=>Nat.ne_of_lt (Heap.lt_size (I2.pin q hq).1)
   have hSp:∀q∈X.pn++pins,q.1≠S:=λq hq=>by rw[hS];exact Nat.ne_of_lt (Nat.lt_succ_of_lt (Heap.lt_size (I2.pin q hq).1))
   have hIl:l≠It:=Nat.ne_of_lt hll
   have hSl:S≠l:=by rw[hS];exact Nat.ne_of_gt (Nat.lt_succ_of_lt hll)
   have hh:X.A.handled=none:=hr.hd
   have hu:X.A.in1.units<cLine:=by have:=hr.un;show X.A.units+1<cLine;omega
   have pS:=J2.pin (S,seqObj "list" #[] 0) (mY _ mX)
   have pI:=J2.pin (It,oI) (mY _ (mZ _ mX))
   obtain⟨its2,rv2,pl2,_⟩:=J2.list (sN.seq hq)
   have hv2:vs.length=its2.length:=rv2.length
   have W:=Walks.list (prog:=X.prog) (w:=X.w) (A:=X.A.in1) hh It l hIl its2.toArray
   have hsz:its2.toArray.size=its2.length:=List.size_toArray ..
   refine wY ⟨plainId_quiet M.pl _, ?_⟩
   refine codeAny_builtin M.en ?_
   rw[Around.under_plainId M.pl _]
   show wpAny _ X.A.in1 (seqItems? (.ref S)>>=_) _ _ { s2 with heap:=(s2.heap.push oI).push (seqObj "list" #[] 0) }
   refine wX (wpAny_seqItems pS.1 rfl ?_)
   show wpAny _ X.A.in1 (tryCatch (pyNext (.ref It)) _>>=_) _ _ _
   refine wX (wpAny_tryCatch (W.item 0 _ _ _ (by rw[hsz];omega) ⟨⟨oI,pI.1,rfl,rfl⟩,pl2.isList⟩ λu h' tk' hP hst' hk'=>?_))
   have hu':its2[0]? = some u:=by simpa using hP
   obtain⟨v,hv,iv'⟩:=il.get hd0
   obtain⟨kd,hkj,hkf⟩:=jR em hd0
   obtain⟨u2,hu2,ru⟩:=rv2.get hv
   rw[hu']at hu2;cases hu2
   have ekd:tU kd=some k0:=by
    have:=lh ek (i:=0) (by omega)
    rw[List.getD_eq_getElem?_getD,hkj,List.getD_eq_getElem?_getD,hk0]at this
    exact this
   obtain⟨oI',hoI',hoc,hod⟩:=id hst'.1
   have hIp':∀q∈X.pn++((S,seqObj "list" #[] 0)::pins),q.1≠It:=nL hIp hSI
   have hSp':∀q∈X.pn++((It,oI')::pins),q.1≠S:=nL hSp hSI.symm
   have J3:=nK (eD (t':=tk') (nK J2) I0 hIp' (λb o n e=>hk' b o (by simpa using n) e) hoI' (λv z=>by rw[hod]at z;cases z))
   show wpAny _ X.A.in1 (tryCatch (holding [u] (call (.ref qa) [u])) _>>=_) _ _ _
   refine wX (wpAny_tryCatch (wpAny_holding (wpAny_mono (kfn _ _ H2 N v u d0 kd J3 (.refl _) (.refl _) sN iv' ru hkf) (λku s3 he=>?_) λ_ _ hF=>hF.elim)))
   obtain⟨kv,H3,J4,rk,N3,x3,ik⟩:=he
   have pI4:=J4.pin (It,oI') (mY _ (mZ _ mX))
   have pS4:=J4.pin (S,seqObj "list" #[] 0) (mY _ mX)
   obtain⟨c2,hc2⟩:∃c2,(s3.heap.update S (Obj.mapSeq λ_=>#[u,ku])).get? S=some (seqObj "list" #[u,ku] c2):=⟨_,get?_update_seq pS4.1 λ_=>#[u,ku]⟩
   have u2:=Heap.SameBut.update s3.heap S (Obj.mapSeq λ_=>#[u,ku])
   show wpAny _ X.A.in1 (updateSeq S (λ_=>#[u,ku])>>=_) _ _ _
   refine wX ?_
   refine wpAny_updateSeq pS4.1 rfl ?_
   rw[M.hn]
   have xx:Ext B N H H2:=x1.trans (.grow x1.nh m2)
   refine wY ⟨plainId_quiet M.pl _,B9 M (S:=S) (It:=It) hh hu kfn ⟨qa,rfl⟩ hq il em ek hc S0 I0 hSp hIp hSI hSl hIl (λs' H' N' v' u' J' x' r' i'=>⟨v',H',J',r',q _ _ _ (xx.trans x') i' (by simp)⟩) _ 1 _ H3 N3 u ku v kv d0 kd k0 c2 oI' rfl (by omega)
    (eD (t':=s3.toks) J4 S0 hSp' (λb o n e=>(u2.2 b n).trans e) hc2 c8) ⟨oI',(u2.2 It hSI.symm).trans pI4.1,hoc,hod⟩ x3 ru (iv'.mono x3.bn) rk ik ekd (List.mem_of_getElem? hk0) (by rw[hrest])⟩
 ·cases ee
end
section
variable {X:Cx}
@[simp] def tLt:D->D->Option (D×Bool)
 | .tup xs,.tup ys=>(f8 xs).bind λas=>(f8 ys).bind λbs=>(bu as bs).map λr=>(.bl r,false)
 | _,_=>none
@[simp] def tGt:D->D->Option (D×Bool)
 | .tup xs,.tup ys=>(f8 xs).bind λas=>(f8 ys).bind λbs=>(bu bs as).map λr=>(.bl r,false)
 | _,_=>none
end
section
variable {X:Cx}{a b:Expr}{p pos:Pos}
@[simp] def F7 (f g:FE):FA:=λρ=>(f ρ).bind λx=>(g ρ).bind λy=>match x.1,y.1 with
 | .int i,.int j=>if -1000<=i/\i<=1000/\-1000<=j/\j<=1000 then some (eJ i (j - i).toNat)else none
 | _,_=>none
end
@[simp] def Gv:List D->Option (D×Bool)
 | [.tup xs,.tup ys]=>(f8 xs).bind λas=>(f8 ys).bind λbs=>(bu as bs).map λr=>(if r=true then .tup ys else .tup xs,false)
 | _=>none
end DL
namespace DL
open PySem PySem.Spec PyProof.Rows L2
section
variable {X:Cx}
def nM:D->D->Option (D×Bool)
 | .tup xs,.tup ys=>if xs.isEmpty=true then some (.tup ys,false)else none
 | _,_=>none
theorem BA:OpR X (binaryOp .Add) (rD X.K nM):=by
 intro pins s σ H x y v u Q I rx ry q
 obtain⟨B,dx,dy,d,bb,sB,ix,iy,ee,q⟩:=q
 cases ix<;>cases iy<;>try (simp[nM]at ee;done)
 rename_i l vs ds h hl l' ws es h' hl'
 simp only[nM]at ee
 split at ee
 ·rename_i hz
  cases ee
  cases rx
  cases ry
  obtain⟨its,r1,p1,_⟩:=I.tuple (bj sB h)
  obtain⟨its2,r2,p2,_⟩:=I.tuple (bj sB h')
  have he:its.toArray.isEmpty=true:=by
   have e1:=hl.length
   have e2:=r1.length
   have e3:=List.isEmpty_iff.mp hz
   rw[e3]at e1
   cases its with
   | nil=>rfl
   | cons a b=>rw[e1]at e2;simp at e2
  obtain⟨⟨cls,dd,data,sl⟩,ho,hc,n,hd⟩:=id p1
  obtain⟨⟨cls2,dd2,data2,sl2⟩,ho2,hc2,n2,hd2⟩:=id p2
  dsimp only at hc hd hc2 hd2
  subst hc;subst hd;subst hc2;subst hd2
  exact concat_meets ⟨_,ho,rfl⟩ ⟨_,ho2,rfl⟩ noFill_tuple_add seq_tuple_add PySem.F.slot_tuple_add PySem.F.entry_tuple_add (PySem.F.args_tuple_add_2 _ _)
   (tuple_addW0 l l' its.toArray its2.toArray n n2 dd dd2 sl sl2 he) ⟨ho,ho2,⟨.ref l',H,I,rfl,q.one sB (.tup h' hl')⟩⟩
 ·cases ee
@[simp] def jT:D->D->Option (D×Bool)
 | .tup xs,.tup ys=>if xs.length+ys.length<=sizeLine then some (.tup (xs++ys),false)else none
 | _,_=>none
theorem BB (xs ys:List D) (z:xs.length+ys.length<=sizeLine):orD ny nM (.tup xs) (.tup ys)=some (.tup (xs++ys),false):=by
 cases xs with
 | nil =>
  have:ny (.tup []) (.tup ys)=none:=if_neg (λh=>by cases h.2)
  show(match ny (.tup []) (.tup ys) with|some z=>some z|none=>nM (.tup []) (.tup ys))=_
  rw[this]
  rfl
 | cons a l =>
  have:ny (.tup (a::l)) (.tup ys)=some (.tup (a::l++ys),false):=if_pos ⟨z,rfl⟩
  show(match ny (.tup (a::l)) (.tup ys) with|some z=>some z|none=>nM (.tup (a::l)) (.tup ys))=_
  rw[this]
theorem vW:OpR X (binaryOp .Add) (rD X.K jT):=by
 refine gc (r:=rD X.K (orD ny nM)) (kW z7 BA) λx y H Q q=>?_
 obtain⟨B,dx,dy,d,bb,sB,ix,iy,ee,q⟩:=q
 refine⟨B,dx,dy,d,bb,sB,ix,iy, ?_,q⟩
 cases ix<;>try (cases ee;done)
 cases iy<;>try (cases ee;done)
 rename_i l vs ds h hl l' ws es h' hl'
 simp only[jT]at ee
 split at ee
 ·rename_i hz
  rw[BB _ _ hz]
  exact ee
 ·cases ee
end
section
variable {X:Cx}
@[simp] def F8:List D->Option (D×Bool)
 | [d,.tup [.ty n,.ty m]]=>if Fh d=true then none else if n = "list"/\m = "tuple" then some (.bl (DG d == "list" || DG d == "tuple"),false)else none
 | _=>none
end
@[simp] def jU:D->Option Key
 | .int i=>some (.inl i)
 | .str x=>some (.inr x)
 | _=>none
theorem zX {K:PySem.W.Frag}{B:Hp}{v:V}{d:D}{k:Key}(i:Is K B v d) (e:jU d=some k):v=kV k:=by
 cases i<;>simp only[jU]at e<;>cases e<;>rfl
def cj {κ:Type}[DecidableEq κ]:List κ->List D->κ->Option D
 | k'::ks,d::ds,k=>if k'=k then some d else cj ks ds k
 | _,_,_=>none
theorem vX {κ:Type}[DecidableEq κ] {K:PySem.W.Frag}{B:Hp}(k:κ):∀ {ks:List κ}{vs:List V}{ds:List D},ks.length=vs.length->IsL K B vs ds ->
  (∃v d,ja (ks.zip vs) k=some v/\cj ks ds k=some d/\Is K B v d)∨(ja (ks.zip vs) k=none/\cj ks ds k=none)
 | [],vs,ds,_,_=>.inr ⟨by cases vs<;>rfl,by cases ds<;>rfl⟩
 | k'::ks,[],_,h,_=>by simp at h
 | k'::ks,v::vs,_,h,.cons i is=>by
  rw[List.zip_cons_cons]
  unfold cj
  by_cases e:k'=k
  ·rw[if_pos e]
   exact .inl ⟨v,_,jE (p:=(k',v)) e,rfl,i⟩
  ·rw[if_neg e,jF (p:=(k',v)) e]
   exact vX k (by simpa using h) is
section
variable {X:Cx}{o e i:Expr}{pos:Pos}
@[simp] def vY:D->D->Option (D×Bool)
 | .dk ks vs,y=>(jU y).map λk=>((cj ks vs k).getD .non,false)
 | _,_=>none
theorem ug {apos cpos:Pos}{fo fe:FE}(hu:X.A.units+1<cLine) (ho:JE X o fo) (he:JE X e fe) (m:M1 X o "get" apos e cpos):JE X (.Call (.Attribute o "get" apos) [e] [] cpos) (f2 vY fo fe):=by
 refine PE.to (sO hu ho he m) λσ H Q q=>?_
 obtain⟨B,ρ,d,bb,sB,r,ee,q⟩:=q
 obtain⟨x,ex,ee⟩:=oX ee
 obtain⟨y,ey,ee⟩:=oX ee
 refine⟨B,ρ,x.1,x.2,sB,r,ex,λv H1 N1 x1 i1 ff=>?_⟩
 obtain⟨xd,xb⟩:=x
 cases i1 with
 | @dk a ks vs ds h hl hs =>
  simp only[vY]at ee
  obtain⟨k,hk,ee⟩:=oY ee
  cases ee
  refine⟨a,rfl,.inl ⟨_,.inl (x1.nh _ _ h)⟩,N1,ρ,y.1,y.2,x1.nh,r.mono x1.bn,ey,λv2 H2 N2 x2 i2 _=>?_⟩
  have hv:=zX i2 hk
  subst hv
  refine⟨ja (ks.zip vs) k,.inl ⟨_,k,.inl (x2.nh _ _ (x2.bn _ _ h)),rfl,rfl⟩, ?_⟩
  have hs2:=hs.mono x2.bn
  rcases vX k hl hs2 with ⟨v,d',e1,e2,i3⟩|⟨e1,e2⟩
  ·rw[e1]
   rw[e2]at q
   exact(q.into (x1.trans x2)).one x2.nh i3
  ·rw[e1]
   rw[e2]at q
   exact(q.into (x1.trans x2)).one x2.nh .non
 | _=>simp[vY]at ee
@[simp] def ixK:D->D->Option (D×Bool)
 | .dk ks vs,y=>(jU y).bind λk=>(cj ks vs k).map λd=>(d,false)
 | _,_=>none
@[simp] def inK:D->D->Option (D×Bool)
 | y,.dk ks vs=>(jU y).map λk=>(.bl (cj ks vs k).isSome,false)
 | _,_=>none
@[simp] def Gg:D->D->Option (D×Bool)
 | y,.dk ks vs=>(jU y).map λk=>(.bl (!(cj ks vs k).isSome),false)
 | _,_=>none
end
def cG {κ:Type}[DecidableEq κ] (ks:List κ) (k:κ):List κ:=if k∈ks then ks else ks++[k]
def cL {κ α:Type}[DecidableEq κ] (ks:List κ) (xs:List α) (k:κ) (x:α):List α:=if k∈ks then List.zipWith (λk' x'=>if k'=k then x else x') ks xs else xs++[x]
theorem xi {κ:Type}[DecidableEq κ] (k:κ):∀ {ks:List κ}{vs:List V},ks.length=vs.length->((ks.zip vs).any λkv=>decide (kv.1=k))=decide (k∈ks)
 | [],_,_=>by simp
 | k'::ks,[],h=>by simp at h
 | k'::ks,v::vs,h=>by
  have ih:=xi k (ks:=ks) (vs:=vs) (by simpa using h)
  rw[List.zip_cons_cons,List.any_cons,ih]
  by_cases e:k'=k
  ·simp[e]
  ·have e':¬k=k':=λz=>e z.symm
   simp[e,e']
theorem xj {κ:Type}[DecidableEq κ] (k:κ) (v:V):∀(ks:List κ) (vs:List V),(ks.zip vs).map (λkv=>if kv.1=k then (kv.1,v)else kv)=ks.zip (List.zipWith (λk' x'=>if k'=k then v else x') ks vs)
 | [],_=>by simp
 | _::_,[]=>by simp
 | k'::ks,w::vs=>by
  rw[List.zip_cons_cons,List.map_cons,xj k v ks vs,List.zipWith_cons_cons,List.zip_cons_cons]
  by_cases e:k'=k
  ·simp[e]
  ·simp[e]
theorem xm {κ:Type}[DecidableEq κ] {ks:List κ}{vs:List V}(hl:ks.length=vs.length) (k:κ) (v:V):jb (ks.zip vs) k v=(cG ks k).zip (cL ks vs k v):=by
 unfold jb cG cL
 rw[xi k hl]
 by_cases h:k∈ks
 ·rw[if_pos (decide_eq_true h),if_pos h,if_pos h,xj]
 ·rw[if_neg (by simpa using h),if_neg h,if_neg h,List.zip_append hl]
  rfl
theorem rF {κ α:Type}[DecidableEq κ] {ks:List κ}{xs:List α}(hl:ks.length=xs.length) (k:κ) (x:α):(cG ks k).length=(cL ks xs k x).length:=by
 unfold cG cL
 split<;>simp[hl]
theorem IsL.zipWith {κ:Type}[DecidableEq κ] {K:PySem.W.Frag}{B:Hp}{k:κ}{v:V}{d:D}(i:Is K B v d):∀ {ks:List κ}{vs:List V}{ds:List D},IsL K B vs ds->IsL K B (List.zipWith (λk' x'=>if k'=k then v else x') ks vs) (List.zipWith (λk' x'=>if k'=k then d else x') ks ds)
 | [],_,_,_=>by simpa using IsL.nil
 | _::_,_,_,.nil=>by simpa using IsL.nil
 | k'::ks,_,_,.cons h t=>by
  rw[List.zipWith_cons_cons,List.zipWith_cons_cons]
  refine .cons ?_ (IsL.zipWith i t)
  by_cases e:k'=k
  ·rw[if_pos e,if_pos e];exact i
  ·rw[if_neg e,if_neg e];exact h
theorem IsL.put {κ:Type}[DecidableEq κ] {K:PySem.W.Frag}{B:Hp}{k:κ}{v:V}{d:D}(i:Is K B v d) {ks:List κ}{vs:List V}{ds:List D}(h:IsL K B vs ds):IsL K B (cL ks vs k v) (cL ks ds k d):=by
 unfold cL
 split
 ·exact h.zipWith i
 ·exact h.append (.cons i .nil)
section
variable {K:PySem.W.Frag}{E:Ends}{σ:St}{H:Hp}
def zY (i:Nat):FS:=λρ=>some (.nx (ρ.set i (some (.dt [] [],true))))
theorem StN.newBox {B0 H0 N:Hp}{ρ:Env}(s:StN K B0 H0 N H σ ρ) {p:Addr}{ob:HO}{dd:D}(i:Nat) (hp:H p=none) (hb:∀C,Bx K C ob dd):StN K B0 H0 (upd N p ob) (upd H p ob) (σ.set i (some (.ref p))) (ρ.set i (some (dd,true))):=by
 have x:=Ext.laid (o:=ob) s.ext.nh hp
 have s1:=s.grow x
 have hNp:N p=none:=s.ext.nh.free hp
 have hop:¬own σ ρ p:=λz=>by obtain⟨ws,⟨q,_⟩,_⟩:=s.owned z;rw[hNp]at q;cases q
 have c:aS (cut N (own σ ρ)) (cut (upd N p ob) (λb=>own σ ρ b∨b=p)):=dw λb u e q=>⟨x.bn _ _ e,λz=>z.elim q λz=>by subst z;rw[hNp]at e;cases e⟩
 refine s1.bindOwn aI (s.ext.hh.free hp) (λj e q z=>hop ⟨j,e,q,z⟩) (λj e _ q=>?_) (λj e _ q=>?_) (hb _)
 ·obtain⟨w,h1,h2⟩:=s.sh j e q;exact⟨w,h1,h2.mono c⟩
 ·obtain⟨a',o',h1,h2,_,h4⟩:=s.ow j e q
  exact⟨a',o',h1,x.bn _ _ h2,h4.mono c⟩
theorem zZ {i:Nat}(q:tDS K (zY i) E σ H):xN ze (lO i) E σ H:=by
 obtain⟨B0,H0,ρ,r,⟨N,s⟩,e,p⟩:=q
 cases e
 exact λa ha=>p _ _ ⟨_,s.newBox i ha λ_=>.dt (ks:=[]) (vs:=[]) rfl .nil⟩
end
section
variable {X:Cx}{pos:Pos}{e k:Expr}
theorem BC {i:Nat}{x:Str}{p dp:Pos}(hN:X.N.Nodup) (hi:X.N[i]? = some x:=by rfl) (hx:Loc X.env.scope x:=by first|exact Or.inl rfl|exact Or.inr rfl) (hs:swapsWith (.Dict [] [] dp) (some (.Name x p)) pos.line X.env=pure false:=by rfl)
  (hf:X.fn x=true∨X.env.scope.names.lookup x=some .local:=by first|exact .inl rfl|exact .inr rfl):JS X (.Assign [.Name x p] (.Dict [] [] dp) pos) (zY i):=PS.to (yO hN hi hx zf hs hf) λ_ _ _ q=>zZ q
end
section
variable {prog:Program}{w:World}{A:Around}{E:Value->Shared->Prop}{s:Shared}
abbrev DT (h:Heap) (z TI TO T0:Addr) (f:Bool):Prop:=h.get? z=some { cls:=.type "zip",dict:=none,data:=.fields #[rawInt T0,.bool f,.bool false,.ref TI,.ref TO],slots:=#[] }
end
def ZSt (k1 k2:Bool) (z TI TO i1 i2 l1 l2 S:Addr) (i:Nat) (h:Heap):Prop :=
 IsPair h TI (.ref i1) (.ref i2)/\KIt k1 h i1 l1 i/\KIt k2 h i2 l2 i/\((IsZip h z TI TO .none/\∃a b,IsPair h TO a b) ∨ ∃T0 f oT oO,DT h z TI TO T0 f/\h.get? T0=some oT/\T0∉[z,TI,TO,i1,i2]/\T0≠S/\h.get? TO=some oO)
section
variable {prog:Program}{w:World}{A:Around}{E:Value->Shared->Prop}{s:Shared}{k1 k2:Bool}{z TI TO i1 i2 l1 l2 S:Addr}{j:Nat}{xs ys:Array Value}
theorem ZSt.ty {h:Heap}(st:ZSt k1 k2 z TI TO i1 i2 l1 l2 S j h):∃o,h.get? z=some o/\o.cls=.type "zip":=by
 obtain⟨_,_,_,a4⟩:=st
 rcases a4 with ⟨b1,_⟩|⟨T0,f,oT,oO,b1,_⟩
 ·exact⟨_,b1,rfl⟩
 ·exact⟨_,b1,rfl⟩
end
theorem nN {H:Hp}{a:Addr}{o:HO}(h:H a=none):aS H (upd H a o):=λb u e=>by rw[aG (aT e h)];exact e
@[simp] def fLZ (fa fb:FE):FE:=λρ=>(Gb fa fb ρ).map λds=>(.lst ds,true)
end DL
namespace DL
open PySem PySem.Spec PyProof.Rows
theorem rG:typeLookup (.type "list") "keys" = pure none:=by rw[typeLookup_type,builtinLookup_eq_fast];kernel_rfl
theorem y0 {prog:Program}{w:World}{A:Around}{E:Value->Shared->Prop}{s:Shared}{a:Addr}{xs:Array Value}{k:Nat}{sl:Array (Option Value)}{Q:Option Value->Shared->Prop}
  (hx:s.heap.get? a=some { cls:=.type "list",dict:=none,data:=.seq xs k,slots:=sl }) (hA:A.handled=none)
  (h:∀h' tk,(∀b o,s.heap.get? b=some o->h'.get? b=some o)->Q none { s with heap:=h',toks:=tk }) :
  wpAny (model prog w) A (getAttr? (.ref a) "keys") Q E s:=by
 obtain⟨hp,g,d,tk,os⟩:=s
 have hT:∀tk',(⟨hp,g,d,tk',os⟩:Shared).TypeIs (.ref a) "list":=λ_=>⟨_,hx,rfl⟩
 have f1:=sub_AttributeError
 have f3:=PySem.F.slot_list_getattribute.lookup
 have f4:=PySem.F.slot_list_getattribute.bind (.ref a)
 have f5:=am_list_getattr_none
 unfold getAttr? getAttrBy? getAttrBy
 repeat (any_goals (first|assumption|exact hT _|((with_reducible show wpAny _ _ (call (Value.builtin "list.__getattribute__") _ _) _ _ _);refine call_meets PySem.F.slot_list_getattribute (hT _) am_entry_list_getattribute (PySem.F.args_list_getattribute_2 _ _) (meets_getattribute_miss_list a xs k sl "keys" _ rG (by decide) (by decide)) ⟨hx,hA,λh' tk' e hx'=>?_⟩)|wp_step))
 obtain⟨t',u',he⟩:=hx'.there
 show wpAny _ _ (getattributeRaised _ _ _ _ _ _ _) _ _ _
 unfold getattributeRaised
 repeat (any_goals (first|assumption|wp_step))
 exact h _ _ hx'.of.keeps
end DL
namespace DL
open PySem PySem.Spec PyProof.Rows L2
def gf:List D->Option (List (Key×D))
 | []=>some []
 | .tup [k,v]::r=>(jU k).bind λkk=>(gf r).map λl=>(kk,v)::l
 | _=>none
def rH (a:List Key×List D) (p:Key×D):List Key×List D:=(cG a.1 p.1,cL a.1 a.2 p.1 p.2)
def b9 (l:List (Key×D)):List Key×List D:=l.foldl rH ([],[])
theorem nO (l:List (Key×D)) (p:Key×D):b9 (l++[p])=rH (b9 l) p:=by unfold b9;rw[List.foldl_append];rfl
theorem nQ:∀ {ds:List D}{l:List (Key×D)},gf ds=some l->l.length=ds.length
 | [],l,h=>by simp[gf]at h;subst h;rfl
 | d::r,l,h=>by
  unfold gf at h
  split at h
  ·rename_i h0;cases h0
  ·rename_i k v r' h0
   cases h0
   obtain⟨kk,_,h⟩:=oX h
   obtain⟨l',h1,rfl⟩:=oY h
   simp[nQ h1]
  ·cases h
theorem nR:∀ {ds:List D}{l:List (Key×D)}{i:Nat}{d:D},gf ds=some l->ds[i]? = some d->∃k v kk,d=.tup [k,v]/\jU k=some kk/\l[i]? = some (kk,v)
 | [],l,i,d,_,h=>by simp at h
 | d0::r,l,i,d,h,hi=>by
  unfold gf at h
  split at h
  ·rename_i h0;cases h0
  ·rename_i k v r' h0
   cases h0
   obtain⟨kk,h2,h⟩:=oX h
   obtain⟨l',h1,rfl⟩:=oY h
   cases i with
   | zero=>simp at hi;subst hi;exact⟨k,v,kk,rfl,h2,rfl⟩
   | succ i=>simp only[List.getElem?_cons_succ]at hi ⊢;exact nR h1 hi
  ·cases h
theorem Aa (l:List (Key×D)):∀a:List Key×List D,a.1.length=a.2.length->(l.foldl rH a).1.length=(l.foldl rH a).2.length/\(l.foldl rH a).1.length<=a.1.length+l.length:=by
 induction l with
 | nil=>intro a h;exact⟨h,Nat.le_refl _⟩
 | cons p l ih =>
  intro a h
  have h1:(rH a p).1.length<=a.1.length+1:=by
   show(cG _ _).length<=_
   unfold cG
   split<;>simp
  have:=ih (rH a p) (rF h _ _)
  rw[List.foldl_cons,List.length_cons]
  exact⟨this.1,by omega⟩
theorem y4 (l:List (Key×D)):(b9 l).1.length=(b9 l).2.length/\(b9 l).1.length<=l.length:=by
 have:=Aa l ([],[]) rfl
 exact⟨this.1,Nat.le_trans this.2 (by simp)⟩
theorem pZ:entryFor table "dict.update.loop" = some Builtin.«dict.update.loop»:=entryFor_of_tree (by kernel_rfl)
theorem iQ:plainId "dict.update.loop" = true:=by decide +kernel
section
variable {X:Cx}{pins:List (Addr×Obj)}{σ:St}{B H0:Hp}{A:Around}{R:Result->Shared->Prop}{it l d:Addr}{us:List V}{ds:List D}{kds:List (Key×D)}
theorem vZ (hA:A.handled=none) (nl:l≠it) (nd:d≠it) (hl:SqL X.K B l us) (il:IsL X.K B us ds) (hp:gf ds=some kds)
  (hR:∀Hc N vs s',Inv X pins σ (upd Hc d (.dK ((b9 kds).1.zip vs))) s'->Hc d=none->Ext B N H0 Hc->(b9 kds).1.length=vs.length->IsL X.K N vs (b9 kds).2->R (.ok (.ret .none)) s') :
  ∀(k i:Nat) (tk:Nat) (s:Shared) (Hc N:Hp) (vs:List V),ds.length - i=k->i<=ds.length->Inv X pins σ (upd Hc d (.dK ((b9 (kds.take i)).1.zip vs))) s->Hc d=none->Ext B N H0 Hc->kN X pins (upd Hc d (.dK ((b9 (kds.take i)).1.zip vs))) it ->
   s.heap.IsListIter it l i->(b9 (kds.take i)).1.length=vs.length->IsL X.K N vs (b9 (kds.take i)).2 ->
   codeAny (model X.prog X.w) A (.builtin "dict.update.loop" ⟨[.ref d,.ref it,.int i tk,.none],[]⟩) R s:=by
 have n1:=il.length
 have n2:=nQ hp
 intro k
 induction k with
 | zero =>
  intro i tk s Hc N vs hk hi I hc xt fp st hz hv
  have hin:i=ds.length:=by omega
  have sm:aS B (upd Hc d (.dK ((b9 (kds.take i)).1.zip vs))):=(xt.bn.trans xt.nh).trans (nN hc)
  obtain⟨its,r1,p1,z1⟩:=I.list (sm.seq hl)
  have e1:=r1.length
  refine codeAny_builtin pZ ?_
  rw[Around.under_plainId iQ _]
  show wpAny _ A.in1 (pyNext (.ref it)>>=_) _ _ s
  refine wX (wpAny_pyNext_list_end (A:=A.in1) hA st p1.isList (by simp;omega) λh' hk'=>?_)
  show wpAny _ _ (Builtin.Dict.addKeywords d []>>=_) _ _ _
  refine wX (wY (wY ?_))
  have I1:=rj (t':=s.toks) (h':=h') (ch:=[it]) I (λb hb=>by rw[List.mem_singleton.mp hb];exact fp) λb o hb e=>hk' b o (λq=>hb (by simp[q])) e
  rw[hin,←n2,List.take_length]at I1 hz hv
  exact hR Hc N vs _ I1 hc xt hz hv
 | succ k ih =>
  intro i tk s Hc N vs hk hi I hc xt fp st hz hv
  have hlt:i<ds.length:=by omega
  have sm:aS B (upd Hc d (.dK ((b9 (kds.take i)).1.zip vs))):=(xt.bn.trans xt.nh).trans (nN hc)
  obtain⟨its,r1,p1,z1⟩:=I.list (sm.seq hl)
  obtain⟨kd,vd,kk,ed,ek,el⟩:=nR hp (List.getElem?_eq_getElem hlt)
  obtain⟨x,hx,ix⟩:=il.get (List.getElem?_eq_getElem hlt)
  rw[ed]at ix
  cases ix with
  | @tup T xs _ hT hxs =>
   cases hxs with
   | cons ik r =>
    cases r with
    | cons iv r =>
     cases r
     rename_i xk xv
     have exk:=zX ik ek
     subst exk
     obtain⟨u,hu,ru⟩:=r1.get hx
     cases (show u=Value.ref T from ru)
     refine codeAny_builtin pZ ?_
     rw[Around.under_plainId iQ _]
     show wpAny _ A.in1 (pyNext (.ref it)>>=_) _ _ s
     refine wX (wpAny_pyNext_list_item (A:=A.in1) st p1.isList (x:=.ref T) (by simpa using hu) λh' st' hs=>?_)
     have I1:=rj (t':=s.toks) (h':=h') (ch:=[it]) I (λb hb=>by rw[List.mem_singleton.mp hb];exact fp) λb o hb e=>hs.extBut b o (λq=>hb (by simp[q])) e
     obtain⟨ps,r2,p2,z2⟩:=I1.tuple (bj sm hT)
     obtain⟨uk,uv,rfl,rk,rv⟩:=r2.two
     have hpr:Shared.TypeIs { s with heap:=h' } (.ref T) "tuple":=by obtain⟨o,e,c,_⟩:=p2;exact⟨o,e,c⟩
     dsimp only
     refine wX (wpAny_holding (wX (wpAny_tryCatch ?_)))
     unfold Builtin.Dict.pairItems
     refine wX (wpAny_typeOf hpr ?_)
     obtain⟨oT,eT,cT,nT,dT⟩:=p2
     rw[if_pos (by decide)]
     refine wX (wpAny_seqItems eT dT (wY ?_))
     show wpAny _ _ (holding [uk,uv] (dictSet d uk uv)) _ _ _
     obtain⟨zz,hsm,vs0,rel,dd⟩:=Ci I1.hok (a:=d) aI
     have hz0:vs0.length<=sizeLine:=by rw[←rel.length];exact zz
     have nk:((b9 (kds.take i)).1.zip vs).length<sizeLine:=by
      have a1:=(y4 (kds.take i)).2
      have a2:=z1
      rw[List.length_take]at a1
      rw[List.length_zip]
      omega
     refine wpAny_holding (wpAny_dictSet_pairs (hsz:=hz0) (wE rk) dd λh2 dd2 hs2=>?_)
     have hl2:(jb ((b9 (kds.take i)).1.zip vs) kk xv).length<=sizeLine:=by have:=hW ((b9 (kds.take i)).1.zip vs) kk xv;omega
     have he2:∃q,h2.get? d=some q:=let ⟨q,_,_,hq,_⟩:=dd2;⟨q,hq⟩
     have I2:=qR (t':=s.toks+1) I1 (a:=d) (ob:=.dK (jb ((b9 (kds.take i)).1.zip vs) kk xv)) (by rw[aI];exact True.intro) hs2 he2 (zb hl2 hsm (rel.put kk rv) dd2)
     rw[AD,xm hz]at I2
     have et:kds.take (i+1)=kds.take i++[(kk,vd)]:=by rw[List.take_add_one,el];rfl
     have ed1:(b9 (kds.take (i+1))).1=cG (b9 (kds.take i)).1 kk:=by rw[et,nO];rfl
     have ed2:(b9 (kds.take (i+1))).2=cL (b9 (kds.take i)).1 (b9 (kds.take i)).2 kk vd:=by rw[et,nO];rfl
     refine wY ⟨plainId_quiet iQ _, ?_⟩
     refine ih (i+1) 0 _ Hc N (cL (b9 (kds.take i)).1 vs kk xv) (by omega) hlt (by rw[ed1];exact I2) hc xt ?_ ?_ ?_ ?_
     ·obtain⟨f0,f1⟩:=fp
      refine⟨?_,f1⟩
      rw[aG nd.symm]at f0 ⊢
      exact f0
     ·exact st'.at λo e=>(hs2.2 it nd.symm).trans e
     ·rw[ed1];exact rF hz _ _
     ·rw[ed2]
      exact hv.put (iv.mono xt.bn)
end
@[simp] def gJ:List D->Option (D×Bool)
 | [.lst ds]=>(gf ds).map λkds=>(.dk (b9 kds).1 (b9 kds).2,false)
 | _=>none
theorem DU:bootBuiltins "dict" = some (.type "dict"):=by decide +kernel
section
variable {X:Cx}
theorem DV (hcal:X.calm=true):cA X (.type "dict") (rDA X.K gJ):=by
 intro pins s σ H xs us Q I r h
 obtain⟨B,dds,d0,bb,sB,i0,ee,q⟩:=h
 cases i0 with
 | nil=>simp[gJ]at ee
 | cons i1 i2 =>
  cases i2 with
  | cons _ _=>cases i1<;>simp[gJ]at ee
  | nil =>
   cases i1<;>try (simp[gJ]at ee;done)
   rename_i l ws ds hl il
   simp only[gJ]at ee
   obtain⟨kds,hp,ee⟩:=oY ee
   cases ee
   obtain⟨u,rfl,rx⟩:=jd r
   cases rx
   have hA:X.A.handled=none:=I.ok.hd hcal
   refine callType_codes (Q₁:=λobj s₁=>obj=.ref s.heap.objs.size/\s₁={ s with heap:=s.heap.push { cls:=.type "dict",data:=.dict #[] } }) PySem.F.kt_called_dict (PySem.F.kt_typeCall_dict_1 _) PySem.F.entry_dict_init (kt_code_dict_new _ ⟨rfl,rfl⟩) ?_
   rintro obj s₁ ⟨rfl,rfl⟩
   have I1:Inv X pins σ (upd H s.heap.objs.size (.dK [])) { s with heap:=s.heap.push { cls:=.type "dict",data:=.dict #[] } }:=I.laid (t':=s.toks) (λb o e=>Heap.get?_push_of_some _ e) (Nat.le_refl _) (zc s.heap I.big)
   have hc0:H s.heap.objs.size=none:=I.fresh
   have hT:Shared.TypeIs { s with heap:=s.heap.push { cls:=.type "dict",data:=.dict #[] } } (.ref s.heap.objs.size) "dict":=⟨_,Heap.get?_push_size _ rfl,rfl⟩
   refine⟨hT,PySem.F.args_dict_init_2 _ _, ?_⟩
   unfold Builtin.«dict.__init__»
   refine wX ?_
   unfold Builtin.Dict.selfAndRest
   refine wX (wpAny_notOrdered_dict hT ?_)
   show wpAny _ _ (pure (s.heap.objs.size,[Value.ref l])) _ _ _
   refine wY ?_
   show wpAny _ _ (Builtin.Dict.updateFrom "dict.__init__" s.heap.objs.size (.ref l) [] .none) _ _ _
   unfold Builtin.Dict.updateFrom
   have sm:aS B (upd H s.heap.objs.size (.dK [])):=sB.trans (nN hc0)
   obtain⟨its,r1,p1,z1⟩:=I1.list (sm.seq hl)
   have pl:=p1.isList
   obtain⟨ol,nl,eol,cl,ddl,dl⟩:=p1
   have hTl:Shared.TypeIs { s with heap:=s.heap.push { cls:=.type "dict",data:=.dict #[] } } (.ref l) "list":=⟨ol,eol,cl⟩
   refine wX (wpAny_typeOf hTl ?_)
   rw[if_pos (by decide)]
   obtain⟨oc,od,oo,os⟩:=ol
   simp only at cl ddl dl
   subst cl ddl dl
   refine wX (y0 eol (by exact hA) λh' tk hk=>?_)
   dsimp only[Option.isNone_none]
   rw[if_pos rfl]
   have I2:Inv X pins σ (upd H s.heap.objs.size (.dK [])) { s with heap:=h',toks:=tk }:=I1.kept (t':=tk) hk
   refine wX (wpAny_rule ?_)
   refine wX (wpAny_pyIter_list (items:=its.toArray) ⟨_,hk _ _ eol,rfl,nl,rfl⟩ ?_)
   have I3:Inv X pins σ (upd H s.heap.objs.size (.dK [])) { s with heap:=h'.push { cls:=.type "list_iterator",data:=.fields #[.ref l,.int 0 0] },toks:=tk }:=I2.kept (t':=tk) λb o e=>Heap.get?_push_of_some _ e
   have ld:s.heap.objs.size<h'.objs.size:=Heap.lt_size (hk _ _ (Heap.get?_push_size _ rfl))
   have ll:l<h'.objs.size:=Heap.lt_size (hk _ _ eol)
   refine wY ⟨plainId_quiet iQ _,vZ (A:=X.A.in1) (B:=B) (H0:=H) (l:=l) (d:=s.heap.objs.size) (it:=h'.objs.size) hA (Nat.ne_of_lt ll) (Nat.ne_of_lt ld) hl il hp (λHc N vs s' I' hc' xt hz hv=>?_) _ 0 0 _ H B [] rfl (Nat.zero_le _) I3 hc0 (Ext.refl sB) (I2.fpOk (Nat.le_refl _) (I2.hok.fresh (Nat.le_refl _))) ⟨_,Heap.get?_push_size _ rfl,rfl,rfl⟩ rfl .nil⟩
   refine⟨rfl,.ref s.heap.objs.size,_,I',rfl, ?_⟩
   have x3:=xt.trans (Ext.laid (o:=.dK ((b9 kds).1.zip vs)) xt.nh hc')
   exact q _ _ _ x3 (.dk aI hz (hv.mono (Ext.laid (o:=.dK ((b9 kds).1.zip vs)) xt.nh hc').bn)) (by simp)
end
@[simp] def Gw:FE:=λ_=>none
@[simp] def Gx:FA:=λ_=>none
theorem hu1 {n:Nat}(h:n+40<cLine):n+1<cLine:=by omega
@[simp] def Gh:D->D->Option (D×Bool)
 | .lst ds,.int k=>if 0<=k/\ds.length*k.toNat<=1000/\k<=1000 then some (.lst (List.replicate k.toNat ds).flatten,true)else none
 | _,_=>none
@[simp] def G9 (fa fb:FE):FE:=λρ=>(fa ρ).bind λx=>if x.2=true then (fb ρ).bind λy=>Gh x.1 y.1 else none
def fS:List D->Option (List Key)
 | []=>some []
 | d::ds=>(jU d).bind λk=>(fS ds).map (k :: ·)
theorem wa {K:PySem.W.Frag}{B:Hp}:∀ {vs:List V}{ds:List D}{ks:List Key},IsL K B vs ds->fS ds=some ks->vs=ks.map kV
 | _,_,ks,.nil,e=>by simp[fS]at e;subst e;rfl
 | _,_,ks,.cons i is,e=>by
  simp only[fS]at e
  obtain⟨k,h1,e⟩:=oX e
  obtain⟨r,h2,rfl⟩:=oY e
  rw[zX i h1,wa is h2]
  rfl
@[simp] def Ab (fo:FE) (fa:FA):FE:=λρ=>(fo ρ).bind λx=>(fa ρ).bind λds=>match x.1 with
 | .dt kss vs=>if ds.length<=sizeLine then (fS ds).map λk=>((cj kss vs k).getD .non,false)else none
 | _=>none
section
variable {X:Cx}{o:Expr}{es:List Expr}{pos:Pos}
theorem Ac {apos cpos tpos:Pos}{x1:Nat}{fo:FE}{fa:FA}(hu:X.A.units+1<cLine) (ho:JE X o fo) (ha:JA X es fa) (m:M1 X o "get" apos (.Tuple es x1 tpos) cpos):JE X (.Call (.Attribute o "get" apos) [.Tuple es x1 tpos] [] cpos) (Ab fo fa):=by
 refine PE.to (sO hu ho (vi ha) m) λσ H Q q=>?_
 obtain⟨B,ρ,d,bb,sB,r,ee,q⟩:=q
 obtain⟨x,ex,ee⟩:=oX ee
 obtain⟨ds,ey,ee⟩:=oX ee
 refine⟨B,ρ,x.1,x.2,sB,r,ex,λv H1 N1 x1 i1 ff=>?_⟩
 obtain⟨xd,xb⟩:=x
 cases i1 with
 | @dt a ks vs dvs h hl hs =>
  simp only at ee
  split at ee
  ·rename_i hz
   obtain⟨k,hk,ee⟩:=oY ee
   cases ee
   refine⟨a,rfl,.inr ⟨_,.inl (x1.nh _ _ h)⟩,N1,ρ,ds,x1.nh,r.mono x1.bn,ey,λus H2 N2 x2 i2=>?_⟩
   have hv:=wa i2 hk
   have hul:us.length<=sizeLine:=by rw[i2.length];exact hz
   refine⟨hul,λp hp=>?_⟩
   have x3:=Ext.laid (o:=.tup us) x2.nh hp
   have ha2:N2 a=some (.dT (ks.zip vs)):=x2.bn _ _ h
   refine⟨ja (ks.zip vs) k,.inr ⟨_,k,p,.inl (x3.nh _ _ (x3.bn _ _ ha2)),rfl,by rw[aI,hv],rfl⟩, ?_⟩
   have hs2:=(hs.mono x2.bn).mono x3.bn
   rcases vX k hl hs2 with ⟨v,d',e1,e2,i3⟩|⟨e1,e2⟩
   ·rw[e1]
    rw[e2]at q
    exact(q.into ((x1.trans x2).trans x3)).one x3.nh i3
   ·rw[e1]
    rw[e2]at q
    exact(q.into ((x1.trans x2).trans x3)).one x3.nh .non
  ·cases ee
 | _=>simp at ee
end
section
variable {K:PySem.W.Frag}{E:Ends}{σ:St}{H:Hp}
def qc (i:Nat) (fk:FA) (fv:FE):FS:=λρ=>match ρ[i]? with
 | some (some (.dt ks vs,true))=>(fv ρ).bind λv=>(fk ρ).bind λkd=>(fS kd).bind λkk=>if bo v.1=true/\ks.length<sizeLine/\kd.length<=sizeLine then some (.nx (ρ.set i (some (.dt (cG ks kk) (cL ks vs kk v.1),true))))else none
 | _=>none
theorem Ad {i:Nat}{fk:FA}{fv:FE}(q:tDS K (qc i fk fv) E σ H):Cj (CP i) (EJ (tDA K fk)) (tD K fv) E σ H:=by
 obtain⟨B0,H0,ρ,r,⟨N,s⟩,e,p⟩:=q
 unfold qc at e
 split at e
 ·rename_i ks ds ei
  obtain⟨v,ev,e⟩:=oX e
  obtain⟨kd,ek,e⟩:=oX e
  obtain⟨kk,hk,e⟩:=oX e
  split at e
  ·rename_i hx
   cases e
   refine⟨N,ρ,v.1,v.2,s.ext.nh,s.rep,ev,λv1 H1 N1 x1 i1 _=>?_⟩
   have s1:=s.grow x1
   obtain⟨a,o,h1,h2,h3,h4⟩:=s1.ow i _ ei
   refine⟨.ref a,h1,N1,ρ,kd,s1.ext.nh,s1.rep,ek,λus H2 N2 x2 i2=>?_⟩
   have s2:=s1.grow x2
   have hv:=wa i2 hk
   refine⟨by rw[i2.length];exact hx.2.2,λpp hp=>?_⟩
   have x3:=Ext.laid (o:=.tup us) s2.ext.nh hp
   have s3:=s2.grow x3
   obtain⟨a',o',k1,k2,k3,k4⟩:=s3.ow i _ ei
   rw[h1]at k1
   cases k1
   cases k4 with
   | @dt ks vs ds hl h5 =>
    refine⟨a,_,rfl,.inr ⟨_,kk,pp,s3.ext.nh _ _ k2,rfl,by rw[aI,hv], ?_,rfl⟩, ?_⟩
    ·rw[List.length_zip];omega
    ·rw[xm hl]
     exact p σ _ ⟨_,s3.writeB ei h1 (.dt (rF hl _ _) (h5.put (s3.flat ((i1.mono x2.bn).mono x3.bn) hx.1)))⟩
  ·cases e
 ·cases e
end
section
variable {X:Cx}{pos:Pos}{e:Expr}{es:List Expr}
theorem BD {i:Nat}{y:Str}{py pt tpos:Pos}{x1:Nat}{fk:FA}{fv:FE}(hu:X.A.units+1<cLine) (hv:JE X e fv) (hk:JA X es fk) (hN:X.N[i]? = some y:=by rfl) (hvis:Vis X.env.scope y:=by first|exact Or.inl rfl|exact Or.inr (Or.inl rfl)|exact Or.inr (Or.inr rfl)) (hd:(y == ("__debug__" : Str))=false:=by decide)
  (hcd:(y == ("__classdict__" : Str))=false:=by decide) (hs:swapsWith e (some (.Subscript (.Name y py) (.Tuple es x1 tpos) pt)) pos.line X.env=pure false:=by rfl):JS X (.Assign [.Subscript (.Name y py) (.Tuple es x1 tpos) pt] e pos) (qc i fk fv) :=
 PS.to (Ba hu (mQ hN hvis hd hcd) (vi hk) hv hs) λ_ _ _ q=>Ad q
end
end DL
namespace DL
open PySem L2
theorem fB {tg:FG}{g:FS}(I:Nat->Env->Prop) (ds:List D) (ρ0:Env) (h0:I 0 ρ0)
  (step:∀i d ρ,ds[i]? = some d->I i ρ->∃ρ1 ρ',tg d ρ=some ρ1/\(g ρ1=some (.nx ρ')∨g ρ1=some (.ct ρ'))/\I (i+1) ρ') :
  ∃ρ',gq tg g ds ρ0=some (.nx ρ')/\I ds.length ρ':=by
 have key:∀(es:List D) (i:Nat) (ρ:Env),ds.drop i=es->i+es.length=ds.length->I i ρ->∃ρ',gq tg g es ρ=some (.nx ρ')/\I ds.length ρ':=by
  intro es
  induction es with
  | nil=>intro i ρ e hl h;refine⟨ρ,by rw[zl], ?_⟩;rw[←hl];exact h
  | cons d es ih =>
   intro i ρ e hl h
   have hd:ds[i]? = some d:=by
    have:(ds.drop i)[0]? = some d:=by rw[e];rfl
    rwa [List.getElem?_drop,Nat.add_zero]at this
   obtain⟨ρ1,ρ',h1,h2,h3⟩:=step i d ρ hd h
   have he:ds.drop (i+1)=es:=by rw[←List.drop_drop,e];rfl
   obtain⟨ρ2,k1,k2⟩:=ih (i+1) ρ' he (by simp at hl;omega) h3
   refine⟨ρ2, ?_,k2⟩
   rw[ye,h1]
   rcases h2 with h2|h2<;>simp only[Option.bind_some,h2]<;>exact k1
 exact key ds 0 ρ0 (by simp) (by simp) h0
theorem io {tg:FG}{g:FS}(n:Nat) (I:Nat->Env->Prop) (ρ0:Env) (h0:I 0 ρ0)
  (step:∀(i:Nat) ρ,i<n->I i ρ->∃ρ1 ρ',tg (.int (i:Int)) ρ=some ρ1/\(g ρ1=some (.nx ρ')∨g ρ1=some (.ct ρ'))/\I (i+1) ρ') :
  ∃ρ',gq tg g (eJ 0 n) ρ0=some (.nx ρ')/\I n ρ':=by
 have hl:(eJ 0 n).length=n:=by simp[eJ]
 obtain⟨ρ',h1,h2⟩:=fB (tg:=tg) (g:=g) I (eJ 0 n) ρ0 h0 λi d ρ hd h=>by
  unfold eJ at hd
  rw[List.getElem?_map]at hd
  obtain⟨k,hk,hd⟩:=oY hd
  obtain⟨hlt,hk⟩:=List.getElem?_eq_some_iff.mp hk
  rw[List.length_range]at hlt
  rw[List.getElem_range]at hk
  subst hk
  rw[Int.zero_add]at hd
  subst hd
  exact step i ρ hlt h
 rw[hl]at h2
 exact⟨ρ',h1,h2⟩
theorem iq {α:Type}{xs:List α}{j:Nat}(h:j<xs.length):atI xs (j:Int)=some xs[j]:=AX (by simp[h])
theorem rJ {α:Type}{xs:List α}{i:Int}(h0:0<=i) (h:i.toNat<xs.length):atI xs i=some xs[i.toNat]:=by
 have:=iq h
 rwa [Int.toNat_of_nonneg h0]at this
@[simp] theorem CD (xs:List Int):aV (xs.map D.int)=true:=by
 induction xs with
 | nil=>simp
 | cons x xs ih=>simp[ih]
@[simp] theorem AC (n:Nat) (xs:List Int):(xs.map D.int).all (aj n)=true:=by
 induction xs with
 | nil=>simp
 | cons x xs ih=>simpa using ih
@[simp] theorem BE (xs:List Int):(xs.map D.int).all eO=true:=by
 induction xs with
 | nil=>simp
 | cons x xs ih=>simpa using ih
theorem y6 (n:Nat):eJ 0 n=((List.range n).map λ(k:Nat)=>(k:Int)).map D.int:=by
 unfold eJ
 rw[List.map_map]
 apply List.map_congr_left
 intro k _
 simp
mutual
def jV:D->D->Bool
 | .non,.non=>true
 | .bl a,.bl b=>a == b
 | .int a,.int b=>decide (a=b)
 | .str a,.str b=>decide (a=b)
 | .ty a,.ty b=>decide (a=b)
 | .tup xs,.tup ys=>nS xs ys
 | .lst xs,.lst ys=>nS xs ys
 | _,_=>false
def nS:List D->List D->Bool
 | [],[]=>true
 | x::xs,y::ys=>jV x y && nS xs ys
 | _,_=>false
end
mutual
theorem xn:∀ {x y:D},jV x y=true->x=y
 | .non,.non,_=>rfl
 | .bl a,.bl b,h=>by simp[jV]at h;rw[h]
 | .int a,.int b,h=>by simp[jV]at h;rw[h]
 | .str a,.str b,h=>by simp[jV]at h;rw[h]
 | .ty a,.ty b,h=>by simp[jV]at h;rw[h]
 | .tup xs,.tup ys,h=>by rw[jV]at h;rw[nU h]
 | .lst xs,.lst ys,h=>by rw[jV]at h;rw[nU h]
theorem nU:∀ {xs ys:List D},nS xs ys=true->xs=ys
 | [],[],_=>rfl
 | x::xs,y::ys,h=>by
  rw[nS,Bool.and_eq_true]at h
  rw[xn h.1,nU h.2]
end
def isR (r:Option (D×Bool)) (d:D) (b:Bool):Bool:=match r with
 | some (e,c)=>jV e d && c == b
 | none=>false
theorem bz {r:Option (D×Bool)}{d:D}{b:Bool}(h:isR r d b=true):r=some (d,b):=by
 unfold isR at h
 split at h
 ·rw[Bool.and_eq_true]at h
  rw[xn h.1,eq_of_beq h.2]
 ·cases h
section
variable {f:FE}{c:FT}{g g' h:FS}{ρ ρ':Env}{i:Nat}{d:D}{b:Bool}{r:Option Res}{ds:List D}
theorem aB {n k:Nat}(hl:ds.length=n) (e:g (ds.map (λd=>some (d,false))++List.replicate k none)=some (.rt d b)):bp g n k ds=some (d,b):=by
 unfold bp;rw[if_pos hl,e]
theorem qd (n:bo d=true):setE ρ i d b=ρ.set i (some (d,false)):=by unfold setE;rw[if_pos n]
theorem uh (n:aV ds=true):setE ρ i (.lst ds) true=ρ.set i (some (.lst ds,true)):=by
 unfold setE
 rw[if_neg (by simp),if_pos ⟨rfl,by simpa using n⟩]
theorem CF (e:f ρ=some (d,b)) (k:h (setE ρ i d b)=r):aD (aZ i f) h ρ=r:=by simp[e];exact k
theorem aU (e:f ρ=some (d,b)) (n:bo d=true) (k:h (ρ.set i (some (d,false)))=r):aD (aZ i f) h ρ=r:=CF e (by rw[qd n];exact k)
theorem cb (e:f ρ=some (.lst ds,true)) (n:aV ds=true) (k:h (ρ.set i (some (.lst ds,true)))=r):aD (aZ i f) h ρ=r:=CF e (by rw[uh n];exact k)
theorem cM (e:g ρ=some (.nx ρ')) (k:h ρ'=r):aD g h ρ=r:=by unfold aD;rw[e];exact k
theorem Gi (e:g ρ=some (.rt d b)):aD g h ρ=some (.rt d b):=by unfold aD;rw[e]
theorem Gj (e:g ρ=some (.ct ρ')):aD g h ρ=some (.ct ρ'):=by unfold aD;rw[e]
theorem nV (e:c ρ=some true) (k:g ρ=r):gIf c g g' ρ=r:=by unfold gIf;rw[e];exact k
theorem lw (e:c ρ=some false) (k:g' ρ=r):gIf c g g' ρ=r:=by unfold gIf;rw[e];exact k
theorem da (e:c ρ=some true) (k:g ρ=some (.rt d b)):aD (gIf c g g') h ρ=some (.rt d b):=Gi (nV e k)
theorem bD (e:c ρ=some false) (k:h ρ=r):aD (gIf c g bU) h ρ=r:=cM (lw e rfl) k
theorem aR (e:f ρ=some (d,b)):bC f ρ=some (.rt d b):=by simp[e]
theorem eV (e:ρ[i]? = some (some (d,b))) (hb:Ck d=false:=by rfl):gT i ρ=some (.rt d b):=by simp only[gT,e,hb];simp
theorem Ae (e:f ρ=some (d,b)) (n:bo d=true):aZ i f ρ=some (.nx (ρ.set i (some (d,false)))):=by
 show(f ρ).map _=_
 rw[e,Option.map_some,qd n]
theorem mN (e:f ρ=some (.lst ds,true)) (n:aV ds=true):aZ i f ρ=some (.nx (ρ.set i (some (.lst ds,true)))):=by
 show(f ρ).map _=_
 rw[e,Option.map_some,uh n]
theorem gg (e:ρ[i]? = some (some (.lst ds,true))) (ef:f ρ=some (d,b)) (n:bo d=true) (l:ds.length<sizeLine):gE i f ρ=some (.nx (ρ.set i (some (.lst (ds++[d]),true)))):=by
 simp[e,ef,n,l]
theorem Af (e:ρ[i]? = some (some (.lst ds,true))) (ef:f ρ=some (d,b)) (n:bo d=true) (l:ds.length<sizeLine) (k:h (ρ.set i (some (.lst (ds++[d]),true)))=r):aD (gE i f) h ρ=r:=cM (gg e ef n l) k
theorem ir {fi:FA}{tg:FG}{ds:List D}(e:fi ρ=some ds) (k:gq tg g ds ρ=some (.nx ρ')):jg fi tg g ρ=some (.nx ρ'):=by unfold jg;rw[e];exact k
theorem iR {fi:FA}{tg:FG}{ds:List D}(e:fi (sQ ρ)=some ds) (k:gq tg g ds ρ=some (.nx ρ')):mE fi tg g ρ=some (.nx ρ'):=by unfold mE;rw[e];exact k
theorem fj {f:FE}{j:Nat}(e:f ρ=some (.int j,b)) (hj:j<=1000):cJ f ρ=some (eJ 0 j):=by
 unfold cJ;rw[e];simp only[];rw[if_pos (by omega)];simp
theorem aK {x:Bool}(e:f ρ=some (.bl x,b)):tOf f ρ=some x:=by unfold tOf;rw[e]
theorem ai {F:List D->Option (D×Bool)}{fa:FA}{x:Option (D×Bool)}(e:fa ρ=some ds) (k:F ds=x):fA F fa ρ=x:=by unfold fA;rw[e,Option.bind_some];exact k
theorem Ag {f1 g1:D->D->Option (D×Bool)}{fa fb fc:FE}{x y z:D}{b1 b2 b3 b4 p q:Bool}(ea:fa ρ=some (x,b1)) (eb:fb ρ=some (y,b2)) (ec:fc ρ=some (z,b3)) (e1:f1 x y=some (.bl p,b4)) (e2:p=true->g1 y z=some (.bl q,false)):kR f1 g1 fa fb fc ρ=some (.bl (p && q),false):=by
 unfold kR
 rw[ea,eb,ec]
 simp only[Option.bind_some,e1]
 cases p
 ·rfl
 ·exact e2 rfl
theorem lx {f1 f2:FE}{p q b1:Bool}(e1:f1 ρ=some (.bl p,b1)) (e2:p=true->f2 ρ=some (.bl q,false)):nj f1 f2 ρ=some (.bl (p && q),false):=by
 unfold nj
 rw[e1]
 cases p
 ·rfl
 ·exact e2 rfl
theorem CG {f1 f2:FE}{p q b1:Bool}(e1:f1 ρ=some (.bl p,b1)) (e2:p=false->f2 ρ=some (.bl q,false)):fOr f1 f2 ρ=some (.bl (p || q),false):=by
 unfold fOr
 rw[e1]
 cases p
 ·exact e2 rfl
 ·rfl
theorem ao {fr:FA}{xs:List D}(e1:f ρ=some (d,b)) (e2:fr ρ=some xs):ae f fr ρ=some (d::xs):=by
 unfold ae;rw[e1,Option.bind_some,e2,Option.bind_some]
theorem aA {op:D->D->Option (D×Bool)}{fa fb:FE}{x y:D}{b1 b2:Bool}{z:Option (D×Bool)}(e1:fa ρ=some (x,b1)) (e2:fb ρ=some (y,b2)) (e3:op x y=z):f2 op fa fb ρ=z:=by
 unfold f2;rw[e1,Option.bind_some,e2,Option.bind_some];exact e3
theorem gK {c1 c2:FT}{p q:Bool}(e1:c1 ρ=some p) (e2:p=true->c2 ρ=some q):ft c1 c2 ρ=some (p && q):=by
 unfold ft
 rw[e1]
 cases p
 ·rfl
 ·exact e2 rfl
theorem ly {c1 c2:FT}{p q:Bool}(e1:c1 ρ=some p) (e2:p=false->c2 ρ=some q):jc c1 c2 ρ=some (p || q):=by
 unfold jc
 rw[e1]
 cases p
 ·exact e2 rfl
 ·rfl
theorem rK {c1:FT}{p:Bool}(e1:c1 ρ=some p):jf c1 ρ=some (!p):=by
 unfold jf;rw[e1];rfl
end
theorem lt1 (a c:Nat):decide ([a]<[c])=decide (a<c):=by
 congr 1
 rw[List.cons_lt_cons_iff]
 simp
@[simp] theorem F9 (a c:Nat):dLe (.str ⟨#[a]⟩) (.str ⟨#[c]⟩)=some (.bl (decide (a<=c)),false):=by
 unfold dLe
 show some (D.bl (!decide ([c]<[a])),false)=_
 rw[lt1]
 congr 3
 by_cases h:c<a
 ·rw[decide_eq_true h,decide_eq_false (by omega)];rfl
 ·rw[decide_eq_false h,decide_eq_true (by omega)];rfl
theorem b7 {n:Nat}(h:n<=100000):n<sizeLine:=Nat.lt_of_le_of_lt h (by decide)
theorem bv {n:Nat}(h:n<=100000):n<=sizeLine:=Nat.le_of_lt (b7 h)
theorem jW {α:Type}{fi:FA}{nT:Nat}{cap:List Nat}{tg:FG}{c:FT}{fe:FE}{ρ:DL.Env}(l:List α) (g:α->D) (p:α->Bool) (h:α->D) (e:fi ρ=some (l.map g)) (hl:l.length<=100000)
  (k:∀x∈l,∃ρ1,tg (g x) (bW nT cap ρ)=some ρ1/\c ρ1=some (p x)/\(p x=true->∃b,fe ρ1=some (h x,b))):cz fi nT cap tg c fe ρ=some (.lst ((l.filter p).map h),true):=by
 have key:∀l':List α,(∀x∈l',x∈l)->fu tg c fe (bW nT cap ρ) (l'.map g)=some ((l'.filter p).map h):=by
  intro l'
  induction l' with
  | nil=>intro _;simp
  | cons x l' ih =>
   intro hm
   obtain⟨ρ1,h1,h2,h3⟩:=k x (hm x mX)
   have ih:=ih λy hy=>hm y (mZ _ hy)
   rw[List.map_cons,vx,h1,Option.bind_some,h2,Option.bind_some]
   cases hp:p x with
   | false=>simp[hp,ih]
   | true =>
    obtain⟨b,h4⟩:=h3 hp
    simp[hp,ih,h4]
 unfold cz
 rw[e,Option.bind_some,if_pos (bv (by simpa using hl)),key l λ_ h=>h,Option.map_some]
theorem xo {α:Type}{fi:FA}{nT:Nat}{cap:List Nat}{tg:FG}{fe:FE}{ρ:DL.Env}(l:List α) (g:α->D) (h:α->D) (e:fi ρ=some (l.map g)) (hl:l.length<=100000)
  (k:∀x∈l,∃ρ1,tg (g x) (bW nT cap ρ)=some ρ1/\∃b,fe ρ1=some (h x,b)):cz fi nT cap tg lQ fe ρ=some (.lst (l.map h),true):=by
 have:=jW (c:=lQ) (fe:=fe) l g (λ_=>true) h e hl λx hx=>by
  obtain⟨ρ1,h1,h2⟩:=k x hx
  exact⟨ρ1,h1,rfl,λ_=>h2⟩
 rw[List.filter_eq_self.mpr λ_ _=>rfl]at this
 exact this
@[simp] theorem Fu {α:Type}(f:α->Bool) (l:List α):vE (l.map λx=>.bl (f x))=some (l.map f):=by
 induction l with
 | nil=>rfl
 | cons x l ih=>simp[ih]
theorem vp {z:Str}{i:Int}(h0:0<=i) (h:i.toNat<z.cps.size) (hz:z.length<=100000):ixD (.str z) (.int i)=some (.str ⟨#[z.cps.toList.getD i.toNat 0]⟩,false):=by
 have hh:i.toNat<z.cps.toList.length:=by simpa using h
 simp only[ixD]
 rw[if_pos (bv hz),rJ h0 hh]
 simp[List.getD,h]
theorem rL {ds:List D}{i:Int}(h0:0<=i) (h:i.toNat<ds.length):ixD (.lst ds) (.int i)=some (ds.getD i.toNat .non,false):=by
 simp only[ixD]
 rw[rJ h0 h]
 simp[List.getD,h]
theorem yW {ds:List D}{i:Int}(h0:0<=i) (h:i.toNat<ds.length):ixD (.tup ds) (.int i)=some (ds.getD i.toNat .non,false):=by
 simp only[ixD]
 rw[rJ h0 h]
 simp[List.getD,h]
theorem xp {xs:List Int}{i:Int}(h0:0<=i) (h:i.toNat<xs.length):ixD (.lst (xs.map .int)) (.int i)=some (.int (xs.getD i.toNat 0),false):=by
 rw[rL h0 (by simpa using h)]
 simp[List.getD,h]
theorem mod_lt {x m:Int}(hm:0<m):0<=x % m/\x % m<m:=⟨Int.emod_nonneg _ (by omega),Int.emod_lt_of_pos _ hm⟩
theorem BF {ds:List D}:cH [.lst ds]=some (.int ds.length,false):=rfl
theorem rM {i j:Int}:dEq (.int i) (.int j)=some (.bl (decide (i=j)),false):=by simp
theorem ui {n d:Nat}{v:Int}(h:0<=v):HT.sIx n d (some v)=min v.toNat n:=by
 show(if v<0 then (v+(n:Int)).toNat else min v.toNat n)=_
 rw[if_neg (by omega)]
end DL
namespace Lw
open PySem DL
def fT:List (PySem.Str×D):=[(("root" : Str),(.tup [(.str "office"),(.str "matters"),(.str "further"),(.str "rule")])),(("named" : Str),(.tup [(.str "day"),(.str "office"),(.str "person")])),(("chosen" : Str),(.tup [(.str "day"),(.str "by"),(.str "office"),(.str "person"),(.str "since")])),(("heir" : Str),(.tup [(.str "day"),(.str "by"),(.str "office"),(.str "person")])),(("death" : Str),(.tup [(.str "day"),(.str "person")])),(("lost" : Str),(.tup [(.str "day"),(.str "person")])),(("found" : Str),(.tup [(.str "day"),(.str "person")])),(("leave" : Str),(.tup [(.str "day"),(.str "by"),(.str "person"),(.str "matters"),(.str "stretch"),(.str "further")])),(("paper" : Str),(.tup [(.str "day"),(.str "by"),(.str "matters"),(.str "stretch"),(.str "whom"),(.str "pieces")])),(("like" : Str),(.tup [(.str "day"),(.str "by"),(.str "matters"),(.str "stretch"),(.str "whom"),(.str "of"),(.str "changes")])),(("copy" : Str),(.tup [(.str "day"),(.str "by"),(.str "of")])),(("call" : Str),(.tup [(.str "day"),(.str "by"),(.str "of")]))]
def dL:D:=(.tup [(.str "chosen"),(.str "heir"),(.str "leave"),(.str "paper"),(.str "like"),(.str "copy"),(.str "call")])
def qe:FS :=
  (bC (f2 ixD (f2 ixD (ag 0) (fC (.int 1))) (fC (.int 0))))
def aO:List D->Option (D×Bool):=bp qe 1 0
def qg:FS :=
  (bC (f2 ixD (f2 ixD (ag 0) (fC (.int 1))) (f2 bI (fC (.int 1)) (f2 (pi fT) (fA aO (ae (ag 0) ak)) (ag 1)))))
def au:List D->Option (D×Bool):=bp qg 2 0
def uj:FS :=
  (aD (gIf (tOf (f2 dEq (fA aO (ae (ag 0) ak)) (fC (.str "root")))) (bC (fC .non)) bU)
  (bC (fA au (ae (ag 0) (ae (fC (.str "day")) ak)))))
def aX:List D->Option (D×Bool):=bp uj 1 0
def xq:FS :=
  (bC (cz (zE (ag 0)) 2 [1] (tgT [0,1]) (tOf (f2 dLe (f2 ixD (ag 1) (fC (.int 0))) (ag 2))) (ag 0)))
def c9:List D->Option (D×Bool):=bp xq 2 0
def Ah:FS :=
  (bC (fA aP (ae (fA aX (ae (f2 ixD (ag 0) (ag 1)) ak)) (ae (ag 1) ak))))
def dn:List D->Option (D×Bool):=bp Ah 2 0
def nW:FS :=
  (aD (aZ 2 (cz (cQ (fA c9 (ae (ag 0) (ae (ag 1) ak)))) 1 [0] (tgN 0) (tOf (f2 gd (fA aX (ae (f2 ixD (ag 1) (ag 0)) ak)) (fC .non))) (ag 0)))
  (bC (lr (ag 2) (ua [0] (fA dn (ae (ag 1) (ae (ag 0) ak)))))))
def dM:List D->Option (D×Bool):=bp nW 2 1
def lU:FS :=
  (bC (fA aP (ae (f2 ixD (ag 0) (fC (.int 0))) (ae (f2 ixD (ag 0) (fC (.int 2))) (ae (f2 ixD (ag 0) (fC (.int 4))) ak)))))
def dv:List D->Option (D×Bool):=bp lU 1 0
def xr:FS :=
  (aD (aZ 2 (cz (cQ (fA c9 (ae (ag 0) (ae (ag 1) ak)))) 1 [0] (tgN 0) lQ (f2 ixD (ag 1) (ag 0))))
  (bC (fA gJ (ae (cz (cQ (ag 2)) 1 [] (tgN 0) (tOf (f2 dEq (fA aO (ae (ag 0) ak)) (fC (.str "root")))) (fA aP (ae (fA au (ae (ag 0) (ae (fC (.str "office")) ak))) (ae (ag 0) ak)))) ak))))
def fU:List D->Option (D×Bool):=bp xr 2 1
def nX:FS :=
  (bC (nj (kR dLe dLt (fC (.int 0)) (ag 2) (fA cH (ae (ag 0) ak))) (f2 dLe (f2 ixD (f2 ixD (ag 0) (ag 2)) (fC (.int 0))) (ag 1))))
def fD:List D->Option (D×Bool):=bp nX 3 0
def xu:FS :=
  (bC (nj (f2 dIn (fA aO (ae (ag 0) ak)) (ag 1)) (nj (f2 dEq (fA au (ae (ag 0) (ae (fC (.str "person")) ak))) (ag 2)) (f2 dLe (fA aX (ae (ag 0) ak)) (ag 3)))))
def jX:List D->Option (D×Bool):=bp xu 4 0
def qh:FS :=
  (bC (cz (cQ (fA c9 (ae (ag 0) (ae (ag 1) ak)))) 1 [2,3,4,0] (tgN 0) (tOf (fA jX (ae (f2 ixD (ag 4) (ag 0)) (ae (ag 1) (ae (ag 2) (ae (ag 3) ak)))))) (ag 0)))
def cR:List D->Option (D×Bool):=bp qh 5 0
def xw:FS :=
  (bC (f2 dEq (fA cH (ae (fA cR (ae (ag 0) (ae (ag 1) (ae (fA aP (ae (fC (.str "death")) ak)) (ae (ag 2) (ae (ag 3) ak)))))) ak)) (fC (.int 0))))
def gL:List D->Option (D×Bool):=bp xw 4 0
def nY:FS :=
  (aD (aZ 4 (fA cR (ae (ag 0) (ae (ag 1) (ae (fA aP (ae (fC (.str "lost")) (ae (fC (.str "found")) ak))) (ae (ag 2) (ae (ag 3) ak)))))))
  (aD (gIf (tOf (f2 dEq (fA cH (ae (ag 4) ak)) (fC (.int 0)))) (bC (fC (.bl true))) bU)
  (bC (f2 dEq (fA aO (ae (f2 ixD (ag 0) (pX (ag 4) (ua [0] (fA dn (ae (ag 1) (ae (ag 0) ak)))))) ak)) (fC (.str "found"))))))
def gM:List D->Option (D×Bool):=bp nY 4 1
def nZ:FS :=
  (aD (gIf (jc (jf (tOf (fA fD (ae (ag 0) (ae (ag 1) (ae (ag 2) ak)))))) (tOf (f2 fz (fA aO (ae (f2 ixD (ag 0) (ag 2)) ak)) (fC dL)))) (bC (fC (.bl false))) bU)
  (aD (aZ 3 (fA au (ae (f2 ixD (ag 0) (ag 2)) (ae (fC (.str "by")) ak))))
  (aD (aZ 4 (fA aX (ae (f2 ixD (ag 0) (ag 2)) ak)))
  (bC (nj (fA gL (ae (ag 0) (ae (ag 1) (ae (ag 3) (ae (ag 4) ak))))) (fA gM (ae (ag 0) (ae (ag 1) (ae (ag 3) (ae (ag 4) ak))))))))))
def gN:List D->Option (D×Bool):=bp nZ 3 2
def qi:FS :=
  (bC (nj (f2 dLe (f2 ixD (ag 1) (fC (.int 0))) (ag 0)) (fOr (f2 dIs (f2 ixD (ag 1) (fC (.int 1))) (fC .non)) (f2 dLt (ag 0) (f2 ixD (ag 1) (fC (.int 1)))))))
def iS:List D->Option (D×Bool):=bp qi 2 0
def oe:FS :=
  (bC (fA iS (ae (ag 1) (ae (fA aP (ae (f2 ixD (ag 0) (fC (.int 2))) (ae (f2 ixD (ag 0) (fC (.int 3))) ak))) ak))))
def bE:List D->Option (D×Bool):=bp oe 2 0
def oh:FS :=
  (bC (fA aP (ae (f2 ixD (ag 0) (fC (.int 2))) (ae (f2 ixD (ag 0) (fC (.int 4))) ak))))
def bX:List D->Option (D×Bool):=bp oh 1 0
def oi:FS :=
  (aD (gIf (tOf (f2 dEq (ag 1) (fC (.str "last")))) (bC (f2 ixD (pX (ag 0) (pj bX)) (fC (.int 1)))) bU)
  (bC (f2 ixD (pY (ag 0) (pj bX)) (fC (.int 1)))))
def gO:List D->Option (D×Bool):=bp oi 2 0
def lV:FS :=
  (aD (aZ 3 (cz (cQ (ag 0)) 1 [2,1] (tgN 0) (ft (tOf (f2 dEq (f2 ixD (ag 0) (fC (.int 0))) (fA au (ae (ag 2) (ae (fC (.str "office")) ak))))) (tOf (fA bE (ae (ag 0) (ae (ag 1) ak))))) (ag 0)))
  (aD (aZ 4 (f1 eB (cz (cQ (ag 3)) 1 [] (tgN 0) lQ (f2 ixD (ag 0) (fC (.int 1))))))
  (aD (gIf (tOf (f2 dEq (fA cH (ae (ag 4) ak)) (fC (.int 0)))) (bC (fA aP (ae (fC (.str "none")) ak))) bU)
  (aD (gIf (ft (tOf (f2 iGt (fA cH (ae (ag 4) ak)) (fC (.int 1)))) (tOf (f2 dEq (fA au (ae (ag 1) (ae (fC (.str "rule")) ak))) (fC (.str "open"))))) (bC (fA aP (ae (fC (.str "parted")) (ae (ag 4) ak)))) bU)
  (aD (aZ 5 (fA gO (ae (ag 3) (ae (fA au (ae (ag 1) (ae (fC (.str "rule")) ak))) ak))))
  (aD (aZ 6 (pY (cz (cQ (ag 3)) 1 [5] (tgN 0) (tOf (f2 dEq (f2 ixD (ag 0) (fC (.int 1))) (ag 1))) (ag 0)) (pj bX)))
  (bC (fA aP (ae (fC (.str "one")) (ae (ag 5) (ae (f2 ixD (ag 6) (fC (.int 4))) ak)))))))))))
def c6:List D->Option (D×Bool):=bp lV 3 4
def jY:FS :=
  (bC (f2 dEq (fSl (fA c6 (ae (ag 0) (ae (ag 1) (ae (ag 3) ak)))) eu (dF (fC (.int 2)))) (fA aP (ae (fC (.str "one")) (ae (ag 2) ak)))))
def d6:List D->Option (D×Bool):=bp jY 4 0
def gy:FS :=
  (aD (aZ 3 (f2 ixD (ag 0) (ag 2)))
  (aD (aZ 4 (fA cR (ae (ag 0) (ae (ag 1) (ae (fA aP (ae (fC (.str "death")) ak)) (ae (fA au (ae (ag 3) (ae (fC (.str "person")) ak))) (ae (fA aX (ae (ag 3) ak)) ak)))))))
  (bC (f2 dEq (pY (ag 4) (ua [0] (fA dn (ae (ag 1) (ae (ag 0) ak))))) (ag 2)))))
def cS:List D->Option (D×Bool):=bp gy 3 2
def ul:FS :=
  (aD (aZ 4 (f2 ixD (ag 0) (ag 3)))
  (aD (gIf (tOf (f2 dEq (fA aO (ae (ag 4) ak)) (fC (.str "death")))) (bC (fA cS (ae (ag 0) (ae (ag 1) (ae (ag 3) ak))))) bU)
  (aD (gIf (tOf (f2 fz (fA aO (ae (ag 4) ak)) (fA aP (ae (fC (.str "named")) (ae (fC (.str "chosen")) (ae (fC (.str "heir")) ak)))))) (bC (fC (.bl false))) bU)
  (aD (aZ 5 (f2 vY (fA fU (ae (ag 0) (ae (ag 1) ak))) (fA au (ae (ag 4) (ae (fC (.str "office")) ak)))))
  (aD (gIf (tOf (f2 dIs (ag 5) (fC .non))) (bC (fC (.bl false))) bU)
  (aD (gIf (tOf (f2 dEq (fA aO (ae (ag 4) ak)) (fC (.str "named")))) (bC (fC (.bl true))) bU)
  (bC (nj (fA gN (ae (ag 0) (ae (ag 1) (ae (ag 3) ak)))) (fA d6 (ae (ag 2) (ae (ag 5) (ae (fA au (ae (ag 4) (ae (fC (.str "by")) ak))) (ae (fA aX (ae (ag 4) ak)) ak)))))))))))))
def iu:List D->Option (D×Bool):=bp ul 4 2
def lW:FS :=
  (bC (fA aP (ae (fA au (ae (ag 0) (ae (fC (.str "office")) ak))) (ae (fA au (ae (ag 0) (ae (fC (.str "person")) ak))) (ae (ag 1) (ae (fC .non) (ae (ag 2) ak)))))))
def cN:List D->Option (D×Bool):=bp lW 3 0
def oj:FS :=
  (gIf (jc (tOf (f2 fz (f2 ixD (ag 5) (fC (.int 0))) (ag 1))) (jc (tOf (f2 dNe (f2 ixD (ag 5) (fC (.int 1))) (ag 2))) (jf (jc (tOf (fA bE (ae (ag 5) (ae (ag 3) ak)))) (tOf (f2 iGt (f2 ixD (ag 5) (fC (.int 2))) (ag 3))))))) (gE 4 (ag 5)) (gIf (tOf (f2 dLt (f2 ixD (ag 5) (fC (.int 2))) (ag 3))) (gE 4 (fA aP (ae (f2 ixD (ag 5) (fC (.int 0))) (ae (ag 2) (ae (f2 ixD (ag 5) (fC (.int 2))) (ae (ag 3) (ae (f2 ixD (ag 5) (fC (.int 4))) ak))))))) bU))
def xy:FS :=
  (aD (aZ 4 (fA bB ak))
  (aD (mE (cQ (ag 0)) (tgN 5) oj)
  (gT 4)))
def iT:List D->Option (D×Bool):=bp xy 4 2
def iw:FS :=
  (aD (aZ 3 (fA au (ae (ag 1) (ae (fC (.str "since")) ak))))
  (aD (aZ 4 (fA iT (ae (ag 0) (ae (fA bB (ae (fA au (ae (ag 1) (ae (fC (.str "office")) ak))) ak)) (ae (fA au (ae (ag 1) (ae (fC (.str "by")) ak))) (ae (ag 3) ak))))))
  (bC (f2 bI (ag 4) (fA bB (ae (fA cN (ae (ag 1) (ae (ag 3) (ae (ag 2) ak)))) ak))))))
def d7:List D->Option (D×Bool):=bp iw 3 2
def eW:FS :=
  (aD (aZ 9 (Ab (ag 3) (ae (ag 8) (ae (ag 5) ak))))
  (gIf (ft (tOf (f2 gd (ag 9) (fC .non))) (tOf (fA gL (ae (ag 0) (ae (ag 1) (ae (ag 9) (ae (ag 6) ak))))))) (gE 7 (fA aP (ae (ag 8) (ae (ag 9) (ae (ag 6) (ae (fC .non) (ae (ag 4) ak))))))) bU))
def lX:FS :=
  (aD (aZ 5 (fA au (ae (f2 ixD (ag 0) (ag 4)) (ae (fC (.str "person")) ak))))
  (aD (aZ 6 (fA aX (ae (f2 ixD (ag 0) (ag 4)) ak)))
  (aD (aZ 7 (fA bB ak))
  (aD (gUn [5,6] (mE (cQ (f1 eB (cz (cQ (ag 2)) 1 [5,6] (tgN 0) (ft (tOf (f2 dEq (f2 ixD (ag 0) (fC (.int 1))) (ag 1))) (tOf (fA bE (ae (ag 0) (ae (ag 2) ak))))) (f2 ixD (ag 0) (fC (.int 0)))))) (tgN 8) eW))
  (gT 7)))))
def fV:List D->Option (D×Bool):=bp lX 5 5
def jl:FS :=
  (aD (aZ 5 (cz (cQ (ag 2)) 1 [] (tgN 0) lQ (f2 ixD (ag 0) (fC (.int 0)))))
  (aD (aZ 6 (fA iT (ae (ag 2) (ae (ag 5) (ae (fA au (ae (f2 ixD (ag 0) (ag 4)) (ae (fC (.str "person")) ak))) (ae (fA aX (ae (f2 ixD (ag 0) (ag 4)) ak)) ak))))))
  (bC (f2 bI (ag 6) (fA fV (ae (ag 0) (ae (ag 1) (ae (ag 2) (ae (ag 3) (ae (ag 4) ak))))))))))
def dY:List D->Option (D×Bool):=bp jl 5 2
def iU:FS :=
  (aD (aZ 5 (f2 ixD (ag 0) (ag 4)))
  (aD (gIf (jf (tOf (fA iu (ae (ag 0) (ae (ag 1) (ae (ag 2) (ae (ag 4) ak))))))) C9 bU)
  (gIf (tOf (f2 dEq (fA aO (ae (ag 5) ak)) (fC (.str "named")))) (aZ 2 (f2 bI (ag 2) (fA bB (ae (fA cN (ae (ag 5) (ae (fA aX (ae (ag 5) ak)) (ae (ag 4) ak)))) ak)))) (gIf (tOf (f2 dEq (fA aO (ae (ag 5) ak)) (fC (.str "chosen")))) (aZ 2 (fA d7 (ae (ag 2) (ae (ag 5) (ae (ag 4) ak))))) (gIf (tOf (f2 dEq (fA aO (ae (ag 5) ak)) (fC (.str "heir")))) (qc 3 (ae (fA au (ae (ag 5) (ae (fC (.str "office")) ak))) (ae (fA au (ae (ag 5) (ae (fC (.str "by")) ak))) ak)) (fA au (ae (ag 5) (ae (fC (.str "person")) ak)))) (aZ 2 (fA dY (ae (ag 0) (ae (ag 1) (ae (ag 2) (ae (ag 3) (ae (ag 4) ak))))))))))))
def um:FS :=
  (aD (aZ 2 (fA bB ak))
  (aD (zY 3)
  (aD (mE (cQ (fA dM (ae (ag 0) (ae (ag 1) ak)))) (tgN 4) iU)
  (bC (lr (ag 2) (pj dv))))))
def fE:List D->Option (D×Bool):=bp um 2 4
def uo:FS :=
  (aD (aZ 4 (f2 vY (fA fU (ae (ag 0) (ae (ag 1) ak))) (ag 2)))
  (aD (gIf (tOf (f2 dIs (ag 4) (fC .non))) (bC (fA aP (ae (fC (.str "none")) ak))) bU)
  (bC (fA c6 (ae (fA fE (ae (ag 0) (ae (ag 1) ak))) (ae (ag 4) (ae (ag 3) ak)))))))
def fF:List D->Option (D×Bool):=bp uo 4 1
def lY:FS :=
  (aD (gIf (tOf (f2 dLt (ag 1) (fA cH (ae (ag 0) ak)))) (bC (f2 ixD (ag 0) (ag 1))) bU)
  (bC (fC (.int 0))))
def aJ:List D->Option (D×Bool):=bp lY 2 0
def om:FS :=
  (aD (aZ 7 (f2 ixD (fC (.str "bqcxdlenhusv")) (f2 dm (f2 bI (f2 ia (ag 0) (fC (.int 64))) (f2 eU (fC (.int 5)) (ag 6))) (fC (.int 12)))))
  (gE 5 (f2 bI (f2 bI (fSl (ag 3) eu (dF (ag 4))) (ag 7)) (fSl (ag 3) (dF (f2 bI (ag 4) (fC (.int 1)))) eu))))
def qj:FS :=
  (aD (aZ 2 (f2 bI (fC (.int 1)) (f2 dm (ag 0) (fC (.int 7)))))
  (aD (aZ 3 (fSl (fC (.str "gmtazkf")) eu (dF (ag 2))))
  (aD (aZ 4 (f2 dm (f2 ia (ag 0) (fC (.int 8))) (ag 2)))
  (aD (aZ 5 (fA bB ak))
  (aD (jg (cJ (ag 1)) (tgN 6) om)
  (gT 5))))))
def iV:List D->Option (D×Bool):=bp qj 2 6
def qk:FS :=
  (aD (aZ 6 (fA aJ (ae (ag 0) (ae (f2 bI (fC (.int 5)) (ag 5)) ak))))
  (aD (aZ 7 (f2 bI (f2 bI (ag 3) (fC (.int 1))) (f2 dm (ag 6) (fC (.int 3)))))
  (aD (aZ 3 (f2 bI (ag 7) (f2 dm (f2 ia (ag 6) (fC (.int 3))) (fC (.int 3)))))
  (aD (aZ 8 (f2 ixD (f2 ixD (ag 4) (f1 fw (fC (.int 1)))) (fC (.int 1))))
  (gE 4 (fA aP (ae (ag 3) (ae (f2 ixD (ag 1) (f2 dm (f2 ia (ag 6) (fC (.int 9))) (fA cH (ae (ag 1) ak)))) (ae (fA aP (ae (fC (.str "chosen")) (ae (f2 eU (ag 7) (ag 2)) (ae (ag 8) (ae (fC (.str "crown")) ak))))) ak)))))))))
def uq:FS :=
  (aD (aZ 3 (f2 bI (fC (.int 1)) (f2 dm (fA aJ (ae (ag 0) (ae (fC (.int 3)) ak))) (fC (.int 4)))))
  (aD (aZ 4 (fA bB (ae (fA aP (ae (ag 3) (ae (f2 ixD (ag 1) (f2 dm (f2 ia (fA aJ (ae (ag 0) (ae (fC (.int 3)) ak))) (fC (.int 4))) (fA cH (ae (ag 1) ak)))) (ae (fA aP (ae (fC (.str "named")) (ae (f2 eU (ag 3) (ag 2)) (ae (fC (.str "crown")) ak)))) ak)))) ak)))
  (aD (jg (cJ (f2 dm (fA aJ (ae (ag 0) (ae (fC (.int 4)) ak))) (fC (.int 9)))) (tgN 5) qk)
  (gT 4))))
def jZ:List D->Option (D×Bool):=bp uq 3 6
def kg:FS :=
  (aD (aZ 5 (fA aJ (ae (ag 0) (ae (f2 bI (fC (.int 15)) (ag 4)) ak))))
  (aD (aZ 6 (f2 eU (f2 dm (f2 ia (ag 5) (fC (.int 8))) (fC (.int 50))) (ag 2)))
  (aD (ig [7,8,9] (f2 ixD (ag 1) (f2 dm (f2 ia (ag 5) (fC (.int 400))) (fA cH (ae (ag 1) ak)))))
  (aD (aZ 10 (fA bB (ae (fA aP (ae (fC (.str "chosen")) (ae (ag 6) (ae (fC (.str "yy")) (ae (fC (.str "crown")) (ae (ag 8) (ae (ag 6) ak))))))) (ae (fA aP (ae (fC (.str "heir")) (ae (ag 6) (ae (fC (.str "yy")) (ae (fC (.str "crown")) (ae (ag 8) ak)))))) ak))))
  (aD (aZ 10 (f2 bI (ag 10) (fA bB (ae (fA aP (ae (fC (.str "death")) (ae (ag 6) (ae (fC (.str "yz")) ak)))) (ae (fA aP (ae (fC (.str "named")) (ae (ag 6) (ae (fC (.str "mill")) (ae (ag 8) ak))))) ak)))))
  (aD (aZ 10 (f2 bI (ag 10) (fA bB (ae (fA aP (ae (fC (.str "chosen")) (ae (ag 6) (ae (ag 8) (ae (fC (.str "mill")) (ae (fC (.str "yy")) (ae (ag 6) ak))))))) (ae (fA aP (ae (fC (.str "heir")) (ae (ag 6) (ae (ag 8) (ae (fC (.str "mill")) (ae (fC (.str "yy")) ak)))))) ak)))))
  (gE 3 (f2 ixD (f2 bI (ag 10) (fA bB (ae (fA aP (ae (fC (.str "lost")) (ae (ag 6) (ae (fC (.str "yy")) ak)))) (ae (fA aP (ae (fC (.str "found")) (ae (ag 6) (ae (fC (.str "yz")) ak)))) ak)))) (f2 dm (ag 5) (fC (.int 8)))))))))))
def lZ:FS :=
  (aD (aZ 3 (fA bB ak))
  (aD (jg (cJ (f2 dm (fA aJ (ae (ag 0) (ae (fC (.int 14)) ak))) (fC (.int 7)))) (tgN 4) kg)
  (gT 3)))
def fW:List D->Option (D×Bool):=bp lZ 3 8
def rN:FS :=
  (aD (aZ 3 (fA aJ (ae (ag 0) (ae (fC (.int 22)) ak))))
  (aD (ig [4,5,6] (f2 ixD (ag 1) (f1 fw (fC (.int 1)))))
  (aD (aZ 7 (f2 dm (ag 3) (fC (.int 4))))
  (aD (gIf (tOf (f2 dEq (ag 7) (fC (.int 0)))) (bC (fA aP (ae (fA bB ak) (ae (fC .non) ak)))) bU)
  (aD (aZ 8 (f2 eU (f2 bI (f2 bI (ag 4) (fC (.int 3))) (f2 dm (f2 ia (ag 3) (fC (.int 4))) (fC (.int 5)))) (ag 2)))
  (aD (aZ 9 (fA bB (ae (fA aP (ae (fC (.str "heir")) (ae (f2 eU (f2 bI (ag 4) (fC (.int 1))) (ag 2)) (ae (ag 5) (ae (fC (.str "crown")) (ae (fC (.str "ya")) ak)))))) ak)))
  (aD (gE 9 (fA aP (ae (fC (.str "heir")) (ae (f2 eU (f2 bI (ag 4) (fC (.int 2))) (ag 2)) (ae (ag 5) (ae (fC (.str "crown")) (ae (fC (.str "yb")) ak)))))))
  (aD (gE 9 (fA aP (ae (fC (.str "death")) (ae (ag 8) (ae (ag 5) ak)))))
  (aD (gIf (tOf (f2 dEq (ag 7) (fC (.int 1)))) (aD (aZ 9 (fSl (ag 9) (dF (fC (.int 2))) eu))
  (bC (fA aP (ae (ag 9) (ae (fA aP (ae (ag 8) (ae (fC .non) ak))) ak))))) bU)
  (aD (gIf (tOf (f2 dEq (ag 7) (fC (.int 2)))) (aD (gE 9 (fA aP (ae (fC (.str "death")) (ae (f2 zr (ag 8) (f2 eU (f2 dm (f2 ia (ag 3) (fC (.int 20))) (fC (.int 2))) (ag 2))) (ae (fC (.str "yb")) ak)))))
  (bC (fA aP (ae (ag 9) (ae (fA aP (ae (ag 8) (ae (fC .non) ak))) ak))))) bU)
  (bC (fA aP (ae (ag 9) (ae (fA aP (ae (ag 8) (ae (fC (.str "yb")) ak))) ak))))))))))))))
def kh:List D->Option (D×Bool):=bp rN 3 7
def ur:FS :=
  (aD (aZ 3 (fA aJ (ae (ag 0) (ae (fC (.int 23)) ak))))
  (aD (ig [4,5,6] (f2 ixD (ag 1) (f1 fw (fC (.int 1)))))
  (aD (gIf (jc (tOf (f2 iGt (f2 dm (ag 3) (fC (.int 3))) (fC (.int 0)))) (tOf (f2 iGt (f2 dm (fA aJ (ae (ag 0) (ae (fC (.int 22)) ak))) (fC (.int 4))) (fC (.int 0))))) (bC (fA bB ak)) bU)
  (aD (aZ 7 (f2 bI (f2 bI (ag 4) (fC (.int 2))) (f2 dm (f2 ia (ag 3) (fC (.int 3))) (fC (.int 4)))))
  (aD (aZ 8 (fA bB (ae (fA aP (ae (fC (.str "lost")) (ae (f2 eU (f2 zr (ag 7) (fC (.int 1))) (ag 2)) (ae (ag 5) ak)))) (ae (fA aP (ae (fC (.str "chosen")) (ae (f2 eU (ag 7) (ag 2)) (ae (ag 5) (ae (fC (.str "crown")) (ae (fC (.str "yy")) (ae (f2 eU (ag 7) (ag 2)) ak))))))) ak))))
  (bC (f2 bI (ag 8) (fA bB (ae (fA aP (ae (fC (.str "heir")) (ae (f2 eU (ag 7) (ag 2)) (ae (ag 5) (ae (fC (.str "crown")) (ae (fC (.str "yy")) ak)))))) (ae (fA aP (ae (fC (.str "found")) (ae (f2 eU (f2 bI (ag 7) (fC (.int 1))) (ag 2)) (ae (ag 5) ak)))) ak))))))))))
def ki:List D->Option (D×Bool):=bp ur 3 6
def ql:FS :=
  (aD (aZ 4 (f2 dm (f2 ia (fA aJ (ae (ag 0) (ae (f2 bI (fC (.int 24)) (f2 dm (ag 3) (fC (.int 39)))) ak))) (f2 bI (fC (.int 1)) (f2 ia (ag 3) (fC (.int 39))))) (f2 bI (fA cH (ae (ag 2) ak)) (fC (.int 1)))))
  (aZ 2 (f2 bI (f2 bI (fSl (ag 2) eu (dF (ag 4))) (fA bB (ae (f2 ixD (ag 1) (ag 3)) ak))) (fSl (ag 2) (dF (ag 4)) eu))))
def ut:FS :=
  (aD (aZ 2 (fA bB ak))
  (aD (jg (cJ (fA cH (ae (ag 1) ak))) (tgN 3) ql)
  (gT 2)))
def kj:List D->Option (D×Bool):=bp ut 2 3
def oq:FS :=
  (aD (ig [6,7,8] (f2 ixD (ag 0) (ag 5)))
  (aD (aZ 9 (fC .non))
  (aD (gIf (tOf (f2 dLt (f2 bI (ag 5) (fC (.int 1))) (fA cH (ae (ag 0) ak)))) (aZ 9 (f2 eU (f2 ixD (f2 ixD (ag 0) (f2 bI (ag 5) (fC (.int 1)))) (fC (.int 0))) (ag 3))) bU)
  (aD (aZ 10 (f2 ixD (cz (cJ (fA cH (ae (ag 2) ak))) 1 [8,2] (tgN 0) (tOf (f2 dEq (fSl (f2 ixD (ag 2) (ag 0)) eu (dF (fA cH (ae (ag 1) ak)))) (ag 1))) (ag 0)) (fC (.int 0))))
  (gE 4 (fA aP (ae (fC (.str "crown")) (ae (ag 7) (ae (f2 eU (ag 6) (ag 3)) (ae (ag 9) (ae (ag 10) ak)))))))))))
def xz:FS :=
  (aD (aZ 4 (fA bB ak))
  (aD (jg (cJ (fA cH (ae (ag 0) ak))) (tgN 5) oq)
  (aD (gIf (tOf (f2 gd (ag 1) (fC .non))) (aD (aZ 10 (f2 ixD (cz (cJ (fA cH (ae (ag 2) ak))) 1 [2,1,0] (tgN 0) (tOf (f2 dEq (f2 ixD (ag 1) (ag 0)) (fA aP (ae (fC (.str "death")) (ae (f2 ixD (ag 2) (fC (.int 0))) (ae (f2 ixD (f2 ixD (ag 3) (f1 fw (fC (.int 1)))) (fC (.int 1))) ak)))))) (ag 0)) (fC (.int 0))))
  (aD (yn 4 (f1 fw (fC (.int 1))) (f2 jT (fSl (f2 ixD (ag 4) (f1 fw (fC (.int 1)))) eu (dF (fC (.int 3)))) (fA aP (ae (f2 ixD (ag 1) (fC (.int 0))) (ae (f2 ixD (f2 ixD (ag 4) (f1 fw (fC (.int 1)))) (fC (.int 4))) ak)))))
  (gIf (tOf (f2 gd (f2 ixD (ag 1) (fC (.int 1))) (fC .non))) (gE 4 (fA aP (ae (fC (.str "crown")) (ae (f2 ixD (ag 1) (fC (.int 1))) (ae (f2 ixD (ag 1) (fC (.int 0))) (ae (fC .non) (ae (ag 10) ak))))))) bU))) bU)
  (gT 4))))
def km:List D->Option (D×Bool):=bp xz 4 7
def wb:FS :=
  (gE 7 (f2 jT (ag 10) (fA aP (ae (ag 9) (ae (f2 eU (ag 8) (ag 2)) ak)))))
def Ai:FS :=
  (gIf (tOf (f2 dNe (fA fF (ae (ag 12) (ae (fC (.int 9999)) (ae (ag 14) (ae (ag 17) ak))))) (fA aP (ae (fC (.str "one")) (ae (ag 9) (ae (ag 16) ak)))))) (bC (fC (.bl false))) bU)
def wc:FS :=
  (gUn [8,15] (mE (cQ (fA bB (ae (ag 8) (ae (f2 zr (f2 ixD (fA bB (ae (fC (.int 9999)) (ae (ag 15) ak))) (fA vI (ae (f2 gd (ag 15) (fC .non)) ak))) (fC (.int 1))) ak)))) (tgN 17) Ai))
def Aj:FS :=
  (aD (aZ 1 (fA iV (ae (fA aJ (ae (ag 0) (ae (fC (.int 1)) ak))) (ae (f2 bI (fC (.int 2)) (f2 dm (fA aJ (ae (ag 0) (ae (fC (.int 0)) ak))) (fC (.int 5)))) ak))))
  (aD (aZ 2 (f2 ixD (fA bB (ae (fC (.int 1)) (ae (fC (.int 190)) ak))) (f2 dm (f2 ia (fA aJ (ae (ag 0) (ae (fC (.int 0)) ak))) (fC (.int 5))) (fC (.int 2)))))
  (aD (aZ 3 (fA jZ (ae (ag 0) (ae (ag 1) (ae (ag 2) ak)))))
  (aD (ig [4,5] (fA kh (ae (ag 0) (ae (ag 3) (ae (ag 2) ak)))))
  (aD (aZ 6 (f2 jT (f2 ixD (f2 ixD (ag 3) (fC (.int 0))) (fC (.int 2))) (fA aP (ae (f2 ixD (f2 ixD (ag 3) (fC (.int 0))) (fC (.int 1))) ak))))
  (aD (aZ 7 (fA bB (ae (ag 6) ak)))
  (aD (gUn [3] (mE (cQ (fSl (ag 3) (dF (fC (.int 1))) eu)) (tgT [8,9,10]) wb))
  (aD (aZ 11 (fA kj (ae (ag 0) (ae (f2 bI (f2 bI (f2 bI (ag 7) (ag 4)) (fA fW (ae (ag 0) (ae (ag 3) (ae (ag 2) ak))))) (fA ki (ae (ag 0) (ae (ag 3) (ae (ag 2) ak))))) ak))))
  (aD (aZ 11 (f2 bI (fA bB (ae (fA aP (ae (fC (.str "root")) (ae (fC (.str "crown")) (ae (fC (.int 255)) (ae (fC (.int 9)) (ae (f2 ixD (fA bB (ae (fC (.str "open")) (ae (fC (.str "first")) (ae (fC (.str "last")) ak)))) (f2 dm (fA aJ (ae (ag 0) (ae (fC (.int 2)) ak))) (fC (.int 3)))) ak)))))) ak)) (ag 11)))
  (aD (aZ 12 (fA f6 (ae (cz (cQ (ag 11)) 1 [] (tgN 0) lQ (fA aP (ae (fC (.int 9999)) (ae (ag 0) ak)))) ak)))
  (aD (aZ 13 (fA km (ae (ag 3) (ae (ag 5) (ae (ag 11) (ae (ag 2) ak))))))
  (aD (gIf (jc (tOf (f2 dNe (fA fE (ae (ag 12) (ae (fC (.int 9999)) ak))) (ag 13))) (tOf (f2 dNe (fA fE (ae (ag 12) (ae (fC (.int 9998)) ak))) (fA bB ak)))) (bC (fC (.bl false))) bU)
  (aD (gIf (tOf (f2 dNe (fA fF (ae (ag 12) (ae (fC (.int 9999)) (ae (fC (.str "crown")) (ae (f2 zr (f2 eU (f2 ixD (f2 ixD (ag 3) (fC (.int 0))) (fC (.int 0))) (ag 2)) (fC (.int 1))) ak))))) (fA aP (ae (fC (.str "none")) ak)))) (bC (fC (.bl false))) bU)
  (aD (gUn [13] (mE (cQ (ag 13)) (tgT [14,9,8,15,16]) wc))
  (bC (fC (.bl true)))))))))))))))))
def F_law:List D->Option (D×Bool):=bp Aj 1 17
end Lw
namespace Lw
open PySem DL L2
theorem dZ (ns:List Int) (k:Nat):aJ [.lst (ns.map .int),.int k]=some (.int (ns.getD k 0),false):=by
 by_cases h:k<ns.length
 ·refine aB rfl (da (aK (b:=false) (by simp;omega)) (aR ?_))
  exact aA (x:=.lst (ns.map .int)) (y:=.int k) (b1:=false) (b2:=false) rfl rfl (by have:=xp (xs:=ns) (i:=k) (by omega) (by simpa using h);simpa using this)
 ·have z:ns.getD k 0=0:=by simp[List.getD_eq_getElem?_getD,List.getElem?_eq_none (Nat.not_lt.mp h)]
  rw[z]
  exact aB rfl (bD (aK (b:=false) (by simp;omega)) (aR rfl))
theorem rO (a b:Str):(a++b).length=a.length+b.length:=by
 show(a.cps++b.cps).size=_
 exact Array.size_append
theorem lz {x:Str}{l u:Option Int}{c:Nat}(h:c∈(Txt.slice x l u).cps.toList):c∈x.cps.toList:=by
 unfold Txt.slice at h
 split at h
 ·exact h
 ·rw[List.mem_filterMap]at h
  obtain⟨j,_,e⟩:=h
  exact Array.mem_toList_iff.mpr (Array.mem_of_getElem? e)
theorem eY (c:Int) (n:Nat) (hn:n<=100):∃zs:List Str,iV [.int c,.int n]=some (.lst (zs.map .str),true)/\zs.length=n/\∀z∈zs,121∉z.cps.toList:=by
 have h8:=mod_lt (x:=c) (m:=7) (by decide)
 obtain⟨sz,hsz⟩:∃sz:Int,1+c % 7=sz:=⟨_,rfl⟩
 have hs0:0<sz:=by omega
 have hs1:sz<1073741824:=by omega
 obtain⟨base,hbase⟩:∃base:Str,Txt.slice ("gmtazkf" : Str) none (some sz)=base:=⟨_,rfl⟩
 have hb8:base.length<=8:=by rw[←hbase];exact Nat.le_trans (Txt.slice_le _ _ _) (by decide +kernel)
 obtain⟨aa,haa⟩:∃aa:Int,c / 8 % sz=aa:=⟨_,rfl⟩
 obtain⟨b1,hb1⟩:∃b1:Str,Txt.slice base none (some aa)=b1:=⟨_,rfl⟩
 obtain⟨b2,hb2⟩:∃b2:Str,Txt.slice base (some (aa+1)) none=b2:=⟨_,rfl⟩
 have l1:b1.length<=8:=by rw[←hb1];exact Nat.le_trans (Txt.slice_le _ _ _) hb8
 have l2:b2.length<=8:=by rw[←hb2];exact Nat.le_trans (Txt.slice_le _ _ _) hb8
 let ltr:Nat->Str:=λk=>⟨#[("bqcxdlenhusv" : Str).cps.toList.getD ((c / 64+5*k) % 12).toNat 0]⟩
 let nm:Nat->Str:=λk=>b1++ltr k++b2
 have ln:∀k,(nm k).length<=20:=λk=>by
  show(b1++ltr k++b2).length<=20
  rw[rO,rO]
  have:(ltr k).length=1:=rfl
  omega
 obtain⟨ρ',e,v6,v7,rfl⟩:=io (tg:=tgN 6) (g:=om) n (λi ρ=>∃v6 v7:Option (D×Bool),ρ=[some (.int c,false),some (.int n,false),some (.int sz,false),some (.str base,false),some (.int aa,false),some (.lst (((List.range i).map nm).map .str),true),v6,v7])
  [some (.int c,false),some (.int n,false),some (.int sz,false),some (.str base,false),some (.int aa,false),some (.lst [],true),none,none] ⟨none,none,rfl⟩ (by
   rintro i ρ hi ⟨v6,v7,rfl⟩
   have h12:=mod_lt (x:=c / 64+5*(i:Int)) (m:=12) (by decide)
   have hi2 : -18446744073709551616<(i:Int)/\(i:Int)<18446744073709551616:=by omega
   refine⟨_,_,rfl,.inl (aU (d:=.str (ltr i)) (b:=false) ?_ rfl (gg (ds:=((List.range i).map nm).map .str) (d:=.str (nm i)) (b:=false) rfl ?_ rfl (b7 (by simp;omega)))),some (.int i,false),some (.str (ltr i),false), ?_⟩
   ·refine aA (x:=.str "bqcxdlenhusv") (y:=.int ((c / 64+5*i) % 12)) (b1:=false) (b2:=false) rfl (by simp) ?_
    exact DL.vp h12.1 (by rw[show("bqcxdlenhusv" : Str).cps.size=12 by decide +kernel];omega) (by decide +kernel)
   ·refine aA (x:=.str (b1++ltr i)) (y:=.str b2) (b1:=false) (b2:=false) (aA (x:=.str b1) (y:=.str (ltr i)) (b1:=false) (b2:=false) ?_ rfl ?_) ?_ ?_
    ·simp[hb1];exact bv (by omega)
    ·simp;exact bv (by have:(ltr i).length=1:=rfl;omega)
    ·simp[hb2];exact bv (by omega)
    ·have hh:(b1++ltr i).length+b2.length<=sizeLine:=bv (by rw[rO];have:(ltr i).length=1:=rfl;omega)
     show bI (.str (b1++ltr i)) (.str b2)=some (.str (b1++ltr i++b2),false)
     simp only[bI,if_pos hh]
   ·simp[List.range_succ])
 refine⟨(List.range n).map nm,aB rfl (aU (d:=.int sz) (b:=false) (by simp[hsz]) rfl (aU (d:=.str base) (b:=false) ?_ rfl (aU (d:=.int aa) (b:=false) (by simp[hs0,hs1,haa]) rfl (cb (ds:=[]) (by simp[sizeLine]) (by simp) (cM (ir (fj (j:=n) (b:=false) (by simp) (by omega)) e) (eV rfl)))))),by simp, ?_⟩
 ·simp[hbase];decide +kernel
 ·intro z hz
  obtain⟨k,_,rfl⟩:=List.mem_map.mp hz
  have hb:121∉base.cps.toList:=λh=>absurd (lz (by rw[←hbase]at h;exact h)) (by decide +kernel)
  have hc:∀j:Nat,("bqcxdlenhusv" : Str).cps.toList.getD j 0≠121:=λj e=>by
   rw[List.getD_eq_getElem?_getD]at e
   cases hj:("bqcxdlenhusv" : Str).cps.toList[j]? with
   | none=>rw[hj]at e;cases e
   | some c =>
    rw[hj]at e
    have e:c=121:=e
    have:=List.mem_of_getElem? hj
    rw[e]at this
    exact absurd this (by decide +kernel)
  have e3:∀a b:Str,(a++b).cps.toList=a.cps.toList++b.cps.toList:=λa b=>by show(a.cps++b.cps).toList=_;simp
  intro h
  have h:121∈(b1++ltr k++b2).cps.toList:=h
  rw[e3,e3,List.mem_append,List.mem_append]at h
  rcases h with (h|h)|h
  ·rw[←hb1]at h;exact hb (lz h)
  ·exact hc _ (List.mem_singleton.mp h).symm
  ·rw[←hb2]at h;exact hb (lz h)
end Lw
namespace DL
open PySem L2
theorem gP:∀(n m:Nat) (d:D),n<=m->aj n d=true->aj m d=true
 | n,m,.non,_,_=>by simp
 | n,m,.bl _,_,_=>by simp
 | n,m,.int _,_,_=>by simp
 | n,m,.str _,_,_=>by simp
 | n,m,.ty _,_,h=>by cases n<;>simp[aj]at h
 | n,m,.dk _ _,_,h=>by simp at h
 | n,m,.dt _ _,_,h=>by simp at h
 | 0,m,.tup _,_,h=>by simp[aj]at h
 | 0,m,.lst _,_,h=>by simp[aj]at h
 | n+1,0,_,h,_=>by omega
 | n+1,m+1,.tup ds,hl,h=>by
  simp only[aj,List.all_eq_true]at h ⊢
  exact λd hd=>gP n m d (by omega) (h d hd)
 | n+1,m+1,.lst ds,hl,h=>by
  simp only[aj,List.all_eq_true]at h ⊢
  exact λd hd=>gP n m d (by omega) (h d hd)
theorem l5:∀(ds:List D),(∀d∈ds,eqD d d=true)->cY ds ds=true
 | [],_=>by simp only[cY]
 | d::ds,h=>by
  simp only[cY,h d mX,Bool.true_and]
  exact l5 ds λe he=>h e (mZ _ he)
theorem g7:∀(n:Nat) (d:D),aj n d=true->eqD d d=true
 | n,.non,_=>by simp
 | n,.bl _,_=>by simp
 | n,.int _,_=>by simp
 | n,.str _,_=>by simp
 | n,.ty _,h=>by cases n<;>simp[aj]at h
 | n,.dk _ _,h=>by simp at h
 | n,.dt _ _,h=>by simp at h
 | 0,.tup _,h=>by simp[aj]at h
 | 0,.lst _,h=>by simp[aj]at h
 | n+1,.tup ds,h=>by
  simp only[aj,List.all_eq_true]at h
  simp only[eqD]
  exact l5 ds λd hd=>g7 n d (h d hd)
 | n+1,.lst ds,h=>by
  simp only[aj,List.all_eq_true]at h
  simp only[eqD]
  exact l5 ds λd hd=>g7 n d (h d hd)
end DL
namespace Lw
open PySem DL L2
theorem at0 (d:D) (r:List D):atI (d::r) 0=some d:=by have:=iq (xs:=d::r) (j:=0) (by simp);simpa using this
theorem at1 (d e:D) (r:List D):atI (d::e::r) 1=some e:=by have:=iq (xs:=d::e::r) (j:=1) (by simp);simpa using this
theorem at2 (d e f:D) (r:List D):atI (d::e::f::r) 2=some f:=by have:=iq (xs:=d::e::f::r) (j:=2) (by simp);simpa using this
def cq (k:Str):Bool:=decide (k=("death" : Str)) || decide (k=("lost" : Str)) || decide (k=("found" : Str))
def d8 (k:Str):Bool:=decide (k=("chosen" : Str)) || decide (k=("heir" : Str)) || decide (k=("leave" : Str)) || decide (k=("paper" : Str)) || decide (k=("like" : Str)) || decide (k=("copy" : Str)) || decide (k=("call" : Str))
structure DeedP (kind:Str) (aF:List D):Prop where
 flat:aV aF=true
 plain:aF.all (aj 5)=true
 three:cq kind=true->∃(day:Int) (p:Str),aF=[.int day,.str p]
 slg:d8 kind=true->∃(day:Int) (p:Str) (r:List D),aF=.int day::.str p::r
def row (h:Int) (kind:Str) (aF:List D):D:=.tup [.int h,.tup (.str kind::aF)]
def l7 (r:D):Prop:=∃h kind aF,r=row h kind aF/\DeedP kind aF
theorem l7.flat {r:D}(h:l7 r):bo r=true:=by obtain⟨a,k,aF,rfl,dp⟩:=h;simp[row,dp.flat]
theorem l7.plain {r:D}(h:l7 r):aj 39 r=true:=by
 obtain⟨a,k,aF,rfl,dp⟩:=h
 refine gP 7 39 _ (by decide) ?_
 have:=dp.plain
 simp only[row,aj,List.all_cons,List.all_nil,Bool.and_true,Bool.true_and]
 exact this
theorem bF {ds:List D}(h:∀d∈ds,bo d=true):aV ds=true:=by
 induction ds with
 | nil=>rfl
 | cons d r ih=>simp[h d (by simp),ih λe he=>h e (by simp[he])]
theorem iz (zs:List Str):aV (zs.map D.str)=true:=by
 induction zs with
 | nil=>rfl
 | cons a l ih=>simp[ih]
def d9:D->Int
 | .tup (.int h::_)=>h
 | _=>0
def kindOf:D->Str
 | .tup [_,.tup (.str k::_)]=>k
 | _=>("" : Str)
def aH:D->Int
 | .tup [_,.tup (_::.int d::_)]=>d
 | _=>0
def ma (p:Str) (day:Int):List D->Bool
 | [.int d,.str q]=>decide (q=p) && decide (d<=day)
 | _=>false
def told (ws:List Str) (p:Str) (day:Int):D->Bool
 | .tup [_,.tup (.str kind::aF)]=>decide (kind∈ws) && ma p day aF
 | _=>false
theorem fX (h:Int) (kind:Str) (aF:List D):aO [row h kind aF]=some (.str kind,false):=aB rfl (aR (by simp[row,at1,at0]))
theorem i6 {k:Str}(h:cq k=true):k=("death" : Str)∨k=("lost" : Str)∨k=("found" : Str):=by
 unfold cq at h
 simp only[Bool.or_eq_true,decide_eq_true_eq]at h
 rcases h with (h|h)|h
 ·exact .inl h
 ·exact .inr (.inl h)
 ·exact .inr (.inr h)
theorem jy {k:Str}(h:d8 k=true):k=("chosen" : Str)∨k=("heir" : Str)∨k=("leave" : Str)∨k=("paper" : Str)∨k=("like" : Str)∨k=("copy" : Str)∨k=("call" : Str):=by
 unfold d8 at h
 simp only[Bool.or_eq_true,decide_eq_true_eq]at h
 rcases h with (((((h|h)|h)|h)|h)|h)|h
 ·exact .inl h
 ·exact .inr (.inl h)
 ·exact .inr (.inr (.inl h))
 ·exact .inr (.inr (.inr (.inl h)))
 ·exact .inr (.inr (.inr (.inr (.inl h))))
 ·exact .inr (.inr (.inr (.inr (.inr (.inl h)))))
 ·exact .inr (.inr (.inr (.inr (.inr (.inr h)))))
theorem BG {k:Str}(h:cq k=true∨d8 k=true):pi fT (.str k) (.str "day")=some (.int 0,false):=by
 rcases h with h|h
 ·rcases i6 h with rfl|rfl|rfl<;>exact bz (by decide +kernel)
 ·rcases jy h with rfl|rfl|rfl|rfl|rfl|rfl|rfl<;>exact bz (by decide +kernel)
theorem wd {k:Str}(h:cq k=true):pi fT (.str k) (.str "person")=some (.int 1,false):=by
 rcases i6 h with rfl|rfl|rfl<;>exact bz (by decide +kernel)
theorem Ak {k:Str}(h:cq k=true∨d8 k=true):dEq (.str k) (.str "root")=some (.bl false,false):=by
 rcases h with h|h
 ·rcases i6 h with rfl|rfl|rfl<;>exact bz (by decide +kernel)
 ·rcases jy h with rfl|rfl|rfl|rfl|rfl|rfl|rfl<;>exact bz (by decide +kernel)
theorem b8 {h:Int}{k:Str}{aF:List D}{part:Str}{i:Nat}{d:D}(hi:pi fT (.str k) (.str part)=some (.int i,false)) (hd:aF[i]? = some d):au [row h k aF,.str part]=some (d,false):=by
 refine aB rfl (aR ?_)
 refine aA (x:=.tup (.str k::aF)) (y:=.int (1+i)) (b1:=false) (b2:=false) (by simp[row,at1]) (aA (x:=.int 1) (y:=.int i) (b1:=false) (b2:=false) rfl (aA (x:=.str k) (y:=.str part) (b1:=false) (b2:=false) (ai (ds:=[row h k aF]) rfl (fX _ _ _)) rfl hi) (by simp)) ?_
 have hlt:i<aF.length:=(List.getElem?_eq_some_iff.mp hd).1
 have:atI (.str k::aF) (1+(i:Int))=some d:=by
  have:=iq (xs:=(.str k:D)::aF) (j:=i+1) (by simp;omega)
  rw[show(1+(i:Int))=((i+1:Nat):Int) by omega,this]
  simp only[List.getElem_cons_succ]
  rw[List.getElem?_eq_getElem hlt]at hd
  exact hd
 simp[this]
theorem g8 {h:Int}{k:Str}{aF:List D}{d:Int}{r:List D}(hk:cq k=true∨d8 k=true) (hr:aF=.int d::r):aX [row h k aF]=some (.int d,false):=by
 subst hr
 refine aB rfl (bD (aK (b:=false) (aA (x:=.str k) (y:=.str "root") (b1:=false) (b2:=false) (ai (ds:=[row h k (.int d::r)]) rfl (fX _ _ _)) rfl (Ak hk))) (aR (ai (ds:=[row h k (.int d::r),.str "day"]) rfl (b8 (i:=0) (BG hk) rfl))))
theorem ot (k:Str) (ws:List Str):inD (.str k) (ws.map .str)=decide (k∈ws):=by
 induction ws with
 | nil=>simp[inD]
 | cons w ws ih =>
  have:inD (.str k) ((w::ws).map .str)=(eqD (.str w) (.str k) || inD (.str k) (ws.map .str)):=rfl
  rw[this,ih,lR]
  by_cases e:w=k
  ·simp[e]
  ·have e':¬k=w:=λz=>e z.symm
   simp[e,e']
theorem l8 (ws:List Str):(ws.map D.str).all eO=true:=by
 induction ws with
 | nil=>rfl
 | cons w ws ih=>simp[eO]
theorem Al (k:Str) (ws:List Str):dIn (.str k) (.tup (ws.map .str))=some (.bl (decide (k∈ws)),false):=by
 simp only[dIn,fP,Option.bind_some,ot]
 rw[if_pos ⟨rfl,l8 ws⟩]
theorem Am {r:D}(hr:l7 r) (ws:List Str) (hw:∀w∈ws,cq w=true) (p:Str) (day:Int):jX [r,.tup (ws.map .str),.str p,.int day]=some (.bl (told ws p day r),false):=by
 obtain⟨h,kind,aF,rfl,dp⟩:=hr
 have hin:f2 dIn (fA aO (ae (ag 0) ak)) (ag 1) [some (row h kind aF,false),some (.tup (ws.map .str),false),some (.str p,false),some (.int day,false)]=some (.bl (decide (kind∈ws)),false) :=
  aA (x:=.str kind) (y:=.tup (ws.map .str)) (b1:=false) (b2:=false) (ai (ds:=[row h kind aF]) rfl (fX _ _ _)) rfl (Al kind ws)
 have ht:told ws p day (row h kind aF)=(decide (kind∈ws) && ma p day aF):=rfl
 rw[ht]
 refine aB rfl (aR (lx (b1:=false) hin λhk=>?_))
 have h3:=hw kind (of_decide_eq_true hk)
 obtain⟨d,q,rfl⟩:=dp.three h3
 show nj _ _ _=some (.bl (decide (q=p) && decide (d<=day)),false)
 refine lx (b1:=false) ?_ λ_=>?_
 ·exact aA (x:=.str q) (y:=.str p) (b1:=false) (b2:=false) (ai (ds:=[row h kind [.int d,.str q],.str "person"]) rfl (b8 (i:=1) (wd h3) rfl)) rfl (by simp)
 ·exact aA (x:=.int d) (y:=.int day) (b1:=false) (b2:=false) (ai (ds:=[row h kind [.int d,.str q]]) rfl (g8 (.inl h3) rfl)) rfl (by simp)
theorem An (ds:List D):pK ds=ds.zipIdx.map λx=>.tup [.int x.2,x.1]:=by
 unfold pK
 apply List.ext_getElem?
 intro i
 simp[List.getElem?_mapIdx,List.getElem?_zipIdx]
 cases ds[i]?<;>simp
def ax (rows:List D) (known:Int):List (D×Nat):=rows.zipIdx.filter λx=>decide (d9 x.1<=known)
theorem ou (rows:List D) (hr:∀r∈rows,l7 r) (hl:rows.length<=1000) (known:Int):c9 [.tup rows,.int known]=some (.lst ((ax rows known).map λx=>.int x.2),true):=by
 have hc:=jW (fi:=zE (ag 0)) (nT:=2) (cap:=[1]) (tg:=tgT [0,1]) (c:=tOf (f2 dLe (f2 ixD (ag 1) (fC (.int 0))) (ag 2))) (fe:=ag 0) (ρ:=[some (.tup rows,false),some (.int known,false)]) rows.zipIdx (λx=>.tup [.int x.2,x.1]) (λx=>decide (d9 x.1<=known)) (λx=>.int x.2)
  (by simp[An]) (by simp;omega) λx hx=>by
   obtain⟨h,kind,aF,e,_⟩:=hr x.1 (List.fst_mem_of_mem_zipIdx hx)
   refine⟨_,rfl,aK (b:=false) ?_,λ_=>⟨false,by simp[bW]⟩⟩
   simp[bW,e,row,at0,d9]
 exact aB rfl (aR hc)
def mH (rows:List D) (known:Int) (ws:List Str) (p:Str) (day:Int):List (D×Nat):=(ax rows known).filter λx=>told ws p day x.1
theorem xA {rows:List D}{known:Int}{ws:List Str}{p:Str}{day:Int}{x:D×Nat}(h:x∈mH rows known ws p day):rows[x.2]? = some x.1/\told ws p day x.1=true:=by
 obtain⟨h1,h2⟩:=List.mem_filter.mp h
 exact⟨(List.mk_mem_zipIdx_iff_getElem? (x:=x.1) (i:=x.2)).mp (List.mem_filter.mp h1).1,h2⟩
theorem eK {rows:List D}{i:Nat}{r:D}(h:rows[i]? = some r):atI rows (i:Int)=some r:=by
 obtain⟨hlt,e⟩:=List.getElem?_eq_some_iff.mp h
 rw[iq hlt,e]
theorem BH (rows:List D) (known:Int) (ws:List Str) (p:Str) (day:Int):(mH rows known ws p day).length<=rows.length:=by
 have h1:=List.length_filter_le (λx:D×Nat=>told ws p day x.1) (ax rows known)
 have h2:=List.length_filter_le (λx:D×Nat=>decide (d9 x.1<=known)) rows.zipIdx
 rw[List.length_zipIdx]at h2
 exact Nat.le_trans h1 h2
theorem rP (rows:List D) (hr:∀r∈rows,l7 r) (hl:rows.length<=1000) (known:Int) (ws:List Str) (hw:∀w∈ws,cq w=true) (p:Str) (day:Int) :
  cR [.tup rows,.int known,.tup (ws.map .str),.str p,.int day]=some (.lst ((mH rows known ws p day).map λx=>.int x.2),true):=by
 have hc:=jW (fi:=cQ (fA c9 (ae (ag 0) (ae (ag 1) ak)))) (nT:=1) (cap:=[2,3,4,0]) (tg:=tgN 0) (c:=tOf (fA jX (ae (f2 ixD (ag 4) (ag 0)) (ae (ag 1) (ae (ag 2) (ae (ag 3) ak)))))) (fe:=ag 0)
  (ρ:=[some (.tup rows,false),some (.int known,false),some (.tup (ws.map .str),false),some (.str p,false),some (.int day,false)]) (ax rows known) (λx=>.int x.2) (λx=>told ws p day x.1) (λx=>.int x.2)
  (by
   show(fA c9 (ae (ag 0) (ae (ag 1) ak)) _).bind _=_
   rw[ai (ds:=[.tup rows,.int known]) rfl (ou rows hr hl known)]
   rfl) (by have:=List.length_filter_le (λx:D×Nat=>decide (d9 x.1<=known)) rows.zipIdx;rw[List.length_zipIdx]at this;exact Nat.le_trans this (by omega)) λx hx=>by
   have hg:rows[x.2]? = some x.1:=(List.mk_mem_zipIdx_iff_getElem? (x:=x.1) (i:=x.2)).mp (List.mem_filter.mp hx).1
   refine⟨_,rfl,aK (b:=false) (ai (ds:=[x.1,.tup (ws.map .str),.str p,.int day]) ?_ (Am (hr _ (List.mem_of_getElem? hg)) ws hw p day)),λ_=>⟨false,by simp[bW]⟩⟩
   have ha:=eK hg
   simp[bW,ha]
 exact aB rfl (aR hc)
def kA (x:D×Nat):List At:=[.i (aH x.1),.i x.2]
def fY (a b:D×Nat):Bool:=decide (aH a.1<aH b.1∨(aH a.1=aH b.1/\(a.2:Int)<b.2))
def dN:D×Nat->List (D×Nat)->D×Nat
 | b,[]=>b
 | b,x::r=>if fY b x=true then dN x r else dN b r
def CH:List (D×Nat)->Option (D×Nat)
 | []=>none
 | x::r=>some (dN x r)
theorem Fv (a b c d:Int):bu [.i a,.i b] [.i c,.i d]=some (decide (a<c∨(a=c/\b<d))):=by
 rw[bu]
 by_cases h:a=c
 ·rw[if_pos h,bu]
  by_cases h2:b=d
  ·rw[if_pos h2,bu];simp[h,h2]
  ·rw[if_neg h2];simp[h]
 ·rw[if_neg h];simp[h]
theorem rQ (a b:D×Nat):bu (kA a) (kA b)=some (fY a b):=Fv _ _ _ _
theorem rR (l:List (D×Nat)):eC (l.map kA)=true:=by
 unfold eC
 simp[List.all_eq_true,rQ]
theorem lA:∀(r:List (D×Nat)) (b:D×Nat),jS (kA b,.int b.2) (r.map λx=>(kA x,D.int x.2))=.int (dN b r).2
 | [],b=>rfl
 | x::r,b=>by
  rw[List.map_cons,jS,dN]
  show(if bu (kA b) (kA x)=some true then _ else _)=_
  rw[rQ]
  by_cases h:fY b x=true
  ·rw[if_pos h,if_pos (by rw[h])];exact lA r x
  ·rw[if_neg h,if_neg (by simpa using h)];exact lA r b
theorem kn:∀(r:List (D×Nat)) (b:D×Nat),dN b r∈b::r
 | [],b=>by simp[dN]
 | x::r,b=>by
  rw[dN]
  split
  ·exact mZ _ (kn r x)
  ·rcases List.mem_cons.mp (kn r b)with h|h
   ·rw[h];exact mX
   ·exact mZ _ (mZ _ h)
theorem g9 {α:Type}{f:D->Option D}{g h:α->D}:∀(l:List α),(∀x∈l,f (g x)=some (h x))->hU f (l.map g)=some (l.map h)
 | [],_=>rfl
 | x::l,hx=>by
  rw[List.map_cons,hU,hx x mX,Option.bind_some,g9 l λy hy=>hx y (mZ _ hy)]
  rfl
theorem fm {α:Type}{g:α->D}{h:α->List At}:∀(l:List α),(∀x∈l,tU (g x)=some (h x))->cW (l.map g)=some (l.map h)
 | [],_=>rfl
 | x::l,hx=>by
  rw[List.map_cons,cW,hx x mX,Option.bind_some,fm l λy hy=>hx y (mZ _ hy)]
  rfl
def eE:List Str:=[("lost" : Str),("found" : Str)]
theorem md:∀w∈eE,cq w=true:=by
 intro w hw
 rcases List.mem_cons.mp hw with rfl|hw
 ·decide +kernel
 ·rcases List.mem_cons.mp hw with rfl|hw
  ·decide +kernel
  ·cases hw
def uu (rows:List D) (known:Int) (p:Str) (day:Int):Bool:=match CH (mH rows known eE p day) with
 | none=>true
 | some b=>decide (kindOf b.1=("found" : Str))
theorem oy {ws:List Str}(hw:∀w∈ws,cq w=true) {p:Str}{day:Int}{r:D}(hr:l7 r) (ht:told ws p day r=true):∃h k d,r=row h k [.int d,.str p]/\cq k=true/\k∈ws/\d<=day:=by
 obtain⟨h,kind,aF,rfl,dp⟩:=hr
 have ht':(decide (kind∈ws) && ma p day aF)=true:=ht
 rw[Bool.and_eq_true]at ht'
 have hm:=of_decide_eq_true ht'.1
 obtain⟨d,q,rfl⟩:=dp.three (hw _ hm)
 have hq:(decide (q=p) && decide (d<=day))=true:=ht'.2
 rw[Bool.and_eq_true]at hq
 have:=of_decide_eq_true hq.1
 subst this
 exact⟨h,kind,d,rfl,hw _ hm,hm,of_decide_eq_true hq.2⟩
theorem xB {rows:List D}{i:Nat}{h d:Int}{k p:Str}(hg:rows[i]? = some (row h k [.int d,.str p])) (h3:cq k=true):dn [.tup rows,.int i]=some (.tup [.int d,.int i],false):=by
 have ha:=eK hg
 refine aB rfl (aR (ai (ds:=[.int d,.int i]) (ao (d:=.int d) (b:=false) (ai (ds:=[row h k [.int d,.str p]]) (by simp[ha]) (g8 (.inl h3) rfl)) rfl) (by simp[sizeLine])))
theorem BI (rows:List D) (hr:∀r∈rows,l7 r) (hl:rows.length<=1000) (known:Int) (p:Str) (day:Int):gM [.tup rows,.int known,.str p,.int day]=some (.bl (uu rows known p day),false):=by
 have ht:=rP rows hr hl known eE md p day
 have hsl:=BH rows known eE p day
 have key:∀x∈mH rows known eE p day,∃h k d,rows[x.2]? = some (row h k [.int d,.str p])/\x.1=row h k [.int d,.str p]/\cq k=true:=λx hx=>by
  obtain⟨hg,htl⟩:=xA hx
  obtain⟨h,k,d,e,h3,_⟩:=oy md (hr _ (List.mem_of_getElem? hg)) htl
  exact⟨h,k,d,by rw[hg,e],e,h3⟩
 unfold uu
 generalize hsel:mH rows known eE p day=sel at ht key hsl ⊢
 have hset:fA cR (ae (ag 0) (ae (ag 1) (ae (fA aP (ae (fC (.str "lost")) (ae (fC (.str "found")) ak))) (ae (ag 2) (ae (ag 3) ak))))) [some (.tup rows,false),some (.int known,false),some (.str p,false),some (.int day,false),none]=some (.lst (sel.map λx=>.int x.2),true) :=
  ai (ds:=[.tup rows,.int known,.tup (eE.map .str),.str p,.int day]) (by simp[eE,sizeLine]) ht
 have hnl:aV (sel.map λx=>D.int x.2)=true:=bF λd hd=>by obtain⟨x,_,rfl⟩:=List.mem_map.mp hd;rfl
 cases sel with
 | nil=>exact aB rfl (cb hset hnl (da (aK (b:=false) (by simp)) (aR rfl)))
 | cons x r =>
  refine aB rfl (cb hset hnl (bD (aK (b:=false) (by simp;omega)) (aR ?_)))
  obtain⟨h,k,d,hg,e,h3⟩:=key (dN x r) (kn r x)
  have hb:kindOf (dN x r).1=k:=by rw[e];rfl
  show _=some (D.bl (decide (kindOf (dN x r).1=("found" : Str))),false)
  rw[hb]
  refine aA (x:=.str k) (y:=.str "found") (b1:=false) (b2:=false) (ai (ds:=[row h k [.int d,.str p]]) (ao (d:=row h k [.int d,.str p]) (b:=false) (aA (x:=.tup rows) (y:=.int (dN x r).2) (b1:=false) (b2:=false) rfl ?_ (by simp[eK hg])) rfl) (fX _ _ _)) rfl (by simp)
  have hm:∀ρ:DL.Env,ρ[0]? = some (some (.tup rows,false))->hU (ua [0] (fA dn (ae (ag 1) (ae (ag 0) ak))) ρ) ((x::r).map λx=>D.int x.2)=some ((x::r).map λx=>.tup [.int (aH x.1),.int x.2]):=λρ h0 =>
   g9 (x::r) λy hy=>by
    obtain⟨h,k,d,hg,e,h3⟩:=key y hy
    have hd:aH y.1=d:=by rw[e];rfl
    rw[hd]
    show(fA dn _ _).map _=_
    rw[ai (ds:=[.tup rows,.int y.2]) (by simp[bW,h0]) (xB hg h3)]
    rfl
  have hk:cW ((x::r).map λx=>D.tup [.int (aH x.1),.int x.2])=some ((x::r).map kA):=fm (x::r) λy _=>rfl
  have hz:((x::r).map kA).zip ((x::r).map λx=>D.int x.2)=(kA x,.int x.2)::r.map λx=>(kA x,D.int x.2):=by
   rw[List.zip_map']
   rfl
  show(pX (ag 4) _ _)=_
  unfold pX fKK
  show((some (D.lst ((x::r).map λx=>D.int x.2),false)).bind _)=_
  simp only[Option.bind_some]
  rw[hm _ rfl]
  simp only[Option.bind_some]
  rw[hk]
  simp only[Option.bind_some]
  rw[if_pos (rR _),hz]
  simp only[lA]
def bS:List Str:=[("death" : Str)]
theorem gQ:∀w∈bS,cq w=true:=by
 intro w hw
 rcases List.mem_cons.mp hw with rfl|hw
 ·decide +kernel
 ·cases hw
def lB (rows:List D) (known:Int) (p:Str) (day:Int):Bool:=(mH rows known bS p day).isEmpty
theorem uw (rows:List D) (hr:∀r∈rows,l7 r) (hl:rows.length<=1000) (known:Int) (p:Str) (day:Int):gL [.tup rows,.int known,.str p,.int day]=some (.bl (lB rows known p day),false):=by
 have ht:=rP rows hr hl known bS gQ p day
 unfold lB
 generalize mH rows known bS p day=sel at ht ⊢
 refine aB rfl (aR (aA (x:=.int ((sel.map λx=>D.int x.2).length:Nat)) (y:=.int 0) (b1:=false) (b2:=false) ?_ rfl ?_))
 ·exact ai (ds:=[.lst (sel.map λx=>.int x.2)]) (ao (d:=.lst (sel.map λx=>.int x.2)) (b:=true) (ai (ds:=[.tup rows,.int known,.tup (bS.map .str),.str p,.int day]) (by simp[sizeLine,bS]) ht) rfl) BF
 ·rw[rM]
  cases sel<;>simp
  omega
def y7:D->Str
 | .tup [_,.tup (_::_::.str p::_)]=>p
 | _=>("" : Str)
def xC:List Str:=[("chosen" : Str),("heir" : Str),("leave" : Str),("paper" : Str),("like" : Str),("copy" : Str),("call" : Str)]
theorem we (k:Str):d8 k=decide (k∈xC):=by
 unfold d8 xC
 simp[List.mem_cons,Bool.or_assoc]
theorem wf:dL=.tup (xC.map .str):=rfl
theorem mf (k:Str) (ws:List Str):fz (.str k) (.tup (ws.map .str))=some (.bl (!decide (k∈ws)),false):=by
 simp only[fz,fP,Option.bind_some,ot]
 rw[if_pos ⟨rfl,l8 ws⟩]
theorem DW {k:Str}(h:d8 k=true):pi fT (.str k) (.str "by")=some (.int 1,false):=by
 rcases jy h with rfl|rfl|rfl|rfl|rfl|rfl|rfl<;>exact bz (by decide +kernel)
def rS (rows:List D) (known:Int) (r:D):Bool:=(decide (d9 r<=known) && d8 (kindOf r)) && (lB rows known (y7 r) (aH r) && uu rows known (y7 r) (aH r))
theorem Ao {rows:List D}{i:Nat}{h:Int}{kind:Str}{aF:List D}(hg:rows[i]? = some (row h kind aF)) (known:Int):fD [.tup rows,.int known,.int i]=some (.bl (decide (h<=known)),false):=by
 have hlt:i<rows.length:=(List.getElem?_eq_some_iff.mp hg).1
 have ha:=eK hg
 refine aB rfl (aR ?_)
 have:=lx (f1:=kR dLe dLt (fC (.int 0)) (ag 2) (fA cH (ae (ag 0) ak))) (f2:=f2 dLe (f2 ixD (f2 ixD (ag 0) (ag 2)) (fC (.int 0))) (ag 1)) (ρ:=[some (.tup rows,false),some (.int known,false),some (.int i,false)]) (p:=true) (q:=decide (h<=known)) (b1:=false)
  (by
   refine(Ag (x:=.int 0) (y:=.int i) (z:=.int rows.length) (b1:=false) (b2:=false) (b3:=false) (b4:=false) (p:=true) (q:=true) rfl rfl (by simp) (by simp) λ_=>?_).trans rfl
   simp;omega) λ_=>by simp[ha,row,at0]
 exact this
theorem Ap (rows:List D) (hr:∀r∈rows,l7 r) (hl:rows.length<=1000) (known:Int) {i:Nat}{r:D}(hg:rows[i]? = some r):gN [.tup rows,.int known,.int i]=some (.bl (rS rows known r),false):=by
 obtain⟨h,kind,aF,rfl,dp⟩:=hr r (List.mem_of_getElem? hg)
 have hk:=Ao hg known
 have ha:=eK hg
 have hword:∀(ρ:DL.Env),f2 ixD (ag 0) (ag 2) ρ=some (row h kind aF,false)->fA aO (ae (f2 ixD (ag 0) (ag 2)) ak) ρ=some (.str kind,false):=λρ e=>ai (ds:=[row h kind aF]) (ao e rfl) (fX _ _ _)
 have hrow:f2 ixD (ag 0) (ag 2) [some (.tup rows,false),some (.int known,false),some (.int i,false),none,none]=some (row h kind aF,false):=by simp[ha]
 have hc:(jc (jf (tOf (fA fD (ae (ag 0) (ae (ag 1) (ae (ag 2) ak)))))) (tOf (f2 fz (fA aO (ae (f2 ixD (ag 0) (ag 2)) ak)) (fC dL)))) [some (.tup rows,false),some (.int known,false),some (.int i,false),none,none]=some (!decide (h<=known) || !d8 kind):=by
  refine ly (rK (aK (b:=false) (ai (ds:=[.tup rows,.int known,.int i]) rfl hk))) λ_=>aK (b:=false) (aA (x:=.str kind) (y:=dL) (b1:=false) (b2:=false) (hword _ hrow) rfl ?_)
  rw[wf,we]
  exact mf kind xC
 have hs:rS rows known (row h kind aF)=((decide (h<=known) && d8 kind) && (lB rows known (y7 (row h kind aF)) (aH (row h kind aF)) && uu rows known (y7 (row h kind aF)) (aH (row h kind aF)))):=rfl
 cases hb:(decide (h<=known) && d8 kind) with
 | false =>
  rw[hs,hb]
  refine aB rfl (da (hc.trans ?_) (aR rfl))
  rw[←Bool.not_and,hb];rfl
 | true =>
  rw[hs,hb]
  rw[Bool.and_eq_true]at hb
  obtain⟨day,p,r',rfl⟩:=dp.slg hb.2
  show _=some (D.bl (true && (lB rows known p day && uu rows known p day)),false)
  rw[Bool.true_and]
  refine aB rfl (bD (hc.trans (by rw[hb.1,hb.2];rfl)) (aU (d:=.str p) (b:=false) (ai (ds:=[row h kind (.int day::.str p::r'),.str "by"]) (ao hrow rfl) (b8 (i:=1) (DW hb.2) rfl)) rfl (aU (d:=.int day) (b:=false) (ai (ds:=[row h kind (.int day::.str p::r')]) (ao (d:=row h kind (.int day::.str p::r')) (b:=false) (by simp[ha]) rfl) (g8 (.inr hb.2) rfl)) rfl (aR ?_))))
  exact lx (b1:=false) (ai (ds:=[.tup rows,.int known,.str p,.int day]) (by simp) (uw rows hr hl known p day)) λ_=>ai (ds:=[.tup rows,.int known,.str p,.int day]) (by simp) (BI rows hr hl known p day)
inductive Cd:Str->List D->Prop
 | root (o r:Str) (m f:Int):Cd ("root" : Str) [.str o,.int m,.int f,.str r]
 | named (d:Int) (o p:Str):Cd ("named" : Str) [.int d,.str o,.str p]
 | chosen (d:Int) (b o p:Str) (s:Int):Cd ("chosen" : Str) [.int d,.str b,.str o,.str p,.int s]
 | heir (d:Int) (b o p:Str):Cd ("heir" : Str) [.int d,.str b,.str o,.str p]
 | three (k:Str) (hk:k=("death" : Str)∨k=("lost" : Str)∨k=("found" : Str)) (d:Int) (p:Str):Cd k [.int d,.str p]
 | other (k:Str) (hk:k=("leave" : Str)∨k=("paper" : Str)∨k=("like" : Str)∨k=("copy" : Str)∨k=("call" : Str)) (d:Int) (b:Str) (r:List D) (hf:aV r=true) (hp:r.all (aj 5)=true):Cd k (.int d::.str b::r)
theorem Cd.deed {k:Str}{r:List D}(h:Cd k r):DeedP k r:=by
 cases h with
 | root o rl m f=>exact⟨rfl,by simp,λh=>absurd h (by decide +kernel),λh=>absurd h (by decide +kernel)⟩
 | named d o p=>exact⟨rfl,by simp,λh=>absurd h (by decide +kernel),λh=>absurd h (by decide +kernel)⟩
 | chosen d b o p s=>exact⟨rfl,by simp,λh=>absurd h (by decide +kernel),λ_=>⟨d,b,_,rfl⟩⟩
 | heir d b o p=>exact⟨rfl,by simp,λh=>absurd h (by decide +kernel),λ_=>⟨d,b,_,rfl⟩⟩
 | three k hk d p=>exact⟨rfl,by simp,λ_=>⟨d,p,rfl⟩,λh=>by rcases hk with rfl|rfl|rfl<;>exact absurd h (by decide +kernel)⟩
 | other k hk d b r hf hp=>exact⟨by simp[hf],by simp only[List.all_cons,hp,aj,Bool.and_true],λh=>by rcases hk with rfl|rfl|rfl|rfl|rfl<;>exact absurd h (by decide +kernel),λ_=>⟨d,b,r,rfl⟩⟩
def pq (r:D):Prop:=∃h k aF,r=row h k aF/\Cd k aF
theorem pq.rp {r:D}(h:pq r):l7 r:=by obtain⟨a,k,aF,rfl,d⟩:=h;exact⟨a,k,aF,rfl,d.deed⟩
def bT (r:D):Bool:=decide (kindOf r=("root" : Str))
theorem Cd.day {k:Str}{r:List D}(h:Cd k r) (hk:k≠("root" : Str)):∃d q,r=.int d::q:=by
 cases h with
 | root=>exact absurd rfl hk
 | named d=>exact⟨d,_,rfl⟩
 | chosen d=>exact⟨d,_,rfl⟩
 | heir d=>exact⟨d,_,rfl⟩
 | three _ _ d=>exact⟨d,_,rfl⟩
 | other _ _ d=>exact⟨d,_,rfl⟩
theorem Cd.day_idx {k:Str}{r:List D}(h:Cd k r) (hk:k≠("root" : Str)):pi fT (.str k) (.str "day")=some (.int 0,false):=by
 cases h with
 | root=>exact absurd rfl hk
 | named=>exact bz (by decide +kernel)
 | chosen=>exact bz (by decide +kernel)
 | heir=>exact bz (by decide +kernel)
 | three _ hh=>rcases hh with rfl|rfl|rfl<;>exact bz (by decide +kernel)
 | other _ hh=>rcases hh with rfl|rfl|rfl|rfl|rfl<;>exact bz (by decide +kernel)
theorem cu {f:FE}{ρ:DL.Env}{a b:Str}{x:Bool}{bb:Bool}(e:f ρ=some (.str a,bb)) (h:decide (a=b)=x):tOf (f2 dEq f (fC (.str b))) ρ=some x:=aK (b:=false) (aA (x:=.str a) (y:=.str b) (b1:=bb) (b2:=false) e rfl (by rw[←h];simp))
def wg (r:D):D:=if bT r=true then .non else .int (aH r)
theorem wj {r:D}(g:pq r):aO [r]=some (.str (kindOf r),false):=by
 obtain⟨h,k,aF,rfl,_⟩:=g
 exact fX h k aF
theorem xD {r:D}(g:pq r):aX [r]=some (wg r,false):=by
 obtain⟨h,k,aF,rfl,d⟩:=g
 unfold wg
 by_cases hk:k=("root" : Str)
 ·have:bT (row h k aF)=true:=decide_eq_true hk
  rw[if_pos this]
  exact aB rfl (da (cu (a:=k) (bb:=false) (ai (ds:=[row h k aF]) rfl (fX _ _ _)) (decide_eq_true hk)) (aR rfl))
 ·have:bT (row h k aF)=false:=decide_eq_false hk
  rw[if_neg (by rw[this];decide)]
  obtain⟨dd,q,rfl⟩:=d.day hk
  exact aB rfl (bD (cu (a:=k) (bb:=false) (ai (ds:=[row h k (.int dd::q)]) rfl (fX _ _ _)) (decide_eq_false hk)) (aR (ai (ds:=[row h k (.int dd::q),.str "day"]) rfl (b8 (i:=0) (d.day_idx hk) rfl))))
def eQ (rows:List D):Prop:=rows.length<=60/\∀r∈rows,pq r
theorem eQ.rp {rows:List D}(g:eQ rows):∀r∈rows,l7 r:=λr hr=>(g.2 r hr).rp
theorem eQ.le {rows:List D}(g:eQ rows):rows.length<=1000:=Nat.le_trans g.1 (by decide)
theorem dq {rows:List D}{known:Int}{x:D×Nat}(h:x∈ax rows known):rows[x.2]? = some x.1:=by
 obtain⟨h1,_⟩:=List.mem_filter.mp h
 exact List.mem_zipIdx_iff_getElem?.mp h1
theorem jz (rows:List D) (known:Int):(ax rows known).length<=rows.length:=by
 have:=List.length_filter_le (λx:D×Nat=>decide (d9 x.1<=known)) rows.zipIdx
 rw[List.length_zipIdx]at this
 exact this
theorem ko (rows:List D) (known:Int):((ax rows known).map (·.2)).Nodup:=by
 have h1:(rows.zipIdx.map (·.2)).Nodup:=by rw[List.zipIdx_map_snd];exact List.nodup_range'
 exact List.Nodup.sublist (List.Sublist.map _ (List.filter_sublist)) h1
def cw (rows:List D) (known:Int):List (D×Nat):=(ax rows known).filter λx=>!bT x.1
def Fw (rows:List D) (known:Int):List (D×Nat):=fR (λx=>cm (kA x)) (cw rows known)
theorem Aq {a b:D×Nat}(h:cm (kA a)=cm (kA b)):a.2=b.2:=by
 have h:[aH a.1,(a.2:Int)]=[aH b.1,(b.2:Int)]:=h
 injection h with _ h
 injection h with h
 omega
theorem BJ {rows:List D}{known:Int}{a b:D×Nat}(ha:a∈ax rows known) (hb:b∈ax rows known) (h:a.2=b.2):a=b:=by
 have h1:=dq ha
 have h2:=dq hb
 rw[h,h2]at h1
 exact Prod.ext (Option.some.inj h1).symm h
theorem ux {rows:List D}(g:eQ rows) (known:Int):dM [.tup rows,.int known]=some (.lst ((Fw rows known).map λx=>.int x.2),true):=by
 have hl:=g.1
 have hll:=jz rows known
 have hrow:∀x∈ax rows known,atI rows (x.2:Int)=some x.1/\pq x.1:=λx hx=>⟨eK (dq hx),g.2 _ (List.mem_of_getElem? (dq hx))⟩
 have hc:=jW (fi:=cQ (fA c9 (ae (ag 0) (ae (ag 1) ak)))) (nT:=1) (cap:=[0]) (tg:=tgN 0) (c:=tOf (f2 gd (fA aX (ae (f2 ixD (ag 1) (ag 0)) ak)) (fC .non))) (fe:=ag 0) (ρ:=[some (.tup rows,false),some (.int known,false),none]) (ax rows known) (λx=>.int x.2) (λx=>!bT x.1) (λx=>.int x.2)
  (by
   show(fA c9 (ae (ag 0) (ae (ag 1) ak)) _).bind _=_
   rw[ai (ds:=[.tup rows,.int known]) rfl (ou rows g.rp g.le known)]
   rfl) (by omega) λx hx=>by
   obtain⟨ha,gx⟩:=hrow x hx
   refine⟨_,rfl,aK (b:=false) (aA (x:=wg x.1) (y:=.non) (b1:=false) (b2:=false) (ai (ds:=[x.1]) (by simp[bW,ha]) (xD gx)) rfl ?_),λ_=>⟨false,by simp[bW]⟩⟩
   unfold wg
   cases bT x.1<;>simp[yg]
 have hc':cz (cQ (fA c9 (ae (ag 0) (ae (ag 1) ak)))) 1 [0] (tgN 0) (tOf (f2 gd (fA aX (ae (f2 ixD (ag 1) (ag 0)) ak)) (fC .non))) (ag 0) [some (.tup rows,false),some (.int known,false),none]=some (.lst ((cw rows known).map λx=>.int x.2),true):=hc
 have hfl:aV ((cw rows known).map λx=>D.int x.2)=true:=bF λd hd=>by obtain⟨x,_,rfl⟩:=List.mem_map.mp hd;rfl
 have hdl:(cw rows known).length<=60:=Nat.le_trans (List.length_filter_le _ _) (by omega)
 have hmem:∀x∈cw rows known,x∈ax rows known/\bT x.1=false:=λx hx=>by
  obtain⟨h1,h2⟩:=List.mem_filter.mp hx
  exact⟨h1,by simpa using h2⟩
 have hm:∀ρ:DL.Env,ρ[0]? = some (some (.tup rows,false))->hU (ua [0] (fA dn (ae (ag 1) (ae (ag 0) ak))) ρ) ((cw rows known).map λx=>.int x.2)=some ((cw rows known).map λx=>.tup [.int (aH x.1),.int x.2]):=λρ h0 =>
  g9 (cw rows known) λx hx=>by
   obtain⟨h1,h2⟩:=hmem x hx
   obtain⟨ha,gx⟩:=hrow x h1
   have hd:=xD gx
   unfold wg at hd
   rw[h2,if_neg (by decide)]at hd
   have hr:dn [.tup rows,.int x.2]=some (.tup [.int (aH x.1),.int x.2],false):=aB rfl (aR (ai (ds:=[.int (aH x.1),.int x.2]) (ao (d:=.int (aH x.1)) (b:=false) (ai (ds:=[x.1]) (by simp[ha]) hd) rfl) (by simp[sizeLine])))
   show(fA dn _ _).map _=_
   rw[ai (ds:=[.tup rows,.int x.2]) (by simp[bW,h0]) hr]
   rfl
 have hk:cW ((cw rows known).map λx=>D.tup [.int (aH x.1),.int x.2])=some ((cw rows known).map kA):=fm _ λx _=>rfl
 have hz:((cw rows known).map kA).zip ((cw rows known).map λx=>D.int x.2)=(cw rows known).map λx=>(kA x,D.int x.2):=by rw[List.zip_map']
 have hnd:((cw rows known).map (·.2)).Nodup:=List.Nodup.sublist (List.Sublist.map _ (List.filter_sublist)) (ko rows known)
 have hcond:((cw rows known).map kA).length<64/\eC ((cw rows known).map kA)=true/\d5 ((cw rows known).map kA)=true/\(((cw rows known).map kA).map cm).Nodup:=by
  refine⟨by rw[List.length_map];omega,rR _, ?_, ?_⟩
  ·unfold d5
   rw[Bool.or_eq_true]
   left
   simp[List.all_eq_true,kA]
  ·rw[List.map_map]
   exact List.Pairwise.map _ (λa b h e=>h (Aq e)) (List.pairwise_map.mp hnd)
 refine aB rfl (cb hc' hfl (aR ?_))
 show(lr (ag 2) _ _)=_
 unfold lr
 show((some (D.lst ((cw rows known).map λx=>D.int x.2),false)).bind _)=_
 simp only[Option.bind_some]
 rw[hm _ rfl]
 simp only[Option.bind_some]
 rw[hk]
 simp only[Option.bind_some]
 rw[if_pos hcond]
 unfold im
 rw[hz]
 have key:((Fw rows known).map λx=>(kA x,D.int x.2))=fR (λp:List At×D=>cm p.1) ((cw rows known).map λx=>(kA x,D.int x.2)):=by
  refine jP _ (λx hx y hy e=>?_) ((bP _ _).map _) ?_
  ·obtain⟨a,ha,rfl⟩:=List.mem_map.mp hx
   obtain⟨b,hb,rfl⟩:=List.mem_map.mp hy
   rw[BJ (hmem a ha).1 (hmem b hb).1 (Aq e)]
  ·exact List.pairwise_map.mpr (f7 _ _)
 rw[←key,List.map_map]
 rfl
structure Cl where
 o:Str
 p:Str
 s:Int
 u:Option Int
 n:Nat
def uD:Option Int->D
 | none=>.non
 | some x=>.int x
def clD (c:Cl):D:=.tup [.str c.o,.str c.p,.int c.s,uD c.u,.int c.n]
theorem BK (u:Option Int):bo (uD u)=true:=by cases u<;>rfl
theorem fG (c:Cl):bo (clD c)=true:=by simp[clD,BK]
theorem fH (cs:List Cl):aV (cs.map clD)=true:=bF λd hd=>by obtain⟨c,_,rfl⟩:=List.mem_map.mp hd;exact fG c
def bG (c:Cl) (day:Int):Bool:=decide (c.s<=day) && (match c.u with|none=>true|some x=>decide (day<x))
theorem at3 (d e f g:D) (r:List D):atI (d::e::f::g::r) 3=some g:=by have:=iq (xs:=d::e::f::g::r) (j:=3) (by simp);simpa using this
theorem at4 (d e f g h:D) (r:List D):atI (d::e::f::g::h::r) 4=some h:=by have:=iq (xs:=d::e::f::g::h::r) (j:=4) (by simp);simpa using this
theorem cl0 (c:Cl):ixD (clD c) (.int 0)=some (.str c.o,false):=by simp[clD,at0]
theorem cl1 (c:Cl):ixD (clD c) (.int 1)=some (.str c.p,false):=by simp[clD,at1]
theorem cl2 (c:Cl):ixD (clD c) (.int 2)=some (.int c.s,false):=by simp[clD,at2]
theorem cl3 (c:Cl):ixD (clD c) (.int 3)=some (uD c.u,false):=by simp[clD,at3]
theorem cl4 (c:Cl):ixD (clD c) (.int 4)=some (.int c.n,false):=by simp[clD,at4]
theorem bx (ds:List D) (h:ds.length<=100):aP ds=some (.tup ds,false):=if_pos (bv (by omega))
theorem dO (ds:List D) (h:ds.length<=100):bB ds=some (.lst ds,true):=if_pos (bv (by omega))
theorem BL (s day:Int) (u:Option Int):iS [.int day,.tup [.int s,uD u]]=some (.bl (decide (s<=day) && (match u with|none=>true|some x=>decide (day<x))),false):=by
 refine aB rfl (aR (lx (b1:=false) (by simp[at0]) λ_=>?_))
 cases u with
 | none=>exact CG (p:=true) (q:=true) (b1:=false) (by simp[at1,uD]) (by simp)
 | some x=>exact CG (p:=false) (q:=decide (day<x)) (b1:=false) (by simp[at1,uD]) λ_=>by simp[at1,uD]
theorem oz (c:Cl) (day:Int):bE [clD c,.int day]=some (.bl (bG c day),false) :=
 aB rfl (aR (ai (ds:=[.int day,.tup [.int c.s,uD c.u]]) (ao (b:=false) rfl (ao (b:=false) (ai (ds:=[.int c.s,uD c.u]) (ao (aA (x:=clD c) (y:=.int 2) (b1:=false) (b2:=false) rfl rfl (cl2 c)) (ao (aA (x:=clD c) (y:=.int 3) (b1:=false) (b2:=false) rfl rfl (cl3 c)) rfl)) (bx _ (by simp))) rfl)) (BL c.s day c.u)))
theorem uy (c:Cl):bX [clD c]=some (.tup [.int c.s,.int c.n],false) :=
 aB rfl (aR (ai (ds:=[.int c.s,.int c.n]) (ao (aA (x:=clD c) (y:=.int 2) (b1:=false) (b2:=false) rfl rfl (cl2 c)) (ao (aA (x:=clD c) (y:=.int 4) (b1:=false) (b2:=false) rfl rfl (cl4 c)) rfl)) (bx _ (by simp))))
theorem rT (c:Cl):dv [clD c]=some (.tup [.str c.o,.int c.s,.int c.n],false) :=
 aB rfl (aR (ai (ds:=[.str c.o,.int c.s,.int c.n]) (ao (aA (x:=clD c) (y:=.int 0) (b1:=false) (b2:=false) rfl rfl (cl0 c)) (ao (aA (x:=clD c) (y:=.int 2) (b1:=false) (b2:=false) rfl rfl (cl2 c)) (ao (aA (x:=clD c) (y:=.int 4) (b1:=false) (b2:=false) rfl rfl (cl4 c)) rfl))) (bx _ (by simp))))
def kS (c:Cl):List At:=[.i c.s,.i c.n]
def kq:Cl->List Cl->Cl
 | b,[]=>b
 | b,x::r=>if bu (kS x) (kS b)=some true then kq x r else kq b r
def pr:Cl->List Cl->Cl
 | b,[]=>b
 | b,x::r=>if bu (kS b) (kS x)=some true then pr x r else pr b r
theorem o0:∀(r:List Cl) (b:Cl),jk (kS b,clD b) (r.map λx=>(kS x,clD x))=clD (kq b r)
 | [],b=>rfl
 | x::r,b=>by
  rw[List.map_cons,jk,kq]
  split
  ·exact o0 r x
  ·exact o0 r b
theorem o3:∀(r:List Cl) (b:Cl),jS (kS b,clD b) (r.map λx=>(kS x,clD x))=clD (pr b r)
 | [],b=>rfl
 | x::r,b=>by
  rw[List.map_cons,jS,pr]
  split
  ·exact o3 r x
  ·exact o3 r b
theorem xE (cs:List Cl):eC (cs.map kS)=true:=by
 unfold eC
 simp[List.all_eq_true,kS,Fv]
theorem o4 (ρ:DL.Env) (cs:List Cl):hU (pj bX ρ) (cs.map clD)=some (cs.map λc=>.tup [.int c.s,.int c.n]):=g9 cs λc _=>by
 show(bX [clD c]).map _=_
 rw[uy]
 rfl
theorem mh (cs:List Cl):cW (cs.map λc=>D.tup [.int c.s,.int c.n])=some (cs.map kS):=fm cs λc _=>rfl
theorem Ar {f:FE}{ρ:DL.Env}{b:Cl}{r:List Cl}{bb:Bool}(e:f ρ=some (.lst ((b::r).map clD),bb)):pY f (pj bX) ρ=some (clD (kq b r),false):=by
 unfold pY fKK
 rw[e,Option.bind_some]
 dsimp only
 rw[o4,Option.bind_some,mh,Option.bind_some,if_pos (xE _)]
 have:((b::r).map kS).zip ((b::r).map clD)=(kS b,clD b)::r.map λx=>(kS x,clD x):=by rw[List.zip_map'];rfl
 rw[this]
 show some (jk _ _,false)=_
 rw[o0]
theorem DX {f:FE}{ρ:DL.Env}{b:Cl}{r:List Cl}{bb:Bool}(e:f ρ=some (.lst ((b::r).map clD),bb)):pX f (pj bX) ρ=some (clD (pr b r),false):=by
 unfold pX fKK
 rw[e,Option.bind_some]
 dsimp only
 rw[o4,Option.bind_some,mh,Option.bind_some,if_pos (xE _)]
 have:((b::r).map kS).zip ((b::r).map clD)=(kS b,clD b)::r.map λx=>(kS x,clD x):=by rw[List.zip_map'];rfl
 rw[this]
 show some (jS _ _,false)=_
 rw[o3]
def eM (rl:Str) (b:Cl) (r:List Cl):Cl:=if rl=("last" : Str)then pr b r else kq b r
theorem As (rl:Str) (b:Cl) (r:List Cl):gO [.lst ((b::r).map clD),.str rl]=some (.str (eM rl b r).p,false):=by
 unfold eM
 by_cases h:rl=("last" : Str)
 ·rw[if_pos h]
  exact aB rfl (da (cu (a:=rl) (bb:=false) rfl (decide_eq_true h)) (aR (aA (x:=clD (pr b r)) (y:=.int 1) (b1:=false) (b2:=false) (DX (bb:=false) rfl) rfl (cl1 _))))
 ·rw[if_neg h]
  exact aB rfl (bD (cu (a:=rl) (bb:=false) rfl (decide_eq_false h)) (aR (aA (x:=clD (kq b r)) (y:=.int 1) (b1:=false) (b2:=false) (Ar (bb:=false) rfl) rfl (cl1 _))))
theorem o5:∀(r:List Cl) (b:Cl),kq b r∈b::r
 | [],b=>by simp[kq]
 | x::r,b=>by
  rw[kq]
  split
  ·exact mZ _ (o5 r x)
  ·rcases List.mem_cons.mp (o5 r b)with h|h
   ·rw[h];exact mX
   ·exact mZ _ (mZ _ h)
theorem o6:∀(r:List Cl) (b:Cl),pr b r∈b::r
 | [],b=>by simp[pr]
 | x::r,b=>by
  rw[pr]
  split
  ·exact mZ _ (o6 r x)
  ·rcases List.mem_cons.mp (o6 r b)with h|h
   ·rw[h];exact mX
   ·exact mZ _ (mZ _ h)
theorem qm (rl:Str) (b:Cl) (r:List Cl):eM rl b r∈b::r:=by
 unfold eM
 split
 ·exact o6 r b
 ·exact o5 r b
def alL (cs:List Cl) (o:Str) (day:Int):List Cl:=cs.filter λc=>decide (c.o=o) && bG c day
def j0 (cs:List Cl):List Str:=jj (fM (cs.map (·.p)))
def Fx:List Cl->Nat
 | []=>0
 | b::r=>(kq b r).n
def i7 (rl:Str):List Cl->D
 | []=>.tup [.str "none"]
 | b::r=>if 1<(j0 (b::r)).length/\rl=("open" : Str)then .tup [.str "parted",.lst ((j0 (b::r)).map .str)]
  else .tup [.str "one",.str (eM rl b r).p,.int (Fx ((b::r).filter λc=>decide (c.p=(eM rl b r).p)))]
def mn (cs:List Cl) (o rl:Str) (day:Int):D:=i7 rl (alL cs o day)
theorem BM {z:Str}{zs:List Str}:fM (z::zs)≠[]:=by
 have:∀(ss:List Str) (ts:List Str),z∈ts->z∈ss.foldl gZ ts:=λss=>by
  induction ss with
  | nil=>intro ts h;exact h
  | cons a l ih=>intro ts h;exact ih _ (tK.mpr (.inl h))
 have h:=this zs (gZ [] z) (tK.mpr (.inr rfl))
 intro e
 unfold fM at e
 rw[List.foldl_cons]at e
 rw[e]at h
 cases h
theorem mo {h:Int}{o rl:Str}{m f:Int}:au [row h ("root" : Str) [.str o,.int m,.int f,.str rl],.str "office"]=some (.str o,false):=b8 (i:=0) (bz (by decide +kernel)) rfl
theorem y8 {h:Int}{o rl:Str}{m f:Int}:au [row h ("root" : Str) [.str o,.int m,.int f,.str rl],.str "rule"]=some (.str rl,false):=b8 (i:=3) (bz (by decide +kernel)) rfl
theorem uz (zs:List Str):fQ (zs.map .str)=some zs:=by
 induction zs with
 | nil=>rfl
 | cons z zs ih=>simp[ih]
theorem kx (cs:List Cl) (hl:cs.length<=60) {h:Int}{o rl:Str}{m f:Int}(day:Int):c6 [.lst (cs.map clD),row h ("root" : Str) [.str o,.int m,.int f,.str rl],.int day]=some (mn cs o rl day,false):=by
 let rt:D:=row h ("root" : Str) [.str o,.int m,.int f,.str rl]
 have h1:=jW (fi:=cQ (ag 0)) (nT:=1) (cap:=[2,1]) (tg:=tgN 0) (c:=ft (tOf (f2 dEq (f2 ixD (ag 0) (fC (.int 0))) (fA au (ae (ag 2) (ae (fC (.str "office")) ak))))) (tOf (fA bE (ae (ag 0) (ae (ag 1) ak))))) (fe:=ag 0)
  (ρ:=[some (.lst (cs.map clD),false),some (rt,false),some (.int day,false),none,none,none,none]) cs clD (λc=>decide (c.o=o) && bG c day) clD (by simp) (by omega) λc hc=>by
   refine⟨_,rfl,gK (aK (b:=false) (aA (x:=.str c.o) (y:=.str o) (b1:=false) (b2:=false) (aA (x:=clD c) (y:=.int 0) (b1:=false) (b2:=false) (by simp[bW]) rfl (cl0 c)) (ai (ds:=[rt,.str "office"]) (by simp[bW]) mo) (by simp))) λ_=>aK (b:=false) (ai (ds:=[clD c,.int day]) (by simp[bW]) (oz c day)),λ_=>⟨false,by simp[bW]⟩⟩
 have h1':cz (cQ (ag 0)) 1 [2,1] (tgN 0) (ft (tOf (f2 dEq (f2 ixD (ag 0) (fC (.int 0))) (fA au (ae (ag 2) (ae (fC (.str "office")) ak))))) (tOf (fA bE (ae (ag 0) (ae (ag 1) ak))))) (ag 0) [some (.lst (cs.map clD),false),some (rt,false),some (.int day,false),none,none,none,none]=some (.lst ((alL cs o day).map clD),true):=h1
 have hal:(alL cs o day).length<=60:=Nat.le_trans (List.length_filter_le _ _) hl
 unfold mn
 generalize alL cs o day=al at h1' hal
 have h2:∀ρ:DL.Env,ρ[3]? = some (some (.lst (al.map clD),true))->f1 eB (cz (cQ (ag 3)) 1 [] (tgN 0) lQ (f2 ixD (ag 0) (fC (.int 1)))) ρ=some (.lst ((j0 al).map .str),true):=λρ h3=>by
  have hc:=xo (fi:=cQ (ag 3)) (nT:=1) (cap:=[]) (tg:=tgN 0) (fe:=f2 ixD (ag 0) (fC (.int 1))) (ρ:=ρ) al clD (λc=>.str c.p) (by simp[h3]) (by omega) λc hc=>⟨_,rfl,false,aA (x:=clD c) (y:=.int 1) (b1:=false) (b2:=false) (by simp[bW]) rfl (cl1 c)⟩
  have e2:al.map (λc=>D.str c.p)=(al.map (·.p)).map .str:=by rw[List.map_map];rfl
  rw[e2]at hc
  unfold f1
  rw[hc,Option.bind_some]
  show(fQ ((al.map (·.p)).map .str)).bind _=_
  rw[uz,Option.bind_some,if_pos (by rw[List.length_map];omega)]
  rfl
 have hpl:aV ((j0 al).map D.str)=true:=iz _
 refine aB rfl (cb (ds:=al.map clD) h1' (fH al) (cb (ds:=(j0 al).map .str) (h2 _ rfl) hpl ?_))
 cases al with
 | nil=>exact da (aK (b:=false) (by simp[j0,fM,jj])) (aR (ai (ds:=[.str "none"]) rfl (bx _ (by simp))))
 | cons b r =>
  have hne:(j0 (b::r)).length≠0:=by
   unfold j0
   rw[(dJ _).length_eq]
   intro e
   exact BM (List.length_eq_zero_iff.mp e)
  refine bD (aK (b:=false) (by simp[hne])) ?_
  have hrule:∀ρ:DL.Env,ρ[1]? = some (some (rt,false))->fA au (ae (ag 1) (ae (fC (.str "rule")) ak)) ρ=some (.str rl,false):=λρ q1=>ai (ds:=[rt,.str "rule"]) (by simp[q1]) y8
  by_cases hp:1<(j0 (b::r)).length/\rl=("open" : Str)
  ·have:i7 rl (b::r)=.tup [.str "parted",.lst ((j0 (b::r)).map .str)]:=by rw[i7,if_pos hp]
   rw[this]
   exact da (gK (p:=true) (q:=true) (aK (b:=false) (by simp;omega)) λ_=>cu (bb:=false) (hrule _ rfl) (decide_eq_true hp.2)) (aR (ai (ds:=[.str "parted",.lst ((j0 (b::r)).map .str)]) (by simp) (bx _ (by simp))))
  ·have:i7 rl (b::r)=.tup [.str "one",.str (eM rl b r).p,.int (Fx ((b::r).filter λc=>decide (c.p=(eM rl b r).p)))]:=by rw[i7,if_neg hp]
   rw[this]
   have hcond:ft (tOf (f2 iGt (fA cH (ae (ag 4) ak)) (fC (.int 1)))) (tOf (f2 dEq (fA au (ae (ag 1) (ae (fC (.str "rule")) ak))) (fC (.str "open")))) [some (.lst (cs.map clD),false),some (rt,false),some (.int day,false),some (.lst ((b::r).map clD),true),some (.lst ((j0 (b::r)).map .str),true),none,none]=some false:=by
    by_cases h5:1<(j0 (b::r)).length
    ·exact gK (p:=true) (q:=false) (aK (b:=false) (by simp;omega)) λ_=>cu (bb:=false) (hrule _ rfl) (decide_eq_false λe=>hp ⟨h5,e⟩)
    ·exact gK (p:=false) (q:=false) (aK (b:=false) (by simp;omega)) (by simp)
   have hmem:=qm rl b r
   let ch:=eM rl b r
   have h6:=jW (fi:=cQ (ag 3)) (nT:=1) (cap:=[5]) (tg:=tgN 0) (c:=tOf (f2 dEq (f2 ixD (ag 0) (fC (.int 1))) (ag 1))) (fe:=ag 0) (ρ:=[some (.lst (cs.map clD),false),some (rt,false),some (.int day,false),some (.lst ((b::r).map clD),true),some (.lst ((j0 (b::r)).map .str),true),some (.str ch.p,false),none]) (b::r) clD (λc=>decide (c.p=ch.p)) clD (by simp) (by omega) λc hc=>⟨_,rfl,aK (b:=false) (aA (x:=.str c.p) (y:=.str ch.p) (b1:=false) (b2:=false) (aA (x:=clD c) (y:=.int 1) (b1:=false) (b2:=false) (by simp[bW]) rfl (cl1 c)) (by simp[bW]) (by simp)),λ_=>⟨false,by simp[bW]⟩⟩
   obtain⟨b2,r2,hf⟩:∃b2 r2,(b::r).filter (λc=>decide (c.p=ch.p))=b2::r2:=by
    cases hq:(b::r).filter (λc=>decide (c.p=ch.p)) with
    | nil =>
     have:=List.filter_eq_nil_iff.mp hq _ hmem
     simp[ch]at this
    | cons b2 r2=>exact⟨b2,r2,rfl⟩
   rw[hf]at h6 ⊢
   refine bD hcond (aU (d:=.str ch.p) (b:=false) (ai (ds:=[.lst ((b::r).map clD),.str rl]) (ao (b:=false) (by simp) (ao (hrule _ rfl) rfl)) (As rl b r)) rfl (aU (d:=clD (kq b2 r2)) (b:=false) (Ar (bb:=true) h6) (fG _) (aR (ai (ds:=[.str "one",.str ch.p,.int (kq b2 r2).n]) (ao (b:=false) rfl (ao (b:=false) rfl (ao (aA (x:=clD (kq b2 r2)) (y:=.int 4) (b1:=false) (b2:=false) rfl rfl (cl4 _)) rfl))) (bx _ (by simp))))))
def CI:D->D
 | .tup ds=>.tup (ib ds none (some 2))
 | d=>d
def gU (cs:List Cl) (o rl p:Str) (day:Int):Bool:=eqD (CI (mn cs o rl day)) (.tup [.str "one",.str p])
theorem wl (n:Nat) (zs:List Str):(zs.map D.str).all (aj n)=true:=by
 induction zs with
 | nil=>rfl
 | cons a l ih=>simp
theorem y9 (rl:Str) (al:List Cl):∃ds,i7 rl al=.tup ds/\ds.all (aj 5)=true:=by
 cases al with
 | nil=>exact⟨_,rfl,by simp⟩
 | cons b r =>
  rw[i7]
  split
  ·exact⟨_,rfl,by simp only[List.all_cons,List.all_nil,aj,Bool.and_true,Bool.true_and];exact wl _ _⟩
  ·exact⟨_,rfl,by simp⟩
theorem Au {ds:List D}{lo hi:Option Int}(h:ds.all (aj 5)=true):(ib ds lo hi).all (aj 5)=true:=by
 rw[List.all_eq_true]at h ⊢
 exact λd hd=>h d (List.mem_of_mem_drop (List.mem_of_mem_take hd))
theorem cx {ds:List D}(h:ds.all (aj 5)=true):aj 40 (.tup ds)=true:=gP 6 40 _ (by decide) (by simpa only[aj]using h)
theorem BN (cs:List Cl) (hl:cs.length<=60) {h:Int}{o rl:Str}{m f:Int}(p:Str) (day:Int):d6 [.lst (cs.map clD),row h ("root" : Str) [.str o,.int m,.int f,.str rl],.str p,.int day]=some (.bl (gU cs o rl p day),false):=by
 have hb:=kx cs hl (h:=h) (o:=o) (rl:=rl) (m:=m) (f:=f) day
 obtain⟨ds,e,hd⟩:=y9 rl (alL cs o day)
 have e':mn cs o rl day=.tup ds:=e
 refine aB rfl (aR (aA (x:=CI (mn cs o rl day)) (y:=.tup [.str "one",.str p]) (b1:=false) (b2:=false) ?_ (by simp[sizeLine]) ?_))
 ·have hc:=ai (F:=c6) (fa:=ae (ag 0) (ae (ag 1) (ae (ag 3) ak))) (ρ:=[some (.lst (cs.map clD),false),some (row h ("root" : Str) [.str o,.int m,.int f,.str rl],false),some (.str p,false),some (.int day,false)]) (ds:=[.lst (cs.map clD),row h ("root" : Str) [.str o,.int m,.int f,.str rl],.int day]) rfl hb
  rw[e']at hc ⊢
  show fSl (fA c6 (ae (ag 0) (ae (ag 1) (ae (ag 3) ak)))) eu (dF (fC (.int 2))) _=_
  unfold fSl
  rw[show(List.map (λd=>some (d,false)) [D.lst (cs.map clD),row h ("root" : Str) [.str o,.int m,.int f,.str rl],.str p,.int day]++List.replicate 0 none:DL.Env)=[some (.lst (cs.map clD),false),some (row h ("root" : Str) [.str o,.int m,.int f,.str rl],false),some (.str p,false),some (.int day,false)]from rfl,hc]
  rfl
 ·unfold gU dEq
  rw[if_pos]
  rw[e']
  exact⟨cx (Au hd),cx (by simp)⟩
def az (j:Nat):D->Str
 | .tup [_,.tup (_::aF)]=>match aF[j]? with
  | some (.str s)=>s
  | _=>("" : Str)
 | _=>("" : Str)
def qo (j:Nat):D->Int
 | .tup [_,.tup (_::aF)]=>match aF[j]? with
  | some (.int s)=>s
  | _=>0
 | _=>0
theorem Cd.root_of {r:List D}(h:Cd ("root" : Str) r):∃o rl,∃m f:Int,r=[.str o,.int m,.int f,.str rl]:=by
 generalize hk:("root" : Str)=k at h
 cases h with
 | root o rl m f=>exact⟨o,rl,m,f,rfl⟩
 | named=>exact absurd hk (by decide +kernel)
 | chosen=>exact absurd hk (by decide +kernel)
 | heir=>exact absurd hk (by decide +kernel)
 | three _ hh=>rcases hh with rfl|rfl|rfl<;>exact absurd hk (by decide +kernel)
 | other _ hh=>rcases hh with rfl|rfl|rfl|rfl|rfl<;>exact absurd hk (by decide +kernel)
theorem lC {κ α:Type}[DecidableEq κ] {ks:List κ}{k:κ}{x y:α}:∀ {xs:List α},y∈cL ks xs k x->y=x∨y∈xs:=by
 intro xs h
 unfold cL at h
 split at h
 ·rename_i hk0
  clear hk0
  induction ks generalizing xs with
  | nil=>simp at h
  | cons a ks ih =>
   cases xs with
   | nil=>simp at h
   | cons b xs =>
    rw[List.zipWith_cons_cons,List.mem_cons]at h
    rcases h with h|h
    ·split at h
     ·exact .inl h
     ·exact .inr (by rw[h];exact mX)
    ·rcases ih h with h|h
     ·exact .inl h
     ·exact .inr (mZ _ h)
 ·rcases List.mem_append.mp h with h|h
  ·exact .inr h
  ·exact .inl (List.mem_singleton.mp h)
theorem qp:∀(l:List (Key×D)) (a:List Key×List D) (y:D),y∈(l.foldl rH a).2->y∈a.2 ∨ ∃p∈l,p.2=y
 | [],a,y,h=>.inl h
 | p::l,a,y,h=>by
  rw[List.foldl_cons]at h
  rcases qp l _ y h with h|⟨q,hq,e⟩
  ·rcases lC (show y∈cL a.1 a.2 p.1 p.2 from h)with h|h
   ·exact .inr ⟨p,mX,h.symm⟩
   ·exact .inl h
  ·exact .inr ⟨q,mZ _ hq,e⟩
theorem qq {α:Type}(f:α->Str) (g:α->D):∀(l:List α),gf (l.map λx=>D.tup [.str (f x),g x])=some (l.map λx=>(.inr (f x),g x))
 | []=>rfl
 | x::l=>by
  rw[List.map_cons,gf,qq f g l]
  rfl
theorem ky {κ:Type}[DecidableEq κ]:∀ {ks:List κ}{vs:List D}{k:κ}{v:D},cj ks vs k=some v->v∈vs
 | k'::ks,d::ds,k,v,h=>by
  unfold cj at h
  split at h
  ·cases h;exact mX
  ·exact mZ _ (ky h)
 | [],_,_,_,h=>by simp[cj]at h
 | _::_,[],_,_,h=>by simp[cj]at h
def jm (KL:List (D×Nat)):List (Key×D):=(KL.filter λx=>bT x.1).map λx=>(.inr (az 0 x.1),x.1)
def fJ (KL:List (D×Nat)) (o:Str):Option D:=cj (b9 (jm KL)).1 (b9 (jm KL)).2 (.inr o)
theorem o7 {r:D}(g:pq r) (h:bT r=true):∃a o rl,∃m f:Int,r=row a ("root" : Str) [.str o,.int m,.int f,.str rl]:=by
 obtain⟨a,k,aF,rfl,d⟩:=g
 have hk:k=("root" : Str):=of_decide_eq_true h
 subst hk
 obtain⟨o,rl,m,f,rfl⟩:=d.root_of
 exact⟨a,o,rl,m,f,rfl⟩
theorem cC {rows:List D}(g:eQ rows) {known:Int}{x:D×Nat}(hx:x∈ax rows known):atI rows (x.2:Int)=some x.1/\pq x.1:=⟨eK (dq hx),g.2 _ (List.mem_of_getElem? (dq hx))⟩
theorem mq {rows:List D}(g:eQ rows) {known:Int}{o:Str}{v:D}(h:fJ (ax rows known) o=some v):∃a o2 rl,∃m f:Int,v=row a ("root" : Str) [.str o2,.int m,.int f,.str rl]:=by
 have hv:=ky h
 rcases qp _ ([],[]) v hv with h|⟨p,hp,e⟩
 ·cases h
 ·obtain⟨x,hx,rfl⟩:=List.mem_map.mp hp
  obtain⟨h1,h2⟩:=List.mem_filter.mp hx
  rw[←e]
  exact o7 (cC g h1).2 h2
theorem u0 {rows:List D}(g:eQ rows) (known:Int):fU [.tup rows,.int known]=some (.dk (b9 (jm (ax rows known))).1 (b9 (jm (ax rows known))).2,false):=by
 have hl:=jz rows known
 have hl2:=g.1
 have h1:=xo (fi:=cQ (fA c9 (ae (ag 0) (ae (ag 1) ak)))) (nT:=1) (cap:=[0]) (tg:=tgN 0) (fe:=f2 ixD (ag 1) (ag 0)) (ρ:=[some (.tup rows,false),some (.int known,false),none]) (ax rows known) (λx=>.int x.2) Prod.fst
  (by
   show(fA c9 (ae (ag 0) (ae (ag 1) ak)) _).bind _=_
   rw[ai (ds:=[.tup rows,.int known]) rfl (ou rows g.rp g.le known)]
   rfl) (by omega) λx hx=>by
   have ha:=(cC g hx).1
   exact⟨_,rfl,false,by simp[bW,ha]⟩
 have hn:aV ((ax rows known).map Prod.fst)=true:=bF λd hd=>by
  obtain⟨x,hx,rfl⟩:=List.mem_map.mp hd
  exact(cC g hx).2.rp.flat
 have h2:=jW (fi:=cQ (ag 2)) (nT:=1) (cap:=[]) (tg:=tgN 0) (c:=tOf (f2 dEq (fA aO (ae (ag 0) ak)) (fC (.str "root")))) (fe:=fA aP (ae (fA au (ae (ag 0) (ae (fC (.str "office")) ak))) (ae (ag 0) ak)))
  (ρ:=[some (.tup rows,false),some (.int known,false),some (.lst ((ax rows known).map Prod.fst),true)]) (ax rows known) Prod.fst (λx=>bT x.1) (λx=>.tup [.str (az 0 x.1),x.1]) (by simp) (by omega) λx hx=>by
   have gr:=(cC g hx).2
   refine⟨_,rfl,cu (a:=kindOf x.1) (bb:=false) (ai (ds:=[x.1]) rfl (wj gr)) rfl,λhp=>⟨false, ?_⟩⟩
   obtain⟨a,o,rl,m,f,e⟩:=o7 gr hp
   refine ai (ds:=[.str (az 0 x.1),x.1]) (ao (b:=false) (ai (ds:=[x.1,.str "office"]) rfl ?_) rfl) (bx _ (by simp))
   rw[e]
   exact mo
 refine aB rfl (cb (ds:=(ax rows known).map Prod.fst) h1 hn (aR (ai (ds:=[.lst (((ax rows known).filter λx:D×Nat=>bT x.1).map λx:D×Nat=>D.tup [.str (az 0 x.1),x.1])]) (ao h2 rfl) ?_)))
 rw[gJ,qq (λx:D×Nat=>az 0 x.1) Prod.fst]
 rfl
def lD:D×Nat->List (D×Nat)->D×Nat
 | b,[]=>b
 | b,x::r=>if bu (kA x) (kA b)=some true then lD x r else lD b r
theorem rV:∀(r:List (D×Nat)) (b:D×Nat),jk (kA b,.int b.2) (r.map λx=>(kA x,D.int x.2))=.int (lD b r).2
 | [],b=>rfl
 | x::r,b=>by
  rw[List.map_cons,jk,lD]
  split
  ·exact rV r x
  ·exact rV r b
def dA (KL:List (D×Nat)) (p:Str) (day:Int) (i:Nat):Bool:=match KL.filter (λx=>told bS p day x.1) with
 | []=>false
 | b::r=>decide ((lD b r).2=i)
theorem Av {rows:List D}(g:eQ rows) (known:Int) {x:D×Nat}(hx:x∈ax rows known) {a d:Int}{p:Str}(e:x.1=row a ("death" : Str) [.int d,.str p]):cS [.tup rows,.int known,.int x.2]=some (.bl (dA (ax rows known) p d x.2),false):=by
 have ha:=(cC g hx).1
 have gx:=(cC g hx).2
 have ht:=rP rows g.rp g.le known bS gQ p d
 have hpart:au [x.1,.str "person"]=some (.str p,false):=by rw[e];exact b8 (i:=1) (bz (by decide +kernel)) rfl
 have hday:aX [x.1]=some (.int d,false):=by rw[e];exact g8 (.inl (by decide +kernel)) rfl
 have hmem:x∈mH rows known bS p d:=List.mem_filter.mpr ⟨hx,by rw[e];simp[told,row,bS,ma]⟩
 have hfv:dA (ax rows known) p d x.2=match mH rows known bS p d with|[]=>false|b::r=>decide ((lD b r).2=x.2):=rfl
 have key:∀y∈mH rows known bS p d,∃h k dd,rows[y.2]? = some (row h k [.int dd,.str p])/\y.1=row h k [.int dd,.str p]/\cq k=true:=λy hy=>by
  obtain⟨hg,htl⟩:=xA hy
  obtain⟨h,k,dd,e2,h3,_⟩:=oy gQ (g.rp _ (List.mem_of_getElem? hg)) htl
  exact⟨h,k,dd,by rw[hg,e2],e2,h3⟩
 rw[hfv]
 cases hs:mH rows known bS p d with
 | nil=>rw[hs]at hmem;cases hmem
 | cons b r =>
  rw[hs]at ht key
  have hm:∀ρ:DL.Env,ρ[0]? = some (some (.tup rows,false))->hU (ua [0] (fA dn (ae (ag 1) (ae (ag 0) ak))) ρ) ((b::r).map λy=>.int y.2)=some ((b::r).map λy=>.tup [.int (aH y.1),.int y.2]):=λρ h0 =>
   g9 (b::r) λy hy=>by
    obtain⟨h,k,dd,hg,e2,h3⟩:=key y hy
    show(fA dn _ _).map _=_
    rw[ai (ds:=[.tup rows,.int y.2]) (by simp[bW,h0]) (xB hg h3),e2]
    rfl
  have hk:cW ((b::r).map λy=>D.tup [.int (aH y.1),.int y.2])=some ((b::r).map kA):=fm _ λy _=>rfl
  have hz:((b::r).map kA).zip ((b::r).map λy=>D.int y.2)=(kA b,D.int b.2)::r.map λy=>(kA y,D.int y.2):=by rw[List.zip_map'];rfl
  have hfl:aV ((b::r).map λy=>D.int y.2)=true:=bF λd hd=>by obtain⟨y,_,rfl⟩:=List.mem_map.mp hd;rfl
  refine aB rfl (aU (d:=x.1) (b:=false) (by simp[ha]) gx.rp.flat (cb (ds:=(b::r).map λy=>.int y.2) (ai (ds:=[.tup rows,.int known,.tup (bS.map .str),.str p,.int d]) (ao (b:=false) rfl (ao (b:=false) rfl (ao (b:=false) (ai (ds:=[.str "death"]) rfl (bx _ (by simp))) (ao (ai (ds:=[x.1,.str "person"]) rfl hpart) (ao (ai (ds:=[x.1]) rfl hday) rfl))))) ht) hfl (aR (aA (x:=.int (lD b r).2) (y:=.int x.2) (b1:=false) (b2:=false) ?_ rfl ?_))))
  ·unfold pY fKK
   show((some (D.lst ((b::r).map λy=>D.int y.2),false)).bind _)=_
   rw[Option.bind_some]
   dsimp only
   rw[hm _ rfl,Option.bind_some,hk,Option.bind_some,if_pos (rR _),hz]
   show some (jk _ _,false)=_
   rw[rV]
  ·rw[rM]
   congr 3
   apply decide_eq_decide.mpr
   omega
abbrev KL:=List (D×Nat)
def cD (K:KL) (p:Str) (day:Int):Bool:=(K.filter λx=>told bS p day x.1).isEmpty
def k6 (K:KL) (p:Str) (day:Int):Bool:=match CH (K.filter λx=>told eE p day x.1) with
 | none=>true
 | some x=>decide (kindOf x.1=("found" : Str))
def gh (K:KL) (r:D):Bool:=d8 (kindOf r) && (cD K (y7 r) (aH r) && k6 K (y7 r) (aH r))
def rW (r:D):Str:=if kindOf r=("named" : Str)then az 1 r else az 2 r
def k7:List Str:=[("named" : Str),("chosen" : Str),("heir" : Str)]
def bf (K:KL) (so:List Cl) (x:D×Nat):Bool :=
 if kindOf x.1=("death" : Str)then dA K (az 1 x.1) (aH x.1) x.2
 else if kindOf x.1∈k7 then match fJ K (rW x.1) with
  | none=>false
  | some v=>if kindOf x.1=("named" : Str)then true else gh K x.1 && gU so (az 0 v) (az 3 v) (az 1 x.1) (aH x.1)
 else false
theorem BO (rows:List D) (known:Int) (p:Str) (day:Int):lB rows known p day=cD (ax rows known) p day:=rfl
theorem BP {rows:List D}{known:Int}{r:D}(h:d9 r<=known):rS rows known r=gh (ax rows known) r:=by
 unfold rS gh
 rw[decide_eq_true h,Bool.true_and]
 rfl
theorem yA {rows:List D}(g:eQ rows) (known:Int) (so:List Cl) (hso:so.length<=60) {x:D×Nat}(hx:x∈ax rows known) (hnr:bT x.1=false):iu [.tup rows,.int known,.lst (so.map clD),.int x.2]=some (.bl (bf (ax rows known) so x),false):=by
 obtain⟨ha,gx⟩:=cC g hx
 have hh:d9 x.1<=known:=of_decide_eq_true (List.mem_filter.mp hx).2
 have hf:bo x.1=true:=gx.rp.flat
 have hw:∀ρ:DL.Env,ρ[4]? = some (some (x.1,false))->fA aO (ae (ag 4) ak) ρ=some (.str (kindOf x.1),false):=λρ h4=>ai (ds:=[x.1]) (by simp[h4]) (wj gx)
 have hni:∀ρ:DL.Env,ρ[4]? = some (some (x.1,false))->tOf (f2 fz (fA aO (ae (ag 4) ak)) (fA aP (ae (fC (.str "named")) (ae (fC (.str "chosen")) (ae (fC (.str "heir")) ak))))) ρ=some (!decide (kindOf x.1∈k7)):=λρ h4 =>
  aK (b:=false) (aA (x:=.str (kindOf x.1)) (y:=.tup (k7.map .str)) (b1:=false) (b2:=false) (hw ρ h4) (by simp[sizeLine,k7]) (mf _ _))
 by_cases hd:kindOf x.1=("death" : Str)
 ·obtain⟨a,k,aF,e,d⟩:=gx
  have hk:k=("death" : Str):=by rw[e]at hd;exact hd
  subst hk
  obtain⟨dd,p,rfl⟩:=d.deed.three (by decide +kernel)
  have hc:bf (ax rows known) so x=dA (ax rows known) p dd x.2:=by
   unfold bf
   rw[if_pos hd,e]
   rfl
  rw[hc]
  exact aB rfl (aU (d:=x.1) (b:=false) (by simp[ha]) hf (da (cu (bb:=false) (hw _ rfl) (decide_eq_true hd)) (aR (ai (ds:=[.tup rows,.int known,.int x.2]) rfl (Av g known hx e)))))
 ·by_cases h3:kindOf x.1∈k7
  ·have hoff:au [x.1,.str "office"]=some (.str (rW x.1),false):=by
    obtain⟨a,k,aF,e,d⟩:=gx
    rw[e]at h3 hd hnr ⊢
    replace h3:k∈k7:=h3
    clear hd hnr
    cases d with
    | root=>exact absurd h3 (by decide +kernel)
    | named d o p=>exact b8 (i:=1) (bz (by decide +kernel)) rfl
    | chosen d b o p s=>exact b8 (i:=2) (bz (by decide +kernel)) rfl
    | heir d b o p=>exact b8 (i:=2) (bz (by decide +kernel)) rfl
    | three _ hk=>rcases hk with rfl|rfl|rfl<;>exact absurd h3 (by decide +kernel)
    | other _ hk=>rcases hk with rfl|rfl|rfl|rfl|rfl<;>exact absurd h3 (by decide +kernel)
   have e5:∀ρ:DL.Env,ρ[0]? = some (some (.tup rows,false))->ρ[1]? = some (some (.int known,false))->ρ[4]? = some (some (x.1,false))->f2 vY (fA fU (ae (ag 0) (ae (ag 1) ak))) (fA au (ae (ag 4) (ae (fC (.str "office")) ak))) ρ=some ((fJ (ax rows known) (rW x.1)).getD .non,false):=λρ q0 q1 q4 =>
    aA (x:=.dk (b9 (jm (ax rows known))).1 (b9 (jm (ax rows known))).2) (y:=.str (rW x.1)) (b1:=false) (b2:=false) (ai (ds:=[.tup rows,.int known]) (by simp[q0,q1]) (u0 g known)) (ai (ds:=[x.1,.str "office"]) (by simp[q4]) hoff) rfl
   cases hr:fJ (ax rows known) (rW x.1) with
   | none =>
    rw[hr]at e5
    have hc:bf (ax rows known) so x=false:=by unfold bf;rw[if_neg hd,if_pos h3,hr]
    rw[hc]
    exact aB rfl (aU (d:=x.1) (b:=false) (by simp[ha]) hf (bD (cu (bb:=false) (hw _ rfl) (decide_eq_false hd)) (bD (by rw[hni _ rfl,decide_eq_true h3];rfl) (aU (d:=.non) (b:=false) (e5 _ rfl rfl rfl) rfl (da (aK (b:=false) (aA (x:=.non) (y:=.non) (b1:=false) (b2:=false) rfl rfl (by simp))) (aR rfl))))))
   | some v =>
    rw[hr]at e5
    obtain⟨va,vo,vrl,vm,vf,ev⟩:=mq g hr
    have hvf:bo v=true:=by rw[ev];rfl
    have hvn:dIs v .non=some (.bl false,false):=by rw[ev];simp[row]
    by_cases hn:kindOf x.1=("named" : Str)
    ·have hc:bf (ax rows known) so x=true:=by unfold bf;rw[if_neg hd,if_pos h3,hr];dsimp only;rw[if_pos hn]
     rw[hc]
     exact aB rfl (aU (d:=x.1) (b:=false) (by simp[ha]) hf (bD (cu (bb:=false) (hw _ rfl) (decide_eq_false hd)) (bD (by rw[hni _ rfl,decide_eq_true h3];rfl) (aU (d:=v) (b:=false) (e5 _ rfl rfl rfl) hvf (bD (aK (b:=false) (aA (x:=v) (y:=.non) (b1:=false) (b2:=false) rfl rfl hvn)) (da (cu (bb:=false) (hw _ rfl) (decide_eq_true hn)) (aR rfl)))))))
    ·have hc:bf (ax rows known) so x=(gh (ax rows known) x.1 && gU so (az 0 v) (az 3 v) (az 1 x.1) (aH x.1)):=by unfold bf;rw[if_neg hd,if_pos h3,hr];dsimp only;rw[if_neg hn]
     have hby:au [x.1,.str "by"]=some (.str (az 1 x.1),false)/\aX [x.1]=some (.int (aH x.1),false):=by
      refine⟨?_,by rw[xD gx];unfold wg;rw[hnr];rfl⟩
      obtain⟨a,k,aF,e,d⟩:=gx
      rw[e]at h3 hn ⊢
      replace h3:k∈k7:=h3
      cases d with
      | root=>exact absurd h3 (by decide +kernel)
      | named=>exact absurd rfl hn
      | chosen d b o p s=>exact b8 (i:=1) (bz (by decide +kernel)) rfl
      | heir d b o p=>exact b8 (i:=1) (bz (by decide +kernel)) rfl
      | three _ hk=>rcases hk with rfl|rfl|rfl<;>exact absurd h3 (by decide +kernel)
      | other _ hk=>rcases hk with rfl|rfl|rfl|rfl|rfl<;>exact absurd h3 (by decide +kernel)
     have hs:=Ap rows g.rp g.le known (dq hx)
     rw[BP hh]at hs
     have hheld:d6 [.lst (so.map clD),v,.str (az 1 x.1),.int (aH x.1)]=some (.bl (gU so (az 0 v) (az 3 v) (az 1 x.1) (aH x.1)),false):=by
      rw[ev]
      exact BN so hso _ _
     rw[hc]
     refine aB rfl (aU (d:=x.1) (b:=false) (by simp[ha]) hf (bD (cu (bb:=false) (hw _ rfl) (decide_eq_false hd)) (bD (by rw[hni _ rfl,decide_eq_true h3];rfl) (aU (d:=v) (b:=false) (e5 _ rfl rfl rfl) hvf (bD (aK (b:=false) (aA (x:=v) (y:=.non) (b1:=false) (b2:=false) rfl rfl hvn)) (bD (cu (bb:=false) (hw _ rfl) (decide_eq_false hn)) (aR ?_)))))))
     exact lx (b1:=false) (ai (ds:=[.tup rows,.int known,.int x.2]) rfl hs) λ_=>ai (ds:=[.lst (so.map clD),v,.str (az 1 x.1),.int (aH x.1)]) (ao (b:=false) rfl (ao (b:=false) rfl (ao (ai (ds:=[x.1,.str "by"]) rfl hby.1) (ao (ai (ds:=[x.1]) rfl hby.2) rfl)))) hheld
  ·have hc:bf (ax rows known) so x=false:=by unfold bf;rw[if_neg hd,if_neg h3]
   rw[hc]
   exact aB rfl (aU (d:=x.1) (b:=false) (by simp[ha]) hf (bD (cu (bb:=false) (hw _ rfl) (decide_eq_false hd)) (da (by rw[hni _ rfl,decide_eq_false h3];rfl) (aR rfl))))
def cy (offs:List Str) (p:Str) (day:Int) (c:Cl):List Cl :=
 if(!decide (c.o∈offs) || (!decide (c.p=p) || !(bG c day || decide (day<c.s))))=true then [c]else if c.s<day then [⟨c.o,p,c.s,some day,c.n⟩]else []
def bi (so:List Cl) (offs:List Str) (p:Str) (day:Int):List Cl:=so.flatMap (cy offs p day)
theorem dP (offs:List Str) (p:Str) (day:Int):∀so:List Cl,(bi so offs p day).length<=so.length
 | []=>Nat.le_refl _
 | c::so=>by
  unfold bi
  rw[List.flatMap_cons,List.length_append,List.length_cons]
  have h1:=dP offs p day so
  have h2:(cy offs p day c).length<=1:=by
   unfold cy
   split
   ·simp
   ·split<;>simp
  unfold bi at h1
  omega
theorem wm (k:Str) (ws:List Str):fz (.str k) (.lst (ws.map .str))=some (.bl (!decide (k∈ws)),false):=by
 simp only[fz,fP,Option.bind_some,ot]
 rw[if_pos ⟨rfl,l8 ws⟩]
theorem u5 (so:List Cl) (hso:so.length<=60) (offs:List Str) (p:Str) (day:Int):iT [.lst (so.map clD),.lst (offs.map .str),.str p,.int day]=some (.lst ((bi so offs p day).map clD),true):=by
 obtain⟨ρ',e,v5,rfl⟩:=fB (tg:=tgN 5) (g:=oj) (λj ρ=>∃v5:Option (D×Bool),ρ=[some (.lst (so.map clD),false),some (.lst (offs.map .str),false),some (.str p,false),some (.int day,false),some (.lst ((bi (so.take j) offs p day).map clD),true),v5]) (so.map clD)
  [some (.lst (so.map clD),false),some (.lst (offs.map .str),false),some (.str p,false),some (.int day,false),some (.lst [],true),none] ⟨none,rfl⟩ (by
   rintro j d ρ hd ⟨v5,rfl⟩
   rw[List.getElem?_map]at hd
   obtain⟨c,hc,rfl⟩:=oY hd
   have hj:j<so.length:=(List.getElem?_eq_some_iff.mp hc).1
   have et:bi (so.take (j+1)) offs p day=bi (so.take j) offs p day++cy offs p day c:=by
    unfold bi
    rw[List.take_add_one,hc,Option.toList_some,List.flatMap_append,List.flatMap_cons,List.flatMap_nil,List.append_nil]
   have hlen:(bi (so.take j) offs p day).length<=60:=Nat.le_trans (dP offs p day _) (by rw[List.length_take];omega)
   let ρ1:DL.Env:=[some (.lst (so.map clD),false),some (.lst (offs.map .str),false),some (.str p,false),some (.int day,false),some (.lst ((bi (so.take j) offs p day).map clD),true),some (clD c,false)]
   have q0:f2 ixD (ag 5) (fC (.int 0)) ρ1=some (.str c.o,false):=aA (x:=clD c) (y:=.int 0) (b1:=false) (b2:=false) rfl rfl (cl0 c)
   have q1:f2 ixD (ag 5) (fC (.int 1)) ρ1=some (.str c.p,false):=aA (x:=clD c) (y:=.int 1) (b1:=false) (b2:=false) rfl rfl (cl1 c)
   have q2:f2 ixD (ag 5) (fC (.int 2)) ρ1=some (.int c.s,false):=aA (x:=clD c) (y:=.int 2) (b1:=false) (b2:=false) rfl rfl (cl2 c)
   have q4:f2 ixD (ag 5) (fC (.int 4)) ρ1=some (.int c.n,false):=aA (x:=clD c) (y:=.int 4) (b1:=false) (b2:=false) rfl rfl (cl4 c)
   have hcond:jc (tOf (f2 fz (f2 ixD (ag 5) (fC (.int 0))) (ag 1))) (jc (tOf (f2 dNe (f2 ixD (ag 5) (fC (.int 1))) (ag 2))) (jf (jc (tOf (fA bE (ae (ag 5) (ae (ag 3) ak)))) (tOf (f2 iGt (f2 ixD (ag 5) (fC (.int 2))) (ag 3)))))) ρ1=some (!decide (c.o∈offs) || (!decide (c.p=p) || !(bG c day || decide (day<c.s)))) :=
    ly (aK (b:=false) (aA (x:=.str c.o) (y:=.lst (offs.map .str)) (b1:=false) (b2:=false) q0 rfl (wm _ _))) λ_=>ly (aK (b:=false) (aA (x:=.str c.p) (y:=.str p) (b1:=false) (b2:=false) q1 rfl (by simp))) λ_=>rK (ly (aK (b:=false) (ai (ds:=[clD c,.int day]) rfl (oz c day))) λ_=>aK (b:=false) (aA (x:=.int c.s) (y:=.int day) (b1:=false) (b2:=false) q2 rfl (by simp)))
   by_cases h1:(!decide (c.o∈offs) || (!decide (c.p=p) || !(bG c day || decide (day<c.s))))=true
   ·have eo:cy offs p day c=[c]:=by unfold cy;rw[if_pos h1]
    rw[h1]at hcond
    refine⟨_,_,rfl,.inl (nV hcond (gg (ds:=(bi (so.take j) offs p day).map clD) (d:=clD c) (b:=false) rfl rfl (fG c) (b7 (by simp;omega)))),some (clD c,false), ?_⟩
    rw[et,eo,List.map_append]
    rfl
   ·rw[Bool.not_eq_true]at h1
    rw[h1]at hcond
    by_cases h2:c.s<day
    ·have eo:cy offs p day c=[⟨c.o,p,c.s,some day,c.n⟩]:=by unfold cy;rw[if_neg (by rw[h1];decide),if_pos h2]
     refine⟨_,_,rfl,.inl (lw hcond (nV (aK (b:=false) (aA (x:=.int c.s) (y:=.int day) (b1:=false) (b2:=false) q2 rfl (by simp[h2]))) (gg (ds:=(bi (so.take j) offs p day).map clD) (d:=clD ⟨c.o,p,c.s,some day,c.n⟩) (b:=false) rfl (ai (ds:=[.str c.o,.str p,.int c.s,.int day,.int c.n]) (ao q0 (ao (b:=false) rfl (ao q2 (ao (b:=false) rfl (ao q4 rfl))))) (bx _ (by simp))) (fG _) (b7 (by simp;omega))))),some (clD c,false), ?_⟩
     rw[et,eo,List.map_append]
     rfl
    ·have eo:cy offs p day c=[]:=by unfold cy;rw[if_neg (by rw[h1];decide),if_neg h2]
     refine⟨_,_,rfl,.inl (lw hcond (lw (aK (b:=false) (aA (x:=.int c.s) (y:=.int day) (b1:=false) (b2:=false) q2 rfl (by simp;omega))) rfl)),some (clD c,false), ?_⟩
     rw[et,eo,List.append_nil]
     rfl)
 have e':gq (tgN 5) oj (so.map clD) [some (.lst (so.map clD),false),some (.lst (offs.map .str),false),some (.str p,false),some (.int day,false),some (.lst [],true),none]=some (.nx [some (.lst (so.map clD),false),some (.lst (offs.map .str),false),some (.str p,false),some (.int day,false),some (.lst ((bi so offs p day).map clD),true),v5]):=by
  rw[e]
  have:so.take (so.map clD).length=so:=by rw[List.length_map,List.take_length]
  rw[this]
 exact aB rfl (cb (ds:=[]) (by simp[sizeLine]) rfl (cM (iR (ds:=so.map clD) (by simp[sQ]) e') (eV rfl)))
theorem CJ {r:D}{o p:Str}(ho:au [r,.str "office"]=some (.str o,false)) (hp:au [r,.str "person"]=some (.str p,false)) (s:Int) (n:Nat):cN [r,.int s,.int n]=some (clD ⟨o,p,s,none,n⟩,false) :=
 aB rfl (aR (ai (ds:=[.str o,.str p,.int s,.non,.int n]) (ao (ai (ds:=[r,.str "office"]) rfl ho) (ao (ai (ds:=[r,.str "person"]) rfl hp) rfl)) (bx _ (by simp))))
theorem yB (so:List Cl) (hso:so.length<=60) {a d s:Int}{b o p:Str}(n:Nat):d7 [.lst (so.map clD),row a ("chosen" : Str) [.int d,.str b,.str o,.str p,.int s],.int n]=some (.lst ((bi so [o] b s++[(⟨o,p,s,none,n⟩:Cl)]).map clD),true):=by
 let r:D:=row a ("chosen" : Str) [.int d,.str b,.str o,.str p,.int s]
 have ho:au [r,.str "office"]=some (.str o,false):=b8 (i:=2) (bz (by decide +kernel)) rfl
 have hp:au [r,.str "person"]=some (.str p,false):=b8 (i:=3) (bz (by decide +kernel)) rfl
 have hb:au [r,.str "by"]=some (.str b,false):=b8 (i:=1) (bz (by decide +kernel)) rfl
 have hs:au [r,.str "since"]=some (.int s,false):=b8 (i:=4) (bz (by decide +kernel)) rfl
 have hl:=dP [o] b s so
 refine aB rfl (aU (d:=.int s) (b:=false) (ai (ds:=[r,.str "since"]) rfl hs) rfl (cb (ds:=(bi so [o] b s).map clD) (ai (ds:=[.lst (so.map clD),.lst ([o].map .str),.str b,.int s]) (ao (b:=false) rfl (ao (b:=true) (ai (ds:=[.str o]) (ao (ai (ds:=[r,.str "office"]) rfl ho) rfl) (dO _ (by simp))) (ao (ai (ds:=[r,.str "by"]) rfl hb) rfl))) (u5 so hso [o] b s)) (fH _) (aR ?_)))
 refine aA (x:=.lst ((bi so [o] b s).map clD)) (y:=.lst [clD ⟨o,p,s,none,n⟩]) (b1:=false) (b2:=true) rfl (ai (ds:=[clD ⟨o,p,s,none,n⟩]) (ao (ai (ds:=[r,.int s,.int n]) rfl (CJ ho hp s n)) rfl) (dO _ (by simp))) ?_
 rw[List.map_append]
 exact if_pos (bv (by rw[List.length_map,List.length_singleton];omega))
def o8 (hk:List (List Key)) (hv:List D) (o p:Str):Option Str:=match cj hk hv [.inr o,.inr p] with
 | some (.str h)=>some h
 | _=>none
def bY (K:KL) (hk:List (List Key)) (hv:List D) (p:Str) (day:Int) (n:Nat) (o:Str):List Cl:=match o8 hk hv o p with
 | some h=>if cD K h day=true then [⟨o,h,day,none,n⟩]else []
 | none=>[]
def cf (so:List Cl) (p:Str) (day:Int):List Str:=jj (fM ((so.filter λc=>decide (c.p=p) && bG c day).map (·.o)))
def iA (K:KL) (so:List Cl) (hk:List (List Key)) (hv:List D) (p:Str) (day:Int) (n:Nat):List Cl:=(cf so p day).flatMap (bY K hk hv p day n)
theorem j3 (K:KL) (hk:List (List Key)) (hv:List D) (p:Str) (day:Int) (n:Nat) (o:Str):(bY K hk hv p day n o).length<=1:=by
 unfold bY
 split
 ·split<;>simp
 ·simp
theorem o9 {α β:Type}(f:α->List β) (h:∀a,(f a).length<=1):∀l:List α,(l.flatMap f).length<=l.length
 | []=>Nat.le_refl _
 | a::l=>by
  rw[List.flatMap_cons,List.length_append,List.length_cons]
  have:=h a
  have:=o9 f h l
  omega
theorem u6 (so:List Cl) (p:Str) (day:Int):(cf so p day).length<=so.length:=by
 unfold cf
 rw[(dJ _).length_eq]
 refine Nat.le_trans (n8 _) ?_
 rw[List.length_map]
 exact List.length_filter_le _ _
theorem rX {rows:List D}(g:eQ rows) (known:Int) (so:List Cl) (hso:so.length<=60) (hk:List (List Key)) (hv:List D) (hhv:∀v∈hv,∃s,v=.str s) {x:D×Nat}(hx:x∈ax rows known) {a d:Int}{p:Str}(e:x.1=row a ("death" : Str) [.int d,.str p]) :
  fV [.tup rows,.int known,.lst (so.map clD),.dt hk hv,.int x.2]=some (.lst ((iA (ax rows known) so hk hv p d x.2).map clD),true):=by
 have ha:=(cC g hx).1
 have hpart:au [x.1,.str "person"]=some (.str p,false):=by rw[e];exact b8 (i:=1) (bz (by decide +kernel)) rfl
 have hday:aX [x.1]=some (.int d,false):=by rw[e];exact g8 (.inl (by decide +kernel)) rfl
 have holen:=u6 so p d
 have hstep:∀(o:Str) (l:List Cl) (v9:Option (D×Bool)),l.length<=60->eW [some (.tup rows,false),some (.int known,false),some (.lst (so.map clD),false),some (.dt hk hv,false),some (.int x.2,false),some (.str p,false),some (.int d,false),some (.lst (l.map clD),true),some (.str o,false),v9]=some (.nx [some (.tup rows,false),some (.int known,false),some (.lst (so.map clD),false),some (.dt hk hv,false),some (.int x.2,false),some (.str p,false),some (.int d,false),some (.lst ((l++bY (ax rows known) hk hv p d x.2 o).map clD),true),some (.str o,false),some ((cj hk hv [.inr o,.inr p]).getD .non,false)]):=λo l v9 hl=>by
  have eg:Ab (ag 3) (ae (ag 8) (ae (ag 5) ak)) [some (.tup rows,false),some (.int known,false),some (.lst (so.map clD),false),some (.dt hk hv,false),some (.int x.2,false),some (.str p,false),some (.int d,false),some (.lst (l.map clD),true),some (.str o,false),v9]=some ((cj hk hv [.inr o,.inr p]).getD .non,false):=by
   simp[fS,sizeLine]
  cases hlk:cj hk hv [.inr o,.inr p] with
  | none =>
   rw[hlk]at eg
   have ei:bY (ax rows known) hk hv p d x.2 o=[]:=by unfold bY o8;rw[hlk]
   rw[ei,List.append_nil]
   exact aU (d:=.non) (b:=false) eg rfl (lw (gK (p:=false) (q:=false) (aK (b:=false) (by simp)) (by simp)) rfl)
  | some v =>
   obtain⟨h,rfl⟩:=hhv v (ky hlk)
   rw[hlk]at eg
   have hlv:=uw rows g.rp g.le known h d
   rw[BO]at hlv
   have hand:∀ρ:DL.Env,ρ[0]? = some (some (.tup rows,false))->ρ[1]? = some (some (.int known,false))->ρ[6]? = some (some (.int d,false))->ρ[9]? = some (some (.str h,false))->ft (tOf (f2 gd (ag 9) (fC .non))) (tOf (fA gL (ae (ag 0) (ae (ag 1) (ae (ag 9) (ae (ag 6) ak)))))) ρ=some (true && cD (ax rows known) h d):=λρ q0 q1 q6 q9 =>
    gK (aK (b:=false) (by simp[q9])) λ_=>aK (b:=false) (ai (ds:=[.tup rows,.int known,.str h,.int d]) (by simp[q0,q1,q6,q9]) hlv)
   cases hl2:cD (ax rows known) h d with
   | false =>
    have ei:bY (ax rows known) hk hv p d x.2 o=[]:=by unfold bY o8;rw[hlk];dsimp only;rw[hl2];rfl
    rw[ei,List.append_nil]
    exact aU (d:=.str h) (b:=false) eg rfl (lw (by rw[hand _ rfl rfl rfl rfl,hl2];rfl) rfl)
   | true =>
    have ei:bY (ax rows known) hk hv p d x.2 o=[⟨o,h,d,none,x.2⟩]:=by unfold bY o8;rw[hlk];dsimp only;rw[hl2];rfl
    rw[ei,List.map_append]
    exact aU (d:=.str h) (b:=false) eg rfl (nV (by rw[hand _ rfl rfl rfl rfl,hl2];rfl) (gg (ds:=l.map clD) (d:=clD ⟨o,h,d,none,x.2⟩) (b:=false) rfl (ai (ds:=[.str o,.str h,.int d,.non,.int x.2]) rfl (bx _ (by simp))) rfl (b7 (by simp;omega))))
 obtain⟨ρ',el,v8,v9,rfl⟩:=fB (tg:=tgN 8) (g:=eW) (λj ρ=>∃v8 v9:Option (D×Bool),ρ=[some (.tup rows,false),some (.int known,false),some (.lst (so.map clD),false),some (.dt hk hv,false),some (.int x.2,false),some (.str p,false),some (.int d,false),some (.lst ((((cf so p d).take j).flatMap (bY (ax rows known) hk hv p d x.2)).map clD),true),v8,v9]) ((cf so p d).map .str)
  [some (.tup rows,false),some (.int known,false),some (.lst (so.map clD),false),some (.dt hk hv,false),some (.int x.2,false),some (.str p,false),some (.int d,false),some (.lst [],true),none,none] ⟨none,none,rfl⟩ (by
   rintro j dd ρ hd ⟨v8,v9,rfl⟩
   rw[List.getElem?_map]at hd
   obtain⟨o,ho,rfl⟩:=oY hd
   have hl:(((cf so p d).take j).flatMap (bY (ax rows known) hk hv p d x.2)).length<=60:=Nat.le_trans (o9 _ (j3 _ _ _ _ _ _) _) (by rw[List.length_take];omega)
   refine⟨_,_,rfl,.inl (hstep o _ v9 hl),some (.str o,false),some ((cj hk hv [.inr o,.inr p]).getD .non,false), ?_⟩
   rw[List.take_add_one,ho,Option.toList_some,List.flatMap_append,List.flatMap_cons,List.flatMap_nil,List.append_nil])
 have e':gq (tgN 8) eW ((cf so p d).map .str) [some (.tup rows,false),some (.int known,false),some (.lst (so.map clD),false),some (.dt hk hv,false),some (.int x.2,false),some (.str p,false),some (.int d,false),some (.lst [],true),none,none]=some (.nx [some (.tup rows,false),some (.int known,false),some (.lst (so.map clD),false),some (.dt hk hv,false),some (.int x.2,false),some (.str p,false),some (.int d,false),some (.lst ((iA (ax rows known) so hk hv p d x.2).map clD),true),v8,v9]):=by
  rw[el]
  have:(cf so p d).take ((cf so p d).map D.str).length=cf so p d:=by rw[List.length_map,List.take_length]
  rw[this]
  rfl
 have hset:∀ρ:DL.Env,ρ[2]? = some (some (.lst (so.map clD),false))->ρ[5]? = some (some (.str p,false))->ρ[6]? = some (some (.int d,false))->cQ (f1 eB (cz (cQ (ag 2)) 1 [5,6] (tgN 0) (ft (tOf (f2 dEq (f2 ixD (ag 0) (fC (.int 1))) (ag 1))) (tOf (fA bE (ae (ag 0) (ae (ag 2) ak))))) (f2 ixD (ag 0) (fC (.int 0))))) ρ=some ((cf so p d).map .str):=λρ q2 q5 q6=>by
  have hc:=jW (fi:=cQ (ag 2)) (nT:=1) (cap:=[5,6]) (tg:=tgN 0) (c:=ft (tOf (f2 dEq (f2 ixD (ag 0) (fC (.int 1))) (ag 1))) (tOf (fA bE (ae (ag 0) (ae (ag 2) ak))))) (fe:=f2 ixD (ag 0) (fC (.int 0))) (ρ:=ρ) so clD (λc=>decide (c.p=p) && bG c d) (λc=>.str c.o) (by simp[q2]) (by omega) λc hc =>
   ⟨_,rfl,gK (aK (b:=false) (aA (x:=.str c.p) (y:=.str p) (b1:=false) (b2:=false) (aA (x:=clD c) (y:=.int 1) (b1:=false) (b2:=false) (by simp[bW]) rfl (cl1 c)) (by simp[bW,q5]) (by simp))) λ_=>aK (b:=false) (ai (ds:=[clD c,.int d]) (by simp[bW,q6]) (oz c d)),λ_=>⟨false,aA (x:=clD c) (y:=.int 0) (b1:=false) (b2:=false) (by simp[bW]) rfl (cl0 c)⟩⟩
  have e2:(so.filter λc=>decide (c.p=p) && bG c d).map (λc=>D.str c.o)=((so.filter λc=>decide (c.p=p) && bG c d).map (·.o)).map .str:=by rw[List.map_map];rfl
  rw[e2]at hc
  show(f1 eB _ ρ).bind _=_
  unfold f1
  rw[hc,Option.bind_some]
  have hln:((so.filter λc=>decide (c.p=p) && bG c d).map (·.o)).length<64:=by rw[List.length_map];exact Nat.lt_of_le_of_lt (List.length_filter_le _ _) (by omega)
  show((fQ _).bind _).bind _=_
  rw[uz,Option.bind_some,if_pos hln]
  rfl
 refine aB rfl (aU (d:=.str p) (b:=false) (ai (ds:=[x.1,.str "person"]) (by simp[ha]) hpart) rfl (aU (d:=.int d) (b:=false) (ai (ds:=[x.1]) (by simp[ha]) hday) rfl (cb (ds:=[]) (by simp[sizeLine]) rfl (cM (ρ':=[some (.tup rows,false),some (.int known,false),some (.lst (so.map clD),false),some (.dt hk hv,false),some (.int x.2,false),some (.str p,false),some (.int d,false),some (.lst ((iA (ax rows known) so hk hv p d x.2).map clD),true),v8,v9]) ?_ (eV rfl)))))
 exact iR (ρ:=[some (.tup rows,false),some (.int known,false),some (.lst (so.map clD),false),some (.dt hk hv,false),some (.int x.2,false),some (.str p,false),some (.int d,false),some (.lst [],true),none,none]) (hset _ rfl rfl rfl) e'
theorem Aw {rows:List D}(g:eQ rows) (known:Int) (so:List Cl) (hso:so.length<=60) (hk:List (List Key)) (hv:List D) (hhv:∀v∈hv,∃s,v=.str s) {x:D×Nat}(hx:x∈ax rows known) {a d:Int}{p:Str}(e:x.1=row a ("death" : Str) [.int d,.str p]) :
  dY [.tup rows,.int known,.lst (so.map clD),.dt hk hv,.int x.2]=some (.lst ((bi so (so.map Cl.o) p d++iA (ax rows known) so hk hv p d x.2).map clD),true):=by
 have ha:=(cC g hx).1
 have hpart:au [x.1,.str "person"]=some (.str p,false):=by rw[e];exact b8 (i:=1) (bz (by decide +kernel)) rfl
 have hday:aX [x.1]=some (.int d,false):=by rw[e];exact g8 (.inl (by decide +kernel)) rfl
 have h1:=xo (fi:=cQ (ag 2)) (nT:=1) (cap:=[]) (tg:=tgN 0) (fe:=f2 ixD (ag 0) (fC (.int 0))) (ρ:=[some (.tup rows,false),some (.int known,false),some (.lst (so.map clD),false),some (.dt hk hv,false),some (.int x.2,false),none,none]) so clD (λc=>.str c.o) (by simp) (by omega) λc hc=>⟨_,rfl,false,aA (x:=clD c) (y:=.int 0) (b1:=false) (b2:=false) (by simp[bW]) rfl (cl0 c)⟩
 have e2:so.map (λc=>D.str c.o)=(so.map Cl.o).map .str:=by rw[List.map_map];rfl
 rw[e2]at h1
 have hl1:=dP (so.map Cl.o) p d so
 have hl2:(iA (ax rows known) so hk hv p d x.2).length<=60:=Nat.le_trans (o9 _ (j3 _ _ _ _ _ _) _) (Nat.le_trans (u6 so p d) hso)
 refine aB rfl (cb (ds:=(so.map Cl.o).map .str) h1 (iz _) (cb (ds:=(bi so (so.map Cl.o) p d).map clD) (ai (ds:=[.lst (so.map clD),.lst ((so.map Cl.o).map .str),.str p,.int d]) (ao (b:=false) rfl (ao (b:=false) rfl (ao (b:=false) (ai (ds:=[x.1,.str "person"]) (by simp[ha]) hpart) (ao (b:=false) (ai (ds:=[x.1]) (by simp[ha]) hday) rfl)))) (u5 so hso _ p d)) (fH _) (aR ?_)))
 refine aA (x:=.lst ((bi so (so.map Cl.o) p d).map clD)) (y:=.lst ((iA (ax rows known) so hk hv p d x.2).map clD)) (b1:=false) (b2:=true) rfl (ai (ds:=[.tup rows,.int known,.lst (so.map clD),.dt hk hv,.int x.2]) rfl (rX g known so hso hk hv hhv hx e)) ?_
 rw[List.map_append]
 exact if_pos (bv (by rw[List.length_map,List.length_map];omega))
abbrev St3:=List Cl×List (List Key)×List D
def br (K:KL) (st:St3) (x:D×Nat):St3 :=
 if bf K st.1 x=true then
  if kindOf x.1=("named" : Str)then (st.1++[⟨az 1 x.1,az 2 x.1,aH x.1,none,x.2⟩],st.2)
  else if kindOf x.1=("chosen" : Str)then (bi st.1 [az 2 x.1] (az 1 x.1) (qo 4 x.1)++[⟨az 2 x.1,az 3 x.1,qo 4 x.1,none,x.2⟩],st.2)
  else if kindOf x.1=("heir" : Str)then (st.1,cG st.2.1 [.inr (az 2 x.1),.inr (az 1 x.1)],cL st.2.1 st.2.2 [.inr (az 2 x.1),.inr (az 1 x.1)] (.str (az 3 x.1)))
  else (bi st.1 (st.1.map Cl.o) (az 1 x.1) (aH x.1)++iA K st.1 st.2.1 st.2.2 (az 1 x.1) (aH x.1) x.2,st.2)
 else st
def cU (K:KL):KL:=fR (λx=>cm (kA x)) (K.filter λx=>!bT x.1)
def iB (K:KL) (l:KL):St3:=l.foldl (br K) ([],[],[])
def kC (c:Cl):List At:=[.s c.o,.i c.s,.i c.n]
def dB (K:KL):List Cl:=fR (λc=>cm (kC c)) (iB K (cU K)).1
def wn:List Key->Str
 | [_,.inr p]=>p
 | _=>("" : Str)
def lvK (dd:List Str) (ks:List (List Key)):Nat:=(ks.filter λk=>decide (wn k∉dd)).length
structure SoOk (K l:KL) (dd:List Str) (st:St3):Prop where
 len:st.1.length+lvK dd st.2.1<=l.length
 ded:∀q∈dd,∃y∈l,dA K q (aH y.1) y.2=true
 nod:(st.1.map λc=>(c.o,c.n)).Nodup
 num:∀c∈st.1,c.n∈l.map (·.2)
 hs:∀v∈st.2.2,∃s,v=D.str s
 hk:st.2.1.length<=l.length
theorem xF {ws:List Str}{p:Str}{d:Int}{r:D}(h:told ws p d r=true):aH r<=d/\∀d',aH r<=d'->told ws p d' r=true:=by
 unfold told at h
 split at h
 ·rename_i k aF
  rw[Bool.and_eq_true]at h
  obtain⟨h1,h2⟩:=h
  unfold ma at h2
  split at h2
  ·rename_i dd q
   rw[Bool.and_eq_true]at h2
   refine⟨of_decide_eq_true h2.2,λd' hd=>?_⟩
   unfold told
   rw[Bool.and_eq_true]
   refine⟨h1, ?_⟩
   unfold ma
   rw[Bool.and_eq_true]
   exact⟨h2.1,decide_eq_true hd⟩
  ·cases h2
 ·cases h
theorem k8:∀(r:KL) (b:D×Nat),lD b r∈b::r/\∀y∈b::r,fY y (lD b r)=false
 | [],b=>⟨by simp[lD],λy hy=>by rw[List.mem_singleton.mp hy];simp[lD,fY]⟩
 | x::r,b=>by
  rw[lD,rQ]
  by_cases h:fY x b=true
  ·rw[if_pos (by rw[h])]
   obtain⟨h1,h2⟩:=k8 r x
   refine⟨mZ _ h1,λy hy=>?_⟩
   rcases List.mem_cons.mp hy with rfl|hy
   ·have:=h2 x mX
    unfold fY at *
    simp at *
    omega
   ·exact h2 y hy
  ·rw[if_neg (by simpa using h)]
   obtain⟨h1,h2⟩:=k8 r b
   refine⟨?_,λy hy=>?_⟩
   ·rcases List.mem_cons.mp h1 with e|e
    ·rw[e];exact mX
    ·exact mZ _ (mZ _ e)
   ·rcases List.mem_cons.mp hy with rfl|hy
    ·exact h2 _ mX
    ·rcases List.mem_cons.mp hy with rfl|hy
     ·have:=h2 b mX
      unfold fY at *
      simp at *
      omega
     ·exact h2 y (mZ _ hy)
theorem oA {K:KL}{p:Str}{d:Int}{i:Nat}(h:dA K p d i=true):∃m∈K,told bS p d m.1=true/\m.2=i/\∀y∈K,told bS p d y.1=true->fY y m=false:=by
 unfold dA at h
 split at h
 ·cases h
 ·rename_i b r e
  obtain⟨h1,h2⟩:=k8 r b
  rw[←e]at h1 h2
  obtain⟨h3,h4⟩:=List.mem_filter.mp h1
  exact⟨_,h3,h4,of_decide_eq_true h,λy hy ht=>h2 y (List.mem_filter.mpr ⟨hy,ht⟩)⟩
theorem wo {K:KL}{p:Str}{d1 d2:Int}{i1 i2:Nat}(h1:dA K p d1 i1=true) (h2:dA K p d2 i2=true):i1=i2:=by
 obtain⟨m1,k1,t1,e1,q1⟩:=oA h1
 obtain⟨m2,k2,t2,e2,q2⟩:=oA h2
 have a1:=xF t1
 have a2:=xF t2
 by_cases hd:d1<=d2
 ·have z1:=q2 m1 k1 (a1.2 d2 (by omega))
  have hm:aH m2.1<=aH m1.1:=by unfold fY at z1;simp at z1;omega
  have z2:=q1 m2 k2 (a2.2 d1 (by omega))
  unfold fY at z1 z2
  simp at z1 z2
  omega
 ·have z1:=q1 m2 k2 (a2.2 d1 (by omega))
  have hm:aH m1.1<=aH m2.1:=by unfold fY at z1;simp at z1;omega
  have z2:=q2 m1 k1 (a1.2 d2 (by omega))
  unfold fY at z1 z2
  simp at z1 z2
  omega
theorem u7 {κ:Type}[DecidableEq κ]:∀ {ks:List κ}{vs:List D}{k:κ}{v:D},cj ks vs k=some v->k∈ks
 | k'::ks,d::ds,k,v,h=>by
  unfold cj at h
  split at h
  ·rename_i e;rw[←e];exact mX
  ·exact mZ _ (u7 h)
 | [],_,_,_,h=>by simp[cj]at h
 | _::_,[],_,_,h=>by simp[cj]at h
theorem oB (p:Str) (dd:List Str) (hp:p∉dd):∀ks:List (List Key),lvK dd ks=lvK (p::dd) ks+(ks.filter λk=>decide (wn k=p)).length
 | []=>rfl
 | k::ks=>by
  have ih:=oB p dd hp ks
  unfold lvK at ih ⊢
  by_cases e:wn k=p
  ·rw[List.filter_cons_of_pos (by simpa [e]using hp),List.filter_cons_of_neg (by simp[e]),List.filter_cons_of_pos (by simp[e]),List.length_cons,List.length_cons]
   omega
  ·by_cases h:wn k∈dd
   ·rw[List.filter_cons_of_neg (by simp[h]),List.filter_cons_of_neg (by simp[h]),List.filter_cons_of_neg (by simp[e])]
    exact ih
   ·rw[List.filter_cons_of_pos (by simp[h]),List.filter_cons_of_pos (by simp[h,e]),List.filter_cons_of_neg (by simp[e]),List.length_cons,List.length_cons]
    omega
theorem iW (offs:List Str) (p:Str) (day:Int):∀so:List Cl,((bi so offs p day).map λc=>(c.o,c.n)).Sublist (so.map λc=>(c.o,c.n))
 | []=>List.Sublist.slnil
 | c::so=>by
  have ih:=iW offs p day so
  unfold bi at ih ⊢
  rw[List.flatMap_cons,List.map_append,List.map_cons]
  have:((cy offs p day c).map λc=>(c.o,c.n))=[(c.o,c.n)]∨((cy offs p day c).map λc=>(c.o,c.n))=[]:=by
   unfold cy
   split
   ·exact .inl rfl
   ·split
    ·exact .inl rfl
    ·exact .inr rfl
  rcases this with h|h
  ·rw[h];exact ih.cons₂ _
  ·rw[h];exact ih.cons _
theorem iX {offs:List Str}{p:Str}{day:Int}{so:List Cl}{c:Cl}(h:c∈bi so offs p day):∃c'∈so,c'.o=c.o/\c'.n=c.n:=by
 have:=(iW offs p day so).subset (List.mem_map.mpr ⟨c,h,rfl⟩)
 obtain⟨c',h1,h2⟩:=List.mem_map.mp this
 injection h2 with h3 h4
 exact⟨c',h1,h3,h4⟩
theorem gA:∀(ss ts:List Str),ts.Nodup->(ss.foldl gZ ts).Nodup
 | [],_,h=>h
 | s::ss,ts,h=>gA ss _ (vK h s)
theorem oC (so:List Cl) (p:Str) (day:Int):(cf so p day).Nodup:=(dJ _).nodup_iff.mpr (gA _ [] List.nodup_nil)
theorem u8 (K:KL) (hk:List (List Key)) (hv:List D) (p:Str) (day:Int) (n:Nat):∀os:List Str,((os.flatMap (bY K hk hv p day n)).map λc=>(c.o,c.n)).Sublist (os.map λo=>(o,n))
 | []=>List.Sublist.slnil
 | o::os=>by
  have ih:=u8 K hk hv p day n os
  rw[List.flatMap_cons,List.map_append,List.map_cons]
  have:((bY K hk hv p day n o).map λc=>(c.o,c.n))=[(o,n)]∨((bY K hk hv p day n o).map λc=>(c.o,c.n))=[]:=by
   unfold bY
   split
   ·split
    ·exact .inl rfl
    ·exact .inr rfl
   ·exact .inr rfl
  rcases this with h|h
  ·rw[h];exact ih.cons₂ _
  ·rw[h];exact ih.cons _
theorem qr {α:Type}[DecidableEq α]:∀(l m:List α),l.Nodup->(∀x∈l,x∈m)->l.length<=m.length
 | [],_,_,_=>Nat.zero_le _
 | x::l,m,h,s=>by
  rw[List.nodup_cons]at h
  have hx:=s x mX
  have:=qr l (m.erase x) h.2 λy hy=>(List.mem_erase_of_ne (a:=y) (b:=x) (λe=>h.1 (by rw[←e];exact hy))).mpr (s y (mZ _ hy))
  rw[List.length_erase_of_mem hx]at this
  have:0<m.length:=List.length_pos_of_mem hx
  rw[List.length_cons]
  omega
theorem qt {α β:Type}(f:α->List β) (q:α->Bool) (h:∀a,(f a).length<=1/\(q a=false->f a=[])):∀l:List α,(l.flatMap f).length<=(l.filter q).length
 | []=>Nat.le_refl _
 | a::l=>by
  have ih:=qt f q h l
  rw[List.flatMap_cons,List.length_append]
  cases hq:q a with
  | true=>rw[List.filter_cons_of_pos hq,List.length_cons];have:=(h a).1;omega
  | false=>rw[List.filter_cons_of_neg (by rw[hq];decide),(h a).2 hq];simpa using ih
theorem BQ (K:KL) (so:List Cl) (hk:List (List Key)) (hv:List D) (p:Str) (day:Int) (n:Nat):(iA K so hk hv p day n).length<=(hk.filter λk=>decide (wn k=p)).length:=by
 refine Nat.le_trans (qt _ (λo=>(cj hk hv [.inr o,.inr p]).isSome) (λo=>⟨j3 _ _ _ _ _ _ _,λh=>?_⟩) _) ?_
 ·have hl:cj hk hv [.inr o,.inr p]=none:=by simpa using h
  unfold bY o8
  rw[hl]
 ·have hnd:(((cf so p day).filter λo=>(cj hk hv [.inr o,.inr p]).isSome).map λo=>([.inr o,.inr p]:List Key)).Nodup:=List.Pairwise.map _ (λa b hab e=>hab (by injection e with e _;injection e)) ((oC so p day).filter _)
  have:=qr _ (hk.filter λk=>decide (wn k=p)) hnd λk hm=>by
   obtain⟨o,ho,rfl⟩:=List.mem_map.mp hm
   obtain⟨v,hv⟩:=Option.isSome_iff_exists.mp (List.mem_filter.mp ho).2
   exact List.mem_filter.mpr ⟨u7 hv,decide_eq_true rfl⟩
  rwa [List.length_map]at this
theorem SoOk.step {K l:KL}{dd:List Str}{st:St3}(h:SoOk K l dd st) {x:D×Nat}(hx:x.2∉l.map (·.2)):∃dd',SoOk K (l++[x]) dd' (br K st x):=by
 have up:∀ {n:Nat},n∈l.map (·.2)->n∈(l++[x]).map (·.2):=λh=>by rw[List.map_append];exact List.mem_append_left _ h
 have me:x.2∈(l++[x]).map (·.2):=by simp
 have ll:(l++[x]).length=l.length+1:=by simp
 have dup:∀q∈dd,∃y∈l++[x],dA K q (aH y.1) y.2=true:=λq hq=>by
  obtain⟨y,h1,h2⟩:=h.ded q hq
  exact⟨y,List.mem_append_left _ h1,h2⟩
 have wk:SoOk K (l++[x]) dd st:=⟨by have:=h.len;omega,dup,h.nod,λc hc=>up (h.num c hc),h.hs,by have:=h.hk;omega⟩
 have hlen:=h.len
 unfold br
 split
 ·rename_i hcount
  split
  ·refine⟨dd,by simp;omega,dup, ?_,λc hc=>?_,h.hs,by rw[ll];exact Nat.le_succ_of_le h.hk⟩
   ·rw[List.map_append,List.nodup_append]
    refine⟨h.nod,by simp,λa ha b hb e=>?_⟩
    obtain⟨c,hc,rfl⟩:=List.mem_map.mp ha
    simp at hb
    subst hb
    injection e with _ e2
    exact hx (e2 ▸ h.num c hc)
   ·rcases List.mem_append.mp hc with hc|hc
    ·exact up (h.num c hc)
    ·rw[List.mem_singleton.mp hc];exact me
  ·split
   ·have hl:=dP [az 2 x.1] (az 1 x.1) (qo 4 x.1) st.1
    refine⟨dd,by simp;omega,dup, ?_,λc hc=>?_,h.hs,by rw[ll];exact Nat.le_succ_of_le h.hk⟩
    ·rw[List.map_append,List.nodup_append]
     refine⟨h.nod.sublist (iW _ _ _ _),by simp,λa ha b hb e=>?_⟩
     obtain⟨c,hc,rfl⟩:=List.mem_map.mp ha
     simp at hb
     subst hb
     injection e with _ e2
     obtain⟨c',h1,_,h3⟩:=iX hc
     exact hx (e2 ▸ h3 ▸ h.num c' h1)
    ·rcases List.mem_append.mp hc with hc|hc
     ·obtain⟨c',h1,_,h3⟩:=iX hc
      rw[←h3];exact up (h.num c' h1)
     ·rw[List.mem_singleton.mp hc];exact me
   ·split
    ·have hp:∀k:List Key,lvK dd (cG st.2.1 k)<=lvK dd st.2.1+1/\(cG st.2.1 k).length<=st.2.1.length+1:=λk=>by
      unfold cG
      split
      ·omega
      ·have:([k].filter λk=>decide (wn k∉dd)).length<=1:=List.length_filter_le _ _
       unfold lvK
       rw[List.filter_append,List.length_append,List.length_append,List.length_singleton]
       omega
     refine⟨dd, ?_,dup,wk.nod,wk.num,λv hv=>?_, ?_⟩
     ·have:=(hp [.inr (az 2 x.1),.inr (az 1 x.1)]).1
      rw[ll]
      show st.1.length+lvK dd (cG st.2.1 [.inr (az 2 x.1),.inr (az 1 x.1)])<=_
      omega
     ·rcases lC hv with hv|hv
      ·exact⟨_,hv⟩
      ·exact h.hs v hv
     ·have:=(hp [.inr (az 2 x.1),.inr (az 1 x.1)]).2
      have:=h.hk
      rw[ll]
      show(cG _ _).length<=_
      omega
    ·rename_i n1 n2 n3
     have hd:kindOf x.1=("death" : Str):=by
      unfold bf at hcount
      by_cases hd:kindOf x.1=("death" : Str)
      ·exact hd
      ·rw[if_neg hd,if_neg (by simp[k7,n1,n2,n3])]at hcount
       cases hcount
     have hf:dA K (az 1 x.1) (aH x.1) x.2=true:=by unfold bf at hcount;rwa [if_pos hd]at hcount
     have hnp:az 1 x.1∉dd:=λhm=>by
      obtain⟨y,h1,h2⟩:=h.ded _ hm
      exact hx (by rw[←wo h2 hf];exact List.mem_map.mpr ⟨y,h1,rfl⟩)
     have hl:=dP (st.1.map Cl.o) (az 1 x.1) (aH x.1) st.1
     have hio:=BQ K st.1 st.2.1 st.2.2 (az 1 x.1) (aH x.1) x.2
     have hks:=oB (az 1 x.1) dd hnp st.2.1
     have hik:=u8 K st.2.1 st.2.2 (az 1 x.1) (aH x.1) x.2 (cf st.1 (az 1 x.1) (aH x.1))
     have him:∀c∈iA K st.1 st.2.1 st.2.2 (az 1 x.1) (aH x.1) x.2,c.o∈cf st.1 (az 1 x.1) (aH x.1)/\c.n=x.2:=λc hc=>by
      have:=hik.subset (List.mem_map.mpr ⟨c,hc,rfl⟩)
      obtain⟨o,h1,h2⟩:=List.mem_map.mp this
      injection h2 with h3 h4
      exact⟨h3 ▸ h1,h4.symm⟩
     refine⟨az 1 x.1::dd, ?_,λq hq=>?_, ?_,λc hc=>?_,h.hs,by rw[ll];exact Nat.le_succ_of_le h.hk⟩
     ·rw[ll]
      show(bi st.1 (st.1.map Cl.o) (az 1 x.1) (aH x.1)++iA K st.1 st.2.1 st.2.2 (az 1 x.1) (aH x.1) x.2).length+lvK _ st.2.1<=_
      rw[List.length_append]
      omega
     ·rcases List.mem_cons.mp hq with rfl|hq
      ·exact⟨x,by simp,hf⟩
      ·exact dup q hq
     ·rw[List.map_append,List.nodup_append]
      refine⟨h.nod.sublist (iW _ _ _ _),List.Nodup.sublist hik (List.Pairwise.map _ (λa b hab e=>hab (by injection e)) (oC _ _ _)),λa ha b hb e=>?_⟩
      obtain⟨c,hc,rfl⟩:=List.mem_map.mp ha
      obtain⟨c2,hc2,rfl⟩:=List.mem_map.mp hb
      injection e with _ e2
      obtain⟨c',h1,_,h3⟩:=iX hc
      exact hx ((him c2 hc2).2 ▸ e2 ▸ h3 ▸ h.num c' h1)
     ·rcases List.mem_append.mp hc with hc|hc
      ·obtain⟨c',h1,_,h3⟩:=iX hc
       rw[←h3];exact up (h.num c' h1)
      ·rw[(him c hc).2];exact me
 ·exact⟨dd,wk⟩
theorem BR {ρ:DL.Env}{i:Nat}{ks:List (List Key)}{vs:List D}{fk:FA}{fv:FE}{d:D}{b:Bool}{kd:List D}{kk:List Key}(e:ρ[i]? = some (some (.dt ks vs,true))) (ev:fv ρ=some (d,b)) (ek:fk ρ=some kd) (hk:fS kd=some kk) (hf:bo d=true) (h1:ks.length<=1000) (h2:kd.length<=1000):qc i fk fv ρ=some (.nx (ρ.set i (some (.dt (cG ks kk) (cL ks vs kk d),true)))):=by
 unfold qc
 rw[e]
 dsimp only
 rw[ev,Option.bind_some,ek,Option.bind_some,hk,Option.bind_some,if_pos ⟨hf,b7 (by omega),bv (by omega)⟩]
theorem Gk (a b:Cl):(bu (kC a) (kC b)).isSome=true:=by
 unfold kC
 rw[bu]
 split
 ·rw[bu]
  split
  ·rw[bu]
   split
   ·rw[bu];rfl
   ·rfl
  ·rfl
 ·rfl
theorem rY (cs:List Cl):eC (cs.map kC)=true:=by
 unfold eC
 simp[List.all_eq_true,Gk]
theorem fq {α β:Type}(f:α->β):∀ {l:List α},(l.map f).Nodup->∀ {a b:α},a∈l->b∈l->f a=f b->a=b
 | [],_,_,_,ha,_,_=>by cases ha
 | c::l,h,a,b,ha,hb,e=>by
  rw[List.map_cons,List.nodup_cons]at h
  rcases List.mem_cons.mp ha with ea|ha1
  ·rcases List.mem_cons.mp hb with eb|hb1
   ·rw[ea,eb]
   ·exact absurd (List.mem_map.mpr ⟨b,hb1,by rw[←e,ea]⟩) h.1
  ·rcases List.mem_cons.mp hb with eb|hb1
   ·exact absurd (List.mem_map.mpr ⟨a,ha1,by rw[e,eb]⟩) h.1
   ·exact fq f h.2 ha1 hb1 e
theorem Ax {cs:List Cl}{a b:Cl}(ha:a∈cs) (hb:b∈cs) (e:cm (kC a)=cm (kC b)):(a.o,a.n)=(b.o,b.n):=by
 have h:=pU (rY cs) (List.mem_map.mpr ⟨a,ha,rfl⟩) (List.mem_map.mpr ⟨b,hb,rfl⟩) e
 unfold kC at h
 injection h with h1 h2
 injection h1 with h1
 injection h2 with _ h3
 injection h3 with h3 _
 injection h3 with h3
 rw[h1,show a.n=b.n by omega]
theorem BS {rows:List D}(g:eQ rows) (known:Int) {l:KL}{dd:List Str}{st:St3}(h:SoOk (ax rows known) l dd st) (hj:l.length<=60) {x:D×Nat}(hx:x∈ax rows known) (hnr:bT x.1=false) (v5:Option (D×Bool)) :
  ∃w5,(iU [some (.tup rows,false),some (.int known,false),some (.lst (st.1.map clD),true),some (.dt st.2.1 st.2.2,true),some (.int x.2,false),v5]=some (.nx [some (.tup rows,false),some (.int known,false),some (.lst ((br (ax rows known) st x).1.map clD),true),some (.dt (br (ax rows known) st x).2.1 (br (ax rows known) st x).2.2,true),some (.int x.2,false),w5])
   ∨ iU [some (.tup rows,false),some (.int known,false),some (.lst (st.1.map clD),true),some (.dt st.2.1 st.2.2,true),some (.int x.2,false),v5]=some (.ct [some (.tup rows,false),some (.int known,false),some (.lst ((br (ax rows known) st x).1.map clD),true),some (.dt (br (ax rows known) st x).2.1 (br (ax rows known) st x).2.2,true),some (.int x.2,false),w5])):=by
 obtain⟨ha,gx⟩:=cC g hx
 have hso:st.1.length<=60:=by have:=h.len;omega
 have hf:bo x.1=true:=gx.rp.flat
 have ec:=yA g known st.1 hso hx hnr
 have ecall:jf (tOf (fA iu (ae (ag 0) (ae (ag 1) (ae (ag 2) (ae (ag 4) ak)))))) [some (.tup rows,false),some (.int known,false),some (.lst (st.1.map clD),true),some (.dt st.2.1 st.2.2,true),some (.int x.2,false),some (x.1,false)]=some (!bf (ax rows known) st.1 x) :=
  rK (aK (b:=false) (ai (ds:=[.tup rows,.int known,.lst (st.1.map clD),.int x.2]) (by simp) ec))
 have hw:fA aO (ae (ag 5) ak) [some (.tup rows,false),some (.int known,false),some (.lst (st.1.map clD),true),some (.dt st.2.1 st.2.2,true),some (.int x.2,false),some (x.1,false)]=some (.str (kindOf x.1),false):=ai (ds:=[x.1]) rfl (wj gx)
 refine⟨some (x.1,false), ?_⟩
 cases hc:bf (ax rows known) st.1 x with
 | false =>
  rw[hc]at ecall
  have es:br (ax rows known) st x=st:=by unfold br;rw[hc];rfl
  rw[es]
  exact .inr (aU (d:=x.1) (b:=false) (by simp[ha]) hf (Gj (nV ecall rfl)))
 | true =>
  rw[hc]at ecall
  left
  refine aU (d:=x.1) (b:=false) (by simp[ha]) hf (cM (lw ecall rfl) ?_)
  by_cases hn:kindOf x.1=("named" : Str)
  ·have es:br (ax rows known) st x=(st.1++[⟨az 1 x.1,az 2 x.1,aH x.1,none,x.2⟩],st.2):=by unfold br;rw[hc,if_pos rfl,if_pos hn]
   rw[es]
   refine nV (cu (bb:=false) hw (decide_eq_true hn)) ?_
   have hpo:au [x.1,.str "office"]=some (.str (az 1 x.1),false)/\au [x.1,.str "person"]=some (.str (az 2 x.1),false):=by
    obtain⟨a,k,aF,e,d⟩:=gx
    rw[e]at hn ⊢
    replace hn:k=("named" : Str):=hn
    cases d with
    | named d o p=>exact⟨b8 (i:=1) (bz (by decide +kernel)) rfl,b8 (i:=2) (bz (by decide +kernel)) rfl⟩
    | root=>exact absurd hn (by decide +kernel)
    | chosen=>exact absurd hn (by decide +kernel)
    | heir=>exact absurd hn (by decide +kernel)
    | three _ hk=>rcases hk with rfl|rfl|rfl<;>exact absurd hn (by decide +kernel)
    | other _ hk=>rcases hk with rfl|rfl|rfl|rfl|rfl<;>exact absurd hn (by decide +kernel)
   have hday:aX [x.1]=some (.int (aH x.1),false):=by rw[xD gx];unfold wg;rw[hnr];rfl
   have e2:f2 bI (ag 2) (fA bB (ae (fA cN (ae (ag 5) (ae (fA aX (ae (ag 5) ak)) (ae (ag 4) ak)))) ak)) [some (.tup rows,false),some (.int known,false),some (.lst (st.1.map clD),true),some (.dt st.2.1 st.2.2,true),some (.int x.2,false),some (x.1,false)]=some (.lst (st.1.map clD++[clD ⟨az 1 x.1,az 2 x.1,aH x.1,none,x.2⟩]),true):=by
    refine aA (x:=.lst (st.1.map clD)) (y:=.lst [clD ⟨az 1 x.1,az 2 x.1,aH x.1,none,x.2⟩]) (b1:=false) (b2:=true) rfl ?_ (if_pos (bv (by rw[List.length_map,List.length_singleton];omega)))
    exact ai (ds:=[clD ⟨az 1 x.1,az 2 x.1,aH x.1,none,x.2⟩]) (ao (ai (ds:=[x.1,.int (aH x.1),.int x.2]) (ao (b:=false) rfl (ao (b:=false) (ai (ds:=[x.1]) rfl hday) rfl)) (CJ hpo.1 hpo.2 _ _)) rfl) (dO _ (by simp))
   have:=mN (i:=2) e2 (by have hq:=fH (st.1++[(⟨az 1 x.1,az 2 x.1,aH x.1,none,x.2⟩:Cl)]);rwa [List.map_append]at hq)
   rw[List.map_append]
   exact this
  ·refine lw (cu (bb:=false) hw (decide_eq_false hn)) ?_
   by_cases hch:kindOf x.1=("chosen" : Str)
   ·have es:br (ax rows known) st x=(bi st.1 [az 2 x.1] (az 1 x.1) (qo 4 x.1)++[⟨az 2 x.1,az 3 x.1,qo 4 x.1,none,x.2⟩],st.2):=by unfold br;rw[hc,if_pos rfl,if_neg hn,if_pos hch]
    rw[es]
    refine nV (cu (bb:=false) hw (decide_eq_true hch)) (mN (i:=2) (ai (ds:=[.lst (st.1.map clD),x.1,.int x.2]) rfl ?_) (fH _))
    obtain⟨a,k,aF,e,d⟩:=gx
    rw[e]at hch ⊢
    replace hch:k=("chosen" : Str):=hch
    cases d with
    | chosen d b o p s=>exact yB st.1 hso x.2
    | root=>exact absurd hch (by decide +kernel)
    | named=>exact absurd hch (by decide +kernel)
    | heir=>exact absurd hch (by decide +kernel)
    | three _ hk=>rcases hk with rfl|rfl|rfl<;>exact absurd hch (by decide +kernel)
    | other _ hk=>rcases hk with rfl|rfl|rfl|rfl|rfl<;>exact absurd hch (by decide +kernel)
   ·refine lw (cu (bb:=false) hw (decide_eq_false hch)) ?_
    by_cases hh:kindOf x.1=("heir" : Str)
    ·have es:br (ax rows known) st x=(st.1,cG st.2.1 [.inr (az 2 x.1),.inr (az 1 x.1)],cL st.2.1 st.2.2 [.inr (az 2 x.1),.inr (az 1 x.1)] (.str (az 3 x.1))):=by unfold br;rw[hc,if_pos rfl,if_neg hn,if_neg hch,if_pos hh]
     rw[es]
     have hpo:au [x.1,.str "office"]=some (.str (az 2 x.1),false)/\au [x.1,.str "by"]=some (.str (az 1 x.1),false)/\au [x.1,.str "person"]=some (.str (az 3 x.1),false):=by
      obtain⟨a,k,aF,e,d⟩:=gx
      rw[e]at hh ⊢
      replace hh:k=("heir" : Str):=hh
      cases d with
      | heir d b o p=>exact⟨b8 (i:=2) (bz (by decide +kernel)) rfl,b8 (i:=1) (bz (by decide +kernel)) rfl,b8 (i:=3) (bz (by decide +kernel)) rfl⟩
      | root=>exact absurd hh (by decide +kernel)
      | named=>exact absurd hh (by decide +kernel)
      | chosen=>exact absurd hh (by decide +kernel)
      | three _ hk=>rcases hk with rfl|rfl|rfl<;>exact absurd hh (by decide +kernel)
      | other _ hk=>rcases hk with rfl|rfl|rfl|rfl|rfl<;>exact absurd hh (by decide +kernel)
     exact nV (cu (bb:=false) hw (decide_eq_true hh)) (BR (ks:=st.2.1) (vs:=st.2.2) (kd:=[.str (az 2 x.1),.str (az 1 x.1)]) (b:=false) rfl (ai (ds:=[x.1,.str "person"]) rfl hpo.2.2) (ao (ai (ds:=[x.1,.str "office"]) rfl hpo.1) (ao (ai (ds:=[x.1,.str "by"]) rfl hpo.2.1) rfl)) rfl rfl (by have:=h.hk;omega) (by simp))
    ·refine lw (cu (bb:=false) hw (decide_eq_false hh)) ?_
     have es:br (ax rows known) st x=(bi st.1 (st.1.map Cl.o) (az 1 x.1) (aH x.1)++iA (ax rows known) st.1 st.2.1 st.2.2 (az 1 x.1) (aH x.1) x.2,st.2):=by unfold br;rw[hc,if_pos rfl,if_neg hn,if_neg hch,if_neg hh]
     rw[es]
     have hd:kindOf x.1=("death" : Str):=by
      unfold bf at hc
      by_cases hd:kindOf x.1=("death" : Str)
      ·exact hd
      ·rw[if_neg hd,if_neg (by simp[k7,hn,hch,hh])]at hc
       cases hc
     refine mN (i:=2) (ai (ds:=[.tup rows,.int known,.lst (st.1.map clD),.dt st.2.1 st.2.2,.int x.2]) (by simp) ?_) (fH _)
     obtain⟨a,k,aF,e,d⟩:=gx
     have hk:k=("death" : Str):=by rw[e]at hd;exact hd
     subst hk
     obtain⟨dd,p,rfl⟩:=d.deed.three (by decide +kernel)
     have:=Aw g known st.1 hso st.2.1 st.2.2 h.hs hx e
     rw[this,e]
     rfl
theorem xG (K:KL):∀(l l0:KL) (st:St3) (dd:List Str),SoOk K l0 dd st->((l0++l).map (·.2)).Nodup->∃dd',SoOk K (l0++l) dd' (l.foldl (br K) st)
 | [],l0,st,dd,h,_=>⟨dd,by rw[List.append_nil];exact h⟩
 | x::l,l0,st,dd,h,hn=>by
  have hx:x.2∉l0.map (·.2):=λhm=>by
   rw[List.map_append,List.nodup_append]at hn
   exact hn.2.2 _ hm x.2 (by simp) rfl
  obtain⟨dd',h'⟩:=h.step hx
  have e:l0++x::l=(l0++[x])++l:=by simp
  rw[e]at hn ⊢
  exact xG K l _ _ _ h' hn
theorem xH (K l:KL) (h:(l.map (·.2)).Nodup):∃dd,SoOk K l dd (iB K l):=by
 have:=xG K l [] ([],[],[]) [] ⟨Nat.zero_le _,by simp,by simp,by simp,by simp,Nat.zero_le _⟩ h
 exact this
theorem yC {K:KL}(h:(K.map (·.2)).Nodup):((cU K).map (·.2)).Nodup:=((bP _ _).map _).nodup_iff.mpr (List.Nodup.sublist (List.Sublist.map _ List.filter_sublist) h)
theorem lE {rows:List D}(g:eQ rows) (known:Int) (hlen:(cU (ax rows known)).length<=60):fE [.tup rows,.int known]=some (.lst ((dB (ax rows known)).map clD),true)/\(dB (ax rows known)).length<=60:=by
 have eL:dM [.tup rows,.int known]=some (.lst ((cU (ax rows known)).map λx=>.int x.2),true):=ux g known
 generalize hK:ax rows known=K at hlen eL ⊢
 have hmem:∀x∈cU K,x∈K/\bT x.1=false:=λx hx=>by
  obtain⟨h1,h2⟩:=List.mem_filter.mp ((bP _ _).mem_iff.mp hx)
  exact⟨h1,by simpa using h2⟩
 have hnd:((cU K).map (·.2)).Nodup:=yC (by rw[←hK];exact ko rows known)
 obtain⟨ρ',e,v4,v5,rfl⟩:=fB (tg:=tgN 4) (g:=iU) (λj ρ=>∃v4 v5:Option (D×Bool),ρ=[some (.tup rows,false),some (.int known,false),some (.lst ((iB K ((cU K).take j)).1.map clD),true),some (.dt (iB K ((cU K).take j)).2.1 (iB K ((cU K).take j)).2.2,true),v4,v5]) ((cU K).map λx=>.int x.2)
  [some (.tup rows,false),some (.int known,false),some (.lst [],true),some (.dt [] [],true),none,none] ⟨none,none,rfl⟩ (by
   rintro j d ρ hd ⟨v4,v5,rfl⟩
   rw[List.getElem?_map]at hd
   obtain⟨x,hx,rfl⟩:=oY hd
   have hjl:j<(cU K).length:=(List.getElem?_eq_some_iff.mp hx).1
   have et:(cU K).take (j+1)=(cU K).take j++[x]:=by rw[List.take_add_one,hx];rfl
   have ef:iB K ((cU K).take (j+1))=br K (iB K ((cU K).take j)) x:=by rw[et];unfold iB;rw[List.foldl_append];rfl
   obtain⟨hxK,hxr⟩:=hmem x (List.mem_of_getElem? hx)
   obtain⟨dd,h⟩:=xH K ((cU K).take j) (List.Nodup.sublist (List.Sublist.map _ (List.take_sublist _ _)) hnd)
   rw[←hK]at h
   have hst:=BS g known h (by rw[hK,List.length_take];omega) (x:=x) (by rw[hK];exact hxK) hxr v5
   rw[hK]at hst
   obtain⟨w5,hst⟩:=hst
   exact⟨_,_,rfl,hst,some (.int x.2,false),w5,by rw[ef]⟩)
 have hall:(cU K).take ((cU K).map λx=>D.int x.2).length=cU K:=by rw[List.length_map,List.take_length]
 rw[hall]at e
 obtain⟨dd,hso⟩:=xH K (cU K) hnd
 generalize hcs:(iB K (cU K))=st at e hso
 have hcl:st.1.length<=60:=by have:=hso.len;omega
 have hCk:dB K=fR (λc=>cm (kC c)) st.1:=by unfold dB;rw[hcs]
 have hm:∀ρ:DL.Env,hU (pj dv ρ) (st.1.map clD)=some (st.1.map λc=>.tup [.str c.o,.int c.s,.int c.n]):=λρ=>g9 st.1 λc _=>by
  show(dv [clD c]).map _=_
  rw[rT]
  rfl
 have hk:cW (st.1.map λc=>D.tup [.str c.o,.int c.s,.int c.n])=some (st.1.map kC):=fm st.1 λc _=>rfl
 have hcond:(st.1.map kC).length<64/\eC (st.1.map kC)=true/\d5 (st.1.map kC)=true/\((st.1.map kC).map cm).Nodup:=by
  refine⟨by rw[List.length_map];omega,rY _, ?_, ?_⟩
  ·unfold d5
   rw[Bool.or_eq_true]
   right
   simp[List.all_eq_true,kC]
  ·rw[List.map_map]
   have h1:st.1.Pairwise λa b=>(a.o,a.n)≠(b.o,b.n):=List.pairwise_map.mp hso.nod
   have h2:st.1.Pairwise λa b=>cm (kC a)≠cm (kC b):=by
    refine List.Pairwise.imp_of_mem ?_ h1
    intro a b ha hb hne e
    exact hne (Ax ha hb e)
   exact List.pairwise_map.mpr h2
 have hz:(st.1.map kC).zip (st.1.map clD)=st.1.map λc=>(kC c,clD c):=by rw[List.zip_map']
 have key:((dB K).map λc=>(kC c,clD c))=fR (λp:List At×D=>cm p.1) (st.1.map λc=>(kC c,clD c)):=by
  rw[hCk]
  refine jP _ (λx hx y hy e=>?_) ((bP _ _).map _) ?_
  ·obtain⟨a,ha,rfl⟩:=List.mem_map.mp hx
   obtain⟨b,hb,rfl⟩:=List.mem_map.mp hy
   rw[fq (λc:Cl=>(c.o,c.n)) hso.nod ha hb (Ax ha hb e)]
  ·exact List.pairwise_map.mpr (f7 _ _)
 refine⟨aB rfl (cb (ds:=[]) (by simp[sizeLine]) rfl (cM (ρ':=[some (.tup rows,false),some (.int known,false),some (.lst [],true),some (.dt [] [],true),none,none]) rfl (cM (iR (ds:=(cU K).map λx=>.int x.2) ?_ e) (aR ?_)))),by rw[hCk,(bP _ _).length_eq];exact hcl⟩
 ·show(fA dM (ae (ag 0) (ae (ag 1) ak)) _).bind _=_
  rw[ai (ds:=[.tup rows,.int known]) rfl eL]
  rfl
 ·unfold lr
  show((some (D.lst (st.1.map clD),false)).bind _)=_
  simp only[Option.bind_some]
  rw[hm]
  simp only[Option.bind_some]
  rw[hk]
  simp only[Option.bind_some]
  rw[if_pos hcond]
  unfold im
  rw[hz,←key,List.map_map]
  rfl
def rZ (K:KL) (o:Str) (day:Int):D:=match fJ K o with
 | none=>.tup [.str "none"]
 | some v=>mn (dB K) (az 0 v) (az 3 v) day
theorem yD {rows:List D}(g:eQ rows) (known:Int) (hlen:(cU (ax rows known)).length<=60) (o:Str) (day:Int):fF [.tup rows,.int known,.str o,.int day]=some (rZ (ax rows known) o day,false):=by
 obtain⟨ec,hcl⟩:=lE g known hlen
 have e4:f2 vY (fA fU (ae (ag 0) (ae (ag 1) ak))) (ag 2) [some (.tup rows,false),some (.int known,false),some (.str o,false),some (.int day,false),none]=some ((fJ (ax rows known) o).getD .non,false) :=
  aA (x:=.dk (b9 (jm (ax rows known))).1 (b9 (jm (ax rows known))).2) (y:=.str o) (b1:=false) (b2:=false) (ai (ds:=[.tup rows,.int known]) rfl (u0 g known)) rfl rfl
 unfold rZ
 cases hr:fJ (ax rows known) o with
 | none =>
  rw[hr]at e4
  exact aB rfl (aU (d:=.non) (b:=false) e4 rfl (da (aK (b:=false) (by simp)) (aR (ai (ds:=[.str "none"]) rfl (bx _ (by simp))))))
 | some v =>
  rw[hr]at e4
  obtain⟨va,vo,vrl,vm,vf,ev⟩:=mq g hr
  subst ev
  exact aB rfl (aU (d:=row va ("root" : Str) [.str vo,.int vm,.int vf,.str vrl]) (b:=false) e4 rfl (bD (aK (b:=false) (by simp[row])) (aR (ai (ds:=[.lst ((dB (ax rows known)).map clD),row va ("root" : Str) [.str vo,.int vm,.int vf,.str vrl],.int day]) (ao (ai (ds:=[.tup rows,.int known]) rfl ec) rfl) (kx _ hcl day)))))
theorem Ay {so:List Cl}{p:Str}(h:∀c∈so,c.p≠p) (offs:List Str) (d:Int):bi so offs p d=so:=by
 induction so with
 | nil=>rfl
 | cons c so ih =>
  have h1:=h c mX
  have e:cy offs p d c=[c]:=by unfold cy;rw[if_pos (by simp[h1])]
  have ih:=ih λc hc=>h c (mZ _ hc)
  unfold bi at ih ⊢
  rw[List.flatMap_cons,e,ih]
  rfl
theorem DY {K:KL}{so:List Cl}{hk:List (List Key)}{hv:List D}{p:Str}{d:Int}{n:Nat}(h:∀c∈so,c.p≠p):iA K so hk hv p d n=[]:=by
 unfold iA cf
 rw[List.filter_eq_nil_iff.mpr λc hc=>by simp[h c hc]]
 rfl
theorem u9 {so:List Cl}{o rl q:Str}{day:Int}(h:∀c∈so,c.p≠q):gU so o rl q day=false:=by
 unfold gU mn
 have hm:∀c∈alL so o day,c.p≠q:=λc hc=>h c (List.mem_filter.mp hc).1
 generalize alL so o day=al at hm
 cases al with
 | nil=>rfl
 | cons b r =>
  have hc:=hm _ (qm rl b r)
  rw[i7]
  split
  ·show eqD (.tup [.str "parted",.lst _]) (.tup [.str "one",.str q])=false
   simp[eqD,cY]
  ·show eqD (.tup [.str "one",.str (eM rl b r).p]) (.tup [.str "one",.str q])=false
   simp[eqD,cY,hc]
theorem dC {K:KL}{st:St3}{x:D×Nat}(h:bf K st.1 x=false):br K st x=st:=by unfold br;rw[if_neg (by rw[h];decide)]
theorem cV {a b c:Str}(e:a=b) (h:b≠c):a≠c:=λz=>h (e.symm.trans z)
theorem qu {K:KL}{st:St3}{x:D×Nat}(hk:kindOf x.1=("death" : Str)) (h:∀c∈st.1,c.p≠az 1 x.1):br K st x=st:=by
 unfold br
 split
 ·rw[if_neg (cV hk (by decide +kernel)),if_neg (cV hk (by decide +kernel)),if_neg (cV hk (by decide +kernel)),Ay h,DY h,List.append_nil]
 ·rfl
theorem iC {K:KL}{so:List Cl}{x:D×Nat}(hd:kindOf x.1≠("death" : Str)) (h:fJ K (rW x.1)=none):bf K so x=false:=by
 unfold bf
 rw[if_neg hd,h]
 split<;>rfl
theorem eX {K:KL}{so:List Cl}{x:D×Nat}(hd:kindOf x.1≠("death" : Str)) (h:kindOf x.1∉k7):bf K so x=false:=by
 unfold bf
 rw[if_neg hd,if_neg h]
theorem fZ {K:KL}{so:List Cl}{x:D×Nat}(hd:kindOf x.1≠("death" : Str)) (hn:kindOf x.1≠("named" : Str)) (h:∀o rl,(gh K x.1 && gU so o rl (az 1 x.1) (aH x.1))=false):bf K so x=false:=by
 unfold bf
 rw[if_neg hd]
 split
 ·split
  ·rfl
  ·first|exact h _ _|(rw[if_neg hn];exact h _ _)
 ·rfl
theorem oD {K:KL}(G:St3->Prop) (eff:D×Nat->Bool):∀(l:KL) (st:St3),G st->(∀x∈l,∀st,G st->(eff x=true->G (br K st x))/\(eff x=false->br K st x=st))->l.foldl (br K) st=(l.filter eff).foldl (br K) st
 | [],_,_,_=>rfl
 | x::l,st,g,h=>by
  have hx:=h x mX st g
  have hl:=λy hy=>h y (mZ _ hy)
  rw[List.foldl_cons]
  cases e:eff x with
  | true=>rw[List.filter_cons_of_pos e,List.foldl_cons];exact oD G eff l _ (hx.1 e) hl
  | false=>rw[List.filter_cons_of_neg (by rw[e];decide),hx.2 e];exact oD G eff l st g hl
theorem uA {K:KL}{E:List D}(eff:D->Bool) (hr:∀r,eff r=true->bT r=false) (hs:E.Pairwise λa b=>aH a<aH b) (hp:((K.map (·.1)).filter eff).Perm E):((cU K).filter λx=>eff x.1).map (·.1)=E:=by
 have hinj:∀x∈E,∀y∈E,aH x=aH y->x=y:=λx hx y hy e=>fq aH (List.pairwise_map.mpr (hs.imp λh=>by omega)) hx hy e
 have p:(((cU K).filter λx=>eff x.1).map (·.1)).Perm E:=by
  refine List.Perm.trans (((bP _ _).filter _).map _) ?_
  rw[List.filter_filter,List.filter_congr λx _=>show(eff x.1 && !bT x.1)=eff x.1 from ?_]
  ·have:(K.filter λx=>eff x.1).map (·.1)=(K.map (·.1)).filter eff:=by rw[List.filter_map];rfl
   rw[this]
   exact hp
  ·cases h:eff x.1 with
   | false=>rfl
   | true=>rw[hr _ h];rfl
 have one:∀a b:Int,([a]:List Int)<[b]↔a<b:=λa b=>by simp[List.cons_lt_cons_iff]
 refine lg (λr=>[aH r]) _ _ (λx hx y hy e=>hinj x (p.mem_iff.mp hx) y (p.mem_iff.mp hy) (by injection e)) p ?_ ?_
 ·refine List.pairwise_map.mpr (((f7 (λx=>cm (kA x)) _).filter _).imp λ{a b} h=>?_)
  have h:¬cm (kA b)<cm (kA a):=h
  show ¬([aH b.1]:List Int)<[aH a.1]
  rw[one]
  intro hl
  refine h ?_
  have e:=mL _ _ _ (rQ b a)
  have:fY b a=true:=decide_eq_true (.inl hl)
  rw[this]at e
  exact of_decide_eq_true e.symm
 ·exact hs.imp λ{a b} h=>show ¬([aH b]:List Int)<[aH a] by rw[one];omega
def lF (pre:List Cl) (s:Int):Prop:=∀c∈pre,c.s<=s/\∃u,c.u=some u/\u<=s
theorem qw {pre:List Cl}{s t:Int}(h:lF pre s) (ht:s<=t):∀c∈pre,bG c t=false:=λc hc=>by
 obtain⟨_,u,hu,h2⟩:=h c hc
 unfold bG
 rw[hu]
 have:¬t<u:=by omega
 simp[this]
theorem Az {pre:List Cl}{s t:Int}(h:lF pre s) {c0:Cl}(h0:c0.s=s) (hu:c0.u=none) (ht:s<=t) (q:Cl->Bool) (hq:q c0=true):(pre++[c0]).filter (λc=>q c && bG c t)=[c0]:=by
 have a0:bG c0 t=true:=by unfold bG;rw[hu,h0];simp[ht]
 rw[List.filter_append,List.filter_eq_nil_iff.mpr λc hc=>by rw[qw h ht c hc];simp,List.filter_cons_of_pos (by simp[hq,a0])]
 rfl
theorem uB (rl:Str) (c:Cl):i7 rl [c]=.tup [.str "one",.str c.p,.int c.n]:=by
 have h1:(j0 [c]).length=1:=rfl
 have hc:eM rl c []=c:=by unfold eM;split<;>rfl
 rw[i7,if_neg (by rw[h1];omega),hc,List.filter_cons_of_pos (by simp)]
 rfl
theorem uC {pre:List Cl}{s t:Int}(h:lF pre s) {c0:Cl}(h0:c0.s=s) (hu:c0.u=none) (ht:s<=t) (ho:c0.o=("crown" : Str)) (rl:Str):gU (pre++[c0]) ("crown" : Str) rl c0.p t=true:=by
 unfold gU mn alL
 rw[Az h h0 hu ht (λc=>decide (c.o=("crown" : Str))) (decide_eq_true ho),uB]
 show eqD (.tup [.str "one",.str c0.p]) (.tup [.str "one",.str c0.p])=true
 simp[eqD,cY]
theorem qx {pre:List Cl}{s t:Int}(h:lF pre s) (b:Str) (n:Nat) (ht:s<t) {offs:List Str}(ho:("crown" : Str)∈offs):bi (pre++[⟨("crown" : Str),b,s,none,n⟩]) offs b t=pre++[⟨("crown" : Str),b,s,some t,n⟩]:=by
 have hp:∀l:List Cl,lF l s->bi l offs b t=l:=λl=>by
  induction l with
  | nil=>intro _;rfl
  | cons c l ih =>
   intro hl
   have hd:=qw hl (show s<=t by omega) c mX
   have hs:=(hl c mX).1
   have e:cy offs b t c=[c]:=by
    unfold cy
    have:¬t<c.s:=by omega
    rw[if_pos (by simp[hd,this])]
   have ih:=ih λc hc=>hl c (mZ _ hc)
   unfold bi at ih ⊢
   rw[List.flatMap_cons,e,ih]
   rfl
 have e1:bi (pre++[(⟨("crown" : Str),b,s,none,n⟩:Cl)]) offs b t=bi pre offs b t++cy offs b t ⟨("crown" : Str),b,s,none,n⟩:=by
  unfold bi
  rw[List.flatMap_append,List.flatMap_cons,List.flatMap_nil,List.append_nil]
 rw[e1,hp pre h]
 congr 1
 unfold cy bG
 have:s<=t:=by omega
 rw[if_neg (by simp[ho,this]),if_pos ht]
theorem uE {K:KL}{v:D}(hv:fJ K ("crown" : Str)=some v) (h0:az 0 v=("crown" : Str)) {pre:List Cl}{b p:Str}{s d t:Int}{n:Nat}{hs:List (List Key)×List D}{x:D×Nat}{h:Int}(hx:x.1=row h ("chosen" : Str) [.int d,.str b,.str "crown",.str p,.int t]) (hso:gh K x.1=true) (hpre:lF pre s) (h1:s<d) (h2:d<=t) :
  br K (pre++[⟨("crown" : Str),b,s,none,n⟩],hs) x=(pre++[⟨("crown" : Str),b,s,some t,n⟩]++[⟨("crown" : Str),p,t,none,x.2⟩],hs):=by
 have hk:kindOf x.1=("chosen" : Str):=by rw[hx];rfl
 have hc:bf K (pre++[⟨("crown" : Str),b,s,none,n⟩]) x=true:=by
  unfold bf
  rw[if_neg (cV hk (by decide +kernel)),if_pos (by rw[hk];decide +kernel),show rW x.1=("crown" : Str) by rw[hx];rfl,hv]
  show(if kindOf x.1=("named" : Str)then true else _)=true
  rw[if_neg (cV hk (by decide +kernel)),hso,h0,show az 1 x.1=b by rw[hx];rfl,show aH x.1=d by rw[hx];rfl]
  exact uC (c0:=⟨("crown" : Str),b,s,none,n⟩) hpre rfl rfl (by omega) rfl _
 unfold br
 rw[if_pos hc,if_neg (cV hk (by decide +kernel)),if_pos hk,show az 2 x.1=("crown" : Str) by rw[hx];rfl,show az 1 x.1=b by rw[hx];rfl,show az 3 x.1=p by rw[hx];rfl,show qo 4 x.1=t by rw[hx];rfl,qx hpre b n (by omega) (by simp)]
theorem qy {K:KL}{v:D}(hv:fJ K ("crown" : Str)=some v) (h0:az 0 v=("crown" : Str)) {pre:List Cl}{b p:Str}{s d:Int}{n:Nat}{hs:List (List Key)×List D}{x:D×Nat}{h:Int}(hx:x.1=row h ("heir" : Str) [.int d,.str b,.str "crown",.str p]) (hso:gh K x.1=true) (hpre:lF pre s) (h1:s<d) :
  br K (pre++[⟨("crown" : Str),b,s,none,n⟩],hs) x=(pre++[⟨("crown" : Str),b,s,none,n⟩],cG hs.1 [.inr ("crown" : Str),.inr b],cL hs.1 hs.2 [.inr ("crown" : Str),.inr b] (.str p)):=by
 have hk:kindOf x.1=("heir" : Str):=by rw[hx];rfl
 have hc:bf K (pre++[⟨("crown" : Str),b,s,none,n⟩]) x=true:=by
  unfold bf
  rw[if_neg (cV hk (by decide +kernel)),if_pos (by rw[hk];decide +kernel),show rW x.1=("crown" : Str) by rw[hx];rfl,hv]
  show(if kindOf x.1=("named" : Str)then true else _)=true
  rw[if_neg (cV hk (by decide +kernel)),hso,h0,show az 1 x.1=b by rw[hx];rfl,show aH x.1=d by rw[hx];rfl]
  exact uC (c0:=⟨("crown" : Str),b,s,none,n⟩) hpre rfl rfl (by omega) rfl _
 unfold br
 rw[if_pos hc,if_neg (cV hk (by decide +kernel)),if_neg (cV hk (by decide +kernel)),if_pos hk,show az 2 x.1=("crown" : Str) by rw[hx];rfl,show az 1 x.1=b by rw[hx];rfl,show az 3 x.1=p by rw[hx];rfl]
theorem wq {K:KL}{pre:List Cl}{b:Str}{s d:Int}{n:Nat}{hs:List (List Key)×List D}{x:D×Nat}{h:Int}(hx:x.1=row h ("death" : Str) [.int d,.str b]) (hf:dA K b d x.2=true) (hpre:lF pre s) (h1:s<d) :
  br K (pre++[⟨("crown" : Str),b,s,none,n⟩],hs) x=(pre++[⟨("crown" : Str),b,s,some d,n⟩]++bY K hs.1 hs.2 b d x.2 ("crown" : Str),hs):=by
 have hk:kindOf x.1=("death" : Str):=by rw[hx];rfl
 have e1:az 1 x.1=b:=by rw[hx];rfl
 have e2:aH x.1=d:=by rw[hx];rfl
 have hc:bf K (pre++[⟨("crown" : Str),b,s,none,n⟩]) x=true:=by unfold bf;rw[if_pos hk,e1,e2];exact hf
 have hi:∀hk hv,iA K (pre++[(⟨("crown" : Str),b,s,none,n⟩:Cl)]) hk hv b d x.2=bY K hk hv b d x.2 ("crown" : Str):=λhk hv=>by
  unfold iA cf
  rw[Az (c0:=⟨("crown" : Str),b,s,none,n⟩) hpre rfl rfl (by omega) (λc=>decide (c.p=b)) (decide_eq_true rfl)]
  show List.flatMap _ [("crown" : Str)]=_
  rw[List.flatMap_cons,List.flatMap_nil,List.append_nil]
 unfold br
 rw[if_pos hc,if_neg (cV hk (by decide +kernel)),if_neg (cV hk (by decide +kernel)),if_neg (cV hk (by decide +kernel)),e1,e2,qx hpre b n h1 (by simp),hi]
structure El where
 s:Int
 d:Int
 p:Str
 b:Str
inductive Ch:El->List El->Prop
 | nil (e:El):Ch e []
 | cons {e f:El}{r:List El}(h1:e.s<f.d) (h2:f.d<=f.s) (h3:f.b=e.p) (h4:Ch f r):Ch e (f::r)
def aW {α:Type}:α->List α->α
 | a,[]=>a
 | _,b::r=>aW b r
def dQ (m:Int) (e:El):D:=row 9999 ("named" : Str) [.int (e.d*m),.str "crown",.str e.p]
def bN (m:Int) (e:El):D:=row 9999 ("chosen" : Str) [.int (e.d*m),.str e.b,.str "crown",.str e.p,.int (e.s*m)]
def mr (d:Int) (b p:Str):D:=row 9999 ("heir" : Str) [.int d,.str b,.str "crown",.str p]
def dc (d:Int) (p:Str):D:=row 9999 ("death" : Str) [.int d,.str p]
def dh (m:Int) (u:Option Int):El×Nat->List (El×Nat)->List Cl
 | (e,n),[]=>[⟨("crown" : Str),e.p,e.s*m,u,n⟩]
 | (e,n),f::r=>⟨("crown" : Str),e.p,e.s*m,some (f.1.s*m),n⟩::dh m u f r
theorem dD {m a b:Int}(hm:0<m) (h:a<b):a*m<b*m:=Int.mul_lt_mul_of_pos_right h hm
theorem gk {m a b:Int}(hm:0<m) (h:a<=b):a*m<=b*m:=Int.mul_le_mul_of_nonneg_right h (by omega)
theorem lF.snoc {pre:List Cl}{s t:Int}(h:lF pre s) (hs:s<=t) (c:Cl) (hc:c.s<=t) (hu:c.u=some t):lF (pre++[c]) t:=λx hx=>by
 rcases List.mem_append.mp hx with hx|hx
 ·obtain⟨h1,u,h2,h3⟩:=h x hx
  exact⟨by omega,u,h2,by omega⟩
 ·rw[List.mem_singleton.mp hx]
  exact⟨hc,t,hu,by omega⟩
theorem dR {m:Int}(hm:0<m):∀(r:List (El×Nat)) (e:El) (n:Nat),Ch e (r.map (·.1))->∃pre:List Cl,(∀u,dh m u (e,n) r=pre++[⟨("crown" : Str),(aW (e,n) r).1.p,(aW (e,n) r).1.s*m,u,(aW (e,n) r).2⟩])/\lF pre ((aW (e,n) r).1.s*m)/\e.s*m<=(aW (e,n) r).1.s*m
 | [],e,n,_=>⟨[],λ_=>rfl,λ_ h=>(by cases h),Int.le_refl _⟩
 | f::r,e,n,h=>by
  cases h with
  | cons h1 h2 h3 h4 =>
   replace h1:e.s<f.1.d:=h1
   replace h2:f.1.d<=f.1.s:=h2
   replace h3:f.1.b=e.p:=h3
   obtain⟨pre,q1,q2,q3⟩:=dR hm r f.1 f.2 h4
   have l1:e.s*m<f.1.s*m:=dD hm (by omega)
   have q3:f.1.s*m<=(aW (e,n) (f::r)).1.s*m:=q3
   refine⟨⟨("crown" : Str),e.p,e.s*m,some (f.1.s*m),n⟩::pre,λu=>?_,λc hc=>?_,by omega⟩
   ·show _::dh m u f r=_
    rw[q1 u]
    rfl
   ·rcases List.mem_cons.mp hc with rfl|hc
    ·exact⟨show e.s*m<=_ by omega,_,rfl,q3⟩
    ·exact q2 c hc
theorem qz {K:KL}{v:D}(hv:fJ K ("crown" : Str)=some v) (h0:az 0 v=("crown" : Str)) {m:Int}(hm:0<m):∀(r:List (El×Nat)) (e:El) (n:Nat) (pre:List Cl) (hs:List (List Key)×List D),Ch e (r.map (·.1))->lF pre (e.s*m)->(∀f∈r,gh K (bN m f.1)=true) ->
  (r.map λf=>(bN m f.1,f.2)).foldl (br K) (pre++[⟨("crown" : Str),e.p,e.s*m,none,n⟩],hs)=(pre++dh m none (e,n) r,hs)
 | [],e,n,pre,hs,_,_,_=>rfl
 | f::r,e,n,pre,hs,h,hp,hq=>by
  cases h with
  | cons h1 h2 h3 h4 =>
   replace h1:e.s<f.1.d:=h1
   replace h2:f.1.d<=f.1.s:=h2
   replace h3:f.1.b=e.p:=h3
   have l1:e.s*m<f.1.d*m:=dD hm h1
   have l2:f.1.d*m<=f.1.s*m:=gk hm h2
   rw[List.map_cons,List.foldl_cons,uE hv h0 (x:=(bN m f.1,f.2)) (h:=9999) (d:=f.1.d*m) (t:=f.1.s*m) (p:=f.1.p) (by unfold bN;rw[h3]) (hq f mX) hp l1 l2,qz hv h0 hm r f.1 f.2 _ hs h4 (hp.snoc (by omega) _ (by show e.s*m<=_;omega) rfl) λg hg=>hq g (mZ _ hg),List.append_assoc]
   rfl
theorem ga {m:Int}(hm:0<m) (u:Option Int):∀(r:List (El×Nat)) (e:El) (n:Nat),Ch e (r.map (·.1))->(dh m u (e,n) r).Pairwise (λa b=>a.s<b.s)/\∀c∈dh m u (e,n) r,c.o=("crown" : Str)/\e.s*m<=c.s/\c.s<=(aW (e,n) r).1.s*m
 | [],e,n,_=>⟨by simp[dh],λc hc=>by rw[List.mem_singleton.mp hc];exact⟨rfl,Int.le_refl _,Int.le_refl _⟩⟩
 | f::r,e,n,h=>by
  cases h with
  | cons h1 h2 h3 h4 =>
   replace h1:e.s<f.1.d:=h1
   replace h2:f.1.d<=f.1.s:=h2
   replace h3:f.1.b=e.p:=h3
   obtain⟨q1,q2⟩:=ga hm u r f.1 f.2 h4
   have l1:e.s*m<f.1.s*m:=dD hm (by omega)
   refine⟨List.pairwise_cons.mpr ⟨λc hc=>?_,q1⟩,λc hc=>?_⟩
   ·have:=(q2 c hc).2.1
    show e.s*m<c.s
    omega
   ·rcases List.mem_cons.mp hc with rfl|hc
    ·obtain⟨_,_,_,a⟩:=dR hm r f.1 f.2 h4
     exact⟨rfl,Int.le_refl _,show e.s*m<=(aW (f.1,f.2) r).1.s*m by omega⟩
    ·obtain⟨a1,a2,a3⟩:=q2 c hc
     exact⟨a1,by omega,a3⟩
theorem gR {cs:List Cl}(h:cs.Pairwise λa b=>a.s<b.s) (ho:∀c∈cs,c.o=("crown" : Str)):fR (λc=>cm (kC c)) cs=cs:=by
 have lt:∀ {a b:Cl},a∈cs->b∈cs->a.s<b.s->cm (kC a)<cm (kC b):=λ{a b} ha hb hl=>by
  have e:=eZ (rY cs) (List.mem_map.mpr ⟨a,ha,rfl⟩) (List.mem_map.mpr ⟨b,hb,rfl⟩)
  unfold kC at e
  rw[bu,if_pos (by rw[ho a ha,ho b hb]),bu,if_neg (by omega),decide_eq_true hl]at e
  injection e with e
  exact of_decide_eq_true e.symm
 symm
 refine jP _ (λx hx y hy e=>?_) (List.Perm.refl _) (List.Pairwise.imp_of_mem (λha hb hl=>?_) h)
 ·rcases Int.lt_trichotomy x.s y.s with z|z|z
  ·have:=lt hx hy z;rw[e]at this;exact absurd this (List.lt_irrefl _)
  ·exact fq Cl.s (List.pairwise_map.mpr (h.imp λq=>by omega)) hx hy z
  ·have:=lt hy hx z;rw[e]at this;exact absurd this (List.lt_irrefl _)
 ·have:=lt ha hb hl
  exact λz=>List.lt_irrefl _ (gu z this)
def Nm (z:Str):Prop:=z≠("yy" : Str)/\z≠("yz" : Str)/\z≠("ya" : Str)/\z≠("yb" : Str)
inductive Nt:D->Prop
 | c1 (d:Int) (p:Str):Nt (row 9999 ("chosen" : Str) [.int d,.str "yy",.str "crown",.str p,.int d])
 | h1 (d:Int) (p:Str):Nt (row 9999 ("heir" : Str) [.int d,.str "yy",.str "crown",.str p])
 | d1 (d:Int):Nt (row 9999 ("death" : Str) [.int d,.str "yz"])
 | n1 (d:Int) (p:Str):Nt (row 9999 ("named" : Str) [.int d,.str "mill",.str p])
 | c2 (d:Int) (p:Str):Nt (row 9999 ("chosen" : Str) [.int d,.str p,.str "mill",.str "yy",.int d])
 | h2 (d:Int) (p:Str):Nt (row 9999 ("heir" : Str) [.int d,.str p,.str "mill",.str "yy"])
 | l1 (d:Int):Nt (row 9999 ("lost" : Str) [.int d,.str "yy"])
 | f1 (d:Int):Nt (row 9999 ("found" : Str) [.int d,.str "yz"])
def gV (w:Nat) (l:Str) (a b died:Int):List D:=if w=0 then []else if w=1 then [dc died l]else [mr a l ("ya" : Str),mr b l ("yb" : Str),dc died l]
def q8 (w:Nat) (d2:Int):List D:=if w=2 then [dc d2 ("yb" : Str)]else []
def k9 (z:Bool) (l:Str) (dl m:Int):List D:=if z=true then [row 9999 ("lost" : Str) [.int ((dl - 1)*m),.str l],row 9999 ("chosen" : Str) [.int (dl*m),.str l,.str "crown",.str "yy",.int (dl*m)],row 9999 ("heir" : Str) [.int (dl*m),.str l,.str "crown",.str "yy"],row 9999 ("found" : Str) [.int ((dl+1)*m),.str l]]else []
def dr (r:D):Bool:=if kindOf r=("named" : Str)then decide (az 1 r=("crown" : Str))else if kindOf r=("death" : Str)then !decide (az 1 r=("yz" : Str)) && !decide (az 1 r=("yb" : Str))else if kindOf r=("chosen" : Str)∨kindOf r=("heir" : Str)then decide (az 2 r=("crown" : Str)) && (!decide (az 1 r=("yy" : Str)) && !decide (az 3 r=("yy" : Str)))else false
theorem kB {r:D}(h:dr r=true):bT r=false:=by
 cases hr:bT r with
 | false=>rfl
 | true =>
  have hk:kindOf r=("root" : Str):=of_decide_eq_true hr
  unfold dr at h
  rw[hk,if_neg (by decide +kernel),if_neg (by decide +kernel),if_neg (by decide +kernel)]at h
  cases h
theorem A0 {r:D}(h:Nt r):dr r=false:=by cases h<;>rfl
theorem lG {z:Str}(h:Nm z):decide (z=("yy" : Str))=false/\decide (z=("yz" : Str))=false/\decide (z=("yb" : Str))=false:=⟨decide_eq_false h.1,decide_eq_false h.2.1,decide_eq_false h.2.2.2⟩
theorem lH (m:Int) (e:El):dr (dQ m e)=true:=rfl
theorem j4 (m:Int) {e:El}(hp:Nm e.p) (hb:Nm e.b):dr (bN m e)=true:=by
 show(!decide (e.b=("yy" : Str)) && !decide (e.p=("yy" : Str)))=true
 rw[(lG hp).1,(lG hb).1]
 rfl
theorem kD (d:Int) {b:Str}(hb:Nm b):dr (mr d b ("ya" : Str))=true/\dr (mr d b ("yb" : Str))=true:=by
 constructor
 ·show(!decide (b=("yy" : Str)) && true)=true
  rw[(lG hb).1]
  rfl
 ·show(!decide (b=("yy" : Str)) && true)=true
  rw[(lG hb).1]
  rfl
theorem gB (d:Int) {b:Str}(hb:Nm b):dr (dc d b)=true:=by
 show(!decide (b=("yz" : Str)) && !decide (b=("yb" : Str)))=true
 rw[(lG hb).2.1,(lG hb).2.2]
 rfl
theorem A1 (d:Int):dr (dc d ("yb" : Str))=false:=rfl
theorem uF (z:Bool) (l:Str) (dl m:Int):∀r∈k9 z l dl m,dr r=false:=λr hr=>by
 unfold k9 at hr
 split at hr
 ·simp only[List.mem_cons,List.not_mem_nil,or_false]at hr
  rcases hr with rfl|rfl|rfl|rfl
  ·rfl
  ·show(!decide (l=("yy" : Str)) && false)=false
   rw[Bool.and_false]
  ·show(!decide (l=("yy" : Str)) && false)=false
   rw[Bool.and_false]
  ·rfl
 ·cases hr
structure Sc where
 m:Int
 e:El
 es:List El
 w:Nat
 a:Int
 b:Int
 died:Int
 d2:Int
 z:Bool
 dl:Int
 nt:List D
 rl:Str
def Sc.l (S:Sc):El:=aW S.e S.es
def Sc.ef (S:Sc):List D:=(dQ S.m S.e::S.es.map (bN S.m))++gV S.w S.l.p S.a S.b S.died
def Sc.all (S:Sc):List D:=(dQ S.m S.e::S.es.map (bN S.m))++(gV S.w S.l.p S.a S.b S.died++q8 S.w S.d2)++S.nt++k9 S.z S.l.p S.dl S.m
def rtR (rl:Str):D:=row 9999 ("root" : Str) [.str "crown",.int 255,.int 9,.str rl]
structure Sc.Ok (S:Sc):Prop where
 hm:0<S.m
 ch:Ch S.e S.es
 ed:S.e.d=S.e.s
 np:Nm S.e.p
 ns:∀f∈S.es,Nm f.p/\Nm f.b
 la:S.l.s*S.m<S.a
 ab:S.a<S.b
 bd:S.b<S.died
 dd:S.d2<=S.died
 zw:S.z=true->S.w=0
 ld:S.l.s+2<=S.dl
 nn:∀r∈S.nt,Nt r
theorem iD {α:Type}:∀(r:List α) (a:α),aW a r∈a::r
 | [],_=>mX
 | b::r,_=>mZ _ (iD r b)
theorem Ch.le {e:El}{r:List El}(h:Ch e r):∀f∈r,e.s<f.d/\f.d<=f.s/\f.s<=(aW e r).s:=by
 induction h with
 | nil e=>intro f hf;cases hf
 | @cons e f r h1 h2 h3 h4 ih =>
  have hl:f.s<=(aW f r).s:=by
   rcases List.mem_cons.mp (iD r f)with q|q
   ·rw[q];exact Int.le_refl _
   ·have:=ih _ q;omega
  intro g hg
  rcases List.mem_cons.mp hg with rfl|hg
  ·exact⟨h1,h2,hl⟩
  ·have:=ih g hg
   exact⟨by omega,this.2.1,this.2.2⟩
section
variable {S:Sc}(ok:S.Ok)
include ok
theorem Sc.nl:Nm S.l.p:=by
 rcases List.mem_cons.mp (iD S.es S.e)with h|h
 ·show Nm (aW S.e S.es).p;rw[h];exact ok.np
 ·exact(ok.ns _ h).1
theorem Sc.cases {r:D}(h:r∈S.all):r=dQ S.m S.e∨(∃f∈S.es,r=bN S.m f)∨(2<=S.w/\(r=mr S.a S.l.p ("ya" : Str)∨r=mr S.b S.l.p ("yb" : Str)))∨(S.w≠0/\r=dc S.died S.l.p)∨(S.w=2/\r=dc S.d2 ("yb" : Str))∨Nt r∨r∈k9 S.z S.l.p S.dl S.m:=by
 unfold Sc.all at h
 rcases List.mem_append.mp h with h|h
 ·rcases List.mem_append.mp h with h|h
  ·rcases List.mem_append.mp h with h|h
   ·rcases List.mem_cons.mp h with h|h
    ·exact .inl h
    ·obtain⟨f,hf,e⟩:=List.mem_map.mp h
     exact .inr (.inl ⟨f,hf,e.symm⟩)
   ·rcases List.mem_append.mp h with h|h
    ·unfold gV at h
     split at h
     ·cases h
     ·rename_i h0
      split at h
      ·exact .inr (.inr (.inr (.inl ⟨h0,List.mem_singleton.mp h⟩)))
      ·rename_i h1
       simp only[List.mem_cons,List.not_mem_nil,or_false]at h
       rcases h with h|h|h
       ·exact .inr (.inr (.inl ⟨by omega,.inl h⟩))
       ·exact .inr (.inr (.inl ⟨by omega,.inr h⟩))
       ·exact .inr (.inr (.inr (.inl ⟨h0,h⟩)))
    ·unfold q8 at h
     split at h
     ·rename_i h2;exact .inr (.inr (.inr (.inr (.inl ⟨h2,List.mem_singleton.mp h⟩))))
     ·cases h
  ·exact .inr (.inr (.inr (.inr (.inr (.inl (ok.nn r h))))))
 ·exact .inr (.inr (.inr (.inr (.inr (.inr h)))))
theorem Sc.lost {r:D}(h:r∈k9 S.z S.l.p S.dl S.m):S.z=true/\(r=row 9999 ("lost" : Str) [.int ((S.dl - 1)*S.m),.str S.l.p]∨r=row 9999 ("chosen" : Str) [.int (S.dl*S.m),.str S.l.p,.str "crown",.str "yy",.int (S.dl*S.m)]∨r=row 9999 ("heir" : Str) [.int (S.dl*S.m),.str S.l.p,.str "crown",.str "yy"]∨r=row 9999 ("found" : Str) [.int ((S.dl+1)*S.m),.str S.l.p]):=by
 unfold k9 at h
 split at h
 ·rename_i hz
  simp only[List.mem_cons,List.not_mem_nil,or_false]at h
  exact⟨hz,h⟩
 ·cases h
theorem Sc.death {r:D}(h:r∈S.all) {p:Str}{d:Int}(ht:told bS p d r=true):p=("yz" : Str)∨(S.w=2/\p=("yb" : Str))∨(S.w≠0/\p=S.l.p/\S.died<=d/\r=dc S.died S.l.p):=by
 have no:∀ {k:Str}{aF:List D},¬k∈bS->told bS p d (row 9999 k aF)=true->False:=λhk h=>by
  unfold told row at h
  dsimp only at h
  rw[Bool.and_eq_true]at h
  exact hk (of_decide_eq_true h.1)
 have yes:∀ {q:Str}{t:Int},told bS p d (row 9999 ("death" : Str) [.int t,.str q])=true->p=q/\t<=d:=λh=>by
  unfold told row ma at h
  dsimp only at h
  rw[Bool.and_eq_true,Bool.and_eq_true]at h
  exact⟨(of_decide_eq_true h.2.1).symm,of_decide_eq_true h.2.2⟩
 rcases Sc.cases ok h with rfl|⟨f,_,rfl⟩|⟨_,rfl|rfl⟩|⟨hw,rfl⟩|⟨hw,rfl⟩|hn|hl
 ·exact(no (by decide +kernel) ht).elim
 ·exact(no (by decide +kernel) ht).elim
 ·exact(no (by decide +kernel) ht).elim
 ·exact(no (by decide +kernel) ht).elim
 ·obtain⟨h1,h2⟩:=yes ht
  exact .inr (.inr ⟨hw,h1,h2,rfl⟩)
 ·exact .inr (.inl ⟨hw,(yes ht).1⟩)
 ·cases hn with
  | d1 d=>exact .inl (yes ht).1
  | c1=>exact(no (by decide +kernel) ht).elim
  | h1=>exact(no (by decide +kernel) ht).elim
  | n1=>exact(no (by decide +kernel) ht).elim
  | c2=>exact(no (by decide +kernel) ht).elim
  | h2=>exact(no (by decide +kernel) ht).elim
  | l1=>exact(no (by decide +kernel) ht).elim
  | f1=>exact(no (by decide +kernel) ht).elim
 ·obtain⟨_,rfl|rfl|rfl|rfl⟩:=Sc.lost ok hl<;>exact(no (by decide +kernel) ht).elim
theorem Sc.seal {r:D}(h:r∈S.all) {p:Str}(hp:Nm p) {d:Int}(ht:told eE p d r=true):S.z=true/\p=S.l.p/\(((S.dl - 1)*S.m<=d/\kindOf r=("lost" : Str))∨(S.dl+1)*S.m<=d):=by
 have no:∀ {k:Str}{aF:List D},¬k∈eE->told eE p d (row 9999 k aF)=true->False:=λhk h=>by
  unfold told row at h
  dsimp only at h
  rw[Bool.and_eq_true]at h
  exact hk (of_decide_eq_true h.1)
 have yes:∀ {k q:Str}{t:Int},told eE p d (row 9999 k [.int t,.str q])=true->p=q/\t<=d:=λh=>by
  unfold told row ma at h
  dsimp only at h
  rw[Bool.and_eq_true,Bool.and_eq_true]at h
  exact⟨(of_decide_eq_true h.2.1).symm,of_decide_eq_true h.2.2⟩
 rcases Sc.cases ok h with rfl|⟨f,_,rfl⟩|⟨_,rfl|rfl⟩|⟨hw,rfl⟩|⟨hw,rfl⟩|hn|hl
 ·exact(no (by decide +kernel) ht).elim
 ·exact(no (by decide +kernel) ht).elim
 ·exact(no (by decide +kernel) ht).elim
 ·exact(no (by decide +kernel) ht).elim
 ·exact(no (by decide +kernel) ht).elim
 ·exact(no (by decide +kernel) ht).elim
 ·cases hn with
  | l1=>exact absurd (yes ht).1 hp.1
  | f1=>exact absurd (yes ht).1 hp.2.1
  | d1 d=>exact(no (by decide +kernel) ht).elim
  | c1=>exact(no (by decide +kernel) ht).elim
  | h1=>exact(no (by decide +kernel) ht).elim
  | n1=>exact(no (by decide +kernel) ht).elim
  | c2=>exact(no (by decide +kernel) ht).elim
  | h2=>exact(no (by decide +kernel) ht).elim
 ·obtain⟨hz,rfl|rfl|rfl|rfl⟩:=Sc.lost ok hl
  ·exact⟨hz,(yes ht).1,.inl ⟨(yes ht).2,rfl⟩⟩
  ·exact(no (by decide +kernel) ht).elim
  ·exact(no (by decide +kernel) ht).elim
  ·exact⟨hz,(yes ht).1,.inr (yes ht).2⟩
end
theorem kE (ws:List Str) (p:Str) (d:Int) (rl:Str):told ws p d (rtR rl)=false:=by show(decide (("root" : Str)∈ws) && false)=false;exact Bool.and_false _
structure Sc.In (S:Sc) (K:KL):Prop where
 mem:∀x∈K,x.1=rtR S.rl∨x.1∈S.all
 has:∀r∈S.all,∃n,(r,n)∈K
 prm:((K.map (·.1)).filter dr).Perm S.ef
 rt:fJ K ("crown" : Str)=some (rtR S.rl)
 ml:fJ K ("mill" : Str)=none
 nod:(K.map (·.2)).Nodup
section
variable {S:Sc}{K:KL}(ok:S.Ok) (i:S.In K)
include ok i
theorem Sc.lives {p:Str}(hp:Nm p) {d:Int}(hd:d<S.died):cD K p d=true:=by
 unfold cD
 rw[List.isEmpty_iff,List.filter_eq_nil_iff]
 intro x hx ht
 rcases i.mem x hx with e|e
 ·rw[e,kE]at ht;cases ht
 ·rcases Sc.death ok e ht with h|⟨_,h⟩|⟨_,_,h,_⟩
  ·exact hp.2.1 h
  ·exact hp.2.2.2 h
  ·omega
theorem Sc.sealed {p:Str}(hp:Nm p) {d:Int}(hd:S.z=true->p=S.l.p->d<(S.dl - 1)*S.m):k6 K p d=true:=by
 have:K.filter (λx=>told eE p d x.1)=[]:=List.filter_eq_nil_iff.mpr λx hx ht=>by
  rcases i.mem x hx with e|e
  ·rw[e,kE]at ht;cases ht
  ·obtain⟨h1,h2,h3⟩:=Sc.seal ok e hp ht
   have h4:=hd h1 h2
   have h5:(S.dl - 1)*S.m<=(S.dl+1)*S.m:=gk ok.hm (by omega)
   rcases h3 with h3|h3
   ·omega
   ·omega
 unfold k6
 rw[this]
 rfl
theorem Sc.sound_c {f:El}(hf:f∈S.es):gh K (bN S.m f)=true:=by
 have hl:=ok.ch.le f hf
 have h1:f.d*S.m<=S.l.s*S.m:=gk ok.hm (by show f.d<=(aW S.e S.es).s;omega)
 have h2:S.l.s*S.m<(S.dl - 1)*S.m:=dD ok.hm (by have:=ok.ld;omega)
 have:=ok.la;have:=ok.ab;have:=ok.bd
 show(true && (cD K f.b (f.d*S.m) && k6 K f.b (f.d*S.m)))=true
 rw[Sc.lives ok i (ok.ns f hf).2 (by omega),Sc.sealed ok i (ok.ns f hf).2 λ_ _=>by omega]
 rfl
theorem Sc.sound_h (hw:2<=S.w) {d:Int}(hd:d<S.died) (p:Str):gh K (mr d S.l.p p)=true:=by
 show(true && (cD K S.l.p d && k6 K S.l.p d))=true
 rw[Sc.lives ok i (Sc.nl ok) hd,Sc.sealed ok i (Sc.nl ok) λh _=>by have:=ok.zw h;omega]
 rfl
theorem Sc.unsealed (hz:S.z=true):k6 K S.l.p (S.dl*S.m)=false:=by
 have h1:(S.dl - 1)*S.m<=S.dl*S.m:=gk ok.hm (by omega)
 have h2:S.dl*S.m<(S.dl+1)*S.m:=dD ok.hm (by omega)
 have hall:∀x∈K.filter (λx=>told eE S.l.p (S.dl*S.m) x.1),kindOf x.1=("lost" : Str):=λx hx=>by
  obtain⟨hx,ht⟩:=List.mem_filter.mp hx
  rcases i.mem x hx with e|e
  ·rw[e,kE]at ht;cases ht
  ·rcases (Sc.seal ok e (Sc.nl ok) ht).2.2 with h|h
   ·exact h.2
   ·omega
 obtain⟨n,hn⟩:=i.has (row 9999 ("lost" : Str) [.int ((S.dl - 1)*S.m),.str S.l.p]) (by unfold Sc.all k9;rw[hz];simp)
 have hmem:(row 9999 ("lost" : Str) [.int ((S.dl - 1)*S.m),.str S.l.p],n)∈K.filter (λx=>told eE S.l.p (S.dl*S.m) x.1):=List.mem_filter.mpr ⟨hn,by
  show(true && (decide (S.l.p=S.l.p) && decide ((S.dl - 1)*S.m<=S.dl*S.m)))=true
  rw[decide_eq_true rfl,decide_eq_true h1];rfl⟩
 unfold k6
 cases hq:K.filter (λx=>told eE S.l.p (S.dl*S.m) x.1) with
 | nil=>rw[hq]at hmem;cases hmem
 | cons b r =>
  rw[hq]at hall
  have:=hall _ (kn r b)
  show decide (kindOf (dN b r).1=("found" : Str))=false
  rw[this]
  decide +kernel
def Sc.G (S:Sc) (st:St3):Prop:=(∀c∈st.1,c.p≠("yy" : Str)/\c.p≠("yz" : Str)/\(S.w=2->c.p≠("yb" : Str)))/\∀v∈st.2.2,v=D.str "ya" ∨ v=D.str "yb"
end
theorem BT {so:List Cl}{offs:List Str}{p:Str}{d:Int}{c:Cl}(h:c∈bi so offs p d):∃c'∈so,c'.p=c.p:=by
 unfold bi at h
 obtain⟨c',h1,h2⟩:=List.mem_flatMap.mp h
 unfold cy at h2
 split at h2
 ·exact⟨c',h1,by rw[List.mem_singleton.mp h2]⟩
 ·rename_i hn
  split at h2
  ·rw[List.mem_singleton.mp h2]
   rw[Bool.not_eq_true,Bool.or_eq_false_iff,Bool.or_eq_false_iff]at hn
   exact⟨c',h1,by simpa using hn.2.1⟩
  ·cases h2
theorem Fy {K:KL}{so:List Cl}{hk:List (List Key)}{hv:List D}{p:Str}{d:Int}{n:Nat}{c:Cl}(h:c∈iA K so hk hv p d n):cD K c.p d=true/\D.str c.p∈hv:=by
 unfold iA at h
 obtain⟨o,ho,h⟩:=List.mem_flatMap.mp h
 unfold bY at h
 split at h
 ·rename_i q hq
  split at h
  ·rename_i hl
   rw[List.mem_singleton.mp h]
   refine⟨hl, ?_⟩
   unfold o8 at hq
   split at hq
   ·rename_i e
    cases hq
    exact ky e
   ·cases hq
  ·cases h
 ·cases h
theorem Ch.pw {e:El}{r:List El}(h:Ch e r) (he:e.d<=e.s):(e::r).Pairwise λf g=>f.d<g.d:=by
 induction h with
 | nil e=>simp
 | @cons e f r h1 h2 h3 h4 ih =>
  refine List.pairwise_cons.mpr ⟨λg hg=>?_,ih h2⟩
  rcases List.mem_cons.mp hg with rfl|hg
  ·omega
  ·have:=h4.le g hg;omega
section
variable {S:Sc}{K:KL}(ok:S.Ok) (i:S.In K)
include ok i
theorem Sc.yb_dead (hw:S.w=2):cD K ("yb" : Str) S.died=false:=by
 obtain⟨n,hn⟩:=i.has (dc S.d2 ("yb" : Str)) (by unfold Sc.all q8;rw[hw];simp)
 cases h:cD K ("yb" : Str) S.died with
 | false=>rfl
 | true =>
  unfold cD at h
  rw[List.isEmpty_iff]at h
  refine absurd ?_ (List.filter_eq_nil_iff.mp h _ hn)
  show(true && (true && decide (S.d2<=S.died)))=true
  rw[decide_eq_true ok.dd]
  rfl
theorem Sc.keeps {x:D×Nat}(hx:x.1∈S.all) {st:St3}(g:S.G st):(dr x.1=true->S.G (br K st x))/\(dr x.1=false->br K st x=st):=by
 have nmk:∀ {p:Str},Nm p->p≠("yy" : Str)/\p≠("yz" : Str)/\(S.w=2->p≠("yb" : Str)):=λh=>⟨h.1,h.2.1,λ_=>h.2.2.2⟩
 have ende:∀(offs:List Str) (p:Str) (d:Int),∀c∈bi st.1 offs p d,c.p≠("yy" : Str)/\c.p≠("yz" : Str)/\(S.w=2->c.p≠("yb" : Str)):=λoffs p d c hc=>by
  obtain⟨c',h1,h2⟩:=BT hc
  rw[←h2];exact g.1 c' h1
 have snoc:∀ {l:List Cl}{c0:Cl},(∀c∈l,c.p≠("yy" : Str)/\c.p≠("yz" : Str)/\(S.w=2->c.p≠("yb" : Str)))->Nm c0.p->∀c∈l++[c0],c.p≠("yy" : Str)/\c.p≠("yz" : Str)/\(S.w=2->c.p≠("yb" : Str)):=λh h0 c hc=>by
  rcases List.mem_append.mp hc with hc|hc
  ·exact h c hc
  ·rw[List.mem_singleton.mp hc];exact nmk h0
 have heir:∀(d:Int) (p:Str),x.1=mr d S.l.p p->(p=("ya" : Str)∨p=("yb" : Str))->S.G (br K st x):=λd p e hp=>by
  have hk:kindOf x.1=("heir" : Str):=by rw[e];rfl
  have hp3:az 3 x.1=p:=by rw[e];rfl
  unfold br
  rw[if_neg (cV hk (by decide +kernel)),if_neg (cV hk (by decide +kernel)),if_pos hk,hp3]
  split
  ·refine⟨g.1,λv hv=>?_⟩
   rcases lC hv with h|h
   ·rw[h];rcases hp with rfl|rfl
    ·exact .inl rfl
    ·exact .inr rfl
   ·exact g.2 v h
  ·exact g
 rcases Sc.cases ok hx with e|⟨f,hf,e⟩|⟨hw,e|e⟩|⟨hw,e⟩|⟨hw,e⟩|hn|hl
 ·refine⟨λ_=>?_,λh=>by rw[e,lH]at h;cases h⟩
  have hk:kindOf x.1=("named" : Str):=by rw[e];rfl
  unfold br
  rw[if_pos hk]
  split
  ·exact⟨snoc g.1 (by rw[e];exact ok.np),g.2⟩
  ·exact g
 ·refine⟨λ_=>?_,λh=>by rw[e,j4 S.m (ok.ns f hf).1 (ok.ns f hf).2]at h;cases h⟩
  have hk:kindOf x.1=("chosen" : Str):=by rw[e];rfl
  unfold br
  rw[if_neg (cV hk (by decide +kernel)),if_pos hk]
  split
  ·exact⟨snoc (ende _ _ _) (by rw[e];exact(ok.ns f hf).1),g.2⟩
  ·exact g
 ·exact⟨λ_=>heir _ _ e (.inl rfl),λh=>by rw[e,(kD _ (Sc.nl ok)).1]at h;cases h⟩
 ·exact⟨λ_=>heir _ _ e (.inr rfl),λh=>by rw[e,(kD _ (Sc.nl ok)).2]at h;cases h⟩
 ·refine⟨λ_=>?_,λh=>by rw[e,gB _ (Sc.nl ok)]at h;cases h⟩
  have hk:kindOf x.1=("death" : Str):=by rw[e];rfl
  have hd:aH x.1=S.died:=by rw[e];rfl
  unfold br
  rw[if_neg (cV hk (by decide +kernel)),if_neg (cV hk (by decide +kernel)),if_neg (cV hk (by decide +kernel)),hd]
  split
  ·refine⟨λc hc=>?_,g.2⟩
   rcases List.mem_append.mp hc with hc|hc
   ·exact ende _ _ _ c hc
   ·obtain⟨h1,h2⟩:=Fy hc
    have h3:c.p=("ya" : Str)∨c.p=("yb" : Str):=by
     rcases g.2 _ h2 with h|h
     ·injection h with h;exact .inl h
     ·injection h with h;exact .inr h
    refine⟨?_, ?_,λhw2 h4=>?_⟩
    ·rcases h3 with h|h<;>rw[h]<;>decide +kernel
    ·rcases h3 with h|h<;>rw[h]<;>decide +kernel
    ·rw[h4,Sc.yb_dead ok i hw2]at h1;cases h1
  ·exact g
 ·refine⟨λh=>(by rw[e,A1]at h;cases h),λ_=>qu (by rw[e];rfl) λc hc=>?_⟩
  rw[e]
  exact(g.1 c hc).2.2 hw
 ·refine⟨λh=>(by rw[A0 hn]at h;cases h),λ_=>?_⟩
  generalize hr:x.1=r at hn
  cases hn with
  | c1 d p=>exact dC (fZ (by rw[hr];exact λh=>absurd (show("chosen" : Str)=("death" : Str)from h) (by decide +kernel)) (by rw[hr];exact λh=>absurd (show("chosen" : Str)=("named" : Str)from h) (by decide +kernel)) λo rl=>by rw[hr];show(_ && gU st.1 o rl ("yy" : Str) d)=false;rw[u9 λc hc=>(g.1 c hc).1,Bool.and_false])
  | h1 d p=>exact dC (fZ (by rw[hr];exact λh=>absurd (show("heir" : Str)=("death" : Str)from h) (by decide +kernel)) (by rw[hr];exact λh=>absurd (show("heir" : Str)=("named" : Str)from h) (by decide +kernel)) λo rl=>by rw[hr];show(_ && gU st.1 o rl ("yy" : Str) d)=false;rw[u9 λc hc=>(g.1 c hc).1,Bool.and_false])
  | d1 d=>exact qu (by rw[hr];rfl) λc hc=>by rw[hr];exact(g.1 c hc).2.1
  | n1 d p=>exact dC (iC (by rw[hr];exact λh=>absurd (show("named" : Str)=("death" : Str)from h) (by decide +kernel)) (by rw[hr];exact i.ml))
  | c2 d p=>exact dC (iC (by rw[hr];exact λh=>absurd (show("chosen" : Str)=("death" : Str)from h) (by decide +kernel)) (by rw[hr];exact i.ml))
  | h2 d p=>exact dC (iC (by rw[hr];exact λh=>absurd (show("heir" : Str)=("death" : Str)from h) (by decide +kernel)) (by rw[hr];exact i.ml))
  | l1 d=>exact dC (eX (by rw[hr];exact λh=>absurd (show("lost" : Str)=("death" : Str)from h) (by decide +kernel)) (by rw[hr];exact λh=>absurd (show("lost" : Str)∈k7 from h) (by decide +kernel)))
  | f1 d=>exact dC (eX (by rw[hr];exact λh=>absurd (show("found" : Str)=("death" : Str)from h) (by decide +kernel)) (by rw[hr];exact λh=>absurd (show("found" : Str)∈k7 from h) (by decide +kernel)))
 ·refine⟨λh=>(by rw[uF _ _ _ _ _ hl]at h;cases h),λ_=>?_⟩
  obtain⟨hz,hr|hr|hr|hr⟩:=Sc.lost ok hl
  ·exact dC (eX (by rw[hr];exact λh=>absurd (show("lost" : Str)=("death" : Str)from h) (by decide +kernel)) (by rw[hr];exact λh=>absurd (show("lost" : Str)∈k7 from h) (by decide +kernel)))
  ·exact dC (fZ (by rw[hr];exact λh=>absurd (show("chosen" : Str)=("death" : Str)from h) (by decide +kernel)) (by rw[hr];exact λh=>absurd (show("chosen" : Str)=("named" : Str)from h) (by decide +kernel)) λo rl=>by
    rw[hr]
    show((true && (cD K S.l.p (S.dl*S.m) && k6 K S.l.p (S.dl*S.m))) && _)=false
    rw[Sc.unsealed ok i hz,Bool.and_false]
    rfl)
  ·exact dC (fZ (by rw[hr];exact λh=>absurd (show("heir" : Str)=("death" : Str)from h) (by decide +kernel)) (by rw[hr];exact λh=>absurd (show("heir" : Str)=("named" : Str)from h) (by decide +kernel)) λo rl=>by
    rw[hr]
    show((true && (cD K S.l.p (S.dl*S.m) && k6 K S.l.p (S.dl*S.m))) && _)=false
    rw[Sc.unsealed ok i hz,Bool.and_false]
    rfl)
  ·exact dC (eX (by rw[hr];exact λh=>absurd (show("found" : Str)=("death" : Str)from h) (by decide +kernel)) (by rw[hr];exact λh=>absurd (show("found" : Str)∈k7 from h) (by decide +kernel)))
end
def Sc.fin (S:Sc) (n0:Nat) (r:List (El×Nat)) (nd:Nat):List Cl:=if S.w=0 then dh S.m none (S.e,n0) r else dh S.m (some S.died) (S.e,n0) r++(if S.w<3 then []else [⟨("crown" : Str),("yb" : Str),S.died,none,nd⟩])
theorem uG {α β:Type}(g:α->β):∀(es:List α) (L:List (β×Nat)),L.map (·.1)=es.map g->∃r:List (α×Nat),r.map (·.1)=es/\L=r.map λf=>(g f.1,f.2)
 | [],[],_=>⟨[],rfl,rfl⟩
 | e::es,x::L,h=>by
  rw[List.map_cons,List.map_cons]at h
  injection h with h1 h2
  obtain⟨r,q1,q2⟩:=uG g es L h2
  exact⟨(e,x.2)::r,by rw[List.map_cons,q1],by rw[List.map_cons,q2,←h1]⟩
 | [],_::_,h=>by cases h
 | _::_,[],h=>by cases h
theorem oE {α β:Type}(g:α->β):∀(r:List α) (a:α),aW (g a) (r.map g)=g (aW a r)
 | [],_=>rfl
 | b::r,_=>oE g r b
section
variable {S:Sc}{K:KL}(ok:S.Ok) (i:S.In K)
include ok
theorem Sc.ef_pw:S.ef.Pairwise λa b=>aH a<aH b:=by
 have hl:∀r∈dQ S.m S.e::S.es.map (bN S.m),aH r<=S.l.s*S.m:=λr hr=>by
  rcases List.mem_cons.mp hr with rfl|hr
  ·show S.e.d*S.m<=_
   refine gk ok.hm ?_
   rw[ok.ed]
   show S.e.s<=(aW S.e S.es).s
   rcases List.mem_cons.mp (iD S.es S.e)with q|q
   ·rw[q];exact Int.le_refl _
   ·have:=ok.ch.le _ q;omega
  ·obtain⟨f,hf,rfl⟩:=List.mem_map.mp hr
   have:=ok.ch.le f hf
   exact gk ok.hm (by show f.d<=(aW S.e S.es).s;omega)
 have la:=ok.la;have ab:=ok.ab;have bd:=ok.bd
 unfold Sc.ef
 rw[List.pairwise_append]
 refine⟨?_, ?_,λx hx y hy=>?_⟩
 ·have hp:=ok.ch.pw (by rw[ok.ed];exact Int.le_refl _)
  obtain⟨h1,h2⟩:=List.pairwise_cons.mp hp
  refine List.pairwise_cons.mpr ⟨λr hr=>?_,List.pairwise_map.mpr (h2.imp λh=>dD ok.hm h)⟩
  obtain⟨f,hf,rfl⟩:=List.mem_map.mp hr
  exact dD ok.hm (h1 f hf)
 ·unfold gV
  split
  ·simp
  ·split
   ·simp
   ·refine List.pairwise_cons.mpr ⟨λr hr=>?_,List.pairwise_cons.mpr ⟨λr hr=>?_,by simp⟩⟩
    ·simp only[List.mem_cons,List.not_mem_nil,or_false]at hr
     rcases hr with rfl|rfl
     ·exact ab
     ·show S.a<S.died;omega
    ·rw[List.mem_singleton.mp hr];exact bd
 ·have h1:=hl x hx
  have h2:S.l.s*S.m<aH y:=by
   unfold gV at hy
   split at hy
   ·cases hy
   ·split at hy
    ·rw[List.mem_singleton.mp hy];show _<S.died;omega
    ·simp only[List.mem_cons,List.not_mem_nil,or_false]at hy
     rcases hy with rfl|rfl|rfl
     ·exact la
     ·show _<S.b;omega
     ·show _<S.died;omega
  omega
include i
theorem Sc.one {x y:D×Nat}(hx:x∈K) (hy:y∈K) (he:dr x.1=true) (e:x.1=y.1):x=y:=by
 have hE:=uA dr (λ_ h=>kB h) (Sc.ef_pw ok) i.prm
 have hin:∀ {z:D×Nat},z∈K->dr z.1=true->z∈(cU K).filter λx=>dr x.1:=λhz h=>List.mem_filter.mpr ⟨(bP _ _).mem_iff.mpr (List.mem_filter.mpr ⟨hz,by rw[kB h];rfl⟩),h⟩
 have hnd:(((cU K).filter λx=>dr x.1).map (·.1)).Nodup:=by rw[hE];exact(Sc.ef_pw ok).imp λh e=>by rw[e]at h;omega
 exact fq (·.1) hnd (hin hx he) (hin hy (by rw[←e];exact he)) e
theorem Sc.first (hw:S.w≠0) {n:Nat}(hn:(dc S.died S.l.p,n)∈K):dA K S.l.p S.died n=true:=by
 have hm:(dc S.died S.l.p,n)∈K.filter (λx=>told bS S.l.p S.died x.1):=List.mem_filter.mpr ⟨hn,by
  show(true && (decide (S.l.p=S.l.p) && decide (S.died<=S.died)))=true
  simp⟩
 have hall:∀x∈K.filter (λx=>told bS S.l.p S.died x.1),x=(dc S.died S.l.p,n):=λx hx=>by
  obtain⟨h1,h2⟩:=List.mem_filter.mp hx
  rcases i.mem x h1 with e|e
  ·rw[e,kE]at h2;cases h2
  ·rcases Sc.death ok e h2 with h|⟨_,h⟩|⟨_,_,_,h⟩
   ·exact absurd h (Sc.nl ok).2.1
   ·exact absurd h (Sc.nl ok).2.2.2
   ·exact Sc.one ok i h1 hn (by rw[h];exact gB _ (Sc.nl ok)) h
 unfold dA
 cases hq:K.filter (λx=>told bS S.l.p S.died x.1) with
 | nil=>rw[hq]at hm;cases hm
 | cons b r =>
  rw[hq]at hall
  have:=hall _ (k8 r b).1
  show decide ((lD b r).2=n)=true
  rw[this]
  exact decide_eq_true rfl
theorem Sc.claims:∃(n0:Nat) (r:List (El×Nat)) (nd:Nat),r.map (·.1)=S.es/\(dQ S.m S.e,n0)∈K/\(∀f∈r,(bN S.m f.1,f.2)∈K)/\(S.w≠0->(dc S.died S.l.p,nd)∈K)/\dB K=S.fin n0 r nd:=by
 have hE:=uA dr (λ_ h=>kB h) (Sc.ef_pw ok) i.prm
 have hmem:∀x∈(cU K).filter (λx=>dr x.1),x∈K:=λx hx=>(List.mem_filter.mp ((bP _ _).mem_iff.mp (List.mem_filter.mp hx).1)).1
 have hfold:iB K (cU K)=((cU K).filter λx=>dr x.1).foldl (br K) ([],[],[]):=by
  unfold iB
  refine oD S.G (λx=>dr x.1) _ _ ⟨by simp,by simp⟩ λx hx st g=>?_
  obtain⟨h1,h2⟩:=List.mem_filter.mp ((bP _ _).mem_iff.mp hx)
  rcases i.mem x h1 with e|e
  ·rw[e]at h2;exact absurd h2 (by show ¬(!bT (rtR S.rl))=true;rw[show bT (rtR S.rl)=true from decide_eq_true rfl];decide)
  ·exact Sc.keeps ok i e g
 generalize (cU K).filter (λx=>dr x.1)=EL at hE hmem hfold
 unfold Sc.ef at hE
 rw[List.cons_append]at hE
 obtain⟨x0,EL',rfl,hx0,hE⟩:=List.map_eq_cons_iff.mp hE
 obtain⟨L1,L2,rfl,h1,h2⟩:=List.map_eq_append_iff.mp hE
 obtain⟨r,hr,rfl⟩:=uG (bN S.m) S.es L1 h1
 have hch:Ch S.e (r.map (·.1)):=by rw[hr];exact ok.ch
 have hlast:(aW (S.e,x0.2) r).1=S.l:=by
  have:=oE (λf:El×Nat=>f.1) r (S.e,x0.2)
  rw[hr]at this
  exact this.symm
 have s0:br K ([],[],[]) x0=([⟨("crown" : Str),S.e.p,S.e.s*S.m,none,x0.2⟩],[],[]):=by
  have hk:kindOf x0.1=("named" : Str):=by rw[hx0];rfl
  have hc:bf K [] x0=true:=by
   unfold bf
   rw[if_neg (cV hk (by decide +kernel)),if_pos (by rw[hk];decide +kernel),show rW x0.1=("crown" : Str) by rw[hx0];rfl,i.rt]
   exact if_pos hk
  unfold br
  rw[if_pos hc,if_pos hk,show az 1 x0.1=("crown" : Str) by rw[hx0];rfl,show az 2 x0.1=S.e.p by rw[hx0];rfl,show aH x0.1=S.e.s*S.m by rw[hx0,←ok.ed];rfl]
  rfl
 have hf:∀f∈r,(bN S.m f.1,f.2)∈K:=λf hf=>hmem _ (mZ _ (List.mem_append_left _ (List.mem_map.mpr ⟨f,hf,rfl⟩)))
 have s1:(r.map λf=>(bN S.m f.1,f.2)).foldl (br K) ([⟨("crown" : Str),S.e.p,S.e.s*S.m,none,x0.2⟩],[],[])=(dh S.m none (S.e,x0.2) r,[],[]) :=
  qz i.rt rfl ok.hm r S.e x0.2 [] ([],[]) hch (λc hc=>by cases hc) λf hf=>Sc.sound_c ok i (by rw[←hr];exact List.mem_map.mpr ⟨f,hf,rfl⟩)
 rw[List.foldl_cons,s0,List.foldl_append,s1]at hfold
 obtain⟨pre,q1,q2,_⟩:=dR ok.hm r S.e x0.2 hch
 rw[hlast]at q1 q2
 have ls:=λu=>ga ok.hm u r S.e x0.2 hch
 have hx0K:(dQ S.m S.e,x0.2)∈K:=by rw[←hx0];exact hmem _ mX
 have la:=ok.la;have ab:=ok.ab;have bd:=ok.bd
 have hL2:∀y∈L2,y∈K:=λy hy=>hmem y (mZ _ (mY _ hy))
 by_cases w0:S.w=0
 ·have:L2=[]:=by unfold gV at h2;rw[if_pos w0]at h2;exact List.map_eq_nil_iff.mp h2
  subst this
  refine⟨x0.2,r,0,hr,hx0K,hf,λh=>absurd w0 h, ?_⟩
  unfold dB Sc.fin
  rw[hfold,if_pos w0]
  exact gR (ls none).1 λc hc=>((ls none).2 c hc).1
 ·have dead:∀ {y:D×Nat}(hs:List (List Key)×List D),y.1=dc S.died S.l.p->y∈K->br K (pre++[⟨("crown" : Str),S.l.p,S.l.s*S.m,none,(aW (S.e,x0.2) r).2⟩],hs) y=(dh S.m (some S.died) (S.e,x0.2) r++bY K hs.1 hs.2 S.l.p S.died y.2 ("crown" : Str),hs):=λ{y} hs hy hK=>by
   rw[q1 (some S.died)]
   exact wq hy (Sc.first ok i w0 (by rw[←hy];exact hK)) q2 (by omega)
  by_cases w1:S.w=1
  ·unfold gV at h2
   rw[if_neg w0,if_pos w1]at h2
   obtain⟨y,L3,rfl,hy,h3⟩:=List.map_eq_cons_iff.mp h2
   have:=List.map_eq_nil_iff.mp h3
   subst this
   have hyK:=hL2 y mX
   refine⟨x0.2,r,y.2,hr,hx0K,hf,λ_=>by rw[←hy];exact hyK, ?_⟩
   unfold dB Sc.fin
   rw[hfold,if_neg w0,if_pos (by omega),q1 none,List.foldl_cons,dead _ hy hyK]
   show fR _ (_++[])=_++[]
   rw[List.append_nil]
   exact gR (ls _).1 λc hc=>((ls _).2 c hc).1
  ·unfold gV at h2
   rw[if_neg w0,if_neg w1]at h2
   obtain⟨y1,L3,rfl,hy1,h3⟩:=List.map_eq_cons_iff.mp h2
   obtain⟨y2,L4,rfl,hy2,h4⟩:=List.map_eq_cons_iff.mp h3
   obtain⟨y3,L5,rfl,hy3,h5⟩:=List.map_eq_cons_iff.mp h4
   have:=List.map_eq_nil_iff.mp h5
   subst this
   have hy3K:=hL2 y3 (by simp)
   have e1:=qy i.rt rfl (x:=y1) (h:=9999) (d:=S.a) (n:=(aW (S.e,x0.2) r).2) (hs:=([],[])) hy1 (by rw[hy1];exact Sc.sound_h ok i (by omega) (by omega) _) q2 la
   have e2:=qy i.rt rfl (x:=y2) (h:=9999) (d:=S.b) (n:=(aW (S.e,x0.2) r).2) (hs:=(cG [] ([.inr ("crown" : Str),.inr S.l.p]:List Key),cL [] [] ([.inr ("crown" : Str),.inr S.l.p]:List Key) (.str "ya"))) hy2 (by rw[hy2];exact Sc.sound_h ok i (by omega) bd _) q2 (by omega)
   refine⟨x0.2,r,y3.2,hr,hx0K,hf,λ_=>by rw[←hy3];exact hy3K, ?_⟩
   have hin:∀n:Nat,bY K (cG (cG [] ([.inr ("crown" : Str),.inr S.l.p]:List Key)) ([.inr ("crown" : Str),.inr S.l.p]:List Key)) (cL (cG [] ([.inr ("crown" : Str),.inr S.l.p]:List Key)) (cL [] [] ([.inr ("crown" : Str),.inr S.l.p]:List Key) (.str "ya")) ([.inr ("crown" : Str),.inr S.l.p]:List Key) (.str "yb")) S.l.p S.died n ("crown" : Str)=if cD K ("yb" : Str) S.died=true then [⟨("crown" : Str),("yb" : Str),S.died,none,n⟩]else []:=λn=>by
    simp[bY,o8,cG,cL,cj]
   unfold dB Sc.fin
   rw[hfold,if_neg w0,q1 none,List.foldl_cons,List.foldl_cons,List.foldl_cons,e1,e2,dead _ hy3 hy3K,hin]
   by_cases w2:S.w=2
   ·rw[Sc.yb_dead ok i w2,if_neg (by decide),if_pos (by omega),List.append_nil]
    exact gR (ls _).1 λc hc=>((ls _).2 c hc).1
   ·have hlv:cD K ("yb" : Str) S.died=true:=by
     unfold cD
     rw[List.isEmpty_iff,List.filter_eq_nil_iff]
     intro x hx ht
     rcases i.mem x hx with e|e
     ·rw[e,kE]at ht;cases ht
     ·rcases Sc.death ok e ht with h|⟨h,_⟩|⟨_,h,_⟩
      ·exact absurd h (by decide +kernel)
      ·exact w2 h
      ·exact(Sc.nl ok).2.2.2 h.symm
    rw[hlv,if_pos rfl,if_neg (by omega)]
    refine gR (List.pairwise_append.mpr ⟨(ls _).1,by simp,λc hc x hx=>?_⟩) λc hc=>?_
    ·rw[List.mem_singleton.mp hx]
     have:=((ls _).2 c hc).2.2
     rw[hlast]at this
     show c.s<S.died
     omega
    ·rcases List.mem_append.mp hc with hc|hc
     ·exact((ls _).2 c hc).1
     ·rw[List.mem_singleton.mp hc]
end
theorem Fz {z:Str}(h:121∉z.cps.toList):Nm z:=by
 refine⟨?_, ?_, ?_, ?_⟩<;>(rintro rfl;exact h (by decide +kernel))
theorem wt {zs:List Str}{i:Int}(h1:0<=i) (h2:i<zs.length):∃z∈zs,ixD (.lst (zs.map .str)) (.int i)=some (.str z,false):=by
 have h:i.toNat<zs.length:=by omega
 refine⟨zs[i.toNat],List.getElem_mem h, ?_⟩
 rw[rL h1 (by rw[List.length_map];exact h),List.getD_eq_getElem?_getD,List.getElem?_map,List.getElem?_eq_getElem h]
 rfl
theorem ms {x n:Int}(h:0<n):dm (.int x) (.int n)=some (.int (x % n),false):=by
 show(if decide ((0:Int)<n)=true then _ else _)=_
 rw[if_pos (decide_eq_true h)]
theorem gW {m:Int}(hm:0<m/\m<=190) (x:Int):eU (.int x) (.int m)=some (.int (x*m),false):=by
 have : -18446744073709551616<m/\m<18446744073709551616:=by omega
 simp[this]
theorem gp {α:Type}(xs:List α):atI xs (-1)=xs.getLast?:=by
 rw[List.getLast?_eq_getElem?]
 unfold atI ixN
 cases xs with
 | nil=>rfl
 | cons a l =>
  rw[if_neg (by decide),if_pos (by simp;omega),Option.bind_some]
  congr 1
  simp
  omega
def ln0 (m:Int) (e:El):D:=.tup [.int e.s,.str e.p,.tup [.str "named",.int (e.d*m),.str "crown"]]
def ln1 (m:Int) (e:El):D:=.tup [.int e.s,.str e.p,.tup [.str "chosen",.int (e.d*m),.str e.b,.str "crown"]]
def aM (m:Int) (e:El) (es:List El):List D:=ln0 m e::es.map (ln1 m)
theorem qA (m:Int) (e:El) (es:List El):aV (aM m e es)=true:=bF λd hd=>by
 rcases List.mem_cons.mp hd with rfl|hd
 ·rfl
 ·obtain⟨f,_,rfl⟩:=List.mem_map.mp hd;rfl
theorem iY (m:Int):∀(es:List El) (e:El),∃x,(aM m e es).getLast? = some (.tup [.int (aW e es).s,.str (aW e es).p,x])/\bo x=true
 | [],e=>⟨_,rfl,rfl⟩
 | f::es,e=>by
  have go:∀(es:List El) (f:El),∃x,(ln1 m f::es.map (ln1 m)).getLast? = some (.tup [.int (aW f es).s,.str (aW f es).p,x])/\bo x=true:=λes=>by
   induction es with
   | nil=>intro f;exact⟨_,rfl,rfl⟩
   | cons g es ih =>
    intro f
    obtain⟨x,h1,h2⟩:=ih g
    exact⟨x,by rw[List.map_cons,List.getLast?_cons_cons];exact h1,h2⟩
  obtain⟨x,h1,h2⟩:=go es f
  exact⟨x,by unfold aM;rw[List.map_cons,List.getLast?_cons_cons];exact h1,h2⟩
theorem lI {α:Type}:∀(r:List α) (a b:α),aW a (r++[b])=b
 | [],_,_=>rfl
 | c::r,_,b=>lI r c b
theorem Ch.snoc {e f:El}{r:List El}(h:Ch e r) (h1:(aW e r).s<f.d) (h2:f.d<=f.s) (h3:f.b=(aW e r).p):Ch e (r++[f]):=by
 induction h with
 | nil e=>exact .cons h1 h2 h3 (.nil f)
 | cons a1 a2 a3 a4 ih=>exact .cons a1 a2 a3 (ih h1 h3)
theorem BU (ns:List Int) (zs:List Str) (hz:0<zs.length) (hn:∀z∈zs,Nm z) {m:Int}(hm:0<m/\m<=190):∃e es,jZ [.lst (ns.map .int),.lst (zs.map .str),.int m]=some (.lst (aM m e es),true)/\Ch e es/\e.d=e.s/\1<=e.s/\Nm e.p/\(∀f∈es,Nm f.p/\Nm f.b)/\es.length<=8/\(aW e es).s<=44:=by
 have hl0:(0:Int)<zs.length:=by omega
 have c3:=dZ ns 3
 have c4:=dZ ns 4
 have m4:=mod_lt (x:=ns.getD 3 0) (m:=4) (by decide)
 have m9:=mod_lt (x:=ns.getD 4 0) (m:=9) (by decide)
 obtain⟨j,hj⟩:∃j:Nat,ns.getD 4 0 % 9=j:=⟨(ns.getD 4 0 % 9).toNat,by omega⟩
 have hp0:=mod_lt (x:=ns.getD 3 0 / 4) (m:=zs.length) hl0
 obtain⟨p0,hp0m,ep0⟩:=wt (zs:=zs) (i:=ns.getD 3 0 / 4 % zs.length) hp0.1 hp0.2
 obtain⟨s0,hs0⟩:∃s0:Int,1+ns.getD 3 0 % 4=s0:=⟨_,rfl⟩
 let e:El:=⟨s0,s0,p0,p0⟩
 obtain⟨ρ1,f1,es,v5,v6,v7,v8,rfl,hch,hnm,hle,hls⟩:=io (tg:=tgN 5) (g:=qk) j (λi ρ=>∃(es:List El) (v5 v6 v7 v8:Option (D×Bool)),ρ=[some (.lst (ns.map .int),false),some (.lst (zs.map .str),false),some (.int m,false),some (.int (aW e es).s,false),some (.lst (aM m e es),true),v5,v6,v7,v8]/\Ch e es/\(∀f∈es,Nm f.p/\Nm f.b)/\es.length=i/\(aW e es).s<=4+5*i)
  [some (.lst (ns.map .int),false),some (.lst (zs.map .str),false),some (.int m,false),some (.int s0,false),some (.lst (aM m e []),true),none,none,none,none] ⟨[],none,none,none,none,rfl,.nil e,by simp,rfl,by show s0<=_;omega⟩ (by
   rintro i ρ hi ⟨es,v5,v6,v7,v8,rfl,hch,hnm,hle,hls⟩
   obtain⟨c,hc⟩:∃c,ns.getD (5+i) 0=c:=⟨_,rfl⟩
   have ec:=dZ ns (5+i)
   rw[hc]at ec
   have h3:=mod_lt (x:=c) (m:=3) (by decide)
   have h3':=mod_lt (x:=c / 3) (m:=3) (by decide)
   obtain⟨d,hd⟩:∃d:Int,(aW e es).s+1+c % 3=d:=⟨_,rfl⟩
   obtain⟨s,hs⟩:∃s:Int,d+c / 3 % 3=s:=⟨_,rfl⟩
   have hp:=mod_lt (x:=c / 9) (m:=zs.length) hl0
   obtain⟨p,hpm,ep⟩:=wt (zs:=zs) (i:=c / 9 % zs.length) hp.1 hp.2
   obtain⟨x,hx,_⟩:=iY m es e
   have hat:atI (aM m e es) (-1)=some (.tup [.int (aW e es).s,.str (aW e es).p,x]):=by rw[gp];exact hx
   let f:El:=⟨s,d,p,(aW e es).p⟩
   have hlast:Nm (aW e es).p:=by
    rcases List.mem_cons.mp (iD es e)with q|q
    ·rw[q];exact hn p0 hp0m
    ·exact(hnm _ q).1
   refine⟨_,_,rfl,.inl (aU (d:=.int c) (b:=false) (ai (ds:=[.lst (ns.map .int),.int ((5+i:Nat):Int)]) (by simp) ec) rfl (aU (d:=.int d) (b:=false) (by simp[hd]) rfl (aU (d:=.int s) (b:=false) (by simp[hs]) rfl (aU (d:=.str (aW e es).p) (b:=false) (by simp[hat,at1]) rfl (gg (ds:=aM m e es) (d:=ln1 m f) (b:=false) rfl ?_ rfl (b7 (by simp[aM];omega))))))),es++[f],some (.int i,false),some (.int c,false),some (.int d,false),some (.str (aW e es).p,false), ?_,hch.snoc (show _<d by omega) (show d<=s by omega) rfl, ?_,by simp[hle],by rw[lI];show s<=_;omega⟩
   ·refine ai (ds:=[.int s,.str p,.tup [.str "chosen",.int (d*m),.str (aW e es).p,.str "crown"]]) (ao (b:=false) rfl (ao (b:=false) (aA (x:=.lst (zs.map .str)) (y:=.int (c / 9 % zs.length)) (b1:=false) (b2:=false) rfl (aA (x:=.int (c / 9)) (y:=.int zs.length) (b1:=false) (b2:=false) (by simp) (by simp) (ms hl0)) ep) (ao (b:=false) (ai (ds:=[.str "chosen",.int (d*m),.str (aW e es).p,.str "crown"]) (ao (b:=false) rfl (ao (b:=false) (aA (x:=.int d) (y:=.int m) (b1:=false) (b2:=false) rfl rfl (gW hm d)) rfl)) (bx _ (by simp))) rfl))) (bx _ (by simp))
   ·rw[lI]
    unfold aM
    rw[List.map_append]
    rfl
   ·intro g hg
    rcases List.mem_append.mp hg with hg|hg
    ·exact hnm g hg
    ·rw[List.mem_singleton.mp hg];exact⟨hn p hpm,hlast⟩)
 refine⟨e,es,aB rfl (aU (d:=.int s0) (b:=false) (aA (x:=.int 1) (y:=.int (ns.getD 3 0 % 4)) (b1:=false) (b2:=false) rfl (aA (x:=.int (ns.getD 3 0)) (y:=.int 4) (b1:=false) (b2:=false) (ai (ds:=[.lst (ns.map .int),.int ((3:Nat):Int)]) rfl c3) rfl (by simp)) (by simp only[bI,hs0])) rfl (cb (ds:=aM m e []) ?_ (qA _ _ _) (cM (ir (fj (j:=j) (b:=false) (aA (x:=.int (ns.getD 4 0)) (y:=.int 9) (b1:=false) (b2:=false) (ai (ds:=[.lst (ns.map .int),.int ((4:Nat):Int)]) rfl c4) rfl (by rw[ms (by decide),hj])) (by omega)) f1) (eV rfl)))),hch,rfl,show 1<=s0 by omega,hn p0 hp0m,hnm,by omega,by omega⟩
 refine ai (ds:=[ln0 m e]) (ao (b:=false) (ai (ds:=[.int s0,.str p0,.tup [.str "named",.int (s0*m),.str "crown"]]) (ao (b:=false) rfl (ao (b:=false) (aA (x:=.lst (zs.map .str)) (y:=.int (ns.getD 3 0 / 4 % zs.length)) (b1:=false) (b2:=false) rfl (aA (x:=.int (ns.getD 3 0 / 4)) (y:=.int zs.length) (b1:=false) (b2:=false) (aA (x:=.int (ns.getD 3 0)) (y:=.int 4) (b1:=false) (b2:=false) (ai (ds:=[.lst (ns.map .int),.int ((3:Nat):Int)]) rfl c3) rfl (by simp)) (by simp) (ms hl0)) ep0) (ao (b:=false) (ai (ds:=[.str "named",.int (s0*m),.str "crown"]) (ao (b:=false) rfl (ao (b:=false) (aA (x:=.int s0) (y:=.int m) (b1:=false) (b2:=false) rfl rfl (gW hm s0)) rfl)) (bx _ (by simp))) rfl))) (bx _ (by simp))) rfl) (dO _ (by simp))
def bV (d:D):D:=.tup [.int 9999,d]
theorem wu (ns:List Int) {m:Int}(hm:0<m/\m<=190) (e:El) (es:List El) (hle:es.length<=8):∃L:List D,fW [.lst (ns.map .int),.lst (aM m e es),.int m]=some (.lst L,true)/\L.length<=6/\∀d∈L,Nt (bV d)/\bo d=true:=by
 have c14:=dZ ns 14
 have m7:=mod_lt (x:=ns.getD 14 0) (m:=7) (by decide)
 obtain⟨j,hj⟩:∃j:Nat,ns.getD 14 0 % 7=j:=⟨(ns.getD 14 0 % 7).toNat,by omega⟩
 have hll:(aM m e es).length=es.length+1:=by simp[aM]
 have hl0:(0:Int)<((aM m e es).length:Int):=by omega
 obtain⟨ρ1,f1,L,v4,v5,v6,v7,v8,v9,v10,rfl,hL,hN⟩:=io (tg:=tgN 4) (g:=kg) j (λi ρ=>∃(L:List D) (v4 v5 v6 v7 v8 v9 v10:Option (D×Bool)),ρ=[some (.lst (ns.map .int),false),some (.lst (aM m e es),false),some (.int m,false),some (.lst L,true),v4,v5,v6,v7,v8,v9,v10]/\L.length=i/\∀d∈L,Nt (bV d)/\bo d=true)
  [some (.lst (ns.map .int),false),some (.lst (aM m e es),false),some (.int m,false),some (.lst [],true),none,none,none,none,none,none,none] ⟨[],none,none,none,none,none,none,none,rfl,rfl,by simp⟩ (by
   rintro i ρ hi ⟨L,v4,v5,v6,v7,v8,v9,v10,rfl,hL,hN⟩
   obtain⟨c,hc⟩:∃c,ns.getD (15+i) 0=c:=⟨_,rfl⟩
   have ec:=dZ ns (15+i)
   rw[hc]at ec
   obtain⟨d,hd⟩:∃d:Int,c / 8 % 50*m=d:=⟨_,rfl⟩
   have hx:=mod_lt (x:=c / 400) (m:=((aM m e es).length:Int)) hl0
   obtain⟨s,p,t,hst,hix⟩:∃s p t,bo t=true/\ixD (.lst (aM m e es)) (.int (c / 400 % ((aM m e es).length:Int)))=some (.tup [.int s,.str p,t],false):=by
    rw[rL hx.1 (by omega)]
    have hm:(aM m e es).getD (c / 400 % ((aM m e es).length:Int)).toNat .non∈aM m e es:=by
     have hlt:(c / 400 % ((aM m e es).length:Int)).toNat<(aM m e es).length:=by omega
     rw[List.getD_eq_getElem?_getD,List.getElem?_eq_getElem hlt]
     exact List.getElem_mem hlt
    rcases List.mem_cons.mp hm with h|h
    ·rw[h];exact⟨_,_,_,rfl,rfl⟩
    ·obtain⟨f,_,h⟩:=List.mem_map.mp h
     rw[←h];exact⟨_,_,_,rfl,rfl⟩
   let L1:List D:=[.tup [.str "chosen",.int d,.str "yy",.str "crown",.str p,.int d],.tup [.str "heir",.int d,.str "yy",.str "crown",.str p]]
   let L2:List D:=[.tup [.str "death",.int d,.str "yz"],.tup [.str "named",.int d,.str "mill",.str p]]
   let L3:List D:=[.tup [.str "chosen",.int d,.str p,.str "mill",.str "yy",.int d],.tup [.str "heir",.int d,.str p,.str "mill",.str "yy"]]
   let L4:List D:=[.tup [.str "lost",.int d,.str "yy"],.tup [.str "found",.int d,.str "yz"]]
   have h8:=mod_lt (x:=c) (m:=8) (by decide)
   obtain⟨r,er,hr,hrf⟩:∃r,ixD (.lst (L1++L2++L3++L4)) (.int (c % 8))=some (r,false)/\Nt (bV r)/\bo r=true:=by
    rcases (show c % 8=0∨c % 8=1∨c % 8=2∨c % 8=3∨c % 8=4∨c % 8=5∨c % 8=6∨c % 8=7 by omega)with h|h|h|h|h|h|h|h<;>rw[h,rL (by decide) (by show _<8;decide)]
    ·exact⟨_,rfl,.c1 d p,rfl⟩
    ·exact⟨_,rfl,.h1 d p,rfl⟩
    ·exact⟨_,rfl,.d1 d,rfl⟩
    ·exact⟨_,rfl,.n1 d p,rfl⟩
    ·exact⟨_,rfl,.c2 d p,rfl⟩
    ·exact⟨_,rfl,.h2 d p,rfl⟩
    ·exact⟨_,rfl,.l1 d,rfl⟩
    ·exact⟨_,rfl,.f1 d,rfl⟩
   refine⟨_,_,rfl,.inl (aU (d:=.int c) (b:=false) (ai (ds:=[.lst (ns.map .int),.int ((15+i:Nat):Int)]) (by simp) ec) rfl (aU (d:=.int d) (b:=false) (aA (x:=.int (c / 8 % 50)) (y:=.int m) (b1:=false) (b2:=false) (by simp) rfl (by rw[gW hm,hd])) rfl (cM (ρ':=[some (.lst (ns.map .int),false),some (.lst (aM m e es),false),some (.int m,false),some (.lst L,true),some (.int i,false),some (.int c,false),some (.int d,false),some (.int s,false),some (.str p,false),some (t,false),v10]) ?_ (cb (ds:=L1) (ai (ds:=L1) (by simp[L1,sizeLine]) (dO _ (by simp[L1]))) rfl (cb (ds:=L1++L2) (aA (x:=.lst L1) (y:=.lst L2) (b1:=false) (b2:=true) rfl (by simp[L2,sizeLine]) (if_pos (c:=4<=sizeLine) (e:=none) (bv (by decide)))) rfl (cb (ds:=L1++L2++L3) (aA (x:=.lst (L1++L2)) (y:=.lst L3) (b1:=false) (b2:=true) rfl (by simp[L3,sizeLine]) (if_pos (c:=6<=sizeLine) (e:=none) (bv (by decide)))) rfl (gg (ds:=L) (d:=r) (b:=false) rfl (aA (x:=.lst (L1++L2++L3++L4)) (y:=.int (c % 8)) (b1:=true) (b2:=false) (aA (x:=.lst (L1++L2++L3)) (y:=.lst L4) (b1:=false) (b2:=true) rfl (by simp[L4,sizeLine]) (if_pos (c:=8<=sizeLine) (e:=none) (bv (by decide)))) (by simp) er) hrf (b7 (by omega))))))))),L++[r],some (.int i,false),some (.int c,false),some (.int d,false),some (.int s,false),some (.str p,false),some (t,false),some (.lst (L1++L2++L3),true),rfl,by simp[hL], ?_⟩
   ·have:f2 ixD (ag 1) (f2 dm (f2 ia (ag 5) (fC (.int 400))) (fA cH (ae (ag 1) ak))) [some (.lst (ns.map .int),false),some (.lst (aM m e es),false),some (.int m,false),some (.lst L,true),some (.int i,false),some (.int c,false),some (.int d,false),v7,v8,v9,v10]=some (.tup [.int s,.str p,t],false):=aA (x:=.lst (aM m e es)) (y:=.int (c / 400 % ((aM m e es).length:Int))) (b1:=false) (b2:=false) rfl (aA (x:=.int (c / 400)) (y:=.int ((aM m e es).length:Int)) (b1:=false) (b2:=false) (by simp) (by simp) (ms hl0)) hix
    show(Option.bind (f2 ixD (ag 1) (f2 dm (f2 ia (ag 5) (fC (.int 400))) (fA cH (ae (ag 1) ak))) [some (.lst (ns.map .int),false),some (.lst (aM m e es),false),some (.int m,false),some (.lst L,true),some (.int i,false),some (.int c,false),some (.int d,false),v7,v8,v9,v10]) _)=_
    rw[this]
    show(df [7,8,9] [.int s,.str p,t] (if aV [.int s,.str p,t]=true then _ else _)).map _=_
    rw[if_pos (by simp[hst])]
    rfl
   ·intro x hx
    rcases List.mem_append.mp hx with hx|hx
    ·exact hN x hx
    ·rw[List.mem_singleton.mp hx];exact⟨hr,hrf⟩)
 exact⟨L,aB rfl (cb (ds:=[]) (by simp[sizeLine]) rfl (cM (ir (fj (j:=j) (b:=false) (aA (x:=.int (ns.getD 14 0)) (y:=.int 7) (b1:=false) (b2:=false) (ai (ds:=[.lst (ns.map .int),.int ((14:Nat):Int)]) rfl c14) rfl (by rw[ms (by decide),hj])) (by omega)) f1) (eV rfl))),by omega,hN⟩
theorem sd {f:FE}{ρ ρ':DL.Env}{i j k:Nat}{x y z:D}(e:f ρ=some (.tup [x,y,z],false)) (hf:aV [x,y,z]=true) (h:df [i,j,k] [x,y,z] ρ=some ρ'):ig [i,j,k] f ρ=some (.nx ρ'):=by
 unfold ig
 rw[e]
 show(df [i,j,k] [x,y,z] (if aV [x,y,z]=true then ρ else unown ρ)).map _=_
 rw[if_pos hf,h]
 rfl
theorem cO:∀ {ds:List D}{d:D},aV ds=true->d∈ds->bo d=true
 | x::ds,d,h,hd=>by
  rw[sP,Bool.and_eq_true]at h
  rcases List.mem_cons.mp hd with rfl|hd
  ·exact h.1
  ·exact cO h.2 hd
def iE (w:Nat) (died:Int):D:=if w=0 then .non else .tup [.int died,if w=3 then .str "yb" else .non]
theorem DZ (ns:List Int) {m:Int}(hm:0<m/\m<=190) (e:El) (es:List El):∃(w:Nat) (died d2:Int) (L:List D),kh [.lst (ns.map .int),.lst (aM m e es),.int m]=some (.tup [.lst L,iE w died],false)/\L.map bV=gV w (aW e es).p (((aW e es).s+1)*m) (((aW e es).s+2)*m) died++q8 w d2/\aV L=true/\L.length<=4/\(w:Int)=ns.getD 22 0 % 4/\((aW e es).s+3)*m<=died/\died<=((aW e es).s+7)*m/\d2<=died:=by
 have c22:=dZ ns 22
 obtain⟨c,hc⟩:∃c,ns.getD 22 0=c:=⟨_,rfl⟩
 rw[hc]at c22 ⊢
 have h4:=mod_lt (x:=c) (m:=4) (by decide)
 have h5:=mod_lt (x:=c / 4) (m:=5) (by decide)
 have h2:=mod_lt (x:=c / 20) (m:=2) (by decide)
 obtain⟨x,hx,hxf⟩:=iY m es e
 generalize aW e es=l at hx
 have hat:atI (aM m e es) (-1)=some (.tup [.int l.s,.str l.p,x]):=by rw[gp];exact hx
 obtain⟨died,hdied⟩:∃died:Int,(l.s+3+c / 4 % 5)*m=died:=⟨_,rfl⟩
 obtain⟨d2,hd2⟩:∃d2:Int,died - c / 20 % 2*m=d2:=⟨_,rfl⟩
 have b1:(l.s+3)*m<=died:=by rw[←hdied];exact gk hm.1 (by omega)
 have b2:died<=(l.s+7)*m:=by rw[←hdied];exact gk hm.1 (by omega)
 have b3:d2<=died:=by
  have:0*m<=c / 20 % 2*m:=gk hm.1 (by omega)
  omega
 have hflat:aV [.int l.s,.str l.p,x]=true:=by simp[hxf]
 let E:D->Option (D×Bool)->Option (D×Bool)->DL.Env:=λw v8 v9=>[some (.lst (ns.map .int),false),some (.lst (aM m e es),false),some (.int m,false),some (.int c,false),some (.int l.s,false),some (.str l.p,false),some (x,false),some (w,false),v8,v9]
 let h1:D:=.tup [.str "heir",.int ((l.s+1)*m),.str l.p,.str "crown",.str "ya"]
 let hh2:D:=.tup [.str "heir",.int ((l.s+2)*m),.str l.p,.str "crown",.str "yb"]
 let dd:D:=.tup [.str "death",.int died,.str l.p]
 have du:∀ {w:Nat}{r:Res},c % 4=w->(aD (gIf (tOf (f2 dEq (ag 7) (fC (.int 0)))) (bC (fA aP (ae (fA bB ak) (ae (fC .non) ak)))) bU) _ (E (.int w) none none)=some r)->rN [some (.lst (ns.map .int),false),some (.lst (aM m e es),false),some (.int m,false),none,none,none,none,none,none,none]=some r:=λhw k =>
  aU (d:=.int c) (b:=false) (ai (ds:=[.lst (ns.map .int),.int ((22:Nat):Int)]) rfl c22) rfl (cM (sd (aA (x:=.lst (aM m e es)) (y:=.int (-1)) (b1:=false) (b2:=false) rfl rfl (by simp[hat])) hflat rfl) (aU (d:=.int _) (b:=false) (aA (x:=.int c) (y:=.int 4) (b1:=false) (b2:=false) rfl rfl (by rw[ms (by decide),hw])) rfl k))
 have mid:∀ {w:Nat}{h:FS}{r:Res},w≠0->h (E (.int w) (some (.int died,false)) (some (.lst [h1,hh2,dd],true)))=some r->aD (gIf (tOf (f2 dEq (ag 7) (fC (.int 0)))) (bC (fA aP (ae (fA bB ak) (ae (fC .non) ak)))) bU)
  (aD (aZ 8 (f2 eU (f2 bI (f2 bI (ag 4) (fC (.int 3))) (f2 dm (f2 ia (ag 3) (fC (.int 4))) (fC (.int 5)))) (ag 2)))
  (aD (aZ 9 (fA bB (ae (fA aP (ae (fC (.str "heir")) (ae (f2 eU (f2 bI (ag 4) (fC (.int 1))) (ag 2)) (ae (ag 5) (ae (fC (.str "crown")) (ae (fC (.str "ya")) ak)))))) ak)))
  (aD (gE 9 (fA aP (ae (fC (.str "heir")) (ae (f2 eU (f2 bI (ag 4) (fC (.int 2))) (ag 2)) (ae (ag 5) (ae (fC (.str "crown")) (ae (fC (.str "yb")) ak)))))))
  (aD (gE 9 (fA aP (ae (fC (.str "death")) (ae (ag 8) (ae (ag 5) ak))))) h)))) (E (.int w) none none)=some r:=λ{w} {h} {r} hw k=>by
  have w0:¬(w:Int)=0:=by omega
  refine bD (aK (b:=false) (aA (x:=.int w) (y:=.int 0) (b1:=false) (b2:=false) rfl rfl (by rw[rM,decide_eq_false w0]))) (aU (d:=.int died) (b:=false) (aA (x:=.int (l.s+3+c / 4 % 5)) (y:=.int m) (b1:=false) (b2:=false) (by simp[E]) rfl (by rw[gW hm,hdied])) rfl (cb (ds:=[h1]) ?_ rfl (Af (ds:=[h1]) (d:=hh2) (b:=false) rfl ?_ rfl (b7 (by simp)) (Af (ds:=[h1,hh2]) (d:=dd) (b:=false) rfl ?_ rfl (b7 (by simp)) k))))
  ·exact ai (ds:=[h1]) (ao (b:=false) (ai (ds:=[.str "heir",.int ((l.s+1)*m),.str l.p,.str "crown",.str "ya"]) (ao (b:=false) rfl (ao (b:=false) (aA (x:=.int (l.s+1)) (y:=.int m) (b1:=false) (b2:=false) (by simp[E]) rfl (gW hm _)) rfl)) (bx _ (by simp))) rfl) (dO _ (by simp))
  ·exact ai (ds:=[.str "heir",.int ((l.s+2)*m),.str l.p,.str "crown",.str "yb"]) (ao (b:=false) rfl (ao (b:=false) (aA (x:=.int (l.s+2)) (y:=.int m) (b1:=false) (b2:=false) (by simp[E]) rfl (gW hm _)) rfl)) (bx _ (by simp))
  ·exact ai (ds:=[.str "death",.int died,.str l.p]) rfl (bx _ (by simp))
 rcases (show c % 4=(0:Nat)∨c % 4=(1:Nat)∨c % 4=(2:Nat)∨c % 4=(3:Nat) by omega)with hw|hw|hw|hw
 ·exact⟨0,died,d2,[],aB rfl (du hw (da (aK (b:=false) rfl) (aR (ai (ds:=[.lst [],.non]) (by simp[sizeLine]) (bx _ (by simp)))))),rfl,rfl,by simp,hw.symm,b1,b2,b3⟩
 ·refine⟨1,died,d2,[dd],aB rfl (du hw (mid (by decide) (da (aK (b:=false) rfl) (cb (ds:=[dd]) rfl rfl (aR (ai (ds:=[.lst [dd],.tup [.int died,.non]]) (ao (b:=false) rfl (ao (b:=false) (ai (ds:=[.int died,.non]) rfl (bx _ (by simp))) rfl)) (bx _ (by simp)))))))),rfl,rfl,by simp,hw.symm,b1,b2,b3⟩
 ·refine⟨2,died,d2,[h1,hh2,dd,.tup [.str "death",.int d2,.str "yb"]],aB rfl (du hw (mid (by decide) (bD (aK (b:=false) rfl) (da (aK (b:=false) rfl) (Af (ds:=[h1,hh2,dd]) (d:=.tup [.str "death",.int d2,.str "yb"]) (b:=false) rfl ?_ rfl (b7 (by simp)) (aR (ai (ds:=[.lst [h1,hh2,dd,.tup [.str "death",.int d2,.str "yb"]],.tup [.int died,.non]]) (ao (b:=false) rfl (ao (b:=false) (ai (ds:=[.int died,.non]) rfl (bx _ (by simp))) rfl)) (bx _ (by simp))))))))),rfl,rfl,by simp,hw.symm,b1,b2,b3⟩
  exact ai (ds:=[.str "death",.int d2,.str "yb"]) (ao (b:=false) rfl (ao (b:=false) (aA (x:=.int died) (y:=.int (c / 20 % 2*m)) (b1:=false) (b2:=false) rfl (aA (x:=.int (c / 20 % 2)) (y:=.int m) (b1:=false) (b2:=false) (by simp[E]) rfl (gW hm _)) (by simp[hd2])) rfl)) (bx _ (by simp))
 ·exact⟨3,died,d2,[h1,hh2,dd],aB rfl (du hw (mid (by decide) (bD (aK (b:=false) rfl) (bD (aK (b:=false) rfl) (aR (ai (ds:=[.lst [h1,hh2,dd],.tup [.int died,.str "yb"]]) (ao (b:=false) rfl (ao (b:=false) (ai (ds:=[.int died,.str "yb"]) rfl (bx _ (by simp))) rfl)) (bx _ (by simp)))))))),rfl,rfl,by simp,hw.symm,b1,b2,b3⟩
theorem BV (ns:List Int) {m:Int}(hm:0<m/\m<=190) (e:El) (es:List El):∃(z:Bool) (dl:Int) (L:List D),ki [.lst (ns.map .int),.lst (aM m e es),.int m]=some (.lst L,true)/\L.map bV=k9 z (aW e es).p dl m/\aV L=true/\L.length<=4/\(z=true->ns.getD 22 0 % 4=0)/\(aW e es).s+2<=dl:=by
 have c23:=dZ ns 23
 have c22:=dZ ns 22
 obtain⟨c,hc⟩:∃c,ns.getD 23 0=c:=⟨_,rfl⟩
 rw[hc]at c23
 have h3:=mod_lt (x:=c) (m:=3) (by decide)
 have h4:=mod_lt (x:=ns.getD 22 0) (m:=4) (by decide)
 have h34:=mod_lt (x:=c / 3) (m:=4) (by decide)
 obtain⟨x,hx,hxf⟩:=iY m es e
 generalize aW e es=l at hx
 have hat:atI (aM m e es) (-1)=some (.tup [.int l.s,.str l.p,x]):=by rw[gp];exact hx
 have hflat:aV [.int l.s,.str l.p,x]=true:=by simp[hxf]
 obtain⟨dl,hdl⟩:∃dl:Int,l.s+2+c / 3 % 4=dl:=⟨_,rfl⟩
 let E:DL.Env:=[some (.lst (ns.map .int),false),some (.lst (aM m e es),false),some (.int m,false),some (.int c,false),some (.int l.s,false),some (.str l.p,false),some (x,false),none,none]
 have hcond:jc (tOf (f2 iGt (f2 dm (ag 3) (fC (.int 3))) (fC (.int 0)))) (tOf (f2 iGt (f2 dm (fA aJ (ae (ag 0) (ae (fC (.int 22)) ak))) (fC (.int 4))) (fC (.int 0)))) E=some (decide (0<c % 3) || decide (0<ns.getD 22 0 % 4)) :=
  ly (aK (b:=false) (by simp[E])) λ_=>aK (b:=false) (aA (x:=.int (ns.getD 22 0 % 4)) (y:=.int 0) (b1:=false) (b2:=false) (aA (x:=.int (ns.getD 22 0)) (y:=.int 4) (b1:=false) (b2:=false) (ai (ds:=[.lst (ns.map .int),.int ((22:Nat):Int)]) rfl c22) rfl (by simp)) rfl (by simp))
 have du:∀ {h:FS}{r:Res},h E=some r->(aD (aZ 3 (fA aJ (ae (ag 0) (ae (fC (.int 23)) ak)))) (aD (ig [4,5,6] (f2 ixD (ag 1) (f1 fw (fC (.int 1))))) h)) [some (.lst (ns.map .int),false),some (.lst (aM m e es),false),some (.int m,false),none,none,none,none,none,none]=some r:=λk =>
  aU (d:=.int c) (b:=false) (ai (ds:=[.lst (ns.map .int),.int ((23:Nat):Int)]) rfl c23) rfl (cM (sd (aA (x:=.lst (aM m e es)) (y:=.int (-1)) (b1:=false) (b2:=false) rfl rfl (by simp[hat])) hflat rfl) k)
 cases hb:(decide (0<c % 3) || decide (0<ns.getD 22 0 % 4)) with
 | true =>
  rw[hb]at hcond
  exact⟨false,dl,[],aB rfl (du (da hcond (aR (by simp[sizeLine])))),rfl,rfl,by decide,λh=>(by cases h),by omega⟩
 | false =>
  rw[hb]at hcond
  rw[Bool.or_eq_false_iff]at hb
  have hw:ns.getD 22 0 % 4=0:=by have:=of_decide_eq_false hb.2;omega
  let A:List D:=[.tup [.str "lost",.int ((dl - 1)*m),.str l.p],.tup [.str "chosen",.int (dl*m),.str l.p,.str "crown",.str "yy",.int (dl*m)]]
  let B:List D:=[.tup [.str "heir",.int (dl*m),.str l.p,.str "crown",.str "yy"],.tup [.str "found",.int ((dl+1)*m),.str l.p]]
  have mm:∀ {f g:FE}{ρ:DL.Env}{a:Int},f ρ=some (.int a,false)->g ρ=some (.int m,false)->f2 eU f g ρ=some (.int (a*m),false):=λh1 h2=>aA (b1:=false) (b2:=false) h1 h2 (gW hm _)
  refine⟨true,dl,A++B,aB rfl (du (bD hcond (aU (d:=.int dl) (b:=false) (by simp[E,hdl]) rfl (cb (ds:=A) ?_ rfl (aR (aA (x:=.lst A) (y:=.lst B) (b1:=false) (b2:=true) rfl ?_ (if_pos (c:=4<=sizeLine) (e:=none) (bv (by decide))))))))),rfl,rfl,by simp[A,B],λ_=>hw,by omega⟩
  ·exact ai (ds:=A) (ao (b:=false) (ai (ds:=[.str "lost",.int ((dl - 1)*m),.str l.p]) (ao (b:=false) rfl (ao (b:=false) (mm (by simp[E]) rfl) rfl)) (bx _ (by simp))) (ao (b:=false) (ai (ds:=[.str "chosen",.int (dl*m),.str l.p,.str "crown",.str "yy",.int (dl*m)]) (ao (b:=false) rfl (ao (b:=false) (mm rfl rfl) (ao (b:=false) rfl (ao (b:=false) rfl (ao (b:=false) rfl (ao (b:=false) (mm rfl rfl) rfl)))))) (bx _ (by simp))) rfl)) (dO _ (by simp[A]))
  ·exact ai (ds:=B) (ao (b:=false) (ai (ds:=[.str "heir",.int (dl*m),.str l.p,.str "crown",.str "yy"]) (ao (b:=false) rfl (ao (b:=false) (mm rfl rfl) rfl)) (bx _ (by simp))) (ao (b:=false) (ai (ds:=[.str "found",.int ((dl+1)*m),.str l.p]) (ao (b:=false) rfl (ao (b:=false) (mm (by simp[E]) rfl) rfl)) (bx _ (by simp))) rfl)) (dO _ (by simp[B]))
theorem uH {ds:List D}{a:Nat}:ib ds none (some (a:Int))=ds.take a:=by
 unfold ib
 rw[ui (by omega)]
 show(ds.drop 0).take (min (a:Int).toNat ds.length - 0)=_
 rw[List.drop_zero,Nat.sub_zero,Int.toNat_natCast,←List.take_eq_take_min]
theorem uI {ds:List D}{a:Nat}(h:a<=ds.length):ib ds (some (a:Int)) none=ds.drop a:=by
 unfold ib
 rw[ui (by omega),Int.toNat_natCast,Nat.min_eq_left h]
 show(ds.drop a).take (ds.length - a)=_
 exact List.take_of_length_le (by rw[List.length_drop];omega)
theorem BW (ns:List Int) (ds:List D) (hf:aV ds=true) (hl:ds.length<=60):∃od:List D,kj [.lst (ns.map .int),.lst ds]=some (.lst od,true)/\od.Perm ds:=by
 have hfl:∀d∈ds,bo d=true:=λd hd=>cO hf hd
 obtain⟨ρ1,f1,od,v3,v4,rfl,hp⟩:=io (tg:=tgN 3) (g:=ql) ds.length (λi ρ=>∃(od:List D) (v3 v4:Option (D×Bool)),ρ=[some (.lst (ns.map .int),false),some (.lst ds,false),some (.lst od,true),v3,v4]/\od.Perm (ds.take i))
  [some (.lst (ns.map .int),false),some (.lst ds,false),some (.lst [],true),none,none] ⟨[],none,none,rfl,by simp⟩ (by
   rintro i ρ hi ⟨od,v3,v4,rfl,hp⟩
   have hol:od.length=i:=by rw[hp.length_eq,List.length_take];omega
   have hm39:i % 39<39:=Nat.mod_lt _ (by decide)
   have ec:=dZ ns (24+i % 39)
   obtain⟨c,hc⟩:∃c,ns.getD (24+i % 39) 0=c:=⟨_,rfl⟩
   rw[hc]at ec
   have hi39:(i:Int) % 39=((i % 39:Nat):Int):=by omega
   have hq:(0:Int)<1+(i:Int) / 39/\1+(i:Int) / 39<1073741824:=by omega
   have ho0:(0:Int)<(od.length:Int)+1:=by omega
   have hmo:=mod_lt (x:=c / (1+(i:Int) / 39)) (m:=(od.length:Int)+1) ho0
   obtain⟨a,ha⟩:∃a:Nat,c / (1+(i:Int) / 39) % ((od.length:Int)+1)=a:=⟨(c / (1+(i:Int) / 39) % ((od.length:Int)+1)).toNat,by omega⟩
   have hal:a<=od.length:=by omega
   obtain⟨d,hd⟩:∃d,ds[i]? = some d:=⟨_,List.getElem?_eq_getElem hi⟩
   have had:=eK hd
   have hof:aV od=true:=bF λx hx=>hfl x (List.mem_of_mem_take (hp.mem_iff.mp hx))
   have hnew:aV (od.take a++[d]++od.drop a)=true:=bF λx hx=>by
    simp only[List.mem_append,List.mem_singleton]at hx
    rcases hx with (hx|hx)|hx
    ·exact cO hof (List.mem_of_mem_take hx)
    ·rw[hx];exact hfl d (List.mem_of_getElem? hd)
    ·exact cO hof (List.mem_of_mem_drop hx)
   refine⟨_,_,rfl,.inl (aU (d:=.int a) (b:=false) (aA (x:=.int (c / (1+(i:Int) / 39))) (y:=.int ((od.length:Int)+1)) (b1:=false) (b2:=false) (aA (x:=.int c) (y:=.int (1+(i:Int) / 39)) (b1:=false) (b2:=false) (ai (ds:=[.lst (ns.map .int),.int ((24+i % 39:Nat):Int)]) (ao (b:=false) rfl (ao (b:=false) (aA (x:=.int 24) (y:=.int ((i:Int) % 39)) (b1:=false) (b2:=false) rfl (aA (x:=.int i) (y:=.int 39) (b1:=false) (b2:=false) rfl rfl (ms (by decide))) (by simp only[bI];rw[show(24:Int)+(i:Int) % 39=((24+i % 39:Nat):Int) by omega])) rfl)) ec) (by simp) (by simp[hq])) (by simp) (by rw[ms ho0,ha])) rfl (mN (i:=2) (ds:=od.take a++[d]++od.drop a) ?_ hnew)),od.take a++[d]++od.drop a,some (.int i,false),some (.int a,false),rfl, ?_⟩
   ·have l1:(od.take a).length<=60:=by rw[List.length_take];omega
    have l2:(od.drop a).length<=60:=by rw[List.length_drop];omega
    refine aA (x:=.lst (od.take a++[d])) (y:=.lst (od.drop a)) (b1:=true) (b2:=true) (aA (x:=.lst (od.take a)) (y:=.lst [d]) (b1:=true) (b2:=true) ?_ ?_ (if_pos (bv (by simp;omega)))) ?_ (if_pos (bv (by simp;omega)))
    ·simp[uH]
    ·simp[had,sizeLine]
    ·simp[uI hal]
   ·rw[List.take_add_one,hd,Option.toList_some,List.append_assoc]
    show(od.take a++d::od.drop a).Perm _
    refine List.Perm.trans List.perm_middle ?_
    rw[List.take_append_drop]
    exact(List.Perm.cons d hp).trans (List.perm_append_singleton d _).symm)
 rw[List.take_length]at hp
 exact⟨od,aB rfl (cb (ds:=[]) (by simp[sizeLine]) rfl (cM (ir (fj (j:=ds.length) (b:=false) (by simp) (by omega)) f1) (eV rfl))),hp⟩
def Dis (cs:List Cl):Prop:=cs.Pairwise λa b=>∃x,a.u=some x/\x<=b.s
theorem CK {t:Int}:∀ {cs:List Cl}{c:Cl},Dis cs->(∀c∈cs,c.o=("crown" : Str))->c∈cs->bG c t=true->alL cs ("crown" : Str) t=[c]
 | a::cs,c,h,ho,hc,ha=>by
  obtain⟨h1,h2⟩:=List.pairwise_cons.mp h
  have hlow:∀ {b:Cl},bG b t=true->b.s<=t/\∀x,b.u=some x->t<x:=λ{b} hb=>by
   unfold bG at hb
   rw[Bool.and_eq_true]at hb
   refine⟨of_decide_eq_true hb.1,λx hx=>?_⟩
   have:=hb.2
   rw[hx]at this
   exact of_decide_eq_true this
  unfold alL
  rcases List.mem_cons.mp hc with rfl|hc
  ·rw[List.filter_cons_of_pos (by rw[decide_eq_true (ho c mX),ha];rfl),List.filter_eq_nil_iff.mpr λb hb=>?_]
   obtain⟨x,hx,hxb⟩:=h1 b hb
   have:=(hlow ha).2 x hx
   intro q
   rw[Bool.and_eq_true]at q
   have:=(hlow q.2).1
   omega
  ·rw[List.filter_cons_of_neg]
   ·exact CK h2 (λb hb=>ho b (mZ _ hb)) hc ha
   ·obtain⟨x,hx,hxc⟩:=h1 c hc
    intro q
    rw[Bool.and_eq_true]at q
    have:=(hlow q.2).2 x hx
    have:=(hlow ha).1
    omega
theorem uJ {m:Int}(hm:0<m) (u:Option Int):∀(r:List (El×Nat)) (e:El) (n:Nat),Ch e (r.map (·.1))->Dis (dh m u (e,n) r)
 | [],e,n,_=>by simp[dh,Dis]
 | f::r,e,n,h=>by
  cases h with
  | cons h1 h2 h3 h4=>exact List.pairwise_cons.mpr ⟨λc hc=>⟨_,rfl,((ga hm u r f.1 f.2 h4).2 c hc).2.1⟩,uJ hm u r f.1 f.2 h4⟩
theorem A2 {m:Int}(hm:0<m) (t:Int):∀(r:List (El×Nat)) (e:El) (n:Nat),Ch e (r.map (·.1))->(aW (e,n) r).1.s*m<t->∀c∈dh m (some t) (e,n) r,∃x,c.u=some x/\x<=t/\c.s<x
 | [],e,n,_,h,c,hc=>by rw[List.mem_singleton.mp hc];exact⟨t,rfl,Int.le_refl _,h⟩
 | f::r,e,n,hch,h,c,hc=>by
  cases hch with
  | cons h1 h2 h3 h4 =>
   replace h1:e.s<f.1.d:=h1
   replace h2:f.1.d<=f.1.s:=h2
   rcases List.mem_cons.mp hc with rfl|hc
   ·obtain⟨_,_,_,q⟩:=dR hm r f.1 f.2 h4
    have l1:e.s*m<f.1.s*m:=dD hm (by omega)
    have h:(aW (f.1,f.2) r).1.s*m<t:=h
    exact⟨_,rfl,by omega,l1⟩
   ·exact A2 hm t r f.1 f.2 h4 h c hc
theorem A3 {m:Int}(hm:0<m):∀(r:List (El×Nat)) (e:El) (n:Nat),Ch e (r.map (·.1))->∀c∈dh m none (e,n) r,∀x,c.u=some x->c.s<x
 | [],e,n,_,c,hc,x,hx=>by rw[List.mem_singleton.mp hc]at hx;cases hx
 | f::r,e,n,hch,c,hc,x,hx=>by
  cases hch with
  | cons h1 h2 h3 h4 =>
   replace h1:e.s<f.1.d:=h1
   replace h2:f.1.d<=f.1.s:=h2
   rcases List.mem_cons.mp hc with rfl|hc
   ·cases hx
    exact dD hm (by omega)
   ·exact A3 hm r f.1 f.2 h4 c hc x hx
theorem Sc.fin_ok {S:Sc}(ok:S.Ok) {n0 nd:Nat}{r:List (El×Nat)}(hr:r.map (·.1)=S.es):Dis (S.fin n0 r nd)/\∀c∈S.fin n0 r nd,c.o=("crown" : Str)/\S.e.s*S.m<=c.s/\c.s<=S.died/\∀x,c.u=some x->c.s<x:=by
 have hch:Ch S.e (r.map (·.1)):=by rw[hr];exact ok.ch
 have hlast:(aW (S.e,n0) r).1=S.l:=by
  have:=oE (λf:El×Nat=>f.1) r (S.e,n0)
  rw[hr]at this
  exact this.symm
 have la:=ok.la;have ab:=ok.ab;have bd:=ok.bd
 have ls:=λu=>ga ok.hm u r S.e n0 hch
 have ld:=λu=>uJ ok.hm u r S.e n0 hch
 have lu:=A2 ok.hm S.died r S.e n0 hch (by rw[hlast];omega)
 unfold Sc.fin
 split
 ·refine⟨ld none,λc hc=>?_⟩
  obtain⟨a1,a2,a3⟩:=(ls none).2 c hc
  rw[hlast]at a3
  exact⟨a1,a2,by omega,A3 ok.hm r S.e n0 hch c hc⟩
 ·have base:∀c∈dh S.m (some S.died) (S.e,n0) r,c.o=("crown" : Str)/\S.e.s*S.m<=c.s/\c.s<=S.died/\∀x,c.u=some x->c.s<x:=λc hc=>by
   obtain⟨a1,a2,a3⟩:=(ls (some S.died)).2 c hc
   rw[hlast]at a3
   obtain⟨x,hx,_,h2⟩:=lu c hc
   exact⟨a1,a2,by omega,λy hy=>by rw[hx]at hy;cases hy;exact h2⟩
  split
  ·rw[List.append_nil];exact⟨ld _,base⟩
  ·refine⟨List.pairwise_append.mpr ⟨ld _,by simp,λa ha b hb=>?_⟩,λc hc=>?_⟩
   ·obtain⟨x,hx,h1,_⟩:=lu a ha
    rw[List.mem_singleton.mp hb]
    exact⟨x,hx,h1⟩
   ·rcases List.mem_append.mp hc with hc|hc
    ·exact base c hc
    ·rw[List.mem_singleton.mp hc]
     refine⟨rfl, ?_,Int.le_refl _,λx hx=>by cases hx⟩
     obtain⟨_,_,_,q⟩:=dR ok.hm r S.e n0 hch
     rw[hlast]at q
     show _<=S.died
     omega
theorem bZ {x y:D}{xs ys:List D}(h:eqD (.tup (x::xs)) (.tup (y::ys))=true):eqD x y=true/\eqD (.tup xs) (.tup ys)=true:=by
 simp only[eqD,cY,Bool.and_eq_true]at h
 exact⟨h.1,by simp only[eqD];exact h.2⟩
theorem wv {a b:Str}(h:eqD (.str a) (.str b)=true):a=b:=by simpa using h
theorem Gm {a b:Int}(h:eqD (.int a) (.int b)=true):a=b:=by simpa using h
theorem qB {n:Nat}:∀N:Nat,n<N->(List.range N).filter (λa=>decide (a=n))=[n]
 | 0,h=>by omega
 | N+1,h=>by
  rw[List.range_succ,List.filter_append]
  by_cases e:N=n
  ·rw[List.filter_eq_nil_iff.mpr λa ha=>by have:=List.mem_range.mp ha;simp;omega,List.filter_cons_of_pos (by simp[e]),e]
   rfl
  ·rw[qB N (by omega),List.filter_cons_of_neg (by simp[e])]
   rfl
theorem xI {od:List D}{n:Nat}(hn:n<od.length) (hl:od.length<=100) {cap:List Nat}{c:FT}{ρ:DL.Env}(h2:ρ[2]? = some (some (.lst od,false))) (hc:∀(a:Nat) d,od[a]? = some d->c ((bW 1 cap ρ).set 0 (some (.int a,false)))=some (decide (a=n))) :
  f2 ixD (cz (cJ (fA cH (ae (ag 2) ak))) 1 cap (tgN 0) c (ag 0)) (fC (.int 0)) ρ=some (.int n,false):=by
 have hq:=jW (fi:=cJ (fA cH (ae (ag 2) ak))) (nT:=1) (cap:=cap) (tg:=tgN 0) (c:=c) (fe:=ag 0) (ρ:=ρ) (List.range od.length) (λ(k:Nat)=>.int k) (λa=>decide (a=n)) (λ(k:Nat)=>.int k)
  (by rw[fj (j:=od.length) (b:=false) (by simp[h2]) (by omega),y6];simp) (by simp;omega) λa ha=>by
   have ha:=List.mem_range.mp ha
   exact⟨_,rfl,hc a od[a] (List.getElem?_eq_getElem ha),λ_=>⟨false,by simp[bW]⟩⟩
 rw[qB _ hn]at hq
 exact aA (x:=.lst [.int n]) (y:=.int 0) (b1:=true) (b2:=false) hq rfl (by simp[at0])
theorem Ea {od:List D}{a L:Nat}{d:D}(hd:od[a]? = some d) {xs ys:List D}(e:d=.tup xs) (hx:xs.all (aj 5)=true) (hy:ys.all (aj 5)=true) (hl:ys.length=L) {ρ:DL.Env}(h0:ρ[0]? = some (some (.int a,false))) (h1:ρ[1]? = some (some (.tup ys,false))) (h2:ρ[2]? = some (some (.lst od,false))) {b:Bool}(hb:eqD (.tup (xs.take L)) (.tup ys)=b) :
  tOf (f2 dEq (fSl (f2 ixD (ag 2) (ag 0)) eu (dF (fA cH (ae (ag 1) ak)))) (ag 1)) ρ=some b:=by
 have ha:=eK hd
 refine aK (b:=false) (aA (x:=.tup (xs.take L)) (y:=.tup ys) (b1:=false) (b2:=false) ?_ (by simp[h1]) ?_)
 ·simp[h0,h1,h2,ha,e,hl,uH]
 ·unfold dEq
  rw[if_pos ⟨cx (by rw[List.all_eq_true]at hx ⊢;exact λz hz=>hx z (List.mem_of_mem_take hz)),cx hy⟩,hb]
structure Sc.Od (S:Sc) (K:KL) (od:List D):Prop where
 at_:∀(a:Nat) d,od[a]? = some d->(bV d,a)∈K
 of_:∀x∈K,∃d,od[x.2]? = some d/\x.1=bV d
 len:od.length<=60
theorem bL {d:D}{k:Str}{aF:List D}(h:bV d=row 9999 k aF):d=.tup (.str k::aF):=by
 unfold bV row at h
 injection h with h
 injection h with _ h
 injection h with h _
section
variable {S:Sc}{K:KL}{od:List D}(ok:S.Ok) (i:S.In K) (o:S.Od K od)
include ok i o
theorem Sc.shape {a:Nat}{d:D}(hd:od[a]? = some d):∃xs,d=.tup xs/\xs.all (aj 5)=true:=by
 rcases i.mem _ (o.at_ a d hd)with e|e
 ·rw[bL e];exact⟨_,rfl,by simp⟩
 ·rcases Sc.cases ok e with h|⟨f,hf,h⟩|⟨hw,h|h⟩|⟨hw,h⟩|⟨hw,h⟩|hn|hl
  ·rw[bL h];exact⟨_,rfl,by simp⟩
  ·rw[bL h];exact⟨_,rfl,by simp⟩
  ·rw[bL h];exact⟨_,rfl,by simp⟩
  ·rw[bL h];exact⟨_,rfl,by simp⟩
  ·rw[bL h];exact⟨_,rfl,by simp⟩
  ·rw[bL h];exact⟨_,rfl,by simp⟩
  ·generalize hr:bV d=r at hn
   cases hn<;>(rw[bL hr];exact⟨_,rfl,by simp⟩)
  ·obtain⟨_,h|h|h|h⟩:=Sc.lost ok hl<;>(rw[bL h];exact⟨_,rfl,by simp⟩)
theorem Sc.same {a n:Nat}{d:D}(hd:od[a]? = some d) {r:D}(hn:(r,n)∈K) (hr:dr r=true):bV d=r↔a=n:=by
 constructor
 ·intro e
  have:=Sc.one ok i (o.at_ a d hd) hn (by rw[e];exact hr) e
  injection this
 ·rintro rfl
  obtain⟨d',h1,h2⟩:=o.of_ _ hn
  have h1:od[a]? = some d':=h1
  rw[hd]at h1
  cases h1
  exact h2.symm
theorem Sc.find_named {n:Nat}(hn:(dQ S.m S.e,n)∈K) {a:Nat}{xs:List D}(hd:od[a]? = some (.tup xs)):eqD (.tup (xs.take 3)) (.tup [.str "named",.int (S.e.d*S.m),.str "crown"])=decide (a=n):=by
 have hs:=Sc.same ok i o hd hn (lH _ _)
 rw[Bool.eq_iff_iff,decide_eq_true_iff,←hs]
 constructor
 ·intro h
  have kd:∀ {k:Str}{x y:D}{aF:List D},bV (.tup xs)=row 9999 k (x::y::aF)->k=("named" : Str)/\eqD y (.str "crown")=true:=λe=>by
   have:=bL e
   injection this with this
   rw[this]at h
   exact⟨wv (bZ h).1,(bZ (bZ (bZ h).2).2).1⟩
  rcases i.mem _ (o.at_ a _ hd)with e|e
  ·exact absurd (kd e).1 (by decide +kernel)
  ·rcases Sc.cases ok e with e|⟨f,hf,e⟩|⟨hw,e|e⟩|⟨hw,e⟩|⟨hw,e⟩|hn|hl
   ·exact e
   ·exact absurd (kd e).1 (by decide +kernel)
   ·exact absurd (kd e).1 (by decide +kernel)
   ·exact absurd (kd e).1 (by decide +kernel)
   ·exact absurd (kd e).1 (by decide +kernel)
   ·exact absurd (kd e).1 (by decide +kernel)
   ·generalize hr:bV (.tup xs)=r at hn
    cases hn with
    | n1=>exact absurd (wv (kd hr).2) (by decide +kernel)
    | c1=>exact absurd (kd hr).1 (by decide +kernel)
    | h1=>exact absurd (kd hr).1 (by decide +kernel)
    | d1=>exact absurd (kd hr).1 (by decide +kernel)
    | c2=>exact absurd (kd hr).1 (by decide +kernel)
    | h2=>exact absurd (kd hr).1 (by decide +kernel)
    | l1=>exact absurd (kd hr).1 (by decide +kernel)
    | f1=>exact absurd (kd hr).1 (by decide +kernel)
   ·obtain⟨_,e|e|e|e⟩:=Sc.lost ok hl<;>exact absurd (kd e).1 (by decide +kernel)
 ·intro e
  have:=bL e
  injection this with this
  rw[this]
  exact g7 40 _ (cx (by simp))
theorem Sc.find_chosen {f:El}(hf:f∈S.es) {n:Nat}(hn:(bN S.m f,n)∈K) {a:Nat}{xs:List D}(hd:od[a]? = some (.tup xs)):eqD (.tup (xs.take 4)) (.tup [.str "chosen",.int (f.d*S.m),.str f.b,.str "crown"])=decide (a=n):=by
 have hs:=Sc.same ok i o hd hn (j4 _ (ok.ns f hf).1 (ok.ns f hf).2)
 rw[Bool.eq_iff_iff,decide_eq_true_iff,←hs]
 constructor
 ·intro h
  have kd:∀ {k:Str}{x:D}{aF:List D},bV (.tup xs)=row 9999 k (x::aF)->k=("chosen" : Str):=λe=>by
   have:=bL e
   injection this with this
   rw[this]at h
   exact wv (bZ h).1
  have kc:∀ {d t:Int}{b o p:Str},bV (.tup xs)=row 9999 ("chosen" : Str) [.int d,.str b,.str o,.str p,.int t]->d=f.d*S.m/\b=f.b/\o=("crown" : Str):=λe=>by
   have:=bL e
   injection this with this
   rw[this]at h
   have h1:=(bZ h).2
   have h2:=(bZ h1).2
   exact⟨Gm (bZ h1).1,wv (bZ h2).1,wv (bZ (bZ h2).2).1⟩
  have canc:∀ {x y:Int},x*S.m=y*S.m->x=y:=λ{x y} e=>by
   rcases Int.lt_trichotomy x y with q|q|q
   ·have:=dD ok.hm q;omega
   ·exact q
   ·have:=dD ok.hm q;omega
  rcases i.mem _ (o.at_ a _ hd)with e|e
  ·exact absurd (kd e) (by decide +kernel)
  ·rcases Sc.cases ok e with e|⟨g,hg,e⟩|⟨hw,e|e⟩|⟨hw,e⟩|⟨hw,e⟩|hn|hl
   ·exact absurd (kd e) (by decide +kernel)
   ·have hfg:g=f:=by
     have hp:=(List.pairwise_cons.mp (ok.ch.pw (by rw[ok.ed];exact Int.le_refl _))).2
     exact fq El.d (List.pairwise_map.mpr (hp.imp λq=>by omega)) hg hf (canc (kc e).1)
    exact e.trans (by rw[hfg])
   ·exact absurd (kd e) (by decide +kernel)
   ·exact absurd (kd e) (by decide +kernel)
   ·exact absurd (kd e) (by decide +kernel)
   ·exact absurd (kd e) (by decide +kernel)
   ·generalize hr:bV (.tup xs)=r at hn
    cases hn with
    | c1=>exact absurd (kc hr).2.1.symm (ok.ns f hf).2.1
    | c2=>exact absurd (kc hr).2.2 (by decide +kernel)
    | n1=>exact absurd (kd hr) (by decide +kernel)
    | h1=>exact absurd (kd hr) (by decide +kernel)
    | d1=>exact absurd (kd hr) (by decide +kernel)
    | h2=>exact absurd (kd hr) (by decide +kernel)
    | l1=>exact absurd (kd hr) (by decide +kernel)
    | f1=>exact absurd (kd hr) (by decide +kernel)
   ·obtain⟨_,e|e|e|e⟩:=Sc.lost ok hl
    ·exact absurd (kd e) (by decide +kernel)
    ·have q:=canc (kc e).1
     have q2:=ok.ch.le f hf
     have q3:=ok.ld
     have:S.l.s=(aW S.e S.es).s:=rfl
     omega
    ·exact absurd (kd e) (by decide +kernel)
    ·exact absurd (kd e) (by decide +kernel)
 ·intro e
  have:=bL e
  injection this with this
  rw[this]
  exact g7 40 _ (cx (by simp))
theorem Sc.find_death {n:Nat}(hn:(dc S.died S.l.p,n)∈K) {a:Nat}{d:D}(hd:od[a]? = some d):dEq d (.tup [.str "death",.int S.died,.str S.l.p])=some (.bl (decide (a=n)),false):=by
 have hs:=Sc.same ok i o hd hn (gB _ (Sc.nl ok))
 obtain⟨xs,rfl,hx⟩:=Sc.shape ok i o hd
 unfold dEq
 rw[if_pos ⟨cx hx,cx (by simp)⟩]
 congr 3
 rw[Bool.eq_iff_iff,decide_eq_true_iff,←hs]
 constructor
 ·intro h
  have kd:∀ {k:Str}{aF:List D},bV (.tup xs)=row 9999 k aF->k=("death" : Str):=λe=>by
   have:=bL e
   injection this with this
   rw[this]at h
   exact wv (bZ h).1
  have kp:∀ {t:Int}{p:Str},bV (.tup xs)=row 9999 ("death" : Str) [.int t,.str p]->p=S.l.p:=λe=>by
   have:=bL e
   injection this with this
   rw[this]at h
   exact wv (bZ (bZ (bZ h).2).2).1
  rcases i.mem _ (o.at_ a _ hd)with e|e
  ·exact absurd (kd e) (by decide +kernel)
  ·rcases Sc.cases ok e with e|⟨g,hg,e⟩|⟨hw,e|e⟩|⟨hw,e⟩|⟨hw,e⟩|hn|hl
   ·exact absurd (kd e) (by decide +kernel)
   ·exact absurd (kd e) (by decide +kernel)
   ·exact absurd (kd e) (by decide +kernel)
   ·exact absurd (kd e) (by decide +kernel)
   ·exact e
   ·exact absurd (kp e).symm (Sc.nl ok).2.2.2
   ·generalize hr:bV (.tup xs)=r at hn
    cases hn with
    | d1=>exact absurd (kp hr).symm (Sc.nl ok).2.1
    | c1=>exact absurd (kd hr) (by decide +kernel)
    | n1=>exact absurd (kd hr) (by decide +kernel)
    | h1=>exact absurd (kd hr) (by decide +kernel)
    | c2=>exact absurd (kd hr) (by decide +kernel)
    | h2=>exact absurd (kd hr) (by decide +kernel)
    | l1=>exact absurd (kd hr) (by decide +kernel)
    | f1=>exact absurd (kd hr) (by decide +kernel)
   ·obtain⟨_,e|e|e|e⟩:=Sc.lost ok hl<;>exact absurd (kd e) (by decide +kernel)
 ·intro e
  rw[bL e]
  exact g7 40 _ (cx (by simp))
end
theorem qC (m:Int) (u:Option Int):∀(r:List (El×Nat)) (x:El×Nat) (k:Nat) (y:El×Nat),(x::r)[k]? = some y->(dh m u x r)[k]? = some ⟨("crown" : Str),y.1.p,y.1.s*m,match (x::r)[k+1]? with|some z=>some (z.1.s*m)|none=>u,y.2⟩
 | [],x,0,y,h=>by cases h;rfl
 | [],x,k+1,y,h=>by simp at h
 | f::r,x,0,y,h=>by cases h;rfl
 | f::r,x,k+1,y,h=>qC m u r f k y (by simpa using h)
theorem iZ (m:Int) (u:Option Int):∀(r:List (El×Nat)) (x:El×Nat),(dh m u x r).length=r.length+1
 | [],_=>rfl
 | f::r,_=>by
  show(_::dh m u f r).length=_
  rw[List.length_cons,iZ m u r f,List.length_cons]
section
variable {S:Sc}{K:KL}{od:List D}(ok:S.Ok) (i:S.In K) (o:S.Od K od)
include ok i o
theorem Sc.line_at {r:List (El×Nat)}(hr:r.map (·.1)=S.es) {n0:Nat}(hn0:(dQ S.m S.e,n0)∈K) (hf:∀f∈r,(bN S.m f.1,f.2)∈K) {k:Nat}{y:El×Nat}(hk:((S.e,n0)::r)[k]? = some y) :
  ∃dp,(aM S.m S.e S.es)[k]? = some (.tup [.int y.1.s,.str y.1.p,.tup dp])/\dp.all (aj 5)=true/\aV dp=true/\y.2<od.length/\∀(a:Nat) xs,od[a]? = some (.tup xs)->eqD (.tup (xs.take dp.length)) (.tup dp)=decide (a=y.2):=by
 have inl:∀ {x:D×Nat},x∈K->x.2<od.length:=λhx=>by
  obtain⟨d,h,_⟩:=o.of_ _ hx
  exact(List.getElem?_eq_some_iff.mp h).1
 cases k with
 | zero =>
  cases hk
  exact⟨[.str "named",.int (S.e.d*S.m),.str "crown"],rfl,by simp,rfl,inl hn0,λa xs hd=>Sc.find_named ok i o hn0 hd⟩
 | succ j =>
  have hj:r[j]? = some y:=by simpa using hk
  have hy:=List.mem_of_getElem? hj
  have hye:y.1∈S.es:=by rw[←hr];exact List.mem_map.mpr ⟨y,hy,rfl⟩
  refine⟨[.str "chosen",.int (y.1.d*S.m),.str y.1.b,.str "crown"], ?_,by simp,rfl,inl (hf y hy),λa xs hd=>Sc.find_chosen ok i o hye (hf y hy) hd⟩
  unfold aM
  rw[List.getElem?_cons_succ,List.getElem?_map,←hr,List.getElem?_map,hj]
  rfl
theorem Sc.due_ok {r:List (El×Nat)}(hr:r.map (·.1)=S.es) {n0 nd:Nat}(hn0:(dQ S.m S.e,n0)∈K) (hf:∀f∈r,(bN S.m f.1,f.2)∈K) (hd:S.w≠0->(dc S.died S.l.p,nd)∈K) (hm:0<S.m/\S.m<=190) (hle:S.es.length<=8) (hw3:S.w<=3):km [.lst (aM S.m S.e S.es),iE S.w S.died,.lst od,.int S.m]=some (.lst ((S.fin n0 r nd).map clD),true):=by
 have hlen:r.length=S.es.length:=by rw[←hr,List.length_map]
 have hN:(aM S.m S.e S.es).length=r.length+1:=by simp[aM,hlen]
 have hol:=o.len
 let cs:=dh S.m none (S.e,n0) r
 obtain⟨ρ1,fr,v5,v6,v7,v8,v9,v10,rfl⟩:=io (tg:=tgN 5) (g:=oq) (aM S.m S.e S.es).length (λk ρ=>∃v5 v6 v7 v8 v9 v10:Option (D×Bool),ρ=[some (.lst (aM S.m S.e S.es),false),some (iE S.w S.died,false),some (.lst od,false),some (.int S.m,false),some (.lst ((cs.take k).map clD),true),v5,v6,v7,v8,v9,v10])
  [some (.lst (aM S.m S.e S.es),false),some (iE S.w S.died,false),some (.lst od,false),some (.int S.m,false),some (.lst [],true),none,none,none,none,none,none] ⟨none,none,none,none,none,none,rfl⟩ (by
   rintro k ρ hk ⟨v5,v6,v7,v8,v9,v10,rfl⟩
   obtain⟨y,hy⟩:∃y,((S.e,n0)::r)[k]? = some y:=⟨_,List.getElem?_eq_getElem (by rw[List.length_cons];omega)⟩
   obtain⟨dp,h1,h2,h3,h4,h5⟩:=Sc.line_at ok i o hr hn0 hf hy
   have hc:=qC S.m none r (S.e,n0) k y hy
   generalize hu:(match ((S.e,n0)::r)[k+1]? with|some z=>some (z.1.s*S.m)|none=>none)=u at hc
   have ha:=eK h1
   let E:Option (D×Bool)->Option (D×Bool)->DL.Env:=λw9 w10=>[some (.lst (aM S.m S.e S.es),false),some (iE S.w S.died,false),some (.lst od,false),some (.int S.m,false),some (.lst ((cs.take k).map clD),true),some (.int k,false),some (.int y.1.s,false),some (.str y.1.p,false),some (.tup dp,false),w9,w10]
   have hlt:cs.length=r.length+1:=iZ _ _ _ _
   have e9:gIf (tOf (f2 dLt (f2 bI (ag 5) (fC (.int 1))) (fA cH (ae (ag 0) ak)))) (aZ 9 (f2 eU (f2 ixD (f2 ixD (ag 0) (f2 bI (ag 5) (fC (.int 1)))) (fC (.int 0))) (ag 3))) bU (E (some (.non,false)) v10)=some (.nx (E (some (uD u,false)) v10)):=by
    have hcond:tOf (f2 dLt (f2 bI (ag 5) (fC (.int 1))) (fA cH (ae (ag 0) ak))) (E (some (.non,false)) v10)=some (decide ((k:Int)+1<((aM S.m S.e S.es).length:Int))):=aK (b:=false) (by simp[E])
    by_cases hk1:k+1<r.length+1
    ·obtain⟨z,hz⟩:∃z,((S.e,n0)::r)[k+1]? = some z:=⟨_,List.getElem?_eq_getElem (by rw[List.length_cons];exact hk1)⟩
     rw[hz]at hu
     subst hu
     obtain⟨dz,g1,_⟩:=Sc.line_at ok i o hr hn0 hf hz
     have gz:=eK g1
     rw[decide_eq_true (by omega)]at hcond
     refine nV hcond (Ae (d:=.int (z.1.s*S.m)) (b:=false) (aA (x:=.int z.1.s) (y:=.int S.m) (b1:=false) (b2:=false) (aA (x:=.tup [.int z.1.s,.str z.1.p,.tup dz]) (y:=.int 0) (b1:=false) (b2:=false) (aA (x:=.lst (aM S.m S.e S.es)) (y:=.int ((k+1:Nat):Int)) (b1:=false) (b2:=false) rfl (by simp[E]) ?_) rfl (by simp[at0])) rfl (gW hm _)) rfl)
     show(atI (aM S.m S.e S.es) ((k+1:Nat):Int)).map _=_
     rw[gz]
     rfl
    ·rw[List.getElem?_eq_none (by rw[List.length_cons];omega)]at hu
     subst hu
     rw[decide_eq_false (by omega)]at hcond
     exact lw hcond rfl
   refine⟨_,_,rfl,.inl (cM (sd (aA (x:=.lst (aM S.m S.e S.es)) (y:=.int k) (b1:=false) (b2:=false) rfl rfl (by simp[ha])) (by simp[h3]) rfl) (aU (d:=.non) (b:=false) rfl rfl (cM e9 (aU (d:=.int y.2) (b:=false) (xI (cap:=[8,2]) h4 (by omega) rfl λa d hd=>?_) rfl (gg (ds:=(cs.take k).map clD) (d:=clD ⟨("crown" : Str),y.1.p,y.1.s*S.m,u,y.2⟩) (b:=false) rfl ?_ (fG _) (b7 (by simp;omega))))))),some (.int k,false),some (.int y.1.s,false),some (.str y.1.p,false),some (.tup dp,false),some (uD u,false),some (.int y.2,false), ?_⟩
   ·obtain⟨xs,hxs,hpl⟩:=Sc.shape ok i o hd
    exact Ea (L:=dp.length) hd hxs hpl h2 rfl rfl rfl rfl (h5 a xs (by rw[hd,hxs]))
   ·exact ai (ds:=[.str "crown",.str y.1.p,.int (y.1.s*S.m),uD u,.int y.2]) (ao (b:=false) rfl (ao (b:=false) rfl (ao (b:=false) (aA (x:=.int y.1.s) (y:=.int S.m) (b1:=false) (b2:=false) rfl rfl (gW hm _)) rfl))) (bx _ (by simp))
   ·rw[List.take_add_one,hc,Option.toList_some,List.map_append]
    rfl)
 have hall:cs.take (aM S.m S.e S.es).length=cs:=by rw[hN];exact List.take_of_length_le (by rw[iZ];omega)
 rw[hall]at fr
 have hrun:jg (cJ (fA cH (ae (ag 0) ak))) (tgN 5) oq [some (.lst (aM S.m S.e S.es),false),some (iE S.w S.died,false),some (.lst od,false),some (.int S.m,false),some (.lst [],true),none,none,none,none,none,none]=some (.nx [some (.lst (aM S.m S.e S.es),false),some (iE S.w S.died,false),some (.lst od,false),some (.int S.m,false),some (.lst (cs.map clD),true),v5,v6,v7,v8,v9,v10]):=ir (fj (j:=(aM S.m S.e S.es).length) (b:=false) (by simp) (by omega)) fr
 refine aB rfl (cb (ds:=[]) (by simp[sizeLine]) rfl (cM hrun ?_))
 by_cases w0:S.w=0
 ·have hx:iE S.w S.died=.non:=by unfold iE;rw[if_pos w0]
  have hfin:S.fin n0 r nd=cs:=by unfold Sc.fin;rw[if_pos w0]
  rw[hx,hfin]
  exact bD (aK (b:=false) (by simp)) (eV rfl)
 ·have hx:iE S.w S.died=.tup [.int S.died,if S.w=3 then .str "yb" else .non]:=by unfold iE;rw[if_neg w0]
  have hdK:=hd w0
  have hndl:nd<od.length:=by
   obtain⟨d,h,_⟩:=o.of_ _ hdK
   exact(List.getElem?_eq_some_iff.mp h).1
  obtain⟨pre,q1,_,_⟩:=dR ok.hm r S.e n0 (by rw[hr];exact ok.ch)
  obtain⟨xl,hxl,_⟩:=iY S.m S.es S.e
  have hatl:atI (aM S.m S.e S.es) (-1)=some (.tup [.int S.l.s,.str S.l.p,xl]):=by rw[gp];exact hxl
  generalize aW (S.e,n0) r=lq at q1
  let cn:Cl:=⟨("crown" : Str),lq.1.p,lq.1.s*S.m,none,lq.2⟩
  let cd:Cl:=⟨("crown" : Str),lq.1.p,lq.1.s*S.m,some S.died,lq.2⟩
  have hcs:cs=pre++[cn]:=q1 none
  have hats:∀t:Cl,atI ((pre++[t]).map clD) (-1)=some (clD t):=λt=>by rw[gp,List.getLast?_map,List.getLast?_append];rfl
  have hpl:pre.length<=60:=by
   have:cs.length=r.length+1:=iZ _ _ _ _
   rw[hcs,List.length_append,List.length_singleton]at this
   omega
  rw[hx,hcs]
  let X:D:=.tup [.int S.died,if S.w=3 then .str "yb" else .non]
  let E:Cl->Option (D×Bool)->DL.Env:=λt w10=>[some (.lst (aM S.m S.e S.es),false),some (X,false),some (.lst od,false),some (.int S.m,false),some (.lst ((pre++[t]).map clD),true),v5,v6,v7,v8,v9,w10]
  have hput:yn 4 (f1 fw (fC (.int 1))) (f2 jT (fSl (f2 ixD (ag 4) (f1 fw (fC (.int 1)))) eu (dF (fC (.int 3)))) (fA aP (ae (f2 ixD (ag 1) (fC (.int 0))) (ae (f2 ixD (f2 ixD (ag 4) (f1 fw (fC (.int 1)))) (fC (.int 4))) ak)))) (E cn (some (.int nd,false)))=some (.nx (E cd (some (.int nd,false)))):=by
   have i4:f2 ixD (ag 4) (f1 fw (fC (.int 1))) (E cn (some (.int nd,false)))=some (clD cn,false):=aA (x:=.lst ((pre++[cn]).map clD)) (y:=.int (-1)) (b1:=false) (b2:=false) rfl rfl (by simp only[ixD,hats];rfl)
   have ev:f2 jT (fSl (f2 ixD (ag 4) (f1 fw (fC (.int 1)))) eu (dF (fC (.int 3)))) (fA aP (ae (f2 ixD (ag 1) (fC (.int 0))) (ae (f2 ixD (f2 ixD (ag 4) (f1 fw (fC (.int 1)))) (fC (.int 4))) ak))) (E cn (some (.int nd,false)))=some (clD cd,false):=by
    refine aA (x:=.tup [.str "crown",.str lq.1.p,.int (lq.1.s*S.m)]) (y:=.tup [.int S.died,.int lq.2]) (b1:=false) (b2:=false) ?_ (ai (ds:=[.int S.died,.int lq.2]) (ao (b:=false) (aA (x:=X) (y:=.int 0) (b1:=false) (b2:=false) rfl rfl (by simp[X,at0])) (ao (b:=false) (aA (x:=clD cn) (y:=.int 4) (b1:=false) (b2:=false) i4 rfl (cl4 cn)) rfl)) (bx _ (by simp))) (if_pos (c:=5<=sizeLine) (e:=none) (bv (by decide)))
    show(f2 ixD (ag 4) (f1 fw (fC (.int 1))) (E cn (some (.int nd,false)))).bind _=_
    rw[i4]
    rfl
   have hix:ixN ((pre++[cn]).map clD).length (-1)=some pre.length:=by
    unfold ixN
    rw[if_neg (by decide),if_pos (by simp;omega)]
    congr 1
    simp
    omega
   have hset:((pre++[cn]).map clD).set pre.length (clD cd)=(pre++[cd]).map clD:=by
    rw[List.map_append,List.map_append,←List.length_map (as:=pre) clD,List.set_append_right _ _ (Nat.le_refl _),Nat.sub_self]
    rfl
   unfold yn
   show((f2 jT _ _ (E cn (some (.int nd,false)))).bind _)=_
   rw[ev]
   show(ixN ((pre++[cn]).map clD).length (-1)).bind _=_
   rw[hix]
   show(if bo (clD cd)=true then some (Res.nx ((E cn (some (.int nd,false))).set 4 (some (.lst (((pre++[cn]).map clD).set pre.length (clD cd)),true))))else none)=_
   rw[if_pos (fG cd),hset]
   rfl
  have hfind:f2 ixD (cz (cJ (fA cH (ae (ag 2) ak))) 1 [2,1,0] (tgN 0) (tOf (f2 dEq (f2 ixD (ag 1) (ag 0)) (fA aP (ae (fC (.str "death")) (ae (f2 ixD (ag 2) (fC (.int 0))) (ae (f2 ixD (f2 ixD (ag 3) (f1 fw (fC (.int 1)))) (fC (.int 1))) ak)))))) (ag 0)) (fC (.int 0)) (E cn v10)=some (.int nd,false):=xI (cap:=[2,1,0]) hndl (by omega) rfl λa d hda=>by
   have ha:=eK hda
   refine aK (b:=false) (aA (x:=d) (y:=.tup [.str "death",.int S.died,.str S.l.p]) (b1:=false) (b2:=false) (aA (x:=.lst od) (y:=.int a) (b1:=false) (b2:=false) rfl rfl (by simp[ha])) (ai (ds:=[.str "death",.int S.died,.str S.l.p]) (ao (b:=false) rfl (ao (b:=false) (aA (x:=X) (y:=.int 0) (b1:=false) (b2:=false) rfl rfl (by simp[X,at0])) (ao (b:=false) (aA (x:=.tup [.int S.l.s,.str S.l.p,xl]) (y:=.int 1) (b1:=false) (b2:=false) (aA (x:=.lst (aM S.m S.e S.es)) (y:=.int (-1)) (b1:=false) (b2:=false) rfl rfl (by simp[hatl])) rfl (by simp[at1])) rfl))) (bx _ (by simp))) (Sc.find_death ok i o hdK hda))
  have ifin:∀ {g:FS}{ρ':DL.Env},g (E cd (some (.int nd,false)))=some (.nx ρ')->gIf (tOf (f2 gd (ag 1) (fC .non))) (aD (aZ 10 (f2 ixD (cz (cJ (fA cH (ae (ag 2) ak))) 1 [2,1,0] (tgN 0) (tOf (f2 dEq (f2 ixD (ag 1) (ag 0)) (fA aP (ae (fC (.str "death")) (ae (f2 ixD (ag 2) (fC (.int 0))) (ae (f2 ixD (f2 ixD (ag 3) (f1 fw (fC (.int 1)))) (fC (.int 1))) ak)))))) (ag 0)) (fC (.int 0)))) (aD (yn 4 (f1 fw (fC (.int 1))) (f2 jT (fSl (f2 ixD (ag 4) (f1 fw (fC (.int 1)))) eu (dF (fC (.int 3)))) (fA aP (ae (f2 ixD (ag 1) (fC (.int 0))) (ae (f2 ixD (f2 ixD (ag 4) (f1 fw (fC (.int 1)))) (fC (.int 4))) ak))))) g)) bU (E cn v10)=some (.nx ρ'):=λhg =>
   nV (aK (b:=false) (by simp[E,X])) (aU (d:=.int nd) (b:=false) hfind rfl (cM hput hg))
  have hq2:dh S.m (some S.died) (S.e,n0) r=pre++[cd]:=q1 (some S.died)
  by_cases w3:S.w=3
  ·have hfin:S.fin n0 r nd=pre++[cd]++[⟨("crown" : Str),("yb" : Str),S.died,none,nd⟩]:=by unfold Sc.fin;rw[if_neg w0,if_neg (by omega),hq2]
   have hmp:(pre++[cd]++[(⟨("crown" : Str),("yb" : Str),S.died,none,nd⟩:Cl)]).map clD=(pre++[cd]).map clD++[clD ⟨("crown" : Str),("yb" : Str),S.died,none,nd⟩]:=List.map_append
   rw[hfin,hmp]
   have hX:X=.tup [.int S.died,.str "yb"]:=by simp only[X];rw[if_pos w3]
   refine cM (ifin (nV (aK (b:=false) (aA (x:=.str "yb") (y:=.non) (b1:=false) (b2:=false) (aA (x:=X) (y:=.int 1) (b1:=false) (b2:=false) rfl rfl (by rw[hX];simp[at1])) rfl (by simp))) (gg (ds:=(pre++[cd]).map clD) (d:=clD ⟨("crown" : Str),("yb" : Str),S.died,none,nd⟩) (b:=false) rfl ?_ (fG _) (b7 (by simp;omega))))) (eV rfl)
   exact ai (ds:=[.str "crown",.str "yb",.int S.died,.non,.int nd]) (ao (b:=false) rfl (ao (b:=false) (aA (x:=X) (y:=.int 1) (b1:=false) (b2:=false) rfl rfl (by rw[hX];simp[at1])) (ao (b:=false) (aA (x:=X) (y:=.int 0) (b1:=false) (b2:=false) rfl rfl (by rw[hX];simp[at0])) rfl))) (bx _ (by simp))
  ·have hfin:S.fin n0 r nd=pre++[cd]:=by unfold Sc.fin;rw[if_neg w0,if_pos (by omega),hq2,List.append_nil]
   rw[hfin]
   have hX:X=.tup [.int S.died,.non]:=by simp only[X];rw[if_neg w3]
   exact cM (ifin (lw (aK (b:=false) (aA (x:=.non) (y:=.non) (b1:=false) (b2:=false) (aA (x:=X) (y:=.int 1) (b1:=false) (b2:=false) rfl rfl (by rw[hX];simp[at1])) rfl (by simp))) rfl)) (eV rfl)
end
theorem F0 {ns:List Int}{i:Int}(h1:0<=i) (h2:i<ns.length):∃m∈ns,ixD (.lst (ns.map .int)) (.int i)=some (.int m,false):=by
 have h:i.toNat<ns.length:=by omega
 refine⟨ns.getD i.toNat 0, ?_,xp h1 h⟩
 rw[List.getD_eq_getElem?_getD,List.getElem?_eq_getElem h]
 exact List.getElem_mem h
def dE (m:Int) (e:El):D:=.tup [.str "named",.int (e.d*m),.str "crown",.str e.p]
def mO (m:Int) (e:El):D:=.tup [.str "chosen",.int (e.d*m),.str e.b,.str "crown",.str e.p,.int (e.s*m)]
def eF (rl:Str):D:=.tup [.str "root",.str "crown",.int 255,.int 9,.str rl]
theorem Sc.rowc {S:Sc}(ok:S.Ok) {r:D}(h:r∈S.all):pq r/\bT r=false/\d9 r=9999:=by
 have nr:∀ {k:Str}{aF:List D},k≠("root" : Str)->bT (row 9999 k aF)=false:=λhk=>decide_eq_false hk
 rcases Sc.cases ok h with rfl|⟨f,hf,rfl⟩|⟨hw,rfl|rfl⟩|⟨hw,rfl⟩|⟨hw,rfl⟩|hn|hl
 ·exact⟨⟨_,_,_,rfl,.named _ _ _⟩,nr (by decide +kernel),rfl⟩
 ·exact⟨⟨_,_,_,rfl,.chosen _ _ _ _ _⟩,nr (by decide +kernel),rfl⟩
 ·exact⟨⟨_,_,_,rfl,.heir _ _ _ _⟩,nr (by decide +kernel),rfl⟩
 ·exact⟨⟨_,_,_,rfl,.heir _ _ _ _⟩,nr (by decide +kernel),rfl⟩
 ·exact⟨⟨_,_,_,rfl,.three _ (.inl rfl) _ _⟩,nr (by decide +kernel),rfl⟩
 ·exact⟨⟨_,_,_,rfl,.three _ (.inl rfl) _ _⟩,nr (by decide +kernel),rfl⟩
 ·cases hn with
  | c1=>exact⟨⟨_,_,_,rfl,.chosen _ _ _ _ _⟩,nr (by decide +kernel),rfl⟩
  | h1=>exact⟨⟨_,_,_,rfl,.heir _ _ _ _⟩,nr (by decide +kernel),rfl⟩
  | d1=>exact⟨⟨_,_,_,rfl,.three _ (.inl rfl) _ _⟩,nr (by decide +kernel),rfl⟩
  | n1=>exact⟨⟨_,_,_,rfl,.named _ _ _⟩,nr (by decide +kernel),rfl⟩
  | c2=>exact⟨⟨_,_,_,rfl,.chosen _ _ _ _ _⟩,nr (by decide +kernel),rfl⟩
  | h2=>exact⟨⟨_,_,_,rfl,.heir _ _ _ _⟩,nr (by decide +kernel),rfl⟩
  | l1=>exact⟨⟨_,_,_,rfl,.three _ (.inr (.inl rfl)) _ _⟩,nr (by decide +kernel),rfl⟩
  | f1=>exact⟨⟨_,_,_,rfl,.three _ (.inr (.inr rfl)) _ _⟩,nr (by decide +kernel),rfl⟩
 ·obtain⟨_,rfl|rfl|rfl|rfl⟩:=Sc.lost ok hl
  ·exact⟨⟨_,_,_,rfl,.three _ (.inr (.inl rfl)) _ _⟩,nr (by decide +kernel),rfl⟩
  ·exact⟨⟨_,_,_,rfl,.chosen _ _ _ _ _⟩,nr (by decide +kernel),rfl⟩
  ·exact⟨⟨_,_,_,rfl,.heir _ _ _ _⟩,nr (by decide +kernel),rfl⟩
  ·exact⟨⟨_,_,_,rfl,.three _ (.inr (.inr rfl)) _ _⟩,nr (by decide +kernel),rfl⟩
theorem Sc.eff_all {S:Sc}(ok:S.Ok):S.all.filter dr=S.ef:=by
 have h1:(dQ S.m S.e::S.es.map (bN S.m)).filter dr=dQ S.m S.e::S.es.map (bN S.m):=List.filter_eq_self.mpr λr hr=>by
  rcases List.mem_cons.mp hr with rfl|hr
  ·exact lH _ _
  ·obtain⟨f,hf,rfl⟩:=List.mem_map.mp hr
   exact j4 _ (ok.ns f hf).1 (ok.ns f hf).2
 have nl:=Sc.nl ok
 have h2:(gV S.w S.l.p S.a S.b S.died).filter dr=gV S.w S.l.p S.a S.b S.died:=List.filter_eq_self.mpr λr hr=>by
  unfold gV at hr
  split at hr
  ·cases hr
  ·split at hr
   ·rw[List.mem_singleton.mp hr];exact gB _ nl
   ·simp only[List.mem_cons,List.not_mem_nil,or_false]at hr
    rcases hr with rfl|rfl|rfl
    ·exact(kD _ nl).1
    ·exact(kD _ nl).2
    ·exact gB _ nl
 have h3:(q8 S.w S.d2).filter dr=[]:=List.filter_eq_nil_iff.mpr λr hr=>by
  unfold q8 at hr
  split at hr
  ·rw[List.mem_singleton.mp hr,A1];decide
  ·cases hr
 have h4:S.nt.filter dr=[]:=List.filter_eq_nil_iff.mpr λr hr=>by rw[A0 (ok.nn r hr)];decide
 have h5:(k9 S.z S.l.p S.dl S.m).filter dr=[]:=List.filter_eq_nil_iff.mpr λr hr=>by rw[uF _ _ _ _ _ hr];decide
 unfold Sc.all Sc.ef
 rw[List.filter_append,List.filter_append,List.filter_append,List.filter_append,h1,h2,h3,h4,h5,List.append_nil,List.append_nil,List.append_nil]
theorem Sc.made {S:Sc}(ok:S.Ok) {ds od:List D}(hds:ds.map bV=S.all) (hp:od.Perm ds) (hl:od.length<=50):S.In ((eF S.rl::od).map bV).zipIdx/\S.Od ((eF S.rl::od).map bV).zipIdx (eF S.rl::od)/\∀r∈(eF S.rl::od).map bV,pq r/\d9 r=9999:=by
 have hpm:(od.map bV).Perm S.all:=by rw[←hds];exact hp.map _
 have hmem:∀r∈(eF S.rl::od).map bV,r=rtR S.rl∨r∈S.all:=λr hr=>by
  rw[List.map_cons]at hr
  rcases List.mem_cons.mp hr with h|h
  ·exact .inl h
  ·exact .inr (hpm.mem_iff.mp h)
 have hroot:jm ((eF S.rl::od).map bV).zipIdx=[(.inr ("crown" : Str),rtR S.rl)]:=by
  unfold jm
  rw[List.map_cons,List.zipIdx_cons,List.filter_cons_of_pos (by exact decide_eq_true rfl),List.filter_eq_nil_iff.mpr λx hx=>?_]
  ·rfl
  ·rw[(Sc.rowc ok (hpm.mem_iff.mp (List.fst_mem_of_mem_zipIdx hx))).2.1];decide
 refine⟨⟨λx hx=>hmem _ (List.fst_mem_of_mem_zipIdx hx),λr hr=>?_, ?_, ?_, ?_,by rw[List.zipIdx_map_snd];exact List.nodup_range'⟩,⟨λa d hd=>?_,λx hx=>?_,by rw[List.length_cons];omega⟩,λr hr=>?_⟩
 ·have hr2:r∈(eF S.rl::od).map bV:=by rw[List.map_cons];exact mZ _ (hpm.mem_iff.mpr hr)
  obtain⟨n,hn⟩:=List.mem_iff_getElem?.mp hr2
  exact⟨n,List.mem_zipIdx_iff_getElem?.mpr hn⟩
 ·rw[List.zipIdx_map_fst,List.map_cons,List.filter_cons_of_neg (by show ¬dr (rtR S.rl)=true;exact λh=>by have:=kB h;rw[show bT (rtR S.rl)=true from decide_eq_true rfl]at this;cases this),←Sc.eff_all ok]
  exact hpm.filter _
 ·unfold fJ
  rw[hroot]
  simp[b9,rH,cG,cL,cj]
 ·unfold fJ
  rw[hroot]
  rfl
 ·refine List.mem_zipIdx_iff_getElem?.mpr ?_
  rw[List.getElem?_map,hd]
  rfl
 ·have h:=List.mem_zipIdx_iff_getElem?.mp hx
  rw[List.getElem?_map]at h
  obtain⟨d,h1,h2⟩:=oY h
  exact⟨d,h1,h2.symm⟩
 ·rcases hmem r hr with rfl|h
  ·exact⟨⟨_,_,_,rfl,.root _ _ _ _⟩,rfl⟩
  ·exact⟨(Sc.rowc ok h).1,(Sc.rowc ok h).2.2⟩
theorem law_true (ns:List Int) (hn:ns.length<=63):∃b,F_law [.lst (ns.map .int)]=some (.bl true,b):=by
 have m5:=mod_lt (x:=ns.getD 0 0) (m:=5) (by decide)
 obtain⟨many,hmany⟩:∃many:Nat,2+ns.getD 0 0 % 5=many:=⟨(2+ns.getD 0 0 % 5).toNat,by omega⟩
 obtain⟨zs,hz,hzl,hzy⟩:=eY (ns.getD 1 0) many (by omega)
 have hnm:∀z∈zs,Nm z:=λz h=>Fz (hzy z h)
 have m2:=mod_lt (x:=ns.getD 0 0 / 5) (m:=2) (by decide)
 obtain⟨m,hmm,em⟩:=F0 (ns:=[1,190]) (i:=ns.getD 0 0 / 5 % 2) m2.1 m2.2
 have hm:0<m/\m<=190:=by simp only[List.mem_cons,List.not_mem_nil,or_false]at hmm;omega
 obtain⟨e,es,hline,hch,hed,hes1,hnp,hnn,hel,hls⟩:=BU ns zs (by omega) hnm hm
 obtain⟨w,died,d2,L,hend,hL,hLf,hLl,hw,hd1,hd3,hd2⟩:=DZ ns hm e es
 obtain⟨Nn,hnot,hNl,hNn⟩:=wu ns hm e es hel
 obtain⟨z,dl,Lo,hlost,hLo,hLof,hLol,hz0,hdl⟩:=BV ns hm e es
 have m3:=mod_lt (x:=ns.getD 2 0) (m:=3) (by decide)
 obtain⟨rl,_,erl⟩:=wt (zs:=[("open" : Str),("first" : Str),("last" : Str)]) (i:=ns.getD 2 0 % 3) m3.1 m3.2
 let S:Sc:=⟨m,e,es,w,((aW e es).s+1)*m,((aW e es).s+2)*m,died,d2,z,dl,Nn.map bV,rl⟩
 have m4:=mod_lt (x:=ns.getD 22 0) (m:=4) (by decide)
 have hw3:w<=3:=by omega
 have ok:S.Ok:=⟨hm.1,hch,hed,hnp,hnn,dD hm.1 (by show(aW e es).s<_;omega),dD hm.1 (by omega),Int.lt_of_lt_of_le (dD hm.1 (by omega)) hd1,hd2,λh=>by have:=hz0 h;show w=0;omega,hdl,λr hr=>by obtain⟨d,h,rfl⟩:=List.mem_map.mp hr;exact(hNn d h).1⟩
 let Dd:List D:=dE m e::es.map (mO m)
 have hDd:Dd.map bV=dQ m e::es.map (bN m):=by
  simp only[Dd,List.map_cons,List.map_map]
  rfl
 let ds:List D:=Dd++L++Nn++Lo
 have hds:ds.map bV=S.all:=by
  simp only[ds,List.map_append,hDd,hL,hLo]
  rfl
 have hDf:aV Dd=true:=bF λd hd=>by
  rcases List.mem_cons.mp hd with rfl|hd
  ·rfl
  ·obtain⟨f,_,rfl⟩:=List.mem_map.mp hd;rfl
 have hDl:Dd.length<=9:=by simp[Dd];omega
 have hdsf:aV ds=true:=bF λd hd=>by
  simp only[ds,List.mem_append]at hd
  rcases hd with ((hd|hd)|hd)|hd
  ·exact cO hDf hd
  ·exact cO hLf hd
  ·exact(hNn d hd).2
  ·exact cO hLof hd
 have hdl2:ds.length<=23:=by simp only[ds,List.length_append];omega
 obtain⟨od,hlaid,hperm⟩:=BW ns ds hdsf (by omega)
 have hodl:od.length<=23:=by rw[hperm.length_eq];exact hdl2
 have hodf:∀d∈eF rl::od,bo d=true:=λd hd=>by
  rcases List.mem_cons.mp hd with rfl|hd
  ·rfl
  ·exact cO hdsf (hperm.mem_iff.mp hd)
 obtain⟨hin,hod,hrc⟩:=Sc.made ok hds hperm (by omega)
 let rows:List D:=(eF rl::od).map bV
 have g:eQ rows:=⟨by simp[rows];omega,λr hr=>(hrc r hr).1⟩
 have hk1:ax rows 9999=rows.zipIdx:=List.filter_eq_self.mpr λx hx=>decide_eq_true (by rw[(hrc _ (List.fst_mem_of_mem_zipIdx hx)).2];decide)
 have hk0:ax rows 9998=[]:=List.filter_eq_nil_iff.mpr λx hx=>by rw[(hrc _ (List.fst_mem_of_mem_zipIdx hx)).2];decide
 obtain⟨n0,r,nd,hr,hn0,hf,hnd,hcl⟩:=Sc.claims ok hin
 obtain⟨hdis,hall⟩:=Sc.fin_ok ok (n0:=n0) (nd:=nd) hr
 have hdue:km [.lst (aM m e es),iE w died,.lst (eF rl::od),.int m]=some (.lst ((S.fin n0 r nd).map clD),true):=Sc.due_ok ok hin hod hr hn0 hf hnd hm hel hw3
 have ho1:(cU (ax rows 9999)).length<=60:=by
  unfold cU
  rw[(bP _ _).length_eq]
  exact Nat.le_trans (List.length_filter_le _ _) (Nat.le_trans (jz rows 9999) g.1)
 have ho0:(cU (ax rows 9998)).length<=60:=by rw[hk0];decide
 have c1:=lE g 9999 ho1
 have c0:=(lE g 9998 ho0).1
 have eh:=λt=>yD g 9999 ho1 ("crown" : Str) t
 rw[hk0]at c0
 rw[hk1,hcl]at c1
 have eh:∀t,fF [.tup rows,.int 9999,.str "crown",.int t]=some (i7 rl (alL (S.fin n0 r nd) ("crown" : Str) t),false):=λt=>by
  rw[eh t,hk1]
  unfold rZ
  rw[hin.rt,hcl]
  rfl
 generalize S.fin n0 r nd=cs at hdis hall hdue c1 eh
 have hd9:died<=9998:=by
  have:((aW e es).s+7)*m<=51*m:=gk hm.1 (by omega)
  omega
 have cpl:∀l:List Cl,aj 40 (.lst (l.map clD))=true:=λl=>by
  simp only[aj,List.all_eq_true]
  intro d hd
  obtain⟨⟨o,p,s,u,k⟩,_,rfl⟩:=List.mem_map.mp hd
  cases u<;>simp[clD,uD,aj]
 have ne_same:∀ {d:D},aj 40 d=true->dNe d d=some (.bl false,false):=λ{d} q=>by unfold dNe;rw[if_pos ⟨q,q⟩,g7 40 _ q];rfl
 let V:DL.Env->DL.Env:=λt=>some (.lst (ns.map .int),false)::some (.lst (zs.map .str),false)::some (.int m,false)::some (.lst (aM m e es),false)::some (.lst L,false)::some (iE w died,false)::t
 -- the deeds of the line
 obtain⟨ρ1,fr1,v8,v9,v10,rfl⟩:=fB (tg:=tgT [8,9,10]) (g:=wb) (λk ρ=>∃v8 v9 v10:Option (D×Bool),ρ=V [some (dE m e,false),some (.lst (dE m e::(es.take k).map (mO m)),true),v8,v9,v10,none,none,none,none,none,none,none]) (es.map (ln1 m))
  (V [some (dE m e,false),some (.lst [dE m e],true),none,none,none,none,none,none,none,none,none,none]) ⟨none,none,none,rfl⟩ (by
   rintro k d ρ hd ⟨v8,v9,v10,rfl⟩
   rw[List.getElem?_map]at hd
   obtain⟨f,hfk,rfl⟩:=oY hd
   have hk:k<es.length:=(List.getElem?_eq_some_iff.mp hfk).1
   refine⟨_,_,rfl,.inl (gg (ds:=dE m e::(es.take k).map (mO m)) (d:=mO m f) (b:=false) rfl (aA (x:=.tup [.str "chosen",.int (f.d*m),.str f.b,.str "crown"]) (y:=.tup [.str f.p,.int (f.s*m)]) (b1:=false) (b2:=false) rfl (ai (ds:=[.str f.p,.int (f.s*m)]) (ao (b:=false) rfl (ao (b:=false) (aA (x:=.int f.s) (y:=.int m) (b1:=false) (b2:=false) rfl rfl (gW hm _)) rfl)) (bx _ (by simp))) (if_pos (c:=6<=sizeLine) (e:=none) (bv (by decide)))) rfl (b7 (by simp;omega))),some (.int f.s,false),some (.str f.p,false),some (.tup [.str "chosen",.int (f.d*m),.str f.b,.str "crown"],false), ?_⟩
   rw[List.take_add_one,hfk,Option.toList_some,List.map_append]
   rfl)
 rw[List.length_map,List.take_length]at fr1
 let W:D->Option (D×Bool)->Option (D×Bool)->Option (D×Bool)->Option (D×Bool)->Option (D×Bool)->Option (D×Bool)->DL.Env:=λx a8 a9 a14 a15 a16 a17=>V [some (dE m e,false),some (.lst Dd,true),a8,a9,v10,some (.lst (eF rl::od),true),some (.tup rows,false),some (x,false),a14,a15,a16,a17]
 -- everyone holds in turn
 obtain⟨ρ2,fr2,a8,a9,a14,a15,a16,a17,rfl⟩:=fB (tg:=tgT [14,9,8,15,16]) (g:=wc) (λk ρ=>∃a8 a9 a14 a15 a16 a17:Option (D×Bool),ρ=W (.lst (cs.map clD)) a8 a9 a14 a15 a16 a17) (cs.map clD)
  (W (.lst (cs.map clD)) v8 v9 none none none none) ⟨_,_,_,_,_,_,rfl⟩ (by
   rintro k d ρ hd ⟨a8,a9,a14,a15,a16,a17,rfl⟩
   rw[List.getElem?_map]at hd
   obtain⟨c,hc,rfl⟩:=oY hd
   have hcm:=List.mem_of_getElem? hc
   obtain⟨hco,hcs1,hcs2,hcu⟩:=hall c hcm
   obtain⟨t2,ht2,ha2⟩:∃t2:Int,(match c.u with|some x=>x|none=>9999) - 1=t2/\bG c t2=true:=by
    refine⟨_,rfl, ?_⟩
    unfold bG
    cases hu:c.u with
    | none=>simp only[Bool.and_true,decide_eq_true_eq];have:S.died=died:=rfl;omega
    | some x =>
     have:=hcu x hu
     simp only[Bool.and_eq_true,decide_eq_true_eq]
     omega
   have ha1:bG c c.s=true:=by
    unfold bG
    cases hu:c.u with
    | none=>simp
    | some x=>have:=hcu x hu;simp[this]
   have hol:∀t,bG c t=true->fF [.tup rows,.int 9999,.str c.o,.int t]=some (.tup [.str "one",.str c.p,.int c.n],false):=λt ht=>by
    rw[hco,eh t,CK hdis (λb hb=>(hall b hb).1) hcm ht,uB]
   obtain⟨ρ3,fr3,b17,rfl⟩:=fB (tg:=tgN 17) (g:=Ai) (λj ρ=>∃b17:Option (D×Bool),ρ=W (.lst (cs.map clD)) (some (.int c.s,false)) (some (.str c.p,false)) (some (.str c.o,false)) (some (uD c.u,false)) (some (.int c.n,false)) b17) [.int c.s,.int t2]
    (W (.lst (cs.map clD)) (some (.int c.s,false)) (some (.str c.p,false)) (some (.str c.o,false)) (some (uD c.u,false)) (some (.int c.n,false)) a17) ⟨a17,rfl⟩ (by
     rintro j d ρ hd ⟨b17,rfl⟩
     obtain⟨t,rfl,ht⟩:∃t:Int,d=.int t/\bG c t=true:=by
      have:=List.mem_of_getElem? hd
      simp only[List.mem_cons,List.not_mem_nil,or_false]at this
      rcases this with h|h
      ·exact⟨_,h,ha1⟩
      ·exact⟨_,h,ha2⟩
     exact⟨_,_,rfl,.inl (lw (aK (b:=false) (aA (b1:=false) (b2:=false) (ai (ds:=[.tup rows,.int 9999,.str c.o,.int t]) rfl (hol t ht)) (ai (ds:=[.str "one",.str c.p,.int c.n]) rfl (bx _ (by simp))) (ne_same (cx (by simp))))) rfl),some (.int t,false),rfl⟩)
   refine⟨_,_,rfl,.inl (iR (ds:=[.int c.s,.int t2]) ?_ fr3),_,_,_,_,_,_,rfl⟩
   show(fA bB _ _).bind _=_
   rw[ai (F:=bB) (ds:=[.int c.s,.int t2]) (ao (b:=false) rfl (ao (d:=.int t2) (b:=false) (aA (x:=.int (match c.u with|some x=>x|none=>9999)) (y:=.int 1) (b1:=false) (b2:=false) ?_ rfl (by rw[←ht2];simp)) rfl)) (dO _ (by simp))]
   ·rfl
   ·cases hu:c.u with
    | none=>exact aA (x:=.lst [.int 9999,.non]) (y:=.int 0) (b1:=true) (b2:=false) (ai (ds:=[.int 9999,.non]) rfl (dO _ (by simp))) (ai (ds:=[.bl false]) rfl rfl) (by simp[at0])
    | some x=>exact aA (x:=.lst [.int 9999,.int x]) (y:=.int 1) (b1:=true) (b2:=false) (ai (ds:=[.int 9999,.int x]) rfl (dO _ (by simp))) (ai (ds:=[.bl true]) rfl rfl) (by simp[at1]))
 have cel:∀(k:Nat) (ρ:DL.Env) (f:FE),ag 0 ρ=some (.lst (ns.map .int),false)->f ρ=some (.int k,false)->fA aJ (ae (ag 0) (ae f ak)) ρ=some (.int (ns.getD k 0),false):=λk ρ f h1 h2=>ai (ds:=[.lst (ns.map .int),.int k]) (ao h1 (ao h2 rfl)) (dZ ns k)
 have ln0a:atI (aM m e es) 0=some (ln0 m e):=at0 _ _
 have i0:∀ρ:DL.Env,ρ[3]? = some (some (.lst (aM m e es),false))->f2 ixD (ag 3) (fC (.int 0)) ρ=some (ln0 m e,false):=λρ q=>by simp[q,ln0a]
 have hnone:alL cs ("crown" : Str) (e.s*m - 1)=[]:=List.filter_eq_nil_iff.mpr λc hc q=>by
  rw[Bool.and_eq_true]at q
  have q2:=q.2
  unfold bG at q2
  rw[Bool.and_eq_true]at q2
  have h1:=of_decide_eq_true q2.1
  have h2:e.s*m<=c.s:=(hall c hc).2.1
  omega
 refine⟨false,aB rfl (cb (ds:=zs.map .str) ?_ (iz zs) (aU (d:=.int m) (b:=false) ?_ rfl (cb (ds:=aM m e es) ?_ (qA _ _ _) (cM (ρ':=V [none,none,none,none,none,none,none,none,none,none,none,none]) ?_ (aU (d:=dE m e) (b:=false) ?_ rfl (cb (ds:=[dE m e]) ?_ rfl (cM (ρ':=V [some (dE m e,false),some (.lst Dd,true),v8,v9,v10,none,none,none,none,none,none,none]) ?_ (cb (ds:=od) ?_ (bF λd hd=>hodf d (mZ _ hd)) (cb (ds:=eF rl::od) ?_ (bF hodf) (aU (d:=.tup rows) (b:=false) ?_ ?_ (cb (ds:=cs.map clD) ?_ (fH cs) (bD (ly (p:=false) (q:=false) (aK (b:=false) ?_) λ_=>aK (b:=false) ?_) (bD (aK (b:=false) ?_) (cM (ρ':=W (.lst (cs.map clD)) a8 a9 a14 a15 a16 a17) ?_ (aR rfl)))))))))))))))⟩
 ·refine ai (ds:=[.int (ns.getD 1 0),.int many]) (ao (cel 1 _ _ rfl rfl) (ao (d:=.int many) (b:=false) (aA (x:=.int 2) (y:=.int (ns.getD 0 0 % 5)) (b1:=false) (b2:=false) rfl (aA (x:=.int (ns.getD 0 0)) (y:=.int 5) (b1:=false) (b2:=false) (cel 0 _ _ rfl rfl) rfl (by simp)) (by simp only[bI,hmany])) rfl)) hz
 ·exact aA (x:=.lst (([1,190]:List Int).map .int)) (y:=.int (ns.getD 0 0 / 5 % 2)) (b1:=true) (b2:=false) (by simp[sizeLine]) (aA (x:=.int (ns.getD 0 0 / 5)) (y:=.int 2) (b1:=false) (b2:=false) (aA (x:=.int (ns.getD 0 0)) (y:=.int 5) (b1:=false) (b2:=false) (cel 0 _ _ rfl rfl) rfl (by simp)) rfl (by simp)) em
 ·exact ai (ds:=[.lst (ns.map .int),.lst (zs.map .str),.int m]) rfl hline
 ·have he:∀ρ:DL.Env,ρ[0]? = some (some (.lst (ns.map .int),false))->ρ[3]? = some (some (.lst (aM m e es),true))->ρ[2]? = some (some (.int m,false))->fA kh (ae (ag 0) (ae (ag 3) (ae (ag 2) ak))) ρ=some (.tup [.lst L,iE w died],false):=λρ q0 q3 q2=>ai (ds:=[.lst (ns.map .int),.lst (aM m e es),.int m]) (by simp[q0,q2,q3]) hend
  unfold ig
  rw[he _ rfl rfl rfl]
  show(df [4,5] [.lst L,iE w died] (if aV [.lst L,iE w died]=true then _ else _)).map _=_
  rw[if_neg (by simp)]
  rfl
 ·exact aA (x:=.tup [.str "named",.int (e.d*m),.str "crown"]) (y:=.tup [.str e.p]) (b1:=false) (b2:=false) (aA (x:=ln0 m e) (y:=.int 2) (b1:=false) (b2:=false) (i0 _ rfl) rfl (by simp[ln0,at2])) (ai (ds:=[.str e.p]) (ao (b:=false) (aA (x:=ln0 m e) (y:=.int 1) (b1:=false) (b2:=false) (i0 _ rfl) rfl (by simp[ln0,at1])) rfl) (bx _ (by simp))) (if_pos (c:=4<=sizeLine) (e:=none) (bv (by decide)))
 ·exact ai (ds:=[dE m e]) rfl (dO _ (by simp))
 ·show mE (cQ (fSl (ag 3) (dF (fC (.int 1))) eu)) (tgT [8,9,10]) wb (V [some (dE m e,false),some (.lst [dE m e],true),none,none,none,none,none,none,none,none,none,none])=_
  refine iR (ds:=es.map (ln1 m)) ?_ fr1
  have hcut:ib (aM m e es) (some ((1:Nat):Int)) none=es.map (ln1 m):=by rw[uI (by simp[aM])];rfl
  show(some (D.lst (ib (aM m e es) (some 1) none),true)).bind _=_
  rw[show ib (aM m e es) (some 1) none=es.map (ln1 m)from hcut]
  rfl
 ·have add:∀ {f g:FE}{ρ:DL.Env}{a b:List D}{x y:Bool},f ρ=some (.lst a,x)->g ρ=some (.lst b,y)->a.length+b.length<=100->f2 bI f g ρ=some (.lst (a++b),true):=λh1 h2 hl=>aA h1 h2 (if_pos (bv (by omega)))
  refine ai (ds:=[.lst (ns.map .int),.lst ds]) (ao (b:=false) rfl (ao (b:=true) (add (add (add (a:=Dd) (b:=L) (x:=false) (y:=false) rfl rfl (by omega)) (ai (ds:=[.lst (ns.map .int),.lst (aM m e es),.int m]) rfl hnot) (by simp;omega)) (ai (ds:=[.lst (ns.map .int),.lst (aM m e es),.int m]) rfl hlost) (by simp;omega)) rfl)) hlaid
 ·refine aA (x:=.lst [eF rl]) (y:=.lst od) (b1:=true) (b2:=false) (ai (ds:=[eF rl]) (ao (b:=false) (ai (ds:=[.str "root",.str "crown",.int 255,.int 9,.str rl]) (ao (b:=false) rfl (ao (b:=false) rfl (ao (b:=false) rfl (ao (b:=false) rfl (ao (b:=false) (aA (x:=.lst (([("open" : Str),("first" : Str),("last" : Str)]:List Str).map .str)) (y:=.int (ns.getD 2 0 % 3)) (b1:=true) (b2:=false) (by simp[sizeLine]) (aA (x:=.int (ns.getD 2 0)) (y:=.int 3) (b1:=false) (b2:=false) (cel 2 _ _ rfl rfl) rfl (by simp)) erl) rfl))))) (bx _ (by simp))) rfl) (dO _ (by simp))) rfl (if_pos (bv (by rw[List.length_singleton];omega)))
 ·have hc:=xo (fi:=cQ (ag 11)) (nT:=1) (cap:=[]) (tg:=tgN 0) (fe:=fA aP (ae (fC (.int 9999)) (ae (ag 0) ak))) (ρ:=V [some (dE m e,false),some (.lst Dd,true),v8,v9,v10,some (.lst (eF rl::od),true),none,none,none,none,none,none]) (eF rl::od) id bV (by simp[V]) (by simp;omega) λd _=>⟨_,rfl,false,ai (ds:=[.int 9999,d]) rfl (bx _ (by simp))⟩
  exact ai (ds:=[.lst rows]) (ao hc rfl) rfl
 ·have:aV rows=true:=bF λr hr=>(hrc r hr).1.rp.flat
  simp[this]
 ·exact ai (ds:=[.lst (aM m e es),iE w died,.lst (eF rl::od),.int m]) rfl hdue
 ·exact aA (b1:=true) (b2:=false) (ai (ds:=[.tup rows,.int 9999]) rfl c1.1) rfl (ne_same (cpl cs))
 ·exact aA (x:=.lst []) (y:=.lst []) (b1:=true) (b2:=true) (ai (ds:=[.tup rows,.int 9998]) rfl c0) (by simp[sizeLine]) (by simp)
 ·refine aA (x:=.tup [.str "none"]) (y:=.tup [.str "none"]) (b1:=false) (b2:=false) (ai (ds:=[.tup rows,.int 9999,.str "crown",.int (e.s*m - 1)]) (ao (b:=false) rfl (ao (b:=false) rfl (ao (b:=false) rfl (ao (b:=false) (aA (x:=.int (e.s*m)) (y:=.int 1) (b1:=false) (b2:=false) (aA (x:=.int e.s) (y:=.int m) (b1:=false) (b2:=false) (aA (x:=ln0 m e) (y:=.int 0) (b1:=false) (b2:=false) (i0 _ rfl) rfl (by simp[ln0,at0])) rfl (gW hm _)) rfl (by simp)) rfl)))) (by rw[eh,hnone];rfl)) (ai (ds:=[.str "none"]) rfl (bx _ (by simp))) (ne_same (cx (by simp)))
 ·show mE (cQ (ag 13)) (tgT [14,9,8,15,16]) wc (W (.lst (cs.map clD)) v8 v9 none none none none)=_
  exact iR (ds:=cs.map clD) rfl fr2
end Lw
namespace Lw
open PySem PySem.Spec PyProof.Rows L2 DL
theorem gl {X:Cx}{es:List Expr}{g:FA}{i:Int}{j:Nat}{pos:Pos}(hr:JA X es g):JA X (.Constant (.int i) j pos::es) (ae (fC (.int i)) g):=ac ar hr
def top (i:Nat):Stmt:=PySem.Challenge.pw_sealchain_k19_whole_chosen_one_behind_an.main.body.getD i (.Pass ⟨0,0,0,0⟩)
structure Tx (K:PySem.W.Frag) (P:Params) (mg:Str->Option Value):Prop where
 n_dict:mg "dict" = none
 n_enumerate:mg "enumerate" = none
 n_int:mg "int" = none
 n_len:mg "len" = none
 n_max:mg "max" = none
 n_min:mg "min" = none
 n_range:mg "range" = none
 n_set:mg "set" = none
 n_sorted:mg "sorted" = none
 n_tuple:mg "tuple" = none
 k_PARTS:∃d,mg "PARTS" = some (.ref d)/\pJ K P d fT
 k_SEALINGS:∃u v,mg "SEALINGS" = some u/\aY v u/\∀B,Is K B v dL
section
variable {P:Program}{w:World}{K:PySem.W.Frag}{mg:Str->Option Value}{base h:Heap}
abbrev lJ:Stmt:=top 4
theorem oF:FnScope ["row"] ["row"] (aw lJ):=by refine⟨rfl,rfl,rfl, ?_,rfl, ?_, ?_⟩<;>decide +kernel
theorem ww (T:Tx K w.params mg) (F:Def K "word_of" lJ) (KX:K.In h) (G:h.Ns mainGlobals mg)  : Fn P w K mg base 1 "word_of" aO :=
 F.fn (k:=0) KX G oF (λ_ _ _ _ _ _ us hl=>match us,hl with|[_],_=>rfl) λf cdv A outer s H E hr =>
  have hu:=cr hr
  have nd:=oF.nd
  (show JSs _ _ qe from
   (ay (aQ (aE (aE (af 0) ar) ar))))
abbrev lK:Stmt:=top 5
theorem oG:FnScope ["row","part"] ["row","part"] (aw lK):=by refine⟨rfl,rfl,rfl, ?_,rfl, ?_, ?_⟩<;>decide +kernel
theorem wx (T:Tx K w.params mg) (F:Def K "part_of" lK) (KX:K.In h) (G:h.Ns mainGlobals mg) (f_word_of:Fn P w K mg base 1 "word_of" aO):Fn P w K mg base 2 "part_of" au :=
 F.fn (k:=1) KX G oG (λ_ _ _ _ _ _ us hl=>match us,hl with|[_,_],_=>rfl) λf cdv A outer s H E hr =>
  have hu:=cr hr
  have nd:=oG.nd
  (show JSs _ _ qg from
   (ay (aQ (aE (aE (af 0) ar) (a7 bg ar (B4 T.k_PARTS (aq f_word_of (hr.mono (by decide)) (ac (af 0) ah)) (af 1)))))))
abbrev oH:Stmt:=top 6
theorem qD:FnScope ["row"] ["row"] (aw oH):=by refine⟨rfl,rfl,rfl, ?_,rfl, ?_, ?_⟩<;>decide +kernel
theorem yE (T:Tx K w.params mg) (F:Def K "day_of" oH) (KX:K.In h) (G:h.Ns mainGlobals mg) (f_word_of:Fn P w K mg base 1 "word_of" aO) (f_part_of:Fn P w K mg base 2 "part_of" au):Fn P w K mg base 3 "day_of" aX :=
 F.fn (k:=2) KX G qD (λ_ _ _ _ _ _ us hl=>match us,hl with|[_],_=>rfl) λf cdv A outer s H E hr =>
  have hu:=cr hr
  have nd:=qD.nd
  (show JSs _ _ uj from
   (am (ce (ba (eS hu) (aq f_word_of (hr.mono (by decide)) (ac (af 0) ah)) av) (ay (aQ cX)) bO)
   (ay (aQ (aq f_part_of (hr.mono (by decide)) (ac (af 0) (ac av ah)))))))
abbrev se:Stmt:=top 8
theorem uK:FnScope ["book","known"] ["book","known"] (aw se):=by refine⟨rfl,rfl,rfl, ?_,rfl, ?_, ?_⟩<;>decide +kernel
theorem A4 (T:Tx K w.params mg) (F:Def K "heard" se) (KX:K.In h) (G:h.Ns mainGlobals mg)  : Fn P w K mg base 1 "heard" c9 :=
 F.fn (k:=0) KX G uK (λ_ _ _ _ _ _ us hl=>match us,hl with|[_,_],_=>rfl) λf cdv A outer s H E hr =>
  have hu:=cr hr
  have nd:=uK.nd
  (show JSs _ _ xq from
   (ay (aQ (eR rfl (nT:=2) (cap:=[1]) (N':=["number","row","known"]) (dH (by decide +kernel) rfl (by decide +kernel) rfl) (.cons rfl rfl (Or.inl rfl) (Or.inl rfl) (bM (by decide +kernel) rfl) (.nil rfl)) (Bv T.n_enumerate (af 0)) (λ_ _ _ _=>(uZ rfl (bq (aL (i:=0) (show List.Nodup (α:=Str) ["number","row","known"] by decide +kernel) rfl (Or.inl rfl)) (bq (aL (i:=1) (show List.Nodup (α:=Str) ["number","row","known"] by decide +kernel) rfl (Or.inl rfl)) fN)))) (Fm (by decide)) (λ_ _ _ _=>(gF (ba t4 (aE (af 1) ar) (af 2)))) (λ_ _ _ _=>(af 0))))))
abbrev wy:Stmt:=top 10
theorem xJ:FnScope ["book","number"] ["book","number"] (aw wy):=by refine⟨rfl,rfl,rfl, ?_,rfl, ?_, ?_⟩<;>decide +kernel
theorem BX (T:Tx K w.params mg) (F:Def K "rank" wy) (KX:K.In h) (G:h.Ns mainGlobals mg) (f_day_of:Fn P w K mg base 3 "day_of" aX):Fn P w K mg base 4 "rank" dn :=
 F.fn (k:=3) KX G xJ (λ_ _ _ _ _ _ us hl=>match us,hl with|[_,_],_=>rfl) λf cdv A outer s H E hr =>
  have hu:=cr hr
  have nd:=xJ.nd
  (show JSs _ _ Ah from
   (ay (aQ (aN (ac (aq f_day_of (hr.mono (by decide)) (ac (aE (af 0) (af 1)) ah)) (ac (af 1) ah))))))
abbrev j5:Stmt:=top 11
theorem mt:FnScope ["book","known","dated"] ["book","known"] (aw j5):=by refine⟨rfl,rfl,rfl, ?_,rfl, ?_, ?_⟩<;>decide +kernel
theorem uL (T:Tx K w.params mg) (F:Def K "in_order" j5) (KX:K.In h) (G:h.Ns mainGlobals mg) (f_day_of:Fn P w K mg base 3 "day_of" aX) (f_heard:Fn P w K mg base 1 "heard" c9) (f_rank:Fn P w K mg base 4 "rank" dn) (l_in_order:rE K "in_order"):Fn P w K mg base 8 "in_order" dM :=
 F.fnL (k:=7) KX G mt (λ_ _ _ _ _ _ us hl=>match us,hl with|[_,_],_=>rfl) λf cdv A outer s H E hcd hr =>
  have hu:=cr hr
  have nd:=mt.nd
  (show JSs _ _ nW from
   (am (mJ (i:=2) rfl nd rfl rfl rfl (nT:=1) (cap:=[0]) (N':=["number","book"]) (dH (by decide +kernel) rfl (by decide +kernel) rfl) (.cons rfl rfl (Or.inl rfl) (Or.inl rfl) (bM (by decide +kernel) rfl) (.nil rfl)) (cZ (aq f_heard (hr.mono (by decide)) (ac (af 0) (ac (af 1) ah)))) (λ_ _ _ _=>(aL (i:=0) (show List.Nodup (α:=Str) ["number","book"] by decide +kernel) rfl (Or.inl rfl))) (cB (by decide)) (λ_ _ _ _=>(gF (ba jL (aq f_day_of (hr.mono (by decide)) (ac (aE (af 1) (af 0)) ah)) cX))) (λ_ _ _ _=>(af 0)))
   (ay (aQ (ud T.n_sorted (af 2) (vT (cap:=[0]) (N':=["number","book"]) (by decide +kernel) l_in_order hcd rfl rfl (zS (by decide +kernel) rfl rfl rfl rfl rfl) rfl (.cons rfl rfl (Or.inl rfl) rfl (bM (by decide +kernel) rfl) (.nil rfl)) rfl hr.in1.in1 (λ_ _ _ _=>rfl) λ_ _ _ _ hr=>have hu:=cr hr;(aq f_rank (hr.mono (by decide)) (ac (af 1) (ac (af 0) ah)))))))))
abbrev iF:Stmt:=top 23
theorem kF:FnScope ["claim"] ["claim"] (aw iF):=by refine⟨rfl,rfl,rfl, ?_,rfl, ?_, ?_⟩<;>decide +kernel
theorem sf (T:Tx K w.params mg) (F:Def K "by_office" iF) (KX:K.In h) (G:h.Ns mainGlobals mg)  : Fn P w K mg base 1 "by_office" dv :=
 F.fn (k:=0) KX G kF (λ_ _ _ _ _ _ us hl=>match us,hl with|[_],_=>rfl) λf cdv A outer s H E hr =>
  have hu:=cr hr
  have nd:=kF.nd
  (show JSs _ _ lU from
   (ay (aQ (aN (ac (aE (af 0) ar) (ac (aE (af 0) ar) (ac (aE (af 0) ar) ah)))))))
abbrev sg:Stmt:=top 12
theorem uM:FnScope ["book","known","known_rows"] ["book","known"] (aw sg):=by refine⟨rfl,rfl,rfl, ?_,rfl, ?_, ?_⟩<;>decide +kernel
theorem A5 (T:Tx K w.params mg) (F:Def K "roots" sg) (KX:K.In h) (G:h.Ns mainGlobals mg) (f_word_of:Fn P w K mg base 1 "word_of" aO) (f_part_of:Fn P w K mg base 2 "part_of" au) (f_heard:Fn P w K mg base 1 "heard" c9):Fn P w K mg base 3 "roots" fU :=
 F.fn (k:=2) KX G uM (λ_ _ _ _ _ _ us hl=>match us,hl with|[_,_],_=>rfl) λf cdv A outer s H E hr =>
  have hu:=cr hr
  have nd:=uM.nd
  (show JSs _ _ xr from
   (am (mJ (i:=2) rfl nd rfl rfl rfl (nT:=1) (cap:=[0]) (N':=["number","book"]) (dH (by decide +kernel) rfl (by decide +kernel) rfl) (.cons rfl rfl (Or.inl rfl) (Or.inl rfl) (bM (by decide +kernel) rfl) (.nil rfl)) (cZ (aq f_heard (hr.mono (by decide)) (ac (af 0) (ac (af 1) ah)))) (λ_ _ _ _=>(aL (i:=0) (show List.Nodup (α:=Str) ["number","book"] by decide +kernel) rfl (Or.inl rfl))) (cB (by decide)) (λ_ _ _ _=>qW) (λ_ _ _ _=>(aE (af 1) (af 0))))
   (ay (aQ (kY (DV rfl) T.n_dict DU (ac (eR rfl (nT:=1) (cap:=[]) (N':=["row"]) (dH (by decide +kernel) rfl (by decide +kernel) rfl) (.nil rfl) (cZ (af 2)) (λ_ _ _ _=>(aL (i:=0) (show List.Nodup (α:=Str) ["row"] by decide +kernel) rfl (Or.inl rfl))) (cB (by decide)) (λ_ _ _ _=>(gF (ba (eS hu) (aq f_word_of (hr.mono (by decide)) (ac (af 0) ah)) av))) (λ_ _ _ _=>(aN (ac (aq f_part_of (hr.mono (by decide)) (ac (af 0) (ac av ah))) (ac (af 0) ah))))) ah))))))
abbrev j6:Stmt:=top 9
theorem mv:FnScope ["book","known","number"] ["book","known","number"] (aw j6):=by refine⟨rfl,rfl,rfl, ?_,rfl, ?_, ?_⟩<;>decide +kernel
theorem uN (T:Tx K w.params mg) (F:Def K "is_known" j6) (KX:K.In h) (G:h.Ns mainGlobals mg)  : Fn P w K mg base 1 "is_known" fD :=
 F.fn (k:=0) KX G mv (λ_ _ _ _ _ _ us hl=>match us,hl with|[_,_,_],_=>rfl) λf cdv A outer s H E hr =>
  have hu:=cr hr
  have nd:=mv.nd
  (show JSs _ _ nX from
   (ay (aQ (kT (zq t4 tz ar (af 2) (bQ eN T.n_len eP (ac (af 0) ah))) (kU (eG t4 (aE (aE (af 0) (af 2)) ar) (af 1)))))))
abbrev si:Stmt:=top 15
theorem uO:FnScope ["row","words","person","day"] ["row","words","person","day"] (aw si):=by refine⟨rfl,rfl,rfl, ?_,rfl, ?_, ?_⟩<;>decide +kernel
theorem A6 (T:Tx K w.params mg) (F:Def K "tells" si) (KX:K.In h) (G:h.Ns mainGlobals mg) (f_word_of:Fn P w K mg base 1 "word_of" aO) (f_part_of:Fn P w K mg base 2 "part_of" au) (f_day_of:Fn P w K mg base 3 "day_of" aX):Fn P w K mg base 4 "tells" jX :=
 F.fn (k:=3) KX G uO (λ_ _ _ _ _ _ us hl=>match us,hl with|[_,_,_,_],_=>rfl) λf cdv A outer s H E hr =>
  have hu:=cr hr
  have nd:=uO.nd
  (show JSs _ _ xu from
   (ay (aQ (kT (eG Ff (aq f_word_of (hr.mono (by decide)) (ac (af 0) ah)) (af 1)) (kT (eG (eS hu) (aq f_part_of (hr.mono (by decide)) (ac (af 0) (ac av ah))) (af 2)) (kU (eG t4 (aq f_day_of (hr.mono (by decide)) (ac (af 0) ah)) (af 3))))))))
abbrev lL:Stmt:=top 16
theorem oJ:FnScope ["book","known","words","person","day"] ["book","known","words","person","day"] (aw lL):=by refine⟨rfl,rfl,rfl, ?_,rfl, ?_, ?_⟩<;>decide +kernel
theorem wz (T:Tx K w.params mg) (F:Def K "told_of" lL) (KX:K.In h) (G:h.Ns mainGlobals mg) (f_heard:Fn P w K mg base 1 "heard" c9) (f_tells:Fn P w K mg base 4 "tells" jX):Fn P w K mg base 5 "told_of" cR :=
 F.fn (k:=4) KX G oJ (λ_ _ _ _ _ _ us hl=>match us,hl with|[_,_,_,_,_],_=>rfl) λf cdv A outer s H E hr =>
  have hu:=cr hr
  have nd:=oJ.nd
  (show JSs _ _ qh from
   (ay (aQ (eR rfl (nT:=1) (cap:=[2,3,4,0]) (N':=["number","words","person","day","book"]) (dH (by decide +kernel) rfl (by decide +kernel) rfl) (.cons rfl rfl (Or.inl rfl) (Or.inl rfl) (bM (by decide +kernel) rfl) (.cons rfl rfl (Or.inl rfl) (Or.inl rfl) (bM (by decide +kernel) rfl) (.cons rfl rfl (Or.inl rfl) (Or.inl rfl) (bM (by decide +kernel) rfl) (.cons rfl rfl (Or.inl rfl) (Or.inl rfl) (bM (by decide +kernel) rfl) (.nil rfl))))) (cZ (aq f_heard (hr.mono (by decide)) (ac (af 0) (ac (af 1) ah)))) (λ_ _ _ _=>(aL (i:=0) (show List.Nodup (α:=Str) ["number","words","person","day","book"] by decide +kernel) rfl (Or.inl rfl))) (cB (by decide)) (λ_ _ _ _=>(gF (jp (aq f_tells (hr.mono (by decide)) (ac (aE (af 4) (af 0)) (ac (af 1) (ac (af 2) (ac (af 3) ah)))))))) (λ_ _ _ _=>(af 0))))))
abbrev sj:Stmt:=top 17
theorem uP:FnScope ["book","known","person","day"] ["book","known","person","day"] (aw sj):=by refine⟨rfl,rfl,rfl, ?_,rfl, ?_, ?_⟩<;>decide +kernel
theorem A7 (T:Tx K w.params mg) (F:Def K "lives" sj) (KX:K.In h) (G:h.Ns mainGlobals mg) (f_told_of:Fn P w K mg base 5 "told_of" cR):Fn P w K mg base 6 "lives" gL :=
 F.fn (k:=5) KX G uP (λ_ _ _ _ _ _ us hl=>match us,hl with|[_,_,_,_],_=>rfl) λf cdv A outer s H E hr =>
  have hu:=cr hr
  have nd:=uP.nd
  (show JSs _ _ xw from
   (ay (aQ (eG (eS hu) (bQ eN T.n_len eP (ac (aq f_told_of (hr.mono (by decide)) (ac (af 0) (ac (af 1) (ac (aN (ac av ah)) (ac (af 2) (ac (af 3) ah)))))) ah)) ar))))
abbrev j7:Stmt:=top 18
theorem mw:FnScope ["book","known","person","day","told"] ["book","known","person","day"] (aw j7):=by refine⟨rfl,rfl,rfl, ?_,rfl, ?_, ?_⟩<;>decide +kernel
theorem uQ (T:Tx K w.params mg) (F:Def K "has_seal" j7) (KX:K.In h) (G:h.Ns mainGlobals mg) (f_word_of:Fn P w K mg base 1 "word_of" aO) (f_rank:Fn P w K mg base 4 "rank" dn) (f_told_of:Fn P w K mg base 5 "told_of" cR) (l_has_seal:rE K "has_seal"):Fn P w K mg base 8 "has_seal" gM :=
 F.fnL (k:=7) KX G mw (λ_ _ _ _ _ _ us hl=>match us,hl with|[_,_,_,_],_=>rfl) λf cdv A outer s H E hcd hr =>
  have hu:=cr hr
  have nd:=mw.nd
  (show JSs _ _ nY from
   (am (aC (i:=4) nd (aq f_told_of (hr.mono (by decide)) (ac (af 0) (ac (af 1) (ac (aN (ac av (ac av ah))) (ac (af 2) (ac (af 3) ah)))))))
   (am (ce (ba (eS hu) (bQ eN T.n_len eP (ac (af 4) ah)) ar) (ay (aQ jJ)) bO)
   (ay (aQ (eG (eS hu) (aq f_word_of (hr.mono (by decide)) (ac (aE (af 0) (ue mmx T.n_max (af 4) (vT (cap:=[0]) (N':=["number","book"]) (by decide +kernel) l_has_seal hcd rfl rfl (zS (by decide +kernel) rfl rfl rfl rfl rfl) rfl (.cons rfl rfl (Or.inl rfl) rfl (bM (by decide +kernel) rfl) (.nil rfl)) rfl hr.in1 (λ_ _ _ _=>rfl) λ_ _ _ _ hr=>have hu:=cr hr;(aq f_rank (hr.mono (by decide)) (ac (af 1) (ac (af 0) ah)))) hr)) ah)) av))))))
abbrev j8:Stmt:=top 19
theorem mz:FnScope ["book","known","number","sealer","day"] ["book","known","number"] (aw j8):=by refine⟨rfl,rfl,rfl, ?_,rfl, ?_, ?_⟩<;>decide +kernel
theorem uR (T:Tx K w.params mg) (F:Def K "is_sound" j8) (KX:K.In h) (G:h.Ns mainGlobals mg) (f_word_of:Fn P w K mg base 1 "word_of" aO) (f_part_of:Fn P w K mg base 2 "part_of" au) (f_day_of:Fn P w K mg base 3 "day_of" aX) (f_is_known:Fn P w K mg base 1 "is_known" fD) (f_lives:Fn P w K mg base 6 "lives" gL) (f_has_seal:Fn P w K mg base 8 "has_seal" gM):Fn P w K mg base 9 "is_sound" gN :=
 F.fn (k:=8) KX G mz (λ_ _ _ _ _ _ us hl=>match us,hl with|[_,_,_],_=>rfl) λf cdv A outer s H E hr =>
  have hu:=cr hr
  have nd:=mz.nd
  (show JSs _ _ nZ from
   (am (ce (qY (pF (vy (jp (aq f_is_known (hr.mono (by decide)) (ac (af 0) (ac (af 1) (ac (af 2) ah)))))) (ni (ba nv (aq f_word_of (hr.mono (by decide)) (ac (aE (af 0) (af 2)) ah)) (zx T.k_SEALINGS))))) (ay (aQ jJ)) bO)
   (am (aC (i:=3) nd (aq f_part_of (hr.mono (by decide)) (ac (aE (af 0) (af 2)) (ac av ah))))
   (am (aC (i:=4) nd (aq f_day_of (hr.mono (by decide)) (ac (aE (af 0) (af 2)) ah)))
   (ay (aQ (kT (aq f_lives (hr.mono (by decide)) (ac (af 0) (ac (af 1) (ac (af 3) (ac (af 4) ah))))) (kU (aq f_has_seal (hr.mono (by decide)) (ac (af 0) (ac (af 1) (ac (af 3) (ac (af 4) ah)))))))))))))
abbrev lM:Stmt:=top 1
theorem oK:FnScope ["day","stretch"] ["day","stretch"] (aw lM):=by refine⟨rfl,rfl,rfl, ?_,rfl, ?_, ?_⟩<;>decide +kernel
theorem w4 (T:Tx K w.params mg) (F:Def K "lies_in" lM) (KX:K.In h) (G:h.Ns mainGlobals mg)  : Fn P w K mg base 1 "lies_in" iS :=
 F.fn (k:=0) KX G oK (λ_ _ _ _ _ _ us hl=>match us,hl with|[_,_],_=>rfl) λf cdv A outer s H E hr =>
  have hu:=cr hr
  have nd:=oK.nd
  (show JSs _ _ qi from
   (ay (aQ (kT (eG t4 (aE (af 1) ar) (af 0)) (kU (EY (eG DF (aE (af 1) ar) cX) (kU (eG tz (af 0) (aE (af 1) ar)))))))))
abbrev j9:Stmt:=top 21
theorem m6:FnScope ["claim","day"] ["claim","day"] (aw j9):=by refine⟨rfl,rfl,rfl, ?_,rfl, ?_, ?_⟩<;>decide +kernel
theorem uS (T:Tx K w.params mg) (F:Def K "is_alive" j9) (KX:K.In h) (G:h.Ns mainGlobals mg) (f_lies_in:Fn P w K mg base 1 "lies_in" iS):Fn P w K mg base 2 "is_alive" bE :=
 F.fn (k:=1) KX G m6 (λ_ _ _ _ _ _ us hl=>match us,hl with|[_,_],_=>rfl) λf cdv A outer s H E hr =>
  have hu:=cr hr
  have nd:=m6.nd
  (show JSs _ _ oe from
   (ay (aQ (aq f_lies_in (hr.mono (by decide)) (ac (af 1) (ac (aN (ac (aE (af 0) ar) (ac (aE (af 0) ar) ah))) ah))))))
abbrev jA:Stmt:=top 22
theorem m8:FnScope ["claim"] ["claim"] (aw jA):=by refine⟨rfl,rfl,rfl, ?_,rfl, ?_, ?_⟩<;>decide +kernel
theorem uT (T:Tx K w.params mg) (F:Def K "by_since" jA) (KX:K.In h) (G:h.Ns mainGlobals mg)  : Fn P w K mg base 1 "by_since" bX :=
 F.fn (k:=0) KX G m8 (λ_ _ _ _ _ _ us hl=>match us,hl with|[_],_=>rfl) λf cdv A outer s H E hr =>
  have hu:=cr hr
  have nd:=m8.nd
  (show JSs _ _ oh from
   (ay (aQ (aN (ac (aE (af 0) ar) (ac (aE (af 0) ar) ah))))))
abbrev jB:Stmt:=top 24
theorem mB:FnScope ["alive","rule"] ["alive","rule"] (aw jB):=by refine⟨rfl,rfl,rfl, ?_,rfl, ?_, ?_⟩<;>decide +kernel
theorem uU (T:Tx K w.params mg) (F:Def K "chief_of" jB) (KX:K.In h) (G:h.Ns mainGlobals mg) (f_by_since:Fn P w K mg base 1 "by_since" bX):Fn P w K mg base 5 "chief_of" gO :=
 F.fn (k:=4) KX G mB (λ_ _ _ _ _ _ us hl=>match us,hl with|[_,_],_=>rfl) λf cdv A outer s H E hr =>
  have hu:=cr hr
  have nd:=mB.nd
  (show JSs _ _ oi from
   (am (ce (ba (eS hu) (af 1) av) (ay (aQ (aE (ue mmx T.n_max (af 0) (xg f_by_since (hr.in1.mono (by decide)) rfl) hr) ar))) bO)
   (ay (aQ (aE (ue mmn T.n_min (af 0) (xg f_by_since (hr.in1.mono (by decide)) rfl) hr) ar)))))
abbrev iG:Stmt:=top 25
theorem kG:FnScope ["claimed","root","day","alive","people","person","oldest"] ["claimed","root","day"] (aw iG):=by refine⟨rfl,rfl,rfl, ?_,rfl, ?_, ?_⟩<;>decide +kernel
theorem sk (T:Tx K w.params mg) (F:Def K "holder_by" iG) (KX:K.In h) (G:h.Ns mainGlobals mg) (f_part_of:Fn P w K mg base 2 "part_of" au) (f_is_alive:Fn P w K mg base 2 "is_alive" bE) (f_by_since:Fn P w K mg base 1 "by_since" bX) (f_chief_of:Fn P w K mg base 5 "chief_of" gO):Fn P w K mg base 6 "holder_by" c6 :=
 F.fn (k:=5) KX G kG (λ_ _ _ _ _ _ us hl=>match us,hl with|[_,_,_],_=>rfl) λf cdv A outer s H E hr =>
  have hu:=cr hr
  have nd:=kG.nd
  (show JSs _ _ lV from
   (am (mJ (i:=3) rfl nd rfl rfl rfl (nT:=1) (cap:=[2,1]) (N':=["claim","day","root"]) (dH (by decide +kernel) rfl (by decide +kernel) rfl) (.cons rfl rfl (Or.inl rfl) (Or.inl rfl) (bM (by decide +kernel) rfl) (.cons rfl rfl (Or.inl rfl) (Or.inl rfl) (bM (by decide +kernel) rfl) (.nil rfl))) (cZ (af 0)) (λ_ _ _ _=>(aL (i:=0) (show List.Nodup (α:=Str) ["claim","day","root"] by decide +kernel) rfl (Or.inl rfl))) (cB (by decide)) (λ_ _ _ _=>(gF (qY (qX (ba (eS hu) (aE (af 0) ar) (aq f_part_of (hr.mono (by decide)) (ac (af 2) (ac av ah)))) (mK (jp (aq f_is_alive (hr.mono (by decide)) (ac (af 0) (ac (af 1) ah))))))))) (λ_ _ _ _=>(af 0)))
   (am (aC (i:=4) nd (nH rfl T.n_sorted T.n_set (eR rfl (nT:=1) (cap:=[]) (N':=["claim"]) (dH (by decide +kernel) rfl (by decide +kernel) rfl) (.nil rfl) (cZ (af 3)) (λ_ _ _ _=>(aL (i:=0) (show List.Nodup (α:=Str) ["claim"] by decide +kernel) rfl (Or.inl rfl))) (cB (by decide)) (λ_ _ _ _=>qW) (λ_ _ _ _=>(aE (af 0) ar)))))
   (am (ce (ba (eS hu) (bQ eN T.n_len eP (ac (af 4) ah)) ar) (ay (aQ (aN (ac av ah)))) bO)
   (am (ce (qY (qX (ba Bm (bQ eN T.n_len eP (ac (af 4) ah)) ar) (mK (ba (eS hu) (aq f_part_of (hr.mono (by decide)) (ac (af 1) (ac av ah))) av)))) (ay (aQ (aN (ac av (ac (af 4) ah))))) bO)
   (am (aC (i:=5) nd (aq f_chief_of (hr.mono (by decide)) (ac (af 3) (ac (aq f_part_of (hr.mono (by decide)) (ac (af 1) (ac av ah))) ah))))
   (am (aC (i:=6) nd (ue mmn T.n_min (eR rfl (nT:=1) (cap:=[5]) (N':=["claim","person"]) (dH (by decide +kernel) rfl (by decide +kernel) rfl) (.cons rfl rfl (Or.inl rfl) (Or.inl rfl) (bM (by decide +kernel) rfl) (.nil rfl)) (cZ (af 3)) (λ_ _ _ _=>(aL (i:=0) (show List.Nodup (α:=Str) ["claim","person"] by decide +kernel) rfl (Or.inl rfl))) (cB (by decide)) (λ_ _ _ _=>(gF (ba (eS hu) (aE (af 0) ar) (af 1)))) (λ_ _ _ _=>(af 0))) (xg f_by_since (hr.in1.mono (by decide)) rfl) hr))
   (ay (aQ (aN (ac av (ac (af 5) (ac (aE (af 6) ar) ah)))))))))))))
abbrev gS:Stmt:=top 26
theorem jn:FnScope ["claimed","root","person","day"] ["claimed","root","person","day"] (aw gS):=by refine⟨rfl,rfl,rfl, ?_,rfl, ?_, ?_⟩<;>decide +kernel
theorem pv (T:Tx K w.params mg) (F:Def K "is_held_by" gS) (KX:K.In h) (G:h.Ns mainGlobals mg) (f_holder_by:Fn P w K mg base 6 "holder_by" c6):Fn P w K mg base 7 "is_held_by" d6 :=
 F.fn (k:=6) KX G jn (λ_ _ _ _ _ _ us hl=>match us,hl with|[_,_,_,_],_=>rfl) λf cdv A outer s H E hr =>
  have hu:=cr hr
  have nd:=jn.nd
  (show JSs _ _ jY from
   (ay (aQ (eG (eS hu) (de (aq f_holder_by (hr.mono (by decide)) (ac (af 0) (ac (af 1) (ac (af 3) ah)))) dU (dW ar)) (aN (ac av (ac (af 2) ah)))))))
abbrev dS:Stmt:=top 27
theorem gb:FnScope ["book","known","number","row","deaths"] ["book","known","number"] (aw dS):=by refine⟨rfl,rfl,rfl, ?_,rfl, ?_, ?_⟩<;>decide +kernel
theorem kH (T:Tx K w.params mg) (F:Def K "is_first_death" dS) (KX:K.In h) (G:h.Ns mainGlobals mg) (f_part_of:Fn P w K mg base 2 "part_of" au) (f_day_of:Fn P w K mg base 3 "day_of" aX) (f_rank:Fn P w K mg base 4 "rank" dn) (f_told_of:Fn P w K mg base 5 "told_of" cR) (l_is_first_death:rE K "is_first_death"):Fn P w K mg base 8 "is_first_death" cS :=
 F.fnL (k:=7) KX G gb (λ_ _ _ _ _ _ us hl=>match us,hl with|[_,_,_],_=>rfl) λf cdv A outer s H E hcd hr =>
  have hu:=cr hr
  have nd:=gb.nd
  (show JSs _ _ gy from
   (am (aC (i:=3) nd (aE (af 0) (af 2)))
   (am (aC (i:=4) nd (aq f_told_of (hr.mono (by decide)) (ac (af 0) (ac (af 1) (ac (aN (ac av ah)) (ac (aq f_part_of (hr.mono (by decide)) (ac (af 3) (ac av ah))) (ac (aq f_day_of (hr.mono (by decide)) (ac (af 3) ah)) ah)))))))
   (ay (aQ (eG (eS hu) (ue mmn T.n_min (af 4) (vT (cap:=[0]) (N':=["each","book"]) (by decide +kernel) l_is_first_death hcd rfl rfl (zS (by decide +kernel) rfl rfl rfl rfl rfl) rfl (.cons rfl rfl (Or.inl rfl) rfl (bM (by decide +kernel) rfl) (.nil rfl)) rfl hr.in1 (λ_ _ _ _=>rfl) λ_ _ _ _ hr=>have hu:=cr hr;(aq f_rank (hr.mono (by decide)) (ac (af 1) (ac (af 0) ah)))) hr) (af 2)))))))
abbrev oM:Stmt:=top 28
theorem qE:FnScope ["book","known","so_far","number","row","root"] ["book","known","so_far","number"] (aw oM):=by refine⟨rfl,rfl,rfl, ?_,rfl, ?_, ?_⟩<;>decide +kernel
theorem yF (T:Tx K w.params mg) (F:Def K "counts" oM) (KX:K.In h) (G:h.Ns mainGlobals mg) (f_word_of:Fn P w K mg base 1 "word_of" aO) (f_part_of:Fn P w K mg base 2 "part_of" au) (f_day_of:Fn P w K mg base 3 "day_of" aX) (f_roots:Fn P w K mg base 3 "roots" fU) (f_is_sound:Fn P w K mg base 9 "is_sound" gN) (f_is_held_by:Fn P w K mg base 7 "is_held_by" d6) (f_is_first_death:Fn P w K mg base 8 "is_first_death" cS):Fn P w K mg base 10 "counts" iu :=
 F.fn (k:=9) KX G qE (λ_ _ _ _ _ _ us hl=>match us,hl with|[_,_,_,_],_=>rfl) λf cdv A outer s H E hr =>
  have hu:=cr hr
  have nd:=qE.nd
  (show JSs _ _ ul from
   (am (aC (i:=4) nd (aE (af 0) (af 3)))
   (am (ce (ba (eS hu) (aq f_word_of (hr.mono (by decide)) (ac (af 4) ah)) av) (ay (aQ (aq f_is_first_death (hr.mono (by decide)) (ac (af 0) (ac (af 1) (ac (af 3) ah)))))) bO)
   (am (ce (ba nv (aq f_word_of (hr.mono (by decide)) (ac (af 4) ah)) (aN (ac av (ac av (ac av ah))))) (ay (aQ jJ)) bO)
   (am (aC (i:=5) nd (ug (hu1 hu) (aq f_roots (hr.mono (by decide)) (ac (af 0) (ac (af 1) ah))) (aq f_part_of (hr.mono (by decide)) (ac (af 4) (ac av ah))) ⟨rfl,rfl,rfl,rfl⟩))
   (am (ce (ba DF (af 5) cX) (ay (aQ jJ)) bO)
   (am (ce (ba (eS hu) (aq f_word_of (hr.mono (by decide)) (ac (af 4) ah)) av) (ay (aQ jJ)) bO)
   (ay (aQ (kT (aq f_is_sound (hr.mono (by decide)) (ac (af 0) (ac (af 1) (ac (af 3) ah)))) (kU (aq f_is_held_by (hr.mono (by decide)) (ac (af 2) (ac (af 5) (ac (aq f_part_of (hr.mono (by decide)) (ac (af 4) (ac av ah))) (ac (aq f_day_of (hr.mono (by decide)) (ac (af 4) ah)) ah))))))))))))))))
abbrev iH:Stmt:=top 29
theorem kI:FnScope ["row","since","number"] ["row","since","number"] (aw iH):=by refine⟨rfl,rfl,rfl, ?_,rfl, ?_, ?_⟩<;>decide +kernel
theorem sn (T:Tx K w.params mg) (F:Def K "new_claim" iH) (KX:K.In h) (G:h.Ns mainGlobals mg) (f_part_of:Fn P w K mg base 2 "part_of" au):Fn P w K mg base 3 "new_claim" cN :=
 F.fn (k:=2) KX G kI (λ_ _ _ _ _ _ us hl=>match us,hl with|[_,_,_],_=>rfl) λf cdv A outer s H E hr =>
  have hu:=cr hr
  have nd:=kI.nd
  (show JSs _ _ lW from
   (ay (aQ (aN (ac (aq f_part_of (hr.mono (by decide)) (ac (af 0) (ac av ah))) (ac (aq f_part_of (hr.mono (by decide)) (ac (af 0) (ac av ah))) (ac (af 1) (ac cX (ac (af 2) ah)))))))))
abbrev sr:Stmt:=top 30
theorem uV:FnScope ["so_far","offices","person","day","left","claim"] ["so_far","offices","person","day"] (aw sr):=by refine⟨rfl,rfl,rfl, ?_,rfl, ?_, ?_⟩<;>decide +kernel
theorem A8 (T:Tx K w.params mg) (F:Def K "ended" sr) (KX:K.In h) (G:h.Ns mainGlobals mg) (f_is_alive:Fn P w K mg base 2 "is_alive" bE):Fn P w K mg base 3 "ended" iT :=
 F.fn (k:=2) KX G uV (λ_ _ _ _ _ _ us hl=>match us,hl with|[_,_,_,_],_=>rfl) λf cdv A outer s H E hr =>
  have hu:=cr hr
  have nd:=uV.nd
  (show JSs _ _ xy from
   (am (aC (i:=4) nd (bA ah))
   (am (kX PassesOwn.never rfl (cZ (af 0)) (aL (i:=5) nd rfl (Or.inl rfl)) d3 (ay (ce (qY (pF (ba nv (aE (af 5) ar) (af 1)) (pF (ba (zv hu) (aE (af 5) ar) (af 2)) (ni (vy (qY (pF (jp (aq f_is_alive (hr.mono (by decide)) (ac (af 5) (ac (af 3) ah)))) (ni (ba Bm (aE (af 5) ar) (af 3)))))))))) (ay (eI (i:=4) (af 5))) (ay (ce (ba tz (aE (af 5) ar) (af 3)) (ay (eI (i:=4) (aN (ac (aE (af 5) ar) (ac (af 2) (ac (aE (af 5) ar) (ac (af 3) (ac (aE (af 5) ar) ah)))))))) bO)))))
   (ay (gG 4)))))
abbrev fK:Stmt:=top 31
theorem gX:FnScope ["so_far","row","number","since","left"] ["so_far","row","number"] (aw fK):=by refine⟨rfl,rfl,rfl, ?_,rfl, ?_, ?_⟩<;>decide +kernel
theorem mI (T:Tx K w.params mg) (F:Def K "after_choice" fK) (KX:K.In h) (G:h.Ns mainGlobals mg) (f_part_of:Fn P w K mg base 2 "part_of" au) (f_new_claim:Fn P w K mg base 3 "new_claim" cN) (f_ended:Fn P w K mg base 3 "ended" iT):Fn P w K mg base 4 "after_choice" d7 :=
 F.fn (k:=3) KX G gX (λ_ _ _ _ _ _ us hl=>match us,hl with|[_,_,_],_=>rfl) λf cdv A outer s H E hr =>
  have hu:=cr hr
  have nd:=gX.nd
  (show JSs _ _ iw from
   (am (aC (i:=3) nd (aq f_part_of (hr.mono (by decide)) (ac (af 1) (ac av ah))))
   (am (aC (i:=4) nd (aq f_ended (hr.mono (by decide)) (ac (af 0) (ac (bA (ac (aq f_part_of (hr.mono (by decide)) (ac (af 1) (ac av ah))) ah)) (ac (aq f_part_of (hr.mono (by decide)) (ac (af 1) (ac av ah))) (ac (af 3) ah))))))
   (ay (aQ (a7 bg (af 4) (bA (ac (aq f_new_claim (hr.mono (by decide)) (ac (af 1) (ac (af 3) (ac (af 2) ah)))) ah))))))))
abbrev iI:Stmt:=top 32
theorem kJ:FnScope ["book","known","so_far","heirs","number","person","day","told","office","heir"] ["book","known","so_far","heirs","number"] (aw iI):=by refine⟨rfl,rfl,rfl, ?_,rfl, ?_, ?_⟩<;>decide +kernel
theorem su (T:Tx K w.params mg) (F:Def K "inherited" iI) (KX:K.In h) (G:h.Ns mainGlobals mg) (f_part_of:Fn P w K mg base 2 "part_of" au) (f_day_of:Fn P w K mg base 3 "day_of" aX) (f_lives:Fn P w K mg base 6 "lives" gL) (f_is_alive:Fn P w K mg base 2 "is_alive" bE):Fn P w K mg base 7 "inherited" fV :=
 F.fn (k:=6) KX G kJ (λ_ _ _ _ _ _ us hl=>match us,hl with|[_,_,_,_,_],_=>rfl) λf cdv A outer s H E hr =>
  have hu:=cr hr
  have nd:=kJ.nd
  (show JSs _ _ lX from
   (am (aC (i:=5) nd (aq f_part_of (hr.mono (by decide)) (ac (aE (af 0) (af 4)) (ac av ah))))
   (am (aC (i:=6) nd (aq f_day_of (hr.mono (by decide)) (ac (aE (af 0) (af 4)) ah)))
   (am (aC (i:=7) nd (bA ah))
   (am (wR [5,6] (kX PassesOwn.never rfl (cZ (nH rfl T.n_sorted T.n_set (eR rfl (nT:=1) (cap:=[5,6]) (N':=["claim","person","day"]) (dH (by decide +kernel) rfl (by decide +kernel) rfl) (.cons rfl rfl (Or.inl rfl) (Or.inl rfl) (bM (by decide +kernel) rfl) (.cons rfl rfl (Or.inl rfl) (Or.inl rfl) (bM (by decide +kernel) rfl) (.nil rfl))) (cZ (af 2)) (λ_ _ _ _=>(aL (i:=0) (show List.Nodup (α:=Str) ["claim","person","day"] by decide +kernel) rfl (Or.inl rfl))) (cB (by decide)) (λ_ _ _ _=>(gF (qY (qX (ba (eS hu) (aE (af 0) ar) (af 1)) (mK (jp (aq f_is_alive (hr.mono (by decide)) (ac (af 0) (ac (af 2) ah))))))))) (λ_ _ _ _=>(aE (af 0) ar))))) (aL (i:=8) nd rfl (Or.inl rfl)) d3 (am (aC (i:=9) nd (Ac (hu1 hu) (af 3) (ac (af 8) (ac (af 5) ah)) ⟨rfl,rfl,rfl,rfl⟩))
   (ay (ce (qY (qX (ba jL (af 9) cX) (mK (jp (aq f_lives (hr.mono (by decide)) (ac (af 0) (ac (af 1) (ac (af 9) (ac (af 6) ah))))))))) (ay (eI (i:=7) (aN (ac (af 8) (ac (af 9) (ac (af 6) (ac cX (ac (af 4) ah)))))))) bO)))))
   (ay (gG 7)))))))
abbrev gm:Stmt:=top 33
theorem iJ:FnScope ["book","known","so_far","heirs","number","offices","left"] ["book","known","so_far","heirs","number"] (aw gm):=by refine⟨rfl,rfl,rfl, ?_,rfl, ?_, ?_⟩<;>decide +kernel
theorem oN (T:Tx K w.params mg) (F:Def K "after_death" gm) (KX:K.In h) (G:h.Ns mainGlobals mg) (f_part_of:Fn P w K mg base 2 "part_of" au) (f_day_of:Fn P w K mg base 3 "day_of" aX) (f_ended:Fn P w K mg base 3 "ended" iT) (f_inherited:Fn P w K mg base 7 "inherited" fV):Fn P w K mg base 8 "after_death" dY :=
 F.fn (k:=7) KX G iJ (λ_ _ _ _ _ _ us hl=>match us,hl with|[_,_,_,_,_],_=>rfl) λf cdv A outer s H E hr =>
  have hu:=cr hr
  have nd:=iJ.nd
  (show JSs _ _ jl from
   (am (mJ (i:=5) rfl nd rfl rfl rfl (nT:=1) (cap:=[]) (N':=["claim"]) (dH (by decide +kernel) rfl (by decide +kernel) rfl) (.nil rfl) (cZ (af 2)) (λ_ _ _ _=>(aL (i:=0) (show List.Nodup (α:=Str) ["claim"] by decide +kernel) rfl (Or.inl rfl))) (cB (by decide)) (λ_ _ _ _=>qW) (λ_ _ _ _=>(aE (af 0) ar)))
   (am (aC (i:=6) nd (aq f_ended (hr.mono (by decide)) (ac (af 2) (ac (af 5) (ac (aq f_part_of (hr.mono (by decide)) (ac (aE (af 0) (af 4)) (ac av ah))) (ac (aq f_day_of (hr.mono (by decide)) (ac (aE (af 0) (af 4)) ah)) ah))))))
   (ay (aQ (a7 bg (af 6) (aq f_inherited (hr.mono (by decide)) (ac (af 0) (ac (af 1) (ac (af 2) (ac (af 3) (ac (af 4) ah))))))))))))
abbrev oP:Stmt:=top 34
theorem qF:FnScope ["book","known","so_far","heirs","number","row"] ["book","known"] (aw oP):=by refine⟨rfl,rfl,rfl, ?_,rfl, ?_, ?_⟩<;>decide +kernel
theorem yG (T:Tx K w.params mg) (F:Def K "claims" oP) (KX:K.In h) (G:h.Ns mainGlobals mg) (f_word_of:Fn P w K mg base 1 "word_of" aO) (f_part_of:Fn P w K mg base 2 "part_of" au) (f_day_of:Fn P w K mg base 3 "day_of" aX) (f_in_order:Fn P w K mg base 8 "in_order" dM) (f_by_office:Fn P w K mg base 1 "by_office" dv) (f_counts:Fn P w K mg base 10 "counts" iu) (f_new_claim:Fn P w K mg base 3 "new_claim" cN) (f_after_choice:Fn P w K mg base 4 "after_choice" d7) (f_after_death:Fn P w K mg base 8 "after_death" dY):Fn P w K mg base 11 "claims" fE :=
 F.fn (k:=10) KX G qF (λ_ _ _ _ _ _ us hl=>match us,hl with|[_,_],_=>rfl) λf cdv A outer s H E hr =>
  have hu:=cr hr
  have nd:=qF.nd
  (show JSs _ _ um from
   (am (aC (i:=2) nd (bA ah))
   (am (BC (i:=3) nd)
   (am (kX PassesOwn.never rfl (cZ (aq f_in_order (hr.mono (by decide)) (ac (af 0) (ac (af 1) ah)))) (aL (i:=4) nd rfl (Or.inl rfl)) d3 (am (aC (i:=5) nd (aE (af 0) (af 4)))
   (am (ce (vy (jp (aq f_counts (hr.mono (by decide)) (ac (af 0) (ac (af 1) (ac (af 2) (ac (af 4) ah))))))) (ay Bs) bO)
   (ay (ce (ba (eS hu) (aq f_word_of (hr.mono (by decide)) (ac (af 5) ah)) av) (ay (aC (i:=2) nd (a7 bg (af 2) (bA (ac (aq f_new_claim (hr.mono (by decide)) (ac (af 5) (ac (aq f_day_of (hr.mono (by decide)) (ac (af 5) ah)) (ac (af 4) ah)))) ah))))) (ay (ce (ba (eS hu) (aq f_word_of (hr.mono (by decide)) (ac (af 5) ah)) av) (ay (aC (i:=2) nd (aq f_after_choice (hr.mono (by decide)) (ac (af 2) (ac (af 5) (ac (af 4) ah)))))) (ay (ce (ba (eS hu) (aq f_word_of (hr.mono (by decide)) (ac (af 5) ah)) av) (ay (BD (i:=3) (hu1 hu) (aq f_part_of (hr.mono (by decide)) (ac (af 5) (ac av ah))) (ac (aq f_part_of (hr.mono (by decide)) (ac (af 5) (ac av ah))) (ac (aq f_part_of (hr.mono (by decide)) (ac (af 5) (ac av ah))) ah)))) (ay (aC (i:=2) nd (aq f_after_death (hr.mono (by decide)) (ac (af 0) (ac (af 1) (ac (af 2) (ac (af 3) (ac (af 4) ah)))))))))))))))))
   (ay (aQ (ud T.n_sorted (af 2) (xg f_by_office (hr.in1.in1.mono (by decide)) rfl))))))))
abbrev oQ:Stmt:=top 35
theorem qG:FnScope ["book","known","office","day","root"] ["book","known","office","day"] (aw oQ):=by refine⟨rfl,rfl,rfl, ?_,rfl, ?_, ?_⟩<;>decide +kernel
theorem yH (T:Tx K w.params mg) (F:Def K "holder" oQ) (KX:K.In h) (G:h.Ns mainGlobals mg) (f_roots:Fn P w K mg base 3 "roots" fU) (f_holder_by:Fn P w K mg base 6 "holder_by" c6) (f_claims:Fn P w K mg base 11 "claims" fE):Fn P w K mg base 12 "holder" fF :=
 F.fn (k:=11) KX G qG (λ_ _ _ _ _ _ us hl=>match us,hl with|[_,_,_,_],_=>rfl) λf cdv A outer s H E hr =>
  have hu:=cr hr
  have nd:=qG.nd
  (show JSs _ _ uo from
   (am (aC (i:=4) nd (ug (hu1 hu) (aq f_roots (hr.mono (by decide)) (ac (af 0) (ac (af 1) ah))) (af 2) ⟨rfl,rfl,rfl,rfl⟩))
   (am (ce (ba DF (af 4) cX) (ay (aQ (aN (ac av ah)))) bO)
   (ay (aQ (aq f_holder_by (hr.mono (by decide)) (ac (aq f_claims (hr.mono (by decide)) (ac (af 0) (ac (af 1) ah))) (ac (af 4) (ac (af 3) ah)))))))))
abbrev iK:Stmt:=top 37
theorem kK:FnScope ["_law_script","_law_k"] ["_law_script","_law_k"] (aw iK):=by refine⟨rfl,rfl,rfl, ?_,rfl, ?_, ?_⟩<;>decide +kernel
theorem sv (T:Tx K w.params mg) (F:Def K "_law_cell_at" iK) (KX:K.In h) (G:h.Ns mainGlobals mg)  : Fn P w K mg base 1 "_law_cell_at" aJ :=
 F.fn (k:=0) KX G kK (λ_ _ _ _ _ _ us hl=>match us,hl with|[_,_],_=>rfl) λf cdv A outer s H E hr =>
  have hu:=cr hr
  have nd:=kK.nd
  (show JSs _ _ lY from
   (am (ce (ba tz (af 1) (bQ eN T.n_len eP (ac (af 0) ah))) (ay (aQ (aE (af 0) (af 1)))) bO)
   (ay (aQ ar))))
abbrev lN:Stmt:=top 38
theorem oR:FnScope ["_law_cell","_law_many","_law_size","_law_base","_law_at","_law_names_here","_law_k","_law_letter"] ["_law_cell","_law_many"] (aw lN):=by refine⟨rfl,rfl,rfl, ?_,rfl, ?_, ?_⟩<;>decide +kernel
theorem w6 (T:Tx K w.params mg) (F:Def K "_law_names" lN) (KX:K.In h) (G:h.Ns mainGlobals mg)  : Fn P w K mg base 1 "_law_names" iV :=
 F.fn (k:=0) KX G oR (λ_ _ _ _ _ _ us hl=>match us,hl with|[_,_],_=>rfl) λf cdv A outer s H E hr =>
  have hu:=cr hr
  have nd:=oR.nd
  (show JSs _ _ qj from
   (am (aC (i:=2) nd (a7 bg ar (a7 cF (af 0) ar)))
   (am (aC (i:=3) nd (de av dU (dW (af 2))))
   (am (aC (i:=4) nd (a7 cF (a7 dI (af 0) ar) (af 2)))
   (am (aC (i:=5) nd (bA ah))
   (am (jK PassesOwn.never rfl (gs T.n_range (af 1)) (aL (i:=6) nd rfl (Or.inl rfl)) d3 (am (aC (i:=7) nd (aE av (a7 cF (a7 bg (a7 dI (af 0) ar) (a7 cI ar (af 6))) ar)))
   (ay (eI (i:=5) (a7 bg (a7 bg (de (af 3) dU (dW (af 4))) (af 7)) (de (af 3) (dW (a7 bg (af 4) ar)) dU))))))
   (ay (gG 5))))))))
abbrev oS:Stmt:=top 39
theorem qH:FnScope ["_law_script","_law_names_here","_law_measure","_law_day","_law_line_here","_law_k","_law_cell","_law_seals","_law_by"] ["_law_script","_law_names_here","_law_measure"] (aw oS):=by refine⟨rfl,rfl,rfl, ?_,rfl, ?_, ?_⟩<;>decide +kernel
theorem yI (T:Tx K w.params mg) (F:Def K "_law_line" oS) (KX:K.In h) (G:h.Ns mainGlobals mg) (f_w_cell_at:Fn P w K mg base 1 "_law_cell_at" aJ):Fn P w K mg base 2 "_law_line" jZ :=
 F.fn (k:=1) KX G qH (λ_ _ _ _ _ _ us hl=>match us,hl with|[_,_,_],_=>rfl) λf cdv A outer s H E hr =>
  have hu:=cr hr
  have nd:=qH.nd
  (show JSs _ _ uq from
   (am (aC (i:=3) nd (a7 bg ar (a7 cF (aq f_w_cell_at (hr.mono (by decide)) (ac (af 0) (gl ah))) ar)))
   (am (aC (i:=4) nd (bA (ac (aN (ac (af 3) (ac (aE (af 1) (a7 cF (a7 dI (aq f_w_cell_at (hr.mono (by decide)) (ac (af 0) (gl ah))) ar) (bQ eN T.n_len eP (ac (af 1) ah)))) (ac (aN (ac av (ac (a7 cI (af 3) (af 2)) (ac av ah)))) ah)))) ah)))
   (am (jK PassesOwn.never rfl (gs T.n_range (a7 cF (aq f_w_cell_at (hr.mono (by decide)) (ac (af 0) (gl ah))) ar)) (aL (i:=5) nd rfl (Or.inl rfl)) d3 (am (aC (i:=6) nd (aq f_w_cell_at (hr.mono (by decide)) (ac (af 0) (ac (a7 bg ar (af 5)) ah))))
   (am (aC (i:=7) nd (a7 bg (a7 bg (af 3) ar) (a7 cF (af 6) ar)))
   (am (aC (i:=3) nd (a7 bg (af 7) (a7 cF (a7 dI (af 6) ar) ar)))
   (am (aC (i:=8) nd (aE (aE (af 4) (ng nq ar)) ar))
   (ay (eI (i:=4) (aN (ac (af 3) (ac (aE (af 1) (a7 cF (a7 dI (af 6) ar) (bQ eN T.n_len eP (ac (af 1) ah)))) (ac (aN (ac av (ac (a7 cI (af 7) (af 2)) (ac (af 8) (ac av ah))))) ah)))))))))))
   (ay (gG 4))))))
abbrev iL:Stmt:=top 40
theorem kL:FnScope ["_law_script","_law_line_here","_law_measure","_law_rows","_law_k","_law_cell","_law_day","_law_since","_law_person","_law_deed","_law_some"] ["_law_script","_law_line_here","_law_measure"] (aw iL):=by refine⟨rfl,rfl,rfl, ?_,rfl, ?_, ?_⟩<;>decide +kernel
theorem sw (T:Tx K w.params mg) (F:Def K "_law_nothing" iL) (KX:K.In h) (G:h.Ns mainGlobals mg) (f_w_cell_at:Fn P w K mg base 1 "_law_cell_at" aJ):Fn P w K mg base 2 "_law_nothing" fW :=
 F.fn (k:=1) KX G kL (λ_ _ _ _ _ _ us hl=>match us,hl with|[_,_,_],_=>rfl) λf cdv A outer s H E hr =>
  have hu:=cr hr
  have nd:=kL.nd
  (show JSs _ _ lZ from
   (am (aC (i:=3) nd (bA ah))
   (am (jK PassesOwn.never rfl (gs T.n_range (a7 cF (aq f_w_cell_at (hr.mono (by decide)) (ac (af 0) (gl ah))) ar)) (aL (i:=4) nd rfl (Or.inl rfl)) d3 (am (aC (i:=5) nd (aq f_w_cell_at (hr.mono (by decide)) (ac (af 0) (ac (a7 bg ar (af 4)) ah))))
   (am (aC (i:=6) nd (a7 cI (a7 cF (a7 dI (af 5) ar) ar) (af 2)))
   (am (jM (is:=[7,8,9]) (aE (af 1) (a7 cF (a7 dI (af 5) ar) (bQ eN T.n_len eP (ac (af 1) ah)))) (n6 rfl (bq (aL (i:=7) nd rfl (Or.inl rfl)) (bq (aL (i:=8) nd rfl (Or.inl rfl)) (bq (aL (i:=9) nd rfl (Or.inl rfl)) fN)))))
   (am (aC (i:=10) nd (bA (ac (aN (ac av (ac (af 6) (ac av (ac av (ac (af 8) (ac (af 6) ah))))))) (ac (aN (ac av (ac (af 6) (ac av (ac av (ac (af 8) ah)))))) ah))))
   (am (aC (i:=10) nd (a7 bg (af 10) (bA (ac (aN (ac av (ac (af 6) (ac av ah)))) (ac (aN (ac av (ac (af 6) (ac av (ac (af 8) ah))))) ah)))))
   (am (aC (i:=10) nd (a7 bg (af 10) (bA (ac (aN (ac av (ac (af 6) (ac (af 8) (ac av (ac av (ac (af 6) ah))))))) (ac (aN (ac av (ac (af 6) (ac (af 8) (ac av (ac av ah)))))) ah)))))
   (ay (eI (i:=3) (aE (a7 bg (af 10) (bA (ac (aN (ac av (ac (af 6) (ac av ah)))) (ac (aN (ac av (ac (af 6) (ac av ah)))) ah)))) (a7 cF (af 5) ar)))))))))))
   (ay (gG 3)))))
abbrev sx:Stmt:=top 41
theorem uW:FnScope ["_law_script","_law_line_here","_law_measure","_law_cell","_law_since","_law_person","_law_deed","_law_way","_law_died","_law_rows"] ["_law_script","_law_line_here","_law_measure"] (aw sx):=by refine⟨rfl,rfl,rfl, ?_,rfl, ?_, ?_⟩<;>decide +kernel
theorem A9 (T:Tx K w.params mg) (F:Def K "_law_end" sx) (KX:K.In h) (G:h.Ns mainGlobals mg) (f_w_cell_at:Fn P w K mg base 1 "_law_cell_at" aJ):Fn P w K mg base 2 "_law_end" kh :=
 F.fn (k:=1) KX G uW (λ_ _ _ _ _ _ us hl=>match us,hl with|[_,_,_],_=>rfl) λf cdv A outer s H E hr =>
  have hu:=cr hr
  have nd:=uW.nd
  (show JSs _ _ rN from
   (am (aC (i:=3) nd (aq f_w_cell_at (hr.mono (by decide)) (ac (af 0) (gl ah))))
   (am (jM (is:=[4,5,6]) (aE (af 1) (ng nq ar)) (n6 rfl (bq (aL (i:=4) nd rfl (Or.inl rfl)) (bq (aL (i:=5) nd rfl (Or.inl rfl)) (bq (aL (i:=6) nd rfl (Or.inl rfl)) fN)))))
   (am (aC (i:=7) nd (a7 cF (af 3) ar))
   (am (ce (ba (eS hu) (af 7) ar) (ay (aQ (aN (ac (bA ah) (ac cX ah))))) bO)
   (am (aC (i:=8) nd (a7 cI (a7 bg (a7 bg (af 4) ar) (a7 cF (a7 dI (af 3) ar) ar)) (af 2)))
   (am (aC (i:=9) nd (bA (ac (aN (ac av (ac (a7 cI (a7 bg (af 4) ar) (af 2)) (ac (af 5) (ac av (ac av ah)))))) ah)))
   (am (eI (i:=9) (aN (ac av (ac (a7 cI (a7 bg (af 4) ar) (af 2)) (ac (af 5) (ac av (ac av ah)))))))
   (am (eI (i:=9) (aN (ac av (ac (af 8) (ac (af 5) ah)))))
   (am (ce (ba (eS hu) (af 7) ar) (am (aC (i:=9) nd (de (af 9) (dW ar) dU))
   (ay (aQ (aN (ac (af 9) (ac (aN (ac (af 8) (ac cX ah))) ah)))))) bO)
   (am (ce (ba (eS hu) (af 7) ar) (am (eI (i:=9) (aN (ac av (ac (a7 wG (af 8) (a7 cI (a7 cF (a7 dI (af 3) ar) ar) (af 2))) (ac av ah)))))
   (ay (aQ (aN (ac (af 9) (ac (aN (ac (af 8) (ac cX ah))) ah)))))) bO)
   (ay (aQ (aN (ac (af 9) (ac (aN (ac (af 8) (ac av ah))) ah))))))))))))))))
abbrev oU:Stmt:=top 42
theorem qI:FnScope ["_law_script","_law_line_here","_law_measure","_law_cell","_law_since","_law_person","_law_deed","_law_day","_law_rows"] ["_law_script","_law_line_here","_law_measure"] (aw oU):=by refine⟨rfl,rfl,rfl, ?_,rfl, ?_, ?_⟩<;>decide +kernel
theorem yJ (T:Tx K w.params mg) (F:Def K "_law_lost" oU) (KX:K.In h) (G:h.Ns mainGlobals mg) (f_w_cell_at:Fn P w K mg base 1 "_law_cell_at" aJ):Fn P w K mg base 2 "_law_lost" ki :=
 F.fn (k:=1) KX G qI (λ_ _ _ _ _ _ us hl=>match us,hl with|[_,_,_],_=>rfl) λf cdv A outer s H E hr =>
  have hu:=cr hr
  have nd:=qI.nd
  (show JSs _ _ ur from
   (am (aC (i:=3) nd (aq f_w_cell_at (hr.mono (by decide)) (ac (af 0) (gl ah))))
   (am (jM (is:=[4,5,6]) (aE (af 1) (ng nq ar)) (n6 rfl (bq (aL (i:=4) nd rfl (Or.inl rfl)) (bq (aL (i:=5) nd rfl (Or.inl rfl)) (bq (aL (i:=6) nd rfl (Or.inl rfl)) fN)))))
   (am (ce (qY (pF (ba Bm (a7 cF (af 3) ar) ar) (ni (ba Bm (a7 cF (aq f_w_cell_at (hr.mono (by decide)) (ac (af 0) (gl ah))) ar) ar)))) (ay (aQ (bA ah))) bO)
   (am (aC (i:=7) nd (a7 bg (a7 bg (af 4) ar) (a7 cF (a7 dI (af 3) ar) ar)))
   (am (aC (i:=8) nd (bA (ac (aN (ac av (ac (a7 cI (a7 wG (af 7) ar) (af 2)) (ac (af 5) ah)))) (ac (aN (ac av (ac (a7 cI (af 7) (af 2)) (ac (af 5) (ac av (ac av (ac (a7 cI (af 7) (af 2)) ah))))))) ah))))
   (ay (aQ (a7 bg (af 8) (bA (ac (aN (ac av (ac (a7 cI (af 7) (af 2)) (ac (af 5) (ac av (ac av ah)))))) (ac (aN (ac av (ac (a7 cI (a7 bg (af 7) ar) (af 2)) (ac (af 5) ah)))) ah))))))))))))
abbrev oV:Stmt:=top 43
theorem qJ:FnScope ["_law_script","_law_deeds","_law_order","_law_k","_law_at"] ["_law_script","_law_deeds"] (aw oV):=by refine⟨rfl,rfl,rfl, ?_,rfl, ?_, ?_⟩<;>decide +kernel
theorem yK (T:Tx K w.params mg) (F:Def K "_law_laid" oV) (KX:K.In h) (G:h.Ns mainGlobals mg) (f_w_cell_at:Fn P w K mg base 1 "_law_cell_at" aJ):Fn P w K mg base 2 "_law_laid" kj :=
 F.fn (k:=1) KX G qJ (λ_ _ _ _ _ _ us hl=>match us,hl with|[_,_],_=>rfl) λf cdv A outer s H E hr =>
  have hu:=cr hr
  have nd:=qJ.nd
  (show JSs _ _ ut from
   (am (aC (i:=2) nd (bA ah))
   (am (jK PassesOwn.never rfl (gs T.n_range (bQ eN T.n_len eP (ac (af 1) ah))) (aL (i:=3) nd rfl (Or.inl rfl)) d3 (am (aC (i:=4) nd (a7 cF (a7 dI (aq f_w_cell_at (hr.mono (by decide)) (ac (af 0) (ac (a7 bg ar (a7 cF (af 3) ar)) ah))) (a7 bg ar (a7 dI (af 3) ar))) (a7 bg (bQ eN T.n_len eP (ac (af 2) ah)) ar)))
   (ay (aC (i:=2) nd (a7 bg (a7 bg (de (af 2) dU (dW (af 4))) (bA (ac (aE (af 1) (af 3)) ah))) (de (af 2) (dW (af 4)) dU))))))
   (ay (gG 2)))))
abbrev sy:Stmt:=top 44
theorem uX:FnScope ["_law_line_here","_law_end_here","_law_order","_law_measure","_law_some","_law_k","_law_since","_law_person","_law_deed","_law_until","_law_number"] ["_law_line_here","_law_end_here","_law_order","_law_measure"] (aw sy):=by refine⟨rfl,rfl,rfl, ?_,rfl, ?_, ?_⟩<;>decide +kernel
theorem AA (T:Tx K w.params mg) (F:Def K "_law_due" sy) (KX:K.In h) (G:h.Ns mainGlobals mg)  : Fn P w K mg base 1 "_law_due" km :=
 F.fn (k:=0) KX G uX (λ_ _ _ _ _ _ us hl=>match us,hl with|[_,_,_,_],_=>rfl) λf cdv A outer s H E hr =>
  have hu:=cr hr
  have nd:=uX.nd
  (show JSs _ _ xz from
   (am (aC (i:=4) nd (bA ah))
   (am (jK PassesOwn.never rfl (gs T.n_range (bQ eN T.n_len eP (ac (af 0) ah))) (aL (i:=5) nd rfl (Or.inl rfl)) d3 (am (jM (is:=[6,7,8]) (aE (af 0) (af 5)) (n6 rfl (bq (aL (i:=6) nd rfl (Or.inl rfl)) (bq (aL (i:=7) nd rfl (Or.inl rfl)) (bq (aL (i:=8) nd rfl (Or.inr rfl)) fN)))))
   (am (aC (i:=9) nd cX)
   (am (ce (ba tz (a7 bg (af 5) ar) (bQ eN T.n_len eP (ac (af 0) ah))) (ay (aC (i:=9) nd (a7 cI (aE (aE (af 0) (a7 bg (af 5) ar)) ar) (af 3)))) bO)
   (am (aC (i:=10) nd (aE (eR rfl (nT:=1) (cap:=[8,2]) (N':=["_law_at","_law_deed","_law_order"]) (dH (by decide +kernel) rfl (by decide +kernel) rfl) (.cons rfl rfl (Or.inl rfl) (Or.inl rfl) (bM (by decide +kernel) rfl) (.cons rfl rfl (Or.inl rfl) (Or.inl rfl) (bM (by decide +kernel) rfl) (.nil rfl))) (t7 T.n_range (bQ eN T.n_len eP (ac (af 2) ah))) (λ_ _ _ _=>(aL (i:=0) (show List.Nodup (α:=Str) ["_law_at","_law_deed","_law_order"] by decide +kernel) rfl (Or.inl rfl))) (cB (by decide)) (λ_ _ _ _=>(gF (ba (eS hu) (de (aE (af 2) (af 0)) dU (dW (bQ eN T.n_len eP (ac (af 1) ah)))) (af 1)))) (λ_ _ _ _=>(af 0))) ar))
   (ay (eI (i:=4) (aN (ac av (ac (af 7) (ac (a7 cI (af 6) (af 3)) (ac (af 9) (ac (af 10) ah)))))))))))))
   (am (ce (ba jL (af 1) cX) (am (aC (i:=10) nd (aE (eR rfl (nT:=1) (cap:=[2,1,0]) (N':=["_law_at","_law_order","_law_end_here","_law_line_here"]) (dH (by decide +kernel) rfl (by decide +kernel) rfl) (.cons rfl rfl (Or.inl rfl) (Or.inl rfl) (bM (by decide +kernel) rfl) (.cons rfl rfl (Or.inl rfl) (Or.inl rfl) (bM (by decide +kernel) rfl) (.cons rfl rfl (Or.inl rfl) (Or.inl rfl) (bM (by decide +kernel) rfl) (.nil rfl)))) (t7 T.n_range (bQ eN T.n_len eP (ac (af 2) ah))) (λ_ _ _ _=>(aL (i:=0) (show List.Nodup (α:=Str) ["_law_at","_law_order","_law_end_here","_law_line_here"] by decide +kernel) rfl (Or.inl rfl))) (cB (by decide)) (λ_ _ _ _=>(gF (ba (eS hu) (aE (af 1) (af 0)) (aN (ac av (ac (aE (af 2) ar) (ac (aE (aE (af 3) (ng nq ar)) ar) ah))))))) (λ_ _ _ _=>(af 0))) ar))
   (am (DN (i:=4) (a7 vW (de (aE (af 4) (ng nq ar)) dU (dW ar)) (aN (ac (aE (af 1) ar) (ac (aE (aE (af 4) (ng nq ar)) ar) ah)))) (ng nq ar))
   (ay (ce (ba jL (aE (af 1) ar) cX) (ay (eI (i:=4) (aN (ac av (ac (aE (af 1) ar) (ac (aE (af 1) ar) (ac cX (ac (af 10) ah)))))))) bO)))) bO)
   (ay (gG 4))))))
abbrev uY:Stmt:=top 45
theorem AB:FnScope ["_law_script","_law_names_here","_law_measure","_law_line_here","_law_rows","_law_end_here","_law_first","_law_deeds","_law_since","_law_person","_law_deed","_law_order","_law_laid_here","_law_due_here","_law_office","_law_until","_law_number","_law_day"] ["_law_script"] (aw uY):=by refine⟨rfl,rfl,rfl, ?_,rfl, ?_, ?_⟩<;>decide +kernel
theorem Eb {P:Program}{w:World}{K:PySem.W.Frag}{mg:Str->Option Value}{base:Heap}(T:Tx K w.params mg) (f_claims:Fn P w K mg base 11 "claims" fE) (f_holder:Fn P w K mg base 12 "holder" fF) (f_w_cell_at:Fn P w K mg base 1 "_law_cell_at" aJ) (f_w_names:Fn P w K mg base 1 "_law_names" iV) (f_w_line:Fn P w K mg base 2 "_law_line" jZ) (f_w_nothing:Fn P w K mg base 2 "_law_nothing" fW) (f_w_end:Fn P w K mg base 2 "_law_end" kh) (f_w_lost:Fn P w K mg base 2 "_law_lost" ki) (f_w_laid:Fn P w K mg base 2 "_law_laid" kj) (f_w_due:Fn P w K mg base 1 "_law_due" km) (f:Addr) (cdv:Value) (A:Around) (outer:List PySem.Env) (s:Shared) (H:Hp) (E:XK) (hr:Room 12 (A.deeper (envOfC "law" (aw uY) s.heap.objs.size f cdv))):JSs (mS CX0 P w K mg base ["_law_script","_law_names_here","_law_measure","_law_line_here","_law_rows","_law_end_here","_law_first","_law_deeds","_law_since","_law_person","_law_deed","_law_order","_law_laid_here","_law_due_here","_law_office","_law_until","_law_number","_law_day"] "law" (aw uY) f cdv A outer s H E).nox (cE uY) Aj :=
  have hu:=cr hr
  have nd:=AB.nd
  (show JSs _ _ Aj from by
   refine am ?_ ?_
   ·exact aC (i:=1) nd (aq f_w_names (hr.mono (by decide)) (ac (aq f_w_cell_at (hr.mono (by decide)) (ac (af 0) (gl ah))) (ac (a7 bg ar (a7 cF (aq f_w_cell_at (hr.mono (by decide)) (ac (af 0) (gl ah))) ar)) ah)))
   refine am ?_ ?_
   ·exact aC (i:=2) nd (aE (bA (gl (gl ah))) (a7 cF (a7 dI (aq f_w_cell_at (hr.mono (by decide)) (ac (af 0) (gl ah))) ar) ar))
   refine am ?_ ?_
   ·exact aC (i:=3) nd (aq f_w_line (hr.mono (by decide)) (ac (af 0) (ac (af 1) (ac (af 2) ah))))
   refine am ?_ ?_
   ·exact jM (is:=[4,5]) (aq f_w_end (hr.mono (by decide)) (ac (af 0) (ac (af 3) (ac (af 2) ah)))) (n6 rfl (bq (aL (i:=4) nd rfl (Or.inl rfl)) (bq (aL (i:=5) nd rfl (Or.inl rfl)) fN)))
   refine am ?_ ?_
   ·exact aC (i:=6) nd (a7 vW (aE (aE (af 3) ar) ar) (aN (ac (aE (aE (af 3) ar) ar) ah)))
   refine am ?_ ?_
   ·exact aC (i:=7) nd (bA (ac (af 6) ah))
   refine am ?_ ?_
   ·exact wR [3] (kX PassesOwn.never rfl (cZ (de (af 3) (dW ar) dU)) (uZ rfl (bq (aL (i:=8) nd rfl (Or.inl rfl)) (bq (aL (i:=9) nd rfl (Or.inl rfl)) (bq (aL (i:=10) nd rfl (Or.inl rfl)) fN)))) C7 (ay (eI (i:=7) (a7 vW (af 10) (aN (ac (af 9) (ac (a7 cI (af 8) (af 2)) ah)))))))
   refine am ?_ ?_
   ·exact aC (i:=11) nd (aq f_w_laid (hr.mono (by decide)) (ac (af 0) (ac (a7 bg (a7 bg (a7 bg (af 7) (af 4)) (aq f_w_nothing (hr.mono (by decide)) (ac (af 0) (ac (af 3) (ac (af 2) ah))))) (aq f_w_lost (hr.mono (by decide)) (ac (af 0) (ac (af 3) (ac (af 2) ah))))) ah)))
   refine am ?_ ?_
   ·refine @aC _ _ _ 11 _ _ _ nd ?_ rfl (by first|exact Or.inl rfl|exact Or.inr rfl) rfl (by first|exact .inl rfl|exact .inr rfl);refine @a7 _ _ _ _ _ _ _ _ bg ?_ (af 11);refine @bA _ _ _ _ ?_;refine @ac _ _ _ _ _ ?_ ah rfl;refine @aN _ _ _ _ _ ?_;refine @ac _ _ _ _ _ av ?_ rfl;refine @ac _ _ _ _ _ av ?_ rfl;refine gl ?_;refine gl ?_;refine @ac _ _ _ _ _ ?_ ah rfl;refine @aE _ _ _ _ _ _ ?_ ?_ ?_;(exact bA (ac av (ac av (ac av ah))));(exact(a7 cF (aq f_w_cell_at (hr.mono (by decide)) (ac (af 0) (gl ah))) ar));(intro _ _;rfl)
   refine am ?_ ?_
   ·exact aC (i:=12) nd (kY Bt T.n_tuple Bo (ac (eR rfl (nT:=1) (cap:=[]) (N':=["_law_deed"]) (dH (by decide +kernel) rfl (by decide +kernel) rfl) (.nil rfl) (cZ (af 11)) (λ_ _ _ _=>(aL (i:=0) (show List.Nodup (α:=Str) ["_law_deed"] by decide +kernel) rfl (Or.inl rfl))) (cB (by decide)) (λ_ _ _ _=>qW) (λ_ _ _ _=>(aN (gl (ac (af 0) ah))))) ah))
   refine am ?_ ?_
   ·exact aC (i:=13) nd (aq f_w_due (hr.mono (by decide)) (ac (af 3) (ac (af 5) (ac (af 11) (ac (af 2) ah)))))
   refine am ?_ ?_
   ·exact ce (qY (pF (ba (zv hu) (aq f_claims (hr.mono (by decide)) (ac (af 12) (gl ah))) (af 13)) (ni (ba (zv hu) (aq f_claims (hr.mono (by decide)) (ac (af 12) (gl ah))) (bA ah))))) (ay (aQ jJ)) bO
   refine am ?_ ?_
   ·exact ce (ba (zv hu) (aq f_holder (hr.mono (by decide)) (ac (af 12) (gl (ac av (ac (a7 wG (a7 cI (aE (aE (af 3) ar) ar) (af 2)) ar) ah))))) (aN (ac av ah))) (ay (aQ jJ)) bO
   refine am ?_ ?_
   ·exact wR [13] (kX PassesOwn.never rfl (cZ (af 13)) (uZ rfl (bq (aL (i:=14) nd rfl (Or.inl rfl)) (bq (aL (i:=9) nd rfl (Or.inl rfl)) (bq (aL (i:=8) nd rfl (Or.inl rfl)) (bq (aL (i:=15) nd rfl (Or.inl rfl)) (bq (aL (i:=16) nd rfl (Or.inl rfl)) fN)))))) C7 (ay (wR [8,15] (kX PassesOwn.never rfl (cZ (bA (ac (af 8) (ac (a7 wG (aE (bA (gl (ac (af 15) ah))) (kY Fp T.n_int Fg (ac (eG jL (af 15) cX) ah))) ar) ah)))) (aL (i:=17) nd rfl (Or.inl rfl)) d3 (ay (ce (ba (zv hu) (aq f_holder (hr.mono (by decide)) (ac (af 12) (gl (ac (af 14) (ac (af 17) ah))))) (aN (ac av (ac (af 9) (ac (af 16) ah))))) (ay (aQ jJ)) bO))))))
   exact ay (aQ jJ))
end
theorem head {P:Program}{w:World}{K:PySem.W.Frag}{h:Heap}{mg:Str->Option Value}{fa:Addr}(X:K.In h) (G:h.Ns mainGlobals mg) (hfa:mg "law" = some (.ref fa))
  (d_word_of:Def K "word_of" lJ) (d_part_of:Def K "part_of" lK) (d_day_of:Def K "day_of" oH) (d_heard:Def K "heard" se) (d_rank:Def K "rank" wy) (d_in_order:Def K "in_order" j5) (d_by_office:Def K "by_office" iF) (d_roots:Def K "roots" sg) (d_is_known:Def K "is_known" j6) (d_tells:Def K "tells" si) (d_told_of:Def K "told_of" lL) (d_lives:Def K "lives" sj) (d_has_seal:Def K "has_seal" j7) (d_is_sound:Def K "is_sound" j8) (d_lies_in:Def K "lies_in" lM) (d_is_alive:Def K "is_alive" j9) (d_by_since:Def K "by_since" jA) (d_chief_of:Def K "chief_of" jB) (d_holder_by:Def K "holder_by" iG) (d_is_held_by:Def K "is_held_by" gS) (d_is_first_death:Def K "is_first_death" dS) (d_counts:Def K "counts" oM) (d_new_claim:Def K "new_claim" iH) (d_ended:Def K "ended" sr) (d_after_choice:Def K "after_choice" fK) (d_inherited:Def K "inherited" iI) (d_after_death:Def K "after_death" gm) (d_claims:Def K "claims" oP) (d_holder:Def K "holder" oQ) (d_w_cell_at:Def K "_law_cell_at" iK) (d_w_names:Def K "_law_names" lN) (d_w_line:Def K "_law_line" oS) (d_w_nothing:Def K "_law_nothing" iL) (d_w_end:Def K "_law_end" sx) (d_w_lost:Def K "_law_lost" oU) (d_w_laid:Def K "_law_laid" oV) (d_w_due:Def K "_law_due" sy) (d_law:Def K "law" uY)
  (z_dict:PySem.W.nsIn K mainGlobals "dict" = some none) (z_enumerate:PySem.W.nsIn K mainGlobals "enumerate" = some none) (z_int:PySem.W.nsIn K mainGlobals "int" = some none) (z_len:PySem.W.nsIn K mainGlobals "len" = some none) (z_max:PySem.W.nsIn K mainGlobals "max" = some none) (z_min:PySem.W.nsIn K mainGlobals "min" = some none) (z_range:PySem.W.nsIn K mainGlobals "range" = some none) (z_set:PySem.W.nsIn K mainGlobals "set" = some none) (z_sorted:PySem.W.nsIn K mainGlobals "sorted" = some none) (z_tuple:PySem.W.nsIn K mainGlobals "tuple" = some none)
  (k_PARTS:∃d,PySem.W.nsIn K mainGlobals "PARTS" = some (some (.ref d))/\pJ K w.params d fT) (k_SEALINGS:∃u v,PySem.W.nsIn K mainGlobals "SEALINGS" = some (some u)/\aY v u/\∀B,Is K B v dL)
  (l_in_order:rE K "in_order") (l_has_seal:rE K "has_seal") (l_is_first_death:rE K "is_first_death") :
  ∃fd:FuncData,(∀(s:Shared) (u:Value),BindsTo s fd ⟨[u],[]⟩ [("_law_script",u)])/\∀base:Heap,K.In base->base.Ns mainGlobals mg->FnOk P w K mg base CX0 13 fa fd ["_law_script"] (spD K F_law):=by
 have T:Tx K w.params mg:=⟨PySem.W.mg_none_of X G z_dict,PySem.W.mg_none_of X G z_enumerate,PySem.W.mg_none_of X G z_int,PySem.W.mg_none_of X G z_len,PySem.W.mg_none_of X G z_max,PySem.W.mg_none_of X G z_min,PySem.W.mg_none_of X G z_range,PySem.W.mg_none_of X G z_set,PySem.W.mg_none_of X G z_sorted,PySem.W.mg_none_of X G z_tuple,(let ⟨d,e,r⟩:=k_PARTS;⟨d,PySem.W.mg_of X G e,r⟩),(let ⟨u,v,e,r⟩:=k_SEALINGS;⟨u,v,PySem.W.mg_of X G e,r⟩)⟩
 refine Def.law d_law X G hfa AB (λ_ _ _ _ _ _ u=>rfl) λbase kb nb=>?_
 have f_word_of:=ww (P:=P) (w:=w) (base:=base) T d_word_of X G 
 have f_part_of:=wx (P:=P) (w:=w) (base:=base) T d_part_of X G f_word_of
 have f_day_of:=yE (P:=P) (w:=w) (base:=base) T d_day_of X G f_word_of f_part_of
 have f_heard:=A4 (P:=P) (w:=w) (base:=base) T d_heard X G 
 have f_rank:=BX (P:=P) (w:=w) (base:=base) T d_rank X G f_day_of
 have f_in_order:=uL (P:=P) (w:=w) (base:=base) T d_in_order X G f_day_of f_heard f_rank l_in_order
 have f_by_office:=sf (P:=P) (w:=w) (base:=base) T d_by_office X G 
 have f_roots:=A5 (P:=P) (w:=w) (base:=base) T d_roots X G f_word_of f_part_of f_heard
 have f_is_known:=uN (P:=P) (w:=w) (base:=base) T d_is_known X G 
 have f_tells:=A6 (P:=P) (w:=w) (base:=base) T d_tells X G f_word_of f_part_of f_day_of
 have f_told_of:=wz (P:=P) (w:=w) (base:=base) T d_told_of X G f_heard f_tells
 have f_lives:=A7 (P:=P) (w:=w) (base:=base) T d_lives X G f_told_of
 have f_has_seal:=uQ (P:=P) (w:=w) (base:=base) T d_has_seal X G f_word_of f_rank f_told_of l_has_seal
 have f_is_sound:=uR (P:=P) (w:=w) (base:=base) T d_is_sound X G f_word_of f_part_of f_day_of f_is_known f_lives f_has_seal
 have f_lies_in:=w4 (P:=P) (w:=w) (base:=base) T d_lies_in X G 
 have f_is_alive:=uS (P:=P) (w:=w) (base:=base) T d_is_alive X G f_lies_in
 have f_by_since:=uT (P:=P) (w:=w) (base:=base) T d_by_since X G 
 have f_chief_of:=uU (P:=P) (w:=w) (base:=base) T d_chief_of X G f_by_since
 have f_holder_by:=sk (P:=P) (w:=w) (base:=base) T d_holder_by X G f_part_of f_is_alive f_by_since f_chief_of
 have f_is_held_by:=pv (P:=P) (w:=w) (base:=base) T d_is_held_by X G f_holder_by
 have f_is_first_death:=kH (P:=P) (w:=w) (base:=base) T d_is_first_death X G f_part_of f_day_of f_rank f_told_of l_is_first_death
 have f_counts:=yF (P:=P) (w:=w) (base:=base) T d_counts X G f_word_of f_part_of f_day_of f_roots f_is_sound f_is_held_by f_is_first_death
 have f_new_claim:=sn (P:=P) (w:=w) (base:=base) T d_new_claim X G f_part_of
 have f_ended:=A8 (P:=P) (w:=w) (base:=base) T d_ended X G f_is_alive
 have f_after_choice:=mI (P:=P) (w:=w) (base:=base) T d_after_choice X G f_part_of f_new_claim f_ended
 have f_inherited:=su (P:=P) (w:=w) (base:=base) T d_inherited X G f_part_of f_day_of f_lives f_is_alive
 have f_after_death:=oN (P:=P) (w:=w) (base:=base) T d_after_death X G f_part_of f_day_of f_ended f_inherited
 have f_claims:=yG (P:=P) (w:=w) (base:=base) T d_claims X G f_word_of f_part_of f_day_of f_in_order f_by_office f_counts f_new_claim f_after_choice f_after_death
 have f_holder:=yH (P:=P) (w:=w) (base:=base) T d_holder X G f_roots f_holder_by f_claims
 have f_w_cell_at:=sv (P:=P) (w:=w) (base:=base) T d_w_cell_at X G 
 have f_w_names:=w6 (P:=P) (w:=w) (base:=base) T d_w_names X G 
 have f_w_line:=yI (P:=P) (w:=w) (base:=base) T d_w_line X G f_w_cell_at
 have f_w_nothing:=sw (P:=P) (w:=w) (base:=base) T d_w_nothing X G f_w_cell_at
 have f_w_end:=A9 (P:=P) (w:=w) (base:=base) T d_w_end X G f_w_cell_at
 have f_w_lost:=yJ (P:=P) (w:=w) (base:=base) T d_w_lost X G f_w_cell_at
 have f_w_laid:=yK (P:=P) (w:=w) (base:=base) T d_w_laid X G f_w_cell_at
 have f_w_due:=AA (P:=P) (w:=w) (base:=base) T d_w_due X G 
 exact Eb T f_claims f_holder f_w_cell_at f_w_names f_w_line f_w_nothing f_w_end f_w_lost f_w_laid f_w_due
end Lw
namespace PySem.W.Fast
def tw736624464709296011:=()
def tw1965282939544100147:=()
def tw3243612421421357638:=()
def tw7274643486631326161:=()
def tw14324262005426891479:=()
def tw11778442070060374790:=()
def tw14453331036942747571:=()
def tw8177411813034875310:=()
def tw13001208084857761642:=()
def tw16836403199877322924:=()
def tw13520624324826328151:=()
def tw8753686287667718061:=()
def tw8191461847901677261:=()
def tw9176547999349598370:=()
def tw5828862534199971242:=()
def tw8692592172357394667:=()
def tw17084852615275376128:=()
def tw7447479676841941632:=()
def tw9206828605776998562:=()
def tw2784135346396318480:=()
def tw8829795720191272981:=()
def tw9167843160416072781:=()
def tw1442100888001478581:=()
def tw447368729431979529:=()
def tw15258194170951857056:=()
def tw16280746458317569910:=()
def tw14634534116691393494:=()
def tw11950893608581868898:=()
def tw17995950407123688024:=()
def tw11639629162223455503:=()
def tw17946887777764729642:=()
def tw8321736594779247842:=()
def tw6445483385658721628:=()
def tw4900889414081230798:=()
def tw379058788165451647:=()
def tw2701780063561290531:=()
def tw17583965855452545341:=()
def tw1326199018776920228:=()
def tw7507006470473299375:=()
def tw10845650899866639942:=()
def tw4984723684292682541:=()
def tw1195604599417289374:=()
def tw2576544188949354991:=()
def tw7529899588173873918:=()
def tw12654620398517115219:=()
def tw18410643883583109357:=()
def tw78005216338670356:=()
def tw1162820145789044318:=()
def tw9999063941525427438:=()
def tw9061750265293046774:=()
def tw7120274880423811042:=()
def tw2311506251098136397:=()
def tw12826849733201278428:=()
def tw11422359668864439237:=()
def tw14673945261746855387:=()
def tw9417064403891705366:=()
def tw16274271706691499406:=()
def tw17310024403403861308:=()
def tw15200260335884328473:=()
def tw9154757032087733863:=()
def tw2401099473447570747:=()
def tw14705900253625337524:=()
def tw14103739815955216386:=()
def tw18365035149127281967:=()
def tw17981013487237588822:=()
def tw670136218712644098:=()
def tw7520479158136836579:=()
def tw9310817384476208151:=()
def tw2540613821733307953:=()
def tw14580544613073820705:=()
def tw1225854907710483072:=()
def tw18402189001505258147:=()
def tw4673395156428858891:=()
def tw11646841723096295672:=()
def tw11068362506644755807:=()
def tw1362981427655985487:=()
def tw8326038214665835153:=()
def tw9365250858325939736:=()
def tw16686076980230624520:=()
def tw11228529631169350568:=()
end PySem.W.Fast
open PySem PySem.W PyProof.Rows
set_option maxRecDepth 100000 in
set_option maxHeartbeats 0 in
theorem PySem.Challenge.cw_sealchain_k19_whole_chosen_one_behind_an_holds : PySem.Challenge.rw_sealchain_k19_whole_chosen_one_behind_an.Holds := by
 w_on; o_law; k_head; (case hw => w_witness2)
 k_fill
 refine' DL.walkD (l := PySem.Challenge.rw_sealchain_k19_whole_chosen_one_behind_an) (k := 13) (x := ("_law_script" : PySem.Str)) (f := Lw.F_law) (L := [(("in_order" : PySem.Str), ?t0), (("has_seal" : PySem.Str), ?t1), (("is_first_death" : PySem.Str), ?t2), (("bases_by" : PySem.Str), ?t3)]) rfl rfl ⟨rfl, by decide, by decide⟩ (fun w h Y => PySem.W.km_in_of Y) ?T ?D ?F Lw.law_true
 case T =>
  intro w
  refine' DL.tabs_fit ?h0 ?h1 ?h2 ?h3 ?ap ?nt
  (case h0 => refine' DL.tab_yes ?a ?l ?c ?m ?v; (case a => k_is); (case l => k_is); (case c => exact rfl); (case m => k_is); (case v => exact rfl))
  (case h1 => refine' DL.tab_yes ?a ?l ?c ?m ?v; (case a => k_is); (case l => k_is); (case c => exact rfl); (case m => k_is); (case v => exact rfl))
  (case h2 => refine' DL.tab_yes ?a ?l ?c ?m ?v; (case a => k_is); (case l => k_is); (case c => exact rfl); (case m => k_is); (case v => exact rfl))
  (case h3 => refine' DL.tab_no ?a; (case a => k_is))
  (case ap => decide)
  (case nt => kernel_rfl)
 case D => kernel_rfl
 case F =>
  intro w mg fa h KX G hmg
  refine' Lw.head KX G hmg ?d0 ?d1 ?d2 ?d3 ?d4 ?d5 ?d6 ?d7 ?d8 ?d9 ?d10 ?d11 ?d12 ?d13 ?d14 ?d15 ?d16 ?d17 ?d18 ?d19 ?d20 ?d21 ?d22 ?d23 ?d24 ?d25 ?d26 ?d27 ?d28 ?d29 ?d30 ?d31 ?d32 ?d33 ?d34 ?d35 ?d36 ?d37 ?z0 ?z1 ?z2 ?z3 ?z4 ?z5 ?z6 ?z7 ?z8 ?z9 ?k0 ?k1 ?q0 ?q1 ?q2
  iterate 38 (refine' DL.def_mk ?a ?l ?c ?k; (case a => k_is); (case l => k_is); (case c => k_is); (case k => k_is))
  (case z0 => k_is)
  (case z1 => k_is)
  (case z2 => k_is)
  (case z3 => k_is)
  (case z4 => k_is)
  (case z5 => k_is)
  (case z6 => k_is)
  (case z7 => k_is)
  (case z8 => k_is)
  (case z9 => k_is)
  (case k0 => refine' DL.const_dict ?e ?l ?r ?s; (case e => k_is); (case l => k_is); (case r => refine' (DL.CRows.tup rfl ?l0 ?f0 (DL.CRows.tup rfl ?l1 ?f1 (DL.CRows.tup rfl ?l2 ?f2 (DL.CRows.tup rfl ?l3 ?f3 (DL.CRows.tup rfl ?l4 ?f4 (DL.CRows.tup rfl ?l5 ?f5 (DL.CRows.tup rfl ?l6 ?f6 (DL.CRows.tup rfl ?l7 ?f7 (DL.CRows.tup rfl ?l8 ?f8 (DL.CRows.tup rfl ?l9 ?f9 (DL.CRows.tup rfl ?l10 ?f10 (DL.CRows.tup rfl ?l11 ?f11 DL.CRows.nil)))))))))))); (case l0 => k_is); (case f0 => decide +kernel); (case l1 => k_is); (case f1 => decide +kernel); (case l2 => k_is); (case f2 => decide +kernel); (case l3 => k_is); (case f3 => decide +kernel); (case l4 => k_is); (case f4 => decide +kernel); (case l5 => k_is); (case f5 => decide +kernel); (case l6 => k_is); (case f6 => decide +kernel); (case l7 => k_is); (case f7 => decide +kernel); (case l8 => k_is); (case f8 => decide +kernel); (case l9 => k_is); (case f9 => decide +kernel); (case l10 => k_is); (case f10 => decide +kernel); (case l11 => k_is); (case f11 => decide +kernel)); (case s => decide +kernel))
  (case k1 => refine' DL.const_tup ?e ?l ?v; (case e => k_is); (case l => k_is); (case v => decide +kernel))
  (case q0 => refine' DL.lam_mk ?a ?l ?c ?m ?v1 ?v2 ?v3 ?v4 ?v5 ?v6 ?v7; (case a => k_is); (case l => k_is); (case c => exact rfl); (case m => k_is); (case v1 => exact rfl); (case v2 => exact rfl); (case v3 => exact rfl); (case v4 => exact rfl); (case v5 => exact rfl); (case v6 => exact rfl); (case v7 => decide))
  (case q1 => refine' DL.lam_mk ?a ?l ?c ?m ?v1 ?v2 ?v3 ?v4 ?v5 ?v6 ?v7; (case a => k_is); (case l => k_is); (case c => exact rfl); (case m => k_is); (case v1 => exact rfl); (case v2 => exact rfl); (case v3 => exact rfl); (case v4 => exact rfl); (case v5 => exact rfl); (case v6 => exact rfl); (case v7 => decide))
  (case q2 => refine' DL.lam_mk ?a ?l ?c ?m ?v1 ?v2 ?v3 ?v4 ?v5 ?v6 ?v7; (case a => k_is); (case l => k_is); (case c => exact rfl); (case m => k_is); (case v1 => exact rfl); (case v2 => exact rfl); (case v3 => exact rfl); (case v4 => exact rfl); (case v5 => exact rfl); (case v6 => exact rfl); (case v7 => decide))

